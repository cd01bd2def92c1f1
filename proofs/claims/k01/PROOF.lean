import PyProof.Rows.All
import Wide.All
import OpenK.AllK
import Wide.FinOn
import HandS.ForMost
import HandS.ForExc
import HandS.ExcInit
import HandS.ExcField
import HandS.ExcIs
import HandS.IsInst
import HandS.Gcd
import HandS.Deep
import HandS.Flow
import HandS.Wide
import HandS.TupAny
import HandS.TupMul
import HandS.Defaults
import HandS.ExcCtx
import HandS.HotCalls
import HandS.CallSlots
import HandS.Star
import HandS.Style
import KE.KTupSum
import KE.KMathGC
import HandS.HeadHook1
import HandS.HeadHook2
import HandS.Words
import KE.KStateDown
import Lean
import HandS.Head0
import HandS.Head1
import HandS.Head2
import HandS.HeadEnd
import HandS.HeadWalk
import KE.HD3
import PySem.Challenge.RW_stayorgo_k01_whole_quotients_and_loads
set_option Elab.async false
set_option Elab.async false
set_option linter.all false
set_option maxRecDepth 100000
set_option maxHeartbeats 4000000
namespace PD
open PySem PySem.Spec PyProof.Rows L2

/-! ### plain values -/
inductive D where
  | non | bl (b : Bool) | int (i : Int) | str (s : Str)
  | tup (xs : List D) | lst (xs : List D) | ref (n : Nat) | scr (ns : List Int)
  | err (c : Str) (ns : List Str) (xs : List D)
  | cau (a d : Nat) (c : Str) (ns : List Str) (xs : List D)

abbrev Store := List (List D)
abbrev EnvD := List (Option D)

/-- a tuple, a list that no list of mu is: tracked, or of the written part -/
def SqTm (K : PySem.W.Frag) (H : Hp) (mu : List Addr) (a : Addr) (xs : List V) : Prop :=
  (Rd H a (.tup xs) ∧ a ∉ mu) ∨
    ∃ (o : Obj) (its : Array Value) (n : Nat), K.lookup a = some o ∧ o.cls = .type "tuple" ∧ o.data = .seq its n ∧ its.size ≤ sizeLine ∧ Vals xs its.toList
def SqLm (K : PySem.W.Frag) (H : Hp) (mu : List Addr) (a : Addr) (xs : List V) : Prop :=
  (Rd H a (.lst xs) ∧ a ∉ mu) ∨
    ∃ (o : Obj) (its : Array Value) (n : Nat), K.lookup a = some o ∧ o.cls = .type "list" ∧ o.dict = none ∧ o.data = .seq its n ∧ its.size ≤ sizeLine ∧ Vals xs its.toList
theorem SqTm.sq {K : PySem.W.Frag} {H : Hp} {mu : List Addr} {a : Addr} {xs : List V} (h : SqTm K H mu a xs) : SqT K H a xs := h.elim (fun z => .inl z.1) .inr
theorem SqLm.sq {K : PySem.W.Frag} {H : Hp} {mu : List Addr} {a : Addr} {xs : List V} (h : SqLm K H mu a xs) : SqL K H a xs := h.elim (fun z => .inl z.1) .inr
section
variable (K : PySem.W.Frag) (mg : Str → Option Value)
mutual
/-- the value v stands for d; the addresses of mu are those of lists that may still change -/
inductive Rep (H : Hp) (mu : List Addr) : V → D → Prop
  | non : Rep H mu .non .non
  | bl (b : Bool) : Rep H mu (.bl b) (.bl b)
  | int (i : Int) : Rep H mu (.int i) (.int i)
  | str (s : Str) : Rep H mu (.str s) (.str s)
  | tup {a : Addr} {vs : List V} {ds : List D} (h : SqTm K H mu a vs) (r : Reps H mu vs ds) : Rep H mu (.ref a) (.tup ds)
  | lst {a : Addr} {vs : List V} {ds : List D} (h : H a = some (.lst vs)) (n : a ∉ mu) (r : Reps H mu vs ds) : Rep H mu (.ref a) (.lst ds)
  | ref {a : Addr} {n : Nat} (h : mu[n]? = some a) : Rep H mu (.ref a) (.ref n)
  | scr {a : Addr} {ns : List Int} (h : SqLm K H mu a (ns.map V.int)) : Rep H mu (.ref a) (.scr ns)
  | err {e C d : Addr} {c : Str} {ns : List Str} {vs : List V} {xs : List D} (hm : mg c = some (.ref C)) (he : H e = some (exo e C (some d))) (hd : H d = some (exd d (ns.zip vs))) (n1 : e ∉ mu) (n2 : d ∉ mu)
      (l : ns.length = vs.length) (r : Reps H mu vs xs) : Rep H mu (.ref e) (.err c ns xs)
  | cau {e C d : Addr} {c : Str} {ns : List Str} {vs : List V} {xs : List D} (hm : mg c = some (.ref C)) (hd : H d = some (.xd (ns.zip vs))) (n2 : d ∉ mu) (l : ns.length = vs.length) (r : Reps H mu vs xs) : Rep H mu (.ref e) (.cau e d c ns xs)
inductive Reps (H : Hp) (mu : List Addr) : List V → List D → Prop
  | nil : Reps H mu [] []
  | cons {v : V} {vs : List V} {d : D} {ds : List D} (h : Rep H mu v d) (t : Reps H mu vs ds) : Reps H mu (v :: vs) (d :: ds)
end
end

/-- from H with mu to H' with mu': what was tracked and may not change stands -/
structure Ext (H : Hp) (mu : List Addr) (H' : Hp) (mu' : List Addr) : Prop where
  pre : mu <+: mu'
  keep : ∀ a o, H a = some o → a ∉ mu → H' a = some o
  new : ∀ a, a ∈ mu' → a ∉ mu → H a = none
theorem Ext.refl (H : Hp) (mu : List Addr) : Ext H mu H mu := ⟨List.prefix_refl _, fun _ _ h _ => h, fun _ h n => absurd h n⟩
theorem Ext.notin {H H' : Hp} {mu mu' : List Addr} (e : Ext H mu H' mu') {a : Addr} {o : HO} (h : H a = some o) (n : a ∉ mu) : a ∉ mu' := fun m => by
  rw [e.new a m n] at h; cases h
theorem Ext.trans {H H1 H2 : Hp} {mu m1 m2 : List Addr} (a : Ext H mu H1 m1) (b : Ext H1 m1 H2 m2) : Ext H mu H2 m2 where
  pre := a.pre.trans b.pre
  keep := fun c o h n => b.keep c o (a.keep c o h n) (a.notin h n)
  new := fun c h n => by
    by_cases q : c ∈ m1
    · exact a.new c q n
    · have z := b.new c h q
      cases e : H c with
      | none => rfl
      | some o => rw [a.keep c o e n] at z; cases z
section
variable {K : PySem.W.Frag} {mg : Str → Option Value} {H H' : Hp} {mu mu' : List Addr}
theorem Ext.rd (e : Ext H mu H' mu') {a : Addr} {u : HO} (h : Rd H a u ∧ a ∉ mu) : Rd H' a u ∧ a ∉ mu' := by
  obtain ⟨h | ⟨o, h⟩, n⟩ := h
  · exact ⟨.inl (e.keep _ _ h n), e.notin h n⟩
  · exact ⟨.inr ⟨o, e.keep _ _ h n⟩, e.notin h n⟩
theorem Ext.sqT (e : Ext H mu H' mu') {a : Addr} {vs : List V} (h : SqTm K H mu a vs) : SqTm K H' mu' a vs := h.elim (fun z => .inl (e.rd z)) .inr
theorem Ext.sqL (e : Ext H mu H' mu') {a : Addr} {vs : List V} (h : SqLm K H mu a vs) : SqLm K H' mu' a vs := h.elim (fun z => .inl (e.rd z)) .inr
theorem prefix_get {α : Type} {l l' : List α} (p : l <+: l') {n : Nat} {a : α} (h : l[n]? = some a) : l'[n]? = some a := by
  obtain ⟨t, rfl⟩ := p
  have hn : n < l.length := (List.getElem?_eq_some_iff.mp h).1
  rw [List.getElem?_append_left hn]
  exact h

mutual
theorem Rep.mono (e : Ext H mu H' mu') : ∀ {v : V} {d : D}, Rep K mg H mu v d → Rep K mg H' mu' v d
  | _, _, .non => .non
  | _, _, .bl b => .bl b
  | _, _, .int i => .int i
  | _, _, .str s => .str s
  | _, _, .tup h r => .tup (e.sqT h) (Reps.mono e r)
  | _, _, .lst h n r => .lst (e.keep _ _ h n) (e.notin h n) (Reps.mono e r)
  | _, _, .ref h => .ref (prefix_get e.pre h)
  | _, _, .scr h => .scr (e.sqL h)
  | _, _, .err hm he hd n1 n2 l r => .err hm (e.keep _ _ he n1) (e.keep _ _ hd n2) (e.notin he n1) (e.notin hd n2) l (Reps.mono e r)
  | _, _, .cau hm hd n2 l r => .cau hm (e.keep _ _ hd n2) (e.notin hd n2) l (Reps.mono e r)
theorem Reps.mono (e : Ext H mu H' mu') : ∀ {vs : List V} {ds : List D}, Reps K mg H mu vs ds → Reps K mg H' mu' vs ds
  | _, _, .nil => .nil
  | _, _, .cons h t => .cons (Rep.mono e h) (Reps.mono e t)
end
theorem Reps.length : ∀ {vs : List V} {ds : List D}, Reps K mg H mu vs ds → vs.length = ds.length
  | _, _, .nil => rfl
  | _, _, .cons _ t => congrArg Nat.succ (Reps.length t)
theorem Reps.get : ∀ {vs : List V} {ds : List D} {i : Nat} {d : D}, Reps K mg H mu vs ds → ds[i]? = some d → ∃ v, vs[i]? = some v ∧ Rep K mg H mu v d
  | _, _, _, _, .nil, e => by simp at e
  | _, _, 0, _, .cons h _, e => by simp at e; subst e; exact ⟨_, rfl, h⟩
  | _, _, i + 1, d, .cons _ t, e => by
    obtain ⟨v, h1, h2⟩ := Reps.get (i := i) (d := d) t (by simpa using e)
    exact ⟨v, by simpa using h1, h2⟩
theorem Reps.get' : ∀ {vs : List V} {ds : List D} {i : Nat} {v : V}, Reps K mg H mu vs ds → vs[i]? = some v → ∃ d, ds[i]? = some d ∧ Rep K mg H mu v d
  | _, _, _, _, .nil, e => by simp at e
  | _, _, 0, _, .cons h _, e => by simp at e; subst e; exact ⟨_, rfl, h⟩
  | _, _, i + 1, v, .cons _ t, e => by
    obtain ⟨d, h1, h2⟩ := Reps.get' (i := i) (v := v) t (by simpa using e)
    exact ⟨d, by simpa using h1, h2⟩
theorem Reps.append : ∀ {vs ws : List V} {ds es : List D}, Reps K mg H mu vs ds → Reps K mg H mu ws es → Reps K mg H mu (vs ++ ws) (ds ++ es)
  | _, _, _, _, .nil, s => s
  | _, _, _, _, .cons r t, s => .cons r (Reps.append t s)
theorem Reps.take : ∀ {vs : List V} {ds : List D} (n : Nat), Reps K mg H mu vs ds → Reps K mg H mu (vs.take n) (ds.take n)
  | _, _, 0, _ => .nil
  | _, _, _ + 1, .nil => .nil
  | _, _, n + 1, .cons r t => .cons r (Reps.take n t)
theorem Reps.drop : ∀ {vs : List V} {ds : List D} (n : Nat), Reps K mg H mu vs ds → Reps K mg H mu (vs.drop n) (ds.drop n)
  | _, _, 0, r => r
  | _, _, _ + 1, .nil => .nil
  | _, _, n + 1, .cons _ t => Reps.drop n t
theorem Reps.set {v : V} {d : D} (r : Rep K mg H mu v d) : ∀ {vs : List V} {ds : List D} (i : Nat), Reps K mg H mu vs ds → Reps K mg H mu (vs.set i v) (ds.set i d)
  | _, _, _, .nil => .nil
  | _, _, 0, .cons _ t => .cons r t
  | _, _, i + 1, .cons q t => .cons q (Reps.set r i t)
theorem Reps.ints : ∀ (ns : List Int), Reps K mg H mu (ns.map V.int) (ns.map D.int)
  | [] => .nil
  | n :: ns => .cons (.int n) (Reps.ints ns)
theorem Reps.single {v : V} {d : D} (r : Rep K mg H mu v d) : Reps K mg H mu [v] [d] := .cons r .nil
end

section
variable (K : PySem.W.Frag) (mg : Str → Option Value)
/-- the lists that may still change: at mu, in the store's order -/
structure StOk (H : Hp) (mu : List Addr) (S : Store) : Prop where
  nd : mu.Nodup
  len : mu.length = S.length
  at_ : ∀ (n : Nat) (a : Addr) (ds : List D), mu[n]? = some a → S[n]? = some ds → ∃ vs, H a = some (.lst vs) ∧ Reps K mg H mu vs ds
/-- the slots -/
structure EnvOk (H : Hp) (mu : List Addr) (σ : L2.St) (ρ : EnvD) : Prop where
  len : σ.length = ρ.length
  at_ : ∀ (i : Nat) (d : D), ρ[i]? = some (some d) → ∃ v, σ[i]? = some (some v) ∧ Rep K mg H mu v d
end
section
variable {K : PySem.W.Frag} {mg : Str → Option Value} {H H' : Hp} {mu mu' : List Addr} {σ : L2.St} {ρ : EnvD} {S : Store}
theorem EnvOk.mono (e : Ext H mu H' mu') (h : EnvOk K mg H mu σ ρ) : EnvOk K mg H' mu' σ ρ :=
  ⟨h.len, fun i d q => let ⟨v, h1, h2⟩ := h.at_ i d q; ⟨v, h1, h2.mono e⟩⟩
theorem EnvOk.set (h : EnvOk K mg H mu σ ρ) {v : V} {d : D} (r : Rep K mg H mu v d) (i : Nat) : EnvOk K mg H mu (σ.set i (some v)) (ρ.set i (some d)) := by
  refine ⟨by simpa using h.len, fun j e q => ?_⟩
  by_cases hj : i = j
  · subst hj
    by_cases hi : i < ρ.length
    · rw [List.getElem?_set_self hi] at q
      cases q
      exact ⟨v, by rw [List.getElem?_set_self (by rw [h.len]; exact hi)], r⟩
    · rw [List.getElem?_eq_none (by simpa using hi)] at q; cases q
  · rw [List.getElem?_set_ne hj] at q
    obtain ⟨w, h1, h2⟩ := h.at_ j e q
    exact ⟨w, by rw [List.getElem?_set_ne hj]; exact h1, h2⟩
theorem EnvOk.forget (h : EnvOk K mg H mu σ ρ) (i : Nat) (x : Option V) : EnvOk K mg H mu (σ.set i x) (ρ.set i none) := by
  refine ⟨by simpa using h.len, fun j e q => ?_⟩
  by_cases hj : i = j
  · subst hj
    by_cases hi : i < ρ.length
    · rw [List.getElem?_set_self hi] at q; cases q
    · rw [List.getElem?_eq_none (by simpa using hi)] at q; cases q
  · rw [List.getElem?_set_ne hj] at q
    obtain ⟨w, h1, h2⟩ := h.at_ j e q
    exact ⟨w, by rw [List.getElem?_set_ne hj]; exact h1, h2⟩
/-- a new object that is no changing list -/
theorem Ext.fresh {p : Addr} {o : HO} (hp : H p = none) (hm : p ∉ mu) : Ext H mu (L2.upd H p o) mu :=
  ⟨List.prefix_refl _, fun a u h _ => by rw [upd_ne (ne_of_none h hp)]; exact h, fun _ h n => absurd h n⟩
theorem StOk.free (s : StOk K mg H mu S) {p : Addr} (hp : H p = none) : p ∉ mu := fun m => by
  obtain ⟨n, hn⟩ := List.getElem?_of_mem m
  have hl : n < S.length := by rw [← s.len]; exact (List.getElem?_eq_some_iff.mp hn).1
  obtain ⟨vs, h, _⟩ := s.at_ n p _ hn (List.getElem?_eq_getElem hl)
  rw [hp] at h; cases h
theorem StOk.fresh (s : StOk K mg H mu S) {p : Addr} {o : HO} (hp : H p = none) : StOk K mg (L2.upd H p o) mu S :=
  ⟨s.nd, s.len, fun n a ds h1 h2 => by
    obtain ⟨vs, h, r⟩ := s.at_ n a ds h1 h2
    exact ⟨vs, by rw [upd_ne (ne_of_none h hp)]; exact h, r.mono (Ext.fresh hp (s.free hp))⟩⟩
/-- a new list that may change -/
theorem Ext.grow (s : StOk K mg H mu S) {p : Addr} {o : HO} (hp : H p = none) : Ext H mu (upd H p o) (mu ++ [p]) :=
  ⟨List.prefix_append _ _, fun a u h _ => by rw [upd_ne (ne_of_none h hp)]; exact h, fun a h n => by
    rcases List.mem_append.mp h with z | z
    · exact absurd z n
    · rw [List.mem_singleton.mp z]; exact hp⟩
theorem StOk.grow (s : StOk K mg H mu S) {p : Addr} {vs : List V} {ds : List D} (hp : H p = none) (r : Reps K mg H mu vs ds) : StOk K mg (upd H p (.lst vs)) (mu ++ [p]) (S ++ [ds]) := by
  have e := Ext.grow (o := .lst vs) s hp
  refine ⟨?_, by simp [s.len], fun n a es h1 h2 => ?_⟩
  · rw [List.nodup_append]
    exact ⟨s.nd, by simp, fun x hx y hy => by rw [List.mem_singleton.mp hy]; exact fun z => s.free hp (z ▸ hx)⟩
  · by_cases hn : n < mu.length
    · rw [List.getElem?_append_left hn] at h1
      rw [List.getElem?_append_left (by rw [← s.len]; exact hn)] at h2
      obtain ⟨ws, h, q⟩ := s.at_ n a es h1 h2
      exact ⟨ws, e.keep _ _ h |> fun _ => by rw [upd_ne (ne_of_none h hp)]; exact h, q.mono e⟩
    · have hn' : n = mu.length := by
        have := (List.getElem?_eq_some_iff.mp h1).1
        rw [List.length_append] at this
        simp at this
        omega
      subst hn'
      rw [List.getElem?_append_right (Nat.le_refl _)] at h1
      rw [s.len, List.getElem?_append_right (Nat.le_refl _)] at h2
      simp at h1 h2
      subst h1 h2
      exact ⟨vs, upd_same, r.mono e⟩
/-- a changing list is changed -/
theorem Ext.chg {p : Addr} {o : HO} (hp : p ∈ mu) : Ext H mu (L2.upd H p o) mu :=
  ⟨List.prefix_refl _, fun a u h n => by rw [upd_ne (fun z => n (by rw [z]; exact hp))]; exact h, fun _ h n => absurd h n⟩
theorem StOk.chg (s : StOk K mg H mu S) {n : Nat} {p : Addr} {vs : List V} {ds : List D} (hp : mu[n]? = some p) (r : Reps K mg H mu vs ds) : StOk K mg (L2.upd H p (.lst vs)) mu (S.set n ds) := by
  have hm := List.mem_of_getElem? hp
  have e := Ext.chg (H := H) (o := .lst vs) hm
  refine ⟨s.nd, by simp [s.len], fun k a es h1 h2 => ?_⟩
  by_cases hk : n = k
  · subst hk
    rw [hp] at h1
    cases h1
    have hl : n < S.length := by rw [← s.len]; exact (List.getElem?_eq_some_iff.mp hp).1
    rw [List.getElem?_set_self hl] at h2
    cases h2
    exact ⟨vs, upd_same, r.mono e⟩
  · rw [List.getElem?_set_ne hk] at h2
    obtain ⟨ws, h, q⟩ := s.at_ k a es h1 h2
    have hne : a ≠ p := fun z => hk (by
      subst z
      exact ((List.getElem?_inj (List.getElem?_eq_some_iff.mp hp).1 s.nd).mp (hp.trans h1.symm)))
    exact ⟨ws, by rw [upd_ne hne]; exact h, q.mono e⟩
end
end PD
set_option Elab.async false
set_option linter.all false
set_option maxRecDepth 100000
set_option maxHeartbeats 4000000
namespace PD
open PySem PySem.Spec PyProof.Rows L2

/-! ### what an expression gives -/
inductive Res where
  | ok (d : D) (S : Store)
  | exc (c : Str) (ns : List Str) (xs : List D) (S : Store)
abbrev Den := EnvD → Store → Option Res
/-- lists of values -/
inductive Ress where
  | ok (ds : List D) (S : Store)
  | exc (c : Str) (ns : List Str) (xs : List D) (S : Store)
abbrev Dens := EnvD → Store → Option Ress
def bnd (o : Option Res) (k : D → Store → Option Res) : Option Res := match o with
  | some (.ok d S) => k d S
  | some (.exc c ns xs S) => some (.exc c ns xs S)
  | none => none
@[simp] theorem bnd_ok (d : D) (S : Store) (k : D → Store → Option Res) : bnd (some (.ok d S)) k = k d S := rfl
@[simp] theorem bnd_exc (c : Str) (ns : List Str) (xs : List D) (S : Store) (k : D → Store → Option Res) : bnd (some (.exc c ns xs S)) k = some (.exc c ns xs S) := rfl
@[simp] theorem bnd_none (k : D → Store → Option Res) : bnd none k = none := rfl
def bnds (o : Option Res) (k : D → Store → Option Ress) : Option Ress := match o with
  | some (.ok d S) => k d S
  | some (.exc c ns xs S) => some (.exc c ns xs S)
  | none => none
@[simp] theorem bnds_ok (d : D) (S : Store) (k : D → Store → Option Ress) : bnds (some (.ok d S)) k = k d S := rfl
@[simp] theorem bnds_exc (c : Str) (ns : List Str) (xs : List D) (S : Store) (k : D → Store → Option Ress) : bnds (some (.exc c ns xs S)) k = some (.exc c ns xs S) := rfl
@[simp] theorem bnds_none (k : D → Store → Option Ress) : bnds none k = none := rfl
def bndl (o : Option Ress) (k : List D → Store → Option Res) : Option Res := match o with
  | some (.ok d S) => k d S
  | some (.exc c ns xs S) => some (.exc c ns xs S)
  | none => none
@[simp] theorem bndl_ok (d : List D) (S : Store) (k : List D → Store → Option Res) : bndl (some (.ok d S)) k = k d S := rfl
@[simp] theorem bndl_exc (c : Str) (ns : List Str) (xs : List D) (S : Store) (k : List D → Store → Option Res) : bndl (some (.exc c ns xs S)) k = some (.exc c ns xs S) := rfl
@[simp] theorem bndl_none (k : List D → Store → Option Res) : bndl none k = none := rfl
def bndls (o : Option Ress) (k : List D → Store → Option Ress) : Option Ress := match o with
  | some (.ok d S) => k d S
  | some (.exc c ns xs S) => some (.exc c ns xs S)
  | none => none
@[simp] theorem bndls_ok (d : List D) (S : Store) (k : List D → Store → Option Ress) : bndls (some (.ok d S)) k = k d S := rfl
@[simp] theorem bndls_exc (c : Str) (ns : List Str) (xs : List D) (S : Store) (k : List D → Store → Option Ress) : bndls (some (.exc c ns xs S)) k = some (.exc c ns xs S) := rfl
@[simp] theorem bndls_none (k : List D → Store → Option Ress) : bndls none k = none := rfl

section
variable (K : PySem.W.Frag) (mg : Str → Option Value) (W : WX)
/-- behind an exception -/
def PostX (σ : L2.St) (H : Hp) (mu : List Addr) (c : Str) (ns : List Str) (xs : List D) (S' : Store) : Prop :=
  ∀ (C dx : Addr) (vs : List V) (H' : Hp) (mu' : List Addr), Ext H mu H' mu' → StOk K mg H' mu' S' → mg c = some (.ref C) → H' dx = some (.xd (ns.zip vs)) → dx ∉ mu' → ns.length = vs.length → Reps K mg H' mu' vs xs → W (.ref C) (some dx) σ H'
def PostV (H : Hp) (mu : List Addr) (Q : VK) (d : D) (S' : Store) : Prop :=
  ∀ (v : V) (H' : Hp) (mu' : List Addr), Ext H mu H' mu' → StOk K mg H' mu' S' → Rep K mg H' mu' v d → Q v H'
def Post (σ : L2.St) (H : Hp) (mu : List Addr) (Q : VK) : Res → Prop
  | .ok d S' => PostV K mg H mu Q d S'
  | .exc c ns xs S' => PostX K mg W σ H mu c ns xs S'
def Posts (σ : L2.St) (H : Hp) (mu : List Addr) (Q : List V → Hp → Prop) : Ress → Prop
  | .ok ds S' => ∀ (vs : List V) (H' : Hp) (mu' : List Addr), Ext H mu H' mu' → StOk K mg H' mu' S' → Reps K mg H' mu' vs ds → Q vs H'
  | .exc c ns xs S' => PostX K mg W σ H mu c ns xs S'
/-- the reading of a denotation -/
def rd (f : Den) : TE := fun σ H Q => ∃ mu S ρ r, StOk K mg H mu S ∧ EnvOk K mg H mu σ ρ ∧ f ρ S = some r ∧ Post K mg W σ H mu Q r
def rds (f : Dens) : TA := fun σ H Q => ∃ mu S ρ r, StOk K mg H mu S ∧ EnvOk K mg H mu σ ρ ∧ f ρ S = some r ∧ Posts K mg W σ H mu Q r
/-- tests: a denotation's truth -/
def rdt (f : EnvD → Store → Option Res) : TT := fun σ H Q => ∃ mu S ρ r, StOk K mg H mu S ∧ EnvOk K mg H mu σ ρ ∧ f ρ S = some r ∧
  match r with
  | .ok (.bl b) S' => ∀ (H' : Hp) (mu' : List Addr), Ext H mu H' mu' → StOk K mg H' mu' S' → Q b H'
  | .ok _ _ => False
  | .exc c ns xs S' => PostX K mg W σ H mu c ns xs S'
end
section
variable {K : PySem.W.Frag} {mg : Str → Option Value} {W : WX} {H H' : Hp} {mu mu' : List Addr} {σ : L2.St} {ρ : EnvD} {S S' : Store}
theorem PostX.mono (e : Ext H mu H' mu') {c : Str} {ns : List Str} {xs : List D} (p : PostX K mg W σ H mu c ns xs S') : PostX K mg W σ H' mu' c ns xs S' :=
  fun C dx vs H2 m2 e2 => p C dx vs H2 m2 (e.trans e2)
theorem PostV.mono (e : Ext H mu H' mu') {Q : VK} {d : D} (p : PostV K mg H mu Q d S') : PostV K mg H' mu' Q d S' :=
  fun v H2 m2 e2 => p v H2 m2 (e.trans e2)
theorem Post.mono (e : Ext H mu H' mu') {Q : VK} {r : Res} (p : Post K mg W σ H mu Q r) : Post K mg W σ H' mu' Q r := by
  cases r with
  | ok d S => exact PostV.mono (Q := Q) (d := d) (S' := S) e p
  | exc c ns xs S => exact PostX.mono e p
theorem Posts.mono (e : Ext H mu H' mu') {Q : List V → Hp → Prop} {r : Ress} (p : Posts K mg W σ H mu Q r) : Posts K mg W σ H' mu' Q r := by
  cases r with
  | ok d S => exact fun v H2 m2 e2 => p v H2 m2 (e.trans e2)
  | exc c ns xs S => exact PostX.mono e p
/-- one expression, then more -/
theorem rd_bnd {f : Den} {k : D → Store → Option Res} {r : Res} {Q Q' : VK} (s : StOk K mg H mu S) (en : EnvOk K mg H mu σ ρ) (h : bnd (f ρ S) k = some r) (p : Post K mg W σ H mu Q r)
    (hk : ∀ d S1 v H1 m1, Ext H mu H1 m1 → StOk K mg H1 m1 S1 → EnvOk K mg H1 m1 σ ρ → Rep K mg H1 m1 v d → k d S1 = some r → Post K mg W σ H1 m1 Q r → Q' v H1) : rd K mg W f σ H Q' := by
  cases e : f ρ S with
  | none => rw [e] at h; cases h
  | some r1 =>
    rw [e] at h
    cases r1 with
    | ok d S1 => exact ⟨mu, S, ρ, _, s, en, e, fun v H1 m1 x s1 rp => hk d S1 v H1 m1 x s1 (en.mono x) rp h (p.mono x)⟩
    | exc c ns xs S1 =>
      have hr : r = .exc c ns xs S1 := (Option.some.inj h).symm
      subst hr
      exact ⟨mu, S, ρ, _, s, en, e, p⟩
theorem rd_bnds {f : Den} {k : D → Store → Option Ress} {r : Ress} {Q : List V → Hp → Prop} {Q' : VK} (s : StOk K mg H mu S) (en : EnvOk K mg H mu σ ρ) (h : bnds (f ρ S) k = some r) (p : Posts K mg W σ H mu Q r)
    (hk : ∀ d S1 v H1 m1, Ext H mu H1 m1 → StOk K mg H1 m1 S1 → EnvOk K mg H1 m1 σ ρ → Rep K mg H1 m1 v d → k d S1 = some r → Posts K mg W σ H1 m1 Q r → Q' v H1) : rd K mg W f σ H Q' := by
  cases e : f ρ S with
  | none => rw [e] at h; cases h
  | some r1 =>
    rw [e] at h
    cases r1 with
    | ok d S1 => exact ⟨mu, S, ρ, _, s, en, e, fun v H1 m1 x s1 rp => hk d S1 v H1 m1 x s1 (en.mono x) rp h (p.mono x)⟩
    | exc c ns xs S1 =>
      have hr : r = .exc c ns xs S1 := (Option.some.inj h).symm
      subst hr
      exact ⟨mu, S, ρ, _, s, en, e, p⟩
theorem rds_bndl {f : Dens} {k : List D → Store → Option Res} {r : Res} {Q : VK} {Q' : List V → Hp → Prop} (s : StOk K mg H mu S) (en : EnvOk K mg H mu σ ρ) (h : bndl (f ρ S) k = some r) (p : Post K mg W σ H mu Q r)
    (hk : ∀ d S1 v H1 m1, Ext H mu H1 m1 → StOk K mg H1 m1 S1 → EnvOk K mg H1 m1 σ ρ → Reps K mg H1 m1 v d → k d S1 = some r → Post K mg W σ H1 m1 Q r → Q' v H1) : rds K mg W f σ H Q' := by
  cases e : f ρ S with
  | none => rw [e] at h; cases h
  | some r1 =>
    rw [e] at h
    cases r1 with
    | ok d S1 => exact ⟨mu, S, ρ, _, s, en, e, fun v H1 m1 x s1 rp => hk d S1 v H1 m1 x s1 (en.mono x) rp h (p.mono x)⟩
    | exc c ns xs S1 =>
      have hr : r = .exc c ns xs S1 := (Option.some.inj h).symm
      subst hr
      exact ⟨mu, S, ρ, _, s, en, e, p⟩
theorem rds_bndls {f : Dens} {k : List D → Store → Option Ress} {r : Ress} {Q : List V → Hp → Prop} {Q' : List V → Hp → Prop} (s : StOk K mg H mu S) (en : EnvOk K mg H mu σ ρ) (h : bndls (f ρ S) k = some r) (p : Posts K mg W σ H mu Q r)
    (hk : ∀ d S1 v H1 m1, Ext H mu H1 m1 → StOk K mg H1 m1 S1 → EnvOk K mg H1 m1 σ ρ → Reps K mg H1 m1 v d → k d S1 = some r → Posts K mg W σ H1 m1 Q r → Q' v H1) : rds K mg W f σ H Q' := by
  cases e : f ρ S with
  | none => rw [e] at h; cases h
  | some r1 =>
    rw [e] at h
    cases r1 with
    | ok d S1 => exact ⟨mu, S, ρ, _, s, en, e, fun v H1 m1 x s1 rp => hk d S1 v H1 m1 x s1 (en.mono x) rp h (p.mono x)⟩
    | exc c ns xs S1 =>
      have hr : r = .exc c ns xs S1 := (Option.some.inj h).symm
      subst hr
      exact ⟨mu, S, ρ, _, s, en, e, p⟩
end

/-! ### the judgements -/
theorem peI {X : Cx} {e : Expr} {t t' : TE} (h : PE X e t) (i : ∀ σ H Q, t' σ H Q → t σ H Q) : PE X e t' := ⟨fun pins s σ H Q I q => h.run pins s σ H Q I (i σ H Q q)⟩
theorem ptI {X : Cx} {e : Expr} {t t' : TT} (h : PT X e t) (i : ∀ σ H Q, t' σ H Q → t σ H Q) : PT X e t' := ⟨fun pins s σ H Q I q => h.run pins s σ H Q I (i σ H Q q)⟩
theorem paI {X : Cx} {e : List Expr} {t t' : TA} (h : PA X e t) (i : ∀ σ H Q, t' σ H Q → t σ H Q) : PA X e t' := ⟨fun pos pins s σ H Q I q => h.run pos pins s σ H Q I (i σ H Q q)⟩
theorem psI {X : Cx} {e : Stmt} {t t' : TS} (h : PS X e t) (i : ∀ D σ H, t' D σ H → t D σ H) : PS X e t' := ⟨fun pins s σ H D I q => h.run pins s σ H D I (i D σ H q)⟩
theorem pssI {X : Cx} {e : List Stmt} {t t' : TS} (h : PSs X e t) (i : ∀ D σ H, t' D σ H → t D σ H) : PSs X e t' := ⟨fun pins s σ H D I q => h.run pins s σ H D I (i D σ H q)⟩
def DE (X : Cx) (W : WX) (e : Expr) (f : Den) : Prop := PE X e (rd X.K X.mg W f)
def DT (X : Cx) (W : WX) (e : Expr) (f : Den) : Prop := PT X e (rdt X.K X.mg W f)
def DA (X : Cx) (W : WX) (es : List Expr) (f : Dens) : Prop := PA X es (rds X.K X.mg W f)

section
variable {X : Cx} {W : WX} {a b c e : Expr} {fa fb fc : Den} {pos : Pos}

/-! ### names and constants -/
def dVar (i : Nat) : Den := fun ρ S => match ρ[i]? with
  | some (some d) => some (.ok d S)
  | _ => none
def dC (d : D) : Den := fun _ S => some (.ok d S)
theorem de_var (i : Nat) {x : Str} {pos : Pos} (hN : X.N[i]? = some x := by rfl) (hv : Vis X.env.scope x := by first | exact Or.inl rfl | exact Or.inr (Or.inl rfl) | exact Or.inr (Or.inr rfl)) (hd : (x == ("__debug__" : Str)) = false := by decide)
    (hcd : (x == ("__classdict__" : Str)) = false := by decide) : DE X W (.Name x pos) (dVar i) := by
  refine peI (pe_var hN hv hd hcd) fun σ H Q h => ?_
  obtain ⟨mu, S, ρ, r, s, en, hf, p⟩ := h
  unfold dVar at hf
  split at hf
  · rename_i d hd
    cases hf
    obtain ⟨v, h1, h2⟩ := en.at_ i d hd
    exact ⟨v, h1, p v H mu (Ext.refl _ _) s h2⟩
  · cases hf
theorem de_const {v : V} {d : D} (h : PE X e (tC v)) (r : ∀ H mu, Rep X.K X.mg H mu v d) : DE X W e (dC d) := by
  refine peI h fun σ H Q q => ?_
  obtain ⟨mu, S, ρ, res, s, en, hf, p⟩ := q
  cases hf
  exact p v H mu (Ext.refl _ _) s (r H mu)
theorem de_int {i j pos} : DE X W (.Constant (.int i) j pos) (dC (.int i)) := de_const pe_int fun _ _ => .int i
theorem de_bl {i j pos} : DE X W (.Constant (.bool i) j pos) (dC (.bl i)) := de_const pe_bl fun _ _ => .bl i
theorem de_non {j pos} : DE X W (.Constant .none j pos) (dC .non) := de_const pe_non fun _ _ => .non
theorem de_str {x j pos} : DE X W (.Constant (.str x) j pos) (dC (.str x)) := de_const pe_str fun _ _ => .str x

/-! ### operators -/
abbrev Op2 := D → D → Store → Option Res
abbrev Op1 := D → Store → Option Res
def dBin (op : Op2) (fa fb : Den) : Den := fun ρ S => bnd (fa ρ S) fun x S1 => bnd (fb ρ S1) fun y S2 => op x y S2
def dUn (op : Op1) (fa : Den) : Den := fun ρ S => bnd (fa ρ S) fun x S1 => op x S1
/-- the operator r by values does what op does by plain values -/
def OpD (X : Cx) (r : R2) (op : Op2) : Prop := ∀ (H : Hp) (mu : List Addr) (S : Store) (x y : V) (a b : D) (res : Res) (W : WX) (σ : L2.St) (Q : VK), StOk X.K X.mg H mu S → Rep X.K X.mg H mu x a → Rep X.K X.mg H mu y b → op a b S = some res → Post X.K X.mg W σ H mu Q res → r x y H Q
def UnD (X : Cx) (r : V → Hp → VK → Prop) (op : Op1) : Prop := ∀ (H : Hp) (mu : List Addr) (S : Store) (x : V) (a : D) (res : Res) (W : WX) (σ : L2.St) (Q : VK), StOk X.K X.mg H mu S → Rep X.K X.mg H mu x a → op a S = some res → Post X.K X.mg W σ H mu Q res → r x H Q
theorem rd_bin {r : R2} {op : Op2} (ho : OpD X r op) {σ : L2.St} {H : Hp} {Q : VK} (h : rd X.K X.mg W (dBin op fa fb) σ H Q) : tOp r (rd X.K X.mg W fa) (rd X.K X.mg W fb) σ H Q := by
  obtain ⟨mu, S, ρ, res, s, en, hf, p⟩ := h
  refine rd_bnd s en hf p fun d S1 v H1 m1 x s1 en1 rp h1 p1 => ?_
  refine rd_bnd s1 en1 h1 p1 fun d2 S2 v2 H2 m2 x2 s2 en2 rp2 h2 p2 => ?_
  exact ho H2 m2 S2 v v2 d d2 res W σ Q s2 (rp.mono x2) rp2 h2 p2
theorem de_bin {op : Operator} {r : R2} {dop : Op2} (ho : OpR X (binaryOp op) r) (hd : OpD X r dop) (ha : DE X W a fa) (hb : DE X W b fb) : DE X W (.BinOp a op b pos) (dBin dop fa fb) :=
  peI (pe_op ho ha hb) fun σ H Q h => rd_bin hd h
theorem de_cmp {op : CmpOp} {r : R2} {dop : Op2} (ho : OpR X (compareOp op) r) (hd : OpD X r dop) (ha : DE X W a fa) (hb : DE X W b fb) (hm : behindInMarks op b = false) : DE X W (.Compare a [op] [b] pos) (dBin dop fa fb) :=
  peI (pe_cmpR ho ha hb hm) fun σ H Q h => rd_bin hd h
theorem de_un {op : UnaryOp} {r : V → Hp → VK → Prop} {dop : Op1} (ho : UnR X (unaryOp op) r) (hd : UnD X r dop) (ha : DE X W a fa) : DE X W (.UnaryOp op a pos) (dUn dop fa) := by
  refine peI (pe_un ho ha) fun σ H Q h => ?_
  obtain ⟨mu, S, ρ, res, s, en, hf, p⟩ := h
  refine rd_bnd s en hf p fun d S1 v H1 m1 x s1 en1 rp h1 p1 => ?_
  exact hd H1 m1 S1 v d res W σ Q s1 rp h1 p1
/-- the operator's answer is one value, nothing changes -/
theorem Post.val {σ : L2.St} {H : Hp} {mu : List Addr} {S : Store} {Q : VK} {d : D} {v : V} (p : Post X.K X.mg W σ H mu Q (.ok d S)) (s : StOk X.K X.mg H mu S) (r : Rep X.K X.mg H mu v d) : Q v H := p v H mu (Ext.refl _ _) s r
def oInt2 (g : Int → Int → Option D) : Op2 := fun a b S => match a, b with
  | .int i, .int j => (g i j).map fun d => .ok d S
  | _, _ => none
theorem opD_int {r : R2} {g : Int → Int → Option D} (h : ∀ i j d, g i j = some d → ∀ (H : Hp) (Q : VK), (∀ v, (∀ mu, Rep X.K X.mg H mu v d) → Q v H) → r (.int i) (.int j) H Q) : OpD X r (oInt2 g) := by
  intro H mu S x y a b res W σ Q s ra rb ho p
  cases a <;> cases b <;> try (cases ho)
  cases ra
  cases rb
  rename_i i j
  simp only [oInt2] at ho
  cases e : g i j with
  | none => rw [e] at ho; cases ho
  | some d =>
    rw [e] at ho
    cases ho
    exact h i j d e H Q fun v hv => Post.val p s (hv mu)
abbrev oAdd : Op2 := oInt2 fun i j => some (.int (i + j))
abbrev oSub : Op2 := oInt2 fun i j => some (.int (i - j))
abbrev oLt : Op2 := oInt2 fun i j => some (.bl (decide (i < j)))
abbrev oLe : Op2 := oInt2 fun i j => some (.bl (decide (i ≤ j)))
abbrev oGt : Op2 := oInt2 fun i j => some (.bl (decide (j < i)))
abbrev oGe : Op2 := oInt2 fun i j => some (.bl (decide (j ≤ i)))
theorem de_sub (ha : DE X W a fa) (hb : DE X W b fb) : DE X W (.BinOp a .Sub b pos) (dBin oSub fa fb) := de_bin op_sub (opD_int fun i j d e H Q q => by cases e; exact ⟨i, j, rfl, rfl, q _ fun mu => .int _⟩) ha hb
theorem de_lt (ha : DE X W a fa) (hb : DE X W b fb) : DE X W (.Compare a [.Lt] [b] pos) (dBin oLt fa fb) := de_cmp op_lt (opD_int fun i j d e H Q q => by cases e; exact ⟨i, j, rfl, rfl, q _ fun mu => .bl _⟩) ha hb (nomark _)
theorem de_le (ha : DE X W a fa) (hb : DE X W b fb) : DE X W (.Compare a [.LtE] [b] pos) (dBin oLe fa fb) := de_cmp op_le (opD_int fun i j d e H Q q => by cases e; exact ⟨i, j, rfl, rfl, q _ fun mu => .bl _⟩) ha hb (nomark _)
theorem de_gt (ha : DE X W a fa) (hb : DE X W b fb) : DE X W (.Compare a [.Gt] [b] pos) (dBin oGt fa fb) := de_cmp op_gt (opD_int fun i j d e H Q q => by cases e; exact ⟨i, j, rfl, rfl, q _ fun mu => .bl _⟩) ha hb (nomark _)
theorem de_ge (ha : DE X W a fa) (hb : DE X W b fb) : DE X W (.Compare a [.GtE] [b] pos) (dBin oGe fa fb) := de_cmp op_ge (opD_int fun i j d e H Q q => by cases e; exact ⟨i, j, rfl, rfl, q _ fun mu => .bl _⟩) ha hb (nomark _)
end
end PD
set_option Elab.async false
set_option linter.all false
set_option maxRecDepth 100000
set_option maxHeartbeats 4000000
namespace PD
open PySem PySem.Spec PyProof.Rows L2
section
variable {X : Cx} {W : WX} {a b c e : Expr} {fa fb fc : Den} {pos : Pos}

/-! ### lists of values -/
def asList (S : Store) : D → Option (List D)
  | .lst xs => some xs
  | .ref n => S[n]?
  | _ => none
/-- a frozen or a changing list -/
theorem rep_list {H : Hp} {mu : List Addr} {S : Store} {v : V} {d : D} {xs : List D} (s : StOk X.K X.mg H mu S) (r : Rep X.K X.mg H mu v d) (h : asList S d = some xs) : ∃ p vs, v = .ref p ∧ H p = some (.lst vs) ∧ Reps X.K X.mg H mu vs xs := by
  cases d with
  | lst ys =>
    cases h
    cases r with
    | lst h n r => exact ⟨_, _, rfl, h, r⟩
  | ref n =>
    cases r with
    | ref h' =>
      obtain ⟨vs, h1, h2⟩ := s.at_ n _ xs h' h
      exact ⟨_, _, rfl, h1, h2⟩
  | _ => cases h
def asSeq (S : Store) : D → Option (List D)
  | .lst xs => some xs
  | .tup xs => some xs
  | .scr ns => some (ns.map D.int)
  | .ref n => S[n]?
  | _ => none
theorem rep_seq {H : Hp} {mu : List Addr} {S : Store} {v : V} {d : D} {xs : List D} (s : StOk X.K X.mg H mu S) (r : Rep X.K X.mg H mu v d) (h : asSeq S d = some xs) : ∃ p vs, v = .ref p ∧ (SqL X.K H p vs ∨ SqT X.K H p vs) ∧ Reps X.K X.mg H mu vs xs := by
  cases d with
  | lst ys =>
    cases h
    cases r with
    | lst h n r => exact ⟨_, _, rfl, .inl (.of h), r⟩
  | tup ys =>
    cases h
    cases r with
    | tup h r => exact ⟨_, _, rfl, .inr h.sq, r⟩
  | scr ns =>
    cases h
    cases r with
    | scr h => exact ⟨_, _, rfl, .inl h.sq, .ints ns⟩
  | ref n =>
    cases r with
    | ref h' =>
      obtain ⟨vs, h1, h2⟩ := s.at_ n _ xs h' h
      exact ⟨_, _, rfl, .inl (.of h1), h2⟩
  | _ => cases h
theorem line_eq : sizeLine = 16777216 := sizeLine_eq
/-- a new frozen list, a new tuple -/
theorem Post.lst {σ : L2.St} {H : Hp} {mu : List Addr} {S : Store} {Q : VK} {ds : List D} {vs : List V} (p : Post X.K X.mg W σ H mu Q (.ok (.lst ds) S)) (s : StOk X.K X.mg H mu S) (r : Reps X.K X.mg H mu vs ds) : ∀ q, H q = none → Q (.ref q) (upd H q (.lst vs)) := fun q hq => by
  have n := s.free hq
  have x : Ext H mu (upd H q (.lst vs)) mu := Ext.fresh hq n
  exact p _ _ mu x (s.fresh hq) (.lst upd_same n (r.mono x))
theorem Post.tup {σ : L2.St} {H : Hp} {mu : List Addr} {S : Store} {Q : VK} {ds : List D} {vs : List V} (p : Post X.K X.mg W σ H mu Q (.ok (.tup ds) S)) (s : StOk X.K X.mg H mu S) (r : Reps X.K X.mg H mu vs ds) : ∀ q, H q = none → Q (.ref q) (upd H q (.tup vs)) := fun q hq => by
  have n := s.free hq
  have x : Ext H mu (upd H q (.tup vs)) mu := Ext.fresh hq n
  exact p _ _ mu x (s.fresh hq) (.tup (.inl ⟨.inl upd_same, n⟩) (r.mono x))
/-- a new list that may change -/
theorem Post.mut {σ : L2.St} {H : Hp} {mu : List Addr} {S : Store} {Q : VK} {ds : List D} {vs : List V} (p : Post X.K X.mg W σ H mu Q (.ok (.ref S.length) (S ++ [ds]))) (s : StOk X.K X.mg H mu S) (r : Reps X.K X.mg H mu vs ds) : ∀ q, H q = none → Q (.ref q) (upd H q (.lst vs)) := fun q hq => by
  have x : Ext H mu (upd H q (.lst vs)) (mu ++ [q]) := Ext.grow s hq
  refine p _ _ (mu ++ [q]) x (s.grow hq r) (.ref ?_)
  rw [← s.len, List.getElem?_append_right (Nat.le_refl _)]
  simp

/-! ### + -/
def lPlus : Op2 := fun a b S => match asList S a, asList S b with
  | some xs, some ys => if xs.length + ys.length ≤ 16777216 then some (.ok (.lst (xs ++ ys)) S) else none
  | _, _ => none
def oPlus : Op2 := fun a b S => match a, b with
  | .int i, .int j => some (.ok (.int (i + j)) S)
  | .str x, .str y => if x.length + y.length ≤ 16777216 then some (.ok (.str (x ++ y)) S) else none
  | .tup xs, .tup ys => if xs.length + ys.length ≤ 16777216 then some (.ok (.tup (xs ++ ys)) S) else none
  | a, b => lPlus a b S
abbrev rPlus (K : PySem.W.Frag) : R2 := fun x y H Q => (rI0 fun i j => .int (i + j)) x y H Q ∨ ((fun x y H Q => ∃ i j, x = .str i ∧ y = .str j ∧ i.length + j.length ≤ sizeLine ∧ Q (.str (i ++ j)) H : R2) x y H Q ∨ ((rCatA K) x y H Q ∨ rCat x y H Q))
theorem op_plus : OpR X (binaryOp .Add) (rPlus X.K) := op_add.or (op_add_str.or (op_catA.or op_cat))
theorem opD_plus : OpD X (rPlus X.K) oPlus := by
  intro H mu S x y a b res W σ Q s ra rb ho p
  have lists : lPlus a b S = some res → rPlus X.K x y H Q := fun ho => by
    unfold lPlus at ho
    split at ho
    · rename_i xs ys h1 h2
      split at ho
      · rename_i hz
        cases ho
        obtain ⟨p1, vs, rfl, e1, r1⟩ := rep_list s ra h1
        obtain ⟨p2, ws, rfl, e2, r2⟩ := rep_list s rb h2
        exact .inr (.inr (.inr ⟨p1, p2, vs, ws, rfl, rfl, e1, e2, by rw [r1.length, r2.length, line_eq]; exact hz, p.lst s (r1.append r2)⟩))
      · cases ho
    · cases ho
  cases a <;> cases b <;> (try exact lists ho)
  · cases ho; cases ra; cases rb
    exact .inl ⟨_, _, rfl, rfl, p.val s (.int _)⟩
  · simp only [oPlus] at ho
    split at ho
    · cases ho; cases ra; cases rb
      exact .inr (.inl ⟨_, _, rfl, rfl, by rw [line_eq]; assumption, p.val s (.str _)⟩)
    · cases ho
  · simp only [oPlus] at ho
    split at ho
    · rename_i xs ys hz
      cases ho
      cases ra with
      | tup h1 r1 =>
        cases rb with
        | tup h2 r2 =>
          refine .inr (.inr (.inl ⟨_, _, _, _, rfl, rfl, h1.sq, h2.sq, by rw [r1.length, r2.length, line_eq]; exact hz, fun e => ?_, fun _ e => ?_, fun _ _ => p.tup s (r1.append r2)⟩))
          · subst e
            cases r1
            exact p.val s (.tup h2 r2)
          · subst e
            cases r2
            rw [List.append_nil] at p
            exact p.val s (.tup h1 r1)
    · cases ho
theorem de_add (ha : DE X W a fa) (hb : DE X W b fb) : DE X W (.BinOp a .Add b pos) (dBin oPlus fa fb) := de_bin op_plus opD_plus ha hb

/-! ### * -/
def small64 (i : Int) : Bool := decide (-(2 ^ 64) < i) && decide (i < 2 ^ 64)
def mulFits (i j : Int) : Bool := small64 i || small64 j || decide (i.natAbs.log2 + j.natAbs.log2 < 1000000)
def oMulI : Op2 := oInt2 fun i j => if mulFits i j then some (.int (i * j)) else none
theorem op_mulA : OpR X (binaryOp .Mult) (fun x y H Q => (rI CMul fun i j => .int (i * j)) x y H Q ∨ (rI CMulW fun i j => .int (i * j)) x y H Q) := op_mul.or op_mulW
theorem small64_ok {i : Int} (h : small64 i = true) : -(2 ^ 64) < i ∧ i < 2 ^ 64 := by
  unfold small64 at h
  simpa using h
theorem opD_mulI : OpD X (fun x y H Q => (rI CMul fun i j => .int (i * j)) x y H Q ∨ (rI CMulW fun i j => .int (i * j)) x y H Q) oMulI := opD_int fun i j d e H Q q => by
  split at e
  · rename_i h
    cases e
    unfold mulFits at h
    rw [Bool.or_eq_true, Bool.or_eq_true] at h
    rcases h with (h | h) | h
    · exact .inl ⟨i, j, rfl, rfl, .inl (small64_ok h), q _ fun mu => .int _⟩
    · exact .inl ⟨i, j, rfl, rfl, .inr (small64_ok h), q _ fun mu => .int _⟩
    · exact .inr ⟨i, j, rfl, rfl, show i.natAbs.log2 + j.natAbs.log2 < 1000000 from of_decide_eq_true h, q _ fun mu => .int _⟩
  · cases e
/-- int * int, list * int, tuple * int -/
def lMul : Op2 := fun a b S => match b with
  | .int k => (match asList S a with
    | some xs => if -(2 ^ 63) ≤ k ∧ k < 2 ^ 63 ∧ xs.length * k.toNat ≤ 16777216 then some (.ok (.lst (List.replicate k.toNat xs).flatten) S) else none
    | none => none)
  | _ => none
instance (xs : List D) : Decidable (xs ≠ []) := match xs with
  | [] => isFalse (fun h => h rfl)
  | _ :: _ => isTrue (fun h => nomatch h)
def oMul : Op2 := fun a b S => match a, b with
  | .int i, .int j => if mulFits i j then some (.ok (.int (i * j)) S) else none
  | .tup xs, .int k => if k = 1 then some (.ok (.tup xs) S) else if 2 ≤ k ∧ k ≤ 1000 ∧ xs.length ≤ 1000 ∧ xs ≠ [] then some (.ok (.tup (List.replicate k.toNat xs).flatten) S) else none
  | a, b => lMul a b S
theorem reps_rep {H : Hp} {mu : List Addr} {vs : List V} {ds : List D} (r : Reps X.K X.mg H mu vs ds) : ∀ k : Nat, Reps X.K X.mg H mu (List.replicate k vs).flatten (List.replicate k ds).flatten
  | 0 => .nil
  | k + 1 => by
    rw [List.replicate_succ, List.replicate_succ, List.flatten_cons, List.flatten_cons]
    exact r.append (reps_rep r k)
/-- a tuple times 1 is that tuple -/
theorem tuple_once (l : Addr) (its : Array Value) (n : Nat) (dd : Option Addr) (sl : Array (Option Value)) (u : Tok) :
    Meets (Builtin.«tuple.__mul__» ⟨[.ref l, .int 1 u], []⟩) (fun _ R s => s.heap.get? l = some { cls := .type "tuple", dict := dd, data := .seq its n, slots := sl } ∧ R (.ok (.ret (Value.ref l))) s) :=
  .of_wp fun prog w A R s h => by
    obtain ⟨hp, gn, dr, tk, os⟩ := s
    obtain ⟨there, h⟩ := h
    have ix := AutoSeq1.idx_int
    have yes : (its.isEmpty || (1 : Int) == 1) = true := by cases its.isEmpty <;> rfl
    wp_walk using wpAny_loadPart' there
    repeat (first
      | (refine wpAny_ite_false (decide_eq_false (by decide)) ?_; wp_walk using wpAny_loadPart' there)
      | (refine wpAny_ite_true (decide_eq_true yes) ?_; wp_walk using wpAny_loadPart' there)
      | (rw [if_pos yes]; wp_walk using wpAny_loadPart' there))
    first
      | exact ⟨_, rfl, h⟩
      | exact h
def rOnce (K : PySem.W.Frag) : R2 := fun x y H Q => ∃ l xs, x = .ref l ∧ y = .int 1 ∧ SqT K H l xs ∧ Q (.ref l) H
theorem op_once : OpR X (binaryOp .Mult) (rOnce X.K) := by
  intro pins s σ H x y v u Q J rx ry h
  obtain ⟨l, xs, rfl, rfl, hT, q⟩ := h
  cases rx
  obtain ⟨t, rfl⟩ := ry
  obtain ⟨its, r, ⟨⟨cls, dd, data, sl⟩, ho, hc, n, hd⟩, _⟩ := J.tuple hT
  simp only at hc hd
  subst hc hd
  exact wpAny_binaryOp_repeat_ref (T := "tuple") (U := "int") (by decide) ⟨_, ho, rfl⟩ (fun s' => typeIs_int s' 1 t) noFill_tuple_mul F.fills_int_mul F.slot_int_rmul repeat_tuple F.slot_int_index.lookup
    (call_meets F.slot_int_rmul (typeIs_int s 1 t) F.entry_int_rmul (F.args_int_rmul_2 _ _) (int_rmul_tuple 1 t l its.toArray n dd sl)
      ⟨ho, rfl, ⟨_, ho, rfl⟩, call_meets F.slot_tuple_mul ⟨_, ho, rfl⟩ F.entry_tuple_mul (F.args_tuple_mul_2 _ _) (tuple_once l its.toArray n dd sl t) ⟨ho, .ref l, H, J, rfl, q⟩⟩)
abbrev rMulA (K : PySem.W.Frag) : R2 := fun x y H Q => ((rI CMul fun i j => .int (i * j)) x y H Q ∨ (rI CMulW fun i j => .int (i * j)) x y H Q) ∨ ((rRepT K) x y H Q ∨ (rRep x y H Q ∨ (rOnce K) x y H Q))
theorem op_mulAll : OpR X (binaryOp .Mult) (rMulA X.K) := op_mulA.or (op_repT.or (op_rep.or op_once))
theorem opD_mul : OpD X (rMulA X.K) oMul := by
  intro H mu S x y a b res W σ Q s ra rb ho p
  have lists : lMul a b S = some res → rMulA X.K x y H Q := fun ho => by
    unfold lMul at ho
    split at ho
    · rename_i k
      split at ho
      · rename_i xs h1
        split at ho
        · rename_i hz
          cases ho
          cases rb
          obtain ⟨p1, vs, rfl, e1, r1⟩ := rep_list s ra h1
          exact .inr (.inr (.inl ⟨p1, _, vs, rfl, rfl, e1, hz.1, hz.2.1, by rw [r1.length, line_eq]; exact hz.2.2, p.lst s (reps_rep r1 _)⟩))
        · cases ho
      · cases ho
    · cases ho
  cases a <;> cases b <;> (try exact lists ho)
  · rename_i i j
    have ho' : oMulI (.int i) (.int j) S = some res := by
      simp only [oMulI, oInt2]
      rw [← ho]
      simp only [oMul]
      split <;> rfl
    exact .inl (opD_mulI H mu S x y _ _ res W σ Q s ra rb ho' p)
  · simp only [oMul] at ho
    split at ho
    · rename_i hk
      cases ho
      cases rb
      subst hk
      cases ra with
      | tup h1 r1 => exact .inr (.inr (.inr ⟨_, _, rfl, rfl, h1.sq, p.val s (.tup h1 r1)⟩))
    split at ho
    · rename_i hz
      cases ho
      cases rb
      cases ra with
      | tup h1 r1 =>
        have hne : ∀ {vs : List V} {ds : List D}, Reps X.K X.mg H mu vs ds → ds ≠ [] → vs ≠ [] := fun r h => by
          cases r with
          | nil => exact absurd rfl h
          | cons _ _ => exact fun z => nomatch z
        exact .inr (.inl ⟨_, _, _, rfl, rfl, h1.sq, hne r1 hz.2.2.2, hz.1, hz.2.1, by rw [r1.length]; exact hz.2.2.1, p.tup s (reps_rep r1 _)⟩)
    · cases ho
theorem de_mul (ha : DE X W a fa) (hb : DE X W b fb) : DE X W (.BinOp a .Mult b pos) (dBin oMul fa fb) := de_bin op_mulAll opD_mul ha hb

/-! ### % // ** - -/
abbrev oMod : Op2 := oInt2 fun i j => if 0 < j then some (.int (i % j)) else none
abbrev oDiv : Op2 := oInt2 fun i j => if 0 < j ∧ j.natAbs.log2 < 9000 then some (.int (i / j)) else none
abbrev oPow : Op2 := oInt2 fun i j => if 0 ≤ j ∧ j ≤ 1000000 ∧ i.natAbs < 2 ^ 64 then some (.int (i ^ j.toNat)) else none
theorem de_mod (ha : DE X W a fa) (hb : DE X W b fb) : DE X W (.BinOp a .Mod b pos) (dBin oMod fa fb) := de_bin op_mod (opD_int fun i j d e H Q q => by
  split at e
  · cases e; exact ⟨i, j, rfl, rfl, by assumption, q _ fun mu => .int _⟩
  · cases e) ha hb
theorem de_div (ha : DE X W a fa) (hb : DE X W b fb) : DE X W (.BinOp a .FloorDiv b pos) (dBin oDiv fa fb) := de_bin op_fdivW (opD_int fun i j d e H Q q => by
  split at e
  · cases e; exact ⟨i, j, rfl, rfl, by assumption, q _ fun mu => .int _⟩
  · cases e) ha hb
theorem de_pow (ha : DE X W a fa) (hb : DE X W b fb) : DE X W (.BinOp a .Pow b pos) (dBin oPow fa fb) := de_bin op_pow (opD_int fun i j d e H Q q => by
  split at e
  · cases e; exact ⟨i, j, rfl, rfl, by assumption, q _ fun mu => .int _⟩
  · cases e) ha hb
def oNeg : Op1 := fun a S => match a with
  | .int i => some (.ok (.int (-i)) S)
  | _ => none
theorem de_neg (ha : DE X W a fa) : DE X W (.UnaryOp .USub a pos) (dUn oNeg fa) := de_un un_neg (fun H mu S x d res W σ Q s r ho p => by
  cases d <;> try (cases ho; done)
  cases ho; cases r
  exact ⟨_, rfl, p.val s (.int _)⟩) ha

/-! ### == and != by data -/
mutual
def pyr (g : Nat → Option PyData) : D → Option PyData
  | .non => some .none
  | .bl b => some (.bool b)
  | .int i => some (.int i)
  | .str s => some (.str s)
  | .tup xs => (pyrs g xs).map .tuple
  | .lst xs => (pyrs g xs).map .list
  | .scr ns => some (.list (ns.map .int))
  | .ref k => g k
  | .err _ _ _ => none
  | .cau .. => none
def pyrs (g : Nat → Option PyData) : List D → Option (List PyData)
  | [] => some []
  | x :: xs => match pyr g x, pyrs g xs with
    | some y, some ys => some (y :: ys)
    | _, _ => none
end
def pyg (S : Store) : Nat → Nat → Option PyData
  | 0, _ => none
  | j + 1, k => match S[k]? with
    | some xs => (pyrs (pyg S j) xs).map .list
    | none => none
def toPy (S : Store) (d : D) : Option PyData := pyr (pyg S 3) d
theorem dp_ints {K : PySem.W.Frag} {H : Hp} : ∀ ns : List Int, DpAll K H (ns.map V.int) (ns.map PyData.int)
  | [] => .nil
  | n :: ns => .cons (.int n) (dp_ints ns)
mutual
theorem rep_dp {H : Hp} {mu : List Addr} {g : Nat → Option PyData} (hg : ∀ k v y, Rep X.K X.mg H mu v (.ref k) → g k = some y → Dp X.K H v y) : ∀ {v : V} {d : D} {y : PyData}, Rep X.K X.mg H mu v d → pyr g d = some y → Dp X.K H v y
  | _, _, _, .non, h => by simp only [pyr] at h; cases h; exact .non
  | _, _, _, .bl b, h => by simp only [pyr] at h; cases h; exact .bl b
  | _, _, _, .int i, h => by simp only [pyr] at h; cases h; exact .int i
  | _, _, _, .str i, h => by simp only [pyr] at h; cases h; exact .str i
  | _, _, _, .tup hq r, h => by
    simp only [pyr] at h
    obtain ⟨ys, h1, rfl⟩ := Option.map_eq_some_iff.mp h
    exact .tup hq.sq (reps_dp hg r h1)
  | _, _, _, .lst hq hn r, h => by
    simp only [pyr] at h
    obtain ⟨ys, h1, rfl⟩ := Option.map_eq_some_iff.mp h
    exact .lst (.of hq) (reps_dp hg r h1)
  | _, _, _, .scr hq, h => by
    simp only [pyr] at h
    cases h
    exact .lst hq.sq (dp_ints _)
  | _, _, _, .ref hq, h => by
    simp only [pyr] at h
    exact hg _ _ _ (.ref hq) h
  | _, _, _, .err .., h => by simp only [pyr] at h; cases h
  | _, _, _, .cau .., h => by simp only [pyr] at h; cases h
theorem reps_dp {H : Hp} {mu : List Addr} {g : Nat → Option PyData} (hg : ∀ k v y, Rep X.K X.mg H mu v (.ref k) → g k = some y → Dp X.K H v y) : ∀ {vs : List V} {ds : List D} {ys : List PyData}, Reps X.K X.mg H mu vs ds → pyrs g ds = some ys → DpAll X.K H vs ys
  | _, _, _, .nil, h => by simp only [pyrs] at h; cases h; exact .nil
  | _, _, ys, .cons (d := d) (ds := ds) r t, h => by
    simp only [pyrs] at h
    cases e1 : pyr g d with
    | none => rw [e1] at h; cases h
    | some y =>
      cases e2 : pyrs g ds with
      | none => rw [e1, e2] at h; cases h
      | some zs =>
        rw [e1, e2] at h
        cases h
        exact .cons (rep_dp hg r e1) (reps_dp hg t e2)
end
theorem pyg_ok {H : Hp} {mu : List Addr} {S : Store} (s : StOk X.K X.mg H mu S) : ∀ (j k : Nat) (v : V) (y : PyData), Rep X.K X.mg H mu v (.ref k) → pyg S j k = some y → Dp X.K H v y
  | 0, _, _, _, _, h => by cases h
  | j + 1, k, v, y, r, h => by
    cases r with
    | ref hq =>
    simp only [pyg] at h
    cases e : S[k]? with
    | none => rw [e] at h; cases h
    | some xs =>
      rw [e] at h
      obtain ⟨ys, h1, rfl⟩ := Option.map_eq_some_iff.mp h
      obtain ⟨vs, hv, hr⟩ := s.at_ k _ xs hq e
      exact .lst (.of hv) (reps_dp (pyg_ok s j) hr h1)
def eqD (S : Store) (a b : D) : Option Bool := match toPy S a, toPy S b with
  | some x, some y => if SeqAt.shaped x && SeqAt.shaped y then some (PyData.eqv x y) else none
  | _, _ => none
theorem eqD_ok {H : Hp} {mu : List Addr} {S : Store} {x y : V} {a b : D} {k : Bool} (s : StOk X.K X.mg H mu S) (ra : Rep X.K X.mg H mu x a) (rb : Rep X.K X.mg H mu y b) (h : eqD S a b = some k) :
    ∃ d e, Dp X.K H x d ∧ Dp X.K H y e ∧ SeqAt.shaped d = true ∧ SeqAt.shaped e = true ∧ k = PyData.eqv d e := by
  unfold eqD at h
  split at h
  · rename_i d e h1 h2
    split at h
    · rename_i hs
      cases h
      rw [Bool.and_eq_true] at hs
      exact ⟨d, e, rep_dp (pyg_ok s 3) ra h1, rep_dp (pyg_ok s 3) rb h2, hs.1, hs.2, rfl⟩
    · cases h
  · cases h
def oEq : Op2 := fun a b S => (eqD S a b).map fun k => .ok (.bl k) S
def oNe : Op2 := fun a b S => (eqD S a b).map fun k => .ok (.bl (!k)) S
theorem de_eq (hu : X.A.units + 64 < cLine) (ha : DE X W a fa) (hb : DE X W b fb) : DE X W (.Compare a [.Eq] [b] pos) (dBin oEq fa fb) := de_cmp (op_eqD hu) (fun H mu S x y a b res W σ Q s ra rb ho p => by
  obtain ⟨k, h1, rfl⟩ := Option.map_eq_some_iff.mp ho
  obtain ⟨d, e, q1, q2, q3, q4, rfl⟩ := eqD_ok s ra rb h1
  exact ⟨d, e, q1, q2, q3, q4, p.val s (.bl _)⟩) ha hb (nomark _)
theorem de_ne (hu : X.A.units + 64 < cLine) (ha : DE X W a fa) (hb : DE X W b fb) : DE X W (.Compare a [.NotEq] [b] pos) (dBin oNe fa fb) := de_cmp (op_neD hu) (fun H mu S x y a b res W σ Q s ra rb ho p => by
  obtain ⟨k, h1, rfl⟩ := Option.map_eq_some_iff.mp ho
  obtain ⟨d, e, q1, q2, q3, q4, rfl⟩ := eqD_ok s ra rb h1
  exact ⟨d, e, q1, q2, q3, q4, p.val s (.bl _)⟩) ha hb (nomark _)
/-! ### is None -/
def isNon : D → Bool
  | .non => true
  | _ => false
def dIsN (f : Den) : Den := fun ρ S => bnd (f ρ S) fun d S1 => some (.ok (.bl (isNon d)) S1)
def dNotN (f : Den) : Den := fun ρ S => bnd (f ρ S) fun d S1 => some (.ok (.bl (!isNon d)) S1)
theorem rep_non {H : Hp} {mu : List Addr} {v : V} {d : D} (r : Rep X.K X.mg H mu v d) : decide (v = .non) = isNon d := by
  cases r <;> first | rfl | (exact decide_eq_false (fun z => nomatch z))
theorem de_isN {j pos'} (ha : DE X W a fa) : DE X W (.Compare a [.Is] [.Constant .none j pos'] pos) (dIsN fa) := by
  refine peI (pe_cmp (pc_isN ha)) fun σ H Q h => ?_
  obtain ⟨mu, S, ρ, res, s, en, hf, p⟩ := h
  refine rd_bnd s en hf p fun d S1 v H1 m1 x s1 en1 rp h1 p1 => ?_
  cases h1
  rw [rep_non rp]
  exact p1.val s1 (.bl _)
theorem de_notN {j pos'} (ha : DE X W a fa) : DE X W (.Compare a [.IsNot] [.Constant .none j pos'] pos) (dNotN fa) := by
  refine peI (pe_cmp (pc_notN ha)) fun σ H Q h => ?_
  obtain ⟨mu, S, ρ, res, s, en, hf, p⟩ := h
  refine rd_bnd s en hf p fun d S1 v H1 m1 x s1 en1 rp h1 p1 => ?_
  cases h1
  rw [rep_non rp]
  exact p1.val s1 (.bl _)
end
end PD
set_option Elab.async false
set_option linter.all false
set_option maxRecDepth 100000
set_option maxHeartbeats 4000000
namespace PD
open PySem PySem.Spec PyProof.Rows L2
section
variable {X : Cx} {W : WX} {a b c e : Expr} {fa fb fc : Den} {pos : Pos}

/-! ### tests -/
/-- a value's truth -/
def truth (S : Store) : D → Option Bool
  | .non => some false
  | .bl b => some b
  | .int i => some (i != 0)
  | .str s => if s.length ≤ 16777216 then some ((s.length : Int) != 0) else none
  | .tup xs => some !xs.isEmpty
  | .lst xs => some !xs.isEmpty
  | .scr ns => some !ns.isEmpty
  | .ref k => (S[k]?).map fun xs => !xs.isEmpty
  | .err .. => none
  | .cau .. => none
def dTru (f : Den) : Den := fun ρ S => bnd (f ρ S) fun d S1 => (truth S1 d).map fun k => .ok (.bl k) S1
theorem reps_empty {H : Hp} {mu : List Addr} {vs : List V} {ds : List D} (r : Reps X.K X.mg H mu vs ds) : vs.isEmpty = ds.isEmpty := by cases r <;> rfl
theorem rep_truth {H : Hp} {mu : List Addr} {S : Store} {v : V} {d : D} {k : Bool} (s : StOk X.K X.mg H mu S) (r : Rep X.K X.mg H mu v d) (h : truth S d = some k) : TruV X.K v H k := by
  cases r with
  | non => cases h; rfl
  | bl b => cases h; rfl
  | int i => cases h; rfl
  | str x =>
    simp only [truth] at h
    split at h
    · cases h; exact ⟨by rw [line_eq]; assumption, rfl⟩
    · cases h
  | tup hq r => cases h; exact .inr (.inl ⟨_, hq.sq, by rw [reps_empty r]⟩)
  | lst hq n r => cases h; exact .inl ⟨_, .of hq, by rw [reps_empty r]⟩
  | @scr a ns hq => cases h; exact .inl ⟨_, hq.sq, by cases ns <;> rfl⟩
  | ref hq =>
    simp only [truth] at h
    obtain ⟨xs, h1, rfl⟩ := Option.map_eq_some_iff.mp h
    obtain ⟨vs, hv, hr⟩ := s.at_ _ _ xs hq h1
    exact .inl ⟨_, .of hv, by rw [reps_empty hr]⟩
  | err => cases h
  | cau => cases h
/-- a test by its value's truth -/
theorem dt_truth (ha : DE X W a fa) (he : ∀ whole, isTrue a X.env whole = (do let v ← whole; standAt a.pos; holding [v] (truthy v)) := by intro _; rfl) : DT X W a (dTru fa) := by
  refine ptI (pt_truth ha he) fun σ H Q h => ?_
  obtain ⟨mu, S, ρ, res, s, en, hf, p⟩ := h
  unfold dTru at hf
  cases e : fa ρ S with
  | none => rw [e] at hf; cases hf
  | some r1 =>
    rw [e] at hf
    cases r1 with
    | exc c ns xs S1 =>
      have hr : res = .exc c ns xs S1 := (Option.some.inj hf).symm
      subst hr
      exact ⟨mu, S, ρ, _, s, en, e, p⟩
    | ok d S1 =>
      obtain ⟨k, h1, rfl⟩ := Option.map_eq_some_iff.mp hf
      exact ⟨mu, S, ρ, _, s, en, e, fun v H1 m1 x s1 rp => ⟨k, rep_truth s1 rp h1, p H1 m1 x s1⟩⟩
/-- a comparison as a test -/
theorem dt_cmp {op : CmpOp} {r : R2} {dop : Op2} (ho : OpR X (compareOp op) r) (hd : OpD X r dop) (ha : DE X W a fa) (hb : DE X W b fb) (hm : behindInMarks op b = false)
    (hk : ∀ x y S res, dop x y S = some res → ∃ k, res = .ok (.bl k) S) : DT X W (.Compare a [op] [b] pos) (dBin dop fa fb) := by
  refine ptI (pt_cmpR ho ha hb hm) fun σ H Q h => ?_
  obtain ⟨mu, S, ρ, res, s, en, hf, p⟩ := h
  -- as an expression with the wish that the answer is a truth value
  have h2 : rd X.K X.mg W (dBin dop fa fb) σ H (fun x H' => ∃ k, x = V.bl k ∧ Q k H') := by
    refine ⟨mu, S, ρ, res, s, en, hf, ?_⟩
    cases res with
    | exc c ns xs S1 => exact p
    | ok d S1 =>
      cases d <;> first | exact False.elim p | skip
      intro v H' mu' x s' rp
      cases rp
      exact ⟨_, rfl, p H' mu' x s'⟩
  exact rd_bin hd h2
theorem ok_int2 {g : Int → Int → Bool} : ∀ (x y : D) (S : Store) (res : Res), oInt2 (fun i j => some (.bl (g i j))) x y S = some res → ∃ k, res = .ok (.bl k) S := fun x y S res h => by
  cases x <;> cases y <;> try (cases h; done)
  cases h
  exact ⟨_, rfl⟩
theorem dt_lt (ha : DE X W a fa) (hb : DE X W b fb) : DT X W (.Compare a [.Lt] [b] pos) (dBin oLt fa fb) := dt_cmp op_lt (opD_int fun i j d e H Q q => by cases e; exact ⟨i, j, rfl, rfl, q _ fun mu => .bl _⟩) ha hb (nomark _) ok_int2
theorem dt_le (ha : DE X W a fa) (hb : DE X W b fb) : DT X W (.Compare a [.LtE] [b] pos) (dBin oLe fa fb) := dt_cmp op_le (opD_int fun i j d e H Q q => by cases e; exact ⟨i, j, rfl, rfl, q _ fun mu => .bl _⟩) ha hb (nomark _) ok_int2
theorem dt_gt (ha : DE X W a fa) (hb : DE X W b fb) : DT X W (.Compare a [.Gt] [b] pos) (dBin oGt fa fb) := dt_cmp op_gt (opD_int fun i j d e H Q q => by cases e; exact ⟨i, j, rfl, rfl, q _ fun mu => .bl _⟩) ha hb (nomark _) ok_int2
theorem dt_ge (ha : DE X W a fa) (hb : DE X W b fb) : DT X W (.Compare a [.GtE] [b] pos) (dBin oGe fa fb) := dt_cmp op_ge (opD_int fun i j d e H Q q => by cases e; exact ⟨i, j, rfl, rfl, q _ fun mu => .bl _⟩) ha hb (nomark _) ok_int2
theorem opD_eq (X : Cx) : OpD X (rEqD X.K) oEq := fun H mu S x y a b res W σ Q s ra rb ho p => by
  obtain ⟨k, h1, rfl⟩ := Option.map_eq_some_iff.mp ho
  obtain ⟨d, e, q1, q2, q3, q4, rfl⟩ := eqD_ok s ra rb h1
  exact ⟨d, e, q1, q2, q3, q4, p.val s (.bl _)⟩
theorem opD_ne (X : Cx) : OpD X (rNeD X.K) oNe := fun H mu S x y a b res W σ Q s ra rb ho p => by
  obtain ⟨k, h1, rfl⟩ := Option.map_eq_some_iff.mp ho
  obtain ⟨d, e, q1, q2, q3, q4, rfl⟩ := eqD_ok s ra rb h1
  exact ⟨d, e, q1, q2, q3, q4, p.val s (.bl _)⟩
theorem dt_eq (hu : X.A.units + 64 < cLine) (ha : DE X W a fa) (hb : DE X W b fb) : DT X W (.Compare a [.Eq] [b] pos) (dBin oEq fa fb) := dt_cmp (op_eqD hu) (opD_eq X) ha hb (nomark _) fun x y S res h => by
  obtain ⟨k, h1, rfl⟩ := Option.map_eq_some_iff.mp h
  exact ⟨_, rfl⟩
theorem dt_ne (hu : X.A.units + 64 < cLine) (ha : DE X W a fa) (hb : DE X W b fb) : DT X W (.Compare a [.NotEq] [b] pos) (dBin oNe fa fb) := dt_cmp (op_neD hu) (opD_ne X) ha hb (nomark _) fun x y S res h => by
  obtain ⟨k, h1, rfl⟩ := Option.map_eq_some_iff.mp h
  exact ⟨_, rfl⟩
/-- an expression of truth value as a test (is None, ..) -/
theorem dt_val (ha : DE X W a fa) (hk : ∀ ρ S res, fa ρ S = some res → (∃ k S', res = .ok (.bl k) S') ∨ ∃ c ns xs S', res = .exc c ns xs S') (h : ∀ {t : TE}, PE X a t → PT X a (tB t)) : DT X W a fa := by
  refine ptI (h ha) fun σ H Q q => ?_
  obtain ⟨mu, S, ρ, res, s, en, hf, p⟩ := q
  refine ⟨mu, S, ρ, res, s, en, hf, ?_⟩
  rcases hk ρ S res hf with ⟨k, S', rfl⟩ | ⟨c, ns, xs, S', rfl⟩
  · intro v H' mu' x s' rp
    cases rp
    exact ⟨_, rfl, p H' mu' x s'⟩
  · exact p
theorem bl_isN {f : Den} {neg : Bool} : ∀ ρ S res, bnd (f ρ S) (fun d S1 => some (.ok (.bl (neg ^^ isNon d)) S1)) = some res → (∃ k S', res = .ok (.bl k) S') ∨ ∃ c ns xs S', res = .exc c ns xs S' := fun ρ S res h => by
  cases e : f ρ S with
  | none => rw [e] at h; cases h
  | some r1 =>
    rw [e] at h
    cases r1 with
    | ok d S1 => cases h; exact .inl ⟨_, _, rfl⟩
    | exc c ns xs S1 => cases h; exact .inr ⟨_, _, _, _, rfl⟩
theorem dt_isN {j pos'} (ha : DE X W a fa) : DT X W (.Compare a [.Is] [.Constant .none j pos'] pos) (dIsN fa) := by
  refine ptI (pt_cmp (pc_isN ha)) fun σ H Q q => ?_
  obtain ⟨mu, S, ρ, res, s, en, hf, p⟩ := q
  have h2 : rd X.K X.mg W (dIsN fa) σ H (fun x H' => ∃ k, x = V.bl k ∧ Q k H') := by
    refine ⟨mu, S, ρ, res, s, en, hf, ?_⟩
    rcases bl_isN (neg := false) ρ S res (by simpa [dIsN] using hf) with ⟨k, S', rfl⟩ | ⟨c, ns, xs, S', rfl⟩
    · intro v H' mu' x s' rp
      cases rp
      exact ⟨_, rfl, p H' mu' x s'⟩
    · exact p
  obtain ⟨mu, S, ρ, res, s, en, hf, p⟩ := h2
  refine rd_bnd s en hf p fun d S1 v H1 m1 x s1 en1 rp h1 p1 => ?_
  cases h1
  rw [rep_non rp]
  exact p1.val s1 (.bl _)
theorem dt_notN {j pos'} (ha : DE X W a fa) : DT X W (.Compare a [.IsNot] [.Constant .none j pos'] pos) (dNotN fa) := by
  refine ptI (pt_cmp (pc_notN ha)) fun σ H Q q => ?_
  obtain ⟨mu, S, ρ, res, s, en, hf, p⟩ := q
  have h2 : rd X.K X.mg W (dNotN fa) σ H (fun x H' => ∃ k, x = V.bl k ∧ Q k H') := by
    refine ⟨mu, S, ρ, res, s, en, hf, ?_⟩
    rcases bl_isN (neg := true) ρ S res (by simpa [dNotN] using hf) with ⟨k, S', rfl⟩ | ⟨c, ns, xs, S', rfl⟩
    · intro v H' mu' x s' rp
      cases rp
      exact ⟨_, rfl, p H' mu' x s'⟩
    · exact p
  obtain ⟨mu, S, ρ, res, s, en, hf, p⟩ := h2
  refine rd_bnd s en hf p fun d S1 v H1 m1 x s1 en1 rp h1 p1 => ?_
  cases h1
  rw [rep_non rp]
  exact p1.val s1 (.bl _)

/-! ### and, or, not -/
def bndB (o : Option Res) (k : Bool → Store → Option Res) : Option Res := bnd o fun d S => match d with
  | .bl b => k b S
  | _ => none
@[simp] theorem bndB_bl (b : Bool) (S : Store) (k : Bool → Store → Option Res) : bndB (some (.ok (.bl b) S)) k = k b S := rfl
@[simp] theorem bndB_exc (c : Str) (ns : List Str) (xs : List D) (S : Store) (k : Bool → Store → Option Res) : bndB (some (.exc c ns xs S)) k = some (.exc c ns xs S) := rfl
@[simp] theorem bndB_none (k : Bool → Store → Option Res) : bndB none k = none := rfl
def dAnd (f g : Den) : Den := fun ρ S => bndB (f ρ S) fun b S1 => if b then g ρ S1 else some (.ok (.bl false) S1)
def dOr (f g : Den) : Den := fun ρ S => bndB (f ρ S) fun b S1 => if b then some (.ok (.bl true) S1) else g ρ S1
def dNot (f : Den) : Den := fun ρ S => bndB (f ρ S) fun b S1 => some (.ok (.bl (!b)) S1)
theorem bndB_some {o : Option Res} {k : Bool → Store → Option Res} {r : Res} (h : bndB o k = some r) : (∃ b S, o = some (.ok (.bl b) S) ∧ k b S = some r) ∨ ∃ c ns xs S, o = some (.exc c ns xs S) ∧ r = .exc c ns xs S := by
  unfold bndB bnd at h
  split at h
  · rename_i d S
    cases d <;> first | (cases h; done) | exact .inl ⟨_, _, rfl, h⟩
  · cases h; exact .inr ⟨_, _, _, _, rfl, rfl⟩
  · cases h
/-- a test, then more -/
theorem rdt_bnd {K : PySem.W.Frag} {mg : Str → Option Value} {H : Hp} {mu : List Addr} {σ : L2.St} {ρ : EnvD} {S : Store} {f : Den} {k : Bool → Store → Option Res} {r : Res} {R : Res → Prop} {Q' : Bool → Hp → Prop} (s : StOk K mg H mu S) (en : EnvOk K mg H mu σ ρ) (h : bndB (f ρ S) k = some r)
    (px : ∀ c ns xs S1, r = .exc c ns xs S1 → PostX K mg W σ H mu c ns xs S1)
    (hk : ∀ b S1 H1 m1, Ext H mu H1 m1 → StOk K mg H1 m1 S1 → EnvOk K mg H1 m1 σ ρ → k b S1 = some r → Q' b H1) : rdt K mg W f σ H Q' := by
  rcases bndB_some h with ⟨b, S1, h1, h2⟩ | ⟨c, ns, xs, S1, h1, h2⟩
  · exact ⟨mu, S, ρ, _, s, en, h1, fun H1 m1 x s1 => hk b S1 H1 m1 x s1 (en.mono x) h2⟩
  · exact ⟨mu, S, ρ, _, s, en, h1, px _ _ _ _ h2⟩
def PostT (K : PySem.W.Frag) (mg : Str → Option Value) (W : WX) (σ : L2.St) (H : Hp) (mu : List Addr) (Q : Bool → Hp → Prop) (r : Res) : Prop := match r with
  | .ok (.bl b) S' => ∀ (H' : Hp) (mu' : List Addr), Ext H mu H' mu' → StOk K mg H' mu' S' → Q b H'
  | .ok _ _ => False
  | .exc c ns xs S' => PostX K mg W σ H mu c ns xs S'
theorem PostT.mono {K : PySem.W.Frag} {mg : Str → Option Value} {H H' : Hp} {mu mu' : List Addr} {σ : L2.St} {Q : Bool → Hp → Prop} {r : Res} (e : Ext H mu H' mu') (p : PostT K mg W σ H mu Q r) : PostT K mg W σ H' mu' Q r := by
  cases r with
  | ok d S => cases d <;> first | exact False.elim p | exact fun H2 m2 e2 => p H2 m2 (e.trans e2)
  | exc c ns xs S => exact PostX.mono e p
theorem rdt_iff {K : PySem.W.Frag} {mg : Str → Option Value} {f : Den} {σ : L2.St} {H : Hp} {Q : Bool → Hp → Prop} : rdt K mg W f σ H Q ↔ ∃ mu S ρ r, StOk K mg H mu S ∧ EnvOk K mg H mu σ ρ ∧ f ρ S = some r ∧ PostT K mg W σ H mu Q r := Iff.rfl
theorem PostT.exc {K : PySem.W.Frag} {mg : Str → Option Value} {H : Hp} {mu : List Addr} {σ : L2.St} {Q : Bool → Hp → Prop} {r : Res} (p : PostT K mg W σ H mu Q r) : ∀ c ns xs S1, r = .exc c ns xs S1 → PostX K mg W σ H mu c ns xs S1 := fun c ns xs S1 h => by subst h; exact p
theorem PostT.bl {K : PySem.W.Frag} {mg : Str → Option Value} {H : Hp} {mu : List Addr} {σ : L2.St} {Q : Bool → Hp → Prop} {b : Bool} {S : Store} (p : PostT K mg W σ H mu Q (.ok (.bl b) S)) (s : StOk K mg H mu S) : Q b H := p H mu (Ext.refl _ _) s
/-- tests joined: DW has no 'whole' -/
def DW (X : Cx) (W : WX) (e : Expr) (f : Den) : Prop := PW X e (rdt X.K X.mg W f)
theorem DW.dt {e : Expr} {f : Den} (h : DW X W e f) : DT X W e f := PW.pt h
theorem pwI {t t' : TT} (h : PW X e t) (i : ∀ σ H Q, t' σ H Q → t σ H Q) : PW X e t' := ⟨fun wh pins s σ H Q I q => h.run wh pins s σ H Q I (i σ H Q q)⟩
variable {rest : List Expr}
theorem dw_and1 (ha : DT X W a fa) : DW X W (.BoolOp .And [a] pos) fa := pw_and1 ha
theorem dw_or1 (ha : DT X W a fa) : DW X W (.BoolOp .Or [a] pos) fa := pw_or1 ha
theorem dw_and (ha : DT X W a fa) (hb : DW X W (.BoolOp .And (b :: rest) pos) fb) : DW X W (.BoolOp .And (a :: b :: rest) pos) (dAnd fa fb) := by
  refine pwI (pw_and ha hb) fun σ H Q h => ?_
  obtain ⟨mu, S, ρ, r, s, en, hf, p⟩ := h
  have p' : PostT X.K X.mg W σ H mu Q r := p
  refine rdt_bnd (R := fun _ => True) s en hf p'.exc fun b S1 H1 m1 x s1 en1 h1 => ?_
  have p1 := PostT.mono x p'
  cases b with
  | true => exact ⟨m1, S1, ρ, r, s1, en1, h1, p1⟩
  | false => cases h1; exact p1.bl s1
theorem dw_or (ha : DT X W a fa) (hb : DW X W (.BoolOp .Or (b :: rest) pos) fb) : DW X W (.BoolOp .Or (a :: b :: rest) pos) (dOr fa fb) := by
  refine pwI (pw_or ha hb) fun σ H Q h => ?_
  obtain ⟨mu, S, ρ, r, s, en, hf, p⟩ := h
  have p' : PostT X.K X.mg W σ H mu Q r := p
  refine rdt_bnd (R := fun _ => True) s en hf p'.exc fun b S1 H1 m1 x s1 en1 h1 => ?_
  have p1 := PostT.mono x p'
  cases b with
  | true => cases h1; exact p1.bl s1
  | false => exact ⟨m1, S1, ρ, r, s1, en1, h1, p1⟩
theorem dt_not (ha : DT X W a fa) : DT X W (.UnaryOp .Not a pos) (dNot fa) := by
  refine ptI (pt_not ha) fun σ H Q h => ?_
  obtain ⟨mu, S, ρ, r, s, en, hf, p⟩ := h
  have p' : PostT X.K X.mg W σ H mu Q r := p
  refine rdt_bnd (R := fun _ => True) s en hf p'.exc fun b S1 H1 m1 x s1 en1 h1 => ?_
  have p1 := PostT.mono x p'
  cases h1
  exact p1.bl s1
/-- as values -/
theorem de_one {op} (ha : DE X W a fa) : DE X W (.BoolOp op [a] pos) fa := pe_one ha
theorem de_and (ha : DE X W a fa) (hb : DE X W (.BoolOp .And (b :: rest) pos) fb) : DE X W (.BoolOp .And (a :: b :: rest) pos) (dAnd fa fb) := by
  refine peI (pe_and ha hb) fun σ H Q h => ?_
  obtain ⟨mu, S, ρ, r, s, en, hf, p⟩ := h
  rcases bndB_some hf with ⟨b, S1, h1, h2⟩ | ⟨c, ns, xs, S1, h1, rfl⟩
  · refine ⟨mu, S, ρ, _, s, en, h1, fun v H1 m1 x s1 rp => ?_⟩
    cases rp
    refine ⟨_, rfl, ?_⟩
    cases b with
    | true => exact ⟨m1, S1, ρ, r, s1, en.mono x, h2, p.mono x⟩
    | false => cases h2; exact (p.mono x).val s1 (.bl _)
  · exact ⟨mu, S, ρ, _, s, en, h1, p⟩
theorem de_or (ha : DE X W a fa) (hb : DE X W (.BoolOp .Or (b :: rest) pos) fb) : DE X W (.BoolOp .Or (a :: b :: rest) pos) (dOr fa fb) := by
  refine peI (pe_or ha hb) fun σ H Q h => ?_
  obtain ⟨mu, S, ρ, r, s, en, hf, p⟩ := h
  rcases bndB_some hf with ⟨b, S1, h1, h2⟩ | ⟨c, ns, xs, S1, h1, rfl⟩
  · refine ⟨mu, S, ρ, _, s, en, h1, fun v H1 m1 x s1 rp => ?_⟩
    cases rp
    refine ⟨_, rfl, ?_⟩
    cases b with
    | false => exact ⟨m1, S1, ρ, r, s1, en.mono x, h2, p.mono x⟩
    | true => cases h2; exact (p.mono x).val s1 (.bl _)
  · exact ⟨mu, S, ρ, _, s, en, h1, p⟩
theorem de_not (ha : DE X W a fa) : DE X W (.UnaryOp .Not a pos) (dNot fa) := by
  refine peI (pe_not ha) fun σ H Q h => ?_
  obtain ⟨mu, S, ρ, r, s, en, hf, p⟩ := h
  rcases bndB_some hf with ⟨b, S1, h1, h2⟩ | ⟨c, ns, xs, S1, h1, rfl⟩
  · refine ⟨mu, S, ρ, _, s, en, h1, fun v H1 m1 x s1 rp => ?_⟩
    cases rp
    cases h2
    exact ⟨_, rfl, (p.mono x).val s1 (.bl _)⟩
  · exact ⟨mu, S, ρ, _, s, en, h1, p⟩
/-- not, of any value by its truth -/
def dNotT (f : Den) : Den := dNot (dTru f)
def dIf (t f g : Den) : Den := fun ρ S => bndB (t ρ S) fun b S1 => if b then f ρ S1 else g ρ S1
theorem de_if {ft : Den} (hc : DT X W c ft) (ha : DE X W a fa) (hb : DE X W b fb) : DE X W (.IfExp c a b pos) (dIf ft fa fb) := by
  refine peI (pe_ifExp hc ha hb) fun σ H Q h => ?_
  obtain ⟨mu, S, ρ, r, s, en, hf, p⟩ := h
  refine rdt_bnd (R := fun _ => True) s en hf (fun c ns xs S1 h => by subst h; exact p) fun b S1 H1 m1 x s1 en1 h1 => ?_
  cases b with
  | true => exact iteT ⟨m1, S1, ρ, r, s1, en1, h1, p.mono x⟩
  | false => exact iteF ⟨m1, S1, ρ, r, s1, en1, h1, p.mono x⟩
end
end PD
set_option Elab.async false
set_option linter.all false
set_option maxRecDepth 100000
set_option maxHeartbeats 4000000
namespace PD
open PySem PySem.Spec PyProof.Rows L2
section
variable {X : Cx} {W : WX} {a b c e : Expr} {es : List Expr} {fa fb fc : Den} {ga gb : Dens} {pos p p1 p2 : Pos}

/-! ### lists of expressions, displays -/
def dNil : Dens := fun _ S => some (.ok [] S)
def dCons (f : Den) (g : Dens) : Dens := fun ρ S => bnds (f ρ S) fun d S1 => bndls (g ρ S1) fun ds S2 => some (.ok (d :: ds) S2)
def dStar (f : Den) (g : Dens) : Dens := fun ρ S => bnds (f ρ S) fun d S1 => match asSeq S1 d with
  | some xs => bndls (g ρ S1) fun ds S2 => some (.ok (xs ++ ds) S2)
  | none => none
theorem da_nil : DA X W [] dNil := by
  refine paI pa_nil fun σ H Q h => ?_
  obtain ⟨mu, S, ρ, r, s, en, hf, q⟩ := h
  cases hf
  exact q [] H mu (Ext.refl _ _) s .nil
theorem da_cons (ha : DE X W e fa) (hr : DA X W es ga) (hs : starEach (e :: es) X.env = (false, eval e X.env) :: starEach es X.env := by rfl) : DA X W (e :: es) (dCons fa ga) := by
  refine paI (pa_cons ha hr hs) fun σ H Q h => ?_
  obtain ⟨mu, S, ρ, r, s, en, hf, q⟩ := h
  refine rd_bnds s en hf q fun d S1 v H1 m1 x s1 en1 rp h1 q1 => ?_
  refine rds_bndls s1 en1 h1 q1 fun ds S2 vs H2 m2 x2 s2 en2 rp2 h2 q2 => ?_
  cases h2
  exact q2 _ H2 m2 (Ext.refl _ _) s2 (.cons (rp.mono x2) rp2)
theorem da_star (ha : DE X W e fa) (hr : DA X W es ga) (hs : starEach (.Starred e p :: es) X.env = (true, eval e X.env) :: starEach es X.env := by rfl) : DA X W (.Starred e p :: es) (dStar fa ga) := by
  refine paI (StX.pa_star ha hr hs) fun σ H Q h => ?_
  obtain ⟨mu, S, ρ, r, s, en, hf, q⟩ := h
  refine rd_bnds s en hf q fun d S1 v H1 m1 x s1 en1 rp h1 q1 => ?_
  cases e1 : asSeq S1 d with
  | none => rw [e1] at h1; cases h1
  | some xs =>
    rw [e1] at h1
    obtain ⟨a, vs, rfl, hq, rv⟩ := rep_seq s1 rp e1
    refine ⟨a, vs, rfl, hq.symm, ?_⟩
    refine rds_bndls s1 en1 h1 q1 fun ds S2 ws H2 m2 x2 s2 en2 rp2 h2 q2 => ?_
    cases h2
    exact q2 _ H2 m2 (Ext.refl _ _) s2 ((rv.mono x2).append rp2)
def fits (n : Nat) : Bool := decide (n ≤ 16777216)
theorem fits_ok {n : Nat} (h : fits n = true) : n ≤ sizeLine := by rw [line_eq]; exact of_decide_eq_true h
def dTup (g : Dens) : Den := fun ρ S => bndl (g ρ S) fun ds S1 => if fits ds.length then some (.ok (.tup ds) S1) else none
def dLst (g : Dens) : Den := fun ρ S => bndl (g ρ S) fun ds S1 => if fits ds.length then some (.ok (.lst ds) S1) else none
/-- a displayed list that may change later -/
def dLstM (g : Dens) : Den := fun ρ S => bndl (g ρ S) fun ds S1 => if fits ds.length then some (.ok (.ref S1.length) (S1 ++ [ds])) else none
theorem de_tup {x1} (h : DA X W es ga) : DE X W (.Tuple es x1 pos) (dTup ga) := by
  refine peI (pe_tup h) fun σ H Q q => ?_
  obtain ⟨mu, S, ρ, r, s, en, hf, q⟩ := q
  refine rds_bndl s en hf q fun ds S1 vs H1 m1 x s1 en1 rp h1 q1 => ?_
  split at h1
  · rename_i hz
    cases h1
    exact ⟨by rw [rp.length]; exact fits_ok hz, q1.tup s1 rp⟩
  · cases h1
theorem de_lst (h : DA X W es ga) : DE X W (.List es pos) (dLst ga) := by
  refine peI (pe_lst h) fun σ H Q q => ?_
  obtain ⟨mu, S, ρ, r, s, en, hf, q⟩ := q
  refine rds_bndl s en hf q fun ds S1 vs H1 m1 x s1 en1 rp h1 q1 => ?_
  split at h1
  · rename_i hz
    cases h1
    exact ⟨by rw [rp.length]; exact fits_ok hz, q1.lst s1 rp⟩
  · cases h1
theorem de_lstM (h : DA X W es ga) : DE X W (.List es pos) (dLstM ga) := by
  refine peI (pe_lst h) fun σ H Q q => ?_
  obtain ⟨mu, S, ρ, r, s, en, hf, q⟩ := q
  refine rds_bndl s en hf q fun ds S1 vs H1 m1 x s1 en1 rp h1 q1 => ?_
  split at h1
  · rename_i hz
    cases h1
    exact ⟨by rw [rp.length]; exact fits_ok hz, q1.mut s1 rp⟩
  · cases h1

/-! ### subscripts, slices -/
def oIx : Op2 := fun o i S => match i with
  | .int k => (match o with
    | .str z => if fits z.length then (atI z.cps.toList k).map fun c => .ok (.str ⟨#[c]⟩) S else none
    | o => match asSeq S o with
      | some xs => (atI xs k).map fun d => .ok d S
      | none => none)
  | _ => none
theorem reps_at {H : Hp} {mu : List Addr} {vs : List V} {ds : List D} {k : Int} {d : D} (r : Reps X.K X.mg H mu vs ds) (h : atI ds k = some d) : ∃ v, atI vs k = some v ∧ Rep X.K X.mg H mu v d := by
  unfold atI at h ⊢
  rw [r.length]
  cases e : ixN ds.length k with
  | none => rw [e] at h; cases h
  | some j =>
    rw [e] at h
    obtain ⟨v, h1, h2⟩ := r.get h
    exact ⟨v, h1, h2⟩
theorem opD_ix : OpD X (rIx X.K) oIx := by
  intro H mu S x y a b res W σ Q s ra rb ho p
  unfold oIx at ho
  cases b <;> try (cases ho; done)
  rename_i k
  cases rb
  have seqs : (match asSeq S a with | some xs => (atI xs k).map fun d => Res.ok d S | none => none) = some res → rIx X.K x (.int k) H Q := fun ho => by
    cases e : asSeq S a with
    | none => rw [e] at ho; cases ho
    | some xs =>
      rw [e] at ho
      obtain ⟨d, h1, rfl⟩ := Option.map_eq_some_iff.mp ho
      obtain ⟨q, vs, rfl, hq, rv⟩ := rep_seq s ra e
      obtain ⟨v, h2, h3⟩ := reps_at rv h1
      rcases hq with hq | hq
      · exact .inl ⟨q, vs, k, v, rfl, rfl, hq, h2, p.val s h3⟩
      · exact .inr (.inl ⟨q, vs, k, v, rfl, rfl, hq, h2, p.val s h3⟩)
  cases a <;> first | exact seqs ho | skip
  simp only at ho
  split at ho
  · rename_i hz
    obtain ⟨ch, h1, rfl⟩ := Option.map_eq_some_iff.mp ho
    cases ra
    exact .inr (.inr ⟨_, k, ch, rfl, rfl, fits_ok hz, h1, p.val s (.str _)⟩)
  · cases ho
theorem de_ix (ha : DE X W a fa) (hb : DE X W b fb) (hs : PlainIx b := by intro _ _; rfl) : DE X W (.Subscript a b pos) (dBin oIx fa fb) := peI (pe_ix ix_seq ha hb hs) fun σ H Q h => rd_bin opD_ix h
def cutD (xs : List D) (lo hi : Option Int) : List D := (xs.drop (HT.sIx xs.length 0 lo)).take (HT.sIx xs.length xs.length hi - HT.sIx xs.length 0 lo)
theorem reps_cut {H : Hp} {mu : List Addr} {vs : List V} {ds : List D} (r : Reps X.K X.mg H mu vs ds) (lo hi : Option Int) : Reps X.K X.mg H mu (cutV vs lo hi) (cutD ds lo hi) := by
  unfold cutV cutD
  rw [r.length]
  exact (r.drop _).take _
/-- the parts of a slice -/
def dPart (o : Option Den) (ρ : EnvD) (S : Store) (k : Option Int → Store → Option Res) : Option Res := match o with
  | none => k none S
  | some f => bnd (f ρ S) fun d S1 => match d with
    | .int i => k (some i) S1
    | _ => none
def DO (X : Cx) (W : WX) (e : Option Expr) (o : Option Den) : Prop := match e, o with
  | none, none => True
  | some e, some f => DE X W e f
  | _, _ => False
def roP (K : PySem.W.Frag) (mg : Str → Option Value) (W : WX) (o : Option Den) : TO := match o with
  | none => tNoPart
  | some f => tPart (rd K mg W f)
theorem po_of {eo : Option Expr} {o : Option Den} (h : DO X W eo o) : PO X eo (roP X.K X.mg W o) := by
  cases eo with
  | none => cases o with
    | none => exact po_none
    | some f => exact h.elim
  | some e => cases o with
    | none => exact h.elim
    | some f => exact po_some (show DE X W e f from h)
theorem ro_part {o : Option Den} {σ : L2.St} {H : Hp} {mu : List Addr} {S : Store} {ρ : EnvD} {k : Option Int → Store → Option Res} {r : Res} {Q : VK} {Q' : Option Int → Hp → Prop} (s : StOk X.K X.mg H mu S) (en : EnvOk X.K X.mg H mu σ ρ) (h : dPart o ρ S k = some r) (q : Post X.K X.mg W σ H mu Q r)
    (hk : ∀ i S1 H1 m1, Ext H mu H1 m1 → StOk X.K X.mg H1 m1 S1 → EnvOk X.K X.mg H1 m1 σ ρ → k i S1 = some r → Post X.K X.mg W σ H1 m1 Q r → Q' i H1) : roP X.K X.mg W o σ H Q' := by
  cases o with
  | none => exact hk none S H mu (Ext.refl _ _) s en h q
  | some f =>
    refine rd_bnd s en h q fun d S1 v H1 m1 x s1 en1 rp h1 q1 => ?_
    cases d <;> try (cases h1; done)
    cases rp
    exact ⟨_, rfl, hk _ S1 H1 m1 x s1 en1 h1 q1⟩
def oCut (o : D) (lo hi : Option Int) (S : Store) : Option Res := match o with
  | .tup xs => some (.ok (.tup (cutD xs lo hi)) S)
  | o => match asList S o with
    | some xs => some (.ok (.lst (cutD xs lo hi)) S)
    | none => none
def dCut (f : Den) (lo hi : Option Den) : Den := fun ρ S => bnd (f ρ S) fun o S1 => dPart lo ρ S1 fun i S2 => dPart hi ρ S2 fun j S3 => oCut o i j S3
theorem cut_whole (xs : List D) {lo hi : Option Int} (h : HT.sIx xs.length 0 lo = 0 ∧ HT.sIx xs.length xs.length hi = xs.length) : cutD xs lo hi = xs := by
  unfold cutD
  rw [h.1, h.2]
  simp
theorem de_cut {lo hi : Option Expr} {dl dh : Option Den} (ha : DE X W a fa) (hl : DO X W lo dl) (hh : DO X W hi dh) : DE X W (.Subscript a (.Slice lo hi none p2) pos) (dCut fa dl dh) := by
  refine peI (pe_slice (sl_list.or sl_tupA) ha (po_of hl) (po_of hh)) fun σ H Q h => ?_
  obtain ⟨mu, S, ρ, res, s, en, hf, q⟩ := h
  refine rd_bnd s en hf q fun d S1 v H1 m1 x s1 en1 rp h1 q1 => ?_
  refine ro_part s1 en1 h1 q1 fun i S2 H2 m2 x2 s2 en2 h2 q2 => ?_
  refine ro_part s2 en2 h2 q2 fun j S3 H3 m3 x3 s3 en3 h3 q3 => ?_
  have rp3 := (rp.mono x2).mono x3
  have lists : (match asList S3 d with | some xs => some (Res.ok (.lst (cutD xs i j)) S3) | none => none) = some res → rSlL X.K v i j H3 Q ∨ rSlA X.K v i j H3 Q := fun h3 => by
    cases e : asList S3 d with
    | none => rw [e] at h3; cases h3
    | some xs =>
      rw [e] at h3
      cases h3
      obtain ⟨z, vs, rfl, hz, rv⟩ := rep_list s3 rp3 e
      exact .inl ⟨z, vs, rfl, .of hz, q3.lst s3 (reps_cut rv i j)⟩
  cases d <;> first | exact lists h3 | skip
  cases h3
  cases rp3 with
  | tup hq rv =>
    refine .inr ⟨_, _, rfl, hq.sq, fun hw => ?_, fun _ => q3.tup s3 (reps_cut rv i j)⟩
    rw [rv.length] at hw
    rw [cut_whole _ hw] at q3
    exact q3.val s3 (.tup hq rv)

/-! ### calls of built-ins -/
abbrev Op := List D → Store → Option Res
def dCall (op : Op) (g : Dens) : Den := fun ρ S => bndl (g ρ S) op
def CallD (X : Cx) (r : List V → Hp → VK → Prop) (op : Op) : Prop := ∀ (H : Hp) (mu : List Addr) (S : Store) (vs : List V) (ds : List D) (res : Res) (W : WX) (σ : L2.St) (Q : VK), StOk X.K X.mg H mu S → Reps X.K X.mg H mu vs ds → op ds S = some res → Post X.K X.mg W σ H mu Q res → r vs H Q
theorem rd_call {r : List V → Hp → VK → Prop} {op : Op} (hd : CallD X r op) {σ : L2.St} {H : Hp} {Q : VK} (h : rd X.K X.mg W (dCall op ga) σ H Q) : tCB r (rds X.K X.mg W ga) σ H Q := by
  obtain ⟨mu, S, ρ, res, s, en, hf, q⟩ := h
  refine rds_bndl s en hf q fun ds S1 vs H1 m1 x s1 en1 rp h1 q1 => ?_
  exact hd H1 m1 S1 vs ds res W σ Q s1 rp h1 q1
theorem de_callB {id : String} {x : Str} {r : List V → Hp → VK → Prop} {op : Op} (hc : CallR X (.builtin id) r) (hd : CallD X r op) (hv : bootBuiltins x = some (.builtin id)) (hm : X.mg x = none) (ha : DA X W (e :: es) ga) (hg : Gl X x := by rfl) (hn : x ≠ "__name__" := by decide) (hdb : (x == ("__debug__" : Str)) = false := by decide)
    (he : starEach (e :: es) X.env = (false, eval e X.env) :: starEach es X.env := by rfl) (hpl : (backTo pos (starEach es X.env)).any (·.1) = false := by rfl) : DE X W (.Call (.Name x p) (e :: es) [] pos) (dCall op ga) :=
  peI (pe_callB hc hg hm hv ha hn hdb he hpl) fun σ H Q h => rd_call hd h
theorem de_callTy {T : String} {x : Str} {r : List V → Hp → VK → Prop} {op : Op} (hc : CallR X (.type T) r) (hd : CallD X r op) (hv : bootBuiltins x = some (.type T)) (hm : X.mg x = none) (ha : DA X W (e :: es) ga) (hg : Gl X x := by rfl) (hn : x ≠ "__name__" := by decide) (hdb : (x == ("__debug__" : Str)) = false := by decide)
    (he : starEach (e :: es) X.env = (false, eval e X.env) :: starEach es X.env := by rfl) (hpl : (backTo pos (starEach es X.env)).any (·.1) = false := by rfl) : DE X W (.Call (.Name x p) (e :: es) [] pos) (dCall op ga) :=
  peI (pe_callTy hc hg hm hv ha hn hdb he hpl) fun σ H Q h => rd_call hd h
/-- a name of the module that stands for a built-in function -/
theorem de_callM {id : String} {x : Str} {r : List V → Hp → VK → Prop} {op : Op} (hc : CallR X (.builtin id) r) (hd : CallD X r op) (hm : X.mg x = some (.builtin id)) (ha : DA X W (e :: es) ga) (hg : Gl X x := by rfl) (hdb : (x == ("__debug__" : Str)) = false := by decide)
    (he : starEach (e :: es) X.env = (false, eval e X.env) :: starEach es X.env := by rfl) (hpl : (backTo pos (starEach es X.env)).any (·.1) = false := by rfl) : DE X W (.Call (.Name x p) (e :: es) [] pos) (dCall op ga) :=
  peI (pe_callBfun hc hg hm ha hdb he hpl) fun σ H Q h => rd_call hd h
theorem reps1 {H : Hp} {mu : List Addr} {vs : List V} {d : D} (r : Reps X.K X.mg H mu vs [d]) : ∃ v, vs = [v] ∧ Rep X.K X.mg H mu v d := by
  cases r with
  | cons h t => cases t; exact ⟨_, rfl, h⟩
theorem reps2 {H : Hp} {mu : List Addr} {vs : List V} {d d2 : D} (r : Reps X.K X.mg H mu vs [d, d2]) : ∃ v v2, vs = [v, v2] ∧ Rep X.K X.mg H mu v d ∧ Rep X.K X.mg H mu v2 d2 := by
  cases r with
  | cons h t => cases t with
    | cons h2 t => cases t; exact ⟨_, _, rfl, h, h2⟩
/-- len -/
def oLen : Op := fun ds S => match ds with
  | [.str z] => if fits z.length then some (.ok (.int z.length) S) else none
  | [d] => (asSeq S d).map fun xs => .ok (.int xs.length) S
  | _ => none
abbrev rLenA (K : PySem.W.Frag) : List V → Hp → VK → Prop := fun xs H Q => (∃ p ys, xs = [.ref p] ∧ (SqL K H p ys ∨ SqT K H p ys) ∧ Q (.int ys.length) H) ∨ (∃ z, xs = [.str z] ∧ z.length ≤ sizeLine ∧ Q (.int z.length) H)
theorem callD_len : CallD X (rLenA X.K) oLen := by
  intro H mu S vs ds res W σ Q s r ho q
  match ds, ho with
  | [d], ho =>
    obtain ⟨v, rfl, rv⟩ := reps1 r
    have seqs : ((asSeq S d).map fun xs => Res.ok (.int xs.length) S) = some res → rLenA X.K [v] H Q := fun ho => by
      obtain ⟨xs, h1, rfl⟩ := Option.map_eq_some_iff.mp ho
      obtain ⟨a, ws, rfl, hq, rw_⟩ := rep_seq s rv h1
      refine .inl ⟨a, ws, rfl, hq, ?_⟩
      rw [rw_.length]
      exact q.val s (.int _)
    cases d <;> first | exact seqs ho | skip
    simp only [oLen] at ho
    split at ho
    · cases ho; cases rv
      exact .inr ⟨_, rfl, fits_ok (by assumption), q.val s (.int _)⟩
    · cases ho
  | d :: d2 :: ds, ho => cases d <;> cases ho
theorem de_len (hm : X.mg "len" = none) (ha : DA X W (e :: es) ga) (hg : Gl X "len" := by rfl) (he : starEach (e :: es) X.env = (false, eval e X.env) :: starEach es X.env := by rfl) (hpl : (backTo pos (starEach es X.env)).any (·.1) = false := by rfl) :
    DE X W (.Call (.Name "len" p) (e :: es) [] pos) (dCall oLen ga) := de_callB (call_len_seq.or call_len_str) callD_len PySem.boot_len hm ha hg (by decide) (by decide) he hpl
/-- gcd -/
def oGcd : Op := fun ds S => match ds with
  | [.int a, .int b] => some (.ok (.int ((Nat.gcd a.natAbs b.natAbs : Nat) : Int)) S)
  | _ => none
theorem callD_gcd : CallD X rGcd oGcd := by
  intro H mu S vs ds res W σ Q s r ho q
  unfold oGcd at ho
  split at ho
  · cases ho
    obtain ⟨v, v2, rfl, r1, r2⟩ := reps2 r
    cases r1; cases r2
    exact ⟨_, _, rfl, q.val s (.int _)⟩
  · cases ho
/-- all, any of a list of truth values -/
def bools : List D → Option (List Bool)
  | [] => some []
  | .bl b :: ds => (bools ds).map (b :: ·)
  | _ :: _ => none
theorem bools_ok {H : Hp} {mu : List Addr} : ∀ {vs : List V} {ds : List D} {bs : List Bool}, Reps X.K X.mg H mu vs ds → bools ds = some bs → vs = bs.map V.bl
  | _, _, _, .nil, h => by cases h; rfl
  | _, _, bs, .cons (d := d) (ds := ds) r t, h => by
    cases d <;> try (cases h; done)
    simp only [bools] at h
    obtain ⟨cs, h1, rfl⟩ := Option.map_eq_some_iff.mp h
    cases r
    rw [bools_ok t h1]
    rfl
def oAll : Op := fun ds S => match ds with
  | [d] => ((asList S d).bind bools).map fun bs => .ok (.bl (bs.all id)) S
  | _ => none
def oAny : Op := fun ds S => match ds with
  | [d] => ((asList S d).bind bools).map fun bs => .ok (.bl (bs.any id)) S
  | _ => none
theorem bind_two {α β : Type} {o : Option α} {f : α → Option β} {b : β} (h : o.bind f = some b) : ∃ a, o = some a ∧ f a = some b := by
  cases o with
  | none => cases h
  | some a => exact ⟨a, rfl, h⟩
theorem callD_all : CallD X (rAll X.K) oAll := by
  intro H mu S vs ds res W σ Q s r ho q
  match ds, ho with
  | [d], ho =>
    obtain ⟨v, rfl, rv⟩ := reps1 r
    obtain ⟨bs, h1, rfl⟩ := Option.map_eq_some_iff.mp ho
    obtain ⟨xs, h2, h3⟩ := bind_two h1
    obtain ⟨a, ws, rfl, hq, rw_⟩ := rep_list s rv h2
    have e := bools_ok rw_ h3
    subst e
    exact ⟨a, bs, rfl, .of hq, q.val s (.bl _)⟩
theorem callD_any : CallD X (rAny X.K) oAny := by
  intro H mu S vs ds res W σ Q s r ho q
  match ds, ho with
  | [d], ho =>
    obtain ⟨v, rfl, rv⟩ := reps1 r
    obtain ⟨bs, h1, rfl⟩ := Option.map_eq_some_iff.mp ho
    obtain ⟨xs, h2, h3⟩ := bind_two h1
    obtain ⟨a, ws, rfl, hq, rw_⟩ := rep_list s rv h2
    have e := bools_ok rw_ h3
    subst e
    exact ⟨a, bs, rfl, .of hq, q.val s (.bl _)⟩
/-- sum of a list, max and min of two, int(), list(), tuple() -/
def intsD : List D → Option (List Int)
  | [] => some []
  | .int i :: ds => (intsD ds).map (i :: ·)
  | _ :: _ => none
theorem ints_ok {H : Hp} {mu : List Addr} : ∀ {vs : List V} {ds : List D} {bs : List Int}, Reps X.K X.mg H mu vs ds → intsD ds = some bs → vs = bs.map V.int
  | _, _, _, .nil, h => by cases h; rfl
  | _, _, bs, .cons (d := d) (ds := ds) r t, h => by
    cases d <;> try (cases h; done)
    simp only [intsD] at h
    obtain ⟨cs, h1, rfl⟩ := Option.map_eq_some_iff.mp h
    cases r
    rw [ints_ok t h1]
    rfl
theorem ints_map (ns : List Int) : intsD (ns.map D.int) = some ns := by
  induction ns with
  | nil => rfl
  | cons n ns ih => simp [intsD, ih]
def oMax2 : Op := fun ds S => match ds with
  | [.int i, .int j] => some (.ok (.int (if j > i then j else i)) S)
  | _ => none
def oMin2 : Op := fun ds S => match ds with
  | [.int i, .int j] => some (.ok (.int (if j < i then j else i)) S)
  | _ => none
theorem callD_max2 : CallD X (fun xs H Q => ∃ i j, xs = [.int i, .int j] ∧ Q (.int (if j > i then j else i)) H) oMax2 := by
  intro H mu S vs ds res W σ Q s r ho q
  unfold oMax2 at ho
  split at ho
  · cases ho
    obtain ⟨v, v2, rfl, r1, r2⟩ := reps2 r
    cases r1; cases r2
    exact ⟨_, _, rfl, q.val s (.int _)⟩
  · cases ho
theorem callD_min2 : CallD X (fun xs H Q => ∃ i j, xs = [.int i, .int j] ∧ Q (.int (if j < i then j else i)) H) oMin2 := by
  intro H mu S vs ds res W σ Q s r ho q
  unfold oMin2 at ho
  split at ho
  · cases ho
    obtain ⟨v, v2, rfl, r1, r2⟩ := reps2 r
    cases r1; cases r2
    exact ⟨_, _, rfl, q.val s (.int _)⟩
  · cases ho
def oInt1 : Op := fun ds S => match ds with
  | [.int i] => some (.ok (.int i) S)
  | [.bl k] => some (.ok (.int (if k then 1 else 0)) S)
  | _ => none
theorem callD_int1 : CallD X (fun xs H Q => (∃ i, xs = [.int i] ∧ Q (.int i) H) ∨ ∃ k, xs = [.bl k] ∧ Q (.int (if k then 1 else 0)) H) oInt1 := by
  intro H mu S vs ds res W σ Q s r ho q
  unfold oInt1 at ho
  split at ho
  · cases ho
    obtain ⟨v, rfl, r1⟩ := reps1 r
    cases r1
    exact .inl ⟨_, rfl, q.val s (.int _)⟩
  · cases ho
    obtain ⟨v, rfl, r1⟩ := reps1 r
    cases r1
    exact .inr ⟨_, rfl, q.val s (.int _)⟩
  · cases ho
def oList1 : Op := fun ds S => match ds with
  | [d] => (asSeq S d).map fun xs => .ok (.lst xs) S
  | _ => none
def oListM : Op := fun ds S => match ds with
  | [d] => (asSeq S d).map fun xs => .ok (.ref S.length) (S ++ [xs])
  | _ => none
def oTuple1 : Op := fun ds S => match ds with
  | [.tup xs] => some (.ok (.tup xs) S)
  | [d] => (asList S d).map fun xs => .ok (.tup xs) S
  | _ => none
abbrev rListOf (K : PySem.W.Frag) : List V → Hp → VK → Prop := fun xs H Q => ∃ p ys, xs = [.ref p] ∧ (SqL K H p ys ∨ SqT K H p ys) ∧ ∀ l, H l = none → Q (.ref l) (upd H l (.lst ys))
theorem callD_list1 : CallD X (rListOf X.K) oList1 := by
  intro H mu S vs ds res W σ Q s r ho q
  match ds, ho with
  | [d], ho =>
    obtain ⟨v, rfl, rv⟩ := reps1 r
    obtain ⟨xs, h1, rfl⟩ := Option.map_eq_some_iff.mp ho
    obtain ⟨a, ws, rfl, hq, rw_⟩ := rep_seq s rv h1
    exact ⟨a, ws, rfl, hq, q.lst s rw_⟩
theorem callD_listM : CallD X (rListOf X.K) oListM := by
  intro H mu S vs ds res W σ Q s r ho q
  match ds, ho with
  | [d], ho =>
    obtain ⟨v, rfl, rv⟩ := reps1 r
    obtain ⟨xs, h1, rfl⟩ := Option.map_eq_some_iff.mp ho
    obtain ⟨a, ws, rfl, hq, rw_⟩ := rep_seq s rv h1
    exact ⟨a, ws, rfl, hq, q.mut s rw_⟩
abbrev rTupleOf (K : PySem.W.Frag) : List V → Hp → VK → Prop := fun xs H Q => ∃ p ys, xs = [.ref p] ∧ ((SqL K H p ys ∧ ∀ l, H l = none → Q (.ref l) (upd H l (.tup ys))) ∨ (SqT K H p ys ∧ Q (.ref p) H))
theorem callD_tuple1 : CallD X (rTupleOf X.K) oTuple1 := by
  intro H mu S vs ds res W σ Q s r ho q
  match ds, ho with
  | [d], ho =>
    obtain ⟨v, rfl, rv⟩ := reps1 r
    have lists : ((asList S d).map fun xs => Res.ok (.tup xs) S) = some res → rTupleOf X.K [v] H Q := fun ho => by
      obtain ⟨xs, h1, rfl⟩ := Option.map_eq_some_iff.mp ho
      obtain ⟨a, ws, rfl, hq, rw_⟩ := rep_list s rv h1
      exact ⟨a, ws, rfl, .inl ⟨.of hq, q.tup s rw_⟩⟩
    cases d <;> first | exact lists ho | skip
    cases ho
    cases rv with
    | tup hq r2 => exact ⟨_, _, rfl, .inr ⟨hq.sq, q.val s (.tup hq r2)⟩⟩
  | d :: d2 :: ds, ho => cases d <;> cases ho
end
end PD
set_option Elab.async false
set_option linter.all false
set_option maxRecDepth 100000
set_option maxHeartbeats 4000000
namespace PD
open PySem PySem.Spec PyProof.Rows L2

/-! ### isinstance, of built-in types -/
def tyName : D → Option String
  | .non => some "NoneType"
  | .bl _ => some "bool"
  | .int _ => some "int"
  | .str _ => some "str"
  | .tup _ => some "tuple"
  | .lst _ => some "list"
  | .ref _ => some "list"
  | .scr _ => some "list"
  | .err .. => none
  | .cau .. => none
/-- of which built-in types a value of type t is -/
def isTy (t T : String) : Bool := t == T || (t == "bool" && T == "int")
def goodTy (T : String) : Bool := T == "int" || T == "bool" || T == "str" || T == "tuple" || T == "list"
def names6 : List String := ["NoneType", "bool", "int", "str", "tuple", "list"]
theorem isTy_all : (names6.all fun t => ["int", "bool", "str", "tuple", "list"].all fun T => decide (kitB t T = some (isTy t T))) = true := by decide +kernel
theorem isTy_ok {t T : String} (h1 : t ∈ names6) (h2 : goodTy T = true) : kitB t T = some (isTy t T) := by
  have h := List.all_eq_true.mp (List.all_eq_true.mp isTy_all t h1) T (by
    unfold goodTy at h2
    simp only [Bool.or_eq_true, beq_iff_eq] at h2
    rcases h2 with (((h | h) | h) | h) | h <;> subst h <;> simp)
  exact of_decide_eq_true h
theorem tyName_mem {d : D} {t : String} (h : tyName d = some t) : t ∈ names6 := by
  cases d <;> simp [tyName] at h <;> subst h <;> simp [names6]
section
variable {X : Cx} {W : WX} {a b c e : Expr} {es : List Expr} {fa fb fc : Den} {ga gb : Dens} {pos p p1 p2 : Pos}
theorem rep_ty {H : Hp} {mu : List Addr} {S : Store} {v : V} {d : D} {t : String} (s : StOk X.K X.mg H mu S) (r : Rep X.K X.mg H mu v d) (h : tyName d = some t) : TyX X.K H v (.type t) := by
  cases r with
  | non => cases h; exact .base .non
  | bl b => cases h; exact .base (.bl b)
  | int i => cases h; exact .base (.int i)
  | str x => cases h; exact .base (.str x)
  | tup hq r =>
    cases h
    rcases hq with ⟨hq | ⟨o, hq⟩, _⟩ | ⟨o, its, n, h1, h2, _⟩
    · exact .base (.tup hq)
    · exact .fTuple hq
    · exact .kTuple h1 h2
  | lst hq n r => cases h; exact .base (.lst hq)
  | scr hq =>
    cases h
    rcases hq with ⟨hq | ⟨o, hq⟩, _⟩ | ⟨o, its, n, h1, h2, _⟩
    · exact .base (.lst hq)
    · exact .base (.frz hq)
    · exact .kList h1 h2
  | @ref a k hq =>
    cases h
    have hl : k < S.length := by rw [← s.len]; exact (List.getElem?_eq_some_iff.mp hq).1
    obtain ⟨vs, h1, _⟩ := s.at_ k a _ hq (List.getElem?_eq_getElem hl)
    exact .base (.lst h1)
  | err => cases h
  | cau => cases h
def dIsi (T : String) (f : Den) : Den := fun ρ S => bnd (f ρ S) fun d S1 => (tyName d).map fun t => .ok (.bl (isTy t T)) S1
theorem de_isi {T : Str} {Tn : String} (ha : DE X W a fa) (hm : X.mg "isinstance" = none) (hT : X.mg T = none) (hb : bootBuiltins T = some (.type Tn)) (gT : goodTy Tn = true) (hg : Gl X "isinstance" := by rfl) (hg2 : Gl X T := by rfl)
    (hn : T ≠ "__name__" := by decide) (hdb : (T == ("__debug__" : Str)) = false := by decide) (hs : starEach [a, .Name T p2] X.env = (false, eval a X.env) :: starEach [.Name T p2] X.env := by rfl) :
    DE X W (.Call (.Name "isinstance" p1) [a, .Name T p2] [] pos) (dIsi Tn fa) := by
  refine peI (pe_callB call_isi hg hm (by decide +kernel) (pa_cons ha (pa_cons (pe_bltn (v := .ty Tn) hg2 hT hb rfl hn hdb) pa_nil) hs) (by decide) (by decide) hs (by rfl)) fun σ H Q h => ?_
  obtain ⟨mu, S, ρ, res, s, en, hf, q⟩ := h
  refine rd_bnd s en hf q fun d S1 v H1 m1 x s1 en1 rp h1 q1 => ?_
  obtain ⟨t, ht, rfl⟩ := Option.map_eq_some_iff.mp h1
  exact ⟨v, .ty Tn, .type t, .type Tn, isTy t Tn, rfl, .ty Tn, rep_ty s1 rp ht, kit_ty (isTy_ok (tyName_mem ht) gT), q1.val s1 (.bl _)⟩

/-! ### a def's denotation -/
section
variable (K : PySem.W.Frag) (mg : Str → Option Value)
def PostF (H : Hp) (mu : List Addr) (Q : VK) (E : XK) : Res → Prop
  | .ok d S' => ∀ (v : V) (H' : Hp), Ext H mu H' mu → StOk K mg H' mu S' → Rep K mg H' mu v d → Q v H'
  | .exc c ns xs S' => ∀ (C dx : Addr) (vs : List V) (H' : Hp), Ext H mu H' mu → StOk K mg H' mu S' → mg c = some (.ref C) → H' dx = some (.xd (ns.zip vs)) → dx ∉ mu → ns.length = vs.length → Reps K mg H' mu vs xs → E (.ref C) (some dx) H'
/-- a def keeps the denotation F, of n arguments -/
def spD (n : Nat) (F : Op) : Sp := fun vs H Q E => vs.length = n ∧ ∃ mu S ds r, StOk K mg H mu S ∧ Reps K mg H mu vs ds ∧ F ds S = some r ∧ PostF K mg H mu Q E r
end
abbrev FnD (P : Program) (w : World) (K : PySem.W.Frag) (mg : Str → Option Value) (base : Heap) (k : Nat) (f : Addr) (fd : FuncData) (ps : List Str) (F : Op) : Prop := FnOk P w K mg base (L2N.CX P w) k f fd ps (spD K mg ps.length F)
theorem spD_of {n : Nat} {F : Op} {H : Hp} {mu : List Addr} {S : Store} {vs : List V} {ds : List D} {res : Res} {σ : L2.St} {Q : VK} (s : StOk X.K X.mg H mu S) (r : Reps X.K X.mg H mu vs ds) (hl : ds.length = n) (h : F ds S = some res) (q : Post X.K X.mg W σ H mu Q res) :
    spD X.K X.mg n F vs H Q (WE W σ) := by
  refine ⟨r.length.trans hl, mu, S, ds, res, s, r, h, ?_⟩
  cases res with
  | ok d S' => exact fun v H' x s' rp => q v H' mu x s' rp
  | exc c ns xs S' => exact fun C dx vs H' x s' hm hd hn hl rp => q C dx vs H' mu x s' hm hd hn hl rp
/-- a call of n arguments -/
def dFn (n : Nat) (F : Op) (g : Dens) : Den := fun ρ S => bndl (g ρ S) fun ds S1 => if ds.length = n then F ds S1 else none
theorem de_call {k : Nat} {f : Addr} {fd : FuncData} {ps : List Str} {F : Op} {x : Str} (G : FnD X.prog X.w X.K X.mg X.base k f fd ps F) (hr : Room k X.A) (tk : L2N.Takes X W) (hm : X.mg x = some (.ref f)) (hk : PySem.W.keepIn X.K (.ref f) = true) (hb : Binds X.K fd ps [])
    (ha : DA X W (e :: es) ga) (hg : Gl X x := by rfl) (hdb : (x == ("__debug__" : Str)) = false := by decide) (he : starEach (e :: es) X.env = (false, eval e X.env) :: starEach es X.env := by rfl) (hpl : (backTo pos (starEach es X.env)).any (·.1) = false := by rfl) :
    DE X W (.Call (.Name x p) (e :: es) [] pos) (dFn ps.length F ga) := by
  refine peI (pe_callSD (E := WE W) (dvs := []) G hr hg hm hk hb .nil (fun σ => L2N.passAt tk σ) ha hdb he hpl) fun σ H Q h => ?_
  obtain ⟨mu, S, ρ, res, s, en, hf, q⟩ := h
  refine rds_bndl s en hf q fun ds S1 vs H1 m1 x s1 en1 rp h1 q1 => ?_
  split at h1
  · rename_i hl
    rw [List.append_nil]
    exact spD_of s1 rp hl h1 q1
  · cases h1
/-- a call with keywords: pos the places in the parameters of the values as written -/
def permL {α : Type} (ix : List Nat) (xs : List α) : List α := ix.filterMap fun i => xs[i]?

/-! ### what a def gives back: the lists that it made are frozen -/
mutual
def mapRef (g : Nat → Option D) : D → Option D
  | .tup xs => (mapRefs g xs).map .tup
  | .lst xs => (mapRefs g xs).map .lst
  | .ref k => g k
  | .err c ns xs => (mapRefs g xs).map (.err c ns)
  | .non => some .non
  | .bl b => some (.bl b)
  | .int i => some (.int i)
  | .str s => some (.str s)
  | .scr ns => some (.scr ns)
  | .cau .. => none
def mapRefs (g : Nat → Option D) : List D → Option (List D)
  | [] => some []
  | x :: xs => match mapRef g x, mapRefs g xs with
    | some y, some ys => some (y :: ys)
    | _, _ => none
end
def fzg (S : Store) (n0 : Nat) : Nat → Nat → Option D
  | 0, k => if k < n0 then some (.ref k) else none
  | j + 1, k => if k < n0 then some (.ref k) else match S[k]? with
    | some xs => (mapRefs (fzg S n0 j) xs).map .lst
    | none => none
def fz (S : Store) (n0 : Nat) (d : D) : Option D := mapRef (fzg S n0 3) d
def fzs (S : Store) (n0 : Nat) (d : List D) : Option (List D) := mapRefs (fzg S n0 3) d
section
variable {K : PySem.W.Frag} {mg : Str → Option Value} {H H1 : Hp} {mu m1 : List Addr} {S S1 : Store}
theorem pre_notin (p : mu <+: m1) {a : Addr} (h : a ∉ m1) : a ∉ mu := fun z => h (p.subset z)
theorem SqTm.less (p : mu <+: m1) {a : Addr} {vs : List V} (h : SqTm K H m1 a vs) : SqTm K H mu a vs := h.elim (fun z => .inl ⟨z.1, pre_notin p z.2⟩) .inr
theorem SqLm.less (p : mu <+: m1) {a : Addr} {vs : List V} (h : SqLm K H m1 a vs) : SqLm K H mu a vs := h.elim (fun z => .inl ⟨z.1, pre_notin p z.2⟩) .inr
mutual
theorem rep_map {g : Nat → Option D} (p : mu <+: m1) (hg : ∀ a k d', m1[k]? = some a → g k = some d' → Rep K mg H mu (.ref a) d') : ∀ {v : V} {d d' : D}, Rep K mg H m1 v d → mapRef g d = some d' → Rep K mg H mu v d'
  | _, _, _, .non, h => by simp only [mapRef] at h; cases h; exact .non
  | _, _, _, .bl b, h => by simp only [mapRef] at h; cases h; exact .bl b
  | _, _, _, .int i, h => by simp only [mapRef] at h; cases h; exact .int i
  | _, _, _, .str i, h => by simp only [mapRef] at h; cases h; exact .str i
  | _, _, _, .tup hq r, h => by
    simp only [mapRef] at h
    obtain ⟨ys, h1, rfl⟩ := Option.map_eq_some_iff.mp h
    exact .tup (hq.less p) (reps_map p hg r h1)
  | _, _, _, .lst hq hn r, h => by
    simp only [mapRef] at h
    obtain ⟨ys, h1, rfl⟩ := Option.map_eq_some_iff.mp h
    exact .lst hq (pre_notin p hn) (reps_map p hg r h1)
  | _, _, _, .scr hq, h => by simp only [mapRef] at h; cases h; exact .scr (hq.less p)
  | _, _, _, .ref hq, h => by simp only [mapRef] at h; exact hg _ _ _ hq h
  | _, _, _, .err hm he hd n1 n2 l r, h => by
    simp only [mapRef] at h
    obtain ⟨ys, h1, rfl⟩ := Option.map_eq_some_iff.mp h
    exact .err hm he hd (pre_notin p n1) (pre_notin p n2) l (reps_map p hg r h1)
  | _, _, _, .cau .., h => by simp only [mapRef] at h; cases h
theorem reps_map {g : Nat → Option D} (p : mu <+: m1) (hg : ∀ a k d', m1[k]? = some a → g k = some d' → Rep K mg H mu (.ref a) d') : ∀ {vs : List V} {ds ds' : List D}, Reps K mg H m1 vs ds → mapRefs g ds = some ds' → Reps K mg H mu vs ds'
  | _, _, _, .nil, h => by simp only [mapRefs] at h; cases h; exact .nil
  | _, _, ds', .cons (d := d) (ds := ds) r t, h => by
    simp only [mapRefs] at h
    cases e1 : mapRef g d with
    | none => rw [e1] at h; cases h
    | some y =>
      cases e2 : mapRefs g ds with
      | none => rw [e1, e2] at h; cases h
      | some zs =>
        rw [e1, e2] at h
        cases h
        exact .cons (rep_map p hg r e1) (reps_map p hg t e2)
end
theorem fzg_ok (s : StOk K mg H m1 S1) (p : mu <+: m1) : ∀ (j : Nat) (a : Addr) (k : Nat) (d' : D), m1[k]? = some a → fzg S1 mu.length j k = some d' → Rep K mg H mu (.ref a) d' := by
  have old : ∀ (a : Addr) (k : Nat), m1[k]? = some a → k < mu.length → Rep K mg H mu (.ref a) (.ref k) := fun a k h hk => by
    refine .ref ?_
    obtain ⟨t, rfl⟩ := p
    rw [List.getElem?_append_left hk] at h
    exact h
  have new : ∀ (a : Addr) (k : Nat), m1[k]? = some a → ¬ k < mu.length → a ∉ mu := fun a k h hk z => by
    obtain ⟨n, hn⟩ := List.getElem?_of_mem z
    have hn1 := prefix_get p hn
    have e := (List.getElem?_inj (List.getElem?_eq_some_iff.mp hn1).1 s.nd).mp (hn1.trans h.symm)
    exact hk (by rw [← e]; exact (List.getElem?_eq_some_iff.mp hn).1)
  intro j
  induction j with
  | zero =>
    intro a k d' h e
    unfold fzg at e
    split at e
    · cases e; exact old a k h (by assumption)
    · cases e
  | succ j ih =>
    intro a k d' h e
    unfold fzg at e
    split at e
    · cases e; exact old a k h (by assumption)
    · rename_i hk
      cases e1 : S1[k]? with
      | none => rw [e1] at e; cases e
      | some xs =>
        rw [e1] at e
        obtain ⟨ys, h1, rfl⟩ := Option.map_eq_some_iff.mp e
        obtain ⟨vs, hv, hr⟩ := s.at_ k a xs h e1
        exact .lst hv (new a k h hk) (reps_map p ih hr h1)
mutual
/-- what was told of the plain value at the entry holds of the value behind it -/
theorem rep_back (p : mu <+: m1) : ∀ {v v0 : V} {d : D}, Rep K mg H1 m1 v d → Rep K mg H mu v0 d → Rep K mg H1 mu v d
  | _, _, _, .non, _ => .non
  | _, _, _, .bl b, _ => .bl b
  | _, _, _, .int i, _ => .int i
  | _, _, _, .str i, _ => .str i
  | _, _, _, .tup hq r, .tup _ r0 => .tup (hq.less p) (reps_back p r r0)
  | _, _, _, .lst hq hn r, .lst _ _ r0 => .lst hq (pre_notin p hn) (reps_back p r r0)
  | _, _, _, .scr hq, _ => .scr (hq.less p)
  | _, _, _, .ref (n := n) hq, .ref h0 => .ref (by
    obtain ⟨t, rfl⟩ := p
    rw [List.getElem?_append_left (List.getElem?_eq_some_iff.mp h0).1] at hq
    exact hq)
  | _, _, _, .err hm he hd n1 n2 l r, .err _ _ _ _ _ _ r0 => .err hm he hd (pre_notin p n1) (pre_notin p n2) l (reps_back p r r0)
  | _, _, _, .cau hm hd n2 l r, .cau _ _ _ _ r0 => .cau hm hd (pre_notin p n2) l (reps_back p r r0)
theorem reps_back (p : mu <+: m1) : ∀ {vs ws : List V} {ds : List D}, Reps K mg H1 m1 vs ds → Reps K mg H mu ws ds → Reps K mg H1 mu vs ds
  | _, _, _, .nil, _ => .nil
  | _, _, _, .cons r t, .cons r0 t0 => .cons (rep_back p r r0) (reps_back p t t0)
end
theorem ext_less (x : Ext H mu H1 m1) : Ext H mu H1 mu := ⟨List.prefix_refl _, x.keep, fun _ h n => absurd h n⟩
theorem st_less (s0 : StOk K mg H mu S) (s1 : StOk K mg H1 m1 S1) (x : Ext H mu H1 m1) (h : S1.take S.length = S) : StOk K mg H1 mu S := by
  refine ⟨s0.nd, s0.len, fun n a ds h1 h2 => ?_⟩
  have h3 : S1[n]? = some ds := by
    have hn : n < S.length := (List.getElem?_eq_some_iff.mp h2).1
    rw [← h, List.getElem?_take_of_lt hn] at h2
    exact h2
  obtain ⟨vs, hv, hr⟩ := s1.at_ n a ds (prefix_get x.pre h1) h3
  obtain ⟨ws, _, hr0⟩ := s0.at_ n a ds h1 h2
  exact ⟨vs, hv, reps_back x.pre hr hr0⟩
end
end

/-! ### statements -/
inductive SRes where
  | nx (ρ : EnvD) (S : Store)
  | rt (d : D) (S : Store)
  | bk (ρ : EnvD) (S : Store)
  | ct (ρ : EnvD) (S : Store)
  | exc (c : Str) (ns : List Str) (xs : List D) (ρ : EnvD) (S : Store)
abbrev SDen := EnvD → Store → Option SRes
section
variable (K : PySem.W.Frag) (mg : Str → Option Value) (W : WX)
def PostN (H : Hp) (mu : List Addr) (nx : L2.St → Hp → Prop) (ρ' : EnvD) (S' : Store) : Prop :=
  ∀ (σ' : L2.St) (H' : Hp) (mu' : List Addr), Ext H mu H' mu' → StOk K mg H' mu' S' → EnvOk K mg H' mu' σ' ρ' → nx σ' H'
def PostS (D : Ends) (H : Hp) (mu : List Addr) : SRes → Prop
  | .nx ρ' S' => PostN K mg H mu D.nx ρ' S'
  | .bk ρ' S' => PostN K mg H mu D.bk ρ' S'
  | .ct ρ' S' => PostN K mg H mu D.ct ρ' S'
  | .rt d S' => PostV K mg H mu D.rt d S'
  | .exc c ns xs ρ' S' => ∀ σ' : L2.St, ∀ (H' : Hp) (mu' : List Addr), Ext H mu H' mu' → EnvOk K mg H' mu' σ' ρ' → PostX K mg W σ' H' mu' c ns xs S'
def rdS (g : SDen) : TS := fun D σ H => ∃ mu S ρ r, StOk K mg H mu S ∧ EnvOk K mg H mu σ ρ ∧ g ρ S = some r ∧ PostS K mg W D H mu r
end
theorem PostN.mono {K : PySem.W.Frag} {mg : Str → Option Value} {H H1 : Hp} {mu m1 : List Addr} {nx : L2.St → Hp → Prop} {ρ : EnvD} {S : Store} (x : Ext H mu H1 m1) (p : PostN K mg H mu nx ρ S) : PostN K mg H1 m1 nx ρ S := fun σ' H' mu' y => p σ' H' mu' (x.trans y)
theorem PostS.mono {K : PySem.W.Frag} {mg : Str → Option Value} {W : WX} {D : Ends} {H H1 : Hp} {mu m1 : List Addr} {r : SRes} (x : Ext H mu H1 m1) (p : PostS K mg W D H mu r) : PostS K mg W D H1 m1 r := by
  cases r with
  | nx ρ S => exact PostN.mono x p
  | bk ρ S => exact PostN.mono x p
  | ct ρ S => exact PostN.mono x p
  | rt d S => exact PostV.mono x p
  | exc c ns xs ρ S => exact fun σ' H' mu' y => p σ' H' mu' (x.trans y)
/-- a statement, a block, denotes g -/
def DS (X : Cx) (W : WX) (st : Stmt) (g : SDen) : Prop := PS X st (rdS X.K X.mg W g)
def DSs (X : Cx) (W : WX) (st : List Stmt) (g : SDen) : Prop := PSs X st (rdS X.K X.mg W g)
def bndS (o : Option Res) (ρ : EnvD) (k : D → Store → Option SRes) : Option SRes := match o with
  | some (.ok d S) => k d S
  | some (.exc c ns xs S) => some (.exc c ns xs ρ S)
  | none => none
@[simp] theorem bndS_ok (d : D) (S : Store) (ρ : EnvD) (k : D → Store → Option SRes) : bndS (some (.ok d S)) ρ k = k d S := rfl
@[simp] theorem bndS_exc (c : Str) (ns : List Str) (xs : List D) (S : Store) (ρ : EnvD) (k : D → Store → Option SRes) : bndS (some (.exc c ns xs S)) ρ k = some (.exc c ns xs ρ S) := rfl
@[simp] theorem bndS_none (ρ : EnvD) (k : D → Store → Option SRes) : bndS none ρ k = none := rfl
section
variable {K : PySem.W.Frag} {mg : Str → Option Value} {W : WX} {H : Hp} {mu : List Addr} {σ : L2.St} {ρ : EnvD} {S : Store} {r : SRes}
/-- an expression, then more of a statement -/
theorem rd_bndS {f : Den} {k : D → Store → Option SRes} {D0 : Ends} {Q' : VK} (s : StOk K mg H mu S) (en : EnvOk K mg H mu σ ρ) (h : bndS (f ρ S) ρ k = some r) (q : PostS K mg W D0 H mu r)
    (hk : ∀ d S1 v H1 m1, Ext H mu H1 m1 → StOk K mg H1 m1 S1 → EnvOk K mg H1 m1 σ ρ → Rep K mg H1 m1 v d → k d S1 = some r → PostS K mg W D0 H1 m1 r → Q' v H1) : rd K mg W f σ H Q' := by
  cases e : f ρ S with
  | none => rw [e] at h; cases h
  | some r1 =>
    rw [e] at h
    cases r1 with
    | ok d S1 => exact ⟨mu, S, ρ, _, s, en, e, fun v H1 m1 x s1 rp => hk d S1 v H1 m1 x s1 (en.mono x) rp h (q.mono x)⟩
    | exc c ns xs S1 =>
      have hr : r = .exc c ns xs ρ S1 := (Option.some.inj h).symm
      subst hr
      exact ⟨mu, S, ρ, _, s, en, e, q σ H mu (Ext.refl _ _) en⟩
theorem rds_bndS {f : Dens} {k : List D → Store → Option SRes} {D0 : Ends} {Q' : List V → Hp → Prop} (s : StOk K mg H mu S) (en : EnvOk K mg H mu σ ρ)
    (h : (match f ρ S with | some (.ok d S1) => k d S1 | some (.exc c ns xs S1) => some (.exc c ns xs ρ S1) | none => none) = some r) (q : PostS K mg W D0 H mu r)
    (hk : ∀ d S1 v H1 m1, Ext H mu H1 m1 → StOk K mg H1 m1 S1 → EnvOk K mg H1 m1 σ ρ → Reps K mg H1 m1 v d → k d S1 = some r → PostS K mg W D0 H1 m1 r → Q' v H1) : rds K mg W f σ H Q' := by
  cases e : f ρ S with
  | none => rw [e] at h; cases h
  | some r1 =>
    rw [e] at h
    cases r1 with
    | ok d S1 => exact ⟨mu, S, ρ, _, s, en, e, fun v H1 m1 x s1 rp => hk d S1 v H1 m1 x s1 (en.mono x) rp h (q.mono x)⟩
    | exc c ns xs S1 =>
      have hr : r = .exc c ns xs ρ S1 := (Option.some.inj h).symm
      subst hr
      exact ⟨mu, S, ρ, _, s, en, e, q σ H mu (Ext.refl _ _) en⟩
end

open Classical in
/-- a def's end: what it made and still could change is frozen, what it was handed is as it was -/
noncomputable def fin (S : Store) : Option SRes → Option Res
  | some (.rt d S1) => if S1.take S.length = S then (fz S1 S.length d).map fun d' => .ok d' S else none
  | some (.nx _ S1) => if S1.take S.length = S then some (.ok .non S) else none
  | some (.exc c ns xs _ S1) => if S1.take S.length = S then (fzs S1 S.length xs).map fun xs' => .exc c ns xs' S else none
  | _ => none
def startD (N : List Str) (ds : List D) : EnvD := ds.map some ++ List.replicate (N.length - ds.length) none
noncomputable def fnOf (N : List Str) (g : SDen) : Op := fun ds S => fin S (g (startD N ds) S)
theorem start_ok {K : PySem.W.Frag} {mg : Str → Option Value} {H : Hp} {mu : List Addr} (N : List Str) {vs : List V} {ds : List D} (r : Reps K mg H mu vs ds) : EnvOk K mg H mu (start N vs) (startD N ds) := by
  have hl := r.length
  refine ⟨by simp [L2.start, startD, hl], fun i d h => ?_⟩
  unfold startD at h
  by_cases hi : i < ds.length
  · rw [List.getElem?_append_left (by simpa using hi), List.getElem?_map] at h
    cases e : ds[i]? with
    | none => rw [e] at h; cases h
    | some d' =>
      rw [e] at h
      cases h
      obtain ⟨v, h1, h2⟩ := r.get e
      refine ⟨v, ?_, h2⟩
      unfold L2.start
      rw [List.getElem?_append_left (by rw [List.length_map, hl]; exact hi), List.getElem?_map, h1]
      rfl
  · rw [List.getElem?_append_right (by simpa using hi), List.getElem?_replicate] at h
    split at h <;> cases h
/-- what a def's promise asks is what its body's denotation does -/
theorem den_end {K : PySem.W.Frag} {mg : Str → Option Value} {N ps : List Str} {g : SDen} {vs : List V} {H : Hp} {Q : VK} {E : XK} (h : spD K mg ps.length (fnOf N g) vs H Q E) : rdS K mg (fun cls d _ H => E cls d H) g { nx := fun _ H' => Q .non H', rt := Q } (start N vs) H := by
  obtain ⟨hl, mu, S, ds, r, st, rp, hF, q⟩ := h
  unfold fnOf at hF
  cases e : g (startD N ds) S with
  | none => rw [e] at hF; cases hF
  | some r1 =>
    rw [e] at hF
    refine ⟨mu, S, startD N ds, r1, st, start_ok N rp, e, ?_⟩
    have fzok : ∀ {H1 : Hp} {m1 : List Addr} {S1 : Store} {v : V} {d d' : D}, Ext H mu H1 m1 → StOk K mg H1 m1 S1 → Rep K mg H1 m1 v d → fz S1 S.length d = some d' → Rep K mg H1 mu v d' := fun x s1 r h => by
      rw [← st.len] at h
      exact rep_map x.pre (fzg_ok s1 x.pre 3) r h
    have fzsok : ∀ {H1 : Hp} {m1 : List Addr} {S1 : Store} {v : List V} {d d' : List D}, Ext H mu H1 m1 → StOk K mg H1 m1 S1 → Reps K mg H1 m1 v d → fzs S1 S.length d = some d' → Reps K mg H1 mu v d' := fun x s1 r h => by
      rw [← st.len] at h
      exact reps_map x.pre (fzg_ok s1 x.pre 3) r h
    cases r1 with
    | nx ρ1 S1 =>
      simp only [fin] at hF
      split at hF
      · rename_i ht
        cases hF
        exact fun σ' H' m' x s1 en1 => q .non H' (ext_less x) (st_less st s1 x ht) .non
      · cases hF
    | rt d S1 =>
      simp only [fin] at hF
      split at hF
      · rename_i ht
        obtain ⟨d', h1, rfl⟩ := Option.map_eq_some_iff.mp hF
        exact fun v H' m' x s1 r1 => q v H' (ext_less x) (st_less st s1 x ht) (fzok x s1 r1 h1)
      · cases hF
    | exc c ns xs ρ1 S1 =>
      simp only [fin] at hF
      split at hF
      · rename_i ht
        obtain ⟨xs', h1, rfl⟩ := Option.map_eq_some_iff.mp hF
        intro σ' H' m' x en1 C dx ws H2 m2 x2 s2 hm hd hn hl2 r2
        have x3 := x.trans x2
        exact q C dx ws H2 (ext_less x3) (st_less st s2 x3 ht) hm hd (pre_notin x3.pre hn) hl2 (fzsok x3 s2 r2 h1)
      · cases hF
    | bk _ _ => cases hF
    | ct _ _ => cases hF
section
variable {P : Program} {w : World} {K : PySem.W.Frag} {mg : Str → Option Value} {base : Heap} {x qual : Str} {params : Arguments} {body : List Stmt} {scope : Scope} {dvs : List V} {kws : List (Str × V)} {f : Addr} {fd : FuncData}
/-- THE RULE for a def: its body's denotation is its own -/
theorem fn_den {N ps : List Str} {k : Nat} {g : SDen} (F : FunD K x qual params body scope dvs kws f fd) (Sc : FnScope N ps scope)
    (hb : ∀ (cdv : Value) (A : Around) (outer : List Env) (s : Shared) (H : Hp) (E : XK), Room k (A.deeper (envOfC qual scope s.heap.objs.size f cdv)) →
      L2N.Takes (cxOf (L2N.CX P w) P w K mg base N qual scope f cdv A outer s H E) (fun cls d _ H => E cls d H) →
      DSs (cxOf (L2N.CX P w) P w K mg base N qual scope f cdv A outer s H E) (fun cls d _ H => E cls d H) body g) : FnD P w K mg base (k + 1) f fd ps (fnOf N g) := by
  exact F.ok Sc (fun vs H Q E h => h.1) fun cdv A outer s H vs Q E hr h => ⟨_, hb cdv A outer s H E hr (L2N.takes_of rfl rfl rfl rfl), den_end h⟩
end
end PD
set_option Elab.async false
set_option linter.all false
set_option maxRecDepth 100000
set_option maxHeartbeats 4000000
namespace PD
open PySem PySem.Spec PyProof.Rows L2
section
variable {X : Cx} {W : WX} {a b c e o i : Expr} {es : List Expr} {fa fb fc : Den} {ga gb : Dens} {pos p p1 p2 : Pos} {st : Stmt} {sts rest : List Stmt} {g h : SDen}

/-! ### blocks -/
def sNil : SDen := fun ρ S => some (.nx ρ S)
def sSeq (g h : SDen) : SDen := fun ρ S => match g ρ S with
  | some (.nx ρ1 S1) => h ρ1 S1
  | r => r
theorem ds_seq_post {D : Ends} {σ : L2.St} {H : Hp} (q : rdS X.K X.mg W (sSeq g h) D σ H) : rdS X.K X.mg W g { D with nx := fun σ' H' => rdS X.K X.mg W h D σ' H' } σ H := by
  obtain ⟨mu, S, ρ, r, s, en, hf, q⟩ := q
  unfold sSeq at hf
  cases e : g ρ S with
  | none => rw [e] at hf; cases hf
  | some r1 =>
    rw [e] at hf
    refine ⟨mu, S, ρ, r1, s, en, e, ?_⟩
    cases r1 with
    | nx ρ1 S1 => exact fun σ' H' mu' x s1 en1 => ⟨mu', S1, ρ1, r, s1, en1, hf, q.mono x⟩
    | rt d S1 => cases hf; exact q
    | bk d S1 => cases hf; exact q
    | ct d S1 => cases hf; exact q
    | exc c ns xs ρ1 S1 => cases hf; exact q
theorem dss_nil : DSs X W [] sNil := by
  refine pssI pss_nil fun D σ H h => ?_
  obtain ⟨mu, S, ρ, r, s, en, hf, q⟩ := h
  cases hf
  exact q σ H mu (Ext.refl _ _) s en
theorem dss_cons (h1 : DS X W st g) (h2 : DSs X W rest h) : DSs X W (st :: rest) (sSeq g h) := pssI (pss_cons h1 h2) fun D σ H q => ds_seq_post q
theorem dss_one (h1 : DS X W st g) : DSs X W [st] g := pss_one h1
theorem ds_pass : DS X W (.Pass pos) sNil := by
  refine psI ps_pass fun D σ H h => ?_
  obtain ⟨mu, S, ρ, r, s, en, hf, q⟩ := h
  cases hf
  exact q σ H mu (Ext.refl _ _) s en
def sBreak : SDen := fun ρ S => some (.bk ρ S)
def sCont : SDen := fun ρ S => some (.ct ρ S)
theorem ds_break : DS X W (.Break pos) sBreak := by
  refine psI ps_break fun D σ H h => ?_
  obtain ⟨mu, S, ρ, r, s, en, hf, q⟩ := h
  cases hf
  exact q σ H mu (Ext.refl _ _) s en
theorem ds_continue : DS X W (.Continue pos) sCont := by
  refine psI ps_continue fun D σ H h => ?_
  obtain ⟨mu, S, ρ, r, s, en, hf, q⟩ := h
  cases hf
  exact q σ H mu (Ext.refl _ _) s en
/-- an expression alone -/
def sExpr (f : Den) : SDen := fun ρ S => bndS (f ρ S) ρ fun _ S1 => some (.nx ρ S1)
theorem ds_expr (ha : DE X W e fa) (hs : swapsWith e none pos.line X.env = pure false := by rfl) : DS X W (.Expr e pos) (sExpr fa) := by
  refine psI (ps_expr ha hs) fun D σ H q => ?_
  obtain ⟨mu, S, ρ, r, s, en, hf, q⟩ := q
  refine rd_bndS s en hf q fun d S1 v H1 m1 x s1 en1 rp h1 q1 => ?_
  cases h1
  exact q1 σ H1 m1 (Ext.refl _ _) s1 en1
def sRet (f : Den) : SDen := fun ρ S => bndS (f ρ S) ρ fun d S1 => some (.rt d S1)
theorem ds_ret (ha : DE X W e fa) : DS X W (.Return (some e) pos) (sRet fa) := by
  refine psI (ps_ret ha) fun D σ H q => ?_
  obtain ⟨mu, S, ρ, r, s, en, hf, q⟩ := q
  refine rd_bndS s en hf q fun d S1 v H1 m1 x s1 en1 rp h1 q1 => ?_
  cases h1
  exact q1 v H1 m1 (Ext.refl _ _) s1 rp
def sRetN : SDen := fun _ S => some (.rt .non S)
theorem ds_retN : DS X W (.Return none pos) sRetN := by
  refine psI ps_retN fun D σ H q => ?_
  obtain ⟨mu, S, ρ, r, s, en, hf, q⟩ := q
  cases hf
  exact q .non H mu (Ext.refl _ _) s .non

/-! ### targets -/
abbrev TDen := D → EnvD → Store → Option EnvD
def rdG (K : PySem.W.Frag) (mg : Str → Option Value) (t : TDen) : TG := fun v σ H Q => ∃ mu S ρ d ρ', StOk K mg H mu S ∧ EnvOk K mg H mu σ ρ ∧ Rep K mg H mu v d ∧ t d ρ S = some ρ' ∧ ∀ σ', EnvOk K mg H mu σ' ρ' → Q σ' H
def rdGs (K : PySem.W.Frag) (mg : Str → Option Value) (t : List D → EnvD → Store → Option EnvD) : TGs := fun vs σ H Q => ∃ mu S ρ ds ρ', StOk K mg H mu S ∧ EnvOk K mg H mu σ ρ ∧ Reps K mg H mu vs ds ∧ t ds ρ S = some ρ' ∧ ∀ σ', EnvOk K mg H mu σ' ρ' → Q σ' H
def DG (X : Cx) (tg : Expr) (t : TDen) : Prop := PG X tg (rdG X.K X.mg t)
def DGs (X : Cx) (tgs : List Expr) (t : List D → EnvD → Store → Option EnvD) : Prop := PGs X tgs (rdGs X.K X.mg t)
theorem pgI {tg : Expr} {t t' : TG} (h : PG X tg t) (i : ∀ v σ H Q, t' v σ H Q → t v σ H Q) : PG X tg t' := ⟨fun pins s σ H v u Q I r q => h.run pins s σ H v u Q I r (i v σ H Q q)⟩
theorem pgsI {tg : List Expr} {t t' : TGs} (h : PGs X tg t) (i : ∀ v σ H Q, t' v σ H Q → t v σ H Q) : PGs X tg t' := ⟨fun pins s σ H v u Q I r q => h.run pins s σ H v u Q I r (i v σ H Q q)⟩
def tName (k : Nat) : TDen := fun d ρ _ => some (ρ.set k (some d))
theorem dg_name (k : Nat) {x : Str} (hN : X.N.Nodup) (hi : X.N[k]? = some x := by rfl) (hx : Loc X.env.scope x := by first | exact .inl rfl | exact .inr rfl) (hf : X.fn x = true ∨ X.env.scope.names.lookup x = some .local := by first | exact .inl rfl | exact .inr rfl) : DG X (.Name x pos) (tName k) := by
  refine pgI (pg_name hN hi hx hf) fun v σ H Q h => ?_
  obtain ⟨mu, S, ρ, d, ρ', s, en, rp, ht, q⟩ := h
  cases ht
  exact q _ (en.set rp k)
def tNil : List D → EnvD → Store → Option EnvD := fun ds ρ _ => match ds with
  | [] => some ρ
  | _ => none
def tCons (t : TDen) (u : List D → EnvD → Store → Option EnvD) : List D → EnvD → Store → Option EnvD := fun ds ρ S => match ds with
  | d :: ds => (t d ρ S).bind fun ρ1 => u ds ρ1 S
  | [] => none
theorem dgs_nil : DGs X [] PD.tNil := by
  refine pgsI pgs_nil fun vs σ H Q h => ?_
  obtain ⟨mu, S, ρ, ds, ρ', s, en, rp, ht, q⟩ := h
  cases rp with
  | nil => cases ht; exact ⟨rfl, q _ en⟩
  | cons _ _ => cases ht
theorem dgs_cons {t : TDen} {u : List D → EnvD → Store → Option EnvD} (h1 : DG X e t) (h2 : DGs X es u) (hs : (assignEach (e :: es) X.env).map (·.2) = assign e X.env :: (assignEach es X.env).map (·.2) := by first | rfl | intros; rfl) : DGs X (e :: es) (PD.tCons t u) := by
  refine pgsI (pgs_cons h1 h2 hs) fun vs σ H Q h => ?_
  obtain ⟨mu, S, ρ, ds, ρ', s, en, rp, ht, q⟩ := h
  cases rp with
  | nil => cases ht
  | cons r rs =>
    obtain ⟨ρ1, h3, h4⟩ := bind_two ht
    exact ⟨_, _, rfl, mu, S, ρ, _, ρ1, s, en, r, h3, fun σ' en' => ⟨mu, S, ρ1, _, ρ', s, en', rs, h4, q⟩⟩
def tTup (n : Nat) (u : List D → EnvD → Store → Option EnvD) : TDen := fun d ρ S => match d with
  | .tup xs => if xs.length = n then u xs ρ S else none
  | _ => none
theorem dg_tup {k n : Nat} {u : List D → EnvD → Store → Option EnvD} (hc : X.calm = true) (h : DGs X es u) (hn : (assignEach es X.env).length = n := by rfl) (hst : (assignEach es X.env).findIdx? (·.1) = none := by rfl) : DG X (.Tuple es k pos) (PD.tTup n u) := by
  refine pgI (pg_tup hc h hn hst) fun v σ H Q h => ?_
  obtain ⟨mu, S, ρ, d, ρ', s, en, rp, ht, q⟩ := h
  unfold PD.tTup at ht
  split at ht
  · split at ht
    · rename_i hl
      cases rp with
      | tup hq rs => exact ⟨_, _, rfl, hq.sq, rs.length.trans hl, mu, S, ρ, _, ρ', s, en, rs, ht, q⟩
    · cases ht
  · cases ht
/-- target = e -/
def sAsg (f : Den) (t : TDen) : SDen := fun ρ S => bndS (f ρ S) ρ fun d S1 => (t d ρ S1).map fun ρ1 => .nx ρ1 S1
theorem asg_post {t : TDen} {D : Ends} {σ : L2.St} {H : Hp} (q : rdS X.K X.mg W (sAsg fa t) D σ H) : tAsg (rd X.K X.mg W fa) (rdG X.K X.mg t) D σ H := by
  obtain ⟨mu, S, ρ, r, s, en, hf, q⟩ := q
  refine rd_bndS s en hf q fun d S1 v H1 m1 x s1 en1 rp h1 q1 => ?_
  obtain ⟨ρ1, h2, rfl⟩ := Option.map_eq_some_iff.mp h1
  exact ⟨m1, S1, ρ, d, ρ1, s1, en1, rp, h2, fun σ' en' => q1 σ' H1 m1 (Ext.refl _ _) s1 en'⟩
theorem ds_asg {tg : Expr} {t : TDen} (ha : DE X W e fa) (hg : DG X tg t) (hs : swapsWithSole [tg] e pos.line X.env = pure false := by rfl) (hw : swappedStores [tg] e X.env = pure none := by rfl) (h1 : (assignEach [tg] X.env).map (·.2) = [assign tg X.env] := by rfl) : DS X W (.Assign [tg] e pos) (sAsg fa t) :=
  psI (ps_asg ha hg hs hw h1) fun D σ H q => asg_post q
def sSet (k : Nat) (f : Den) : SDen := fun ρ S => bndS (f ρ S) ρ fun d S1 => some (.nx (ρ.set k (some d)) S1)
theorem set_post {k : Nat} {D : Ends} {σ : L2.St} {H : Hp} (q : rdS X.K X.mg W (sSet k fa) D σ H) : tAsg (rd X.K X.mg W fa) (gName k) D σ H := by
  obtain ⟨mu, S, ρ, r, s, en, hf, q⟩ := q
  refine rd_bndS s en hf q fun d S1 v H1 m1 x s1 en1 rp h1 q1 => ?_
  cases h1
  exact q1 _ H1 m1 (Ext.refl _ _) s1 (en1.set rp k)
theorem ds_set (k : Nat) {x : Str} {pos' : Pos} (hN : X.N.Nodup) (ha : DE X W e fa) (hi : X.N[k]? = some x := by rfl) (hx : Loc X.env.scope x := by first | exact .inl rfl | exact .inr rfl) (hs : swapsWith e (some (.Name x pos')) pos.line X.env = pure false := by rfl) (hf : X.fn x = true ∨ X.env.scope.names.lookup x = some .local := by first | exact .inl rfl | exact .inr rfl) :
    DS X W (.Assign [.Name x pos'] e pos) (sSet k fa) := psI (ps_set hN hi hx ha hs hf) fun D σ H q => set_post q
/-- x, y = e, e' -/
def sPar (k l : Nat) (g : Dens) : SDen := fun ρ S => match g ρ S with
  | some (.ok [d, d2] S1) => some (.nx ((ρ.set k (some d)).set l (some d2)) S1)
  | some (.ok _ _) => none
  | some (.exc c ns xs S1) => some (.exc c ns xs ρ S1)
  | none => none
theorem ds_par (k l : Nat) {x y : Str} {px py pt : Pos} {kt k2 pt2} (hc : X.calm = true) (hN : X.N.Nodup) (ha : DA X W [a, b] ga) (hi : X.N[k]? = some x := by rfl) (hj : X.N[l]? = some y := by rfl) (hij : k ≠ l := by decide)
    (hx : X.env.scope.names.lookup x = some .local := by rfl) (hy : X.env.scope.names.lookup y = some .local := by rfl) (hw : swappedStores [.Tuple [.Name x px, .Name y py] kt pt] (.Tuple [a, b] k2 pt2) X.env = pure (some [x, y]) := by rfl)
    (hs : swapsWithSole [.Tuple [.Name x px, .Name y py] kt pt] (.Tuple [a, b] k2 pt2) pos.line X.env = pure false := by rfl) :
    DS X W (.Assign [.Tuple [.Name x px, .Name y py] kt pt] (.Tuple [a, b] k2 pt2) pos) (sPar k l ga) := by
  refine psI (ps_par hc hN hi hj hij hx hy ha hw hs) fun D σ H q => ?_
  obtain ⟨mu, S, ρ, r, s, en, hf, q⟩ := q
  unfold sPar at hf
  have hf2 : (match ga ρ S with | some (.ok d S1) => (match d with | [d, d2] => some (.nx ((ρ.set k (some d)).set l (some d2)) S1) | _ => none) | some (.exc c ns xs S1) => some (.exc c ns xs ρ S1) | none => none) = some r := by
    rw [← hf]
    split <;> rename_i e1 <;> rw [e1]
    · split <;> simp_all
  refine rds_bndS s en hf2 q fun ds S1 vs H1 m1 x s1 en1 rp h1 q1 => ?_
  split at h1
  · cases h1
    obtain ⟨v, v2, rfl, r1, r2⟩ := reps2 rp
    exact ⟨v, v2, rfl, q1 _ H1 m1 (Ext.refl _ _) s1 ((en1.set r1 k).set r2 l)⟩
  · cases h1
/-- x = x + e, said shortly, of ints and of texts -/
def sAug (k : Nat) (op : Op2) (f : Den) : SDen := fun ρ S => match ρ[k]? with
  | some (some d0) => bndS (f ρ S) ρ fun d S1 => bndS (op d0 d S1) ρ fun d2 S2 => some (.nx (ρ.set k (some d2)) S2)
  | _ => none
theorem ds_aug (k : Nat) {x : Str} {op : Operator} {ti : TIp} {dop : Op2} {pos' : Pos} (ho : PIp X op ti) (hd : ∀ (H : Hp) (mu : List Addr) (S : Store) (x y : V) (a b d : D) (S' : Store) (Q : VK), StOk X.K X.mg H mu S → Rep X.K X.mg H mu x a → Rep X.K X.mg H mu y b → dop a b S = some (.ok d S') → PostV X.K X.mg H mu Q d S' → ti x y H Q)
    (hno : ∀ a b S c ns xs S', dop a b S ≠ some (.exc c ns xs S')) (hN : X.N.Nodup) (ha : DE X W e fa) (hi : X.N[k]? = some x := by rfl) (hx : Loc X.env.scope x := by first | exact .inl rfl | exact .inr rfl) (hf : X.fn x = true ∨ X.env.scope.names.lookup x = some .local := by first | exact .inl rfl | exact .inr rfl) :
    DS X W (.AugAssign (.Name x pos') op e pos) (sAug k dop fa) := by
  refine psI (ps_aug hN hi hx ha ho hf) fun D σ H q => ?_
  obtain ⟨mu, S, ρ, r, s, en, hf, q⟩ := q
  unfold sAug at hf
  split at hf
  · rename_i d0 hd0
    obtain ⟨v0, h1, h2⟩ := en.at_ k d0 hd0
    refine ⟨v0, h1, rd_bndS s en hf q fun d S1 v H1 m1 x s1 en1 rp h3 q1 => ?_⟩
    cases e1 : dop d0 d S1 with
    | none => rw [e1] at h3; cases h3
    | some r1 =>
      rw [e1] at h3
      cases r1 with
      | exc c ns xs S2 => exact absurd e1 (hno _ _ _ _ _ _ _)
      | ok d2 S2 =>
        cases h3
        exact hd H1 m1 S1 v0 v d0 d d2 S2 _ s1 (h2.mono x) rp e1 fun v' H2 m2 x2 s2 rp2 => q1 _ H2 m2 x2 s2 ((en1.mono x2).set rp2 k)
  · cases hf
theorem ds_augAdd (k : Nat) {x : Str} {pos' : Pos} (hN : X.N.Nodup) (ha : DE X W e fa) (hi : X.N[k]? = some x := by rfl) (hx : Loc X.env.scope x := by first | exact .inl rfl | exact .inr rfl) (hf : X.fn x = true ∨ X.env.scope.names.lookup x = some .local := by first | exact .inl rfl | exact .inr rfl) :
    DS X W (.AugAssign (.Name x pos') .Add e pos) (sAug k oAdd fa) := ds_aug k ip_add (fun H mu S x y a b d S' Q s ra rb h p => by
  cases a <;> cases b <;> try (cases h; done)
  cases h; cases ra; cases rb
  exact ⟨_, _, rfl, rfl, p _ H mu (Ext.refl _ _) s (.int _)⟩) (fun a b S c ns xs S' h => by cases a <;> cases b <;> cases h) hN ha hi hx hf
/-- xs[i] = e, xs a list that may change -/
def sStore (fe fo fi : Den) : SDen := fun ρ S => bndS (fe ρ S) ρ fun d S1 => bndS (fo ρ S1) ρ fun o S2 => bndS (fi ρ S2) ρ fun i S3 => match o, i with
  | .ref n, .int k => (match S3[n]? with
    | some xs => (ixN xs.length k).map fun j => .nx ρ (S3.set n (xs.set j d))
    | none => none)
  | _, _ => none
theorem ds_store (he : DE X W e fa) (ho : DE X W o fb) (hi : DE X W i fc) (hs : swapsWithSole [.Subscript o i p] e pos.line X.env = pure false := by rfl) (hw : swappedStores [.Subscript o i p] e X.env = pure none := by rfl)
    (hpg : ∀ {to ti : TE}, PE X o to → PE X i ti → PG X (.Subscript o i p) (gSub to ti rSetL) := by intro _ _ h1 h2; exact pg_sub h1 h2 set_list) : DS X W (.Assign [.Subscript o i p] e pos) (sStore fa fb fc) := by
  refine psI (ps_asg he (hpg ho hi) hs hw) fun D σ H q => ?_
  obtain ⟨mu, S, ρ, r, s, en, hf, q⟩ := q
  refine rd_bndS s en hf q fun d S1 v H1 m1 x1 s1 en1 rp h1 q1 => ?_
  refine rd_bndS s1 en1 h1 q1 fun od S2 ov H2 m2 x2 s2 en2 rp2 h2 q2 => ?_
  refine rd_bndS s2 en2 h2 q2 fun id S3 iv H3 m3 x3 s3 en3 rp3 h3 q3 => ?_
  split at h3
  · rename_i n k
    split at h3
    · rename_i xs hxs
      obtain ⟨j, hj, rfl⟩ := Option.map_eq_some_iff.mp h3
      cases rp3
      have ro := rp2.mono x3
      cases ro with
      | ref hn =>
        obtain ⟨vs, hv, hr⟩ := s3.at_ n _ xs hn hxs
        refine ⟨_, vs, k, j, rfl, rfl, hv, by rw [hr.length]; exact hj, ?_⟩
        have hm := List.mem_of_getElem? hn
        have xc := Ext.chg (H := H3) (o := .lst (vs.set j v)) hm
        exact q3 σ _ m3 xc (s3.chg hn (((rp.mono x2).mono x3) |> fun z => Reps.set z j hr)) (en3.mono xc)
    · cases h3
  · cases h3
/-- xs.append(e), xs a list that may change -/
def dApp (fo fe : Den) : Den := fun ρ S => bnd (fo ρ S) fun o S1 => match o with
  | .ref n => bnd (fe ρ S1) fun d S2 => (match S2[n]? with
    | some xs => if xs.length < 16777216 then some (.ok .non (S2.set n (xs ++ [d]))) else none
    | none => none)
  | _ => none
theorem de_app (ho : DE X W o fa) (he : DE X W e fb)
    (hpe : ∀ {to : TE} {ta : TA}, PE X o to → PA X [e] ta → PE X (.Call (.Attribute o "append" p1) [e] [] pos) (tBM X.K "list" rAppend to ta) := by intro _ _ h1 h2; exact pe_bm PySem.F.plainAttrs_list PySem.F.slot_list_append PySem.F.type_list_append mt_append h1 h2)
    (hs : starEach [e] X.env = (false, eval e X.env) :: starEach [] X.env := by rfl) : DE X W (.Call (.Attribute o "append" p1) [e] [] pos) (dApp fa fb) := by
  refine peI (hpe ho (pa_cons he pa_nil hs)) fun σ H Q h => ?_
  obtain ⟨mu, S, ρ, res, s, en, hf, q⟩ := h
  refine rd_bnd s en hf q fun od S1 ov H1 m1 x1 s1 en1 rp h1 q1 => ?_
  cases od <;> try (cases h1; done)
  rename_i n
  cases rp with
  | @ref a _ hn =>
    have hl : n < S1.length := by rw [← s1.len]; exact (List.getElem?_eq_some_iff.mp hn).1
    obtain ⟨vs, hv, _⟩ := s1.at_ n a _ hn (List.getElem?_eq_getElem hl)
    refine ⟨.inl ⟨rfl, _, .of hv⟩, ?_⟩
    show rd X.K X.mg W fb σ H1 _
    refine rd_bnd s1 en1 h1 q1 fun d S2 v H2 m2 x2 s2 en2 rp2 h2 q2 => ?_
    split at h2
    · rename_i xs hxs
      split at h2
      · rename_i hz
        cases h2
        have hn2 := prefix_get x2.pre hn
        obtain ⟨ws, hw, hr⟩ := s2.at_ n a xs hn2 hxs
        refine ⟨a, ws, v, rfl, rfl, hw, by rw [hr.length, line_eq]; exact hz, ?_⟩
        have hm := List.mem_of_getElem? hn2
        have xc := Ext.chg (H := H2) (o := .lst (ws ++ [v])) hm
        exact q2 .non _ m2 xc (s2.chg hn2 (hr.append (.single rp2))) .non
      · cases h2
    · cases h2

/-! ### if, while, for -/
def sIf (t : Den) (g h : SDen) : SDen := fun ρ S => match t ρ S with
  | some (.ok (.bl b) S1) => if b then g ρ S1 else h ρ S1
  | some (.exc c ns xs S1) => some (.exc c ns xs ρ S1)
  | _ => none
theorem ds_if (hc : DT X W c fc) (ha : DSs X W sts g) (hb : DSs X W rest h) : DS X W (.If c sts rest pos) (sIf fc g h) := by
  refine psI (ps_if hc ha hb) fun D σ H q => ?_
  obtain ⟨mu, S, ρ, r, s, en, hf, q⟩ := q
  unfold sIf at hf
  split at hf
  · rename_i b S1 e1
    refine ⟨mu, S, ρ, _, s, en, e1, fun H1 m1 x s1 => ?_⟩
    cases b with
    | true => exact iteT ⟨m1, S1, ρ, r, s1, en.mono x, hf, q.mono x⟩
    | false => exact iteF ⟨m1, S1, ρ, r, s1, en.mono x, hf, q.mono x⟩
  · rename_i e1
    cases hf
    exact ⟨mu, S, ρ, _, s, en, e1, q σ H mu (Ext.refl _ _) en⟩
  · cases hf
/-- while, at most n turns -/
def sWhileN (t : Den) (g : SDen) : Nat → SDen
  | 0 => fun _ _ => none
  | n + 1 => fun ρ S => match t ρ S with
    | some (.ok (.bl b) S1) => if b then (match g ρ S1 with
      | some (.nx ρ2 S2) => sWhileN t g n ρ2 S2
      | some (.ct ρ2 S2) => sWhileN t g n ρ2 S2
      | some (.bk ρ2 S2) => some (.nx ρ2 S2)
      | r => r) else some (.nx ρ S1)
    | some (.exc c ns xs S1) => some (.exc c ns xs ρ S1)
    | _ => none
def sWhile (n : Nat) (t : Den) (g : SDen) : SDen := sWhileN t g n
theorem ds_while (n : Nat) (hp : PassesOwn (model X.prog X.w) X.A X.env X.xe) (hc : DT X W c fc) (hb : DSs X W sts g) : DS X W (.While c sts [] pos) (sWhile n fc g) := by
  refine psI (ps_while hp hc hb) fun D σ H q => ?_
  refine ⟨fun m σ H => ∃ mu S ρ r, StOk X.K X.mg H mu S ∧ EnvOk X.K X.mg H mu σ ρ ∧ sWhileN fc g m ρ S = some r ∧ PostS X.K X.mg W D H mu r, ⟨n, q⟩, ?_⟩
  rintro m σ H ⟨mu, S, ρ, r, s, en, hf, q⟩
  cases m with
  | zero => cases hf
  | succ m =>
    unfold sWhileN at hf
    split at hf
    · rename_i b S1 e1
      refine ⟨mu, S, ρ, _, s, en, e1, fun H1 m1 x s1 => ?_⟩
      have en1 := en.mono x
      have q1 := q.mono x
      cases b with
      | false =>
        refine iteF ?_
        cases hf
        exact q1 σ H1 m1 (Ext.refl _ _) s1 en1
      | true =>
        refine iteT ?_
        simp only [if_true] at hf
        cases e2 : g ρ S1 with
        | none => rw [e2] at hf; cases hf
        | some r2 =>
          rw [e2] at hf
          refine ⟨_, fun σ' H' z => z, m1, S1, ρ, r2, s1, en1, e2, ?_⟩
          cases r2 with
          | nx ρ2 S2 => exact fun σ' H' mu' x2 s2 en2 => ⟨m, Nat.lt_succ_self _, mu', S2, ρ2, r, s2, en2, hf, q1.mono x2⟩
          | ct ρ2 S2 => exact fun σ' H' mu' x2 s2 en2 => ⟨m, Nat.lt_succ_self _, mu', S2, ρ2, r, s2, en2, hf, q1.mono x2⟩
          | bk ρ2 S2 => cases hf; exact q1
          | rt d S2 => cases hf; exact q1
          | exc c ns xs ρ2 S2 => cases hf; exact q1
    · rename_i e1
      cases hf
      exact ⟨mu, S, ρ, _, s, en, e1, q σ H mu (Ext.refl _ _) en⟩
    · cases hf
end
end PD
set_option Elab.async false
set_option linter.all false
set_option maxRecDepth 100000
set_option maxHeartbeats 4000000
namespace PD
open PySem PySem.Spec PyProof.Rows L2

/-! ### what is walked -/
/-- the walk J gives just these values, one behind another, while P stands; P stands while the store passes the check -/
structure Walks (K : PySem.W.Frag) (mg : Str → Option Value) (J : It) (P : Hp → List Addr → Store → Prop) (ck : Store → Prop) (items : List D) : Prop where
  mono : ∀ H mu S H' mu' S', P H mu S → Ext H mu H' mu' → ck S' → P H' mu' S'
  has : ∀ H mu S, P H mu S → ck S
  go : ∀ i H mu S, P H mu S → StOk K mg H mu S → i < items.length → J.go i H
  yld : ∀ i H mu x H' S d, P H mu S → StOk K mg H mu S → J.yld i H x H' → items[i]? = some d → Ext H mu H' mu ∧ StOk K mg H' mu S ∧ Rep K mg H' mu x d
  stop : ∀ H mu S, P H mu S → StOk K mg H mu S → J.stop items.length H
/-- what is walked: these values; w: the list that may change, if it is one -/
inductive Ires where
  | ok (items : List D) (w : Option Nat) (S : Store)
  | exc (c : Str) (ns : List Str) (xs : List D) (S : Store)
abbrev Iens := EnvD → Store → Option Ires
def bndi (o : Option Res) (k : D → Store → Option Ires) : Option Ires := match o with
  | some (.ok d S) => k d S
  | some (.exc c ns xs S) => some (.exc c ns xs S)
  | none => none
@[simp] theorem bndi_ok (d : D) (S : Store) (k : D → Store → Option Ires) : bndi (some (.ok d S)) k = k d S := rfl
@[simp] theorem bndi_exc (c : Str) (ns : List Str) (xs : List D) (S : Store) (k : D → Store → Option Ires) : bndi (some (.exc c ns xs S)) k = some (.exc c ns xs S) := rfl
@[simp] theorem bndi_none (k : D → Store → Option Ires) : bndi none k = none := rfl
def ckOf (w : Option Nat) (all : List D) (S : Store) : Prop := match w with
  | none => True
  | some n => S[n]? = some all
@[simp] theorem ckOf_none (all : List D) (S : Store) : ckOf none all S = True := rfl
def PostI (K : PySem.W.Frag) (mg : Str → Option Value) (W : WX) (σ : L2.St) (H : Hp) (mu : List Addr) (R : It → Hp → Prop) : Ires → Prop
  | .ok items w S' => ∀ (J : It) (P : Hp → List Addr → Store → Prop) (H' : Hp) (mu' : List Addr), Walks K mg J P (ckOf w items) items → P H' mu' S' → Ext H mu H' mu' → StOk K mg H' mu' S' → R J H'
  | .exc c ns xs S' => PostX K mg W σ H mu c ns xs S'
def rdI (K : PySem.W.Frag) (mg : Str → Option Value) (W : WX) (f : Iens) : TI := fun σ H R => ∃ mu S ρ r, StOk K mg H mu S ∧ EnvOk K mg H mu σ ρ ∧ f ρ S = some r ∧ PostI K mg W σ H mu R r
def DI (X : Cx) (W : WX) (tg iter : Expr) (f : Iens) : Prop := PI X tg iter (rdI X.K X.mg W f)
theorem piI {X : Cx} {tg iter : Expr} {t t' : TI} (h : PI X tg iter t) (i : ∀ σ H R, t' σ H R → t σ H R) : PI X tg iter t' := ⟨fun pins s σ H R I q => h.run pins s σ H R I (i σ H R q)⟩
section
variable {X : Cx} {W : WX} {a b c e o i tg iter elt : Expr} {es ifs : List Expr} {fa fb fc : Den} {ga : Iens} {gb : Dens} {w : Option Nat} {pos p p1 p2 : Pos} {st : Stmt} {sts rest : List Stmt} {g h : SDen}
theorem walks_list {a : Addr} {vs : List V} {items : List D} : Walks X.K X.mg (Itl X.K a) (fun H mu _ => SqLm X.K H mu a vs ∧ Reps X.K X.mg H mu vs items) (ckOf none items) items where
  mono := fun H mu S H' mu' S' h x _ => ⟨x.sqL h.1, h.2.mono x⟩
  has := fun _ _ _ _ => trivial
  go := fun i H mu S h _ hi => ⟨vs, vs[i]'(by rw [h.2.length]; exact hi), h.1.sq, List.getElem?_eq_getElem _⟩
  yld := fun i H mu x H' S d h s y hd => by
    obtain ⟨rfl, hx⟩ := y
    obtain ⟨v, h1, h2⟩ := h.2.get hd
    have := hx vs h.1.sq
    rw [h1] at this
    cases this
    exact ⟨Ext.refl _ _, s, h2⟩
  stop := fun H mu S h _ => ⟨vs, h.1.sq, by rw [h.2.length]; exact Nat.le_refl _⟩
theorem walks_tup {a : Addr} {vs : List V} {items : List D} : Walks X.K X.mg (Itt X.K a) (fun H mu _ => SqTm X.K H mu a vs ∧ Reps X.K X.mg H mu vs items) (ckOf none items) items where
  mono := fun H mu S H' mu' S' h x _ => ⟨x.sqT h.1, h.2.mono x⟩
  has := fun _ _ _ _ => trivial
  go := fun i H mu S h _ hi => ⟨vs, vs[i]'(by rw [h.2.length]; exact hi), h.1.sq, List.getElem?_eq_getElem _⟩
  yld := fun i H mu x H' S d h s y hd => by
    obtain ⟨rfl, hx⟩ := y
    obtain ⟨v, h1, h2⟩ := h.2.get hd
    have := hx vs h.1.sq
    rw [h1] at this
    cases this
    exact ⟨Ext.refl _ _, s, h2⟩
  stop := fun H mu S h _ => ⟨vs, h.1.sq, by rw [h.2.length]; exact Nat.le_refl _⟩
def rgD (lo : Int) (n : Nat) : List D := (List.range n).map fun i => .int (lo + (i : Nat))
theorem rgD_length (lo : Int) (n : Nat) : (rgD lo n).length = n := by simp [rgD]
theorem walks_range (lo : Int) (n : Nat) : Walks X.K X.mg (Itr lo n) (fun _ _ _ => True) (ckOf none (rgD lo n)) (rgD lo n) where
  mono := fun _ _ _ _ _ _ _ _ _ => trivial
  has := fun _ _ _ _ => trivial
  go := fun i H mu _ _ _ hi => by rw [rgD_length] at hi; exact hi
  yld := fun i H mu x H' S d _ s y hd => by
    obtain ⟨rfl, rfl⟩ := y
    have hi : i < n := by rw [← rgD_length lo n]; exact (List.getElem?_eq_some_iff.mp hd).1
    have e : d = .int (lo + i) := by
      simp [rgD, List.getElem?_range hi] at hd
      exact hd.symm
    subst e
    exact ⟨Ext.refl _ _, s, .int _⟩
  stop := fun H mu _ _ _ => by show n ≤ (rgD lo n).length; rw [rgD_length]; exact Nat.le_refl _
/-- a list or a tuple, walked -/
def iSeq (K : PySem.W.Frag) (tl : TE) : TI := fun σ H R => tl σ H fun x H1 => ∃ a, x = .ref a ∧ (((∃ xs, SqL K H1 a xs) ∧ R (Itl K a) H1) ∨ ((∃ xs, SqT K H1 a xs) ∧ R (Itt K a) H1))
theorem pi_seq {tl : TE} (hl : PE X iter tl) : PI X tg iter (iSeq X.K tl) := by
  refine ⟨fun pins s σ H R I h => ?_⟩
  refine thn (hl.run pins s σ H _ I h) fun v s1 ⟨x, H1, I1, r1, q1⟩ => ?_
  obtain ⟨a, rfl, q1⟩ := q1
  cases r1
  have fresh : ∀ b ∈ [s1.heap.objs.size], FpOk X pins H1 b := fun b hb => by
    rw [List.mem_singleton.mp hb]
    exact I1.fpOk (Nat.le_refl _) I1.fresh
  rcases q1 with ⟨⟨xs, hq⟩, q⟩ | ⟨⟨xs, hq⟩, q⟩
  · obtain ⟨its, rv, pl, _⟩ := I1.list hq
    exact wpAny_pyIter_list pl.isList ⟨_, [s1.heap.objs.size], _, _, H1, rfl, I1.kept (t' := s1.toks) fun b o z => Heap.get?_push_of_some _ z, turn_list a _, ⟨_, Heap.get?_push_size _ rfl, rfl, rfl⟩, fresh, q⟩
  · obtain ⟨its, rv, pl, _⟩ := I1.tuple hq
    exact wpAny_pyIter_tuple (show s1.heap.IsTuple a its.toArray from pl) ⟨_, [s1.heap.objs.size], _, _, H1, rfl, I1.kept (t' := s1.toks) fun b o z => Heap.get?_push_of_some _ z, turn_tuple a _, ⟨_, Heap.get?_push_size _ rfl, rfl, rfl⟩, fresh, q⟩
def asFix : D → Option (List D)
  | .lst xs => some xs
  | .tup xs => some xs
  | .scr ns => some (ns.map D.int)
  | _ => none
theorem walks_ref {a : Addr} {n : Nat} {items : List D} : Walks X.K X.mg (Itl X.K a) (fun _ mu S => mu[n]? = some a ∧ S[n]? = some items) (ckOf (some n) items) items where
  mono := fun H mu S H' mu' S' h x c => ⟨prefix_get x.pre h.1, c⟩
  has := fun _ _ _ h => h.2
  go := fun i H mu S h s hi => by
    obtain ⟨vs, hv, hr⟩ := s.at_ n a items h.1 h.2
    exact ⟨vs, vs[i]'(by rw [hr.length]; exact hi), .of hv, List.getElem?_eq_getElem _⟩
  yld := fun i H mu x H' S d h s y hd => by
    obtain ⟨rfl, hx⟩ := y
    obtain ⟨vs, hv, hr⟩ := s.at_ n a items h.1 h.2
    obtain ⟨v, h1, h2⟩ := hr.get hd
    have := hx vs (.of hv)
    rw [h1] at this
    cases this
    exact ⟨Ext.refl _ _, s, h2⟩
  stop := fun H mu S h s => by
    obtain ⟨vs, hv, hr⟩ := s.at_ n a items h.1 h.2
    exact ⟨vs, .of hv, by rw [hr.length]; exact Nat.le_refl _⟩
def asWalk (S : Store) : D → Option (List D × Option Nat)
  | .lst xs => some (xs, none)
  | .tup xs => some (xs, none)
  | .scr ns => some (ns.map D.int, none)
  | .ref n => (S[n]?).map fun xs => (xs, some n)
  | _ => none
def dItems (f : Den) : Iens := fun ρ S => bndi (f ρ S) fun d S1 => (asWalk S1 d).map fun q => .ok q.1 q.2 S1
theorem PostI.mono {K : PySem.W.Frag} {mg : Str → Option Value} {σ : L2.St} {H H1 : Hp} {mu m1 : List Addr} {R : It → Hp → Prop} {r : Ires} (x : Ext H mu H1 m1) (q : PostI K mg W σ H mu R r) : PostI K mg W σ H1 m1 R r := by
  cases r with
  | ok items w S2 => exact fun J P H2 m2 wk pp x2 => q J P H2 m2 wk pp (x.trans x2)
  | exc c ns xs S2 => exact PostX.mono x q
theorem rdI_of {K : PySem.W.Frag} {mg : Str → Option Value} {f : Iens} {σ : L2.St} {H : Hp} {R : It → Hp → Prop} (h : rdI K mg W f σ H R) : ∃ mu S ρ r, StOk K mg H mu S ∧ EnvOk K mg H mu σ ρ ∧ f ρ S = some r ∧ PostI K mg W σ H mu R r := h
theorem rd_bndI {K : PySem.W.Frag} {mg : Str → Option Value} {f : Den} {k : D → Store → Option Ires} {σ : L2.St} {H : Hp} {mu : List Addr} {S : Store} {ρ : EnvD} {r : Ires} {R : It → Hp → Prop} {Q' : VK} (s : StOk K mg H mu S) (en : EnvOk K mg H mu σ ρ) (h : bndi (f ρ S) k = some r) (q : PostI K mg W σ H mu R r)
    (hk : ∀ d S1 v H1 m1, Ext H mu H1 m1 → StOk K mg H1 m1 S1 → EnvOk K mg H1 m1 σ ρ → Rep K mg H1 m1 v d → k d S1 = some r → PostI K mg W σ H1 m1 R r → Q' v H1) : rd K mg W f σ H Q' := by
  cases e : f ρ S with
  | none => rw [e] at h; cases h
  | some r1 =>
    rw [e] at h
    cases r1 with
    | ok d S1 => exact ⟨mu, S, ρ, _, s, en, e, fun v H1 m1 x s1 rp => hk d S1 v H1 m1 x s1 (en.mono x) rp h (q.mono x)⟩
    | exc c ns xs S1 =>
      have hr : r = .exc c ns xs S1 := (Option.some.inj h).symm
      subst hr
      exact ⟨mu, S, ρ, _, s, en, e, q⟩
/-- what is walked -/
theorem fix_walk {H : Hp} {mu : List Addr} {S : Store} {v : V} {d : D} {q : List D × Option Nat} {R : It → Hp → Prop} (s : StOk X.K X.mg H mu S) (r : Rep X.K X.mg H mu v d) (h : asWalk S d = some q) (hR : ∀ J P, Walks X.K X.mg J P (ckOf q.2 q.1) q.1 → P H mu S → R J H) :
    ∃ a, v = .ref a ∧ (((∃ xs, SqL X.K H a xs) ∧ R (Itl X.K a) H) ∨ ((∃ xs, SqT X.K H a xs) ∧ R (Itt X.K a) H)) := by
  cases d <;> try (cases h; done)
  · cases h
    cases r with
    | tup hq rv => exact ⟨_, rfl, .inr ⟨⟨_, hq.sq⟩, hR _ _ walks_tup ⟨hq, rv⟩⟩⟩
  · cases h
    cases r with
    | lst hq hn rv => exact ⟨_, rfl, .inl ⟨⟨_, .of hq⟩, hR _ _ walks_list ⟨.inl ⟨.inl hq, hn⟩, rv⟩⟩⟩
  · obtain ⟨xs, h1, rfl⟩ := Option.map_eq_some_iff.mp h
    cases r with
    | @ref a n hq =>
      obtain ⟨vs, hv, hr⟩ := s.at_ _ a xs hq h1
      exact ⟨a, rfl, .inl ⟨⟨vs, .of hv⟩, hR _ _ walks_ref ⟨hq, h1⟩⟩⟩
  · cases h
    cases r with
    | scr hq => exact ⟨_, rfl, .inl ⟨⟨_, hq.sq⟩, hR _ _ walks_list ⟨hq, Reps.ints _⟩⟩⟩
theorem di_seq (ha : DE X W iter fa) : DI X W tg iter (dItems fa) := by
  refine piI (pi_seq ha) fun σ H R h => ?_
  obtain ⟨mu, S, ρ, r, s, en, hf, q⟩ := rdI_of h
  refine rd_bndI s en hf q fun d S1 v H1 m1 x s1 en1 rp h1 q1 => ?_
  obtain ⟨xs, h2, rfl⟩ := Option.map_eq_some_iff.mp h1
  exact fix_walk s1 rp h2 fun J P w pp => q1 J P H1 m1 w pp (Ext.refl _ _) s1
def dRange1 (f : Den) : Iens := fun ρ S => bndi (f ρ S) fun d S1 => match d with
  | .int j => if -(2 ^ 62) ≤ j ∧ j < 2 ^ 62 then some (.ok (rgD 0 j.toNat) none S1) else none
  | _ => none
def dRange2 (f g : Den) : Iens := fun ρ S => bndi (f ρ S) fun d S1 => bndi (g ρ S1) fun d2 S2 => match d, d2 with
  | .int i, .int j => if -(2 ^ 62) ≤ i ∧ i < 2 ^ 62 ∧ -(2 ^ 62) ≤ j ∧ j < 2 ^ 62 then some (.ok (rgD i (j - i).toNat) none S2) else none
  | _, _ => none
theorem di_range1 (hm : X.mg "range" = none) (ha : DE X W a fa) (hg : Gl X "range" := by rfl) (hs : starEach [a] X.env = [(false, eval a X.env)] := by rfl) : DI X W tg (.Call (.Name "range" p) [a] [] pos) (dRange1 fa) := by
  refine piI (pi_range1 hg hm (pa_cons ha pa_nil hs) hs) fun σ H R h => ?_
  obtain ⟨mu, S, ρ, r, s, en, hf, q⟩ := rdI_of h
  refine rd_bndI s en hf q fun d S1 v H1 m1 x s1 en1 rp h1 q1 => ?_
  split at h1
  · split at h1
    · rename_i j hj
      cases h1
      cases rp
      exact ⟨j, rfl, hj.1, hj.2, q1 _ _ H1 m1 (walks_range 0 j.toNat) trivial (Ext.refl _ _) s1⟩
    · cases h1
  · cases h1
theorem di_range2 (hm : X.mg "range" = none) (ha : DE X W a fa) (hb : DE X W b fb) (hg : Gl X "range" := by rfl) (hs : starEach [a, b] X.env = [(false, eval a X.env), (false, eval b X.env)] := by rfl) (hs2 : starEach [b] X.env = [(false, eval b X.env)] := by rfl)
    (hs3 : starEach [a, b] X.env = (false, eval a X.env) :: starEach [b] X.env := by rfl) : DI X W tg (.Call (.Name "range" p) [a, b] [] pos) (dRange2 fa fb) := by
  refine piI (pi_range2 hg hm (pa_cons ha (pa_cons hb pa_nil hs2) hs3) hs hs2) fun σ H R h => ?_
  obtain ⟨mu, S, ρ, r, s, en, hf, q⟩ := rdI_of h
  refine rd_bndI s en hf q fun d S1 v H1 m1 x s1 en1 rp h1 q1 => ?_
  refine rd_bndI s1 en1 h1 q1 fun d2 S2 v2 H2 m2 x2 s2 en2 rp2 h2 q2 => ?_
  split at h2
  · split at h2
    · rename_i i j hj
      cases h2
      cases rp
      cases rp2
      exact ⟨i, j, rfl, hj, q2 _ _ H2 m2 (walks_range i (j - i).toNat) trivial (Ext.refl _ _) s2⟩
    · cases h2
  · cases h2
/-- pairs of place and value -/
def enumD : Nat → List D → List D
  | _, [] => []
  | i, x :: xs => .tup [.int i, x] :: enumD (i + 1) xs
theorem enumD_length : ∀ (i : Nat) (xs : List D), (enumD i xs).length = xs.length
  | _, [] => rfl
  | i, x :: xs => congrArg Nat.succ (enumD_length (i + 1) xs)
theorem enumD_get : ∀ (i k : Nat) (xs : List D) (d : D), (enumD i xs)[k]? = some d → ∃ x, xs[k]? = some x ∧ d = .tup [.int ((i + k : Nat) : Int), x]
  | _, _, [], _, h => by cases h
  | i, 0, x :: xs, d, h => by
    simp only [enumD, List.getElem?_cons_zero] at h
    cases h
    exact ⟨x, rfl, rfl⟩
  | i, k + 1, x :: xs, d, h => by
    simp only [enumD, List.getElem?_cons_succ] at h
    obtain ⟨y, h1, rfl⟩ := enumD_get (i + 1) k xs d h
    exact ⟨y, by simpa using h1, by rw [show i + 1 + k = i + (k + 1) by omega]⟩
theorem walks_enum {a : Addr} {vs : List V} {items : List D} : Walks X.K X.mg (Ite X.K a) (fun H mu _ => SqLm X.K H mu a vs ∧ Reps X.K X.mg H mu vs items) (ckOf none (enumD 0 items)) (enumD 0 items) where
  mono := fun H mu S H' mu' S' h x _ => ⟨x.sqL h.1, h.2.mono x⟩
  has := fun _ _ _ _ => trivial
  go := fun i H mu S h _ hi => by
    rw [enumD_length] at hi
    exact ⟨vs, vs[i]'(by rw [h.2.length]; exact hi), h.1.sq, List.getElem?_eq_getElem _⟩
  yld := fun i H mu x H' S d h s y hd => by
    obtain ⟨T, z, rfl, hT, rfl, hz⟩ := y
    obtain ⟨xd, h1, rfl⟩ := enumD_get 0 i items d hd
    obtain ⟨v, h2, h3⟩ := h.2.get h1
    have e := hz vs h.1.sq
    rw [h2] at e
    have ez : z = v := (Option.some.inj e).symm
    subst ez
    have n := s.free hT
    have xx : Ext H mu (upd H T (.tup [.int (i : Nat), z])) mu := Ext.fresh hT n
    refine ⟨xx, s.fresh hT, .tup (.inl ⟨.inl upd_same, n⟩) (.cons ?_ (.cons (h3.mono xx) .nil))⟩
    rw [Nat.zero_add]
    exact .int _
  stop := fun H mu S h _ => ⟨vs, h.1.sq, by rw [enumD_length, h.2.length]; exact Nat.le_refl _⟩

/-! ### for -/
open Classical in
noncomputable def forLoop (w : Option Nat) (all : List D) (t : TDen) (g : SDen) : List D → SDen
  | [] => fun ρ S => some (.nx ρ S)
  | x :: xs => fun ρ S => match t x ρ S with
    | none => none
    | some ρ1 => match g ρ1 S with
      | some (.nx ρ2 S2) => if ckOf w all S2 then forLoop w all t g xs ρ2 S2 else none
      | some (.ct ρ2 S2) => if ckOf w all S2 then forLoop w all t g xs ρ2 S2 else none
      | some (.bk ρ2 S2) => some (.nx ρ2 S2)
      | r => r
noncomputable def sFor (f : Iens) (t : TDen) (g : SDen) : SDen := fun ρ S => match f ρ S with
  | some (.ok items w S1) => forLoop w items t g items ρ S1
  | some (.exc c ns xs S1) => some (.exc c ns xs ρ S1)
  | none => none
theorem ds_for {t : TDen} (hp : PassesOwn (model X.prog X.w) X.A X.env X.xe) (hc : X.calm = true) (hi : DI X W tg iter ga) (hg : DG X tg t) (hb : DSs X W sts g) (hs : ∀ x, foldedSetIterable iter X.env x = pure x := by intro _; rfl) :
    DS X W (.For tg iter sts [] pos) (sFor ga t g) := by
  refine psI (ps_for hp hc hi hg hb hs) fun D0 σ H q => ?_
  obtain ⟨mu, S, ρ, r, s, en, hf, q⟩ := q
  unfold sFor at hf
  cases e1 : ga ρ S with
  | none => rw [e1] at hf; cases hf
  | some r1 =>
    rw [e1] at hf
    refine ⟨mu, S, ρ, r1, s, en, e1, ?_⟩
    cases r1 with
    | exc c ns xs S1 => cases hf; exact q σ H mu (Ext.refl _ _) en
    | ok items w S1 =>
      intro J P H1 m1 wk pp x1 s1
      refine ⟨fun i m σ H => ∃ mu S ρ, StOk X.K X.mg H mu S ∧ EnvOk X.K X.mg H mu σ ρ ∧ P H mu S ∧ i + m = items.length ∧ forLoop w items t g (items.drop i) ρ S = some r ∧ PostS X.K X.mg W D0 H mu r,
        ⟨items.length, m1, S1, ρ, s1, en.mono x1, pp, by omega, by simpa using hf, q.mono x1⟩, ?_⟩
      rintro i m σ2 H2 ⟨m2, S2, ρ2, s2, en2, pp2, hl, hf2, q2⟩
      by_cases hi : i < items.length
      · obtain ⟨d, hd⟩ : ∃ d, items[i]? = some d := ⟨_, List.getElem?_eq_getElem hi⟩
        have hdrop : items.drop i = d :: items.drop (i + 1) := by
          rw [List.drop_eq_getElem_cons hi]
          rw [List.getElem?_eq_getElem hi] at hd
          rw [Option.some.inj hd]
        rw [hdrop] at hf2
        simp only [forLoop] at hf2
        refine .inr ⟨wk.go i H2 m2 S2 pp2 s2 hi, fun σ' H' => ∃ mu S ρ, StOk X.K X.mg H' mu S ∧ EnvOk X.K X.mg H' mu σ' ρ ∧ P H' mu S ∧ (i + 1) + (m - 1) = items.length ∧ forLoop w items t g (items.drop (i + 1)) ρ S = some r ∧ PostS X.K X.mg W D0 H' mu r,
          fun σ' H' z => ⟨m - 1, by omega, z⟩, fun v H3 y => ?_⟩
        obtain ⟨x3, s3, rp3⟩ := wk.yld i H2 m2 v H3 S2 d pp2 s2 y hd
        have en3 := en2.mono x3
        have q3 := q2.mono x3
        have pp3 := wk.mono _ _ _ _ _ _ pp2 x3 (wk.has _ _ _ pp2)
        cases e4 : t d ρ2 S2 with
        | none => rw [e4] at hf2; cases hf2
        | some ρ3 =>
          rw [e4] at hf2
          simp only at hf2
          refine ⟨m2, S2, ρ2, d, ρ3, s3, en3, rp3, e4, fun σ4 en4 => ?_⟩
          cases e5 : g ρ3 S2 with
          | none => rw [e5] at hf2; cases hf2
          | some r5 =>
            rw [e5] at hf2
            refine ⟨m2, S2, ρ3, r5, s3, en4, e5, ?_⟩
            cases r5 with
            | nx ρ5 S5 =>
              simp only at hf2
              split at hf2
              · rename_i hck
                exact fun σ6 H6 m6 x6 s6 en6 => ⟨m6, S5, ρ5, s6, en6, wk.mono _ _ _ _ _ _ pp3 x6 hck, by omega, hf2, q3.mono x6⟩
              · cases hf2
            | ct ρ5 S5 =>
              simp only at hf2
              split at hf2
              · rename_i hck
                exact fun σ6 H6 m6 x6 s6 en6 => ⟨m6, S5, ρ5, s6, en6, wk.mono _ _ _ _ _ _ pp3 x6 hck, by omega, hf2, q3.mono x6⟩
              · cases hf2
            | bk ρ5 S5 => cases hf2; exact q3
            | rt d5 S5 => cases hf2; exact q3
            | exc c ns xs ρ5 S5 => cases hf2; exact q3
      · have he : i = items.length := by omega
        subst he
        rw [List.drop_length] at hf2
        cases hf2
        exact .inl ⟨wk.stop H2 m2 S2 pp2 s2, q2 σ2 H2 m2 (Ext.refl _ _) s2 en2⟩

/-! ### comprehensions -/

mutual
inductive Tg where
  | one (k : Nat)
  | tup (ts : Tgs)
inductive Tgs where
  | nil
  | cons (t : Tg) (ts : Tgs)
end
mutual
def Tg.slots : Tg → List Nat
  | .one k => [k]
  | .tup ts => ts.slots
def Tgs.slots : Tgs → List Nat
  | .nil => []
  | .cons t ts => t.slots ++ ts.slots
end
def Tgs.len : Tgs → Nat
  | .nil => 0
  | .cons _ ts => ts.len + 1
mutual
def Tg.go : Tg → D → EnvD → Option EnvD
  | .one k, d, ρ => some (ρ.set k (some d))
  | .tup ts, d, ρ => match d with
    | .tup xs => ts.go xs ρ
    | _ => none
def Tgs.go : Tgs → List D → EnvD → Option EnvD
  | .nil, xs, ρ => match xs with
    | [] => some ρ
    | _ => none
  | .cons t ts, xs, ρ => match xs with
    | x :: xs => (t.go x ρ).bind fun ρ1 => ts.go xs ρ1
    | [] => none
end
mutual
def Tg.rd (K : PySem.W.Frag) : Tg → TG
  | .one k => gName k
  | .tup ts => gTup K ts.len (ts.rd K)
def Tgs.rd (K : PySem.W.Frag) : Tgs → TGs
  | .nil => gNil
  | .cons t ts => gCons (t.rd K) (ts.rd K)
end
def wipeD (ρ : EnvD) : List Nat → EnvD
  | [] => ρ
  | v :: vs => (wipeD ρ vs).set v none
theorem wipe_ok {K : PySem.W.Frag} {mg : Str → Option Value} {H : Hp} {mu : List Addr} {σ : L2.St} {ρ : EnvD} (h : EnvOk K mg H mu σ ρ) : ∀ own : List Nat, EnvOk K mg H mu (wipe σ own) (wipeD ρ own)
  | [] => h
  | v :: vs => (wipe_ok h vs).forget v none
theorem wipe_set {σ : L2.St} {k : Nat} {x : Option V} : ∀ {own : List Nat}, k ∈ own → wipe (σ.set k x) own = wipe σ own
  | [], h => nomatch h
  | v :: vs, h => by
    unfold wipe
    by_cases hv : k ∈ vs
    · rw [wipe_set hv]
    · have e : k = v := by
        rcases List.mem_cons.mp h with z | z
        · exact z
        · exact absurd z hv
      subst e
      have out : ∀ (ws : List Nat) (τ : L2.St), k ∉ ws → wipe (τ.set k x) ws = (wipe τ ws).set k x := by
        intro ws
        induction ws with
        | nil => intro τ _; rfl
        | cons w ws ih =>
          intro τ hw
          unfold wipe
          rw [ih τ (fun z => hw (List.mem_cons_of_mem _ z))]
          exact List.set_comm _ _ (fun z => hw (by rw [z]; exact List.mem_cons_self))
      rw [out vs σ hv, List.set_set]
theorem wipe_wipe (σ : L2.St) : ∀ own : List Nat, wipe (wipe σ own) own = wipe σ own := by
  have step : ∀ (ws own : List Nat), (∀ k ∈ ws, k ∈ own) → wipe (wipe σ ws) own = wipe σ own := by
    intro ws
    induction ws with
    | nil => intro own _; rfl
    | cons w ws ih =>
      intro own h
      show wipe ((wipe σ ws).set w none) own = _
      rw [wipe_set (h w List.mem_cons_self), ih own fun k hk => h k (List.mem_cons_of_mem _ hk)]
  exact fun own => step own own fun _ h => h
theorem Tgs.go_len : ∀ {ts : Tgs} {xs : List D} {ρ ρ' : EnvD}, ts.go xs ρ = some ρ' → xs.length = ts.len
  | .nil, [], _, _, _ => rfl
  | .nil, _ :: _, _, _, h => by simp [Tgs.go] at h
  | .cons t ts, [], _, _, h => by simp [Tgs.go] at h
  | .cons t ts, x :: xs, ρ, ρ', h => by
    simp only [Tgs.go] at h
    obtain ⟨ρ1, _, h2⟩ := Option.bind_eq_some_iff.mp h
    exact congrArg (· + 1) (Tgs.go_len h2)
mutual
theorem tg_ok {K : PySem.W.Frag} {mg : Str → Option Value} {H : Hp} {mu : List Addr} {own : List Nat} : ∀ (t : Tg) {v : V} {d : D} {σ : L2.St} {ρ ρ' : EnvD} {Q : L2.St → Hp → Prop}, Rep K mg H mu v d → EnvOk K mg H mu σ ρ → t.go d ρ = some ρ' → (∀ k ∈ t.slots, k ∈ own) →
    (∀ σ', EnvOk K mg H mu σ' ρ' → wipe σ' own = wipe σ own → Q σ' H) → t.rd K v σ H Q
  | .one k, v, d, σ, ρ, ρ', Q, r, en, h, hs, q => by
    simp only [Tg.go] at h
    cases h
    exact q _ (en.set r k) (wipe_set (hs k (by simp [Tg.slots])))
  | .tup ts, v, d, σ, ρ, ρ', Q, r, en, h, hs, q => by
    simp only [Tg.go] at h
    split at h
    · rename_i xs
      cases r with
      | tup hq rv => exact ⟨_, _, rfl, hq.sq, rv.length.trans (Tgs.go_len h), tgs_ok ts rv en h (fun k hk => hs k (by simpa [Tg.slots] using hk)) q⟩
    · cases h
theorem tgs_ok {K : PySem.W.Frag} {mg : Str → Option Value} {H : Hp} {mu : List Addr} {own : List Nat} : ∀ (ts : Tgs) {vs : List V} {ds : List D} {σ : L2.St} {ρ ρ' : EnvD} {Q : L2.St → Hp → Prop}, Reps K mg H mu vs ds → EnvOk K mg H mu σ ρ → ts.go ds ρ = some ρ' → (∀ k ∈ ts.slots, k ∈ own) →
    (∀ σ', EnvOk K mg H mu σ' ρ' → wipe σ' own = wipe σ own → Q σ' H) → ts.rd K vs σ H Q
  | .nil, vs, ds, σ, ρ, ρ', Q, r, en, h, hs, q => by
    cases r with
    | nil =>
      simp only [Tgs.go] at h
      cases h
      exact ⟨rfl, q _ en rfl⟩
    | cons r t => simp [Tgs.go] at h
  | .cons t ts, vs, ds, σ, ρ, ρ', Q, r, en, h, hs, q => by
    cases r with
    | nil => simp [Tgs.go] at h
    | @cons v vs d ds r rr =>
      simp only [Tgs.go] at h
      obtain ⟨ρ1, h1, h2⟩ := Option.bind_eq_some_iff.mp h
      refine ⟨v, vs, rfl, tg_ok t r en h1 (fun k hk => hs k (by simp [Tgs.slots, hk])) fun σ1 en1 w1 => ?_⟩
      exact tgs_ok ts rr en1 h2 (fun k hk => hs k (by simp [Tgs.slots, hk])) fun σ2 en2 w2 => q σ2 en2 (w2.trans w1)
end
open Classical in
/-- the block of a comprehension over items: its list stands at place n0 of the store -/
noncomputable def lcLoop (own : List Nat) (t : Tg) (cnd elt : Den) (ρ : EnvD) (n0 : Nat) (w : Option Nat) (all : List D) : List D → Store → Option Store
  | [], T => some T
  | x :: xs, T => match t.go x (wipeD ρ own) with
    | none => none
    | some ρ1 => match cnd ρ1 T with
      | some (.ok (.bl b) T1) => if b then (match elt ρ1 T1 with
        | some (.ok y T2) => (match T2[n0]? with
          | some acc => if acc.length < 16777216 ∧ ckOf w all (T2.set n0 (acc ++ [y])) then lcLoop own t cnd elt ρ n0 w all xs (T2.set n0 (acc ++ [y])) else none
          | none => none)
        | _ => none) else if ckOf w all T1 then lcLoop own t cnd elt ρ n0 w all xs T1 else none
      | _ => none
def dYes : Den := fun _ S => some (.ok (.bl true) S)
open Classical in
/-- a comprehension whose list is frozen -/
noncomputable def dLc (own : List Nat) (f : Iens) (t : Tg) (cnd elt : Den) : Den := fun ρ S => match f ρ S with
  | some (.ok items w S1) => (match lcLoop own t cnd elt ρ S1.length w items items (S1 ++ [[]]) with
    | some T => if T.take S1.length = S1 then (match T[S1.length]? with
      | some acc => (fzs T S1.length acc).map fun ys => .ok (.lst ys) S1
      | none => none) else none
    | none => none)
  | some (.exc c ns xs S1) => some (.exc c ns xs S1)
  | none => none
/-- .. whose list may change later -/
noncomputable def dLcM (own : List Nat) (f : Iens) (t : Tg) (cnd elt : Den) : Den := fun ρ S => match f ρ S with
  | some (.ok items w S1) => (lcLoop own t cnd elt ρ S1.length w items items (S1 ++ [[]])).map fun T => .ok (.ref S1.length) T
  | some (.exc c ns xs S1) => some (.exc c ns xs S1)
  | none => none
/-- the state behind i items -/
def LcAt (X : Cx) (P : Hp → List Addr → Store → Prop) (w : Option Nat) (items : List D) (own : List Nat) (t : Tg) (cnd elt : Den) (σ : L2.St) (ρ : EnvD) (n0 : Nat) (D0 : Addr) (H0 : Hp) (m0 : List Addr) (Te : Store) (i m : Nat) (H : Hp) : Prop :=
  ∃ mu T, StOk X.K X.mg H mu T ∧ Ext H0 m0 H mu ∧ EnvOk X.K X.mg H mu σ ρ ∧ P H mu T ∧ mu[n0]? = some D0 ∧ i + m = items.length ∧ lcLoop own t cnd elt ρ n0 w items (items.drop i) T = some Te
theorem lc_turns {J : It} {P : Hp → List Addr → Store → Prop} {items : List D} {own : List Nat} {t : Tg} {cnd elt : Den} {σ : L2.St} {ρ : EnvD} {n0 : Nat} {D0 : Addr} {H0 : Hp} {m0 : List Addr} {Te : Store} {Q : Hp → Prop} {W' : WX} (wk : Walks X.K X.mg J P (ckOf w items) items) (ht : ∀ k ∈ t.slots, k ∈ own) (hW : ∀ c d σ H, ¬ W' c d σ H)
    (hQ : ∀ H mu, StOk X.K X.mg H mu Te → Ext H0 m0 H mu → mu[n0]? = some D0 → Q H) (i m : Nat) (H : Hp) (h : LcAt X P w items own t cnd elt σ ρ n0 D0 H0 m0 Te i m H) :
    (J.stop i H ∧ Q H) ∨ (J.go i H ∧ ∃ Nx : Hp → Prop, (∀ H', Nx H' → ∃ m', m' < m ∧ LcAt X P w items own t cnd elt σ ρ n0 D0 H0 m0 Te (i + 1) m' H') ∧ ∀ x H', J.yld i H x H' → Tg.rd X.K t x (wipe σ own) H' fun σ2 H2 => wipe σ2 own = wipe σ own ∧ rdt X.K X.mg W' cnd σ2 H2 fun b H3 =>
      if b = true then rd X.K X.mg W' elt σ2 H3 fun y H4 => ∃ acc, H4 D0 = some (.lst acc) ∧ acc.length < sizeLine ∧ Nx (upd H4 D0 (.lst (acc ++ [y]))) else Nx H3) := by
  obtain ⟨m2, T2, s2, x02, en2, pp2, hD, hl, hf2⟩ := h
  by_cases hi : i < items.length
  · obtain ⟨d, hd⟩ : ∃ d, items[i]? = some d := ⟨_, List.getElem?_eq_getElem hi⟩
    have hdrop : items.drop i = d :: items.drop (i + 1) := by
      rw [List.drop_eq_getElem_cons hi]
      rw [List.getElem?_eq_getElem hi] at hd
      rw [Option.some.inj hd]
    rw [hdrop] at hf2
    simp only [lcLoop] at hf2
    refine .inr ⟨wk.go i H m2 T2 pp2 s2 hi, fun H' => LcAt X P w items own t cnd elt σ ρ n0 D0 H0 m0 Te (i + 1) (m - 1) H', fun H' z => ⟨m - 1, by omega, z⟩, fun v H3 y => ?_⟩
    obtain ⟨x3, s3, rp3⟩ := wk.yld i H m2 v H3 T2 d pp2 s2 y hd
    have en3 := wipe_ok (en2.mono x3) own
    have pp3 := wk.mono _ _ _ _ _ _ pp2 x3 (wk.has _ _ _ pp2)
    cases e4 : t.go d (wipeD ρ own) with
    | none => rw [e4] at hf2; cases hf2
    | some ρ3 =>
      rw [e4] at hf2
      simp only at hf2
      -- behind the target's store
      have body : ∀ σ2, EnvOk X.K X.mg H3 m2 σ2 ρ3 → wipe σ2 own = wipe σ own → (wipe σ2 own = wipe σ own ∧ rdt X.K X.mg W' cnd σ2 H3 fun b H3 =>
          if b = true then rd X.K X.mg W' elt σ2 H3 fun y H4 => ∃ acc, H4 D0 = some (.lst acc) ∧ acc.length < sizeLine ∧ LcAt X P w items own t cnd elt σ ρ n0 D0 H0 m0 Te (i + 1) (m - 1) (upd H4 D0 (.lst (acc ++ [y]))) else LcAt X P w items own t cnd elt σ ρ n0 D0 H0 m0 Te (i + 1) (m - 1) H3) := fun σ2 en4 hw => by
        refine ⟨hw, ?_⟩
        split at hf2
        · rename_i b T3 e5
          refine ⟨m2, T2, ρ3, _, s3, en4, e5, fun H5 m5 x5 s5 => ?_⟩
          have x35 := x3.trans x5
          cases b with
          | false =>
            refine iteF ?_
            simp only [Bool.false_eq_true, if_false] at hf2
            split at hf2
            · rename_i hck
              exact ⟨m5, T3, s5, x02.trans x35, en2.mono x35, wk.mono _ _ _ _ _ _ pp3 x5 hck, prefix_get x5.pre hD, by omega, hf2⟩
            · cases hf2
          | true =>
            refine iteT ?_
            simp only [if_true] at hf2
            split at hf2
            · rename_i y T4 e6
              split at hf2
              · rename_i acc e7
                split at hf2
                · rename_i hz
                  refine ⟨m5, T3, ρ3, _, s5, en4.mono x5, e6, fun w H6 m6 x6 s6 rp6 => ?_⟩
                  have hD6 := prefix_get x6.pre (prefix_get x5.pre hD)
                  obtain ⟨ws, hw6, hr6⟩ := s6.at_ n0 D0 acc hD6 e7
                  refine ⟨ws, hw6, by rw [hr6.length, line_eq]; exact hz.1, ?_⟩
                  have hm := List.mem_of_getElem? hD6
                  have xc := Ext.chg (H := H6) (o := .lst (ws ++ [w])) hm
                  have xa := (x35.trans x6).trans xc
                  exact ⟨m6, _, s6.chg hD6 (hr6.append (.single rp6)), x02.trans xa, en2.mono xa, wk.mono _ _ _ _ _ _ pp2 xa hz.2, hD6, by omega, hf2⟩
                · cases hf2
              · cases hf2
            · cases hf2
        · cases hf2
      exact tg_ok t rp3 en3 e4 ht fun σ2 en4 hw => body σ2 en4 (hw.trans (wipe_wipe σ own))
  · have he : i = items.length := by omega
    subst he
    rw [List.drop_length] at hf2
    cases hf2
    exact .inl ⟨wk.stop H m2 _ pp2 s2, hQ H m2 s2 x02 hD⟩

/-! ### enumerate over a list -/
def dEnum (f : Den) : Iens := fun ρ S => bndi (f ρ S) fun d S1 => match d with
  | .lst xs => some (.ok (enumD 0 xs) none S1)
  | .scr ns => some (.ok (enumD 0 (ns.map .int)) none S1)
  | _ => none
theorem di_enum {elts : List Expr} {kk : Nat} {tpos : Pos} (hm : X.mg "enumerate" = none) (ha : DE X W a fa) (hg : Gl X "enumerate" := by rfl) (hs : starEach [a] X.env = [(false, eval a X.env)] := by rfl) :
    DI X W (.Tuple elts kk tpos) (.Call (.Name "enumerate" p) [a] [] pos) (dEnum fa) := by
  refine piI (pi_enum hg hm (pa_cons ha pa_nil hs) hs) fun σ H R h => ?_
  obtain ⟨mu, S, ρ, r, s, en, hf, q⟩ := rdI_of h
  refine rd_bndI s en hf q fun d S1 v H1 m1 x s1 en1 rp h1 q1 => ?_
  cases rp with
  | lst hq hn rv =>
    cases h1
    exact ⟨_, _, rfl, .inl (.inl hq), q1 _ _ H1 m1 walks_enum ⟨.inl ⟨.inl hq, hn⟩, rv⟩ (Ext.refl _ _) s1⟩
  | scr hq =>
    cases h1
    exact ⟨_, _, rfl, hq.sq, q1 _ _ H1 m1 walks_enum ⟨hq, Reps.ints _⟩ (Ext.refl _ _) s1⟩
  | _ => cases h1
end
end PD
set_option Elab.async false
set_option linter.all false
set_option maxRecDepth 100000
set_option maxHeartbeats 4000000
namespace PD
open PySem PySem.Spec PyProof.Rows L2
/-! ### an own error that has an own __init__ is made: as a value that stays, as what raise flies -/
section
variable {X : Cx} {x : Str} {C fI : Addr} {k : Nat} {fd : FuncData} {ps : List Str} {sp : Sp} {ds : List Value} {dvs : List V} {e : Expr} {es : List Expr} {ta : TA} {p pos : Pos} {CX : CXT}
theorem passLN {P : Program} {w : World} {X : Cx} : Passes (L2N.CX P w) X (fun _ _ _ => False) := fun _ _ _ _ _ _ _ ⟨_, _, _, _, _, _, _, _, _, _, _, _, z⟩ => z.elim
/-- the class is called: what is there then -/
def Made (X : Cx) (pins : List (Addr × Obj)) (σ : L2.St) (H1 : Hp) (s1 : Shared) (C : Addr) (R : Addr → Hp → Prop) (u : Value) (z : Shared) : Prop :=
  ∃ (a : Addr) (h2 : Heap) (H2 : Hp), u = .ref a ∧ s1.heap.objs.size ≤ a ∧ (∀ b o, s1.heap.get? b = some o → h2.get? b = some o) ∧ Inv X pins σ (upd H1 a (exo a C none)) { s1 with heap := h2 } ∧ z.os = s1.os ∧ AllBare z.gens ∧
    Un (frs X.stack) [] (upd H1 a (exo a C none)) H2 h2 z.heap ∧ HOk X.prog X.w H2 z.heap ∧ R a H2
theorem oex_made (T : OexC X.K C) (iC : PySem.W.findIn X.K (.ref C) "__init__" = some (some (.ref fI))) (tI : PySem.W.typeIn X.K (.ref fI) = some (.type "function"))
    (F1 : FnOk X.prog X.w X.K X.mg X.base CX k fI fd ps sp) (hr : Room (k + 1) X.A) (hb : Binds X.K fd ps ds) (hd : Vals dvs ds) (hx : Passes CX X (fun _ _ _ => False)) {pins : List (Addr × Obj)} {σ : L2.St} {H1 : Hp} {s1 : Shared} {us : List Value} {vs : List V} {R : Addr → Hp → Prop}
    (J : Inv X pins σ H1 s1) (rv : Vals vs us) (hz : vs.length ≤ 1000) (hq : ∀ a, H1 a = none → sp (.ref a :: (vs ++ dvs)) (upd H1 a (exo a C none)) (fun v H2 => v = .non ∧ R a H2) fun _ _ _ => False) :
    wpAny (model X.prog X.w) X.A (call (.ref C) us) (Made X pins σ H1 s1 C R) X.xe s1 := by
  obtain ⟨q1, q2, q3, q4, bm, q6, q7, q8, q9, q10, q11, q12, q13, q14, q15, hC, hbm⟩ := T.cls
  obtain ⟨hp, gn, dr, tk, os⟩ := s1
  have lo : hp.objs.size ≤ hp.objs.size + 1 := by omega
  have q := hq (hp.objs.size + 1) (J.hok.fresh lo)
  generalize eh : (hp.push (PySem.W.kdv_tup us)).push (PySem.HandSPX.excO C hp.objs.size) = h2
  have grow : ∀ b o, hp.get? b = some o → h2.get? b = some o := fun b o z => by
    rw [← eh]; exact Heap.get?_push_of_some _ (Heap.get?_push_of_some _ z)
  have here : h2.get? (hp.objs.size + 1) = some (PySem.HandSPX.excO C hp.objs.size) := by
    rw [← eh]; heap_get
  have J2 : Inv X pins σ (upd H1 (hp.objs.size + 1) (exo (hp.objs.size + 1) C none)) ⟨h2, gn, dr, tk, os⟩ := J.laid (t' := tk) grow lo (exo_ok here)
  have all : Vals (V.ref (hp.objs.size + 1) :: (vs ++ dvs)) (Value.ref (hp.objs.size + 1) :: (us ++ ds)) := .cons rfl (rv.append hd)
  have cnt : (Value.ref (hp.objs.size + 1) :: us ++ ds).length = ps.length := all.length.symm.trans (F1.len _ _ _ _ q)
  have few : us.length ≤ sizeLine := by
    have := Paired.length rv
    rw [sizeLine_eq]; omega
  refine wpAny_call (PySem.HandSPX.call_own F.excBase_ValueError (fun Y => PySem.HandSPX.refsVE_contains Y bm hbm) (J.kIn _ _ hC) (PySem.W.looks_findIn J.kIn iC) (fun self => PySem.W.bind_fn J.kIn self tI) few ?_)
  rw [eh]
  refine codeAny_mono (F1.run _ X.stack _ _ ⟨Value.ref (hp.objs.size + 1) :: us, []⟩ _ _ _ _ (hr.make C us []) (J2.env0.make C us []) (hb _ (Value.ref (hp.objs.size + 1) :: us) J2.kIn cnt) all q) fun r z hc => ?_
  match r, hc with
  | .error er, hc => exact hx pins σ _ _ er z J2 hc
  | .ok (.ret u), ⟨v, H2, o2, b2, un, ok2, ru, ev, qR⟩ => subst ev; exact ⟨ru, hp.objs.size + 1, h2, H2, rfl, lo, grow, J2, o2, b2, un, ok2, qR⟩
  | .ok .next, hc => exact hc.elim
  | .ok .brk, hc => exact hc.elim
  | .ok .cont, hc => exact hc.elim
/-- as a value -/
def tMkV (C : Addr) (sp : Sp) (dvs : List V) (ta : TA) : TE := fun σ H Q => ta σ H fun vs H1 => vs.length ≤ 1000 ∧ ∀ a, H1 a = none → sp (.ref a :: (vs ++ dvs)) (upd H1 a (exo a C none)) (fun v H2 => v = .non ∧ Q (.ref a) H2) fun _ _ _ => False
theorem pe_oexV (T : OexC X.K C) (iC : PySem.W.findIn X.K (.ref C) "__init__" = some (some (.ref fI))) (tI : PySem.W.typeIn X.K (.ref fI) = some (.type "function"))
    (F1 : FnOk X.prog X.w X.K X.mg X.base CX k fI fd ps sp) (hr : Room (k + 1) X.A) (hb : Binds X.K fd ps ds) (hd : Vals dvs ds) (hx : Passes CX X (fun _ _ _ => False)) (hg : Gl X x) (hm : X.mg x = some (.ref C)) (ha : PA X (e :: es) ta)
    (hdb : (x == ("__debug__" : Str)) = false := by decide) (he : starEach (e :: es) X.env = (false, eval e X.env) :: starEach es X.env := by rfl) (hpl : (backTo pos (starEach es X.env)).any (·.1) = false := by rfl) :
    PE X (.Call (.Name x p) (e :: es) [] pos) (tMkV C sp dvs ta) := by
  refine ⟨fun pins s σ H Q J h => wpAny_Call_Name_kw (ld_glob J hg hm (PySem.W.callWith_K (h₀ := X.base) J.ok.mod.kin T.kC (thn (ha.run pos pins s σ H _ J h) fun us s1 ⟨vs, H1, J1, r1, hz, q1⟩ => ⟨J1.kIn, ?_⟩) he hpl) hdb)⟩
  refine wpAny_mono (oex_made T iC tI F1 hr hb hd hx J1 r1 hz q1) (fun u z ⟨a, h2, H2, eu, _, _, J2, o2, b2, un, ok2, q⟩ => ?_) fun _ _ z => z
  subst eu
  exact ⟨.ref a, H2, J2.call' o2 un ok2 b2 (fun b hb => absurd hb List.not_mem_nil), rfl, q⟩
/-- to be flown -/
def tMkF (C : Addr) (sp : Sp) (dvs : List V) (ta : TA) : L2.St → Hp → XK → Prop := fun σ H Q => ta σ H fun vs H1 => vs.length ≤ 1000 ∧ ∀ a, H1 a = none → sp (.ref a :: (vs ++ dvs)) (upd H1 a (exo a C none))
  (fun v H2 => v = .non ∧ ∃ (d : Addr) (fs : List (Str × V)), H2 a = some (exo a C (some d)) ∧ H2 d = some (exd d fs) ∧ H1 d = none ∧ Q (.ref C) (some d) (upd (del H2 a) d (.xd fs))) fun _ _ _ => False
theorem pmk_oexF (T : OexC X.K C) (iC : PySem.W.findIn X.K (.ref C) "__init__" = some (some (.ref fI))) (tI : PySem.W.typeIn X.K (.ref fI) = some (.type "function"))
    (F1 : FnOk X.prog X.w X.K X.mg X.base CX k fI fd ps sp) (hr : Room (k + 1) X.A) (hb : Binds X.K fd ps ds) (hd : Vals dvs ds) (hx : Passes CX X (fun _ _ _ => False)) (hg : Gl X x) (hm : X.mg x = some (.ref C)) (ha : PA X (e :: es) ta)
    (hdb : (x == ("__debug__" : Str)) = false := by decide) (he : starEach (e :: es) X.env = (false, eval e X.env) :: starEach es X.env := by rfl) (hpl : (backTo pos (starEach es X.env)).any (·.1) = false := by rfl) :
    L2N.PMk X (.Call (.Name x p) (e :: es) [] pos) (tMkF C sp dvs ta) := by
  intro pins s σ H Q J h
  refine wpAny_Call_Name_kw (ld_glob J hg hm (PySem.W.callWith_K (h₀ := X.base) J.ok.mod.kin T.kC (thn (ha.run pos pins s σ H _ J h) fun us s1 ⟨vs, H1, J1, r1, hz, q1⟩ => ⟨J1.kIn, ?_⟩) he hpl) hdb)
  refine wpAny_mono (oex_made T iC tI F1 hr hb hd hx J1 r1 hz q1) (fun u z ⟨a, h2, H2, eu, lo, grow, _, o2, b2, un, ok2, d, fs, ea, ed, nd, q⟩ => ?_) fun _ _ z => z
  subst eu
  obtain ⟨hz, gz, dz, tz, oz⟩ := z
  obtain ⟨hp, gn, dr, tk, os⟩ := s1
  obtain ⟨t0, G, J3, up, gone, obj, free⟩ := mk_end0 (d2 := dz) (t2 := tz) J1 lo grow un ok2 o2 b2 ea ed nd
  exact ⟨a, _, _, ⟨G, gz, dz, tz, oz⟩, _, .ref C, some d, rfl, J3, up, gone, obj, ⟨rfl, rfl, fun vs ev => by cases ev; rfl⟩, rfl, rfl, free, rfl, b2, raises_own T.exC T.tyC, q⟩
end
end PD
set_option Elab.async false
set_option linter.all false
set_option maxRecDepth 100000
set_option maxHeartbeats 4000000
namespace PD
open PySem PySem.Spec PyProof.Rows L2
abbrev W0 : WX := fun _ _ _ _ => False
section
variable {X : Cx} {W : WX} {a b c e o i tg iter elt tg1 iter1 : Expr} {es ifs ifs1 : List Expr} {fa fb fc : Den} {ga gb : Dens} {gi : Iens} {w : Option Nat} {pos p p1 p2 : Pos} {st : Stmt} {sts rest : List Stmt} {g h : SDen} {scope : Scope} {own : List (Str × Nat)} {t t1 : Tg} {cnd cnd1 felt : Den}

def DTs (X : Cx) (W : WX) (ifs : List Expr) (f : Den) : Prop := PTs X ifs (rdt X.K X.mg W f)
theorem dts_nil : DTs X W [] dYes := by
  refine ⟨fun pins s σ H Q I h => pts_nil.run pins s σ H Q I ?_⟩
  obtain ⟨mu, S, ρ, r, s, en, hf, q⟩ := h
  cases hf
  exact q H mu (Ext.refl _ _) s
theorem dts_one (h : DT X W c fc) : DTs X W [c] fc := pts_one h

theorem ck_grow {items : List D} {S : Store} {y : List D} (h : ckOf w items S) : ckOf w items (S ++ [y]) := by
  cases w with
  | none => trivial
  | some n =>
    have h1 : S[n]? = some items := h
    show (S ++ [y])[n]? = some items
    rw [List.getElem?_append_left (List.getElem?_eq_some_iff.mp h1).1]
    exact h1
/-- what the loop of a comprehension needs of its start and gives at its end -/
theorem lc_start {J : It} {P : Hp → List Addr → Store → Prop} {items : List D} {σ : L2.St} {ρ : EnvD} {H : Hp} {mu : List Addr} {S : Store} {Te : Store} {ow : List Nat} {Q : V → Hp → Prop} (wk : Walks X.K X.mg J P (ckOf w items) items) (ht : ∀ k ∈ t.slots, k ∈ ow) (pp : P H mu S) (s : StOk X.K X.mg H mu S) (en : EnvOk X.K X.mg H mu σ ρ)
    (hf : lcLoop ow t cnd felt ρ S.length w items items (S ++ [[]]) = some Te) (D0 : Addr) (hD : H D0 = none)
    (hQ : ∀ H' mu' , StOk X.K X.mg H' mu' Te → Ext H mu H' mu' → mu'[S.length]? = some D0 → Q (.ref D0) H') :
    ∃ Wv : Nat → Nat → Hp → Prop, (∃ m, Wv 0 m (upd H D0 (.lst []))) ∧ ∀ i m H, Wv i m H → (J.stop i H ∧ Q (.ref D0) H) ∨ (J.go i H ∧ ∃ Nx : Hp → Prop, (∀ H', Nx H' → ∃ m', m' < m ∧ Wv (i + 1) m' H') ∧ ∀ x H', J.yld i H x H' → Tg.rd X.K t x (wipe σ ow) H' fun σ2 H2 => wipe σ2 ow = wipe σ ow ∧ rdt X.K X.mg W0 cnd σ2 H2 fun b H3 =>
      if b = true then rd X.K X.mg W0 felt σ2 H3 fun y H4 => ∃ acc, H4 D0 = some (.lst acc) ∧ acc.length < sizeLine ∧ Nx (upd H4 D0 (.lst (acc ++ [y]))) else Nx H3) := by
  have x0 : Ext H mu (upd H D0 (.lst [])) (mu ++ [D0]) := Ext.grow s hD
  refine ⟨LcAt X P w items ow t cnd felt σ ρ S.length D0 (upd H D0 (.lst [])) (mu ++ [D0]) Te, ⟨items.length, mu ++ [D0], S ++ [[]], s.grow hD .nil, Ext.refl _ _, en.mono x0, wk.mono _ _ _ _ _ _ pp x0 (ck_grow (wk.has _ _ _ pp)), ?_, by omega, by simpa using hf⟩, ?_⟩
  · rw [← s.len, List.getElem?_append_right (Nat.le_refl _)]
    simp
  · exact fun i m H' h' => lc_turns (W' := W0) wk ht (fun _ _ _ _ z => z) (fun H2 mu2 s2 x2 hd => hQ H2 mu2 s2 (x0.trans x2) hd) i m H' h'
/-- the list is frozen -/
theorem lc_frozen {H H' : Hp} {mu mu' : List Addr} {S Te : Store} {D0 : Addr} {acc ys : List D} {σ : L2.St} {Q : VK} (s : StOk X.K X.mg H mu S) (s' : StOk X.K X.mg H' mu' Te) (x : Ext H mu H' mu') (hD : mu'[S.length]? = some D0) (hT : Te.take S.length = S) (ha : Te[S.length]? = some acc) (hy : fzs Te S.length acc = some ys)
    (q : Post X.K X.mg W σ H mu Q (.ok (.lst ys) S)) : Q (.ref D0) H' := by
  obtain ⟨vs, hv, hr⟩ := s'.at_ _ D0 acc hD ha
  have x1 := ext_less x
  refine q (.ref D0) H' mu x1 (st_less s s' x hT) (.lst hv (fun z => ?_) ?_)
  · obtain ⟨n, hn⟩ := List.getElem?_of_mem z
    have h1 := prefix_get x.pre hn
    have e := (List.getElem?_inj (List.getElem?_eq_some_iff.mp h1).1 s'.nd).mp (h1.trans hD.symm)
    have := (List.getElem?_eq_some_iff.mp hn).1
    rw [s.len] at this
    omega
  · refine reps_map x.pre (fzg_ok s' x.pre 3) hr ?_
    rw [s.len]
    exact hy
theorem lc_read {wi : TI} {σ : L2.St} {H : Hp} {Q : VK} (ht : ∀ k ∈ t.slots, k ∈ own.map (·.2)) (h : rd X.K X.mg W (dLc (own.map (·.2)) gi t cnd felt) σ H Q) : tLc (rdI X.K X.mg W gi) (Tg.rd X.K t) (rdt X.K X.mg W0 cnd) (rd X.K X.mg W0 felt) (own.map (·.2)) σ H Q := by
  obtain ⟨mu, S, ρ, r, s, en, hf, q⟩ := h
  unfold dLc at hf
  cases e1 : gi ρ S with
  | none => rw [e1] at hf; cases hf
  | some r1 =>
    rw [e1] at hf
    refine ⟨mu, S, ρ, r1, s, en, e1, ?_⟩
    cases r1 with
    | exc c ns xs S1 => cases hf; exact q
    | ok items w S1 =>
      simp only at hf
      intro J P H1 m1 wk pp x1 s1 D0 hD
      split at hf
      · rename_i Te e2
        split at hf
        · rename_i hT
          split at hf
          · rename_i acc e3
            obtain ⟨ys, h4, rfl⟩ := Option.map_eq_some_iff.mp hf
            exact lc_start wk ht pp s1 (en.mono x1) e2 D0 hD fun H2 m2 s2 x2 hd => lc_frozen s1 s2 x2 hd hT e3 h4 (q.mono x1)
          · cases hf
        · cases hf
      · cases hf
theorem lcM_read {σ : L2.St} {H : Hp} {Q : VK} (ht : ∀ k ∈ t.slots, k ∈ own.map (·.2)) (h : rd X.K X.mg W (dLcM (own.map (·.2)) gi t cnd felt) σ H Q) : tLc (rdI X.K X.mg W gi) (Tg.rd X.K t) (rdt X.K X.mg W0 cnd) (rd X.K X.mg W0 felt) (own.map (·.2)) σ H Q := by
  obtain ⟨mu, S, ρ, r, s, en, hf, q⟩ := h
  unfold dLcM at hf
  cases e1 : gi ρ S with
  | none => rw [e1] at hf; cases hf
  | some r1 =>
    rw [e1] at hf
    refine ⟨mu, S, ρ, r1, s, en, e1, ?_⟩
    cases r1 with
    | exc c ns xs S1 => cases hf; exact q
    | ok items w S1 =>
      simp only at hf
      intro J P H1 m1 wk pp x1 s1 D0 hD
      obtain ⟨Te, e2, rfl⟩ := Option.map_eq_some_iff.mp hf
      exact lc_start wk ht pp s1 (en.mono x1) e2 D0 hD fun H2 m2 s2 x2 hd => (Post.mono x1 q) (.ref D0) H2 m2 x2 s2 (.ref hd)
theorem de_lc (own : List (Str × Nat)) (t : Tg) (hc : X.calm = true) (hN : X.N.Nodup) (ht : ∀ k ∈ t.slots, k ∈ own.map (·.2)) (ok : BlkOk X.N X.env.scope scope own) (hi : DI X W tg iter gi)
    (hg : ∀ (s : Shared) (H : Hp) (C : Addr) (cl : List (Str × Addr)) (fp : List Addr), PG (X.blk s H scope (compEnvC scope cl C X.env) fp) tg (Tg.rd X.K t)) (hif : ∀ (s : Shared) (H : Hp) (C : Addr) (cl : List (Str × Addr)) (fp : List Addr), DTs (X.blk s H scope (compEnvC scope cl C X.env) fp) W0 ifs cnd)
    (he : ∀ (s : Shared) (H : Hp) (C : Addr) (cl : List (Str × Addr)) (fp : List Addr), DE (X.blk s H scope (compEnvC scope cl C X.env) fp) W0 elt felt) (hs : ∀ x, foldedSetIterable iter X.env x = pure x := by intro _; rfl) :
    DE X W (.ListComp elt [⟨tg, iter, ifs, 0⟩] scope pos) (dLc (own.map (·.2)) gi t cnd felt) := peI (pe_lc (tt := rdt X.K X.mg W0 cnd) (te := rd X.K X.mg W0 felt) hc hN hi ok hg hif he hs) fun σ H Q h => lc_read (wi := rdI X.K X.mg W gi) ht h
theorem de_lcM (own : List (Str × Nat)) (t : Tg) (hc : X.calm = true) (hN : X.N.Nodup) (ht : ∀ k ∈ t.slots, k ∈ own.map (·.2)) (ok : BlkOk X.N X.env.scope scope own) (hi : DI X W tg iter gi)
    (hg : ∀ (s : Shared) (H : Hp) (C : Addr) (cl : List (Str × Addr)) (fp : List Addr), PG (X.blk s H scope (compEnvC scope cl C X.env) fp) tg (Tg.rd X.K t)) (hif : ∀ (s : Shared) (H : Hp) (C : Addr) (cl : List (Str × Addr)) (fp : List Addr), DTs (X.blk s H scope (compEnvC scope cl C X.env) fp) W0 ifs cnd)
    (he : ∀ (s : Shared) (H : Hp) (C : Addr) (cl : List (Str × Addr)) (fp : List Addr), DE (X.blk s H scope (compEnvC scope cl C X.env) fp) W0 elt felt) (hs : ∀ x, foldedSetIterable iter X.env x = pure x := by intro _; rfl) :
    DE X W (.ListComp elt [⟨tg, iter, ifs, 0⟩] scope pos) (dLcM (own.map (·.2)) gi t cnd felt) := peI (pe_lc (tt := rdt X.K X.mg W0 cnd) (te := rd X.K X.mg W0 felt) hc hN hi ok hg hif he hs) fun σ H Q h => lcM_read ht h
/-- y = [..] on one line -/
theorem ds_setLc (k : Nat) (own : List (Str × Nat)) (t : Tg) {y : Str} {py spos : Pos} (hc : X.calm = true) (hN : X.N.Nodup) (ht : ∀ k ∈ t.slots, k ∈ own.map (·.2)) (ok : BlkOk X.N X.env.scope scope own) (hi : DI X W tg iter gi)
    (hg : ∀ (s : Shared) (H : Hp) (C : Addr) (cl : List (Str × Addr)) (fp : List Addr), PG (X.blk s H scope (compEnvC scope cl C X.env) fp) tg (Tg.rd X.K t)) (hif : ∀ (s : Shared) (H : Hp) (C : Addr) (cl : List (Str × Addr)) (fp : List Addr), DTs (X.blk s H scope (compEnvC scope cl C X.env) fp) W0 ifs cnd)
    (he : ∀ (s : Shared) (H : Hp) (C : Addr) (cl : List (Str × Addr)) (fp : List Addr), DE (X.blk s H scope (compEnvC scope cl C X.env) fp) W0 elt felt)
    (hsw : swapsWith (.ListComp elt [⟨tg, iter, ifs, 0⟩] scope pos) (some (.Name y py)) spos.line X.env = pure true) (hy : X.N[k]? = some y := by rfl) (hyl : X.env.scope.names.lookup y = some .local := by rfl) (hs : ∀ x, foldedSetIterable iter X.env x = pure x := by intro _; rfl) :
    DS X W (.Assign [.Name y py] (.ListComp elt [⟨tg, iter, ifs, 0⟩] scope pos) spos) (sSet k (dLc (own.map (·.2)) gi t cnd felt)) :=
  psI (ps_setLc (tt := rdt X.K X.mg W0 cnd) (te := rd X.K X.mg W0 felt) hc hN hy hyl hsw hi ok hg hif he hs) fun D σ H q => by
    obtain ⟨mu, S, ρ, r, s, en, hf, q⟩ := q
    have h2 : rd X.K X.mg W (dLc (own.map (·.2)) gi t cnd felt) σ H (fun x H1 => gName k x σ H1 D.nx) := rd_bndS s en hf q fun d S1 v H1 m1 x s1 en1 rp h1 q1 => by
      cases h1
      exact q1 _ H1 m1 (Ext.refl _ _) s1 (en1.set rp k)
    exact lc_read (wi := rdI X.K X.mg W gi) ht h2
theorem ds_setLcM (k : Nat) (own : List (Str × Nat)) (t : Tg) {y : Str} {py spos : Pos} (hc : X.calm = true) (hN : X.N.Nodup) (ht : ∀ k ∈ t.slots, k ∈ own.map (·.2)) (ok : BlkOk X.N X.env.scope scope own) (hi : DI X W tg iter gi)
    (hg : ∀ (s : Shared) (H : Hp) (C : Addr) (cl : List (Str × Addr)) (fp : List Addr), PG (X.blk s H scope (compEnvC scope cl C X.env) fp) tg (Tg.rd X.K t)) (hif : ∀ (s : Shared) (H : Hp) (C : Addr) (cl : List (Str × Addr)) (fp : List Addr), DTs (X.blk s H scope (compEnvC scope cl C X.env) fp) W0 ifs cnd)
    (he : ∀ (s : Shared) (H : Hp) (C : Addr) (cl : List (Str × Addr)) (fp : List Addr), DE (X.blk s H scope (compEnvC scope cl C X.env) fp) W0 elt felt)
    (hsw : swapsWith (.ListComp elt [⟨tg, iter, ifs, 0⟩] scope pos) (some (.Name y py)) spos.line X.env = pure true) (hy : X.N[k]? = some y := by rfl) (hyl : X.env.scope.names.lookup y = some .local := by rfl) (hs : ∀ x, foldedSetIterable iter X.env x = pure x := by intro _; rfl) :
    DS X W (.Assign [.Name y py] (.ListComp elt [⟨tg, iter, ifs, 0⟩] scope pos) spos) (sSet k (dLcM (own.map (·.2)) gi t cnd felt)) :=
  psI (ps_setLc (tt := rdt X.K X.mg W0 cnd) (te := rd X.K X.mg W0 felt) hc hN hy hyl hsw hi ok hg hif he hs) fun D σ H q => by
    obtain ⟨mu, S, ρ, r, s, en, hf, q⟩ := q
    have h2 : rd X.K X.mg W (dLcM (own.map (·.2)) gi t cnd felt) σ H (fun x H1 => gName k x σ H1 D.nx) := rd_bndS s en hf q fun d S1 v H1 m1 x s1 en1 rp h1 q1 => by
      cases h1
      exact q1 _ H1 m1 (Ext.refl _ _) s1 (en1.set rp k)
    exact lcM_read ht h2

/-! ### raise -/
/-- what the written part says of the own exception class named c, whose __init__ stores its parameters under the names ns -/
structure ExcCls (K : PySem.W.Frag) (mg : Str → Option Value) (c : Str) (C : Addr) : Prop where
  gl : mg c = some (.ref C)
  ox : OexC K C
/-- __init__ of one or two fields, as a promise -/
def spInit1 (K : PySem.W.Frag) (f1 : Str) : Sp := fun vs H Q _ => ∃ (a C : Addr) (y : V), vs = [.ref a, y] ∧ OexC K C ∧ PySem.W.findIn K (.ref C) f1 = some none ∧ H a = some (exo a C none) ∧ ∀ dx, H dx = none → dx ≠ a → Q .non (upd (upd H dx (exd dx [(f1, y)])) a (exo a C (some dx)))
def spInit2 (K : PySem.W.Frag) (f1 f2 : Str) : Sp := fun vs H Q _ => ∃ (a C : Addr) (y z : V), vs = [.ref a, y, z] ∧ OexC K C ∧ PySem.W.findIn K (.ref C) f1 = some none ∧ PySem.W.findIn K (.ref C) f2 = some none ∧ H a = some (exo a C none) ∧
  ∀ dx, H dx = none → dx ≠ a → Q .non (upd (upd (upd H dx (exd dx [(f1, y)])) a (exo a C (some dx))) dx (exd dx [(f2, z), (f1, y)]))
theorem init1_ok {P : Program} {w : World} {K : PySem.W.Frag} {mg : Str → Option Value} {base : Heap} {x qual : Str} {params : Arguments} {scope : Scope} {dvs : List V} {kws : List (Str × V)} {f : Addr} {fd : FuncData} {f1 p1 self : Str} {q1 q2 q3 q4 : Pos}
    (F : FunD K x qual params [.Assign [.Attribute (.Name self q1) f1 q2] (.Name p1 q3) q4] scope dvs kws f fd) (Sc : FnScope [self, p1] [self, p1] scope)
    (h1 : Vis scope self) (h2 : Vis scope p1) (hd1 : (self == ("__debug__" : Str)) = false := by decide) (hd2 : (p1 == ("__debug__" : Str)) = false := by decide) (hc1 : (self == ("__classdict__" : Str)) = false := by decide) (hc2 : (p1 == ("__classdict__" : Str)) = false := by decide)
    (hsw : ∀ env : Env, swapsWith (.Name p1 q3) (some (.Attribute (.Name self q1) f1 q2)) q4.line env = pure false := by intro _; rfl) : FnOk P w K mg base (L2N.CX P w) 1 f fd [self, p1] (spInit1 K f1) := by
  refine F.ok Sc (fun vs H Q E h => ?_) (fun cdv A outer s H vs Q E hr h => ⟨_, pss_one (ps_ost (pe_var (i := 0) rfl h1 hd1 hc1) (pe_var (i := 1) rfl h2 hd2 hc2) (hsw _)), ?_⟩)
  · obtain ⟨a, C, y, rfl, _⟩ := h
    rfl
  · obtain ⟨a, C, y, rfl, hC, hf, ha, q⟩ := h
    exact ⟨y, rfl, .ref a, rfl, a, C, rfl, hC, hf, .inl ⟨ha, fun dx n1 n2 => q dx n1 n2⟩⟩
theorem init2_ok {P : Program} {w : World} {K : PySem.W.Frag} {mg : Str → Option Value} {base : Heap} {x qual : Str} {params : Arguments} {scope : Scope} {dvs : List V} {kws : List (Str × V)} {f : Addr} {fd : FuncData} {f1 f2 p1 p2 self : Str} {q1 q2 q3 q4 r1 r2 r3 r4 : Pos}
    (F : FunD K x qual params [.Assign [.Attribute (.Name self q1) f1 q2] (.Name p1 q3) q4, .Assign [.Attribute (.Name self r1) f2 r2] (.Name p2 r3) r4] scope dvs kws f fd) (Sc : FnScope [self, p1, p2] [self, p1, p2] scope)
    (h1 : Vis scope self) (h2 : Vis scope p1) (h3 : Vis scope p2) (hd1 : (self == ("__debug__" : Str)) = false := by decide) (hd2 : (p1 == ("__debug__" : Str)) = false := by decide) (hd3 : (p2 == ("__debug__" : Str)) = false := by decide)
    (hc1 : (self == ("__classdict__" : Str)) = false := by decide) (hc2 : (p1 == ("__classdict__" : Str)) = false := by decide) (hc3 : (p2 == ("__classdict__" : Str)) = false := by decide)
    (hsw : ∀ env : Env, swapsWith (.Name p1 q3) (some (.Attribute (.Name self q1) f1 q2)) q4.line env = pure false := by intro _; rfl) (hsw2 : ∀ env : Env, swapsWith (.Name p2 r3) (some (.Attribute (.Name self r1) f2 r2)) r4.line env = pure false := by intro _; rfl) :
    FnOk P w K mg base (L2N.CX P w) 1 f fd [self, p1, p2] (spInit2 K f1 f2) := by
  refine F.ok Sc (fun vs H Q E h => ?_) (fun cdv A outer s H vs Q E hr h => ⟨_, pss_cons (ps_ost (pe_var (i := 0) rfl h1 hd1 hc1) (pe_var (i := 1) rfl h2 hd2 hc2) (hsw _)) (pss_one (ps_ost (pe_var (i := 0) rfl h1 hd1 hc1) (pe_var (i := 2) rfl h3 hd3 hc3) (hsw2 _))), ?_⟩)
  · obtain ⟨a, C, y, z, rfl, _⟩ := h
    rfl
  · obtain ⟨a, C, y, z, rfl, hC, hf, hf2, ha, q⟩ := h
    refine ⟨y, rfl, .ref a, rfl, a, C, rfl, hC, hf, .inl ⟨ha, fun dx n1 n2 => ?_⟩⟩
    refine ⟨z, rfl, .ref a, rfl, a, C, rfl, hC, hf2, .inr ⟨dx, [(f1, y)], upd_same, ?_, by show 1 ≤ 900; decide, q dx n1 n2⟩⟩
    rw [upd_ne n2, upd_same]
def sRaise (c : Str) (ns : List Str) (ix : List Nat) (g : Dens) : SDen := fun ρ S => match g ρ S with
  | some (.ok ds S1) => if ds.length = ns.length then some (.exc c ns (ix.filterMap fun i => ds[i]?) ρ S1) else none
  | some (.exc c ns xs S1) => some (.exc c ns xs ρ S1)
  | none => none
theorem del_upd {H : Hp} {a : Addr} {o : HO} (h : H a = none) : del (upd H a o) a = H := by
  funext b
  by_cases hb : b = a
  · rw [hb, del_same, h]
  · rw [del_ne hb, upd_ne hb]
theorem exc1_end {H1 : Hp} {a C dx : Addr} {f1 : Str} {y : V} (ha : H1 a = none) (hd : upd H1 a (exo a C none) dx = none) (hne : dx ≠ a) :
    upd (del (upd (upd (upd H1 a (exo a C none)) dx (exd dx [(f1, y)])) a (exo a C (some dx))) a) dx (.xd [(f1, y)]) = upd H1 dx (.xd [(f1, y)]) := by
  funext b
  by_cases h1 : b = dx
  · rw [h1, upd_same, upd_same]
  · rw [upd_ne h1, upd_ne h1]
    by_cases h2 : b = a
    · rw [h2, del_same, ha]
    · rw [del_ne h2, upd_ne h2, upd_ne h1, upd_ne h2]
theorem exc2_end {H1 : Hp} {a C dx : Addr} {f1 f2 : Str} {y z : V} (ha : H1 a = none) (hne : dx ≠ a) :
    upd (del (upd (upd (upd (upd H1 a (exo a C none)) dx (exd dx [(f1, y)])) a (exo a C (some dx))) dx (exd dx [(f2, z), (f1, y)])) a) dx (.xd [(f2, z), (f1, y)]) = upd H1 dx (.xd [(f2, z), (f1, y)]) := by
  funext b
  by_cases h1 : b = dx
  · rw [h1, upd_same, upd_same]
  · rw [upd_ne h1, upd_ne h1]
    by_cases h2 : b = a
    · rw [h2, del_same, ha]
    · rw [del_ne h2, upd_ne h1, upd_ne h2, upd_ne h1, upd_ne h2]
theorem ds_raise1 {c : Str} {C fI : Addr} {k : Nat} {fd : FuncData} {ps : List Str} {f1 : Str} (T : OexC X.K C) (iC : PySem.W.findIn X.K (.ref C) "__init__" = some (some (.ref fI))) (tI : PySem.W.typeIn X.K (.ref fI) = some (.type "function")) (hno : PySem.W.findIn X.K (.ref C) f1 = some none)
    (F1 : FnOk X.prog X.w X.K X.mg X.base (L2N.CX X.prog X.w) k fI fd ps (spInit1 X.K f1)) (hr : Room (k + 1) X.A) (hb : Binds X.K fd ps []) (hc : X.calm = true) (tk : L2N.Takes X W) (hm : X.mg c = some (.ref C)) (ha : DA X W [e] ga) (hg : Gl X c := by rfl) (hdb : (c == ("__debug__" : Str)) = false := by decide)
    (he : starEach [e] X.env = (false, eval e X.env) :: starEach [] X.env := by rfl) : DS X W (.Raise (some (.Call (.Name c p) [e] [] p1)) none pos) (sRaise c [f1] [0] ga) := by
  refine psI (L2N.ps_raise hc tk (pmk_oexF (dvs := []) T iC tI F1 hr hb .nil passLN hg hm ha hdb he (by rfl))) fun D σ H q => ?_
  obtain ⟨mu, S, ρ, r, s, en, hf, q⟩ := q
  unfold sRaise at hf
  have hf2 : (match ga ρ S with | some (.ok d S1) => (if d.length = [f1].length then some (.exc c [f1] ([0].filterMap fun i => d[i]?) ρ S1) else none) | some (.exc c ns xs S1) => some (.exc c ns xs ρ S1) | none => none) = some r := hf
  refine rds_bndS s en hf2 q fun ds S1 vs H1 m1 x s1 en1 rp h1 q1 => ?_
  split at h1
  · rename_i hl
    cases h1
    match ds, hl with
    | [d], _ =>
      obtain ⟨v, rfl, rv⟩ := reps1 rp
      refine ⟨by show 1 ≤ 1000; decide, fun a ha2 => ⟨a, C, v, rfl, T, hno, upd_same, fun dx hd hne => ⟨rfl, dx, [(f1, v)], upd_same, ?_, ?_, ?_⟩⟩⟩
      · exact (upd_ne hne).trans upd_same
      · rw [upd_ne hne] at hd; exact hd
      · have hd1 : H1 dx = none := by rw [upd_ne hne] at hd; exact hd
        rw [exc1_end ha2 hd hne]
        have n := s1.free hd1
        have x2 : Ext H1 m1 (upd H1 dx (.xd [(f1, v)])) m1 := Ext.fresh hd1 n
        exact q1 σ _ m1 x2 (en1.mono x2) C dx [v] _ m1 (Ext.refl _ _) (s1.fresh hd1) hm upd_same n rfl (.single (rv.mono x2))
  · cases h1
theorem ds_raise2 {c : Str} {C fI : Addr} {k : Nat} {fd : FuncData} {ps : List Str} {f1 f2 : Str} (T : OexC X.K C) (iC : PySem.W.findIn X.K (.ref C) "__init__" = some (some (.ref fI))) (tI : PySem.W.typeIn X.K (.ref fI) = some (.type "function")) (hno : PySem.W.findIn X.K (.ref C) f1 = some none) (hno2 : PySem.W.findIn X.K (.ref C) f2 = some none)
    (F1 : FnOk X.prog X.w X.K X.mg X.base (L2N.CX X.prog X.w) k fI fd ps (spInit2 X.K f1 f2)) (hr : Room (k + 1) X.A) (hb : Binds X.K fd ps []) (hc : X.calm = true) (tk : L2N.Takes X W) (hm : X.mg c = some (.ref C)) (ha : DA X W [e, b] ga) (hg : Gl X c := by rfl) (hdb : (c == ("__debug__" : Str)) = false := by decide)
    (he : starEach [e, b] X.env = (false, eval e X.env) :: starEach [b] X.env := by rfl) (hpl : (backTo p1 (starEach [b] X.env)).any (·.1) = false := by rfl) : DS X W (.Raise (some (.Call (.Name c p) [e, b] [] p1)) none pos) (sRaise c [f2, f1] [1, 0] ga) := by
  refine psI (L2N.ps_raise hc tk (pmk_oexF (dvs := []) T iC tI F1 hr hb .nil passLN hg hm ha hdb he hpl)) fun D σ H q => ?_
  obtain ⟨mu, S, ρ, r, s, en, hf, q⟩ := q
  unfold sRaise at hf
  have hf2 : (match ga ρ S with | some (.ok d S1) => (if d.length = [f2, f1].length then some (.exc c [f2, f1] ([1, 0].filterMap fun i => d[i]?) ρ S1) else none) | some (.exc c ns xs S1) => some (.exc c ns xs ρ S1) | none => none) = some r := hf
  refine rds_bndS s en hf2 q fun ds S1 vs H1 m1 x s1 en1 rp h1 q1 => ?_
  split at h1
  · rename_i hl
    cases h1
    match ds, hl with
    | [d, d2], _ =>
      obtain ⟨v, v2, rfl, rv, rv2⟩ := reps2 rp
      refine ⟨by show 2 ≤ 1000; decide, fun a ha2 => ⟨a, C, v, v2, rfl, T, hno, hno2, upd_same, fun dx hd hne => ⟨rfl, dx, [(f2, v2), (f1, v)], ?_, upd_same, ?_, ?_⟩⟩⟩
      · rw [upd_ne (Ne.symm hne)]; exact upd_same
      · rw [upd_ne hne] at hd; exact hd
      · have hd1 : H1 dx = none := by rw [upd_ne hne] at hd; exact hd
        rw [exc2_end ha2 hne]
        have n := s1.free hd1
        have x2 : Ext H1 m1 (upd H1 dx (.xd [(f2, v2), (f1, v)])) m1 := Ext.fresh hd1 n
        exact q1 σ _ m1 x2 (en1.mono x2) C dx [v2, v] _ m1 (Ext.refl _ _) (s1.fresh hd1) hm upd_same n rfl (.cons (rv2.mono x2) (.single (rv.mono x2)))
  · cases h1
end
end PD
set_option Elab.async false
set_option linter.all false
set_option maxRecDepth 100000
set_option maxHeartbeats 4000000
/-! isinstance of an error that has fields, whether held as a value or by an except clause -/
namespace PySem.W
open PySem PySem.Spec PySem.Calls PyProof.Rows
section
variable {prog : Program} {w : World} {A : Around} {E : Value → Shared → Prop} {s : Shared} {K : Frag} {e C : Addr} {oe : Obj} {od : Option Obj}
theorem findObj_getset {nm : Str} {a g : Value} (hc : (clsIn K C).isSome = true) (ha : findIn K (.ref C) nm = some (some a)) (hg : specialIn K a "__get__" = some (some g)) (ht : takesIn K a = some true) : findObj K C od nm = some (.bind g a) := by
  obtain ⟨cd, hc⟩ := Option.isSome_iff_exists.mp hc
  simp [findObj, hc, ha, hg, ht]
/-- its class, asked by name -/
theorem err_class {Q : Option Value → Shared → Prop} (c1 : findIn K (.ref C) "__getattribute__" = some (some (.builtin "BaseException.__getattribute__"))) (c2 : findIn K (.ref C) "__getattr__" = some none) (c3 : subIn K (.ref C) (.type "BaseException") = some true)
    (c4 : hasDictIn K C = true) (c5 : findIn K (.ref C) "__class__" = some (some (.builtin "object.__class__"))) (c6 : specialIn K (.builtin "object.__class__") "__get__" = some (some (.builtin "getset_descriptor.__get__")))
    (c7 : takesIn K (.builtin "object.__class__") = some true) (c8 : mroIn K C (.type "object") = some true) (X : K.In s.heap) (J : InstAt s.heap e oe C od) (q : Q (some (.ref C)) { s with toks := s.toks + 1 }) : wpAny (model prog w) A (getAttr? (.ref e) "__class__") Q E s := by
  have fo : findObj K C od "__class__" = some (.bind (.builtin "getset_descriptor.__get__") (.builtin "object.__class__")) := findObj_getset (by obtain ⟨cd, hcd, _⟩ := any_some c4; simp [hcd]) c5 c6 c7
  obtain ⟨hp, gn, dr, tk, ost⟩ := s
  have la := J.type (M := model prog w)
  have lb := looks_findIn (M := model prog w) X c1
  have lc := looks_findIn (M := model prog w) X c2
  have ld := looks_find (M := model prog w) X J fo
  have ls : Looks (model prog w) hp (isInstance (.ref e) (.type "BaseException")) true := la.andThen (looks_subIn X c3)
  have b0 : (false && onTheHeap (Value.builtin "BaseException.__getattribute__")) = false := rfl
  have b1 : (onTheHeap (Value.ref C) && Value.builtin "BaseException.__getattribute__" == Value.builtin "object.__getattribute__") = false := by
    have z : (Value.builtin "BaseException.__getattribute__" == Value.builtin "object.__getattribute__") = false := by decide +kernel
    rw [z, Bool.and_false]
  unfold getAttr? getAttrBy? getAttrBy
  refine wpAny_bind (wpAny_mkText (wpAny_bind (wpAny_attempt (wpAny_holding (wpAny_bind (la.at (wpAny_bind (lb.at ?_))))))))
  show wpAny _ _ (if (onTheHeap (Value.ref C) && Value.builtin "BaseException.__getattribute__" == Value.builtin "object.__getattribute__") = true then _ else _) _ _ _
  rw [b1, if_neg Bool.false_ne_true]
  unfold getAttrByItsOwn hookBefore
  refine wpAny_bind ?_
  rw [if_pos (show onTheHeap (Value.ref C) = true from rfl)]
  refine lc.at ?_
  refine wpAny_bind (wpAny_attempt (wpAny_holding ?_))
  unfold callGetattribute boundAndCalled
  rw [b0, if_neg Bool.false_ne_true, PySem.F.excAttr_ValueError.ga.bind (.ref e)]
  refine wpAny_bind (wpAny_pure ?_)
  show wpAny _ _ (call (.builtin "BaseException.__getattribute__") [.ref e, .str "__class__" tk]) _ _ _
  refine wpAny_call (codeAny_call_builtin PySem.F.excAttr_ValueError.ga.plain PySem.F.entry_bexc_ga (@check_slot (model prog w) _ _ ⟨hp, gn, dr, tk + 1, ost⟩ "BaseException.__getattribute__" "BaseException" "__getattribute__" (.ref e) [.str "__class__" tk] [] _ (by decide +kernel) (by decide +kernel) ls (PySem.F.args_bexc_ga (.ref e) (.str "__class__" tk)) ?_))
  unfold Builtin.«object.__getattribute__»
  refine wpAny_bind (wpAny_of_eq (a := ((Value.ref e : Value), [Value.str "__class__" tk])) (by first | rfl | (simp only [slotArgs]; rfl)) (wpAny_bind (wpAny_pure (wpAny_bind (la.at (wpAny_bind (ld.at ?_)))))))
  show wpAny _ _ (holding [Value.builtin "object.__class__"] (call (.builtin "getset_descriptor.__get__") [.builtin "object.__class__", .ref e, .ref C]) >>= ret) _ _ _
  refine wpAny_bind (wpAny_holding (wpAny_call (class_get (s := ⟨hp, gn, dr, tk + 1, ost⟩) (ox := oe) (od := od) X J c8 (wpAny_pure ?_))))
  show wpAny _ _ (handedOut (.ref C)) _ _ _
  rw [handedOut_of (v := .ref C) rfl]
  first
    | exact wpAny_pure (wpAny_pure q)
    | exact wpAny_pure q
    | exact wpAny_pure (wpAny_bind (wpAny_pure (wpAny_pure q)))
theorem kit_err (c1 : findIn K (.ref C) "__getattribute__" = some (some (.builtin "BaseException.__getattribute__"))) (c2 : findIn K (.ref C) "__getattr__" = some none) (c3 : subIn K (.ref C) (.type "BaseException") = some true)
    (c4 : hasDictIn K C = true) (c5 : findIn K (.ref C) "__class__" = some (some (.builtin "object.__class__"))) (c6 : specialIn K (.builtin "object.__class__") "__get__" = some (some (.builtin "getset_descriptor.__get__")))
    (c7 : takesIn K (.builtin "object.__class__") = some true) (c8 : mroIn K C (.type "object") = some true) : KitX K (.ref e) (.ref C) (fun h => ∃ oe od, InstAt h e oe C od) := by
  have there : ∃ cd o, clsIn K C = some cd ∧ K.lookup C = some o ∧ o.data = .cls cd := by
    obtain ⟨cd, hcd, _⟩ := any_some c4
    have hcd' := hcd
    unfold clsIn at hcd
    split at hcd
    · rename_i ho
      cases hcd
      exact ⟨_, _, hcd', ho, rfl⟩
    · cases hcd
  obtain ⟨cd, o, hcd, ho, hd⟩ := there
  refine ⟨fun M h _ J => J.elim fun _ J => J.elim fun _ J => J.type, fun M h X _ => fun A' Q' E' s' k q => ?_, fun h tp dd its n sl X htp => ?_, fun X J q => J.elim fun _ J => J.elim fun _ J => err_class c1 c2 c3 c4 c5 c6 c7 c8 X J q⟩
  · unfold isType loadHead
    refine wpAny_bind (wpAny_loadPart (k _ _ (X _ _ ho)) ?_)
    rw [hd]
    exact wpAny_pure q
  · refine Bool.eq_false_iff.mpr fun z => ?_
    have z1 : C = tp := Value.ref.inj (beq_iff_eq.mp z)
    subst z1
    have z2 := (X _ _ ho).symm.trans htp
    have z3 := Option.some.inj z2
    rw [z3] at hd
    cases hd
end
end PySem.W
set_option Elab.async false
set_option linter.all false
set_option maxRecDepth 100000
set_option maxHeartbeats 4000000
namespace PD
open PySem PySem.Spec PyProof.Rows L2
section
variable {X : Cx} {W : WX} {a b c e o i tg iter elt : Expr} {es : List Expr} {fa fb fc : Den} {ga gb : Dens} {pos p p1 p2 : Pos} {st : Stmt} {sts rest : List Stmt} {g h : SDen}

/-! ### the fields of an error -/
theorem lookup_zip {K : PySem.W.Frag} {mg : Str → Option Value} {H : Hp} {mu : List Addr} {f : Str} : ∀ {ns : List Str} {vs : List V} {ds : List D} {d : D}, Reps K mg H mu vs ds → (ns.zip ds).lookup f = some d → ∃ v, (ns.zip vs).lookup f = some v ∧ Rep K mg H mu v d
  | [], _, _, _, _, h => by simp at h
  | n :: ns, _, _, _, .nil, h => by simp at h
  | n :: ns, _, _, d, .cons (v := v) (d := d0) r t, h => by
    rw [List.zip_cons_cons, List.lookup_cons] at h
    rw [List.zip_cons_cons, List.lookup_cons]
    split at h
    · rename_i hh
      cases h
      exact ⟨v, rfl, r⟩
    · exact lookup_zip t h
structure ErrAt (K : PySem.W.Frag) (mg : Str → Option Value) (c f : Str) : Prop where
  is_ : ∀ C, mg c = some (.ref C) → XfC K C ∧ PySem.W.findIn K (.ref C) f = some none
def tXv (K : PySem.W.Frag) (f : Str) (te : TE) : TE := fun σ H Q => te σ H fun x H1 => ∃ (a C d : Addr) (fs : List (Str × V)) (v : V), x = .ref a ∧ H1 a = some (exo a C (some d)) ∧ H1 d = some (exd d fs) ∧ (XfC K C ∧ PySem.W.findIn K (.ref C) f = some none) ∧ fs.lookup f = some v ∧ Q v H1
theorem pe_xv {te : TE} {f : Str} (he : PE X e te) (hb : attributeBase e f X.env (eval e X.env) = eval e X.env := by rfl) : PE X (.Attribute e f pos) (tXv X.K f te) := by
  refine ⟨fun pins s σ H Q I h => ?_⟩
  refine attr_of hb (thn (he.run pins s σ H _ I h) fun u s1 hh => ?_)
  obtain ⟨x, H1, I1, rx, a, C, d, fs, v, rfl, ea, ed, ⟨T, hno⟩, l, q⟩ := hh
  obtain rfl : u = Value.ref a := rx
  obtain ⟨t1, ha⟩ := exo_at I1.hok ea
  obtain ⟨mA, hns, hr⟩ := exd_at I1.hok ed
  obtain ⟨od, ho, hl⟩ := lookIn_ns hns
  obtain ⟨u, hu, ru⟩ := RelO.some_of (v := v) (o := mA f) (by rw [← l]; exact hr f)
  have J : PySem.W.InstAt s1.heap a _ C (some od) := ⟨ha, rfl, by unfold PySem.W.notCls; rfl, ho⟩
  exact HandSPX.exc_get I1.kIn J T.ga T.gg T.exC (PySem.W.findObj_own T.hdC hno rfl (by rw [hl, hu])) (handed_of ru) ⟨v, H1, I1.tok _, ru, q⟩
/-- e.f, e an error as a value -/
def dAttr (cs : List Str) (f : Str) (fe : Den) : Den := fun ρ S => bnd (fe ρ S) fun d S1 => match d with
  | .err c ns xs => if c ∈ cs then ((ns.zip xs).lookup f).map fun d => .ok d S1 else none
  | _ => none
theorem de_attr (cs : List Str) {f : Str} (F : ∀ c ∈ cs, ErrAt X.K X.mg c f) (he : DE X W e fa) (hb : attributeBase e f X.env (eval e X.env) = eval e X.env := by rfl) : DE X W (.Attribute e f pos) (dAttr cs f fa) := by
  refine peI (pe_xv he hb) fun σ H Q h => ?_
  obtain ⟨mu, S, ρ, res, s, en, hf, q⟩ := h
  refine rd_bnd s en hf q fun d S1 v H1 m1 x s1 en1 rp h1 q1 => ?_
  cases rp with
  | @err a C dd c ns vs xs hm he hd n1 n2 l r =>
    simp only at h1
    split at h1
    · rename_i hc
      obtain ⟨d, hl, rfl⟩ := Option.map_eq_some_iff.mp h1
      obtain ⟨v, hv, rv⟩ := lookup_zip r hl
      exact ⟨a, C, dd, _, v, rfl, he, hd, (F c hc).is_ C hm, hv, q1.val s1 rv⟩
    · cases h1
  | _ => cases h1
/-- e.f in the suite that caught it as a, its dict at dd -/
def dAttrC (a dd : Addr) (cs : List Str) (f : Str) (fe : Den) : Den := fun ρ S => bnd (fe ρ S) fun d S1 => match d with
  | .cau a' d' c ns xs => if a' = a ∧ d' = dd ∧ c ∈ cs then ((ns.zip xs).lookup f).map fun d => .ok d S1 else none
  | _ => none
theorem de_attrC {a0 C0 d0 : Addr} {oe : Obj} {pn : List (Addr × Obj)} {f c0 : Str} (F : ErrAt X.K X.mg c0 f) (hm0 : X.mg c0 = some (.ref C0)) (hz : Zc (.ref C0) (some d0) oe) (hf : ∃ vs, oe.data = .fields vs) (he : DE (X.suite a0 ((a0, oe) :: pn)) W e fa)
    (hb : attributeBase e f X.env (eval e X.env) = eval e X.env := by rfl) : DE (X.suite a0 ((a0, oe) :: pn)) W (.Attribute e f pos) (dAttrC a0 d0 [c0] f fa) := by
  obtain ⟨T, hno⟩ := F.is_ C0 hm0
  refine peI (pe_xf T hno hz hf he hb) fun σ H Q h => ?_
  obtain ⟨mu, S, ρ, res, s, en, hf, q⟩ := h
  refine rd_bnd s en hf q fun d S1 v H1 m1 x s1 en1 rp h1 q1 => ?_
  cases rp with
  | @cau a C dd c ns vs xs hm hd n2 l r =>
    simp only at h1
    split at h1
    · rename_i hc
      obtain ⟨rfl, rfl, hc⟩ := hc
      obtain ⟨d, hl, rfl⟩ := Option.map_eq_some_iff.mp h1
      obtain ⟨v, hv, rv⟩ := lookup_zip r hl
      exact ⟨rfl, rfl, _, _, v, rfl, hd, hv, q1.val s1 rv⟩
    · cases h1
  | _ => cases h1

/-! ### isinstance of an error -/
/-- what the written part says of the class c, so that isinstance asks its errors rightly, and what it answers for the class value cv -/
structure ErrIs (K : PySem.W.Frag) (C : Addr) : Prop where
  c1 : PySem.W.findIn K (.ref C) "__getattribute__" = some (some (.builtin "BaseException.__getattribute__"))
  c2 : PySem.W.findIn K (.ref C) "__getattr__" = some none
  c3 : PySem.W.subIn K (.ref C) (.type "BaseException") = some true
  c4 : PySem.W.hasDictIn K C = true
  c5 : PySem.W.findIn K (.ref C) "__class__" = some (some (.builtin "object.__class__"))
  c6 : PySem.W.specialIn K (.builtin "object.__class__") "__get__" = some (some (.builtin "getset_descriptor.__get__"))
  c7 : PySem.W.takesIn K (.builtin "object.__class__") = some true
  c8 : PySem.W.mroIn K C (.type "object") = some true
def IsTab (K : PySem.W.Frag) (mg : Str → Option Value) (cv : Value) (tab : List (Str × Bool)) : Prop := ∀ c b, tab.lookup c = some b → ∀ C, mg c = some (.ref C) → ErrIs K C ∧ PySem.W.kitOne K (.ref C) cv = some b
def rIsX (K : PySem.W.Frag) : List V → Hp → VK → Prop := fun xs H Q => ∃ (a C d : Addr) (fs : List (Str × V)) (c : V) (cv : Value) (b : Bool), xs = [.ref a, c] ∧ (∀ u, RelV c u → u = cv) ∧ H a = some (exo a C (some d)) ∧ H d = some (exd d fs) ∧ ErrIs K C ∧ PySem.W.kitOne K (.ref C) cv = some b ∧ Q (.bl b) H
theorem call_isX {X : Cx} : CallR X (.builtin "isinstance") (rIsX X.K) := by
  intro pins s σ H xs us Q I r h
  obtain ⟨a, C, d, fs, c, cv, b, rfl, hcv, ea, ed, T, e, q⟩ := h
  cases r with
  | cons rx rr =>
    cases rr with
    | cons rt rr =>
      cases rr
      cases rx
      have ec := hcv _ rt
      subst ec
      obtain ⟨t1, ha⟩ := exo_at I.hok ea
      obtain ⟨mA, hns, hr⟩ := exd_at I.hok ed
      obtain ⟨od, ho, hl⟩ := lookIn_ns hns
      have J : PySem.W.InstAt s.heap a _ C (some od) := ⟨ha, rfl, by unfold PySem.W.notCls; rfl, ho⟩
      exact PySem.W.kia_one (PySem.W.kit_err T.c1 T.c2 T.c3 T.c4 T.c5 T.c6 T.c7 T.c8) I.kIn ⟨_, _, J⟩ e (fun z => nomatch z) fun tk => ⟨.bl b, H, I.kept (t' := tk) fun _ _ z => z, rfl, q⟩
def rIsC (K : PySem.W.Frag) (D a d : Addr) : List V → Hp → VK → Prop := fun xs H Q => ∃ (fs : List (Str × V)) (c : V) (cv : Value) (b : Bool), xs = [.ref a, c] ∧ (∀ u, RelV c u → u = cv) ∧ H d = some (.xd fs) ∧ PySem.W.kitOne K (.ref D) cv = some b ∧ Q (.bl b) H
theorem call_isC {X : Cx} {a D d : Addr} {oe : Obj} {pn : List (Addr × Obj)} (T : ErrIs X.K D) (hz : Zc (.ref D) (some d) oe) (hf : ∃ vs, oe.data = .fields vs) : CallR (X.suite a ((a, oe) :: pn)) (.builtin "isinstance") (rIsC X.K D a d) := by
  intro pins s σ H xs us Q I r h
  obtain ⟨fs, c, cv, b, rfl, hcv, ed, e, q⟩ := h
  cases r with
  | cons rx rr =>
    cases rr with
    | cons rt rr =>
      cases rr
      cases rx
      have ec := hcv _ rt
      subst ec
      obtain ⟨hget, _⟩ := I.pin (a, oe) (List.mem_append.mpr (.inl List.mem_cons_self))
      obtain ⟨vs, hv⟩ := hf
      have hx : ObjOk X.prog X.w H s.heap d (.xd fs) := I.hok d _ ed
      obtain ⟨mA, hns, hr⟩ := hx
      obtain ⟨od, ho, hl⟩ := lookIn_ns hns
      have J : PySem.W.InstAt s.heap a oe D (some od) := ⟨hget, hz.1, by unfold PySem.W.notCls; rw [hv] <;> rfl, by rw [hz.2]; exact ho⟩
      exact PySem.W.kia_one (PySem.W.kit_err T.c1 T.c2 T.c3 T.c4 T.c5 T.c6 T.c7 T.c8) I.kIn ⟨_, _, J⟩ e (fun z => nomatch z) fun tk => ⟨.bl b, H, I.kept (t' := tk) fun _ _ z => z, rfl, q⟩

theorem takes0 {X : Cx} : L2N.Takes X W0 := fun u s' ⟨_, _, _, _, _, _, _, _, _, _, _, _, _, _, _, _, w⟩ => w.elim
/-- isinstance(e, T), e an error as a value, T a class by its name -/
def dIsE (tab : List (Str × Bool)) (f : Den) : Den := fun ρ S => bnd (f ρ S) fun d S1 => match d with
  | .err c _ _ => (tab.lookup c).map fun b => .ok (.bl b) S1
  | _ => none
theorem de_isE {T : Str} {cv : Value} {cw : V} {tab : List (Str × Bool)} (ht : IsTab X.K X.mg cv tab) (ha : DE X W a fa) (hc : PE X (.Name T p2) (tC cw)) (hcw : ∀ u, RelV cw u → u = cv) (hm : X.mg "isinstance" = none) (hg : Gl X "isinstance" := by rfl)
    (hs : starEach [a, .Name T p2] X.env = (false, eval a X.env) :: starEach [.Name T p2] X.env := by rfl) :
    DE X W (.Call (.Name "isinstance" p1) [a, .Name T p2] [] pos) (dIsE tab fa) := by
  refine peI (pe_callB call_isX hg hm (by decide +kernel) (pa_cons ha (pa_cons hc pa_nil) hs) (by decide) (by decide) hs (by rfl)) fun σ H Q h => ?_
  obtain ⟨mu, S, ρ, res, s, en, hf, q⟩ := h
  refine rd_bnd s en hf q fun d S1 v H1 m1 x s1 en1 rp h1 q1 => ?_
  cases rp with
  | @err e C dd c ns vs xs hm he hd n1 n2 l r =>
    simp only at h1
    obtain ⟨b, hl, rfl⟩ := Option.map_eq_some_iff.mp h1
    obtain ⟨T1, T2⟩ := ht c b hl C hm
    exact ⟨_, _, _, _, cw, cv, b, rfl, hcw, he, hd, T1, T2, q1.val s1 (.bl b)⟩
  | _ => cases h1
def dIsC (a0 d0 : Addr) (c0 : Str) (b : Bool) (f : Den) : Den := fun ρ S => bnd (f ρ S) fun d S1 => match d with
  | .cau a d c _ _ => if a = a0 ∧ d = d0 ∧ c = c0 then some (.ok (.bl b) S1) else none
  | _ => none
theorem de_isC {a0 C0 d0 : Addr} {oe : Obj} {pn : List (Addr × Obj)} {c0 T : Str} {cv : Value} {cw : V} {tab : List (Str × Bool)} (b : Bool) (ht : IsTab X.K X.mg cv tab) (hm0 : X.mg c0 = some (.ref C0)) (htb : tab.lookup c0 = some b) (hz : Zc (.ref C0) (some d0) oe) (hf : ∃ vs, oe.data = .fields vs)
    (ha : DE (X.suite a0 ((a0, oe) :: pn)) W a fa) (hc : PE (X.suite a0 ((a0, oe) :: pn)) (.Name T p2) (tC cw)) (hcw : ∀ u, RelV cw u → u = cv) (hm : X.mg "isinstance" = none) (hg : Gl X "isinstance" := by rfl)
    (hs : starEach [a, .Name T p2] X.env = (false, eval a X.env) :: starEach [.Name T p2] X.env := by rfl) :
    DE (X.suite a0 ((a0, oe) :: pn)) W (.Call (.Name "isinstance" p1) [a, .Name T p2] [] pos) (dIsC a0 d0 c0 b fa) := by
  obtain ⟨T1, T2⟩ := ht c0 b htb C0 hm0
  refine peI (pe_callB (call_isC T1 hz hf) hg hm (by decide +kernel) (pa_cons ha (pa_cons hc pa_nil) hs) (by decide) (by decide) hs (by rfl)) fun σ H Q h => ?_
  obtain ⟨mu, S, ρ, res, s, en, hf, q⟩ := h
  refine rd_bnd s en hf q fun d S1 v H1 m1 x s1 en1 rp h1 q1 => ?_
  cases rp with
  | @cau e C dd c ns vs xs hm hd n2 l r =>
    simp only at h1
    split at h1
    · rename_i hc
      obtain ⟨rfl, rfl, rfl⟩ := hc
      cases h1
      exact ⟨_, cw, cv, b, rfl, hcw, hd, T2, q1.val s1 (.bl b)⟩
    · cases h1
  | _ => cases h1

/-! ### try: body, except C as e: suite -/
/-- at the end of the suite the name is gone -/
def clr (i : Nat) : Option SRes → Option SRes
  | some (.nx ρ S) => some (.nx (ρ.set i none) S)
  | some (.bk ρ S) => some (.bk (ρ.set i none) S)
  | some (.ct ρ S) => some (.ct (ρ.set i none) S)
  | some (.rt d S) => some (.rt d S)
  | _ => none
open Classical in
noncomputable def unif (f : Nat → Nat → Option SRes) : Option SRes := if h : ∃ r, ∀ a d, f a d = some r then some h.choose else none
theorem unif_of {f : Nat → Nat → Option SRes} {r : SRes} (h : ∀ a d, f a d = some r) : unif f = some r := by
  unfold unif
  have h' : ∃ r, ∀ a d, f a d = some r := ⟨r, h⟩
  rw [dif_pos h']
  exact congrArg some (Option.some.inj ((h'.choose_spec 0 0).symm.trans (h 0 0)))
theorem unif_at {f : Nat → Nat → Option SRes} {r : SRes} (h : unif f = some r) (a d : Nat) : f a d = some r := by
  unfold unif at h
  split at h
  · rename_i h'
    rw [← Option.some.inj h]
    exact h'.choose_spec a d
  · cases h
noncomputable def sTry (tab : List (Str × Bool)) (i : Nat) (g : SDen) (gs : Str → Nat → Nat → SDen) : SDen := fun ρ S => match g ρ S with
  | some (.exc c ns xs ρ1 S1) => match tab.lookup c with
    | some true => unif fun a d => clr i (gs c a d (ρ1.set i (some (.cau a d c ns xs))) S1)
    | some false => some (.exc c ns xs ρ1 S1)
    | none => none
  | r => r
def ExTab (K : PySem.W.Frag) (mg : Str → Option Value) (cv : Value) (tab : List (Str × Bool)) : Prop := ∀ c b, tab.lookup c = some b → ∀ C, mg c = some (.ref C) → PySem.W.exmOne K (.ref C) cv = some b
theorem ds_try {x n : Str} {cv : Value} {body suite : List Stmt} {b₀ : Stmt} {np pos' : Pos} {tab : List (Str × Bool)} {gs : Str → Nat → Nat → SDen} (i : Nat) (ht : ExTab X.K X.mg cv tab) (hs : X.stack = X.env :: X.outer) (hf : X.env.frame = some X.env.locals) (hN : X.N.Nodup) (tk : L2N.Takes X W)
    (hc : Names X x cv)
    (hb : ∀ (W : WX) (pn : List (Addr × Obj)) (xe : Value → Shared → Prop), L2N.Takes (X.tr pn xe) W → PassesOwn (model X.prog X.w) X.A X.env xe → DSs (X.tr pn xe) W body g)
    (hsu : ∀ (a : Addr) (oe : Obj) (c : Str) (C d : Addr) (pn : List (Addr × Obj)), X.mg c = some (.ref C) → tab.lookup c = some true → L2N.Zn (.ref C) (some d) oe → (∃ vs, oe.data = .fields vs) → DSs (X.suite a ((a, oe) :: pn)) W0 (b₀ :: suite) (gs c a d))
    (hi : X.N[i]? = some n := by rfl) (hln : X.env.kindOf n = some .local := by rfl) :
    DS X W (.Try body [.ExceptHandler (some (.Name x np)) (some n) (b₀ :: suite) pos'] [] [] pos) (sTry tab i g gs) := by
  refine psI (L2N.ps_try_as (tb := fun W => rdS X.K X.mg W g) (ts := fun a cls d D σ H => ∃ (c : Str) (C dd : Addr), cls = .ref C ∧ d = some dd ∧ X.mg c = some (.ref C) ∧ tab.lookup c = some true ∧ rdS X.K X.mg W0 (gs c a dd) D σ H) hs hf hN hi hln hc tk hb fun a oe cls d pn hz hf => ⟨fun pins s σ H D I h => ?_⟩) fun D σ H q => ?_
  · obtain ⟨c, C, dd, rfl, rfl, hm, hl, h⟩ := h
    exact (hsu a oe c C dd pn hm hl hz hf).run pins s σ H D I h
  · obtain ⟨mu, S, ρ, r, s, en, hg, q⟩ := q
    unfold sTry at hg
    cases e : g ρ S with
    | none => rw [e] at hg; cases hg
    | some r1 =>
      rw [e] at hg
      refine ⟨mu, S, ρ, r1, s, en, e, ?_⟩
      cases r1 with
      | nx ρ1 S1 => cases hg; exact q
      | bk ρ1 S1 => cases hg; exact q
      | ct ρ1 S1 => cases hg; exact q
      | rt d S1 => cases hg; exact q
      | exc c ns xs ρ1 S1 =>
        simp only at hg
        intro σ1 H1 m1 x1 en1 C dx vs H2 m2 x2 s2 hm hd hn hl rp
        cases hb : tab.lookup c with
        | none => rw [hb] at hg; cases hg
        | some b =>
          rw [hb] at hg
          refine ⟨b, ht c b hb C hm, fun hbt a ha => ?_, fun hbf => ?_⟩
          · subst hbt
            have hu := unif_at hg a dx
            have en2 : EnvOk X.K X.mg H2 m2 (σ1.set i (some (.ref a))) (ρ1.set i (some (.cau a dx c ns xs))) := (en1.mono x2).set (.cau hm hd hn hl rp) i
            have q2 := q.mono (x1.trans x2)
            cases e2 : gs c a dx (ρ1.set i (some (.cau a dx c ns xs))) S1 with
            | none => rw [e2] at hu; cases hu
            | some r2 =>
              rw [e2] at hu
              refine ⟨c, C, dx, rfl, rfl, hm, hb, m2, S1, _, r2, s2, en2, e2, ?_⟩
              cases r2 with
              | nx ρ2 S2 => cases hu; exact fun σ' H' mu' y s' en' => q2 _ H' mu' y s' (en'.forget i none)
              | bk ρ2 S2 => cases hu; exact fun σ' H' mu' y s' en' => q2 _ H' mu' y s' (en'.forget i none)
              | ct ρ2 S2 => cases hu; exact fun σ' H' mu' y s' en' => q2 _ H' mu' y s' (en'.forget i none)
              | rt d S2 => cases hu; exact q2
              | exc c2 ns2 xs2 ρ2 S2 => cases hu
          · subst hbf
            cases hg
            exact q σ1 H1 m1 x1 en1 C dx vs H2 m2 x2 s2 hm hd hn hl rp
end
end PD
set_option Elab.async false
set_option linter.all false
set_option maxRecDepth 100000
set_option maxHeartbeats 4000000
namespace PD
open PySem PySem.Spec PyProof.Rows L2
section
variable {X : Cx} {W : WX} {a b c e o i tg iter elt : Expr} {es : List Expr} {fa fb fc : Den} {ga gb : Dens} {pos p p1 p2 : Pos} {st : Stmt} {sts rest : List Stmt} {g h : SDen}

/-! ### calls of small defs in an except suite -/
abbrev FnDH (P : Program) (w : World) (K : PySem.W.Frag) (mg : Str → Option Value) (base : Heap) (k : Nat) (f : Addr) (fd : FuncData) (ps : List Str) (F : Op) : Prop := L2H.FnH P w K mg base (L2N.CX P w) k f fd ps (spD K mg ps.length F)
theorem fn_denH {P : Program} {w : World} {K : PySem.W.Frag} {mg : Str → Option Value} {base : Heap} {x qual : Str} {params : Arguments} {body : List Stmt} {scope : Scope} {dvs : List V} {kws : List (Str × V)} {f : Addr} {fd : FuncData} {N ps : List Str} {k : Nat} {g : SDen}
    (F : FunD K x qual params body scope dvs kws f fd) (Sc : FnScope N ps scope)
    (hb : ∀ (cdv : Value) (A : Around) (outer : List Env) (s : Shared) (H : Hp) (E : XK) (pn : Addr × Obj), L2H.Hot1 A pn → L2H.RoomH k (A.deeper (envOfC qual scope s.heap.objs.size f cdv)) →
      L2N.Takes (L2H.cxH (L2N.CX P w) P w K mg base N qual scope f cdv A outer s H E pn) (fun cls d _ H => E cls d H) →
      DSs (L2H.cxH (L2N.CX P w) P w K mg base N qual scope f cdv A outer s H E pn) (fun cls d _ H => E cls d H) body g) : FnDH P w K mg base (k + 1) f fd ps (fnOf N g) := by
  obtain ⟨oc, od, dV, kV, doc, pm, an, cdv, ct, osl, rfl, lk, hcd, _, _⟩ := F.ex
  exact L2H.fn_ofH lk hcd Sc (fun vs H Q E h => h.1) fun A outer s H vs Q E pn hot hr h => ⟨_, hb cdv A outer s H E pn hot hr (L2N.takes_of rfl rfl rfl rfl), den_end h⟩
theorem hot_suite {a0 : Addr} {cv : Value} {d : Option Addr} {oe : Obj} {pn : List (Addr × Obj)} (hz : L2N.Zn cv d oe) (hf : ∃ vs, oe.data = .fields vs) : L2H.HotC (X.suite a0 ((a0, oe) :: pn)) := by
  obtain ⟨vs, hv⟩ := hf
  exact ⟨(a0, oe), ⟨rfl, vs, hv, hz.2.2 vs hv⟩, List.mem_cons_self⟩
theorem hot_body {CX : CXT} {P : Program} {w : World} {K : PySem.W.Frag} {mg : Str → Option Value} {base : Heap} {N : List Str} {qual : Str} {scope : Scope} {f : Addr} {cd : Value} {A : Around} {outer : List Env} {s : Shared} {H : Hp} {E : XK} {pn : Addr × Obj} (hot : L2H.Hot1 A pn) :
    L2H.HotC (L2H.cxH CX P w K mg base N qual scope f cd A outer s H E pn) := ⟨pn, hot, List.mem_cons_self⟩
theorem de_callH {k : Nat} {f : Addr} {fd : FuncData} {ps : List Str} {F : Op} {x : Str} (G : FnDH X.prog X.w X.K X.mg X.base k f fd ps F) (hr : L2H.RoomH k X.A) (hc : L2H.HotC X) (tk : L2N.Takes X W) (hm : X.mg x = some (.ref f)) (hk : PySem.W.keepIn X.K (.ref f) = true) (hb : Binds X.K fd ps [])
    (ha : DA X W (e :: es) ga) (hg : Gl X x := by rfl) (hdb : (x == ("__debug__" : Str)) = false := by decide) (he : starEach (e :: es) X.env = (false, eval e X.env) :: starEach es X.env := by rfl) (hpl : (backTo pos (starEach es X.env)).any (·.1) = false := by rfl) :
    DE X W (.Call (.Name x p) (e :: es) [] pos) (dFn ps.length F ga) := by
  refine peI (L2H.pe_callH (E := WE W) G hr hc hg hm hk hb (fun σ => L2N.passAt tk σ) ha hdb he hpl) fun σ H Q h => ?_
  obtain ⟨mu, S, ρ, res, s, en, hf, q⟩ := h
  refine rds_bndl s en hf q fun ds S1 vs H1 m1 x s1 en1 rp h1 q1 => ?_
  split at h1
  · rename_i hl
    exact spD_of s1 rp hl h1 q1
  · cases h1

/-! ### calls by keywords alone -/
def DK (X : Cx) (W : WX) (kws : List Keyword) (g : Dens) : Prop := PK X kws (rds X.K X.mg W g)
theorem pkI {kws : List Keyword} {t t' : TA} (h : PK X kws t) (i : ∀ σ H Q, t' σ H Q → t σ H Q) : PK X kws t' := ⟨fun pos pins s σ H Q I q => h.run pos pins s σ H Q I (i σ H Q q)⟩
theorem dk_nil : DK X W [] dNil := by
  refine pkI pk_nil fun σ H Q h => ?_
  obtain ⟨mu, S, ρ, r, s, en, hf, q⟩ := h
  cases hf
  exact q [] H mu (Ext.refl _ _) s .nil
theorem dk_cons {nm : Option Str} {kpos : Pos} {kws : List Keyword} (ha : DE X W e fa) (hr : DK X W kws ga) : DK X W (⟨nm, e, kpos⟩ :: kws) (dCons fa ga) := by
  refine pkI (pk_cons ha hr) fun σ H Q h => ?_
  obtain ⟨mu, S, ρ, r, s, en, hf, q⟩ := h
  refine rd_bnds s en hf q fun d S1 v H1 m1 x s1 en1 rp h1 q1 => ?_
  refine rds_bndls s1 en1 h1 q1 fun ds S2 vs H2 m2 x2 s2 en2 rp2 h2 q2 => ?_
  cases h2
  exact q2 _ H2 m2 (Ext.refl _ _) s2 (.cons (rp.mono x2) rp2)
/-- the keywords' values ws, named ks, in the parameters' order: ix tells each parameter's place among them -/
structure KwB (K : PySem.W.Frag) (fd : FuncData) (ps ks : List Str) (ix : List Nat) : Prop where
  to : ∀ (s : Shared) (ws : List Value), K.In s.heap → ws.length = ks.length → BindsTo s fd ⟨[], ks.zip ws⟩ (ps.zip (permL ix ws))
theorem perm_vals {ix : List Nat} {vs : List V} {us : List Value} (r : Vals vs us) : Vals (permL ix vs) (permL ix us) := by
  induction ix with
  | nil => exact .nil
  | cons i ix ih =>
    unfold permL at ih ⊢
    rw [List.filterMap_cons, List.filterMap_cons]
    cases e : vs[i]? with
    | none =>
      have : us[i]? = none := List.getElem?_eq_none (by rw [← r.length]; exact List.getElem?_eq_none_iff.mp e)
      rw [this]
      exact ih
    | some v =>
      obtain ⟨u, hu, rv⟩ := r.get e
      rw [hu]
      exact .cons rv ih
theorem perm_reps {K : PySem.W.Frag} {mg : Str → Option Value} {H : Hp} {mu : List Addr} {ix : List Nat} {vs : List V} {ds : List D} (r : Reps K mg H mu vs ds) : Reps K mg H mu (permL ix vs) (permL ix ds) := by
  induction ix with
  | nil => exact .nil
  | cons i ix ih =>
    unfold permL at ih ⊢
    rw [List.filterMap_cons, List.filterMap_cons]
    cases e : ds[i]? with
    | none =>
      have : vs[i]? = none := List.getElem?_eq_none (by rw [r.length]; exact List.getElem?_eq_none_iff.mp e)
      rw [this]
      exact ih
    | some d =>
      obtain ⟨v, hv, rv⟩ := r.get e
      rw [hv]
      exact .cons rv ih
def tCallKw (sp : Sp) (ix : List Nat) (m : Nat) (E : L2.St → XK) (tk : TA) : TE := fun σ H Q => tk σ H fun zs H2 => zs.length = m ∧ sp (permL ix zs) H2 Q (E σ)
theorem pe_callKw {CX : CXT} {k : Nat} {f : Addr} {fd : FuncData} {ps ks : List Str} {sp : Sp} {ix : List Nat} {x : Str} {kws : List Keyword} {tk : TA} {E : L2.St → XK} (F : FnOk X.prog X.w X.K X.mg X.base CX k f fd ps sp) (hr : Room k X.A) (hg : Gl X x) (hm : X.mg x = some (.ref f)) (hk : PySem.W.keepIn X.K (.ref f) = true)
    (hb : KwB X.K fd ps ks ix) (hx : ∀ σ, PassesAt CX X σ (E σ)) (hkw : PK X kws tk) (hall : (backToKw pos (keywordEach kws X.env)).all (·.1.isSome) = true := by rfl) (hks : (backToKw pos (keywordEach kws X.env)).filterMap (·.1) = ks := by rfl)
    (hdb : (x == ("__debug__" : Str)) = false := by decide) (hpl : ((backTo pos (starEach [] X.env)).any (·.1) || (backToKw pos (keywordEach kws X.env)).any (·.1.isNone)) = false := by rfl) :
    PE X (.Call (.Name x p) [] kws pos) (tCallKw sp ix ks.length E tk) := by
  refine ⟨fun pins s σ H Q J h => wpAny_Call_Name_kw (ld_glob J hg hm (PySem.W.callWith_KW0 (h₀ := X.base) J.ok.mod.kin hk hall (thn (hkw.run pos pins s σ H _ J h) fun ws s2 ⟨zs, H2, J2, rz, hl, q2⟩ => ⟨J2.kIn, ?_⟩) hpl) hdb)⟩
  rw [hks]
  refine wpAny_call (codeAny_mono (F.run X.A X.stack s2 H2 ⟨[], ks.zip ws⟩ (permL ix ws) (permL ix zs) Q (E σ) hr J2.env0 (hb.to s2 ws J2.kIn (rz.length.symm.trans hl)) (perm_vals rz) q2) fun r z hc => ?_)
  match r, hc with
  | .error er, hc => exact hx σ pins H2 s2 er z J2 hc
  | .ok (.ret u), hc => exact J2.after hc
  | .ok .next, hc => exact hc.elim
  | .ok .brk, hc => exact hc.elim
  | .ok .cont, hc => exact hc.elim
def dFnK (n m : Nat) (ix : List Nat) (F : Op) (g : Dens) : Den := fun ρ S => bndl (g ρ S) fun ds S1 => if ds.length = m ∧ (permL ix ds).length = n then F (permL ix ds) S1 else none
theorem de_callK {k : Nat} {f : Addr} {fd : FuncData} {ps ks : List Str} {F : Op} {x : Str} {kws : List Keyword} (ix : List Nat) (G : FnD X.prog X.w X.K X.mg X.base k f fd ps F) (hr : Room k X.A) (tk : L2N.Takes X W) (hm : X.mg x = some (.ref f)) (hk : PySem.W.keepIn X.K (.ref f) = true) (hb : KwB X.K fd ps ks ix)
    (ha : DK X W kws ga) (hg : Gl X x := by rfl) (hall : (backToKw pos (keywordEach kws X.env)).all (·.1.isSome) = true := by rfl) (hks : (backToKw pos (keywordEach kws X.env)).filterMap (·.1) = ks := by rfl)
    (hdb : (x == ("__debug__" : Str)) = false := by decide) (hpl : ((backTo pos (starEach [] X.env)).any (·.1) || (backToKw pos (keywordEach kws X.env)).any (·.1.isNone)) = false := by rfl) :
    DE X W (.Call (.Name x p) [] kws pos) (dFnK ps.length ks.length ix F ga) := by
  refine peI (pe_callKw (E := WE W) G hr hg hm hk hb (fun σ => L2N.passAt tk σ) ha hall hks hdb hpl) fun σ H Q h => ?_
  obtain ⟨mu, S, ρ, res, s, en, hf, q⟩ := h
  refine rds_bndl s en hf q fun ds S1 vs H1 m1 x s1 en1 rp h1 q1 => ?_
  split at h1
  · rename_i hl
    exact ⟨rp.length.trans hl.1, spD_of s1 (perm_reps rp) hl.2 h1 q1⟩
  · cases h1
end
end PD
set_option Elab.async false
set_option linter.all false
set_option maxRecDepth 100000
set_option maxHeartbeats 4000000
namespace PD
open PySem PySem.Spec PyProof.Rows L2
section
variable {X : Cx} {W : WX} {a b c e o i tg iter elt : Expr} {es : List Expr} {fa fb fc : Den} {ga gb : Dens} {pos p p1 p2 : Pos} {st : Stmt} {sts rest : List Stmt} {g h : SDen}

/-! ### sum, abs, lcm, the least and the greatest of a list -/
abbrev rSumA (K : PySem.W.Frag) : List V → Hp → VK → Prop := fun vs H Q => ∃ (a : Addr) (ns : List Int), vs = [V.ref a] ∧ (SqL K H a (ns.map V.int) ∨ SqT K H a (ns.map V.int)) ∧ Q (.int ns.sum) H
theorem call_sumA (hc : X.calm = true) : CallR X (.builtin "sum") (rSumA X.K) := by
  intro pins s σ H vs us Q J r h
  obtain ⟨a, ns, rfl, hs | hs, q⟩ := h
  · exact cr_sum hc pins s σ H _ us Q J r ⟨a, ns, rfl, hs, q⟩
  · obtain ⟨its, rv, hl, _⟩ := J.tuple hs
    rw [Vals.ref1 r]
    have hi := rv.ints
    obtain ⟨xs, e⟩ := hi.allInts.items
    have hn : numsOf (intItems xs).toList = ns := by rw [← e]; exact hi.numsOf
    rw [nums_intItems] at hn
    rw [e] at hl
    refine PySem.W.ktm_sumG (J.ok.hd hc) hl fun h' tk t' hk => ⟨.int ns.sum, H, J.kept hk, ?_, q⟩
    rw [preSum_eq, List.take_of_length_le (by simp), hn]
    exact ⟨_, rfl⟩
def oSum : Op := fun ds S => match ds with
  | [d] => (asSeq S d).bind fun xs => (intsD xs).map fun ns => .ok (.int ns.sum) S
  | _ => none
theorem callD_sum : CallD X (rSumA X.K) oSum := by
  intro H mu S vs ds res W σ Q s r ho q
  match ds, ho with
  | [d], ho =>
    obtain ⟨v, rfl, rv⟩ := reps1 r
    obtain ⟨xs, h1, h2⟩ := bind_two ho
    obtain ⟨ns, h3, rfl⟩ := Option.map_eq_some_iff.mp h2
    obtain ⟨a, ws, rfl, hq, rw_⟩ := rep_seq s rv h1
    have e := ints_ok rw_ h3
    subst e
    exact ⟨a, ns, rfl, hq, q.val s (.int _)⟩
def oAbs : Op := fun ds S => match ds with
  | [.int i] => some (.ok (.int (if i < 0 then -i else i)) S)
  | _ => none
theorem callD_abs : CallD X (fun xs H Q => ∃ i, xs = [.int i] ∧ Q (.int (if i < 0 then -i else i)) H) oAbs := by
  intro H mu S vs ds res W σ Q s r ho q
  unfold oAbs at ho
  split at ho
  · cases ho
    obtain ⟨v, rfl, r1⟩ := reps1 r
    cases r1
    exact ⟨_, rfl, q.val s (.int _)⟩
  · cases ho
abbrev rLcm : List V → Hp → VK → Prop := fun vs H Q => ∃ i j : Int, vs = [.int i, .int j] ∧ i.natAbs < 2 ^ 64 ∧ j.natAbs < 2 ^ 64 ∧ Q (.int ((Nat.lcm i.natAbs j.natAbs : Nat) : Int)) H
theorem call_lcm : CallR X (.builtin "math.lcm") rLcm := by
  intro pins s σ H vs us Q J r h
  obtain ⟨i, j, rfl, h1, h2, q⟩ := h
  obtain ⟨t, u, rfl⟩ := Vals.int2 r
  exact PySem.W.mc_lcm h1 h2 fun _ => ⟨.int _, H, J.tok _, ⟨_, rfl⟩, q⟩
def oLcm : Op := fun ds S => match ds with
  | [.int i, .int j] => if i.natAbs < 2 ^ 64 ∧ j.natAbs < 2 ^ 64 then some (.ok (.int ((Nat.lcm i.natAbs j.natAbs : Nat) : Int)) S) else none
  | _ => none
theorem callD_lcm : CallD X rLcm oLcm := by
  intro H mu S vs ds res W σ Q s r ho q
  unfold oLcm at ho
  split at ho
  · split at ho
    · rename_i hz
      cases ho
      obtain ⟨v, v2, rfl, r1, r2⟩ := reps2 r
      cases r1; cases r2
      exact ⟨_, _, rfl, hz.1, hz.2, q.val s (.int _)⟩
    · cases ho
  · cases ho
def greatest : List Int → Option Int
  | [] => none
  | x :: xs => match greatest xs with
    | none => some x
    | some y => some (if x < y then y else x)
def least : List Int → Option Int
  | [] => none
  | x :: xs => match least xs with
    | none => some x
    | some y => some (if y < x then y else x)
theorem greatest_ok : ∀ {xs : List Int} {m : Int}, greatest xs = some m → m ∈ xs ∧ ∀ y ∈ xs, y ≤ m
  | [], _, h => by cases h
  | x :: xs, m, h => by
    unfold greatest at h
    split at h
    · rename_i hn
      cases h
      have : xs = [] := by
        cases xs with
        | nil => rfl
        | cons z zs => unfold greatest at hn; split at hn <;> cases hn
      subst this
      simp
    · rename_i y hy
      obtain ⟨h1, h2⟩ := greatest_ok hy
      cases h
      split
      · exact ⟨List.mem_cons_of_mem _ h1, fun z hz => by rcases List.mem_cons.mp hz with e | e; (subst e; omega); exact h2 z e⟩
      · exact ⟨List.mem_cons_self, fun z hz => by rcases List.mem_cons.mp hz with e | e; (subst e; omega); (have := h2 z e; omega)⟩
theorem least_ok : ∀ {xs : List Int} {m : Int}, least xs = some m → m ∈ xs ∧ ∀ y ∈ xs, m ≤ y
  | [], _, h => by cases h
  | x :: xs, m, h => by
    unfold least at h
    split at h
    · rename_i hn
      cases h
      have : xs = [] := by
        cases xs with
        | nil => rfl
        | cons z zs => unfold least at hn; split at hn <;> cases hn
      subst this
      simp
    · rename_i y hy
      obtain ⟨h1, h2⟩ := least_ok hy
      cases h
      split
      · exact ⟨List.mem_cons_of_mem _ h1, fun z hz => by rcases List.mem_cons.mp hz with e | e; (subst e; omega); exact h2 z e⟩
      · exact ⟨List.mem_cons_self, fun z hz => by rcases List.mem_cons.mp hz with e | e; (subst e; omega); (have := h2 z e; omega)⟩
def oMaxL : Op := fun ds S => match ds with
  | [d] => (asList S d).bind fun xs => (intsD xs).bind fun ns => (greatest ns).map fun m => .ok (.int m) S
  | _ => none
def oMinL : Op := fun ds S => match ds with
  | [d] => (asList S d).bind fun xs => (intsD xs).bind fun ns => (least ns).map fun m => .ok (.int m) S
  | _ => none
theorem callD_maxL : CallD X (rMax X.K) oMaxL := by
  intro H mu S vs ds res W σ Q s r ho q
  match ds, ho with
  | [d], ho =>
    obtain ⟨v, rfl, rv⟩ := reps1 r
    obtain ⟨xs, h1, h2⟩ := bind_two ho
    obtain ⟨ns, h3, h4⟩ := bind_two h2
    obtain ⟨m, h5, rfl⟩ := Option.map_eq_some_iff.mp h4
    obtain ⟨a, ws, rfl, hq, rw_⟩ := rep_list s rv h1
    have e := ints_ok rw_ h3
    subst e
    obtain ⟨h6, h7⟩ := greatest_ok h5
    refine ⟨a, ns, rfl, .of hq, List.length_pos_of_mem h6, fun k hk1 hk2 => ?_⟩
    have : k = m := Int.le_antisymm (h7 k hk1) (hk2 m h6)
    subst this
    exact q.val s (.int _)
theorem callD_minL : CallD X (rMin X.K) oMinL := by
  intro H mu S vs ds res W σ Q s r ho q
  match ds, ho with
  | [d], ho =>
    obtain ⟨v, rfl, rv⟩ := reps1 r
    obtain ⟨xs, h1, h2⟩ := bind_two ho
    obtain ⟨ns, h3, h4⟩ := bind_two h2
    obtain ⟨m, h5, rfl⟩ := Option.map_eq_some_iff.mp h4
    obtain ⟨a, ws, rfl, hq, rw_⟩ := rep_list s rv h1
    have e := ints_ok rw_ h3
    subst e
    obtain ⟨h6, h7⟩ := least_ok h5
    refine ⟨a, ns, rfl, .of hq, List.length_pos_of_mem h6, fun k hk1 hk2 => ?_⟩
    have : k = m := Int.le_antisymm (hk2 m h6) (h7 k hk1)
    subst this
    exact q.val s (.int _)
end
end PD
set_option Elab.async false
set_option linter.all false
set_option maxRecDepth 100000
set_option maxHeartbeats 4000000
namespace PD
open PySem PySem.Spec PyProof.Rows L2 He
/-! ### what the written part says of the own error classes, as Booleans -/
theorem and2 {a b : Bool} (h : (a && b) = true) : a = true ∧ b = true := Bool.and_eq_true_iff.mp h
def oexB (K : PySem.W.Frag) (C : Addr) : Bool := (match K.lookup C with
  | some o => match o.cls, o.data with
    | .type t, .cls cd => t == "type" && (match cd.mro, o.slots.toList with
      | .ref D :: bm, [_, _, _, _, some (.builtin n), _] => D == C && (n == "ValueError.__new__" && (!cd.hasDel && (cd.hasDict && PySem.HandSPX.refsVE bm)))
      | _, _ => false)
    | _, _ => false
  | none => false) && (eqO (PySem.W.findIn K (.ref C) "__setattr__") (some (some (.builtin "object.__setattr__"))) && (decide (PySem.W.subIn K (.ref C) (.type "BaseException") = some true) && (decide (PySem.W.typeIn K (.ref C) = some (.type "type")) && PySem.W.keepIn K (.ref C))))
theorem oexB_ok {K : PySem.W.Frag} {C : Addr} (h : oexB K C = true) : OexC K C := by
  obtain ⟨h1, h⟩ := and2 h
  obtain ⟨h2, h⟩ := and2 h
  obtain ⟨h3, h⟩ := and2 h
  obtain ⟨h4, h5⟩ := and2 h
  refine ⟨?_, eqO_ok h2, of_decide_eq_true h3, of_decide_eq_true h4, h5⟩
  cases e : K.lookup C with
  | none => rw [e] at h1; cases h1
  | some o =>
    rw [e] at h1
    obtain ⟨oc, od, dt, sl⟩ := o
    cases oc with
    | type t =>
      cases dt with
      | cls cd =>
        obtain ⟨g1, g2⟩ := and2 h1
        have et : t = "type" := eq_of_beq g1
        subst et
        obtain ⟨nm, bs, mro, ns, qn, hd, sn, sub, ab, col, del⟩ := cd
        simp only at g2
        split at g2
        · rename_i D bm s1 s2 s3 s4 n s6 hs
          obtain ⟨k1, g2⟩ := and2 g2
          obtain ⟨k2, g2⟩ := and2 g2
          obtain ⟨k3, g2⟩ := and2 g2
          obtain ⟨k4, k5⟩ := and2 g2
          have e1 : D = C := eq_of_beq k1
          have e2 : n = "ValueError.__new__" := eq_of_beq k2
          have e3 : del = false := by cases del with
            | false => rfl
            | true => cases k3
          subst e1 e2 e3
          have e4 : hd = true := k4
          subst e4
          have e5 : sl = #[s1, s2, s3, s4, some (.builtin "ValueError.__new__"), s6] := by
            obtain ⟨l⟩ := sl
            simp only at hs
            rw [hs]
          subst e5
          exact ⟨nm, qn, ns, bs, bm, sn, sub, ab, col, od, s1, s2, s3, s4, s6, rfl, k5⟩
        · cases g2
      | _ => cases h1
    | _ => cases dt <;> cases h1
def erisB (K : PySem.W.Frag) (C : Addr) : Bool := eqO (PySem.W.findIn K (.ref C) "__getattribute__") (some (some (.builtin "BaseException.__getattribute__"))) && (eqO (PySem.W.findIn K (.ref C) "__getattr__") (some none) && (decide (PySem.W.subIn K (.ref C) (.type "BaseException") = some true) && (PySem.W.hasDictIn K C &&
  (eqO (PySem.W.findIn K (.ref C) "__class__") (some (some (.builtin "object.__class__"))) && (eqO (PySem.W.specialIn K (.builtin "object.__class__") "__get__") (some (some (.builtin "getset_descriptor.__get__"))) && (decide (PySem.W.takesIn K (.builtin "object.__class__") = some true) && decide (PySem.W.mroIn K C (.type "object") = some true)))))))
theorem erisB_ok {K : PySem.W.Frag} {C : Addr} (h : erisB K C = true) : ErrIs K C := by
  obtain ⟨h1, h⟩ := and2 h
  obtain ⟨h2, h⟩ := and2 h
  obtain ⟨h3, h⟩ := and2 h
  obtain ⟨h4, h⟩ := and2 h
  obtain ⟨h5, h⟩ := and2 h
  obtain ⟨h6, h⟩ := and2 h
  obtain ⟨h7, h8⟩ := and2 h
  exact ⟨eqO_ok h1, eqO_ok h2, of_decide_eq_true h3, h4, eqO_ok h5, eqO_ok h6, of_decide_eq_true h7, of_decide_eq_true h8⟩
theorem ErrIs.xf {K : PySem.W.Frag} {C : Addr} (h : ErrIs K C) : XfC K C := ⟨h.c1, h.c2, h.c3, h.c4⟩
/-- a class named: an own one of the module, or a built-in type -/
inductive Cn where
  | own (x : Str)
  | bty (T : String)
def Cn.val (K : PySem.W.Frag) : Cn → Value
  | .own x => .ref (ga K x)
  | .bty T => .type T
/-- facts of the classes of errors -/
inductive Fe where
  /-- an own class with an own __init__ -/
  | oex (x : Str)
  | no (x f : Str)
  | is_ (x : Str) (c : Cn) (b : Bool)
  | ex (x : Str) (c : Cn) (b : Bool)
  | con (x id : String)
def Fe.ok (K : PySem.W.Frag) : Fe → Bool
  | .oex x => oexB K (ga K x) && (erisB K (ga K x) && (eqO (PySem.W.findIn K (.ref (ga K x)) "__init__") (some (some (.ref (ma K (ga K x) "__init__")))) && decide (PySem.W.typeIn K (.ref (ma K (ga K x) "__init__")) = some (.type "function"))))
  | .no x f => eqO (PySem.W.findIn K (.ref (ga K x)) f) (some none)
  | .is_ x c b => decide (PySem.W.kitOne K (.ref (ga K x)) (c.val K) = some b)
  | .ex x c b => decide (PySem.W.exmOne K (.ref (ga K x)) (c.val K) = some b)
  | .con x id => eqO (PySem.W.nsIn K mainGlobals (Str.ofString x)) (some (some (.builtin id)))
abbrev AlE : Type := Bool × AlD
def obsE (fa : List Fa) (fn : List DefD) (fe : List Fe) (K : PySem.W.Frag) : AlE := (fe.all fun f => f.ok K, obsD fa fn K)
def valE (fn : List DefD) : AlE := (true, valD fn)
def SaysE (fa : List Fa) (fn : List DefD) (fe : List Fe) (K : PySem.W.Frag) : Prop := obsE fa fn fe K = valE fn
def obsEG (n : Nat) (fa : List Fa) (fn : List DefD) (fe : List Fe) (g : Addr → Option Obj) : AlE := obsE fa fn fe (frG g (asD g n))
def hookE (n : Nat) (fa : List Fa) (fn : List DefD) (fe : List Fe) : PySem.W.Hook where
  α := AlE
  obs := fun s => obsEG n fa fn fe s.heap.get?
  val := fun _ => valE fn
  says := fun _ h => ∃ K : PySem.W.Frag, K.In h ∧ SaysE fa fn fe K
  of := fun _ _ e => ⟨_, frG_in, e⟩
  keeps := fun _ _ _ ⟨K, hK, c⟩ k => ⟨K, PySem.W.Frag.In.keeps hK k, c⟩
theorem obsEG_eq {n : Nat} {fa : List Fa} {fn : List DefD} {fe : List Fe} {g : Addr → Option Obj} {s : Shared} (h : ∀ a, g a = s.heap.get? a) : obsEG n fa fn fe g = (hookE n fa fn fe).obs s := by
  have e : g = s.heap.get? := funext h
  rw [e] <;> rfl
section
variable {fa : List Fa} {fn : List DefD} {fe : List Fe} {K : PySem.W.Frag}
theorem SaysE.d (c : SaysE fa fn fe K) : SaysD fa fn K := congrArg (fun z : AlE => z.2) c
theorem SaysE.err (c : SaysE fa fn fe K) {f : Fe} (h : f ∈ fe) : f.ok K = true := by
  have h1 : (fe.all fun f => f.ok K) = true := congrArg (fun z : AlE => z.1) c
  exact List.all_eq_true.mp h1 f h
end
end PD
set_option Elab.async false
set_option linter.all false
set_option maxRecDepth 100000
set_option maxHeartbeats 4000000
namespace PD
open PySem PySem.Spec PyProof.Rows L2
section
variable {X : Cx} {W : WX} {a b c e o i tg iter elt : Expr} {es : List Expr} {fa fb fc : Den} {ga gb : Dens} {pos p p1 p2 : Pos} {st : Stmt} {sts rest : List Stmt} {g h : SDen}

/-! ### a call that is handed lists which may change: it sees them as they stand, and gives back no list -/
mutual
def plain : D → Bool
  | .tup xs => plains xs
  | .non => true
  | .bl _ => true
  | .int _ => true
  | .str _ => true
  | _ => false
def plains : List D → Bool
  | [] => true
  | x :: xs => plain x && plains xs
end
section
variable {K : PySem.W.Frag} {mg : Str → Option Value} {H H1 : Hp} {mu m1 : List Addr} {S S1 : Store}
theorem no_tup (s : StOk K mg H mu S) {a : Addr} {xs : List V} (h : Rd H a (.tup xs)) : a ∉ mu := fun z => by
  obtain ⟨n, hn⟩ := List.getElem?_of_mem z
  have hl : n < S.length := by rw [← s.len]; exact (List.getElem?_eq_some_iff.mp hn).1
  obtain ⟨vs, hv, _⟩ := s.at_ n a _ hn (List.getElem?_eq_getElem hl)
  rcases h with h | ⟨o, h⟩ <;> rw [hv] at h <;> cases h
mutual
theorem rep_plain (s : StOk K mg H mu S) : ∀ {v : V} {d : D}, plain d = true → Rep K mg H [] v d → Rep K mg H mu v d
  | _, _, _, .non => .non
  | _, _, _, .bl b => .bl b
  | _, _, _, .int i => .int i
  | _, _, _, .str i => .str i
  | _, _, h, .tup hq r => .tup (hq.elim (fun z => .inl ⟨z.1, no_tup s z.1⟩) .inr) (reps_plain s (by simpa [plain] using h) r)
  | _, _, h, .lst .. => by simp [plain] at h
  | _, _, h, .ref .. => by simp [plain] at h
  | _, _, h, .scr .. => by simp [plain] at h
  | _, _, h, .err .. => by simp [plain] at h
  | _, _, h, .cau .. => by simp [plain] at h
theorem reps_plain (s : StOk K mg H mu S) : ∀ {vs : List V} {ds : List D}, plains ds = true → Reps K mg H [] vs ds → Reps K mg H mu vs ds
  | _, _, _, .nil => .nil
  | _, _, h, .cons r t => by
    simp only [plains, Bool.and_eq_true] at h
    exact .cons (rep_plain s h.1 r) (reps_plain s h.2 t)
end
theorem ext_all (x : Ext H [] H1 []) : Ext H mu H1 mu := ⟨List.prefix_refl _, fun a o h _ => x.keep a o h List.not_mem_nil, fun _ h n => absurd h n⟩
theorem st_all (s : StOk K mg H mu S) (x : Ext H [] H1 []) : StOk K mg H1 mu S := ⟨s.nd, s.len, fun n a ds h1 h2 => by
  obtain ⟨vs, hv, hr⟩ := s.at_ n a ds h1 h2
  exact ⟨vs, x.keep a _ hv List.not_mem_nil, hr.mono (ext_all x)⟩⟩
theorem st_none : StOk K mg H [] [] := ⟨.nil, rfl, fun n a ds h => by simp at h⟩
theorem fz_all (s : StOk K mg H mu S) {vs : List V} {ds ds' : List D} (r : Reps K mg H mu vs ds) (h : fzs S 0 ds = some ds') : Reps K mg H [] vs ds' :=
  reps_map (List.nil_prefix) (fzg_ok s List.nil_prefix 3) r h
end
def dFnZ (n : Nat) (F : Op) (g : Dens) : Den := fun ρ S => bndl (g ρ S) fun ds S1 => match fzs S1 0 ds with
  | some ds' => if ds.length = n then (match F ds' [] with
    | some (.ok d _) => if plain d then some (.ok d S1) else none
    | some (.exc c ns xs _) => if plains xs then some (.exc c ns xs S1) else none
    | none => none) else none
  | none => none
theorem de_callZ {k : Nat} {f : Addr} {fd : FuncData} {ps : List Str} {F : Op} {x : Str} (G : FnD X.prog X.w X.K X.mg X.base k f fd ps F) (hr : Room k X.A) (tk : L2N.Takes X W) (hm : X.mg x = some (.ref f)) (hk : PySem.W.keepIn X.K (.ref f) = true) (hb : Binds X.K fd ps [])
    (ha : DA X W (e :: es) ga) (hg : Gl X x := by rfl) (hdb : (x == ("__debug__" : Str)) = false := by decide) (he : starEach (e :: es) X.env = (false, eval e X.env) :: starEach es X.env := by rfl) (hpl : (backTo pos (starEach es X.env)).any (·.1) = false := by rfl) :
    DE X W (.Call (.Name x p) (e :: es) [] pos) (dFnZ ps.length F ga) := by
  refine peI (pe_callSD (E := WE W) (dvs := []) G hr hg hm hk hb .nil (fun σ => L2N.passAt tk σ) ha hdb he hpl) fun σ H Q h => ?_
  obtain ⟨mu, S, ρ, res, s, en, hf, q⟩ := h
  refine rds_bndl s en hf q fun ds S1 vs H1 m1 x s1 en1 rp h1 q1 => ?_
  rw [List.append_nil]
  split at h1
  · rename_i ds' hz
    split at h1
    · rename_i hl
      cases e1 : F ds' [] with
      | none => rw [e1] at h1; cases h1
      | some r1 =>
        rw [e1] at h1
        refine ⟨rp.length.trans hl, [], [], ds', r1, st_none, fz_all s1 rp hz, e1, ?_⟩
        cases r1 with
        | ok d S' =>
          simp only at h1
          split at h1
          · rename_i hp
            cases h1
            exact fun v H2 x2 s2 r2 => q1 v H2 m1 (ext_all x2) (st_all s1 x2) (rep_plain (st_all s1 x2) hp r2)
          · cases h1
        | exc c ns xs S' =>
          simp only at h1
          split at h1
          · rename_i hp
            cases h1
            intro C dx ws H2 x2 s2 hm2 hd hn hl2 r2
            have s3 := st_all s1 x2
            have nd : dx ∉ m1 := fun z => by
              obtain ⟨n, hn'⟩ := List.getElem?_of_mem z
              have hl3 : n < S1.length := by rw [← s3.len]; exact (List.getElem?_eq_some_iff.mp hn').1
              obtain ⟨us, hv, _⟩ := s3.at_ n dx _ hn' (List.getElem?_eq_getElem hl3)
              rw [hv] at hd
              cases hd
            exact q1 C dx ws H2 m1 (ext_all x2) s3 hm2 hd nd hl2 (reps_plain s3 hp r2)
          · cases h1
    · cases h1
  · cases h1
end
end PD
set_option Elab.async false
set_option linter.all false
set_option maxRecDepth 100000
set_option maxHeartbeats 4000000
namespace PD
open PySem PySem.Spec PyProof.Rows L2
section
variable {X : Cx} {W : WX} {a b c e o i tg iter elt : Expr} {es : List Expr} {fa fb fc : Den} {ga gb : Dens} {pos p p1 p2 : Pos} {st : Stmt} {sts rest : List Stmt} {g h : SDen}
theorem de_notT (ha : DE X W a fa) : DE X W (.UnaryOp .Not a pos) (dNotT fa) := by
  refine peI (pe_notT ha) fun σ H Q h => ?_
  obtain ⟨mu, S, ρ, r, s, en, hf, p⟩ := h
  unfold dNotT dNot dTru at hf
  cases e : fa ρ S with
  | none => rw [e] at hf; cases hf
  | some r1 =>
    rw [e] at hf
    cases r1 with
    | exc c ns xs S1 =>
      cases hf
      exact ⟨mu, S, ρ, _, s, en, e, p⟩
    | ok d S1 =>
      refine ⟨mu, S, ρ, _, s, en, e, fun v H1 m1 x s1 rp => ?_⟩
      cases e2 : truth S1 d with
      | none =>
        simp only [bnd_ok, e2, Option.map_none, bndB, bnd_none] at hf
        cases hf
      | some k =>
        simp only [bnd_ok, e2, Option.map_some, bndB] at hf
        cases hf
        exact ⟨k, rep_truth s1 rp e2, (p.mono x).val s1 (.bl _)⟩

/-! ### a def of the text, with what it does -/
/-- the def named x, at rank k, has the denotation F -/
structure Callee (P : Program) (w : World) (K : PySem.W.Frag) (mg : Str → Option Value) (base : Heap) (k : Nat) (x : Str) (st : Stmt) (ps : List Str) (F : Op) : Prop where
  gl : mg x = some (.ref (He.ga K x))
  ex : ∃ fd, FunD K x x (defArgs st) (defBody st) (defScope st) [] [] (He.ga K x) fd ∧ FnD P w K mg base k (He.ga K x) fd ps F
/-- the same in an except suite -/
structure CalleeH (P : Program) (w : World) (K : PySem.W.Frag) (mg : Str → Option Value) (base : Heap) (k : Nat) (x : Str) (st : Stmt) (ps : List Str) (F : Op) : Prop where
  gl : mg x = some (.ref (He.ga K x))
  ex : ∃ fd, FunD K x x (defArgs st) (defBody st) (defScope st) [] [] (He.ga K x) fd ∧ FnDH P w K mg base k (He.ga K x) fd ps F
/-- what is written binds the parameters, one by one -/
def BindsAll (x : Str) (st : Stmt) (ps : List Str) : Prop := ∀ (kV doc pm : Value) (an : Option Addr) (cdv ct : Value) (us : List Value), us.length = ps.length → bindArgs (PySem.W.fnOf x x (defArgs st) (defBody st) (defScope st) .none kV doc pm an cdv ct) ⟨us, []⟩ = pure (ps.zip us)
def BindsKw (x : Str) (st : Stmt) (ps ks : List Str) (ix : List Nat) : Prop := ∀ (kV doc pm : Value) (an : Option Addr) (cdv ct : Value) (ws : List Value), ws.length = ks.length → bindArgs (PySem.W.fnOf x x (defArgs st) (defBody st) (defScope st) .none kV doc pm an cdv ct) ⟨[], ks.zip ws⟩ = pure (ps.zip (permL ix ws))
theorem kwB_of {K : PySem.W.Frag} {x : Str} {st : Stmt} {f : Addr} {fd : FuncData} {ps ks : List Str} {ix : List Nat} (F : FunD K x x (defArgs st) (defBody st) (defScope st) [] [] f fd) (h : BindsKw x st ps ks ix) : KwB K fd ps ks ix := by
  obtain ⟨oc, od, dV, kV, doc, pm, an, cdv, ct, osl, rfl, lk, hcd, hD, hK⟩ := F.ex
  rcases hD with ⟨_, rfl⟩ | ⟨e, _⟩
  · exact ⟨fun s ws X hl => .of_eq (h kV doc pm an cdv ct ws hl)⟩
  · exact absurd rfl e
theorem de_callC {k j : Nat} {ps : List Str} {F : Op} {x : Str} {st : Stmt} (G : Callee X.prog X.w X.K X.mg X.base k x st ps F) (hb : BindsAll x st ps) (hr : Room j X.A) (hk : k ≤ j) (tk : L2N.Takes X W)
    (ha : DA X W (e :: es) ga) (hg : Gl X x := by rfl) (hdb : (x == ("__debug__" : Str)) = false := by decide) (he : starEach (e :: es) X.env = (false, eval e X.env) :: starEach es X.env := by rfl) (hpl : (backTo pos (starEach es X.env)).any (·.1) = false := by rfl) :
    DE X W (.Call (.Name x p) (e :: es) [] pos) (dFn ps.length F ga) := by
  obtain ⟨fd, FD, G2⟩ := G.ex
  exact de_call G2 (hr.mono hk) tk G.gl FD.kp (FD.bindsN hb) ha hg hdb he hpl
theorem de_callZC {k j : Nat} {ps : List Str} {F : Op} {x : Str} {st : Stmt} (G : Callee X.prog X.w X.K X.mg X.base k x st ps F) (hb : BindsAll x st ps) (hr : Room j X.A) (hk : k ≤ j) (tk : L2N.Takes X W)
    (ha : DA X W (e :: es) ga) (hg : Gl X x := by rfl) (hdb : (x == ("__debug__" : Str)) = false := by decide) (he : starEach (e :: es) X.env = (false, eval e X.env) :: starEach es X.env := by rfl) (hpl : (backTo pos (starEach es X.env)).any (·.1) = false := by rfl) :
    DE X W (.Call (.Name x p) (e :: es) [] pos) (dFnZ ps.length F ga) := by
  obtain ⟨fd, FD, G2⟩ := G.ex
  exact de_callZ G2 (hr.mono hk) tk G.gl FD.kp (FD.bindsN hb) ha hg hdb he hpl
theorem de_callHC {k j : Nat} {ps : List Str} {F : Op} {x : Str} {st : Stmt} (G : CalleeH X.prog X.w X.K X.mg X.base k x st ps F) (hb : BindsAll x st ps) (hr : L2H.RoomH j X.A) (hk : k ≤ j) (hc : L2H.HotC X) (tk : L2N.Takes X W)
    (ha : DA X W (e :: es) ga) (hg : Gl X x := by rfl) (hdb : (x == ("__debug__" : Str)) = false := by decide) (he : starEach (e :: es) X.env = (false, eval e X.env) :: starEach es X.env := by rfl) (hpl : (backTo pos (starEach es X.env)).any (·.1) = false := by rfl) :
    DE X W (.Call (.Name x p) (e :: es) [] pos) (dFn ps.length F ga) := by
  obtain ⟨fd, FD, G2⟩ := G.ex
  exact de_callH G2 (hr.mono hk) hc tk G.gl FD.kp (FD.bindsN hb) ha hg hdb he hpl
theorem de_callKC {k j : Nat} {ps ks : List Str} {F : Op} {x : Str} {st : Stmt} {kws : List Keyword} (ix : List Nat) (G : Callee X.prog X.w X.K X.mg X.base k x st ps F) (hb : BindsKw x st ps ks ix) (hr : Room j X.A) (hk : k ≤ j) (tk : L2N.Takes X W)
    (ha : DK X W kws ga) (hg : Gl X x := by rfl) (hall : (backToKw pos (keywordEach kws X.env)).all (·.1.isSome) = true := by rfl) (hks : (backToKw pos (keywordEach kws X.env)).filterMap (·.1) = ks := by rfl)
    (hdb : (x == ("__debug__" : Str)) = false := by decide) (hpl : ((backTo pos (starEach [] X.env)).any (·.1) || (backToKw pos (keywordEach kws X.env)).any (·.1.isNone)) = false := by rfl) :
    DE X W (.Call (.Name x p) [] kws pos) (dFnK ps.length ks.length ix F ga) := by
  obtain ⟨fd, FD, G2⟩ := G.ex
  exact de_callK ix G2 (hr.mono hk) tk G.gl FD.kp (kwB_of FD hb) ha hg hall hks hdb hpl
end
end PD
set_option Elab.async false
set_option linter.all false
set_option maxRecDepth 100000
set_option maxHeartbeats 4000000
namespace PD
open PySem PySem.Spec PyProof.Rows L2
/-- the own error class named c -/
structure OwnErr (K : PySem.W.Frag) (mg : Str → Option Value) (c : Str) : Prop where
  gl : mg c = some (.ref (He.ga K c))
  ox : OexC K (He.ga K c)
  is_ : ErrIs K (He.ga K c)
  ini : PySem.W.findIn K (.ref (He.ga K c)) "__init__" = some (some (.ref (He.ma K (He.ga K c) "__init__")))
  tyi : PySem.W.typeIn K (.ref (He.ma K (He.ga K c) "__init__")) = some (.type "function")
section
variable {K : PySem.W.Frag} {mg : Str → Option Value} {c f : Str} {cv : Value} {b : Bool}
theorem OwnErr.at_ (x : OwnErr K mg c) {C : Addr} (h : mg c = some (.ref C)) : C = He.ga K c := by
  have e := h.symm.trans x.gl
  injection e with e
  injection e
theorem errAt (x : OwnErr K mg c) (h : PySem.W.findIn K (.ref (He.ga K c)) f = some none) : ErrAt K mg c f := ⟨fun C hC => by
  rw [x.at_ hC]
  exact ⟨x.is_.xf, h⟩⟩
theorem isTab1 (x : OwnErr K mg c) (h : PySem.W.kitOne K (.ref (He.ga K c)) cv = some b) : IsTab K mg cv [(c, b)] := fun c' b' hl C hC => by
  rw [List.lookup_cons] at hl
  split at hl
  · rename_i e
    have e' : c' = c := eq_of_beq e
    cases hl
    subst e'
    rw [x.at_ hC]
    exact ⟨x.is_, h⟩
  · cases hl
theorem exTab1 (x : OwnErr K mg c) (h : PySem.W.exmOne K (.ref (He.ga K c)) cv = some b) : ExTab K mg cv [(c, b)] := fun c' b' hl C hC => by
  rw [List.lookup_cons] at hl
  split at hl
  · rename_i e
    have e' : c' = c := eq_of_beq e
    cases hl
    subst e'
    rw [x.at_ hC]
    exact h
  · cases hl
theorem tab1 {c' : Str} {b b' : Bool} (h : List.lookup c' [(c, b)] = some b') : c' = c := by
  rw [List.lookup_cons] at h
  split at h
  · rename_i e
    exact eq_of_beq e
  · cases h
end
/-- a comprehension's block, as a Boolean -/
def blkB (N : List Str) (sc scope : Scope) (own : List (Str × Nat)) : Bool := decide (scope.kind = .function) && (scope.names.all (fun y => decide (scope.names.lookup y.1 = some y.2)) && (own.all (fun p => decide (N[p.2]? = some p.1)) &&
  (scope.names.all (fun y => decide (y.2 ≠ .free) || (decide (sc.names.lookup y.1 = some .cell) || decide (sc.names.lookup y.1 = some .free))) && scope.names.all fun y => (decide (y.2 ≠ .local) && decide (y.2 ≠ .cell)) || (decide (y.1 ∈ own.map (·.1)) || decide (y.1 ∉ N)))))
theorem blkB_ok {N : List Str} {sc scope : Scope} {own : List (Str × Nat)} (h : blkB N sc scope own = true) : BlkOk N sc scope own := by
  unfold blkB at h
  simp only [Bool.and_eq_true, List.all_eq_true, decide_eq_true_eq, Bool.or_eq_true] at h
  obtain ⟨h1, h2, h3, h4, h5⟩ := h
  refine ⟨h1, h2, h3, fun y hy e => ?_, fun y hy e => ?_⟩
  · rcases h4 y hy with z | z
    · exact absurd e z
    · exact z
  · rcases h5 y hy with z | z
    · rcases e with e | e
      · exact absurd e z.1
      · exact absurd e z.2
    · exact z
theorem roomH_units {k : Nat} {A : Around} (r : L2H.RoomH k A) : A.units + 64 < cLine := by have := r.un; omega
theorem roomH_suite {k : Nat} {A : Around} {v : Option Value} (r : Room k A) : L2H.RoomH k (A.mark v) := ⟨r.dp, r.un⟩
/-- an own __init__ of two fields -/
def InitC2 (P : Program) (w : World) (K : PySem.W.Frag) (mg : Str → Option Value) (base : Heap) (f : Addr) (ps : List Str) (f1 f2 : Str) : Prop := ∃ fd, FnOk P w K mg base (L2N.CX P w) 1 f fd ps (spInit2 K f1 f2) ∧ L2.Binds K fd ps []
def InitC1 (P : Program) (w : World) (K : PySem.W.Frag) (mg : Str → Option Value) (base : Heap) (f : Addr) (ps : List Str) (f1 : Str) : Prop := ∃ fd, FnOk P w K mg base (L2N.CX P w) 1 f fd ps (spInit1 K f1) ∧ L2.Binds K fd ps []
section
variable {X : Cx} {W : WX} {e b : Expr} {ga : Dens} {pos p p1 : Pos}
theorem raise2C {c f1 f2 : Str} {j : Nat} {ps : List Str} (x : OwnErr X.K X.mg c) (n1 : PySem.W.findIn X.K (.ref (He.ga X.K c)) f1 = some none) (n2 : PySem.W.findIn X.K (.ref (He.ga X.K c)) f2 = some none)
    (i : InitC2 X.prog X.w X.K X.mg X.base (He.ma X.K (He.ga X.K c) "__init__") ps f1 f2) (hr : Room j X.A) (hj : 2 ≤ j) (hc : X.calm = true) (tk : L2N.Takes X W) (ha : DA X W [e, b] ga) (hg : Gl X c := by rfl) (hdb : (c == ("__debug__" : Str)) = false := by decide)
    (he : starEach [e, b] X.env = (false, eval e X.env) :: starEach [b] X.env := by rfl) (hpl : (backTo p1 (starEach [b] X.env)).any (·.1) = false := by rfl) : DS X W (.Raise (some (.Call (.Name c p) [e, b] [] p1)) none pos) (sRaise c [f2, f1] [1, 0] ga) := by
  obtain ⟨fd, F, hb⟩ := i
  exact ds_raise2 x.ox x.ini x.tyi n1 n2 F (hr.mono hj) hb hc tk x.gl ha hg hdb he hpl
theorem raise1C {c f1 : Str} {j : Nat} {ps : List Str} (x : OwnErr X.K X.mg c) (n1 : PySem.W.findIn X.K (.ref (He.ga X.K c)) f1 = some none)
    (i : InitC1 X.prog X.w X.K X.mg X.base (He.ma X.K (He.ga X.K c) "__init__") ps f1) (hr : Room j X.A) (hj : 2 ≤ j) (hc : X.calm = true) (tk : L2N.Takes X W) (ha : DA X W [e] ga) (hg : Gl X c := by rfl) (hdb : (c == ("__debug__" : Str)) = false := by decide)
    (he : starEach [e] X.env = (false, eval e X.env) :: starEach [] X.env := by rfl) : DS X W (.Raise (some (.Call (.Name c p) [e] [] p1)) none pos) (sRaise c [f1] [0] ga) := by
  obtain ⟨fd, F, hb⟩ := i
  exact ds_raise1 x.ox x.ini x.tyi n1 F (hr.mono hj) hb hc tk x.gl ha hg hdb he
end
theorem SaysE.err_at {fa : List He.Fa} {fn : List He.DefD} {fe : List Fe} {K : PySem.W.Frag} (c : SaysE fa fn fe K) (i : Nat) {f : Fe} (h : fe[i]? = some f := by rfl) : f.ok K = true := c.err (List.mem_of_getElem? h)
theorem ownErr_ok {K : PySem.W.Frag} {mg : Str → Option Value} {c : Str} (g : mg c = some (.ref (He.ga K c))) (h : (Fe.oex c).ok K = true) : OwnErr K mg c := by
  obtain ⟨h1, h⟩ := and2 (show (oexB K (He.ga K c) && (erisB K (He.ga K c) && (He.eqO (PySem.W.findIn K (.ref (He.ga K c)) "__init__") (some (some (.ref (He.ma K (He.ga K c) "__init__")))) && decide (PySem.W.typeIn K (.ref (He.ma K (He.ga K c) "__init__")) = some (.type "function"))))) = true from h)
  obtain ⟨h2, h⟩ := and2 h
  obtain ⟨h3, h4⟩ := and2 h
  exact ⟨g, oexB_ok h1, erisB_ok h2, He.eqO_ok h3, of_decide_eq_true h4⟩
theorem funD_fd {K : PySem.W.Frag} {x q x' q' : Str} {pa pa' : Arguments} {b b' : List Stmt} {sc sc' : Scope} {d d' : List V} {k k' : List (Str × V)} {f : Addr} {fd fd' : FuncData} (a : FunD K x q pa b sc d k f fd) (c : FunD K x' q' pa' b' sc' d' k' f fd') : fd = fd' := by
  obtain ⟨_, _, _, _, _, _, _, _, _, _, _, l1, _⟩ := a.ex
  obtain ⟨_, _, _, _, _, _, _, _, _, _, _, l2, _⟩ := c.ex
  rw [l1] at l2
  injection l2 with e
  injection e with _ _ e
  injection e
end PD
set_option Elab.async false
set_option linter.all false
set_option maxRecDepth 100000
set_option maxHeartbeats 4000000
namespace PD
open PySem PySem.Spec PyProof.Rows L2
/-! ### denotations, evaluated -/
mutual
/-- no list in it may change -/
def closed : D → Bool
  | .tup xs => closeds xs
  | .lst xs => closeds xs
  | .err _ _ xs => closeds xs
  | .non => true
  | .bl _ => true
  | .int _ => true
  | .str _ => true
  | .scr _ => true
  | .ref _ => false
  | .cau .. => false
def closeds : List D → Bool
  | [] => true
  | x :: xs => closed x && closeds xs
end
mutual
theorem map_closed {g : Nat → Option D} : ∀ {d : D}, closed d = true → mapRef g d = some d
  | .tup xs, h => by simp only [closed] at h; simp [mapRef, maps_closed h]
  | .lst xs, h => by simp only [closed] at h; simp [mapRef, maps_closed h]
  | .err c ns xs, h => by simp only [closed] at h; simp [mapRef, maps_closed h]
  | .non, h => by simp [mapRef]
  | .bl _, h => by simp [mapRef]
  | .int _, h => by simp [mapRef]
  | .str _, h => by simp [mapRef]
  | .scr _, h => by simp [mapRef]
  | .ref _, h => by simp [closed] at h
  | .cau .., h => by simp [closed] at h
theorem maps_closed {g : Nat → Option D} : ∀ {ds : List D}, closeds ds = true → mapRefs g ds = some ds
  | [], _ => by simp [mapRefs]
  | x :: xs, h => by
    simp only [closeds, Bool.and_eq_true] at h
    simp [mapRefs, map_closed h.1, maps_closed h.2]
end
theorem closeds_all {xs : List D} : closeds xs = xs.all closed := by
  induction xs with
  | nil => simp [closeds]
  | cons x xs ih => simp [closeds, ih]
@[simp] theorem closeds_map_int (ns : List Int) : closeds (ns.map D.int) = true := by simp [closeds_all, closed]
theorem fz_closed {S : Store} {n : Nat} {d : D} (h : closed d = true) : fz S n d = some d := map_closed h
theorem fzs_closed {S : Store} {n : Nat} {d : List D} (h : closeds d = true) : fzs S n d = some d := maps_closed h
/-- O is what the def with these names and this body does; the kernel can't unfold O -/
class Is (O : Op) (N : outParam (List Str)) (g : outParam SDen) : Prop where
  eq : O = fnOf N g
/-- a def that returns a closed value -/
theorem fn_rt {O : Op} {N : List Str} {g : SDen} [i : Is O N g] {ds : List D} {S S1 : Store} {d : D} (h : g (startD N ds) S = some (.rt d S1)) (hs : S1.take S.length = S) (hc : closed d = true) : O ds S = some (.ok d S) := by
  rw [i.eq]
  unfold fnOf
  rw [h]
  simp [fin, hs, fz_closed hc]
theorem fn_rtS {O : Op} {N : List Str} {g : SDen} [i : Is O N g] {ds : List D} {S : Store} {d : D} (h : g (startD N ds) S = some (.rt d S)) (hc : closed d = true) : O ds S = some (.ok d S) := fn_rt h (by simp) hc
theorem fn_nx {O : Op} {N : List Str} {g : SDen} [i : Is O N g] {ds : List D} {S : Store} {ρ : EnvD} (h : g (startD N ds) S = some (.nx ρ S)) : O ds S = some (.ok .non S) := by
  rw [i.eq]
  unfold fnOf
  rw [h]
  simp [fin]
theorem fn_exc {O : Op} {N : List Str} {g : SDen} [i : Is O N g] {ds : List D} {S : Store} {ρ : EnvD} {c : Str} {ns : List Str} {xs : List D} (h : g (startD N ds) S = some (.exc c ns xs ρ S)) (hc : closeds xs = true) : O ds S = some (.exc c ns xs S) := by
  rw [i.eq]
  unfold fnOf
  rw [h]
  simp [fin, fzs_closed hc]
section
variable {ρ : EnvD} {S : Store}
@[simp] theorem e_seq (g h : SDen) : sSeq g h ρ S = match g ρ S with
    | some (.nx ρ1 S1) => h ρ1 S1
    | r => r := rfl
@[simp] theorem e_nil : sNil ρ S = some (.nx ρ S) := rfl
@[simp] theorem e_ret (f : Den) : sRet f ρ S = bndS (f ρ S) ρ fun d S1 => some (.rt d S1) := rfl
@[simp] theorem e_expr (f : Den) : sExpr f ρ S = bndS (f ρ S) ρ fun _ S1 => some (.nx ρ S1) := rfl
@[simp] theorem e_set (k : Nat) (f : Den) : sSet k f ρ S = bndS (f ρ S) ρ fun d S1 => some (.nx (ρ.set k (some d)) S1) := rfl
@[simp] theorem e_break : sBreak ρ S = some (.bk ρ S) := rfl
@[simp] theorem e_cont : sCont ρ S = some (.ct ρ S) := rfl
@[simp] theorem e_C (d : D) : dC d ρ S = some (.ok d S) := rfl
@[simp] theorem e_nilA : dNil ρ S = some (.ok [] S) := rfl
@[simp] theorem e_consA (f : Den) (g : Dens) : dCons f g ρ S = bnds (f ρ S) fun d S1 => bndls (g ρ S1) fun ds S2 => some (.ok (d :: ds) S2) := rfl
@[simp] theorem e_fn (n : Nat) (F : Op) (g : Dens) : dFn n F g ρ S = bndl (g ρ S) fun ds S1 => if ds.length = n then F ds S1 else none := rfl
@[simp] theorem e_call (F : Op) (g : Dens) : dCall F g ρ S = bndl (g ρ S) F := rfl
@[simp] theorem e_bin (o : Op2) (f g : Den) : dBin o f g ρ S = bnd (f ρ S) fun x S1 => bnd (g ρ S1) fun y S2 => o x y S2 := rfl
@[simp] theorem e_tup (g : Dens) : dTup g ρ S = bndl (g ρ S) fun ds S1 => if fits ds.length then some (.ok (.tup ds) S1) else none := rfl
@[simp] theorem e_lst (g : Dens) : dLst g ρ S = bndl (g ρ S) fun ds S1 => if fits ds.length then some (.ok (.lst ds) S1) else none := rfl
@[simp] theorem e_lstM (g : Dens) : dLstM g ρ S = bndl (g ρ S) fun ds S1 => if fits ds.length then some (.ok (.ref S1.length) (S1 ++ [ds])) else none := rfl
@[simp] theorem e_and (f g : Den) : dAnd f g ρ S = bndB (f ρ S) fun b S1 => if b then g ρ S1 else some (.ok (.bl false) S1) := rfl
@[simp] theorem e_or (f g : Den) : dOr f g ρ S = bndB (f ρ S) fun b S1 => if b then some (.ok (.bl true) S1) else g ρ S1 := rfl
@[simp] theorem e_not (f : Den) : dNot f ρ S = bndB (f ρ S) fun b S1 => some (.ok (.bl (!b)) S1) := rfl
@[simp] theorem e_tru (f : Den) : dTru f ρ S = bnd (f ρ S) fun d S1 => (truth S1 d).map fun k => .ok (.bl k) S1 := rfl
@[simp] theorem e_isi (T : String) (f : Den) : dIsi T f ρ S = bnd (f ρ S) fun d S1 => (tyName d).map fun t => .ok (.bl (isTy t T)) S1 := rfl
@[simp] theorem e_ifx (t f g : Den) : dIf t f g ρ S = bndB (t ρ S) fun b S1 => if b then f ρ S1 else g ρ S1 := rfl
@[simp] theorem bndB_ok (b : Bool) (S1 : Store) (k : Bool → Store → Option Res) : bndB (some (.ok (.bl b) S1)) k = k b S1 := rfl
@[simp] theorem e_var (i : Nat) : dVar i ρ S = match ρ[i]? with
    | some (some d) => some (.ok d S)
    | _ => none := rfl
@[simp] theorem e_if (t : Den) (g h : SDen) : sIf t g h ρ S = match t ρ S with
    | some (.ok (.bl b) S1) => if b then g ρ S1 else h ρ S1
    | some (.exc c ns xs S1) => some (.exc c ns xs ρ S1)
    | _ => none := rfl
@[simp] theorem e_sub (f g : Int → Int → Option D) (i j : Int) : oInt2 g (.int i) (.int j) S = (g i j).map fun d => .ok d S := rfl
@[simp] theorem eqD_int (i j : Int) : eqD S (.int i) (.int j) = some (i == j) := by simp [eqD, toPy, pyr, SeqAt.shaped, PyData.eqv, PyData.canLay0, PyData.depth]
@[simp] theorem eqD_bl (i j : Bool) : eqD S (.bl i) (.bl j) = some (i == j) := by simp [eqD, toPy, pyr, SeqAt.shaped, PyData.eqv, PyData.canLay0, PyData.depth]
theorem eqD_str {i j : Str} (hi : PyData.strOk i = true) (hj : PyData.strOk j = true) : eqD S (.str i) (.str j) = some (i == j) := by simp [eqD, toPy, pyr, SeqAt.shaped, PyData.eqv, PyData.canLay0, PyData.depth, hi, hj]
@[simp] theorem oEq_of {a b : D} {k : Bool} (h : eqD S a b = some k) : oEq a b S = some (.ok (.bl k) S) := by simp [oEq, h]
@[simp] theorem oNe_of {a b : D} {k : Bool} (h : eqD S a b = some k) : oNe a b S = some (.ok (.bl (!k)) S) := by simp [oNe, h]
end
/-- a plain whole number -/
def whole : D → Bool
  | .int _ => true
  | _ => false
/-- of a kind that isinstance tells -/
def told (d : D) : Bool := (tyName d).isSome
end PD
set_option Elab.async false
set_option linter.all false
set_option maxRecDepth 100000
set_option maxHeartbeats 4000000
namespace PD
open PySem PySem.Spec PyProof.Rows L2
/-! ### loops -/
section
variable {ρ : EnvD} {S : Store} {t : TDen} {g : SDen} {all : List D}
@[simp] theorem loop_nil (w : Option Nat) : forLoop w all t g [] ρ S = some (.nx ρ S) := rfl
theorem loop_cons (x : D) (xs : List D) : forLoop none all t g (x :: xs) ρ S = match t x ρ S with
    | none => none
    | some ρ1 => match g ρ1 S with
      | some (.nx ρ2 S2) => forLoop none all t g xs ρ2 S2
      | some (.ct ρ2 S2) => forLoop none all t g xs ρ2 S2
      | some (.bk ρ2 S2) => some (.nx ρ2 S2)
      | r => r := by
  simp only [forLoop, ckOf_none]
  cases t x ρ S with
  | none => rfl
  | some ρ1 =>
    simp only
    cases g ρ1 S with
    | none => rfl
    | some r => cases r <;> simp
theorem for_of {f : Iens} {items : List D} {w : Option Nat} {S1 : Store} (h : f ρ S = some (.ok items w S1)) : sFor f t g ρ S = forLoop w items t g items ρ S1 := by
  unfold sFor
  rw [h]
@[simp] theorem e_tName (k : Nat) (d : D) : tName k d ρ S = some (ρ.set k (some d)) := rfl
@[simp] theorem e_range1 (f : Den) : dRange1 f ρ S = bndi (f ρ S) fun d S1 => match d with
  | .int j => if -(2 ^ 62) ≤ j ∧ j < 2 ^ 62 then some (.ok (rgD 0 j.toNat) none S1) else none
  | _ => none := rfl
@[simp] theorem e_items (f : Den) : dItems f ρ S = bndi (f ρ S) fun d S1 => (asWalk S1 d).map fun q => .ok q.1 q.2 S1 := rfl
@[simp] theorem e_par (k l : Nat) (g : Dens) : sPar k l g ρ S = match g ρ S with
  | some (.ok [d, d2] S1) => some (.nx ((ρ.set k (some d)).set l (some d2)) S1)
  | some (.ok _ _) => none
  | some (.exc c ns xs S1) => some (.exc c ns xs ρ S1)
  | none => none := rfl
end
@[simp] theorem e_int1 (i : Int) (S : Store) : oInt1 [.int i] S = some (.ok (.int i) S) := rfl
@[simp] theorem e_gcd (i j : Int) (S : Store) : oGcd [.int i, .int j] S = some (.ok (.int ((Nat.gcd i.natAbs j.natAbs : Nat) : Int)) S) := rfl
/-! ### Euclid -/
def euc : Nat → Int → Int → Int
  | 0, a, _ => a
  | n + 1, a, b => if b = 0 then a else euc n b (a % b)
theorem euc_zero : ∀ (n : Nat) (a : Int), euc n a 0 = a
  | 0, _ => rfl
  | _ + 1, _ => by simp [euc]
theorem half {a b : Int} (ha : 0 < a) (hb : 0 < b) (h : b < a) : 2 * (a % b) < a := by
  have h1 := Int.emod_add_mul_ediv a b
  have h2 := Int.emod_lt_of_pos a hb
  have h3 := Int.emod_nonneg a (by omega : b ≠ 0)
  have h4 : 1 ≤ a / b := Int.le_ediv_of_mul_le hb (by omega)
  have h5 : b * 1 ≤ b * (a / b) := Int.mul_le_mul_of_nonneg_left h4 (by omega)
  omega
theorem gcd_step (a b : Int) : Int.gcd b (a % b) = Int.gcd a b := by
  rw [Int.emod_def, Int.gcd_sub_mul_left_right, Int.gcd_comm]
theorem euc_gcd : ∀ (k n : Nat) (a b : Int), 0 ≤ b → b < 2 ^ k → 2 * k ≤ n → euc n a b = if b = 0 then a else (Int.gcd a b : Int)
  | 0, n, a, b, h0, h1, _ => by
    have : b = 0 := by have : (2 : Int) ^ 0 = 1 := rfl; omega
    subst this
    simp [euc_zero]
  | k + 1, n, a, b, h0, h1, hn => by
    by_cases hb : b = 0
    · subst hb; simp [euc_zero]
    · match n, hn with
      | n + 2, hn =>
        have hp : 0 < b := by omega
        simp only [euc, hb, if_false]
        by_cases hc : a % b = 0
        · simp only [hc, if_true]
          have : b ∣ a := Int.dvd_of_emod_eq_zero hc
          rw [Int.gcd_eq_right_iff_dvd (by omega) |>.mpr this]
        · simp only [hc, if_false]
          have h3 := Int.emod_nonneg a hb
          have h4 := Int.emod_lt_of_pos a hp
          have h5 : 0 < a % b := by omega
          have h6 := half hp h5 h4
          have h7 : (2 : Int) ^ (k + 1) = 2 * 2 ^ k := by rw [Int.pow_succ]; omega
          have h8 := Int.emod_nonneg b hc
          rw [euc_gcd k n (a % b) (b % (a % b)) h8 (by omega) (by omega)]
          have e1 := gcd_step a b
          have e2 := gcd_step b (a % b)
          split
          · rename_i hz
            have : a % b ∣ b := Int.dvd_of_emod_eq_zero hz
            rw [← e1, Int.gcd_eq_right_iff_dvd (by omega) |>.mpr this]
          · rw [e2, e1]
end PD
set_option Elab.async false
set_option linter.all false
set_option maxRecDepth 100000
set_option maxHeartbeats 4000000
namespace PD
open PySem PySem.Spec PyProof.Rows L2
/-! ### comprehensions -/
section
variable {ρ : EnvD} {S : Store} {own : List Nat} {t : Tg} {cnd elt : Den} {f : Iens} {items : List D}
theorem set_last (S : Store) (a b : List D) : (S ++ [a]).set S.length b = S ++ [b] := by simp
theorem get_last (S : Store) (a : List D) : (S ++ [a])[S.length]? = some a := by simp
theorem lc_loop (all : List D) (h : D → D) (p : D → Bool) (ρ' : D → EnvD) : ∀ (xs : List D) (acc : List D), (∀ x ∈ xs, t.go x (wipeD ρ own) = some (ρ' x)) → (∀ x ∈ xs, ∀ T, cnd (ρ' x) T = some (.ok (.bl (p x)) T)) → (∀ x ∈ xs, p x = true → ∀ T, elt (ρ' x) T = some (.ok (h x) T)) →
    acc.length + xs.length ≤ 16777216 → lcLoop own t cnd elt ρ S.length none all xs (S ++ [acc]) = some (S ++ [acc ++ (xs.filter p).map h])
  | [], acc, _, _, _, _ => by simp [lcLoop]
  | x :: xs, acc, ht, hc, he, hl => by
    have ih := fun a => lc_loop all h p ρ' xs a (fun y hy => ht y (List.mem_cons_of_mem _ hy)) (fun y hy => hc y (List.mem_cons_of_mem _ hy)) (fun y hy => he y (List.mem_cons_of_mem _ hy))
    simp only [List.length_cons] at hl
    simp only [lcLoop, ht x List.mem_cons_self, hc x List.mem_cons_self]
    cases hp : p x with
    | false =>
      simp only [Bool.false_eq_true, if_false, ckOf_none, if_true]
      rw [ih acc (by omega)]
      simp [hp]
    | true =>
      simp only [if_true, he x List.mem_cons_self hp, get_last, ckOf_none, set_last, and_true]
      rw [if_pos (by omega), ih (acc ++ [h x]) (by simp; omega)]
      simp [hp]
theorem lc_filter (h : D → D) (p : D → Bool) (ρ' : D → EnvD) (hf : f ρ S = some (.ok items none S)) (ht : ∀ x ∈ items, t.go x (wipeD ρ own) = some (ρ' x)) (hc : ∀ x ∈ items, ∀ T, cnd (ρ' x) T = some (.ok (.bl (p x)) T)) (he : ∀ x ∈ items, p x = true → ∀ T, elt (ρ' x) T = some (.ok (h x) T))
    (hl : items.length ≤ 16777216) (cl : closeds ((items.filter p).map h) = true) : dLc own f t cnd elt ρ S = some (.ok (.lst ((items.filter p).map h)) S) := by
  have e := lc_loop (S := S) items h p ρ' items [] ht hc he (by simpa using hl)
  unfold dLc
  rw [hf]
  simp only [e, List.nil_append, get_last, List.take_left', fzs_closed cl]
  simp
theorem lc_map (h : D → D) (ρ' : D → EnvD) (hf : f ρ S = some (.ok items none S)) (ht : ∀ x ∈ items, t.go x (wipeD ρ own) = some (ρ' x)) (he : ∀ x ∈ items, ∀ T, elt (ρ' x) T = some (.ok (h x) T))
    (hl : items.length ≤ 16777216) (cl : closeds (items.map h) = true) : dLc own f t dYes elt ρ S = some (.ok (.lst (items.map h)) S) := by
  have k : items.filter (fun _ => true) = items := List.filter_eq_self.mpr fun _ _ => rfl
  have e := lc_filter (cnd := dYes) h (fun _ => true) ρ' hf ht (fun x hx T => rfl) (fun x hx _ => he x hx) hl (by rw [k]; exact cl)
  rwa [k] at e
end
theorem bools_map {α : Type} (p : α → Bool) : ∀ xs : List α, bools (xs.map fun x => D.bl (p x)) = some (xs.map p)
  | [] => rfl
  | x :: xs => by simp [bools, bools_map p xs]
@[simp] theorem e_all {α : Type} (p : α → Bool) (xs : List α) (S : Store) : oAll [.lst (xs.map fun x => D.bl (p x))] S = some (.ok (.bl (xs.all p)) S) := by
  simp [oAll, asList, bools_map, List.all_map]
theorem ints_mapA {α : Type} (p : α → Int) : ∀ xs : List α, intsD (xs.map fun x => D.int (p x)) = some (xs.map p)
  | [] => rfl
  | x :: xs => by simp [intsD, ints_mapA p xs]
end PD
set_option Elab.async false
set_option linter.all false
set_option maxRecDepth 100000
set_option maxHeartbeats 4000000
namespace My
open PySem PySem.Spec PyProof.Rows L2 PD
/-! printed by denprint.py -/
def top (i : Nat) : Stmt := PySem.Challenge.pw_stayorgo_k01_whole_quotients_and_loads.main.body.getD i (.Pass ⟨0, 0, 0, 0⟩)
def inCls : Stmt → List Stmt
  | .ClassDef (body := b) .. => b
  | _ => []
def meth (i j : Nat) : Stmt := (inCls (top i)).getD j (.Pass ⟨0, 0, 0, 0⟩)
structure Facts (K : PySem.W.Frag) (mg : Str → Option Value) : Prop where
  g__law_draws : mg "_law_draws" = some (.ref (He.ga K "_law_draws"))
  F__law_draws : ∃ fd, FunD K "_law_draws" "_law_draws" (defArgs (top 50)) (defBody (top 50)) (defScope (top 50)) [] [] (He.ga K "_law_draws") fd
  g__law_common : mg "_law_common" = some (.ref (He.ga K "_law_common"))
  F__law_common : ∃ fd, FunD K "_law_common" "_law_common" (defArgs (top 52)) (defBody (top 52)) (defScope (top 52)) [] [] (He.ga K "_law_common") fd
  g__law_whole : mg "_law_whole" = some (.ref (He.ga K "_law_whole"))
  F__law_whole : ∃ fd, FunD K "_law_whole" "_law_whole" (defArgs (top 51)) (defBody (top 51)) (defScope (top 51)) [] [] (He.ga K "_law_whole") fd
  g__law_equal : mg "_law_equal" = some (.ref (He.ga K "_law_equal"))
  F__law_equal : ∃ fd, FunD K "_law_equal" "_law_equal" (defArgs (top 57)) (defBody (top 57)) (defScope (top 57)) [] [] (He.ga K "_law_equal") fd
  g__law_load : mg "_law_load" = some (.ref (He.ga K "_law_load"))
  F__law_load : ∃ fd, FunD K "_law_load" "_law_load" (defArgs (top 63)) (defBody (top 63)) (defScope (top 63)) [] [] (He.ga K "_law_load") fd
  g__law_lowest : mg "_law_lowest" = some (.ref (He.ga K "_law_lowest"))
  F__law_lowest : ∃ fd, FunD K "_law_lowest" "_law_lowest" (defArgs (top 53)) (defBody (top 53)) (defScope (top 53)) [] [] (He.ga K "_law_lowest") fd
  g__law_numbers : mg "_law_numbers" = some (.ref (He.ga K "_law_numbers"))
  F__law_numbers : ∃ fd, FunD K "_law_numbers" "_law_numbers" (defArgs (top 54)) (defBody (top 54)) (defScope (top 54)) [] [] (He.ga K "_law_numbers") fd
  g__law_entries : mg "_law_entries" = some (.ref (He.ga K "_law_entries"))
  F__law_entries : ∃ fd, FunD K "_law_entries" "_law_entries" (defArgs (top 58)) (defBody (top 58)) (defScope (top 58)) [] [] (He.ga K "_law_entries") fd
  g_leveled : mg "leveled" = some (.ref (He.ga K "leveled"))
  F_leveled : ∃ fd, FunD K "leveled" "leveled" (defArgs (top 32)) (defBody (top 32)) (defScope (top 32)) [] [] (He.ga K "leveled") fd
  g_common_divisor : mg "common_divisor" = some (.ref (He.ga K "common_divisor"))
  F_common_divisor : ∃ fd, FunD K "common_divisor" "common_divisor" (defArgs (top 2)) (defBody (top 2)) (defScope (top 2)) [] [] (He.ga K "common_divisor") fd
  g_load_from : mg "load_from" = some (.ref (He.ga K "load_from"))
  F_load_from : ∃ fd, FunD K "load_from" "load_from" (defArgs (top 31)) (defBody (top 31)) (defScope (top 31)) [] [] (He.ga K "load_from") fd
  g_is_integer : mg "is_integer" = some (.ref (He.ga K "is_integer"))
  F_is_integer : ∃ fd, FunD K "is_integer" "is_integer" (defArgs (top 3)) (defBody (top 3)) (defScope (top 3)) [] [] (He.ga K "is_integer") fd
  g_is_number : mg "is_number" = some (.ref (He.ga K "is_number"))
  F_is_number : ∃ fd, FunD K "is_number" "is_number" (defArgs (top 4)) (defBody (top 4)) (defScope (top 4)) [] [] (He.ga K "is_number") fd
  g_are_numbers : mg "are_numbers" = some (.ref (He.ga K "are_numbers"))
  F_are_numbers : ∃ fd, FunD K "are_numbers" "are_numbers" (defArgs (top 8)) (defBody (top 8)) (defScope (top 8)) [] [] (He.ga K "are_numbers") fd
  g_is_bottom : mg "is_bottom" = some (.ref (He.ga K "is_bottom"))
  F_is_bottom : ∃ fd, FunD K "is_bottom" "is_bottom" (defArgs (top 6)) (defBody (top 6)) (defScope (top 6)) [] [] (He.ga K "is_bottom") fd
  g_is_pair : mg "is_pair" = some (.ref (He.ga K "is_pair"))
  F_is_pair : ∃ fd, FunD K "is_pair" "is_pair" (defArgs (top 7)) (defBody (top 7)) (defScope (top 7)) [] [] (He.ga K "is_pair") fd
  g_is_load : mg "is_load" = some (.ref (He.ga K "is_load"))
  F_is_load : ∃ fd, FunD K "is_load" "is_load" (defArgs (top 11)) (defBody (top 11)) (defScope (top 11)) [] [] (He.ga K "is_load") fd
  g_require : mg "require" = some (.ref (He.ga K "require"))
  F_require : ∃ fd, FunD K "require" "require" (defArgs (top 18)) (defBody (top 18)) (defScope (top 18)) [] [] (He.ga K "require") fd
  g_require_alike : mg "require_alike" = some (.ref (He.ga K "require_alike"))
  F_require_alike : ∃ fd, FunD K "require_alike" "require_alike" (defArgs (top 19)) (defBody (top 19)) (defScope (top 19)) [] [] (He.ga K "require_alike") fd
  g_added : mg "added" = some (.ref (He.ga K "added"))
  F_added : ∃ fd, FunD K "added" "added" (defArgs (top 39)) (defBody (top 39)) (defScope (top 39)) [] [] (He.ga K "added") fd
  g_is_below : mg "is_below" = some (.ref (He.ga K "is_below"))
  F_is_below : ∃ fd, FunD K "is_below" "is_below" (defArgs (top 5)) (defBody (top 5)) (defScope (top 5)) [] [] (He.ga K "is_below") fd
  g_reduced : mg "reduced" = some (.ref (He.ga K "reduced"))
  F_reduced : ∃ fd, FunD K "reduced" "reduced" (defArgs (top 21)) (defBody (top 21)) (defScope (top 21)) [] [] (He.ga K "reduced") fd
  g_entry_of : mg "entry_of" = some (.ref (He.ga K "entry_of"))
  F_entry_of : ∃ fd, FunD K "entry_of" "entry_of" (defArgs (top 35)) (defBody (top 35)) (defScope (top 35)) [] [] (He.ga K "entry_of") fd
  g_places_above : mg "places_above" = some (.ref (He.ga K "places_above"))
  F_places_above : ∃ fd, FunD K "places_above" "places_above" (defArgs (top 44)) (defBody (top 44)) (defScope (top 44)) [] [] (He.ga K "places_above") fd
  g_first_above : mg "first_above" = some (.ref (He.ga K "first_above"))
  F_first_above : ∃ fd, FunD K "first_above" "first_above" (defArgs (top 48)) (defBody (top 48)) (defScope (top 48)) [] [] (He.ga K "first_above") fd
  g_greater_of : mg "greater_of" = some (.ref (He.ga K "greater_of"))
  F_greater_of : ∃ fd, FunD K "greater_of" "greater_of" (defArgs (top 47)) (defBody (top 47)) (defScope (top 47)) [] [] (He.ga K "greater_of") fd
  g_is_quotient : mg "is_quotient" = some (.ref (He.ga K "is_quotient"))
  F_is_quotient : ∃ fd, FunD K "is_quotient" "is_quotient" (defArgs (top 9)) (defBody (top 9)) (defScope (top 9)) [] [] (He.ga K "is_quotient") fd
  g_require_quotients : mg "require_quotients" = some (.ref (He.ga K "require_quotients"))
  F_require_quotients : ∃ fd, FunD K "require_quotients" "require_quotients" (defArgs (top 22)) (defBody (top 22)) (defScope (top 22)) [] [] (He.ga K "require_quotients") fd
  g_is_less : mg "is_less" = some (.ref (He.ga K "is_less"))
  F_is_less : ∃ fd, FunD K "is_less" "is_less" (defArgs (top 28)) (defBody (top 28)) (defScope (top 28)) [] [] (He.ga K "is_less") fd
  g_is_within : mg "is_within" = some (.ref (He.ga K "is_within"))
  F_is_within : ∃ fd, FunD K "is_within" "is_within" (defArgs (top 45)) (defBody (top 45)) (defScope (top 45)) [] [] (He.ga K "is_within") fd
  g_lesser_of : mg "lesser_of" = some (.ref (He.ga K "lesser_of"))
  F_lesser_of : ∃ fd, FunD K "lesser_of" "lesser_of" (defArgs (top 46)) (defBody (top 46)) (defScope (top 46)) [] [] (He.ga K "lesser_of") fd
  g_is_amount : mg "is_amount" = some (.ref (He.ga K "is_amount"))
  F_is_amount : ∃ fd, FunD K "is_amount" "is_amount" (defArgs (top 10)) (defBody (top 10)) (defScope (top 10)) [] [] (He.ga K "is_amount") fd
  g_are_amounts : mg "are_amounts" = some (.ref (He.ga K "are_amounts"))
  F_are_amounts : ∃ fd, FunD K "are_amounts" "are_amounts" (defArgs (top 33)) (defBody (top 33)) (defScope (top 33)) [] [] (He.ga K "are_amounts") fd
  g_common_multiple : mg "common_multiple" = some (.ref (He.ga K "common_multiple"))
  F_common_multiple : ∃ fd, FunD K "common_multiple" "common_multiple" (defArgs (top 30)) (defBody (top 30)) (defScope (top 30)) [] [] (He.ga K "common_multiple") fd
  g_load_of : mg "load_of" = some (.ref (He.ga K "load_of"))
  F_load_of : ∃ fd, FunD K "load_of" "load_of" (defArgs (top 34)) (defBody (top 34)) (defScope (top 34)) [] [] (He.ga K "load_of") fd
  g_minus : mg "minus" = some (.ref (He.ga K "minus"))
  F_minus : ∃ fd, FunD K "minus" "minus" (defArgs (top 25)) (defBody (top 25)) (defScope (top 25)) [] [] (He.ga K "minus") fd
  g_over : mg "over" = some (.ref (He.ga K "over"))
  F_over : ∃ fd, FunD K "over" "over" (defArgs (top 27)) (defBody (top 27)) (defScope (top 27)) [] [] (He.ga K "over") fd
  g_plus : mg "plus" = some (.ref (He.ga K "plus"))
  F_plus : ∃ fd, FunD K "plus" "plus" (defArgs (top 24)) (defBody (top 24)) (defScope (top 24)) [] [] (He.ga K "plus") fd
  g_product_of : mg "product_of" = some (.ref (He.ga K "product_of"))
  F_product_of : ∃ fd, FunD K "product_of" "product_of" (defArgs (top 42)) (defBody (top 42)) (defScope (top 42)) [] [] (He.ga K "product_of") fd
  g_quotient_of : mg "quotient_of" = some (.ref (He.ga K "quotient_of"))
  F_quotient_of : ∃ fd, FunD K "quotient_of" "quotient_of" (defArgs (top 23)) (defBody (top 23)) (defScope (top 23)) [] [] (He.ga K "quotient_of") fd
  g_scaled : mg "scaled" = some (.ref (He.ga K "scaled"))
  F_scaled : ∃ fd, FunD K "scaled" "scaled" (defArgs (top 41)) (defBody (top 41)) (defScope (top 41)) [] [] (He.ga K "scaled") fd
  g_taken : mg "taken" = some (.ref (He.ga K "taken"))
  F_taken : ∃ fd, FunD K "taken" "taken" (defArgs (top 40)) (defBody (top 40)) (defScope (top 40)) [] [] (He.ga K "taken") fd
  g_times : mg "times" = some (.ref (He.ga K "times"))
  F_times : ∃ fd, FunD K "times" "times" (defArgs (top 26)) (defBody (top 26)) (defScope (top 26)) [] [] (He.ga K "times") fd
  g_unit_load : mg "unit_load" = some (.ref (He.ga K "unit_load"))
  F_unit_load : ∃ fd, FunD K "unit_load" "unit_load" (defArgs (top 38)) (defBody (top 38)) (defScope (top 38)) [] [] (He.ga K "unit_load") fd
  g__law_call : mg "_law_call" = some (.ref (He.ga K "_law_call"))
  F__law_call : ∃ fd, FunD K "_law_call" "_law_call" (defArgs (top 60)) (defBody (top 60)) (defScope (top 60)) [] [] (He.ga K "_law_call") fd
  g__law_refused : mg "_law_refused" = some (.ref (He.ga K "_law_refused"))
  F__law_refused : ∃ fd, FunD K "_law_refused" "_law_refused" (defArgs (top 61)) (defBody (top 61)) (defScope (top 61)) [] [] (He.ga K "_law_refused") fd
  g__law_loads : mg "_law_loads" = some (.ref (He.ga K "_law_loads"))
  F__law_loads : ∃ fd, FunD K "_law_loads" "_law_loads" (defArgs (top 65)) (defBody (top 65)) (defScope (top 65)) [] [] (He.ga K "_law_loads") fd
  g__law_no_loads : mg "_law_no_loads" = some (.ref (He.ga K "_law_no_loads"))
  F__law_no_loads : ∃ fd, FunD K "_law_no_loads" "_law_no_loads" (defArgs (top 67)) (defBody (top 67)) (defScope (top 67)) [] [] (He.ga K "_law_no_loads") fd
  g__law_no_quotients : mg "_law_no_quotients" = some (.ref (He.ga K "_law_no_quotients"))
  F__law_no_quotients : ∃ fd, FunD K "_law_no_quotients" "_law_no_quotients" (defArgs (top 62)) (defBody (top 62)) (defScope (top 62)) [] [] (He.ga K "_law_no_quotients") fd
  g__law_pair : mg "_law_pair" = some (.ref (He.ga K "_law_pair"))
  F__law_pair : ∃ fd, FunD K "_law_pair" "_law_pair" (defArgs (top 59)) (defBody (top 59)) (defScope (top 59)) [] [] (He.ga K "_law_pair") fd
  g__law_part : mg "_law_part" = some (.ref (He.ga K "_law_part"))
  F__law_part : ∃ fd, FunD K "_law_part" "_law_part" (defArgs (top 64)) (defBody (top 64)) (defScope (top 64)) [] [] (He.ga K "_law_part") fd
  g__law_lowered : mg "_law_lowered" = some (.ref (He.ga K "_law_lowered"))
  F__law_lowered : ∃ fd, FunD K "_law_lowered" "_law_lowered" (defArgs (top 55)) (defBody (top 55)) (defScope (top 55)) [] [] (He.ga K "_law_lowered") fd
  g__law_quotient : mg "_law_quotient" = some (.ref (He.ga K "_law_quotient"))
  F__law_quotient : ∃ fd, FunD K "_law_quotient" "_law_quotient" (defArgs (top 56)) (defBody (top 56)) (defScope (top 56)) [] [] (He.ga K "_law_quotient") fd
  g_no_load : mg "no_load" = some (.ref (He.ga K "no_load"))
  F_no_load : ∃ fd, FunD K "no_load" "no_load" (defArgs (top 37)) (defBody (top 37)) (defScope (top 37)) [] [] (He.ga K "no_load") fd
  g_weight_of : mg "weight_of" = some (.ref (He.ga K "weight_of"))
  F_weight_of : ∃ fd, FunD K "weight_of" "weight_of" (defArgs (top 36)) (defBody (top 36)) (defScope (top 36)) [] [] (He.ga K "weight_of") fd
  g__law_singles : mg "_law_singles" = some (.ref (He.ga K "_law_singles"))
  F__law_singles : ∃ fd, FunD K "_law_singles" "_law_singles" (defArgs (top 66)) (defBody (top 66)) (defScope (top 66)) [] [] (He.ga K "_law_singles") fd
  g_law : mg "law" = some (.ref (He.ga K "law"))
  F_law : ∃ fd, FunD K "law" "law" (defArgs (top 68)) (defBody (top 68)) (defScope (top 68)) [] [] (He.ga K "law") fd
  g_StayError : mg "StayError" = some (.ref (He.ga K "StayError"))
  g_PaperError : mg "PaperError" = some (.ref (He.ga K "PaperError"))
  g_WebError : mg "WebError" = some (.ref (He.ga K "WebError"))
  g_NotUsable : mg "NotUsable" = some (.ref (He.ga K "NotUsable"))
  n_ValueError : mg "ValueError" = none
  n_abs : mg "abs" = none
  n_all : mg "all" = none
  n_bool : mg "bool" = none
  n_enumerate : mg "enumerate" = none
  n_int : mg "int" = none
  n_isinstance : mg "isinstance" = none
  n_len : mg "len" = none
  n_list : mg "list" = none
  n_max : mg "max" = none
  n_min : mg "min" = none
  n_range : mg "range" = none
  n_str : mg "str" = none
  n_sum : mg "sum" = none
  n_tuple : mg "tuple" = none
  k_gcd : mg "gcd" = some (.builtin "math.gcd")
  x_NotUsable : OwnErr K mg "NotUsable"
  I_NotUsable : ∃ fd, FunD K "__init__" "NotUsable.__init__" (defArgs (meth 16 0)) (defBody (meth 16 0)) (defScope (meth 16 0)) [] [] (He.ma K (He.ga K "NotUsable") "__init__") fd
  no_NotUsable_word : PySem.W.findIn K (.ref (He.ga K "NotUsable")) "word" = some none
  no_NotUsable_at : PySem.W.findIn K (.ref (He.ga K "NotUsable")) "at" = some none
  k_lcm : mg "lcm" = some (.builtin "math.lcm")
  is_NotUsable_PaperError : PySem.W.kitOne K (.ref (He.ga K "NotUsable")) (.ref (He.ga K "PaperError")) = some false
  is_NotUsable_ValueError : PySem.W.kitOne K (.ref (He.ga K "NotUsable")) (.type "ValueError") = some true
  is_NotUsable_WebError : PySem.W.kitOne K (.ref (He.ga K "NotUsable")) (.ref (He.ga K "WebError")) = some true
  ex_NotUsable_NotUsable : PySem.W.exmOne K (.ref (He.ga K "NotUsable")) (.ref (He.ga K "NotUsable")) = some true
section
variable {P : Program} {w : World} {K : PySem.W.Frag} {mg : Str → Option Value} {base : Heap}
theorem sci_NotUsable : FnScope ["self", "word", "at"] ["self", "word", "at"] (defScope (meth 16 0)) := ⟨rfl, rfl, rfl, by decide +kernel, rfl, by decide +kernel, by decide +kernel⟩
theorem i_NotUsable (fx : Facts K mg) : InitC2 P w K mg base (He.ma K (He.ga K "NotUsable") "__init__") ["self", "word", "at"] "word" "at" := by
  obtain ⟨fd, F⟩ := fx.I_NotUsable
  exact ⟨fd, init2_ok F sci_NotUsable (.inl rfl) (.inl rfl) (.inl rfl), F.bindsN fun _ _ _ _ _ _ us hl => match us, hl with | [_, _, _], _ => rfl⟩
noncomputable def D__law_draws : SDen := sSeq (sIf (dBin oEq (dCall oLen (dCons (dVar 0) (dNil))) (dC (.int 0))) (sSeq (sRet (dBin oMul (dLst (dCons (dC (.int 0)) (dNil))) (dVar 1))) (sNil)) (sNil)) (sSeq (sSet 2 (dLstM (dNil))) (sSeq (sSet 3 (dBin oIx (dVar 0) (dC (.int 0)))) (sSeq (sIf (dBin oGe (dVar 3) (dBin oPow (dC (.int 10)) (dC (.int 18)))) (sSeq (sFor (dRange1 (dVar 1)) (tName 4) (sSeq (sIf (dBin oEq (dVar 3) (dC (.int 0))) (sSeq (sBreak) (sNil)) (sNil)) (sSeq (sExpr (dApp (dVar 2) (dBin oMod (dCall oInt1 (dCons (dVar 3) (dNil))) (dC (.int 1000))))) (sSeq (sSet 3 (dBin oDiv (dVar 3) (dC (.int 1000)))) (sNil))))) (sNil)) (sNil)) (sSeq (sSet 5 (dC (.int 61007))) (sSeq (sFor (dItems (dVar 0)) (tName 6) (sSeq (sSet 5 (dBin oMod (dCall oInt1 (dCons (dBin oPlus (dBin oPlus (dBin oMul (dVar 5) (dC (.int 39373))) (dBin oMul (dVar 6) (dC (.int 20011)))) (dC (.int 11))) (dNil))) (dC (.int 2147483587)))) (sNil))) (sSeq (sFor (dRange1 (dBin oSub (dVar 1) (dCall oLen (dCons (dVar 2) (dNil))))) (tName 4) (sSeq (sSet 6 (dBin oIx (dVar 0) (dBin oMod (dCall oInt1 (dCons (dVar 4) (dNil))) (dCall oLen (dCons (dVar 0) (dNil)))))) (sSeq (sSet 5 (dBin oMod (dCall oInt1 (dCons (dBin oPlus (dBin oPlus (dBin oPlus (dBin oMul (dVar 5) (dVar 5)) (dBin oMul (dVar 6) (dC (.int 6247)))) (dBin oMul (dVar 4) (dC (.int 99991)))) (dC (.int 47))) (dNil))) (dC (.int 2147483587)))) (sSeq (sExpr (dApp (dVar 2) (dBin oMod (dBin oMod (dCall oInt1 (dCons (dBin oMul (dBin oDiv (dVar 5) (dC (.int 64))) (dC (.int 52361))) (dNil))) (dC (.int 1000033))) (dC (.int 1000))))) (sNil))))) (sSeq (sRet (dVar 2)) (sNil))))))))
theorem Q__law_draws : ∃ F : Op, F = fnOf ["_law_script", "_law_amount", "_law_out", "_law_lead", "_law_k", "_law_state", "_law_cell"] D__law_draws := ⟨_, rfl⟩
noncomputable def O__law_draws : Op := Classical.choose Q__law_draws
instance is__law_draws : Is O__law_draws ["_law_script", "_law_amount", "_law_out", "_law_lead", "_law_k", "_law_state", "_law_cell"] D__law_draws := ⟨Classical.choose_spec Q__law_draws⟩
theorem sc__law_draws : FnScope ["_law_script", "_law_amount", "_law_out", "_law_lead", "_law_k", "_law_state", "_law_cell"] ["_law_script", "_law_amount"] (defScope (top 50)) := ⟨rfl, rfl, rfl, by decide +kernel, rfl, by decide +kernel, by decide +kernel⟩
theorem b__law_draws : BindsAll "_law_draws" (top 50) ["_law_script", "_law_amount"] := fun _ _ _ _ _ _ us hl => match us, hl with | [_, _], _ => rfl
theorem c__law_draws (fx : Facts K mg) : Callee P w K mg base 1 "_law_draws" (top 50) ["_law_script", "_law_amount"] O__law_draws := by
  obtain ⟨fd, F⟩ := fx.F__law_draws
  refine ⟨fx.g__law_draws, fd, F, ?_⟩
  rw [is__law_draws.eq]
  refine fn_den F sc__law_draws fun cdv A outer s H E hr tk => ?_
  have nd := sc__law_draws.nd
  exact (dss_cons (ds_if (dt_eq hr.units (de_len fx.n_len (da_cons (de_var 0) da_nil)) de_int) (dss_cons (ds_ret (de_mul (de_lst (da_cons de_int da_nil)) (de_var 1)))
      dss_nil) dss_nil)
      (dss_cons (ds_set 2 nd (de_lstM da_nil))
      (dss_cons (ds_set 3 nd (de_ix (de_var 0) de_int))
      (dss_cons (ds_if (dt_ge (de_var 3) (de_pow de_int de_int)) (dss_cons (ds_for (L2.passes_of rfl) rfl (di_range1 fx.n_range (de_var 1)) (dg_name 4 nd) (dss_cons (ds_if (dt_eq hr.units (de_var 3) de_int) (dss_cons ds_break
      dss_nil) dss_nil)
      (dss_cons (ds_expr (de_app (de_var 2) (de_mod (de_callTy call_int1 callD_int1 (by decide +kernel) fx.n_int (da_cons (de_var 3) da_nil)) de_int)))
      (dss_cons (ds_set 3 nd (de_div (de_var 3) de_int))
      dss_nil))))
      dss_nil) dss_nil)
      (dss_cons (ds_set 5 nd de_int)
      (dss_cons (ds_for (L2.passes_of rfl) rfl (di_seq (de_var 0)) (dg_name 6 nd) (dss_cons (ds_set 5 nd (de_mod (de_callTy call_int1 callD_int1 (by decide +kernel) fx.n_int (da_cons (de_add (de_add (de_mul (de_var 5) de_int) (de_mul (de_var 6) de_int)) de_int) da_nil)) de_int))
      dss_nil))
      (dss_cons (ds_for (L2.passes_of rfl) rfl (di_range1 fx.n_range (de_sub (de_var 1) (de_len fx.n_len (da_cons (de_var 2) da_nil)))) (dg_name 4 nd) (dss_cons (ds_set 6 nd (de_ix (de_var 0) (de_mod (de_callTy call_int1 callD_int1 (by decide +kernel) fx.n_int (da_cons (de_var 4) da_nil)) (de_len fx.n_len (da_cons (de_var 0) da_nil)))))
      (dss_cons (ds_set 5 nd (de_mod (de_callTy call_int1 callD_int1 (by decide +kernel) fx.n_int (da_cons (de_add (de_add (de_add (de_mul (de_var 5) (de_var 5)) (de_mul (de_var 6) de_int)) (de_mul (de_var 4) de_int)) de_int) da_nil)) de_int))
      (dss_cons (ds_expr (de_app (de_var 2) (de_mod (de_mod (de_callTy call_int1 callD_int1 (by decide +kernel) fx.n_int (da_cons (de_mul (de_div (de_var 5) de_int) de_int) da_nil)) de_int) de_int)))
      dss_nil))))
      (dss_cons (ds_ret (de_var 2))
      dss_nil))))))))
noncomputable def D__law_common : SDen := sSeq (sFor (dRange1 (dC (.int 2000))) (tName 2) (sSeq (sIf (dBin oEq (dVar 1) (dC (.int 0))) (sSeq (sBreak) (sNil)) (sNil)) (sSeq (sPar 0 1 (dCons (dVar 1) (dCons (dBin oMod (dCall oInt1 (dCons (dVar 0) (dNil))) (dVar 1)) (dNil)))) (sNil)))) (sSeq (sRet (dVar 0)) (sNil))
theorem Q__law_common : ∃ F : Op, F = fnOf ["_law_a", "_law_b", "_law_k"] D__law_common := ⟨_, rfl⟩
noncomputable def O__law_common : Op := Classical.choose Q__law_common
instance is__law_common : Is O__law_common ["_law_a", "_law_b", "_law_k"] D__law_common := ⟨Classical.choose_spec Q__law_common⟩
theorem sc__law_common : FnScope ["_law_a", "_law_b", "_law_k"] ["_law_a", "_law_b"] (defScope (top 52)) := ⟨rfl, rfl, rfl, by decide +kernel, rfl, by decide +kernel, by decide +kernel⟩
theorem b__law_common : BindsAll "_law_common" (top 52) ["_law_a", "_law_b"] := fun _ _ _ _ _ _ us hl => match us, hl with | [_, _], _ => rfl
theorem c__law_common (fx : Facts K mg) : Callee P w K mg base 1 "_law_common" (top 52) ["_law_a", "_law_b"] O__law_common := by
  obtain ⟨fd, F⟩ := fx.F__law_common
  refine ⟨fx.g__law_common, fd, F, ?_⟩
  rw [is__law_common.eq]
  refine fn_den F sc__law_common fun cdv A outer s H E hr tk => ?_
  have nd := sc__law_common.nd
  exact (dss_cons (ds_for (L2.passes_of rfl) rfl (di_range1 fx.n_range de_int) (dg_name 2 nd) (dss_cons (ds_if (dt_eq hr.units (de_var 1) de_int) (dss_cons ds_break
      dss_nil) dss_nil)
      (dss_cons (ds_par 0 1 rfl nd (da_cons (de_var 1) (da_cons (de_mod (de_callTy call_int1 callD_int1 (by decide +kernel) fx.n_int (da_cons (de_var 0) da_nil)) (de_var 1)) da_nil)))
      dss_nil)))
      (dss_cons (ds_ret (de_var 0))
      dss_nil))
noncomputable def D__law_whole : SDen := sSeq (sRet (dAnd (dIsi "int" (dVar 0)) (dNot (dIsi "bool" (dVar 0))))) (sNil)
theorem Q__law_whole : ∃ F : Op, F = fnOf ["_law_x"] D__law_whole := ⟨_, rfl⟩
noncomputable def O__law_whole : Op := Classical.choose Q__law_whole
instance is__law_whole : Is O__law_whole ["_law_x"] D__law_whole := ⟨Classical.choose_spec Q__law_whole⟩
theorem sc__law_whole : FnScope ["_law_x"] ["_law_x"] (defScope (top 51)) := ⟨rfl, rfl, rfl, by decide +kernel, rfl, by decide +kernel, by decide +kernel⟩
theorem b__law_whole : BindsAll "_law_whole" (top 51) ["_law_x"] := fun _ _ _ _ _ _ us hl => match us, hl with | [_], _ => rfl
theorem c__law_whole (fx : Facts K mg) : Callee P w K mg base 1 "_law_whole" (top 51) ["_law_x"] O__law_whole := by
  obtain ⟨fd, F⟩ := fx.F__law_whole
  refine ⟨fx.g__law_whole, fd, F, ?_⟩
  rw [is__law_whole.eq]
  refine fn_den F sc__law_whole fun cdv A outer s H E hr tk => ?_
  have nd := sc__law_whole.nd
  exact (dss_cons (ds_ret (de_and (de_isi (de_var 0) fx.n_isinstance fx.n_int (by decide +kernel) (by decide)) (de_one (de_not (de_isi (de_var 0) fx.n_isinstance fx.n_bool (by decide +kernel) (by decide))))))
      dss_nil)
theorem ch__law_whole (fx : Facts K mg) : CalleeH P w K mg base 1 "_law_whole" (top 51) ["_law_x"] O__law_whole := by
  obtain ⟨fd, F⟩ := fx.F__law_whole
  refine ⟨fx.g__law_whole, fd, F, ?_⟩
  rw [is__law_whole.eq]
  refine fn_denH F sc__law_whole fun cdv A outer s H E pn hot1 hr tk => ?_
  have nd := sc__law_whole.nd
  exact (dss_cons (ds_ret (de_and (de_isi (de_var 0) fx.n_isinstance fx.n_int (by decide +kernel) (by decide)) (de_one (de_not (de_isi (de_var 0) fx.n_isinstance fx.n_bool (by decide +kernel) (by decide))))))
      dss_nil)
noncomputable def D__law_equal : SDen := sSeq (sIf (dOr (dNot (dTru (dIsi "tuple" (dVar 0)))) (dOr (dBin oNe (dCall oLen (dCons (dVar 0) (dNil))) (dC (.int 2))) (dOr (dNot (dTru (dFn 1 O__law_whole (dCons (dBin oIx (dVar 0) (dC (.int 0))) (dNil))))) (dNot (dTru (dFn 1 O__law_whole (dCons (dBin oIx (dVar 0) (dC (.int 1))) (dNil)))))))) (sSeq (sRet (dC (.bl false))) (sNil)) (sNil)) (sSeq (sIf (dOr (dBin oLt (dBin oIx (dVar 0) (dC (.int 1))) (dC (.int 1))) (dBin oNe (dFn 2 O__law_common (dCons (dBin oIx (dVar 0) (dC (.int 0))) (dCons (dBin oIx (dVar 0) (dC (.int 1))) (dNil)))) (dC (.int 1)))) (sSeq (sRet (dC (.bl false))) (sNil)) (sNil)) (sSeq (sRet (dBin oEq (dBin oMul (dBin oIx (dVar 0) (dC (.int 0))) (dVar 2)) (dBin oMul (dVar 1) (dBin oIx (dVar 0) (dC (.int 1)))))) (sNil)))
theorem Q__law_equal : ∃ F : Op, F = fnOf ["_law_q", "_law_t", "_law_b"] D__law_equal := ⟨_, rfl⟩
noncomputable def O__law_equal : Op := Classical.choose Q__law_equal
instance is__law_equal : Is O__law_equal ["_law_q", "_law_t", "_law_b"] D__law_equal := ⟨Classical.choose_spec Q__law_equal⟩
theorem sc__law_equal : FnScope ["_law_q", "_law_t", "_law_b"] ["_law_q", "_law_t", "_law_b"] (defScope (top 57)) := ⟨rfl, rfl, rfl, by decide +kernel, rfl, by decide +kernel, by decide +kernel⟩
theorem b__law_equal : BindsAll "_law_equal" (top 57) ["_law_q", "_law_t", "_law_b"] := fun _ _ _ _ _ _ us hl => match us, hl with | [_, _, _], _ => rfl
theorem c__law_equal (fx : Facts K mg) : Callee P w K mg base 2 "_law_equal" (top 57) ["_law_q", "_law_t", "_law_b"] O__law_equal := by
  obtain ⟨fd, F⟩ := fx.F__law_equal
  refine ⟨fx.g__law_equal, fd, F, ?_⟩
  rw [is__law_equal.eq]
  refine fn_den F sc__law_equal fun cdv A outer s H E hr tk => ?_
  have nd := sc__law_equal.nd
  exact (dss_cons (ds_if (DW.dt (dw_or (dt_not (dt_truth (de_isi (de_var 0) fx.n_isinstance fx.n_tuple (by decide +kernel) (by decide)))) (dw_or (dt_ne hr.units (de_len fx.n_len (da_cons (de_var 0) da_nil)) de_int) (dw_or (dt_not (dt_truth (de_callC (c__law_whole fx) b__law_whole hr (by omega) tk (da_cons (de_ix (de_var 0) de_int) da_nil)))) (dw_or1 (dt_not (dt_truth (de_callC (c__law_whole fx) b__law_whole hr (by omega) tk (da_cons (de_ix (de_var 0) de_int) da_nil))))))))) (dss_cons (ds_ret de_bl)
      dss_nil) dss_nil)
      (dss_cons (ds_if (DW.dt (dw_or (dt_lt (de_ix (de_var 0) de_int) de_int) (dw_or1 (dt_ne hr.units (de_callC (c__law_common fx) b__law_common hr (by omega) tk (da_cons (de_ix (de_var 0) de_int) (da_cons (de_ix (de_var 0) de_int) da_nil))) de_int)))) (dss_cons (ds_ret de_bl)
      dss_nil) dss_nil)
      (dss_cons (ds_ret (de_eq hr.units (de_mul (de_ix (de_var 0) de_int) (de_var 2)) (de_mul (de_var 1) (de_ix (de_var 0) de_int))))
      dss_nil)))
noncomputable def D__law_load : SDen := sSeq (sSet 3 (dBin oMod (dCall oInt1 (dCons (dBin oIx (dVar 0) (dVar 1)) (dNil))) (dC (.int 8)))) (sSeq (sSet 4 (dBin oIx (dLst (dCons (dC (.int 1)) (dCons (dC (.int 2)) (dCons (dC (.int 3)) (dCons (dC (.int 4)) (dCons (dC (.int 6)) (dCons (dC (.int 12)) (dCons (dC (.int 5)) (dCons (dC (.int 7)) (dNil)))))))))) (dVar 3))) (sSeq (sSet 5 (dLc [6] (dRange1 (dVar 2)) (.one 6) (dYes) (dCall oMax2 (dCons (dC (.int 0)) (dCons (dBin oSub (dBin oMod (dCall oInt1 (dCons (dBin oIx (dVar 0) (dBin oMod (dCall oInt1 (dCons (dBin oPlus (dBin oPlus (dVar 1) (dBin oMul (dC (.int 3)) (dVar 6))) (dC (.int 1))) (dNil))) (dC (.int 60)))) (dNil))) (dC (.int 7))) (dC (.int 2))) (dNil)))))) (sSeq (sIf (dBin oEq (dVar 3) (dC (.int 6))) (sSeq (sSet 4 (dBin oPlus (dC (.int 1)) (dBin oMul (dBin oIx (dVar 0) (dBin oPlus (dVar 1) (dC (.int 1)))) (dBin oPow (dC (.int 10)) (dC (.int 8)))))) (sSeq (sSet 5 (dLc [7] (dItems (dVar 5)) (.one 7) (dYes) (dBin oPlus (dBin oMul (dVar 7) (dBin oPow (dC (.int 10)) (dC (.int 13)))) (dBin oIx (dVar 0) (dBin oPlus (dVar 1) (dC (.int 2))))))) (sNil))) (sNil)) (sSeq (sIf (dBin oEq (dVar 3) (dC (.int 7))) (sSeq (sSet 5 (dBin oMul (dLst (dCons (dC (.int 0)) (dNil))) (dVar 2))) (sNil)) (sNil)) (sSeq (sSet 8 (dVar 4)) (sSeq (sFor (dItems (dVar 5)) (tName 7) (sSeq (sSet 8 (dFn 2 O__law_common (dCons (dVar 7) (dCons (dVar 8) (dNil))))) (sNil))) (sSeq (sRet (dTup (dCons (dCall oTuple1 (dCons (dLc [7] (dItems (dVar 5)) (.one 7) (dYes) (dBin oDiv (dVar 7) (dVar 8))) (dNil))) (dCons (dBin oDiv (dVar 4) (dVar 8)) (dNil))))) (sNil))))))))
theorem Q__law_load : ∃ F : Op, F = fnOf ["_law_d", "_law_k", "_law_n", "_law_kind", "_law_b", "_law_tops", "_law_i", "_law_x", "_law_g"] D__law_load := ⟨_, rfl⟩
noncomputable def O__law_load : Op := Classical.choose Q__law_load
instance is__law_load : Is O__law_load ["_law_d", "_law_k", "_law_n", "_law_kind", "_law_b", "_law_tops", "_law_i", "_law_x", "_law_g"] D__law_load := ⟨Classical.choose_spec Q__law_load⟩
theorem sc__law_load : FnScope ["_law_d", "_law_k", "_law_n", "_law_kind", "_law_b", "_law_tops", "_law_i", "_law_x", "_law_g"] ["_law_d", "_law_k", "_law_n"] (defScope (top 63)) := ⟨rfl, rfl, rfl, by decide +kernel, rfl, by decide +kernel, by decide +kernel⟩
theorem b__law_load : BindsAll "_law_load" (top 63) ["_law_d", "_law_k", "_law_n"] := fun _ _ _ _ _ _ us hl => match us, hl with | [_, _, _], _ => rfl
theorem c__law_load (fx : Facts K mg) : Callee P w K mg base 2 "_law_load" (top 63) ["_law_d", "_law_k", "_law_n"] O__law_load := by
  obtain ⟨fd, F⟩ := fx.F__law_load
  refine ⟨fx.g__law_load, fd, F, ?_⟩
  rw [is__law_load.eq]
  refine fn_den F sc__law_load fun cdv A outer s H E hr tk => ?_
  have nd := sc__law_load.nd
  exact (dss_cons (ds_set 3 nd (de_mod (de_callTy call_int1 callD_int1 (by decide +kernel) fx.n_int (da_cons (de_ix (de_var 0) (de_var 1)) da_nil)) de_int))
      (dss_cons (ds_set 4 nd (de_ix (de_lst (da_cons de_int (da_cons de_int (da_cons de_int (da_cons de_int (da_cons de_int (da_cons de_int (da_cons de_int (da_cons de_int da_nil))))))))) (de_var 3)))
      (dss_cons (ds_setLc 5 [("_law_i", 6)] (.one 6) rfl nd (by decide) (by exact blkB_ok (by kernel_rfl)) (di_range1 fx.n_range (de_var 2)) (fun _ _ _ _ _ => (pg_name nd rfl (by first | exact .inl rfl | exact .inr rfl) (by first | exact .inl rfl | exact .inr rfl))) (fun _ _ _ _ _ => dts_nil) (fun _ _ _ _ _ => (de_callB (call_max2 rfl) callD_max2 (by decide +kernel) fx.n_max (da_cons de_int (da_cons (de_sub (de_mod (de_callTy call_int1 callD_int1 (by decide +kernel) fx.n_int (da_cons (de_ix (de_var 0) (de_mod (de_callTy call_int1 callD_int1 (by decide +kernel) fx.n_int (da_cons (de_add (de_add (de_var 1) (de_mul de_int (de_var 6))) de_int) da_nil)) de_int)) da_nil)) de_int) de_int) da_nil)))) (by rfl))
      (dss_cons (ds_if (dt_eq hr.units (de_var 3) de_int) (dss_cons (ds_set 4 nd (de_add de_int (de_mul (de_ix (de_var 0) (de_add (de_var 1) de_int)) (de_pow de_int de_int))))
      (dss_cons (ds_setLc 5 [("_law_x", 7)] (.one 7) rfl nd (by decide) (by exact blkB_ok (by kernel_rfl)) (di_seq (de_var 5)) (fun _ _ _ _ _ => (pg_name nd rfl (by first | exact .inl rfl | exact .inr rfl) (by first | exact .inl rfl | exact .inr rfl))) (fun _ _ _ _ _ => dts_nil) (fun _ _ _ _ _ => (de_add (de_mul (de_var 7) (de_pow de_int de_int)) (de_ix (de_var 0) (de_add (de_var 1) de_int)))) (by rfl))
      dss_nil)) dss_nil)
      (dss_cons (ds_if (dt_eq hr.units (de_var 3) de_int) (dss_cons (ds_set 5 nd (de_mul (de_lst (da_cons de_int da_nil)) (de_var 2)))
      dss_nil) dss_nil)
      (dss_cons (ds_set 8 nd (de_var 4))
      (dss_cons (ds_for (L2.passes_of rfl) rfl (di_seq (de_var 5)) (dg_name 7 nd) (dss_cons (ds_set 8 nd (de_callC (c__law_common fx) b__law_common hr (by omega) tk (da_cons (de_var 7) (da_cons (de_var 8) da_nil))))
      dss_nil))
      (dss_cons (ds_ret (de_tup (da_cons (de_callTy call_tuple_of callD_tuple1 (by decide +kernel) fx.n_tuple (da_cons (de_lc [("_law_x", 7)] (.one 7) rfl nd (by decide) (by exact blkB_ok (by kernel_rfl)) (di_seq (de_var 5)) (fun _ _ _ _ _ => (pg_name nd rfl (by first | exact .inl rfl | exact .inr rfl) (by first | exact .inl rfl | exact .inr rfl))) (fun _ _ _ _ _ => dts_nil) (fun _ _ _ _ _ => (de_div (de_var 7) (de_var 8)))) da_nil)) (da_cons (de_div (de_var 4) (de_var 8)) da_nil))))
      dss_nil))))))))
noncomputable def D__law_lowest : SDen := sSeq (sFor (dItems (dVar 0)) (tName 2) (sSeq (sSet 1 (dFn 2 O__law_common (dCons (dVar 2) (dCons (dVar 1) (dNil))))) (sNil))) (sSeq (sRet (dBin oEq (dVar 1) (dC (.int 1)))) (sNil))
theorem Q__law_lowest : ∃ F : Op, F = fnOf ["_law_tops", "_law_b", "_law_x"] D__law_lowest := ⟨_, rfl⟩
noncomputable def O__law_lowest : Op := Classical.choose Q__law_lowest
instance is__law_lowest : Is O__law_lowest ["_law_tops", "_law_b", "_law_x"] D__law_lowest := ⟨Classical.choose_spec Q__law_lowest⟩
theorem sc__law_lowest : FnScope ["_law_tops", "_law_b", "_law_x"] ["_law_tops", "_law_b"] (defScope (top 53)) := ⟨rfl, rfl, rfl, by decide +kernel, rfl, by decide +kernel, by decide +kernel⟩
theorem b__law_lowest : BindsAll "_law_lowest" (top 53) ["_law_tops", "_law_b"] := fun _ _ _ _ _ _ us hl => match us, hl with | [_, _], _ => rfl
theorem c__law_lowest (fx : Facts K mg) : Callee P w K mg base 2 "_law_lowest" (top 53) ["_law_tops", "_law_b"] O__law_lowest := by
  obtain ⟨fd, F⟩ := fx.F__law_lowest
  refine ⟨fx.g__law_lowest, fd, F, ?_⟩
  rw [is__law_lowest.eq]
  refine fn_den F sc__law_lowest fun cdv A outer s H E hr tk => ?_
  have nd := sc__law_lowest.nd
  exact (dss_cons (ds_for (L2.passes_of rfl) rfl (di_seq (de_var 0)) (dg_name 2 nd) (dss_cons (ds_set 1 nd (de_callC (c__law_common fx) b__law_common hr (by omega) tk (da_cons (de_var 2) (da_cons (de_var 1) da_nil))))
      dss_nil))
      (dss_cons (ds_ret (de_eq hr.units (de_var 1) de_int))
      dss_nil))
noncomputable def D__law_numbers : SDen := sSeq (sIf (dOr (dNot (dTru (dIsi "tuple" (dVar 0)))) (dBin oNe (dCall oLen (dCons (dVar 0) (dNil))) (dVar 1))) (sSeq (sRet (dC (.bl false))) (sNil)) (sNil)) (sSeq (sRet (dCall oAll (dCons (dLc [2] (dItems (dVar 0)) (.one 2) (dYes) (dAnd (dFn 1 O__law_whole (dCons (dVar 2) (dNil))) (dBin oGe (dVar 2) (dC (.int 0))))) (dNil)))) (sNil))
theorem Q__law_numbers : ∃ F : Op, F = fnOf ["_law_r", "_law_n", "_law_x"] D__law_numbers := ⟨_, rfl⟩
noncomputable def O__law_numbers : Op := Classical.choose Q__law_numbers
instance is__law_numbers : Is O__law_numbers ["_law_r", "_law_n", "_law_x"] D__law_numbers := ⟨Classical.choose_spec Q__law_numbers⟩
theorem sc__law_numbers : FnScope ["_law_r", "_law_n", "_law_x"] ["_law_r", "_law_n"] (defScope (top 54)) := ⟨rfl, rfl, rfl, by decide +kernel, rfl, by decide +kernel, by decide +kernel⟩
theorem b__law_numbers : BindsAll "_law_numbers" (top 54) ["_law_r", "_law_n"] := fun _ _ _ _ _ _ us hl => match us, hl with | [_, _], _ => rfl
theorem c__law_numbers (fx : Facts K mg) : Callee P w K mg base 2 "_law_numbers" (top 54) ["_law_r", "_law_n"] O__law_numbers := by
  obtain ⟨fd, F⟩ := fx.F__law_numbers
  refine ⟨fx.g__law_numbers, fd, F, ?_⟩
  rw [is__law_numbers.eq]
  refine fn_den F sc__law_numbers fun cdv A outer s H E hr tk => ?_
  have nd := sc__law_numbers.nd
  exact (dss_cons (ds_if (DW.dt (dw_or (dt_not (dt_truth (de_isi (de_var 0) fx.n_isinstance fx.n_tuple (by decide +kernel) (by decide)))) (dw_or1 (dt_ne hr.units (de_len fx.n_len (da_cons (de_var 0) da_nil)) (de_var 1))))) (dss_cons (ds_ret de_bl)
      dss_nil) dss_nil)
      (dss_cons (ds_ret (de_callB (cr_all rfl) callD_all (by decide +kernel) fx.n_all (da_cons (de_lc [("_law_x", 2)] (.one 2) rfl nd (by decide) (by exact blkB_ok (by kernel_rfl)) (di_seq (de_var 0)) (fun _ _ _ _ _ => (pg_name nd rfl (by first | exact .inl rfl | exact .inr rfl) (by first | exact .inl rfl | exact .inr rfl))) (fun _ _ _ _ _ => dts_nil) (fun _ _ _ _ _ => (de_and (de_callC (c__law_whole fx) b__law_whole hr (by omega) takes0 (da_cons (de_var 2) da_nil)) (de_one (de_ge (de_var 2) de_int))))) da_nil)))
      dss_nil))
noncomputable def D__law_entries : SDen := sSeq (sIf (dOr (dNot (dTru (dIsi "tuple" (dVar 0)))) (dOr (dBin oNe (dCall oLen (dCons (dVar 0) (dNil))) (dC (.int 2))) (dNot (dTru (dFn 2 O__law_numbers (dCons (dBin oIx (dVar 0) (dC (.int 0))) (dCons (dCall oLen (dCons (dVar 1) (dNil))) (dNil)))))))) (sSeq (sRet (dC (.bl false))) (sNil)) (sNil)) (sSeq (sIf (dOr (dNot (dTru (dFn 1 O__law_whole (dCons (dBin oIx (dVar 0) (dC (.int 1))) (dNil))))) (dOr (dBin oLt (dBin oIx (dVar 0) (dC (.int 1))) (dC (.int 1))) (dNot (dTru (dFn 2 O__law_lowest (dCons (dBin oIx (dVar 0) (dC (.int 0))) (dCons (dBin oIx (dVar 0) (dC (.int 1))) (dNil)))))))) (sSeq (sRet (dC (.bl false))) (sNil)) (sNil)) (sSeq (sRet (dCall oAll (dCons (dLc [3] (dRange1 (dCall oLen (dCons (dVar 1) (dNil)))) (.one 3) (dYes) (dBin oEq (dBin oMul (dBin oIx (dBin oIx (dVar 0) (dC (.int 0))) (dVar 3)) (dBin oIx (dVar 2) (dVar 3))) (dBin oMul (dBin oIx (dVar 1) (dVar 3)) (dBin oIx (dVar 0) (dC (.int 1)))))) (dNil)))) (sNil)))
theorem Q__law_entries : ∃ F : Op, F = fnOf ["_law_z", "_law_tops", "_law_bots", "_law_i"] D__law_entries := ⟨_, rfl⟩
noncomputable def O__law_entries : Op := Classical.choose Q__law_entries
instance is__law_entries : Is O__law_entries ["_law_z", "_law_tops", "_law_bots", "_law_i"] D__law_entries := ⟨Classical.choose_spec Q__law_entries⟩
theorem sc__law_entries : FnScope ["_law_z", "_law_tops", "_law_bots", "_law_i"] ["_law_z", "_law_tops", "_law_bots"] (defScope (top 58)) := ⟨rfl, rfl, rfl, by decide +kernel, rfl, by decide +kernel, by decide +kernel⟩
theorem b__law_entries : BindsAll "_law_entries" (top 58) ["_law_z", "_law_tops", "_law_bots"] := fun _ _ _ _ _ _ us hl => match us, hl with | [_, _, _], _ => rfl
theorem c__law_entries (fx : Facts K mg) : Callee P w K mg base 3 "_law_entries" (top 58) ["_law_z", "_law_tops", "_law_bots"] O__law_entries := by
  obtain ⟨fd, F⟩ := fx.F__law_entries
  refine ⟨fx.g__law_entries, fd, F, ?_⟩
  rw [is__law_entries.eq]
  refine fn_den F sc__law_entries fun cdv A outer s H E hr tk => ?_
  have nd := sc__law_entries.nd
  exact (dss_cons (ds_if (DW.dt (dw_or (dt_not (dt_truth (de_isi (de_var 0) fx.n_isinstance fx.n_tuple (by decide +kernel) (by decide)))) (dw_or (dt_ne hr.units (de_len fx.n_len (da_cons (de_var 0) da_nil)) de_int) (dw_or1 (dt_not (dt_truth (de_callC (c__law_numbers fx) b__law_numbers hr (by omega) tk (da_cons (de_ix (de_var 0) de_int) (da_cons (de_len fx.n_len (da_cons (de_var 1) da_nil)) da_nil))))))))) (dss_cons (ds_ret de_bl)
      dss_nil) dss_nil)
      (dss_cons (ds_if (DW.dt (dw_or (dt_not (dt_truth (de_callC (c__law_whole fx) b__law_whole hr (by omega) tk (da_cons (de_ix (de_var 0) de_int) da_nil)))) (dw_or (dt_lt (de_ix (de_var 0) de_int) de_int) (dw_or1 (dt_not (dt_truth (de_callC (c__law_lowest fx) b__law_lowest hr (by omega) tk (da_cons (de_ix (de_var 0) de_int) (da_cons (de_ix (de_var 0) de_int) da_nil))))))))) (dss_cons (ds_ret de_bl)
      dss_nil) dss_nil)
      (dss_cons (ds_ret (de_callB (cr_all rfl) callD_all (by decide +kernel) fx.n_all (da_cons (de_lc [("_law_i", 3)] (.one 3) rfl nd (by decide) (by exact blkB_ok (by kernel_rfl)) (di_range1 fx.n_range (de_len fx.n_len (da_cons (de_var 1) da_nil))) (fun _ _ _ _ _ => (pg_name nd rfl (by first | exact .inl rfl | exact .inr rfl) (by first | exact .inl rfl | exact .inr rfl))) (fun _ _ _ _ _ => dts_nil) (fun _ _ _ _ _ => (de_eq hr.units (de_mul (de_ix (de_ix (de_var 0) de_int) (de_var 3)) (de_ix (de_var 2) (de_var 3))) (de_mul (de_ix (de_var 1) (de_var 3)) (de_ix (de_var 0) de_int))))) da_nil)))
      dss_nil)))
noncomputable def D_leveled : SDen := sSeq (sRet (dLc [2] (dRange1 (dCall oLen (dCons (dBin oIx (dVar 0) (dC (.int 0))) (dNil)))) (.one 2) (dYes) (dTup (dCons (dBin oMul (dBin oIx (dBin oIx (dVar 0) (dC (.int 0))) (dVar 2)) (dBin oIx (dVar 1) (dC (.int 1)))) (dCons (dBin oMul (dBin oIx (dBin oIx (dVar 1) (dC (.int 0))) (dVar 2)) (dBin oIx (dVar 0) (dC (.int 1)))) (dNil)))))) (sNil)
theorem Q_leveled : ∃ F : Op, F = fnOf ["load", "other", "i"] D_leveled := ⟨_, rfl⟩
noncomputable def O_leveled : Op := Classical.choose Q_leveled
instance is_leveled : Is O_leveled ["load", "other", "i"] D_leveled := ⟨Classical.choose_spec Q_leveled⟩
theorem sc_leveled : FnScope ["load", "other", "i"] ["load", "other"] (defScope (top 32)) := ⟨rfl, rfl, rfl, by decide +kernel, rfl, by decide +kernel, by decide +kernel⟩
theorem b_leveled : BindsAll "leveled" (top 32) ["load", "other"] := fun _ _ _ _ _ _ us hl => match us, hl with | [_, _], _ => rfl
theorem c_leveled (fx : Facts K mg) : Callee P w K mg base 1 "leveled" (top 32) ["load", "other"] O_leveled := by
  obtain ⟨fd, F⟩ := fx.F_leveled
  refine ⟨fx.g_leveled, fd, F, ?_⟩
  rw [is_leveled.eq]
  refine fn_den F sc_leveled fun cdv A outer s H E hr tk => ?_
  have nd := sc_leveled.nd
  exact (dss_cons (ds_ret (de_lc [("i", 2)] (.one 2) rfl nd (by decide) (by exact blkB_ok (by kernel_rfl)) (di_range1 fx.n_range (de_len fx.n_len (da_cons (de_ix (de_var 0) de_int) da_nil))) (fun _ _ _ _ _ => (pg_name nd rfl (by first | exact .inl rfl | exact .inr rfl) (by first | exact .inl rfl | exact .inr rfl))) (fun _ _ _ _ _ => dts_nil) (fun _ _ _ _ _ => (de_tup (da_cons (de_mul (de_ix (de_ix (de_var 0) de_int) (de_var 2)) (de_ix (de_var 1) de_int)) (da_cons (de_mul (de_ix (de_ix (de_var 1) de_int) (de_var 2)) (de_ix (de_var 0) de_int)) da_nil))))))
      dss_nil)
noncomputable def D_common_divisor : SDen := sSeq (sSet 1 (dC (.int 0))) (sSeq (sFor (dItems (dVar 0)) (tName 2) (sSeq (sSet 1 (dCall oGcd (dCons (dVar 1) (dCons (dVar 2) (dNil))))) (sNil))) (sSeq (sRet (dVar 1)) (sNil)))
theorem Q_common_divisor : ∃ F : Op, F = fnOf ["numbers", "found", "number"] D_common_divisor := ⟨_, rfl⟩
noncomputable def O_common_divisor : Op := Classical.choose Q_common_divisor
instance is_common_divisor : Is O_common_divisor ["numbers", "found", "number"] D_common_divisor := ⟨Classical.choose_spec Q_common_divisor⟩
theorem sc_common_divisor : FnScope ["numbers", "found", "number"] ["numbers"] (defScope (top 2)) := ⟨rfl, rfl, rfl, by decide +kernel, rfl, by decide +kernel, by decide +kernel⟩
theorem b_common_divisor : BindsAll "common_divisor" (top 2) ["numbers"] := fun _ _ _ _ _ _ us hl => match us, hl with | [_], _ => rfl
theorem c_common_divisor (fx : Facts K mg) : Callee P w K mg base 1 "common_divisor" (top 2) ["numbers"] O_common_divisor := by
  obtain ⟨fd, F⟩ := fx.F_common_divisor
  refine ⟨fx.g_common_divisor, fd, F, ?_⟩
  rw [is_common_divisor.eq]
  refine fn_den F sc_common_divisor fun cdv A outer s H E hr tk => ?_
  have nd := sc_common_divisor.nd
  exact (dss_cons (ds_set 1 nd de_int)
      (dss_cons (ds_for (L2.passes_of rfl) rfl (di_seq (de_var 0)) (dg_name 2 nd) (dss_cons (ds_set 1 nd (de_callM cr_gcd callD_gcd fx.k_gcd (da_cons (de_var 1) (da_cons (de_var 2) da_nil))))
      dss_nil))
      (dss_cons (ds_ret (de_var 1))
      dss_nil)))
noncomputable def D_load_from : SDen := sSeq (sSet 2 (dFn 1 O_common_divisor (dCons (dLst (dStar (dVar 0) (dCons (dVar 1) (dNil)))) (dNil)))) (sSeq (sRet (dTup (dCons (dCall oTuple1 (dCons (dLc [3] (dItems (dVar 0)) (.one 3) (dYes) (dBin oDiv (dVar 3) (dVar 2))) (dNil))) (dCons (dBin oDiv (dVar 1) (dVar 2)) (dNil))))) (sNil))
theorem Q_load_from : ∃ F : Op, F = fnOf ["tops", "bottom", "common", "top"] D_load_from := ⟨_, rfl⟩
noncomputable def O_load_from : Op := Classical.choose Q_load_from
instance is_load_from : Is O_load_from ["tops", "bottom", "common", "top"] D_load_from := ⟨Classical.choose_spec Q_load_from⟩
theorem sc_load_from : FnScope ["tops", "bottom", "common", "top"] ["tops", "bottom"] (defScope (top 31)) := ⟨rfl, rfl, rfl, by decide +kernel, rfl, by decide +kernel, by decide +kernel⟩
theorem b_load_from : BindsAll "load_from" (top 31) ["tops", "bottom"] := fun _ _ _ _ _ _ us hl => match us, hl with | [_, _], _ => rfl
theorem c_load_from (fx : Facts K mg) : Callee P w K mg base 2 "load_from" (top 31) ["tops", "bottom"] O_load_from := by
  obtain ⟨fd, F⟩ := fx.F_load_from
  refine ⟨fx.g_load_from, fd, F, ?_⟩
  rw [is_load_from.eq]
  refine fn_den F sc_load_from fun cdv A outer s H E hr tk => ?_
  have nd := sc_load_from.nd
  exact (dss_cons (ds_set 2 nd (de_callC (c_common_divisor fx) b_common_divisor hr (by omega) tk (da_cons (de_lst (da_star (de_var 0) (da_cons (de_var 1) da_nil))) da_nil)))
      (dss_cons (ds_ret (de_tup (da_cons (de_callTy call_tuple_of callD_tuple1 (by decide +kernel) fx.n_tuple (da_cons (de_lc [("top", 3)] (.one 3) rfl nd (by decide) (by exact blkB_ok (by kernel_rfl)) (di_seq (de_var 0)) (fun _ _ _ _ _ => (pg_name nd rfl (by first | exact .inl rfl | exact .inr rfl) (by first | exact .inl rfl | exact .inr rfl))) (fun _ _ _ _ _ => dts_nil) (fun _ _ _ _ _ => (de_div (de_var 3) (de_var 2)))) da_nil)) (da_cons (de_div (de_var 1) (de_var 2)) da_nil))))
      dss_nil))
noncomputable def D_is_integer : SDen := sSeq (sRet (dAnd (dIsi "int" (dVar 0)) (dNot (dIsi "bool" (dVar 0))))) (sNil)
theorem Q_is_integer : ∃ F : Op, F = fnOf ["thing"] D_is_integer := ⟨_, rfl⟩
noncomputable def O_is_integer : Op := Classical.choose Q_is_integer
instance is_is_integer : Is O_is_integer ["thing"] D_is_integer := ⟨Classical.choose_spec Q_is_integer⟩
theorem sc_is_integer : FnScope ["thing"] ["thing"] (defScope (top 3)) := ⟨rfl, rfl, rfl, by decide +kernel, rfl, by decide +kernel, by decide +kernel⟩
theorem b_is_integer : BindsAll "is_integer" (top 3) ["thing"] := fun _ _ _ _ _ _ us hl => match us, hl with | [_], _ => rfl
theorem c_is_integer (fx : Facts K mg) : Callee P w K mg base 1 "is_integer" (top 3) ["thing"] O_is_integer := by
  obtain ⟨fd, F⟩ := fx.F_is_integer
  refine ⟨fx.g_is_integer, fd, F, ?_⟩
  rw [is_is_integer.eq]
  refine fn_den F sc_is_integer fun cdv A outer s H E hr tk => ?_
  have nd := sc_is_integer.nd
  exact (dss_cons (ds_ret (de_and (de_isi (de_var 0) fx.n_isinstance fx.n_int (by decide +kernel) (by decide)) (de_one (de_not (de_isi (de_var 0) fx.n_isinstance fx.n_bool (by decide +kernel) (by decide))))))
      dss_nil)
noncomputable def D_is_number : SDen := sSeq (sRet (dAnd (dFn 1 O_is_integer (dCons (dVar 0) (dNil))) (dBin oGe (dVar 0) (dC (.int 0))))) (sNil)
theorem Q_is_number : ∃ F : Op, F = fnOf ["thing"] D_is_number := ⟨_, rfl⟩
noncomputable def O_is_number : Op := Classical.choose Q_is_number
instance is_is_number : Is O_is_number ["thing"] D_is_number := ⟨Classical.choose_spec Q_is_number⟩
theorem sc_is_number : FnScope ["thing"] ["thing"] (defScope (top 4)) := ⟨rfl, rfl, rfl, by decide +kernel, rfl, by decide +kernel, by decide +kernel⟩
theorem b_is_number : BindsAll "is_number" (top 4) ["thing"] := fun _ _ _ _ _ _ us hl => match us, hl with | [_], _ => rfl
theorem c_is_number (fx : Facts K mg) : Callee P w K mg base 2 "is_number" (top 4) ["thing"] O_is_number := by
  obtain ⟨fd, F⟩ := fx.F_is_number
  refine ⟨fx.g_is_number, fd, F, ?_⟩
  rw [is_is_number.eq]
  refine fn_den F sc_is_number fun cdv A outer s H E hr tk => ?_
  have nd := sc_is_number.nd
  exact (dss_cons (ds_ret (de_and (de_callC (c_is_integer fx) b_is_integer hr (by omega) tk (da_cons (de_var 0) da_nil)) (de_one (de_ge (de_var 0) de_int))))
      dss_nil)
noncomputable def D_are_numbers : SDen := sSeq (sRet (dAnd (dIsi "tuple" (dVar 1)) (dAnd (dBin oEq (dCall oLen (dCons (dVar 1) (dNil))) (dVar 0)) (dCall oAll (dCons (dLc [2] (dItems (dVar 1)) (.one 2) (dYes) (dFn 1 O_is_number (dCons (dVar 2) (dNil)))) (dNil)))))) (sNil)
theorem Q_are_numbers : ∃ F : Op, F = fnOf ["many", "thing", "number"] D_are_numbers := ⟨_, rfl⟩
noncomputable def O_are_numbers : Op := Classical.choose Q_are_numbers
instance is_are_numbers : Is O_are_numbers ["many", "thing", "number"] D_are_numbers := ⟨Classical.choose_spec Q_are_numbers⟩
theorem sc_are_numbers : FnScope ["many", "thing", "number"] ["many", "thing"] (defScope (top 8)) := ⟨rfl, rfl, rfl, by decide +kernel, rfl, by decide +kernel, by decide +kernel⟩
theorem b_are_numbers : BindsAll "are_numbers" (top 8) ["many", "thing"] := fun _ _ _ _ _ _ us hl => match us, hl with | [_, _], _ => rfl
theorem c_are_numbers (fx : Facts K mg) : Callee P w K mg base 3 "are_numbers" (top 8) ["many", "thing"] O_are_numbers := by
  obtain ⟨fd, F⟩ := fx.F_are_numbers
  refine ⟨fx.g_are_numbers, fd, F, ?_⟩
  rw [is_are_numbers.eq]
  refine fn_den F sc_are_numbers fun cdv A outer s H E hr tk => ?_
  have nd := sc_are_numbers.nd
  exact (dss_cons (ds_ret (de_and (de_isi (de_var 1) fx.n_isinstance fx.n_tuple (by decide +kernel) (by decide)) (de_and (de_eq hr.units (de_len fx.n_len (da_cons (de_var 1) da_nil)) (de_var 0)) (de_one (de_callB (cr_all rfl) callD_all (by decide +kernel) fx.n_all (da_cons (de_lc [("number", 2)] (.one 2) rfl nd (by decide) (by exact blkB_ok (by kernel_rfl)) (di_seq (de_var 1)) (fun _ _ _ _ _ => (pg_name nd rfl (by first | exact .inl rfl | exact .inr rfl) (by first | exact .inl rfl | exact .inr rfl))) (fun _ _ _ _ _ => dts_nil) (fun _ _ _ _ _ => (de_callC (c_is_number fx) b_is_number hr (by omega) takes0 (da_cons (de_var 2) da_nil)))) da_nil))))))
      dss_nil)
noncomputable def D_is_bottom : SDen := sSeq (sRet (dAnd (dFn 1 O_is_integer (dCons (dVar 0) (dNil))) (dBin oGe (dVar 0) (dC (.int 1))))) (sNil)
theorem Q_is_bottom : ∃ F : Op, F = fnOf ["thing"] D_is_bottom := ⟨_, rfl⟩
noncomputable def O_is_bottom : Op := Classical.choose Q_is_bottom
instance is_is_bottom : Is O_is_bottom ["thing"] D_is_bottom := ⟨Classical.choose_spec Q_is_bottom⟩
theorem sc_is_bottom : FnScope ["thing"] ["thing"] (defScope (top 6)) := ⟨rfl, rfl, rfl, by decide +kernel, rfl, by decide +kernel, by decide +kernel⟩
theorem b_is_bottom : BindsAll "is_bottom" (top 6) ["thing"] := fun _ _ _ _ _ _ us hl => match us, hl with | [_], _ => rfl
theorem c_is_bottom (fx : Facts K mg) : Callee P w K mg base 2 "is_bottom" (top 6) ["thing"] O_is_bottom := by
  obtain ⟨fd, F⟩ := fx.F_is_bottom
  refine ⟨fx.g_is_bottom, fd, F, ?_⟩
  rw [is_is_bottom.eq]
  refine fn_den F sc_is_bottom fun cdv A outer s H E hr tk => ?_
  have nd := sc_is_bottom.nd
  exact (dss_cons (ds_ret (de_and (de_callC (c_is_integer fx) b_is_integer hr (by omega) tk (da_cons (de_var 0) da_nil)) (de_one (de_ge (de_var 0) de_int))))
      dss_nil)
noncomputable def D_is_pair : SDen := sSeq (sRet (dAnd (dIsi "tuple" (dVar 0)) (dBin oEq (dCall oLen (dCons (dVar 0) (dNil))) (dC (.int 2))))) (sNil)
theorem Q_is_pair : ∃ F : Op, F = fnOf ["thing"] D_is_pair := ⟨_, rfl⟩
noncomputable def O_is_pair : Op := Classical.choose Q_is_pair
instance is_is_pair : Is O_is_pair ["thing"] D_is_pair := ⟨Classical.choose_spec Q_is_pair⟩
theorem sc_is_pair : FnScope ["thing"] ["thing"] (defScope (top 7)) := ⟨rfl, rfl, rfl, by decide +kernel, rfl, by decide +kernel, by decide +kernel⟩
theorem b_is_pair : BindsAll "is_pair" (top 7) ["thing"] := fun _ _ _ _ _ _ us hl => match us, hl with | [_], _ => rfl
theorem c_is_pair (fx : Facts K mg) : Callee P w K mg base 1 "is_pair" (top 7) ["thing"] O_is_pair := by
  obtain ⟨fd, F⟩ := fx.F_is_pair
  refine ⟨fx.g_is_pair, fd, F, ?_⟩
  rw [is_is_pair.eq]
  refine fn_den F sc_is_pair fun cdv A outer s H E hr tk => ?_
  have nd := sc_is_pair.nd
  exact (dss_cons (ds_ret (de_and (de_isi (de_var 0) fx.n_isinstance fx.n_tuple (by decide +kernel) (by decide)) (de_one (de_eq hr.units (de_len fx.n_len (da_cons (de_var 0) da_nil)) de_int))))
      dss_nil)
noncomputable def D_is_load : SDen := sSeq (sIf (dNot (dAnd (dTru (dFn 1 O_is_pair (dCons (dVar 1) (dNil)))) (dAnd (dTru (dFn 2 O_are_numbers (dCons (dVar 0) (dCons (dBin oIx (dVar 1) (dC (.int 0))) (dNil))))) (dTru (dFn 1 O_is_bottom (dCons (dBin oIx (dVar 1) (dC (.int 1))) (dNil))))))) (sSeq (sRet (dC (.bl false))) (sNil)) (sNil)) (sSeq (sRet (dBin oEq (dFn 1 O_common_divisor (dCons (dLst (dStar (dBin oIx (dVar 1) (dC (.int 0))) (dCons (dBin oIx (dVar 1) (dC (.int 1))) (dNil)))) (dNil))) (dC (.int 1)))) (sNil))
theorem Q_is_load : ∃ F : Op, F = fnOf ["size", "thing"] D_is_load := ⟨_, rfl⟩
noncomputable def O_is_load : Op := Classical.choose Q_is_load
instance is_is_load : Is O_is_load ["size", "thing"] D_is_load := ⟨Classical.choose_spec Q_is_load⟩
theorem sc_is_load : FnScope ["size", "thing"] ["size", "thing"] (defScope (top 11)) := ⟨rfl, rfl, rfl, by decide +kernel, rfl, by decide +kernel, by decide +kernel⟩
theorem b_is_load : BindsAll "is_load" (top 11) ["size", "thing"] := fun _ _ _ _ _ _ us hl => match us, hl with | [_, _], _ => rfl
theorem c_is_load (fx : Facts K mg) : Callee P w K mg base 4 "is_load" (top 11) ["size", "thing"] O_is_load := by
  obtain ⟨fd, F⟩ := fx.F_is_load
  refine ⟨fx.g_is_load, fd, F, ?_⟩
  rw [is_is_load.eq]
  refine fn_den F sc_is_load fun cdv A outer s H E hr tk => ?_
  have nd := sc_is_load.nd
  exact (dss_cons (ds_if (dt_not (DW.dt (dw_and (dt_truth (de_callC (c_is_pair fx) b_is_pair hr (by omega) tk (da_cons (de_var 1) da_nil))) (dw_and (dt_truth (de_callC (c_are_numbers fx) b_are_numbers hr (by omega) tk (da_cons (de_var 0) (da_cons (de_ix (de_var 1) de_int) da_nil)))) (dw_and1 (dt_truth (de_callC (c_is_bottom fx) b_is_bottom hr (by omega) tk (da_cons (de_ix (de_var 1) de_int) da_nil)))))))) (dss_cons (ds_ret de_bl)
      dss_nil) dss_nil)
      (dss_cons (ds_ret (de_eq hr.units (de_callC (c_common_divisor fx) b_common_divisor hr (by omega) tk (da_cons (de_lst (da_star (de_ix (de_var 1) de_int) (da_cons (de_ix (de_var 1) de_int) da_nil))) da_nil)) de_int))
      dss_nil))
noncomputable def D_require : SDen := sSeq (sIf (dNot (dTru (dVar 0))) (sSeq (sRaise "NotUsable" ["at", "word"] [1, 0] (dCons (dVar 1) (dCons (dUn oNeg (dC (.int 1))) (dNil)))) (sNil)) (sNil)) (sNil)
theorem Q_require : ∃ F : Op, F = fnOf ["holds", "name"] D_require := ⟨_, rfl⟩
noncomputable def O_require : Op := Classical.choose Q_require
instance is_require : Is O_require ["holds", "name"] D_require := ⟨Classical.choose_spec Q_require⟩
theorem sc_require : FnScope ["holds", "name"] ["holds", "name"] (defScope (top 18)) := ⟨rfl, rfl, rfl, by decide +kernel, rfl, by decide +kernel, by decide +kernel⟩
theorem b_require : BindsAll "require" (top 18) ["holds", "name"] := fun _ _ _ _ _ _ us hl => match us, hl with | [_, _], _ => rfl
theorem c_require (fx : Facts K mg) : Callee P w K mg base 3 "require" (top 18) ["holds", "name"] O_require := by
  obtain ⟨fd, F⟩ := fx.F_require
  refine ⟨fx.g_require, fd, F, ?_⟩
  rw [is_require.eq]
  refine fn_den F sc_require fun cdv A outer s H E hr tk => ?_
  have nd := sc_require.nd
  exact (dss_cons (ds_if (dt_not (dt_truth (de_var 0))) (dss_cons (raise2C fx.x_NotUsable fx.no_NotUsable_word fx.no_NotUsable_at (i_NotUsable fx) hr (by omega) rfl tk (da_cons (de_var 1) (da_cons (de_neg de_int) da_nil)))
      dss_nil) dss_nil)
      dss_nil)
noncomputable def D_require_alike : SDen := sSeq (sExpr (dFn 2 O_require (dCons (dFn 2 O_is_load (dCons (dCall oLen (dCons (dBin oIx (dVar 0) (dC (.int 0))) (dNil))) (dCons (dVar 1) (dNil)))) (dCons (dC (.str "other")) (dNil))))) (sNil)
theorem Q_require_alike : ∃ F : Op, F = fnOf ["load", "other"] D_require_alike := ⟨_, rfl⟩
noncomputable def O_require_alike : Op := Classical.choose Q_require_alike
instance is_require_alike : Is O_require_alike ["load", "other"] D_require_alike := ⟨Classical.choose_spec Q_require_alike⟩
theorem sc_require_alike : FnScope ["load", "other"] ["load", "other"] (defScope (top 19)) := ⟨rfl, rfl, rfl, by decide +kernel, rfl, by decide +kernel, by decide +kernel⟩
theorem b_require_alike : BindsAll "require_alike" (top 19) ["load", "other"] := fun _ _ _ _ _ _ us hl => match us, hl with | [_, _], _ => rfl
theorem c_require_alike (fx : Facts K mg) : Callee P w K mg base 5 "require_alike" (top 19) ["load", "other"] O_require_alike := by
  obtain ⟨fd, F⟩ := fx.F_require_alike
  refine ⟨fx.g_require_alike, fd, F, ?_⟩
  rw [is_require_alike.eq]
  refine fn_den F sc_require_alike fun cdv A outer s H E hr tk => ?_
  have nd := sc_require_alike.nd
  exact (dss_cons (ds_expr (de_callC (c_require fx) b_require hr (by omega) tk (da_cons (de_callC (c_is_load fx) b_is_load hr (by omega) tk (da_cons (de_len fx.n_len (da_cons (de_ix (de_var 0) de_int) da_nil)) (da_cons (de_var 1) da_nil))) (da_cons de_str da_nil))))
      dss_nil)
noncomputable def D_added : SDen := sSeq (sExpr (dFn 2 O_require_alike (dCons (dVar 0) (dCons (dVar 1) (dNil))))) (sSeq (sRet (dFn 2 O_load_from (dCons (dLc [2, 3] (dItems (dFn 2 O_leveled (dCons (dVar 0) (dCons (dVar 1) (dNil))))) (.tup (.cons (.one 2) (.cons (.one 3) .nil))) (dYes) (dBin oPlus (dVar 2) (dVar 3))) (dCons (dBin oMul (dBin oIx (dVar 0) (dC (.int 1))) (dBin oIx (dVar 1) (dC (.int 1)))) (dNil))))) (sNil))
theorem Q_added : ∃ F : Op, F = fnOf ["load", "other", "top", "more"] D_added := ⟨_, rfl⟩
noncomputable def O_added : Op := Classical.choose Q_added
instance is_added : Is O_added ["load", "other", "top", "more"] D_added := ⟨Classical.choose_spec Q_added⟩
theorem sc_added : FnScope ["load", "other", "top", "more"] ["load", "other"] (defScope (top 39)) := ⟨rfl, rfl, rfl, by decide +kernel, rfl, by decide +kernel, by decide +kernel⟩
theorem b_added : BindsAll "added" (top 39) ["load", "other"] := fun _ _ _ _ _ _ us hl => match us, hl with | [_, _], _ => rfl
theorem bk_added_other_load : BindsKw "added" (top 39) ["load", "other"] ["other", "load"] [1, 0] := fun _ _ _ _ _ _ us hl => match us, hl with | [_, _], _ => rfl
theorem c_added (fx : Facts K mg) : Callee P w K mg base 6 "added" (top 39) ["load", "other"] O_added := by
  obtain ⟨fd, F⟩ := fx.F_added
  refine ⟨fx.g_added, fd, F, ?_⟩
  rw [is_added.eq]
  refine fn_den F sc_added fun cdv A outer s H E hr tk => ?_
  have nd := sc_added.nd
  exact (dss_cons (ds_expr (de_callC (c_require_alike fx) b_require_alike hr (by omega) tk (da_cons (de_var 0) (da_cons (de_var 1) da_nil))))
      (dss_cons (ds_ret (de_callC (c_load_from fx) b_load_from hr (by omega) tk (da_cons (de_lc [("top", 2), ("more", 3)] (.tup (.cons (.one 2) (.cons (.one 3) .nil))) rfl nd (by decide) (by exact blkB_ok (by kernel_rfl)) (di_seq (de_callC (c_leveled fx) b_leveled hr (by omega) tk (da_cons (de_var 0) (da_cons (de_var 1) da_nil)))) (fun _ _ _ _ _ => (pg_tup rfl (pgs_cons (pg_name nd rfl (by first | exact .inl rfl | exact .inr rfl) (by first | exact .inl rfl | exact .inr rfl)) (pgs_cons (pg_name nd rfl (by first | exact .inl rfl | exact .inr rfl) (by first | exact .inl rfl | exact .inr rfl)) pgs_nil)))) (fun _ _ _ _ _ => dts_nil) (fun _ _ _ _ _ => (de_add (de_var 2) (de_var 3)))) (da_cons (de_mul (de_ix (de_var 0) de_int) (de_ix (de_var 1) de_int)) da_nil))))
      dss_nil))
noncomputable def D_is_below : SDen := sSeq (sRet (dAnd (dFn 1 O_is_number (dCons (dVar 1) (dNil))) (dBin oLt (dVar 1) (dVar 0)))) (sNil)
theorem Q_is_below : ∃ F : Op, F = fnOf ["size", "thing"] D_is_below := ⟨_, rfl⟩
noncomputable def O_is_below : Op := Classical.choose Q_is_below
instance is_is_below : Is O_is_below ["size", "thing"] D_is_below := ⟨Classical.choose_spec Q_is_below⟩
theorem sc_is_below : FnScope ["size", "thing"] ["size", "thing"] (defScope (top 5)) := ⟨rfl, rfl, rfl, by decide +kernel, rfl, by decide +kernel, by decide +kernel⟩
theorem b_is_below : BindsAll "is_below" (top 5) ["size", "thing"] := fun _ _ _ _ _ _ us hl => match us, hl with | [_, _], _ => rfl
theorem c_is_below (fx : Facts K mg) : Callee P w K mg base 3 "is_below" (top 5) ["size", "thing"] O_is_below := by
  obtain ⟨fd, F⟩ := fx.F_is_below
  refine ⟨fx.g_is_below, fd, F, ?_⟩
  rw [is_is_below.eq]
  refine fn_den F sc_is_below fun cdv A outer s H E hr tk => ?_
  have nd := sc_is_below.nd
  exact (dss_cons (ds_ret (de_and (de_callC (c_is_number fx) b_is_number hr (by omega) tk (da_cons (de_var 1) da_nil)) (de_one (de_lt (de_var 1) (de_var 0)))))
      dss_nil)
noncomputable def D_reduced : SDen := sSeq (sSet 2 (dCall oGcd (dCons (dVar 0) (dCons (dVar 1) (dNil))))) (sSeq (sIf (dBin oLt (dVar 1) (dC (.int 0))) (sSeq (sRet (dTup (dCons (dBin oDiv (dUn oNeg (dVar 0)) (dVar 2)) (dCons (dBin oDiv (dUn oNeg (dVar 1)) (dVar 2)) (dNil))))) (sNil)) (sNil)) (sSeq (sRet (dTup (dCons (dBin oDiv (dVar 0) (dVar 2)) (dCons (dBin oDiv (dVar 1) (dVar 2)) (dNil))))) (sNil)))
theorem Q_reduced : ∃ F : Op, F = fnOf ["top", "bottom", "common"] D_reduced := ⟨_, rfl⟩
noncomputable def O_reduced : Op := Classical.choose Q_reduced
instance is_reduced : Is O_reduced ["top", "bottom", "common"] D_reduced := ⟨Classical.choose_spec Q_reduced⟩
theorem sc_reduced : FnScope ["top", "bottom", "common"] ["top", "bottom"] (defScope (top 21)) := ⟨rfl, rfl, rfl, by decide +kernel, rfl, by decide +kernel, by decide +kernel⟩
theorem b_reduced : BindsAll "reduced" (top 21) ["top", "bottom"] := fun _ _ _ _ _ _ us hl => match us, hl with | [_, _], _ => rfl
theorem c_reduced (fx : Facts K mg) : Callee P w K mg base 1 "reduced" (top 21) ["top", "bottom"] O_reduced := by
  obtain ⟨fd, F⟩ := fx.F_reduced
  refine ⟨fx.g_reduced, fd, F, ?_⟩
  rw [is_reduced.eq]
  refine fn_den F sc_reduced fun cdv A outer s H E hr tk => ?_
  have nd := sc_reduced.nd
  exact (dss_cons (ds_set 2 nd (de_callM cr_gcd callD_gcd fx.k_gcd (da_cons (de_var 0) (da_cons (de_var 1) da_nil))))
      (dss_cons (ds_if (dt_lt (de_var 1) de_int) (dss_cons (ds_ret (de_tup (da_cons (de_div (de_neg (de_var 0)) (de_var 2)) (da_cons (de_div (de_neg (de_var 1)) (de_var 2)) da_nil))))
      dss_nil) dss_nil)
      (dss_cons (ds_ret (de_tup (da_cons (de_div (de_var 0) (de_var 2)) (da_cons (de_div (de_var 1) (de_var 2)) da_nil))))
      dss_nil)))
noncomputable def D_entry_of : SDen := sSeq (sExpr (dFn 2 O_require (dCons (dFn 2 O_is_below (dCons (dCall oLen (dCons (dBin oIx (dVar 0) (dC (.int 0))) (dNil))) (dCons (dVar 1) (dNil)))) (dCons (dC (.str "place")) (dNil))))) (sSeq (sRet (dFn 2 O_reduced (dCons (dBin oIx (dBin oIx (dVar 0) (dC (.int 0))) (dVar 1)) (dCons (dBin oIx (dVar 0) (dC (.int 1))) (dNil))))) (sNil))
theorem Q_entry_of : ∃ F : Op, F = fnOf ["load", "place"] D_entry_of := ⟨_, rfl⟩
noncomputable def O_entry_of : Op := Classical.choose Q_entry_of
instance is_entry_of : Is O_entry_of ["load", "place"] D_entry_of := ⟨Classical.choose_spec Q_entry_of⟩
theorem sc_entry_of : FnScope ["load", "place"] ["load", "place"] (defScope (top 35)) := ⟨rfl, rfl, rfl, by decide +kernel, rfl, by decide +kernel, by decide +kernel⟩
theorem b_entry_of : BindsAll "entry_of" (top 35) ["load", "place"] := fun _ _ _ _ _ _ us hl => match us, hl with | [_, _], _ => rfl
theorem bk_entry_of_place_load : BindsKw "entry_of" (top 35) ["load", "place"] ["place", "load"] [1, 0] := fun _ _ _ _ _ _ us hl => match us, hl with | [_, _], _ => rfl
theorem c_entry_of (fx : Facts K mg) : Callee P w K mg base 4 "entry_of" (top 35) ["load", "place"] O_entry_of := by
  obtain ⟨fd, F⟩ := fx.F_entry_of
  refine ⟨fx.g_entry_of, fd, F, ?_⟩
  rw [is_entry_of.eq]
  refine fn_den F sc_entry_of fun cdv A outer s H E hr tk => ?_
  have nd := sc_entry_of.nd
  exact (dss_cons (ds_expr (de_callC (c_require fx) b_require hr (by omega) tk (da_cons (de_callC (c_is_below fx) b_is_below hr (by omega) tk (da_cons (de_len fx.n_len (da_cons (de_ix (de_var 0) de_int) da_nil)) (da_cons (de_var 1) da_nil))) (da_cons de_str da_nil))))
      (dss_cons (ds_ret (de_callC (c_reduced fx) b_reduced hr (by omega) tk (da_cons (de_ix (de_ix (de_var 0) de_int) (de_var 1)) (da_cons (de_ix (de_var 0) de_int) da_nil))))
      dss_nil))
noncomputable def D_places_above : SDen := sSeq (sRet (dCall oTuple1 (dCons (dLc [2, 3, 4] (dEnum (dFn 2 O_leveled (dCons (dVar 0) (dCons (dVar 1) (dNil))))) (.tup (.cons (.one 2) (.cons (.tup (.cons (.one 3) (.cons (.one 4) .nil))) .nil))) (dBin oGt (dVar 3) (dVar 4)) (dVar 2)) (dNil)))) (sNil)
theorem Q_places_above : ∃ F : Op, F = fnOf ["load", "other", "i", "top", "limit"] D_places_above := ⟨_, rfl⟩
noncomputable def O_places_above : Op := Classical.choose Q_places_above
instance is_places_above : Is O_places_above ["load", "other", "i", "top", "limit"] D_places_above := ⟨Classical.choose_spec Q_places_above⟩
theorem sc_places_above : FnScope ["load", "other", "i", "top", "limit"] ["load", "other"] (defScope (top 44)) := ⟨rfl, rfl, rfl, by decide +kernel, rfl, by decide +kernel, by decide +kernel⟩
theorem b_places_above : BindsAll "places_above" (top 44) ["load", "other"] := fun _ _ _ _ _ _ us hl => match us, hl with | [_, _], _ => rfl
theorem c_places_above (fx : Facts K mg) : Callee P w K mg base 2 "places_above" (top 44) ["load", "other"] O_places_above := by
  obtain ⟨fd, F⟩ := fx.F_places_above
  refine ⟨fx.g_places_above, fd, F, ?_⟩
  rw [is_places_above.eq]
  refine fn_den F sc_places_above fun cdv A outer s H E hr tk => ?_
  have nd := sc_places_above.nd
  exact (dss_cons (ds_ret (de_callTy call_tuple_of callD_tuple1 (by decide +kernel) fx.n_tuple (da_cons (de_lc [("i", 2), ("top", 3), ("limit", 4)] (.tup (.cons (.one 2) (.cons (.tup (.cons (.one 3) (.cons (.one 4) .nil))) .nil))) rfl nd (by decide) (by exact blkB_ok (by kernel_rfl)) (di_enum fx.n_enumerate (de_callC (c_leveled fx) b_leveled hr (by omega) tk (da_cons (de_var 0) (da_cons (de_var 1) da_nil)))) (fun _ _ _ _ _ => (pg_tup rfl (pgs_cons (pg_name nd rfl (by first | exact .inl rfl | exact .inr rfl) (by first | exact .inl rfl | exact .inr rfl)) (pgs_cons (pg_tup rfl (pgs_cons (pg_name nd rfl (by first | exact .inl rfl | exact .inr rfl) (by first | exact .inl rfl | exact .inr rfl)) (pgs_cons (pg_name nd rfl (by first | exact .inl rfl | exact .inr rfl) (by first | exact .inl rfl | exact .inr rfl)) pgs_nil))) pgs_nil)))) (fun _ _ _ _ _ => (dts_one (dt_gt (de_var 3) (de_var 4)))) (fun _ _ _ _ _ => (de_var 2))) da_nil)))
      dss_nil)
noncomputable def D_first_above : SDen := sSeq (sExpr (dFn 2 O_require_alike (dCons (dVar 0) (dCons (dVar 1) (dNil))))) (sSeq (sSet 2 (dFn 2 O_places_above (dCons (dVar 0) (dCons (dVar 1) (dNil))))) (sSeq (sRet (dIf (dTru (dVar 2)) (dBin oIx (dVar 2) (dC (.int 0))) (dC .non))) (sNil)))
theorem Q_first_above : ∃ F : Op, F = fnOf ["load", "other", "above"] D_first_above := ⟨_, rfl⟩
noncomputable def O_first_above : Op := Classical.choose Q_first_above
instance is_first_above : Is O_first_above ["load", "other", "above"] D_first_above := ⟨Classical.choose_spec Q_first_above⟩
theorem sc_first_above : FnScope ["load", "other", "above"] ["load", "other"] (defScope (top 48)) := ⟨rfl, rfl, rfl, by decide +kernel, rfl, by decide +kernel, by decide +kernel⟩
theorem b_first_above : BindsAll "first_above" (top 48) ["load", "other"] := fun _ _ _ _ _ _ us hl => match us, hl with | [_, _], _ => rfl
theorem bk_first_above_other_load : BindsKw "first_above" (top 48) ["load", "other"] ["other", "load"] [1, 0] := fun _ _ _ _ _ _ us hl => match us, hl with | [_, _], _ => rfl
theorem c_first_above (fx : Facts K mg) : Callee P w K mg base 6 "first_above" (top 48) ["load", "other"] O_first_above := by
  obtain ⟨fd, F⟩ := fx.F_first_above
  refine ⟨fx.g_first_above, fd, F, ?_⟩
  rw [is_first_above.eq]
  refine fn_den F sc_first_above fun cdv A outer s H E hr tk => ?_
  have nd := sc_first_above.nd
  exact (dss_cons (ds_expr (de_callC (c_require_alike fx) b_require_alike hr (by omega) tk (da_cons (de_var 0) (da_cons (de_var 1) da_nil))))
      (dss_cons (ds_set 2 nd (de_callC (c_places_above fx) b_places_above hr (by omega) tk (da_cons (de_var 0) (da_cons (de_var 1) da_nil))))
      (dss_cons (ds_ret (de_if (dt_truth (de_var 2)) (de_ix (de_var 2) de_int) de_non))
      dss_nil)))
noncomputable def D_greater_of : SDen := sSeq (sExpr (dFn 2 O_require_alike (dCons (dVar 0) (dCons (dVar 1) (dNil))))) (sSeq (sRet (dFn 2 O_load_from (dCons (dLc [2, 3] (dItems (dFn 2 O_leveled (dCons (dVar 0) (dCons (dVar 1) (dNil))))) (.tup (.cons (.one 2) (.cons (.one 3) .nil))) (dYes) (dCall oMax2 (dCons (dVar 2) (dCons (dVar 3) (dNil))))) (dCons (dBin oMul (dBin oIx (dVar 0) (dC (.int 1))) (dBin oIx (dVar 1) (dC (.int 1)))) (dNil))))) (sNil))
theorem Q_greater_of : ∃ F : Op, F = fnOf ["load", "other", "top", "limit"] D_greater_of := ⟨_, rfl⟩
noncomputable def O_greater_of : Op := Classical.choose Q_greater_of
instance is_greater_of : Is O_greater_of ["load", "other", "top", "limit"] D_greater_of := ⟨Classical.choose_spec Q_greater_of⟩
theorem sc_greater_of : FnScope ["load", "other", "top", "limit"] ["load", "other"] (defScope (top 47)) := ⟨rfl, rfl, rfl, by decide +kernel, rfl, by decide +kernel, by decide +kernel⟩
theorem b_greater_of : BindsAll "greater_of" (top 47) ["load", "other"] := fun _ _ _ _ _ _ us hl => match us, hl with | [_, _], _ => rfl
theorem bk_greater_of_other_load : BindsKw "greater_of" (top 47) ["load", "other"] ["other", "load"] [1, 0] := fun _ _ _ _ _ _ us hl => match us, hl with | [_, _], _ => rfl
theorem c_greater_of (fx : Facts K mg) : Callee P w K mg base 6 "greater_of" (top 47) ["load", "other"] O_greater_of := by
  obtain ⟨fd, F⟩ := fx.F_greater_of
  refine ⟨fx.g_greater_of, fd, F, ?_⟩
  rw [is_greater_of.eq]
  refine fn_den F sc_greater_of fun cdv A outer s H E hr tk => ?_
  have nd := sc_greater_of.nd
  exact (dss_cons (ds_expr (de_callC (c_require_alike fx) b_require_alike hr (by omega) tk (da_cons (de_var 0) (da_cons (de_var 1) da_nil))))
      (dss_cons (ds_ret (de_callC (c_load_from fx) b_load_from hr (by omega) tk (da_cons (de_lc [("top", 2), ("limit", 3)] (.tup (.cons (.one 2) (.cons (.one 3) .nil))) rfl nd (by decide) (by exact blkB_ok (by kernel_rfl)) (di_seq (de_callC (c_leveled fx) b_leveled hr (by omega) tk (da_cons (de_var 0) (da_cons (de_var 1) da_nil)))) (fun _ _ _ _ _ => (pg_tup rfl (pgs_cons (pg_name nd rfl (by first | exact .inl rfl | exact .inr rfl) (by first | exact .inl rfl | exact .inr rfl)) (pgs_cons (pg_name nd rfl (by first | exact .inl rfl | exact .inr rfl) (by first | exact .inl rfl | exact .inr rfl)) pgs_nil)))) (fun _ _ _ _ _ => dts_nil) (fun _ _ _ _ _ => (de_callB (call_max2 rfl) callD_max2 (by decide +kernel) fx.n_max (da_cons (de_var 2) (da_cons (de_var 3) da_nil))))) (da_cons (de_mul (de_ix (de_var 0) de_int) (de_ix (de_var 1) de_int)) da_nil))))
      dss_nil))
noncomputable def D_is_quotient : SDen := sSeq (sRet (dAnd (dFn 1 O_is_pair (dCons (dVar 0) (dNil))) (dAnd (dFn 1 O_is_integer (dCons (dBin oIx (dVar 0) (dC (.int 0))) (dNil))) (dAnd (dFn 1 O_is_bottom (dCons (dBin oIx (dVar 0) (dC (.int 1))) (dNil))) (dBin oEq (dCall oGcd (dCons (dBin oIx (dVar 0) (dC (.int 0))) (dCons (dBin oIx (dVar 0) (dC (.int 1))) (dNil)))) (dC (.int 1))))))) (sNil)
theorem Q_is_quotient : ∃ F : Op, F = fnOf ["thing"] D_is_quotient := ⟨_, rfl⟩
noncomputable def O_is_quotient : Op := Classical.choose Q_is_quotient
instance is_is_quotient : Is O_is_quotient ["thing"] D_is_quotient := ⟨Classical.choose_spec Q_is_quotient⟩
theorem sc_is_quotient : FnScope ["thing"] ["thing"] (defScope (top 9)) := ⟨rfl, rfl, rfl, by decide +kernel, rfl, by decide +kernel, by decide +kernel⟩
theorem b_is_quotient : BindsAll "is_quotient" (top 9) ["thing"] := fun _ _ _ _ _ _ us hl => match us, hl with | [_], _ => rfl
theorem c_is_quotient (fx : Facts K mg) : Callee P w K mg base 3 "is_quotient" (top 9) ["thing"] O_is_quotient := by
  obtain ⟨fd, F⟩ := fx.F_is_quotient
  refine ⟨fx.g_is_quotient, fd, F, ?_⟩
  rw [is_is_quotient.eq]
  refine fn_den F sc_is_quotient fun cdv A outer s H E hr tk => ?_
  have nd := sc_is_quotient.nd
  exact (dss_cons (ds_ret (de_and (de_callC (c_is_pair fx) b_is_pair hr (by omega) tk (da_cons (de_var 0) da_nil)) (de_and (de_callC (c_is_integer fx) b_is_integer hr (by omega) tk (da_cons (de_ix (de_var 0) de_int) da_nil)) (de_and (de_callC (c_is_bottom fx) b_is_bottom hr (by omega) tk (da_cons (de_ix (de_var 0) de_int) da_nil)) (de_one (de_eq hr.units (de_callM cr_gcd callD_gcd fx.k_gcd (da_cons (de_ix (de_var 0) de_int) (da_cons (de_ix (de_var 0) de_int) da_nil))) de_int))))))
      dss_nil)
noncomputable def D_require_quotients : SDen := sSeq (sExpr (dFn 2 O_require (dCons (dFn 1 O_is_quotient (dCons (dVar 0) (dNil))) (dCons (dC (.str "one")) (dNil))))) (sSeq (sExpr (dFn 2 O_require (dCons (dFn 1 O_is_quotient (dCons (dVar 1) (dNil))) (dCons (dC (.str "other")) (dNil))))) (sNil))
theorem Q_require_quotients : ∃ F : Op, F = fnOf ["one", "other"] D_require_quotients := ⟨_, rfl⟩
noncomputable def O_require_quotients : Op := Classical.choose Q_require_quotients
instance is_require_quotients : Is O_require_quotients ["one", "other"] D_require_quotients := ⟨Classical.choose_spec Q_require_quotients⟩
theorem sc_require_quotients : FnScope ["one", "other"] ["one", "other"] (defScope (top 22)) := ⟨rfl, rfl, rfl, by decide +kernel, rfl, by decide +kernel, by decide +kernel⟩
theorem b_require_quotients : BindsAll "require_quotients" (top 22) ["one", "other"] := fun _ _ _ _ _ _ us hl => match us, hl with | [_, _], _ => rfl
theorem c_require_quotients (fx : Facts K mg) : Callee P w K mg base 4 "require_quotients" (top 22) ["one", "other"] O_require_quotients := by
  obtain ⟨fd, F⟩ := fx.F_require_quotients
  refine ⟨fx.g_require_quotients, fd, F, ?_⟩
  rw [is_require_quotients.eq]
  refine fn_den F sc_require_quotients fun cdv A outer s H E hr tk => ?_
  have nd := sc_require_quotients.nd
  exact (dss_cons (ds_expr (de_callC (c_require fx) b_require hr (by omega) tk (da_cons (de_callC (c_is_quotient fx) b_is_quotient hr (by omega) tk (da_cons (de_var 0) da_nil)) (da_cons de_str da_nil))))
      (dss_cons (ds_expr (de_callC (c_require fx) b_require hr (by omega) tk (da_cons (de_callC (c_is_quotient fx) b_is_quotient hr (by omega) tk (da_cons (de_var 1) da_nil)) (da_cons de_str da_nil))))
      dss_nil))
noncomputable def D_is_less : SDen := sSeq (sExpr (dFn 2 O_require_quotients (dCons (dVar 0) (dCons (dVar 1) (dNil))))) (sSeq (sRet (dBin oLt (dBin oMul (dBin oIx (dVar 0) (dC (.int 0))) (dBin oIx (dVar 1) (dC (.int 1)))) (dBin oMul (dBin oIx (dVar 1) (dC (.int 0))) (dBin oIx (dVar 0) (dC (.int 1)))))) (sNil))
theorem Q_is_less : ∃ F : Op, F = fnOf ["one", "other"] D_is_less := ⟨_, rfl⟩
noncomputable def O_is_less : Op := Classical.choose Q_is_less
instance is_is_less : Is O_is_less ["one", "other"] D_is_less := ⟨Classical.choose_spec Q_is_less⟩
theorem sc_is_less : FnScope ["one", "other"] ["one", "other"] (defScope (top 28)) := ⟨rfl, rfl, rfl, by decide +kernel, rfl, by decide +kernel, by decide +kernel⟩
theorem b_is_less : BindsAll "is_less" (top 28) ["one", "other"] := fun _ _ _ _ _ _ us hl => match us, hl with | [_, _], _ => rfl
theorem bk_is_less_other_one : BindsKw "is_less" (top 28) ["one", "other"] ["other", "one"] [1, 0] := fun _ _ _ _ _ _ us hl => match us, hl with | [_, _], _ => rfl
theorem c_is_less (fx : Facts K mg) : Callee P w K mg base 5 "is_less" (top 28) ["one", "other"] O_is_less := by
  obtain ⟨fd, F⟩ := fx.F_is_less
  refine ⟨fx.g_is_less, fd, F, ?_⟩
  rw [is_is_less.eq]
  refine fn_den F sc_is_less fun cdv A outer s H E hr tk => ?_
  have nd := sc_is_less.nd
  exact (dss_cons (ds_expr (de_callC (c_require_quotients fx) b_require_quotients hr (by omega) tk (da_cons (de_var 0) (da_cons (de_var 1) da_nil))))
      (dss_cons (ds_ret (de_lt (de_mul (de_ix (de_var 0) de_int) (de_ix (de_var 1) de_int)) (de_mul (de_ix (de_var 1) de_int) (de_ix (de_var 0) de_int))))
      dss_nil))
noncomputable def D_is_within : SDen := sSeq (sExpr (dFn 2 O_require_alike (dCons (dVar 0) (dCons (dVar 1) (dNil))))) (sSeq (sRet (dNotT (dFn 2 O_places_above (dCons (dVar 0) (dCons (dVar 1) (dNil)))))) (sNil))
theorem Q_is_within : ∃ F : Op, F = fnOf ["load", "other"] D_is_within := ⟨_, rfl⟩
noncomputable def O_is_within : Op := Classical.choose Q_is_within
instance is_is_within : Is O_is_within ["load", "other"] D_is_within := ⟨Classical.choose_spec Q_is_within⟩
theorem sc_is_within : FnScope ["load", "other"] ["load", "other"] (defScope (top 45)) := ⟨rfl, rfl, rfl, by decide +kernel, rfl, by decide +kernel, by decide +kernel⟩
theorem b_is_within : BindsAll "is_within" (top 45) ["load", "other"] := fun _ _ _ _ _ _ us hl => match us, hl with | [_, _], _ => rfl
theorem bk_is_within_other_load : BindsKw "is_within" (top 45) ["load", "other"] ["other", "load"] [1, 0] := fun _ _ _ _ _ _ us hl => match us, hl with | [_, _], _ => rfl
theorem c_is_within (fx : Facts K mg) : Callee P w K mg base 6 "is_within" (top 45) ["load", "other"] O_is_within := by
  obtain ⟨fd, F⟩ := fx.F_is_within
  refine ⟨fx.g_is_within, fd, F, ?_⟩
  rw [is_is_within.eq]
  refine fn_den F sc_is_within fun cdv A outer s H E hr tk => ?_
  have nd := sc_is_within.nd
  exact (dss_cons (ds_expr (de_callC (c_require_alike fx) b_require_alike hr (by omega) tk (da_cons (de_var 0) (da_cons (de_var 1) da_nil))))
      (dss_cons (ds_ret (de_notT (de_callC (c_places_above fx) b_places_above hr (by omega) tk (da_cons (de_var 0) (da_cons (de_var 1) da_nil)))))
      dss_nil))
noncomputable def D_lesser_of : SDen := sSeq (sExpr (dFn 2 O_require_alike (dCons (dVar 0) (dCons (dVar 1) (dNil))))) (sSeq (sRet (dFn 2 O_load_from (dCons (dLc [2, 3] (dItems (dFn 2 O_leveled (dCons (dVar 0) (dCons (dVar 1) (dNil))))) (.tup (.cons (.one 2) (.cons (.one 3) .nil))) (dYes) (dCall oMin2 (dCons (dVar 2) (dCons (dVar 3) (dNil))))) (dCons (dBin oMul (dBin oIx (dVar 0) (dC (.int 1))) (dBin oIx (dVar 1) (dC (.int 1)))) (dNil))))) (sNil))
theorem Q_lesser_of : ∃ F : Op, F = fnOf ["load", "other", "top", "limit"] D_lesser_of := ⟨_, rfl⟩
noncomputable def O_lesser_of : Op := Classical.choose Q_lesser_of
instance is_lesser_of : Is O_lesser_of ["load", "other", "top", "limit"] D_lesser_of := ⟨Classical.choose_spec Q_lesser_of⟩
theorem sc_lesser_of : FnScope ["load", "other", "top", "limit"] ["load", "other"] (defScope (top 46)) := ⟨rfl, rfl, rfl, by decide +kernel, rfl, by decide +kernel, by decide +kernel⟩
theorem b_lesser_of : BindsAll "lesser_of" (top 46) ["load", "other"] := fun _ _ _ _ _ _ us hl => match us, hl with | [_, _], _ => rfl
theorem bk_lesser_of_other_load : BindsKw "lesser_of" (top 46) ["load", "other"] ["other", "load"] [1, 0] := fun _ _ _ _ _ _ us hl => match us, hl with | [_, _], _ => rfl
theorem c_lesser_of (fx : Facts K mg) : Callee P w K mg base 6 "lesser_of" (top 46) ["load", "other"] O_lesser_of := by
  obtain ⟨fd, F⟩ := fx.F_lesser_of
  refine ⟨fx.g_lesser_of, fd, F, ?_⟩
  rw [is_lesser_of.eq]
  refine fn_den F sc_lesser_of fun cdv A outer s H E hr tk => ?_
  have nd := sc_lesser_of.nd
  exact (dss_cons (ds_expr (de_callC (c_require_alike fx) b_require_alike hr (by omega) tk (da_cons (de_var 0) (da_cons (de_var 1) da_nil))))
      (dss_cons (ds_ret (de_callC (c_load_from fx) b_load_from hr (by omega) tk (da_cons (de_lc [("top", 2), ("limit", 3)] (.tup (.cons (.one 2) (.cons (.one 3) .nil))) rfl nd (by decide) (by exact blkB_ok (by kernel_rfl)) (di_seq (de_callC (c_leveled fx) b_leveled hr (by omega) tk (da_cons (de_var 0) (da_cons (de_var 1) da_nil)))) (fun _ _ _ _ _ => (pg_tup rfl (pgs_cons (pg_name nd rfl (by first | exact .inl rfl | exact .inr rfl) (by first | exact .inl rfl | exact .inr rfl)) (pgs_cons (pg_name nd rfl (by first | exact .inl rfl | exact .inr rfl) (by first | exact .inl rfl | exact .inr rfl)) pgs_nil)))) (fun _ _ _ _ _ => dts_nil) (fun _ _ _ _ _ => (de_callB (call_min2 rfl) callD_min2 (by decide +kernel) fx.n_min (da_cons (de_var 2) (da_cons (de_var 3) da_nil))))) (da_cons (de_mul (de_ix (de_var 0) de_int) (de_ix (de_var 1) de_int)) da_nil))))
      dss_nil))
noncomputable def D_is_amount : SDen := sSeq (sRet (dAnd (dFn 1 O_is_quotient (dCons (dVar 0) (dNil))) (dBin oGe (dBin oIx (dVar 0) (dC (.int 0))) (dC (.int 0))))) (sNil)
theorem Q_is_amount : ∃ F : Op, F = fnOf ["thing"] D_is_amount := ⟨_, rfl⟩
noncomputable def O_is_amount : Op := Classical.choose Q_is_amount
instance is_is_amount : Is O_is_amount ["thing"] D_is_amount := ⟨Classical.choose_spec Q_is_amount⟩
theorem sc_is_amount : FnScope ["thing"] ["thing"] (defScope (top 10)) := ⟨rfl, rfl, rfl, by decide +kernel, rfl, by decide +kernel, by decide +kernel⟩
theorem b_is_amount : BindsAll "is_amount" (top 10) ["thing"] := fun _ _ _ _ _ _ us hl => match us, hl with | [_], _ => rfl
theorem c_is_amount (fx : Facts K mg) : Callee P w K mg base 4 "is_amount" (top 10) ["thing"] O_is_amount := by
  obtain ⟨fd, F⟩ := fx.F_is_amount
  refine ⟨fx.g_is_amount, fd, F, ?_⟩
  rw [is_is_amount.eq]
  refine fn_den F sc_is_amount fun cdv A outer s H E hr tk => ?_
  have nd := sc_is_amount.nd
  exact (dss_cons (ds_ret (de_and (de_callC (c_is_quotient fx) b_is_quotient hr (by omega) tk (da_cons (de_var 0) da_nil)) (de_one (de_ge (de_ix (de_var 0) de_int) de_int))))
      dss_nil)
noncomputable def D_are_amounts : SDen := sSeq (sRet (dAnd (dIsi "tuple" (dVar 0)) (dAnd (dBin oGt (dCall oLen (dCons (dVar 0) (dNil))) (dC (.int 0))) (dCall oAll (dCons (dLc [1] (dItems (dVar 0)) (.one 1) (dYes) (dFn 1 O_is_amount (dCons (dVar 1) (dNil)))) (dNil)))))) (sNil)
theorem Q_are_amounts : ∃ F : Op, F = fnOf ["thing", "quotient"] D_are_amounts := ⟨_, rfl⟩
noncomputable def O_are_amounts : Op := Classical.choose Q_are_amounts
instance is_are_amounts : Is O_are_amounts ["thing", "quotient"] D_are_amounts := ⟨Classical.choose_spec Q_are_amounts⟩
theorem sc_are_amounts : FnScope ["thing", "quotient"] ["thing"] (defScope (top 33)) := ⟨rfl, rfl, rfl, by decide +kernel, rfl, by decide +kernel, by decide +kernel⟩
theorem b_are_amounts : BindsAll "are_amounts" (top 33) ["thing"] := fun _ _ _ _ _ _ us hl => match us, hl with | [_], _ => rfl
theorem c_are_amounts (fx : Facts K mg) : Callee P w K mg base 5 "are_amounts" (top 33) ["thing"] O_are_amounts := by
  obtain ⟨fd, F⟩ := fx.F_are_amounts
  refine ⟨fx.g_are_amounts, fd, F, ?_⟩
  rw [is_are_amounts.eq]
  refine fn_den F sc_are_amounts fun cdv A outer s H E hr tk => ?_
  have nd := sc_are_amounts.nd
  exact (dss_cons (ds_ret (de_and (de_isi (de_var 0) fx.n_isinstance fx.n_tuple (by decide +kernel) (by decide)) (de_and (de_gt (de_len fx.n_len (da_cons (de_var 0) da_nil)) de_int) (de_one (de_callB (cr_all rfl) callD_all (by decide +kernel) fx.n_all (da_cons (de_lc [("quotient", 1)] (.one 1) rfl nd (by decide) (by exact blkB_ok (by kernel_rfl)) (di_seq (de_var 0)) (fun _ _ _ _ _ => (pg_name nd rfl (by first | exact .inl rfl | exact .inr rfl) (by first | exact .inl rfl | exact .inr rfl))) (fun _ _ _ _ _ => dts_nil) (fun _ _ _ _ _ => (de_callC (c_is_amount fx) b_is_amount hr (by omega) takes0 (da_cons (de_var 1) da_nil)))) da_nil))))))
      dss_nil)
noncomputable def D_common_multiple : SDen := sSeq (sSet 1 (dC (.int 1))) (sSeq (sFor (dItems (dVar 0)) (tName 2) (sSeq (sSet 1 (dCall oLcm (dCons (dVar 1) (dCons (dVar 2) (dNil))))) (sNil))) (sSeq (sRet (dVar 1)) (sNil)))
theorem Q_common_multiple : ∃ F : Op, F = fnOf ["bottoms", "found", "bottom"] D_common_multiple := ⟨_, rfl⟩
noncomputable def O_common_multiple : Op := Classical.choose Q_common_multiple
instance is_common_multiple : Is O_common_multiple ["bottoms", "found", "bottom"] D_common_multiple := ⟨Classical.choose_spec Q_common_multiple⟩
theorem sc_common_multiple : FnScope ["bottoms", "found", "bottom"] ["bottoms"] (defScope (top 30)) := ⟨rfl, rfl, rfl, by decide +kernel, rfl, by decide +kernel, by decide +kernel⟩
theorem b_common_multiple : BindsAll "common_multiple" (top 30) ["bottoms"] := fun _ _ _ _ _ _ us hl => match us, hl with | [_], _ => rfl
theorem c_common_multiple (fx : Facts K mg) : Callee P w K mg base 1 "common_multiple" (top 30) ["bottoms"] O_common_multiple := by
  obtain ⟨fd, F⟩ := fx.F_common_multiple
  refine ⟨fx.g_common_multiple, fd, F, ?_⟩
  rw [is_common_multiple.eq]
  refine fn_den F sc_common_multiple fun cdv A outer s H E hr tk => ?_
  have nd := sc_common_multiple.nd
  exact (dss_cons (ds_set 1 nd de_int)
      (dss_cons (ds_for (L2.passes_of rfl) rfl (di_seq (de_var 0)) (dg_name 2 nd) (dss_cons (ds_set 1 nd (de_callM call_lcm callD_lcm fx.k_lcm (da_cons (de_var 1) (da_cons (de_var 2) da_nil))))
      dss_nil))
      (dss_cons (ds_ret (de_var 1))
      dss_nil)))
noncomputable def D_load_of : SDen := sSeq (sExpr (dFn 2 O_require (dCons (dFn 1 O_are_amounts (dCons (dVar 0) (dNil))) (dCons (dC (.str "quotients")) (dNil))))) (sSeq (sSet 1 (dFn 1 O_common_multiple (dCons (dLc [2, 3] (dItems (dVar 0)) (.tup (.cons (.one 2) (.cons (.one 3) .nil))) (dYes) (dVar 3)) (dNil)))) (sSeq (sRet (dFn 2 O_load_from (dCons (dLc [4, 3] (dItems (dVar 0)) (.tup (.cons (.one 4) (.cons (.one 3) .nil))) (dYes) (dBin oMul (dVar 4) (dBin oDiv (dVar 1) (dVar 3)))) (dCons (dVar 1) (dNil))))) (sNil)))
theorem Q_load_of : ∃ F : Op, F = fnOf ["quotients", "bottom", "_", "under", "top"] D_load_of := ⟨_, rfl⟩
noncomputable def O_load_of : Op := Classical.choose Q_load_of
instance is_load_of : Is O_load_of ["quotients", "bottom", "_", "under", "top"] D_load_of := ⟨Classical.choose_spec Q_load_of⟩
theorem sc_load_of : FnScope ["quotients", "bottom", "_", "under", "top"] ["quotients"] (defScope (top 34)) := ⟨rfl, rfl, rfl, by decide +kernel, rfl, by decide +kernel, by decide +kernel⟩
theorem b_load_of : BindsAll "load_of" (top 34) ["quotients"] := fun _ _ _ _ _ _ us hl => match us, hl with | [_], _ => rfl
theorem bk_load_of_quotients : BindsKw "load_of" (top 34) ["quotients"] ["quotients"] [0] := fun _ _ _ _ _ _ us hl => match us, hl with | [_], _ => rfl
theorem c_load_of (fx : Facts K mg) : Callee P w K mg base 6 "load_of" (top 34) ["quotients"] O_load_of := by
  obtain ⟨fd, F⟩ := fx.F_load_of
  refine ⟨fx.g_load_of, fd, F, ?_⟩
  rw [is_load_of.eq]
  refine fn_den F sc_load_of fun cdv A outer s H E hr tk => ?_
  have nd := sc_load_of.nd
  exact (dss_cons (ds_expr (de_callC (c_require fx) b_require hr (by omega) tk (da_cons (de_callC (c_are_amounts fx) b_are_amounts hr (by omega) tk (da_cons (de_var 0) da_nil)) (da_cons de_str da_nil))))
      (dss_cons (ds_set 1 nd (de_callC (c_common_multiple fx) b_common_multiple hr (by omega) tk (da_cons (de_lc [("_", 2), ("under", 3)] (.tup (.cons (.one 2) (.cons (.one 3) .nil))) rfl nd (by decide) (by exact blkB_ok (by kernel_rfl)) (di_seq (de_var 0)) (fun _ _ _ _ _ => (pg_tup rfl (pgs_cons (pg_name nd rfl (by first | exact .inl rfl | exact .inr rfl) (by first | exact .inl rfl | exact .inr rfl)) (pgs_cons (pg_name nd rfl (by first | exact .inl rfl | exact .inr rfl) (by first | exact .inl rfl | exact .inr rfl)) pgs_nil)))) (fun _ _ _ _ _ => dts_nil) (fun _ _ _ _ _ => (de_var 3))) da_nil)))
      (dss_cons (ds_ret (de_callC (c_load_from fx) b_load_from hr (by omega) tk (da_cons (de_lc [("top", 4), ("under", 3)] (.tup (.cons (.one 4) (.cons (.one 3) .nil))) rfl nd (by decide) (by exact blkB_ok (by kernel_rfl)) (di_seq (de_var 0)) (fun _ _ _ _ _ => (pg_tup rfl (pgs_cons (pg_name nd rfl (by first | exact .inl rfl | exact .inr rfl) (by first | exact .inl rfl | exact .inr rfl)) (pgs_cons (pg_name nd rfl (by first | exact .inl rfl | exact .inr rfl) (by first | exact .inl rfl | exact .inr rfl)) pgs_nil)))) (fun _ _ _ _ _ => dts_nil) (fun _ _ _ _ _ => (de_mul (de_var 4) (de_div (de_var 1) (de_var 3))))) (da_cons (de_var 1) da_nil))))
      dss_nil)))
noncomputable def D_minus : SDen := sSeq (sExpr (dFn 2 O_require_quotients (dCons (dVar 0) (dCons (dVar 1) (dNil))))) (sSeq (sRet (dFn 2 O_reduced (dCons (dBin oSub (dBin oMul (dBin oIx (dVar 0) (dC (.int 0))) (dBin oIx (dVar 1) (dC (.int 1)))) (dBin oMul (dBin oIx (dVar 1) (dC (.int 0))) (dBin oIx (dVar 0) (dC (.int 1))))) (dCons (dBin oMul (dBin oIx (dVar 0) (dC (.int 1))) (dBin oIx (dVar 1) (dC (.int 1)))) (dNil))))) (sNil))
theorem Q_minus : ∃ F : Op, F = fnOf ["one", "other"] D_minus := ⟨_, rfl⟩
noncomputable def O_minus : Op := Classical.choose Q_minus
instance is_minus : Is O_minus ["one", "other"] D_minus := ⟨Classical.choose_spec Q_minus⟩
theorem sc_minus : FnScope ["one", "other"] ["one", "other"] (defScope (top 25)) := ⟨rfl, rfl, rfl, by decide +kernel, rfl, by decide +kernel, by decide +kernel⟩
theorem b_minus : BindsAll "minus" (top 25) ["one", "other"] := fun _ _ _ _ _ _ us hl => match us, hl with | [_, _], _ => rfl
theorem bk_minus_other_one : BindsKw "minus" (top 25) ["one", "other"] ["other", "one"] [1, 0] := fun _ _ _ _ _ _ us hl => match us, hl with | [_, _], _ => rfl
theorem c_minus (fx : Facts K mg) : Callee P w K mg base 5 "minus" (top 25) ["one", "other"] O_minus := by
  obtain ⟨fd, F⟩ := fx.F_minus
  refine ⟨fx.g_minus, fd, F, ?_⟩
  rw [is_minus.eq]
  refine fn_den F sc_minus fun cdv A outer s H E hr tk => ?_
  have nd := sc_minus.nd
  exact (dss_cons (ds_expr (de_callC (c_require_quotients fx) b_require_quotients hr (by omega) tk (da_cons (de_var 0) (da_cons (de_var 1) da_nil))))
      (dss_cons (ds_ret (de_callC (c_reduced fx) b_reduced hr (by omega) tk (da_cons (de_sub (de_mul (de_ix (de_var 0) de_int) (de_ix (de_var 1) de_int)) (de_mul (de_ix (de_var 1) de_int) (de_ix (de_var 0) de_int))) (da_cons (de_mul (de_ix (de_var 0) de_int) (de_ix (de_var 1) de_int)) da_nil))))
      dss_nil))
noncomputable def D_over : SDen := sSeq (sExpr (dFn 2 O_require_quotients (dCons (dVar 0) (dCons (dVar 1) (dNil))))) (sSeq (sExpr (dFn 2 O_require (dCons (dBin oNe (dBin oIx (dVar 1) (dC (.int 0))) (dC (.int 0))) (dCons (dC (.str "other")) (dNil))))) (sSeq (sRet (dFn 2 O_reduced (dCons (dBin oMul (dBin oIx (dVar 0) (dC (.int 0))) (dBin oIx (dVar 1) (dC (.int 1)))) (dCons (dBin oMul (dBin oIx (dVar 0) (dC (.int 1))) (dBin oIx (dVar 1) (dC (.int 0)))) (dNil))))) (sNil)))
theorem Q_over : ∃ F : Op, F = fnOf ["one", "other"] D_over := ⟨_, rfl⟩
noncomputable def O_over : Op := Classical.choose Q_over
instance is_over : Is O_over ["one", "other"] D_over := ⟨Classical.choose_spec Q_over⟩
theorem sc_over : FnScope ["one", "other"] ["one", "other"] (defScope (top 27)) := ⟨rfl, rfl, rfl, by decide +kernel, rfl, by decide +kernel, by decide +kernel⟩
theorem b_over : BindsAll "over" (top 27) ["one", "other"] := fun _ _ _ _ _ _ us hl => match us, hl with | [_, _], _ => rfl
theorem bk_over_other_one : BindsKw "over" (top 27) ["one", "other"] ["other", "one"] [1, 0] := fun _ _ _ _ _ _ us hl => match us, hl with | [_, _], _ => rfl
theorem c_over (fx : Facts K mg) : Callee P w K mg base 5 "over" (top 27) ["one", "other"] O_over := by
  obtain ⟨fd, F⟩ := fx.F_over
  refine ⟨fx.g_over, fd, F, ?_⟩
  rw [is_over.eq]
  refine fn_den F sc_over fun cdv A outer s H E hr tk => ?_
  have nd := sc_over.nd
  exact (dss_cons (ds_expr (de_callC (c_require_quotients fx) b_require_quotients hr (by omega) tk (da_cons (de_var 0) (da_cons (de_var 1) da_nil))))
      (dss_cons (ds_expr (de_callC (c_require fx) b_require hr (by omega) tk (da_cons (de_ne hr.units (de_ix (de_var 1) de_int) de_int) (da_cons de_str da_nil))))
      (dss_cons (ds_ret (de_callC (c_reduced fx) b_reduced hr (by omega) tk (da_cons (de_mul (de_ix (de_var 0) de_int) (de_ix (de_var 1) de_int)) (da_cons (de_mul (de_ix (de_var 0) de_int) (de_ix (de_var 1) de_int)) da_nil))))
      dss_nil)))
noncomputable def D_plus : SDen := sSeq (sExpr (dFn 2 O_require_quotients (dCons (dVar 0) (dCons (dVar 1) (dNil))))) (sSeq (sRet (dFn 2 O_reduced (dCons (dBin oPlus (dBin oMul (dBin oIx (dVar 0) (dC (.int 0))) (dBin oIx (dVar 1) (dC (.int 1)))) (dBin oMul (dBin oIx (dVar 1) (dC (.int 0))) (dBin oIx (dVar 0) (dC (.int 1))))) (dCons (dBin oMul (dBin oIx (dVar 0) (dC (.int 1))) (dBin oIx (dVar 1) (dC (.int 1)))) (dNil))))) (sNil))
theorem Q_plus : ∃ F : Op, F = fnOf ["one", "other"] D_plus := ⟨_, rfl⟩
noncomputable def O_plus : Op := Classical.choose Q_plus
instance is_plus : Is O_plus ["one", "other"] D_plus := ⟨Classical.choose_spec Q_plus⟩
theorem sc_plus : FnScope ["one", "other"] ["one", "other"] (defScope (top 24)) := ⟨rfl, rfl, rfl, by decide +kernel, rfl, by decide +kernel, by decide +kernel⟩
theorem b_plus : BindsAll "plus" (top 24) ["one", "other"] := fun _ _ _ _ _ _ us hl => match us, hl with | [_, _], _ => rfl
theorem bk_plus_other_one : BindsKw "plus" (top 24) ["one", "other"] ["other", "one"] [1, 0] := fun _ _ _ _ _ _ us hl => match us, hl with | [_, _], _ => rfl
theorem c_plus (fx : Facts K mg) : Callee P w K mg base 5 "plus" (top 24) ["one", "other"] O_plus := by
  obtain ⟨fd, F⟩ := fx.F_plus
  refine ⟨fx.g_plus, fd, F, ?_⟩
  rw [is_plus.eq]
  refine fn_den F sc_plus fun cdv A outer s H E hr tk => ?_
  have nd := sc_plus.nd
  exact (dss_cons (ds_expr (de_callC (c_require_quotients fx) b_require_quotients hr (by omega) tk (da_cons (de_var 0) (da_cons (de_var 1) da_nil))))
      (dss_cons (ds_ret (de_callC (c_reduced fx) b_reduced hr (by omega) tk (da_cons (de_add (de_mul (de_ix (de_var 0) de_int) (de_ix (de_var 1) de_int)) (de_mul (de_ix (de_var 1) de_int) (de_ix (de_var 0) de_int))) (da_cons (de_mul (de_ix (de_var 0) de_int) (de_ix (de_var 1) de_int)) da_nil))))
      dss_nil))
noncomputable def D_product_of : SDen := sSeq (sExpr (dFn 2 O_require_alike (dCons (dVar 0) (dCons (dVar 1) (dNil))))) (sSeq (sRet (dFn 2 O_reduced (dCons (dCall oSum (dCons (dLc [2] (dRange1 (dCall oLen (dCons (dBin oIx (dVar 0) (dC (.int 0))) (dNil)))) (.one 2) (dYes) (dBin oMul (dBin oIx (dBin oIx (dVar 0) (dC (.int 0))) (dVar 2)) (dBin oIx (dBin oIx (dVar 1) (dC (.int 0))) (dVar 2)))) (dNil))) (dCons (dBin oMul (dBin oIx (dVar 0) (dC (.int 1))) (dBin oIx (dVar 1) (dC (.int 1)))) (dNil))))) (sNil))
theorem Q_product_of : ∃ F : Op, F = fnOf ["load", "other", "i"] D_product_of := ⟨_, rfl⟩
noncomputable def O_product_of : Op := Classical.choose Q_product_of
instance is_product_of : Is O_product_of ["load", "other", "i"] D_product_of := ⟨Classical.choose_spec Q_product_of⟩
theorem sc_product_of : FnScope ["load", "other", "i"] ["load", "other"] (defScope (top 42)) := ⟨rfl, rfl, rfl, by decide +kernel, rfl, by decide +kernel, by decide +kernel⟩
theorem b_product_of : BindsAll "product_of" (top 42) ["load", "other"] := fun _ _ _ _ _ _ us hl => match us, hl with | [_, _], _ => rfl
theorem bk_product_of_other_load : BindsKw "product_of" (top 42) ["load", "other"] ["other", "load"] [1, 0] := fun _ _ _ _ _ _ us hl => match us, hl with | [_, _], _ => rfl
theorem c_product_of (fx : Facts K mg) : Callee P w K mg base 6 "product_of" (top 42) ["load", "other"] O_product_of := by
  obtain ⟨fd, F⟩ := fx.F_product_of
  refine ⟨fx.g_product_of, fd, F, ?_⟩
  rw [is_product_of.eq]
  refine fn_den F sc_product_of fun cdv A outer s H E hr tk => ?_
  have nd := sc_product_of.nd
  exact (dss_cons (ds_expr (de_callC (c_require_alike fx) b_require_alike hr (by omega) tk (da_cons (de_var 0) (da_cons (de_var 1) da_nil))))
      (dss_cons (ds_ret (de_callC (c_reduced fx) b_reduced hr (by omega) tk (da_cons (de_callB (call_sumA rfl) callD_sum (by decide +kernel) fx.n_sum (da_cons (de_lc [("i", 2)] (.one 2) rfl nd (by decide) (by exact blkB_ok (by kernel_rfl)) (di_range1 fx.n_range (de_len fx.n_len (da_cons (de_ix (de_var 0) de_int) da_nil))) (fun _ _ _ _ _ => (pg_name nd rfl (by first | exact .inl rfl | exact .inr rfl) (by first | exact .inl rfl | exact .inr rfl))) (fun _ _ _ _ _ => dts_nil) (fun _ _ _ _ _ => (de_mul (de_ix (de_ix (de_var 0) de_int) (de_var 2)) (de_ix (de_ix (de_var 1) de_int) (de_var 2))))) da_nil)) (da_cons (de_mul (de_ix (de_var 0) de_int) (de_ix (de_var 1) de_int)) da_nil))))
      dss_nil))
noncomputable def D_quotient_of : SDen := sSeq (sExpr (dFn 2 O_require (dCons (dFn 1 O_is_integer (dCons (dVar 0) (dNil))) (dCons (dC (.str "top")) (dNil))))) (sSeq (sExpr (dFn 2 O_require (dCons (dAnd (dFn 1 O_is_integer (dCons (dVar 1) (dNil))) (dBin oNe (dVar 1) (dC (.int 0)))) (dCons (dC (.str "bottom")) (dNil))))) (sSeq (sRet (dFn 2 O_reduced (dCons (dVar 0) (dCons (dVar 1) (dNil))))) (sNil)))
theorem Q_quotient_of : ∃ F : Op, F = fnOf ["top", "bottom"] D_quotient_of := ⟨_, rfl⟩
noncomputable def O_quotient_of : Op := Classical.choose Q_quotient_of
instance is_quotient_of : Is O_quotient_of ["top", "bottom"] D_quotient_of := ⟨Classical.choose_spec Q_quotient_of⟩
theorem sc_quotient_of : FnScope ["top", "bottom"] ["top", "bottom"] (defScope (top 23)) := ⟨rfl, rfl, rfl, by decide +kernel, rfl, by decide +kernel, by decide +kernel⟩
theorem b_quotient_of : BindsAll "quotient_of" (top 23) ["top", "bottom"] := fun _ _ _ _ _ _ us hl => match us, hl with | [_, _], _ => rfl
theorem bk_quotient_of_bottom_top : BindsKw "quotient_of" (top 23) ["top", "bottom"] ["bottom", "top"] [1, 0] := fun _ _ _ _ _ _ us hl => match us, hl with | [_, _], _ => rfl
theorem c_quotient_of (fx : Facts K mg) : Callee P w K mg base 4 "quotient_of" (top 23) ["top", "bottom"] O_quotient_of := by
  obtain ⟨fd, F⟩ := fx.F_quotient_of
  refine ⟨fx.g_quotient_of, fd, F, ?_⟩
  rw [is_quotient_of.eq]
  refine fn_den F sc_quotient_of fun cdv A outer s H E hr tk => ?_
  have nd := sc_quotient_of.nd
  exact (dss_cons (ds_expr (de_callC (c_require fx) b_require hr (by omega) tk (da_cons (de_callC (c_is_integer fx) b_is_integer hr (by omega) tk (da_cons (de_var 0) da_nil)) (da_cons de_str da_nil))))
      (dss_cons (ds_expr (de_callC (c_require fx) b_require hr (by omega) tk (da_cons (de_and (de_callC (c_is_integer fx) b_is_integer hr (by omega) tk (da_cons (de_var 1) da_nil)) (de_one (de_ne hr.units (de_var 1) de_int))) (da_cons de_str da_nil))))
      (dss_cons (ds_ret (de_callC (c_reduced fx) b_reduced hr (by omega) tk (da_cons (de_var 0) (da_cons (de_var 1) da_nil))))
      dss_nil)))
noncomputable def D_scaled : SDen := sSeq (sExpr (dFn 2 O_require (dCons (dFn 1 O_is_amount (dCons (dVar 1) (dNil))) (dCons (dC (.str "factor")) (dNil))))) (sSeq (sRet (dFn 2 O_load_from (dCons (dLc [2] (dItems (dBin oIx (dVar 0) (dC (.int 0)))) (.one 2) (dYes) (dBin oMul (dVar 2) (dBin oIx (dVar 1) (dC (.int 0))))) (dCons (dBin oMul (dBin oIx (dVar 0) (dC (.int 1))) (dBin oIx (dVar 1) (dC (.int 1)))) (dNil))))) (sNil))
theorem Q_scaled : ∃ F : Op, F = fnOf ["load", "factor", "top"] D_scaled := ⟨_, rfl⟩
noncomputable def O_scaled : Op := Classical.choose Q_scaled
instance is_scaled : Is O_scaled ["load", "factor", "top"] D_scaled := ⟨Classical.choose_spec Q_scaled⟩
theorem sc_scaled : FnScope ["load", "factor", "top"] ["load", "factor"] (defScope (top 41)) := ⟨rfl, rfl, rfl, by decide +kernel, rfl, by decide +kernel, by decide +kernel⟩
theorem b_scaled : BindsAll "scaled" (top 41) ["load", "factor"] := fun _ _ _ _ _ _ us hl => match us, hl with | [_, _], _ => rfl
theorem bk_scaled_factor_load : BindsKw "scaled" (top 41) ["load", "factor"] ["factor", "load"] [1, 0] := fun _ _ _ _ _ _ us hl => match us, hl with | [_, _], _ => rfl
theorem c_scaled (fx : Facts K mg) : Callee P w K mg base 5 "scaled" (top 41) ["load", "factor"] O_scaled := by
  obtain ⟨fd, F⟩ := fx.F_scaled
  refine ⟨fx.g_scaled, fd, F, ?_⟩
  rw [is_scaled.eq]
  refine fn_den F sc_scaled fun cdv A outer s H E hr tk => ?_
  have nd := sc_scaled.nd
  exact (dss_cons (ds_expr (de_callC (c_require fx) b_require hr (by omega) tk (da_cons (de_callC (c_is_amount fx) b_is_amount hr (by omega) tk (da_cons (de_var 1) da_nil)) (da_cons de_str da_nil))))
      (dss_cons (ds_ret (de_callC (c_load_from fx) b_load_from hr (by omega) tk (da_cons (de_lc [("top", 2)] (.one 2) rfl nd (by decide) (by exact blkB_ok (by kernel_rfl)) (di_seq (de_ix (de_var 0) de_int)) (fun _ _ _ _ _ => (pg_name nd rfl (by first | exact .inl rfl | exact .inr rfl) (by first | exact .inl rfl | exact .inr rfl))) (fun _ _ _ _ _ => dts_nil) (fun _ _ _ _ _ => (de_mul (de_var 2) (de_ix (de_var 1) de_int)))) (da_cons (de_mul (de_ix (de_var 0) de_int) (de_ix (de_var 1) de_int)) da_nil))))
      dss_nil))
noncomputable def D_taken : SDen := sSeq (sExpr (dFn 2 O_require (dCons (dAnd (dFn 2 O_is_load (dCons (dCall oLen (dCons (dBin oIx (dVar 0) (dC (.int 0))) (dNil))) (dCons (dVar 1) (dNil)))) (dCall oAll (dCons (dLc [2, 3] (dItems (dFn 2 O_leveled (dCons (dVar 0) (dCons (dVar 1) (dNil))))) (.tup (.cons (.one 2) (.cons (.one 3) .nil))) (dYes) (dBin oGe (dVar 2) (dVar 3))) (dNil)))) (dCons (dC (.str "other")) (dNil))))) (sSeq (sRet (dFn 2 O_load_from (dCons (dLc [2, 3] (dItems (dFn 2 O_leveled (dCons (dVar 0) (dCons (dVar 1) (dNil))))) (.tup (.cons (.one 2) (.cons (.one 3) .nil))) (dYes) (dBin oSub (dVar 2) (dVar 3))) (dCons (dBin oMul (dBin oIx (dVar 0) (dC (.int 1))) (dBin oIx (dVar 1) (dC (.int 1)))) (dNil))))) (sNil))
theorem Q_taken : ∃ F : Op, F = fnOf ["load", "other", "top", "less"] D_taken := ⟨_, rfl⟩
noncomputable def O_taken : Op := Classical.choose Q_taken
instance is_taken : Is O_taken ["load", "other", "top", "less"] D_taken := ⟨Classical.choose_spec Q_taken⟩
theorem sc_taken : FnScope ["load", "other", "top", "less"] ["load", "other"] (defScope (top 40)) := ⟨rfl, rfl, rfl, by decide +kernel, rfl, by decide +kernel, by decide +kernel⟩
theorem b_taken : BindsAll "taken" (top 40) ["load", "other"] := fun _ _ _ _ _ _ us hl => match us, hl with | [_, _], _ => rfl
theorem bk_taken_other_load : BindsKw "taken" (top 40) ["load", "other"] ["other", "load"] [1, 0] := fun _ _ _ _ _ _ us hl => match us, hl with | [_, _], _ => rfl
theorem c_taken (fx : Facts K mg) : Callee P w K mg base 5 "taken" (top 40) ["load", "other"] O_taken := by
  obtain ⟨fd, F⟩ := fx.F_taken
  refine ⟨fx.g_taken, fd, F, ?_⟩
  rw [is_taken.eq]
  refine fn_den F sc_taken fun cdv A outer s H E hr tk => ?_
  have nd := sc_taken.nd
  exact (dss_cons (ds_expr (de_callC (c_require fx) b_require hr (by omega) tk (da_cons (de_and (de_callC (c_is_load fx) b_is_load hr (by omega) tk (da_cons (de_len fx.n_len (da_cons (de_ix (de_var 0) de_int) da_nil)) (da_cons (de_var 1) da_nil))) (de_one (de_callB (cr_all rfl) callD_all (by decide +kernel) fx.n_all (da_cons (de_lc [("top", 2), ("less", 3)] (.tup (.cons (.one 2) (.cons (.one 3) .nil))) rfl nd (by decide) (by exact blkB_ok (by kernel_rfl)) (di_seq (de_callC (c_leveled fx) b_leveled hr (by omega) tk (da_cons (de_var 0) (da_cons (de_var 1) da_nil)))) (fun _ _ _ _ _ => (pg_tup rfl (pgs_cons (pg_name nd rfl (by first | exact .inl rfl | exact .inr rfl) (by first | exact .inl rfl | exact .inr rfl)) (pgs_cons (pg_name nd rfl (by first | exact .inl rfl | exact .inr rfl) (by first | exact .inl rfl | exact .inr rfl)) pgs_nil)))) (fun _ _ _ _ _ => dts_nil) (fun _ _ _ _ _ => (de_ge (de_var 2) (de_var 3)))) da_nil)))) (da_cons de_str da_nil))))
      (dss_cons (ds_ret (de_callC (c_load_from fx) b_load_from hr (by omega) tk (da_cons (de_lc [("top", 2), ("less", 3)] (.tup (.cons (.one 2) (.cons (.one 3) .nil))) rfl nd (by decide) (by exact blkB_ok (by kernel_rfl)) (di_seq (de_callC (c_leveled fx) b_leveled hr (by omega) tk (da_cons (de_var 0) (da_cons (de_var 1) da_nil)))) (fun _ _ _ _ _ => (pg_tup rfl (pgs_cons (pg_name nd rfl (by first | exact .inl rfl | exact .inr rfl) (by first | exact .inl rfl | exact .inr rfl)) (pgs_cons (pg_name nd rfl (by first | exact .inl rfl | exact .inr rfl) (by first | exact .inl rfl | exact .inr rfl)) pgs_nil)))) (fun _ _ _ _ _ => dts_nil) (fun _ _ _ _ _ => (de_sub (de_var 2) (de_var 3)))) (da_cons (de_mul (de_ix (de_var 0) de_int) (de_ix (de_var 1) de_int)) da_nil))))
      dss_nil))
noncomputable def D_times : SDen := sSeq (sExpr (dFn 2 O_require_quotients (dCons (dVar 0) (dCons (dVar 1) (dNil))))) (sSeq (sRet (dFn 2 O_reduced (dCons (dBin oMul (dBin oIx (dVar 0) (dC (.int 0))) (dBin oIx (dVar 1) (dC (.int 0)))) (dCons (dBin oMul (dBin oIx (dVar 0) (dC (.int 1))) (dBin oIx (dVar 1) (dC (.int 1)))) (dNil))))) (sNil))
theorem Q_times : ∃ F : Op, F = fnOf ["one", "other"] D_times := ⟨_, rfl⟩
noncomputable def O_times : Op := Classical.choose Q_times
instance is_times : Is O_times ["one", "other"] D_times := ⟨Classical.choose_spec Q_times⟩
theorem sc_times : FnScope ["one", "other"] ["one", "other"] (defScope (top 26)) := ⟨rfl, rfl, rfl, by decide +kernel, rfl, by decide +kernel, by decide +kernel⟩
theorem b_times : BindsAll "times" (top 26) ["one", "other"] := fun _ _ _ _ _ _ us hl => match us, hl with | [_, _], _ => rfl
theorem bk_times_other_one : BindsKw "times" (top 26) ["one", "other"] ["other", "one"] [1, 0] := fun _ _ _ _ _ _ us hl => match us, hl with | [_, _], _ => rfl
theorem c_times (fx : Facts K mg) : Callee P w K mg base 5 "times" (top 26) ["one", "other"] O_times := by
  obtain ⟨fd, F⟩ := fx.F_times
  refine ⟨fx.g_times, fd, F, ?_⟩
  rw [is_times.eq]
  refine fn_den F sc_times fun cdv A outer s H E hr tk => ?_
  have nd := sc_times.nd
  exact (dss_cons (ds_expr (de_callC (c_require_quotients fx) b_require_quotients hr (by omega) tk (da_cons (de_var 0) (da_cons (de_var 1) da_nil))))
      (dss_cons (ds_ret (de_callC (c_reduced fx) b_reduced hr (by omega) tk (da_cons (de_mul (de_ix (de_var 0) de_int) (de_ix (de_var 1) de_int)) (da_cons (de_mul (de_ix (de_var 0) de_int) (de_ix (de_var 1) de_int)) da_nil))))
      dss_nil))
noncomputable def D_unit_load : SDen := sSeq (sExpr (dFn 2 O_require (dCons (dFn 2 O_is_below (dCons (dVar 0) (dCons (dVar 1) (dNil)))) (dCons (dC (.str "place")) (dNil))))) (sSeq (sRet (dTup (dCons (dCall oTuple1 (dCons (dLc [2] (dRange1 (dVar 0)) (.one 2) (dYes) (dIf (dBin oEq (dVar 2) (dVar 1)) (dC (.int 1)) (dC (.int 0)))) (dNil))) (dCons (dC (.int 1)) (dNil))))) (sNil))
theorem Q_unit_load : ∃ F : Op, F = fnOf ["size", "place", "i"] D_unit_load := ⟨_, rfl⟩
noncomputable def O_unit_load : Op := Classical.choose Q_unit_load
instance is_unit_load : Is O_unit_load ["size", "place", "i"] D_unit_load := ⟨Classical.choose_spec Q_unit_load⟩
theorem sc_unit_load : FnScope ["size", "place", "i"] ["size", "place"] (defScope (top 38)) := ⟨rfl, rfl, rfl, by decide +kernel, rfl, by decide +kernel, by decide +kernel⟩
theorem b_unit_load : BindsAll "unit_load" (top 38) ["size", "place"] := fun _ _ _ _ _ _ us hl => match us, hl with | [_, _], _ => rfl
theorem bk_unit_load_place_size : BindsKw "unit_load" (top 38) ["size", "place"] ["place", "size"] [1, 0] := fun _ _ _ _ _ _ us hl => match us, hl with | [_, _], _ => rfl
theorem c_unit_load (fx : Facts K mg) : Callee P w K mg base 4 "unit_load" (top 38) ["size", "place"] O_unit_load := by
  obtain ⟨fd, F⟩ := fx.F_unit_load
  refine ⟨fx.g_unit_load, fd, F, ?_⟩
  rw [is_unit_load.eq]
  refine fn_den F sc_unit_load fun cdv A outer s H E hr tk => ?_
  have nd := sc_unit_load.nd
  exact (dss_cons (ds_expr (de_callC (c_require fx) b_require hr (by omega) tk (da_cons (de_callC (c_is_below fx) b_is_below hr (by omega) tk (da_cons (de_var 0) (da_cons (de_var 1) da_nil))) (da_cons de_str da_nil))))
      (dss_cons (ds_ret (de_tup (da_cons (de_callTy call_tuple_of callD_tuple1 (by decide +kernel) fx.n_tuple (da_cons (de_lc [("i", 2)] (.one 2) rfl nd (by decide) (by exact blkB_ok (by kernel_rfl)) (di_range1 fx.n_range (de_var 0)) (fun _ _ _ _ _ => (pg_name nd rfl (by first | exact .inl rfl | exact .inr rfl) (by first | exact .inl rfl | exact .inr rfl))) (fun _ _ _ _ _ => dts_nil) (fun _ _ _ _ _ => (de_if (dt_eq hr.units (de_var 2) (de_var 1)) de_int de_int))) da_nil)) (da_cons de_int da_nil))))
      dss_nil))
noncomputable def D__law_call : SDen := sSeq (sIf (dBin oEq (dVar 0) (dC (.int 0))) (sSeq (sRet (dFnK 2 2 [1, 0] O_plus (dCons (dVar 2) (dCons (dVar 1) (dNil))))) (sNil)) (sNil)) (sSeq (sIf (dBin oEq (dVar 0) (dC (.int 1))) (sSeq (sRet (dFnK 2 2 [1, 0] O_minus (dCons (dVar 2) (dCons (dVar 1) (dNil))))) (sNil)) (sNil)) (sSeq (sIf (dBin oEq (dVar 0) (dC (.int 2))) (sSeq (sRet (dFnK 2 2 [1, 0] O_times (dCons (dVar 2) (dCons (dVar 1) (dNil))))) (sNil)) (sNil)) (sSeq (sIf (dBin oEq (dVar 0) (dC (.int 3))) (sSeq (sRet (dFnK 2 2 [1, 0] O_over (dCons (dVar 2) (dCons (dVar 1) (dNil))))) (sNil)) (sNil)) (sSeq (sIf (dBin oEq (dVar 0) (dC (.int 4))) (sSeq (sRet (dFnK 2 2 [1, 0] O_is_less (dCons (dVar 2) (dCons (dVar 1) (dNil))))) (sNil)) (sNil)) (sSeq (sIf (dBin oEq (dVar 0) (dC (.int 5))) (sSeq (sRet (dFnK 2 2 [1, 0] O_quotient_of (dCons (dVar 2) (dCons (dVar 1) (dNil))))) (sNil)) (sNil)) (sSeq (sIf (dBin oEq (dVar 0) (dC (.int 6))) (sSeq (sRet (dFn 2 O_entry_of (dCons (dVar 1) (dCons (dVar 2) (dNil))))) (sNil)) (sNil)) (sSeq (sIf (dBin oEq (dVar 0) (dC (.int 7))) (sSeq (sRet (dFn 2 O_unit_load (dCons (dVar 1) (dCons (dVar 2) (dNil))))) (sNil)) (sNil)) (sSeq (sIf (dBin oEq (dVar 0) (dC (.int 8))) (sSeq (sRet (dFnK 2 2 [1, 0] O_added (dCons (dVar 2) (dCons (dVar 1) (dNil))))) (sNil)) (sNil)) (sSeq (sIf (dBin oEq (dVar 0) (dC (.int 9))) (sSeq (sRet (dFnK 2 2 [1, 0] O_taken (dCons (dVar 2) (dCons (dVar 1) (dNil))))) (sNil)) (sNil)) (sSeq (sIf (dBin oEq (dVar 0) (dC (.int 10))) (sSeq (sRet (dFnK 2 2 [1, 0] O_scaled (dCons (dVar 2) (dCons (dVar 1) (dNil))))) (sNil)) (sNil)) (sSeq (sIf (dBin oEq (dVar 0) (dC (.int 11))) (sSeq (sRet (dFnK 2 2 [1, 0] O_product_of (dCons (dVar 2) (dCons (dVar 1) (dNil))))) (sNil)) (sNil)) (sSeq (sIf (dBin oEq (dVar 0) (dC (.int 12))) (sSeq (sRet (dFnK 2 2 [1, 0] O_is_within (dCons (dVar 2) (dCons (dVar 1) (dNil))))) (sNil)) (sNil)) (sSeq (sIf (dBin oEq (dVar 0) (dC (.int 13))) (sSeq (sRet (dFnK 2 2 [1, 0] O_lesser_of (dCons (dVar 2) (dCons (dVar 1) (dNil))))) (sNil)) (sNil)) (sSeq (sIf (dBin oEq (dVar 0) (dC (.int 14))) (sSeq (sRet (dFnK 2 2 [1, 0] O_greater_of (dCons (dVar 2) (dCons (dVar 1) (dNil))))) (sNil)) (sNil)) (sSeq (sIf (dBin oEq (dVar 0) (dC (.int 15))) (sSeq (sRet (dFnK 2 2 [1, 0] O_first_above (dCons (dVar 2) (dCons (dVar 1) (dNil))))) (sNil)) (sNil)) (sSeq (sRet (dFn 1 O_load_of (dCons (dVar 1) (dNil)))) (sNil)))))))))))))))))
theorem Q__law_call : ∃ F : Op, F = fnOf ["_law_which", "_law_a", "_law_b"] D__law_call := ⟨_, rfl⟩
noncomputable def O__law_call : Op := Classical.choose Q__law_call
instance is__law_call : Is O__law_call ["_law_which", "_law_a", "_law_b"] D__law_call := ⟨Classical.choose_spec Q__law_call⟩
theorem sc__law_call : FnScope ["_law_which", "_law_a", "_law_b"] ["_law_which", "_law_a", "_law_b"] (defScope (top 60)) := ⟨rfl, rfl, rfl, by decide +kernel, rfl, by decide +kernel, by decide +kernel⟩
theorem b__law_call : BindsAll "_law_call" (top 60) ["_law_which", "_law_a", "_law_b"] := fun _ _ _ _ _ _ us hl => match us, hl with | [_, _, _], _ => rfl
theorem c__law_call (fx : Facts K mg) : Callee P w K mg base 7 "_law_call" (top 60) ["_law_which", "_law_a", "_law_b"] O__law_call := by
  obtain ⟨fd, F⟩ := fx.F__law_call
  refine ⟨fx.g__law_call, fd, F, ?_⟩
  rw [is__law_call.eq]
  refine fn_den F sc__law_call fun cdv A outer s H E hr tk => ?_
  have nd := sc__law_call.nd
  exact (dss_cons (ds_if (dt_eq hr.units (de_var 0) de_int) (dss_cons (ds_ret (de_callKC [1, 0] (c_plus fx) bk_plus_other_one hr (by omega) tk (dk_cons (de_var 2) (dk_cons (de_var 1) dk_nil))))
      dss_nil) dss_nil)
      (dss_cons (ds_if (dt_eq hr.units (de_var 0) de_int) (dss_cons (ds_ret (de_callKC [1, 0] (c_minus fx) bk_minus_other_one hr (by omega) tk (dk_cons (de_var 2) (dk_cons (de_var 1) dk_nil))))
      dss_nil) dss_nil)
      (dss_cons (ds_if (dt_eq hr.units (de_var 0) de_int) (dss_cons (ds_ret (de_callKC [1, 0] (c_times fx) bk_times_other_one hr (by omega) tk (dk_cons (de_var 2) (dk_cons (de_var 1) dk_nil))))
      dss_nil) dss_nil)
      (dss_cons (ds_if (dt_eq hr.units (de_var 0) de_int) (dss_cons (ds_ret (de_callKC [1, 0] (c_over fx) bk_over_other_one hr (by omega) tk (dk_cons (de_var 2) (dk_cons (de_var 1) dk_nil))))
      dss_nil) dss_nil)
      (dss_cons (ds_if (dt_eq hr.units (de_var 0) de_int) (dss_cons (ds_ret (de_callKC [1, 0] (c_is_less fx) bk_is_less_other_one hr (by omega) tk (dk_cons (de_var 2) (dk_cons (de_var 1) dk_nil))))
      dss_nil) dss_nil)
      (dss_cons (ds_if (dt_eq hr.units (de_var 0) de_int) (dss_cons (ds_ret (de_callKC [1, 0] (c_quotient_of fx) bk_quotient_of_bottom_top hr (by omega) tk (dk_cons (de_var 2) (dk_cons (de_var 1) dk_nil))))
      dss_nil) dss_nil)
      (dss_cons (ds_if (dt_eq hr.units (de_var 0) de_int) (dss_cons (ds_ret (de_callC (c_entry_of fx) b_entry_of hr (by omega) tk (da_cons (de_var 1) (da_cons (de_var 2) da_nil))))
      dss_nil) dss_nil)
      (dss_cons (ds_if (dt_eq hr.units (de_var 0) de_int) (dss_cons (ds_ret (de_callC (c_unit_load fx) b_unit_load hr (by omega) tk (da_cons (de_var 1) (da_cons (de_var 2) da_nil))))
      dss_nil) dss_nil)
      (dss_cons (ds_if (dt_eq hr.units (de_var 0) de_int) (dss_cons (ds_ret (de_callKC [1, 0] (c_added fx) bk_added_other_load hr (by omega) tk (dk_cons (de_var 2) (dk_cons (de_var 1) dk_nil))))
      dss_nil) dss_nil)
      (dss_cons (ds_if (dt_eq hr.units (de_var 0) de_int) (dss_cons (ds_ret (de_callKC [1, 0] (c_taken fx) bk_taken_other_load hr (by omega) tk (dk_cons (de_var 2) (dk_cons (de_var 1) dk_nil))))
      dss_nil) dss_nil)
      (dss_cons (ds_if (dt_eq hr.units (de_var 0) de_int) (dss_cons (ds_ret (de_callKC [1, 0] (c_scaled fx) bk_scaled_factor_load hr (by omega) tk (dk_cons (de_var 2) (dk_cons (de_var 1) dk_nil))))
      dss_nil) dss_nil)
      (dss_cons (ds_if (dt_eq hr.units (de_var 0) de_int) (dss_cons (ds_ret (de_callKC [1, 0] (c_product_of fx) bk_product_of_other_load hr (by omega) tk (dk_cons (de_var 2) (dk_cons (de_var 1) dk_nil))))
      dss_nil) dss_nil)
      (dss_cons (ds_if (dt_eq hr.units (de_var 0) de_int) (dss_cons (ds_ret (de_callKC [1, 0] (c_is_within fx) bk_is_within_other_load hr (by omega) tk (dk_cons (de_var 2) (dk_cons (de_var 1) dk_nil))))
      dss_nil) dss_nil)
      (dss_cons (ds_if (dt_eq hr.units (de_var 0) de_int) (dss_cons (ds_ret (de_callKC [1, 0] (c_lesser_of fx) bk_lesser_of_other_load hr (by omega) tk (dk_cons (de_var 2) (dk_cons (de_var 1) dk_nil))))
      dss_nil) dss_nil)
      (dss_cons (ds_if (dt_eq hr.units (de_var 0) de_int) (dss_cons (ds_ret (de_callKC [1, 0] (c_greater_of fx) bk_greater_of_other_load hr (by omega) tk (dk_cons (de_var 2) (dk_cons (de_var 1) dk_nil))))
      dss_nil) dss_nil)
      (dss_cons (ds_if (dt_eq hr.units (de_var 0) de_int) (dss_cons (ds_ret (de_callKC [1, 0] (c_first_above fx) bk_first_above_other_load hr (by omega) tk (dk_cons (de_var 2) (dk_cons (de_var 1) dk_nil))))
      dss_nil) dss_nil)
      (dss_cons (ds_ret (de_callC (c_load_of fx) b_load_of hr (by omega) tk (da_cons (de_var 1) da_nil)))
      dss_nil)))))))))))))))))
noncomputable def D__law_refused_suite (a0 d0 : Nat) : SDen := sSeq (sIf (dOr (dNot (dTru (dIsi "str" (dAttrC a0 d0 ["NotUsable"] "word" (dVar 4))))) (dOr (dBin oNe (dAttrC a0 d0 ["NotUsable"] "word" (dVar 4)) (dVar 3)) (dOr (dNot (dTru (dFn 1 O__law_whole (dCons (dAttrC a0 d0 ["NotUsable"] "at" (dVar 4)) (dNil))))) (dBin oNe (dAttrC a0 d0 ["NotUsable"] "at" (dVar 4)) (dUn oNeg (dC (.int 1))))))) (sSeq (sRet (dC (.bl false))) (sNil)) (sNil)) (sSeq (sRet (dAnd (dIsC a0 d0 "NotUsable" true (dVar 4)) (dAnd (dIsC a0 d0 "NotUsable" true (dVar 4)) (dNot (dIsC a0 d0 "NotUsable" false (dVar 4)))))) (sNil))
noncomputable def D__law_refused : SDen := sSeq (sTry [("NotUsable", true)] 4 (sSeq (sExpr (dFn 3 O__law_call (dCons (dVar 0) (dCons (dVar 1) (dCons (dVar 2) (dNil)))))) (sNil)) (fun _ => D__law_refused_suite)) (sSeq (sRet (dC (.bl false))) (sNil))
theorem Q__law_refused : ∃ F : Op, F = fnOf ["_law_which", "_law_a", "_law_b", "_law_name", "_law_e"] D__law_refused := ⟨_, rfl⟩
noncomputable def O__law_refused : Op := Classical.choose Q__law_refused
instance is__law_refused : Is O__law_refused ["_law_which", "_law_a", "_law_b", "_law_name", "_law_e"] D__law_refused := ⟨Classical.choose_spec Q__law_refused⟩
theorem sc__law_refused : FnScope ["_law_which", "_law_a", "_law_b", "_law_name", "_law_e"] ["_law_which", "_law_a", "_law_b", "_law_name"] (defScope (top 61)) := ⟨rfl, rfl, rfl, by decide +kernel, rfl, by decide +kernel, by decide +kernel⟩
theorem b__law_refused : BindsAll "_law_refused" (top 61) ["_law_which", "_law_a", "_law_b", "_law_name"] := fun _ _ _ _ _ _ us hl => match us, hl with | [_, _, _, _], _ => rfl
theorem c__law_refused (fx : Facts K mg) : Callee P w K mg base 8 "_law_refused" (top 61) ["_law_which", "_law_a", "_law_b", "_law_name"] O__law_refused := by
  obtain ⟨fd, F⟩ := fx.F__law_refused
  refine ⟨fx.g__law_refused, fd, F, ?_⟩
  rw [is__law_refused.eq]
  refine fn_den F sc__law_refused fun cdv A outer s H E hr tk => ?_
  have nd := sc__law_refused.nd
  exact (dss_cons (ds_try 4 (exTab1 fx.x_NotUsable fx.ex_NotUsable_NotUsable) rfl rfl nd tk ⟨rfl, by decide, .inl fx.g_NotUsable⟩ (fun W pn xe tkx hpx => (dss_cons (ds_expr (de_callC (c__law_call fx) b__law_call hr (by omega) tkx (da_cons (de_var 0) (da_cons (de_var 1) (da_cons (de_var 2) da_nil)))))
      dss_nil)) (fun a0 oe c C0 d0 pn hm0 htb hz hf => by
      obtain rfl := tab1 htb
      have hot := hot_suite (X := cxOf (L2N.CX P w) P w K mg base ["_law_which", "_law_a", "_law_b", "_law_name", "_law_e"] "_law_refused" (defScope (top 61)) (He.ga K "_law_refused") cdv A outer s H E) (a0 := a0) (pn := pn) hz hf
      exact (dss_cons (ds_if (DW.dt (dw_or (dt_not (dt_truth (de_isi (de_attrC (errAt fx.x_NotUsable fx.no_NotUsable_word) hm0 hz.zc hf (de_var 4)) fx.n_isinstance fx.n_str (by decide +kernel) (by decide)))) (dw_or (dt_ne hr.units (de_attrC (errAt fx.x_NotUsable fx.no_NotUsable_word) hm0 hz.zc hf (de_var 4)) (de_var 3)) (dw_or (dt_not (dt_truth (de_callHC (j := 7) (ch__law_whole fx) b__law_whole (roomH_suite hr) (by omega) hot takes0 (da_cons (de_attrC (errAt fx.x_NotUsable fx.no_NotUsable_at) hm0 hz.zc hf (de_var 4)) da_nil)))) (dw_or1 (dt_ne hr.units (de_attrC (errAt fx.x_NotUsable fx.no_NotUsable_at) hm0 hz.zc hf (de_var 4)) (de_neg de_int))))))) (dss_cons (ds_ret de_bl)
      dss_nil) dss_nil)
      (dss_cons (ds_ret (de_and (de_isC (cw := .ref (He.ga K "WebError")) true (isTab1 fx.x_NotUsable fx.is_NotUsable_WebError) hm0 rfl hz.zc hf (de_var 4) (pe_glob rfl fx.g_WebError rfl) (fun _ h => h) fx.n_isinstance) (de_and (de_isC (cw := .ty "ValueError") true (isTab1 fx.x_NotUsable fx.is_NotUsable_ValueError) hm0 rfl hz.zc hf (de_var 4) (pe_bltn rfl fx.n_ValueError (by decide +kernel) rfl) (fun _ h => h) fx.n_isinstance) (de_one (de_not (de_isC (cw := .ref (He.ga K "PaperError")) false (isTab1 fx.x_NotUsable fx.is_NotUsable_PaperError) hm0 rfl hz.zc hf (de_var 4) (pe_glob rfl fx.g_PaperError rfl) (fun _ h => h) fx.n_isinstance))))))
      dss_nil))))
      (dss_cons (ds_ret de_bl)
      dss_nil))
noncomputable def D__law_loads : SDen := sSeq (sAsg (dVar 0) (PD.tTup 2 (PD.tCons (tName 3) (PD.tCons (tName 4) (PD.tNil))))) (sSeq (sAsg (dVar 1) (PD.tTup 2 (PD.tCons (tName 5) (PD.tCons (tName 6) (PD.tNil))))) (sSeq (sSet 7 (dBin oMul (dLst (dCons (dBin oMul (dVar 4) (dVar 6)) (dNil))) (dVar 2))) (sSeq (sIf (dNot (dTru (dFn 3 O__law_entries (dCons (dFn 2 O_added (dCons (dVar 0) (dCons (dVar 1) (dNil)))) (dCons (dLc [8] (dRange1 (dVar 2)) (.one 8) (dYes) (dBin oPlus (dBin oMul (dBin oIx (dVar 3) (dVar 8)) (dVar 6)) (dBin oMul (dBin oIx (dVar 5) (dVar 8)) (dVar 4)))) (dCons (dVar 7) (dNil))))))) (sSeq (sRet (dC (.bl false))) (sNil)) (sNil)) (sSeq (sIf (dNot (dTru (dFn 3 O__law_entries (dCons (dFn 2 O_lesser_of (dCons (dVar 0) (dCons (dVar 1) (dNil)))) (dCons (dLc [8] (dRange1 (dVar 2)) (.one 8) (dYes) (dCall oMin2 (dCons (dBin oMul (dBin oIx (dVar 3) (dVar 8)) (dVar 6)) (dCons (dBin oMul (dBin oIx (dVar 5) (dVar 8)) (dVar 4)) (dNil))))) (dCons (dVar 7) (dNil))))))) (sSeq (sRet (dC (.bl false))) (sNil)) (sNil)) (sSeq (sIf (dNot (dTru (dFn 3 O__law_entries (dCons (dFn 2 O_greater_of (dCons (dVar 0) (dCons (dVar 1) (dNil)))) (dCons (dLc [8] (dRange1 (dVar 2)) (.one 8) (dYes) (dCall oMax2 (dCons (dBin oMul (dBin oIx (dVar 3) (dVar 8)) (dVar 6)) (dCons (dBin oMul (dBin oIx (dVar 5) (dVar 8)) (dVar 4)) (dNil))))) (dCons (dVar 7) (dNil))))))) (sSeq (sRet (dC (.bl false))) (sNil)) (sNil)) (sSeq (sIf (dNot (dTru (dFn 3 O__law_equal (dCons (dFn 2 O_product_of (dCons (dVar 0) (dCons (dVar 1) (dNil)))) (dCons (dCall oSum (dCons (dLc [8] (dRange1 (dVar 2)) (.one 8) (dYes) (dBin oMul (dBin oIx (dVar 3) (dVar 8)) (dBin oIx (dVar 5) (dVar 8)))) (dNil))) (dCons (dBin oMul (dVar 4) (dVar 6)) (dNil))))))) (sSeq (sRet (dC (.bl false))) (sNil)) (sNil)) (sSeq (sSet 9 (dLc [8] (dRange1 (dVar 2)) (.one 8) (dBin oGt (dBin oMul (dBin oIx (dVar 3) (dVar 8)) (dVar 6)) (dBin oMul (dBin oIx (dVar 5) (dVar 8)) (dVar 4))) (dVar 8))) (sSeq (sSet 10 (dFn 2 O_is_within (dCons (dVar 0) (dCons (dVar 1) (dNil))))) (sSeq (sIf (dOr (dNot (dTru (dIsi "bool" (dVar 10)))) (dBin oNe (dVar 10) (dBin oEq (dCall oLen (dCons (dVar 9) (dNil))) (dC (.int 0))))) (sSeq (sRet (dC (.bl false))) (sNil)) (sNil)) (sSeq (sSet 11 (dFn 2 O_first_above (dCons (dVar 0) (dCons (dVar 1) (dNil))))) (sSeq (sIf (dBin oGt (dCall oLen (dCons (dVar 9) (dNil))) (dC (.int 0))) (sSeq (sRet (dAnd (dFn 1 O__law_whole (dCons (dVar 11) (dNil))) (dAnd (dBin oEq (dVar 11) (dBin oIx (dVar 9) (dC (.int 0)))) (dFn 4 O__law_refused (dCons (dC (.int 9)) (dCons (dVar 1) (dCons (dVar 0) (dCons (dC (.str "other")) (dNil))))))))) (sNil)) (sNil)) (sSeq (sRet (dAnd (dIsN (dVar 11)) (dFn 3 O__law_entries (dCons (dFn 2 O_taken (dCons (dVar 1) (dCons (dVar 0) (dNil)))) (dCons (dLc [8] (dRange1 (dVar 2)) (.one 8) (dYes) (dBin oSub (dBin oMul (dBin oIx (dVar 5) (dVar 8)) (dVar 4)) (dBin oMul (dBin oIx (dVar 3) (dVar 8)) (dVar 6)))) (dCons (dVar 7) (dNil))))))) (sNil)))))))))))))
theorem Q__law_loads : ∃ F : Op, F = fnOf ["_law_u", "_law_v", "_law_n", "_law_a", "_law_b", "_law_c", "_law_e", "_law_bots", "_law_i", "_law_more", "_law_flag", "_law_first"] D__law_loads := ⟨_, rfl⟩
noncomputable def O__law_loads : Op := Classical.choose Q__law_loads
instance is__law_loads : Is O__law_loads ["_law_u", "_law_v", "_law_n", "_law_a", "_law_b", "_law_c", "_law_e", "_law_bots", "_law_i", "_law_more", "_law_flag", "_law_first"] D__law_loads := ⟨Classical.choose_spec Q__law_loads⟩
theorem sc__law_loads : FnScope ["_law_u", "_law_v", "_law_n", "_law_a", "_law_b", "_law_c", "_law_e", "_law_bots", "_law_i", "_law_more", "_law_flag", "_law_first"] ["_law_u", "_law_v", "_law_n"] (defScope (top 65)) := ⟨rfl, rfl, rfl, by decide +kernel, rfl, by decide +kernel, by decide +kernel⟩
theorem b__law_loads : BindsAll "_law_loads" (top 65) ["_law_u", "_law_v", "_law_n"] := fun _ _ _ _ _ _ us hl => match us, hl with | [_, _, _], _ => rfl
theorem c__law_loads (fx : Facts K mg) : Callee P w K mg base 9 "_law_loads" (top 65) ["_law_u", "_law_v", "_law_n"] O__law_loads := by
  obtain ⟨fd, F⟩ := fx.F__law_loads
  refine ⟨fx.g__law_loads, fd, F, ?_⟩
  rw [is__law_loads.eq]
  refine fn_den F sc__law_loads fun cdv A outer s H E hr tk => ?_
  have nd := sc__law_loads.nd
  exact (dss_cons (ds_asg (de_var 0) (dg_tup rfl (dgs_cons (dg_name 3 nd) (dgs_cons (dg_name 4 nd) dgs_nil))))
      (dss_cons (ds_asg (de_var 1) (dg_tup rfl (dgs_cons (dg_name 5 nd) (dgs_cons (dg_name 6 nd) dgs_nil))))
      (dss_cons (ds_set 7 nd (de_mul (de_lst (da_cons (de_mul (de_var 4) (de_var 6)) da_nil)) (de_var 2)))
      (dss_cons (ds_if (dt_not (dt_truth (de_callC (c__law_entries fx) b__law_entries hr (by omega) tk (da_cons (de_callC (c_added fx) b_added hr (by omega) tk (da_cons (de_var 0) (da_cons (de_var 1) da_nil))) (da_cons (de_lc [("_law_i", 8)] (.one 8) rfl nd (by decide) (by exact blkB_ok (by kernel_rfl)) (di_range1 fx.n_range (de_var 2)) (fun _ _ _ _ _ => (pg_name nd rfl (by first | exact .inl rfl | exact .inr rfl) (by first | exact .inl rfl | exact .inr rfl))) (fun _ _ _ _ _ => dts_nil) (fun _ _ _ _ _ => (de_add (de_mul (de_ix (de_var 3) (de_var 8)) (de_var 6)) (de_mul (de_ix (de_var 5) (de_var 8)) (de_var 4))))) (da_cons (de_var 7) da_nil)))))) (dss_cons (ds_ret de_bl)
      dss_nil) dss_nil)
      (dss_cons (ds_if (dt_not (dt_truth (de_callC (c__law_entries fx) b__law_entries hr (by omega) tk (da_cons (de_callC (c_lesser_of fx) b_lesser_of hr (by omega) tk (da_cons (de_var 0) (da_cons (de_var 1) da_nil))) (da_cons (de_lc [("_law_i", 8)] (.one 8) rfl nd (by decide) (by exact blkB_ok (by kernel_rfl)) (di_range1 fx.n_range (de_var 2)) (fun _ _ _ _ _ => (pg_name nd rfl (by first | exact .inl rfl | exact .inr rfl) (by first | exact .inl rfl | exact .inr rfl))) (fun _ _ _ _ _ => dts_nil) (fun _ _ _ _ _ => (de_callB (call_min2 rfl) callD_min2 (by decide +kernel) fx.n_min (da_cons (de_mul (de_ix (de_var 3) (de_var 8)) (de_var 6)) (da_cons (de_mul (de_ix (de_var 5) (de_var 8)) (de_var 4)) da_nil))))) (da_cons (de_var 7) da_nil)))))) (dss_cons (ds_ret de_bl)
      dss_nil) dss_nil)
      (dss_cons (ds_if (dt_not (dt_truth (de_callC (c__law_entries fx) b__law_entries hr (by omega) tk (da_cons (de_callC (c_greater_of fx) b_greater_of hr (by omega) tk (da_cons (de_var 0) (da_cons (de_var 1) da_nil))) (da_cons (de_lc [("_law_i", 8)] (.one 8) rfl nd (by decide) (by exact blkB_ok (by kernel_rfl)) (di_range1 fx.n_range (de_var 2)) (fun _ _ _ _ _ => (pg_name nd rfl (by first | exact .inl rfl | exact .inr rfl) (by first | exact .inl rfl | exact .inr rfl))) (fun _ _ _ _ _ => dts_nil) (fun _ _ _ _ _ => (de_callB (call_max2 rfl) callD_max2 (by decide +kernel) fx.n_max (da_cons (de_mul (de_ix (de_var 3) (de_var 8)) (de_var 6)) (da_cons (de_mul (de_ix (de_var 5) (de_var 8)) (de_var 4)) da_nil))))) (da_cons (de_var 7) da_nil)))))) (dss_cons (ds_ret de_bl)
      dss_nil) dss_nil)
      (dss_cons (ds_if (dt_not (dt_truth (de_callC (c__law_equal fx) b__law_equal hr (by omega) tk (da_cons (de_callC (c_product_of fx) b_product_of hr (by omega) tk (da_cons (de_var 0) (da_cons (de_var 1) da_nil))) (da_cons (de_callB (call_sumA rfl) callD_sum (by decide +kernel) fx.n_sum (da_cons (de_lc [("_law_i", 8)] (.one 8) rfl nd (by decide) (by exact blkB_ok (by kernel_rfl)) (di_range1 fx.n_range (de_var 2)) (fun _ _ _ _ _ => (pg_name nd rfl (by first | exact .inl rfl | exact .inr rfl) (by first | exact .inl rfl | exact .inr rfl))) (fun _ _ _ _ _ => dts_nil) (fun _ _ _ _ _ => (de_mul (de_ix (de_var 3) (de_var 8)) (de_ix (de_var 5) (de_var 8))))) da_nil)) (da_cons (de_mul (de_var 4) (de_var 6)) da_nil)))))) (dss_cons (ds_ret de_bl)
      dss_nil) dss_nil)
      (dss_cons (ds_setLc 9 [("_law_i", 8)] (.one 8) rfl nd (by decide) (by exact blkB_ok (by kernel_rfl)) (di_range1 fx.n_range (de_var 2)) (fun _ _ _ _ _ => (pg_name nd rfl (by first | exact .inl rfl | exact .inr rfl) (by first | exact .inl rfl | exact .inr rfl))) (fun _ _ _ _ _ => (dts_one (dt_gt (de_mul (de_ix (de_var 3) (de_var 8)) (de_var 6)) (de_mul (de_ix (de_var 5) (de_var 8)) (de_var 4))))) (fun _ _ _ _ _ => (de_var 8)) (by rfl))
      (dss_cons (ds_set 10 nd (de_callC (c_is_within fx) b_is_within hr (by omega) tk (da_cons (de_var 0) (da_cons (de_var 1) da_nil))))
      (dss_cons (ds_if (DW.dt (dw_or (dt_not (dt_truth (de_isi (de_var 10) fx.n_isinstance fx.n_bool (by decide +kernel) (by decide)))) (dw_or1 (dt_ne hr.units (de_var 10) (de_eq hr.units (de_len fx.n_len (da_cons (de_var 9) da_nil)) de_int))))) (dss_cons (ds_ret de_bl)
      dss_nil) dss_nil)
      (dss_cons (ds_set 11 nd (de_callC (c_first_above fx) b_first_above hr (by omega) tk (da_cons (de_var 0) (da_cons (de_var 1) da_nil))))
      (dss_cons (ds_if (dt_gt (de_len fx.n_len (da_cons (de_var 9) da_nil)) de_int) (dss_cons (ds_ret (de_and (de_callC (c__law_whole fx) b__law_whole hr (by omega) tk (da_cons (de_var 11) da_nil)) (de_and (de_eq hr.units (de_var 11) (de_ix (de_var 9) de_int)) (de_one (de_callC (c__law_refused fx) b__law_refused hr (by omega) tk (da_cons de_int (da_cons (de_var 1) (da_cons (de_var 0) (da_cons de_str da_nil)))))))))
      dss_nil) dss_nil)
      (dss_cons (ds_ret (de_and (de_isN (de_var 11)) (de_one (de_callC (c__law_entries fx) b__law_entries hr (by omega) tk (da_cons (de_callC (c_taken fx) b_taken hr (by omega) tk (da_cons (de_var 1) (da_cons (de_var 0) da_nil))) (da_cons (de_lc [("_law_i", 8)] (.one 8) rfl nd (by decide) (by exact blkB_ok (by kernel_rfl)) (di_range1 fx.n_range (de_var 2)) (fun _ _ _ _ _ => (pg_name nd rfl (by first | exact .inl rfl | exact .inr rfl) (by first | exact .inl rfl | exact .inr rfl))) (fun _ _ _ _ _ => dts_nil) (fun _ _ _ _ _ => (de_sub (de_mul (de_ix (de_var 5) (de_var 8)) (de_var 4)) (de_mul (de_ix (de_var 3) (de_var 8)) (de_var 6))))) (da_cons (de_var 7) da_nil)))))))
      dss_nil)))))))))))))
noncomputable def D__law_no_loads : SDen := sSeq (sSet 4 (dLst (dCons (dVar 2) (dCons (dUn oNeg (dC (.int 1))) (dCons (dC (.bl true)) (dCons (dC .non) (dCons (dC (.str "0")) (dCons (dTup (dCons (dC (.int 0)) (dNil))) (dCons (dLst (dCons (dC (.int 0)) (dNil))) (dCons (dBin oPlus (dVar 2) (dC (.int 3))) (dNil))))))))))) (sSeq (sFor (dRange1 (dC (.int 2))) (tName 5) (sSeq (sSet 6 (dBin oIx (dLst (dCons (dVar 1) (dCons (dVar 2) (dNil)))) (dVar 5))) (sSeq (sIf (dNot (dTru (dFn 4 O__law_refused (dCons (dBin oPlus (dC (.int 6)) (dVar 5)) (dCons (dVar 6) (dCons (dBin oIx (dVar 4) (dBin oMod (dCall oInt1 (dCons (dBin oPlus (dBin oIx (dVar 0) (dC (.int 46))) (dVar 5)) (dNil))) (dC (.int 8)))) (dCons (dC (.str "place")) (dNil)))))))) (sSeq (sRet (dC (.bl false))) (sNil)) (sNil)) (sNil)))) (sSeq (sSet 7 (dTup (dCons (dBin oPlus (dBin oIx (dVar 1) (dC (.int 0))) (dTup (dCons (dC (.int 0)) (dNil)))) (dCons (dBin oIx (dVar 1) (dC (.int 1))) (dNil))))) (sSeq (sSet 8 (dTup (dCons (dCall oTuple1 (dCons (dLc [9] (dItems (dBin oIx (dVar 1) (dC (.int 0)))) (.one 9) (dYes) (dBin oMul (dC (.int 2)) (dVar 9))) (dNil))) (dCons (dBin oMul (dC (.int 2)) (dBin oIx (dVar 1) (dC (.int 1)))) (dNil))))) (sSeq (sSet 10 (dLst (dCons (dVar 7) (dCons (dVar 8) (dCons (dLst (dCons (dBin oIx (dVar 1) (dC (.int 0))) (dCons (dBin oIx (dVar 1) (dC (.int 1))) (dNil)))) (dCons (dTup (dCons (dCall oList1 (dCons (dBin oIx (dVar 1) (dC (.int 0))) (dNil))) (dCons (dBin oIx (dVar 1) (dC (.int 1))) (dNil)))) (dCons (dBin oIx (dVar 1) (dC (.int 0))) (dCons (dC .non) (dCons (dTup (dCons (dBin oIx (dVar 1) (dC (.int 0))) (dCons (dC (.bl true)) (dNil)))) (dCons (dTup (dCons (dBin oIx (dVar 1) (dC (.int 0))) (dCons (dC (.int 0)) (dNil)))) (dCons (dTup (dCons (dCut (dBin oIx (dVar 1) (dC (.int 0))) (some (dC (.int 1))) none) (dCons (dBin oIx (dVar 1) (dC (.int 1))) (dNil)))) (dNil)))))))))))) (sSeq (sSet 10 (dBin oPlus (dVar 10) (dLst (dCons (dTup (dCons (dBin oPlus (dTup (dCons (dC (.bl true)) (dNil))) (dCut (dBin oIx (dVar 1) (dC (.int 0))) (some (dC (.int 1))) none)) (dCons (dC (.int 1)) (dNil)))) (dCons (dTup (dCons (dBin oPlus (dTup (dCons (dUn oNeg (dC (.int 1))) (dNil))) (dCut (dBin oIx (dVar 1) (dC (.int 0))) (some (dC (.int 1))) none)) (dCons (dC (.int 1)) (dNil)))) (dCons (dTup (dCons (dBin oIx (dVar 1) (dC (.int 0))) (dCons (dBin oIx (dVar 1) (dC (.int 1))) (dCons (dC (.int 1)) (dNil))))) (dCons (dC (.bl true)) (dCons (dC (.str "0/1")) (dNil))))))))) (sSeq (sFor (dRange1 (dC (.int 8))) (tName 11) (sSeq (sSet 5 (dBin oIx (dLst (dCons (dC (.int 8)) (dCons (dC (.int 9)) (dCons (dC (.int 11)) (dCons (dC (.int 12)) (dCons (dC (.int 13)) (dCons (dC (.int 14)) (dCons (dC (.int 15)) (dCons (dC (.int 10)) (dNil)))))))))) (dVar 11))) (sSeq (sSet 9 (dBin oIx (dVar 10) (dBin oMod (dCall oInt1 (dCons (dBin oPlus (dBin oIx (dVar 0) (dC (.int 47))) (dBin oMul (dC (.int 3)) (dVar 11))) (dNil))) (dC (.int 14))))) (sSeq (sSet 12 (dC (.str "other"))) (sSeq (sIf (dBin oEq (dVar 5) (dC (.int 10))) (sSeq (sSet 12 (dC (.str "factor"))) (sSeq (sSet 9 (dBin oIx (dLst (dCons (dTup (dCons (dUn oNeg (dC (.int 1))) (dCons (dC (.int 2)) (dNil)))) (dCons (dTup (dCons (dC (.int 2)) (dCons (dC (.int 4)) (dNil)))) (dCons (dC .non) (dCons (dC (.bl true)) (dCons (dC (.int 2)) (dCons (dLst (dCons (dC (.int 1)) (dCons (dC (.int 2)) (dNil)))) (dCons (dTup (dCons (dC (.int 1)) (dCons (dC (.int 0)) (dNil)))) (dCons (dTup (dCons (dC (.int 0)) (dCons (dC (.int 2)) (dNil)))) (dNil)))))))))) (dBin oMod (dCall oInt1 (dCons (dBin oIx (dVar 0) (dC (.int 48))) (dNil))) (dC (.int 8))))) (sNil))) (sNil)) (sSeq (sIf (dNot (dTru (dFn 4 O__law_refused (dCons (dVar 5) (dCons (dVar 1) (dCons (dVar 9) (dCons (dVar 12) (dNil)))))))) (sSeq (sRet (dC (.bl false))) (sNil)) (sNil)) (sNil))))))) (sSeq (sRet (dOr (dBin oGe (dBin oIx (dVar 3) (dC (.int 0))) (dC (.int 0))) (dFn 4 O__law_refused (dCons (dC (.int 10)) (dCons (dVar 1) (dCons (dVar 3) (dCons (dC (.str "factor")) (dNil)))))))) (sNil))))))))
theorem Q__law_no_loads : ∃ F : Op, F = fnOf ["_law_d", "_law_u", "_law_n", "_law_p", "_law_odd", "_law_which", "_law_first", "_law_wide", "_law_twice", "_law_x", "_law_bad", "_law_k", "_law_name"] D__law_no_loads := ⟨_, rfl⟩
noncomputable def O__law_no_loads : Op := Classical.choose Q__law_no_loads
instance is__law_no_loads : Is O__law_no_loads ["_law_d", "_law_u", "_law_n", "_law_p", "_law_odd", "_law_which", "_law_first", "_law_wide", "_law_twice", "_law_x", "_law_bad", "_law_k", "_law_name"] D__law_no_loads := ⟨Classical.choose_spec Q__law_no_loads⟩
theorem sc__law_no_loads : FnScope ["_law_d", "_law_u", "_law_n", "_law_p", "_law_odd", "_law_which", "_law_first", "_law_wide", "_law_twice", "_law_x", "_law_bad", "_law_k", "_law_name"] ["_law_d", "_law_u", "_law_n", "_law_p"] (defScope (top 67)) := ⟨rfl, rfl, rfl, by decide +kernel, rfl, by decide +kernel, by decide +kernel⟩
theorem b__law_no_loads : BindsAll "_law_no_loads" (top 67) ["_law_d", "_law_u", "_law_n", "_law_p"] := fun _ _ _ _ _ _ us hl => match us, hl with | [_, _, _, _], _ => rfl
theorem c__law_no_loads (fx : Facts K mg) : Callee P w K mg base 9 "_law_no_loads" (top 67) ["_law_d", "_law_u", "_law_n", "_law_p"] O__law_no_loads := by
  obtain ⟨fd, F⟩ := fx.F__law_no_loads
  refine ⟨fx.g__law_no_loads, fd, F, ?_⟩
  rw [is__law_no_loads.eq]
  refine fn_den F sc__law_no_loads fun cdv A outer s H E hr tk => ?_
  have nd := sc__law_no_loads.nd
  exact (dss_cons (ds_set 4 nd (de_lst (da_cons (de_var 2) (da_cons (de_neg de_int) (da_cons de_bl (da_cons de_non (da_cons de_str (da_cons (de_tup (da_cons de_int da_nil)) (da_cons (de_lst (da_cons de_int da_nil)) (da_cons (de_add (de_var 2) de_int) da_nil))))))))))
      (dss_cons (ds_for (L2.passes_of rfl) rfl (di_range1 fx.n_range de_int) (dg_name 5 nd) (dss_cons (ds_set 6 nd (de_ix (de_lst (da_cons (de_var 1) (da_cons (de_var 2) da_nil))) (de_var 5)))
      (dss_cons (ds_if (dt_not (dt_truth (de_callC (c__law_refused fx) b__law_refused hr (by omega) tk (da_cons (de_add de_int (de_var 5)) (da_cons (de_var 6) (da_cons (de_ix (de_var 4) (de_mod (de_callTy call_int1 callD_int1 (by decide +kernel) fx.n_int (da_cons (de_add (de_ix (de_var 0) de_int) (de_var 5)) da_nil)) de_int)) (da_cons de_str da_nil))))))) (dss_cons (ds_ret de_bl)
      dss_nil) dss_nil)
      dss_nil)))
      (dss_cons (ds_set 7 nd (de_tup (da_cons (de_add (de_ix (de_var 1) de_int) (de_tup (da_cons de_int da_nil))) (da_cons (de_ix (de_var 1) de_int) da_nil))))
      (dss_cons (ds_set 8 nd (de_tup (da_cons (de_callTy call_tuple_of callD_tuple1 (by decide +kernel) fx.n_tuple (da_cons (de_lc [("_law_x", 9)] (.one 9) rfl nd (by decide) (by exact blkB_ok (by kernel_rfl)) (di_seq (de_ix (de_var 1) de_int)) (fun _ _ _ _ _ => (pg_name nd rfl (by first | exact .inl rfl | exact .inr rfl) (by first | exact .inl rfl | exact .inr rfl))) (fun _ _ _ _ _ => dts_nil) (fun _ _ _ _ _ => (de_mul de_int (de_var 9)))) da_nil)) (da_cons (de_mul de_int (de_ix (de_var 1) de_int)) da_nil))))
      (dss_cons (ds_set 10 nd (de_lst (da_cons (de_var 7) (da_cons (de_var 8) (da_cons (de_lst (da_cons (de_ix (de_var 1) de_int) (da_cons (de_ix (de_var 1) de_int) da_nil))) (da_cons (de_tup (da_cons (de_callTy call_list_of callD_list1 (by decide +kernel) fx.n_list (da_cons (de_ix (de_var 1) de_int) da_nil)) (da_cons (de_ix (de_var 1) de_int) da_nil))) (da_cons (de_ix (de_var 1) de_int) (da_cons de_non (da_cons (de_tup (da_cons (de_ix (de_var 1) de_int) (da_cons de_bl da_nil))) (da_cons (de_tup (da_cons (de_ix (de_var 1) de_int) (da_cons de_int da_nil))) (da_cons (de_tup (da_cons (de_cut (de_ix (de_var 1) de_int) de_int trivial) (da_cons (de_ix (de_var 1) de_int) da_nil))) da_nil)))))))))))
      (dss_cons (ds_set 10 nd (de_add (de_var 10) (de_lst (da_cons (de_tup (da_cons (de_add (de_tup (da_cons de_bl da_nil)) (de_cut (de_ix (de_var 1) de_int) de_int trivial)) (da_cons de_int da_nil))) (da_cons (de_tup (da_cons (de_add (de_tup (da_cons (de_neg de_int) da_nil)) (de_cut (de_ix (de_var 1) de_int) de_int trivial)) (da_cons de_int da_nil))) (da_cons (de_tup (da_cons (de_ix (de_var 1) de_int) (da_cons (de_ix (de_var 1) de_int) (da_cons de_int da_nil)))) (da_cons de_bl (da_cons de_str da_nil))))))))
      (dss_cons (ds_for (L2.passes_of rfl) rfl (di_range1 fx.n_range de_int) (dg_name 11 nd) (dss_cons (ds_set 5 nd (de_ix (de_lst (da_cons de_int (da_cons de_int (da_cons de_int (da_cons de_int (da_cons de_int (da_cons de_int (da_cons de_int (da_cons de_int da_nil))))))))) (de_var 11)))
      (dss_cons (ds_set 9 nd (de_ix (de_var 10) (de_mod (de_callTy call_int1 callD_int1 (by decide +kernel) fx.n_int (da_cons (de_add (de_ix (de_var 0) de_int) (de_mul de_int (de_var 11))) da_nil)) de_int)))
      (dss_cons (ds_set 12 nd de_str)
      (dss_cons (ds_if (dt_eq hr.units (de_var 5) de_int) (dss_cons (ds_set 12 nd de_str)
      (dss_cons (ds_set 9 nd (de_ix (de_lst (da_cons (de_tup (da_cons (de_neg de_int) (da_cons de_int da_nil))) (da_cons (de_tup (da_cons de_int (da_cons de_int da_nil))) (da_cons de_non (da_cons de_bl (da_cons de_int (da_cons (de_lst (da_cons de_int (da_cons de_int da_nil))) (da_cons (de_tup (da_cons de_int (da_cons de_int da_nil))) (da_cons (de_tup (da_cons de_int (da_cons de_int da_nil))) da_nil))))))))) (de_mod (de_callTy call_int1 callD_int1 (by decide +kernel) fx.n_int (da_cons (de_ix (de_var 0) de_int) da_nil)) de_int)))
      dss_nil)) dss_nil)
      (dss_cons (ds_if (dt_not (dt_truth (de_callC (c__law_refused fx) b__law_refused hr (by omega) tk (da_cons (de_var 5) (da_cons (de_var 1) (da_cons (de_var 9) (da_cons (de_var 12) da_nil))))))) (dss_cons (ds_ret de_bl)
      dss_nil) dss_nil)
      dss_nil))))))
      (dss_cons (ds_ret (de_or (de_ge (de_ix (de_var 3) de_int) de_int) (de_one (de_callC (c__law_refused fx) b__law_refused hr (by omega) tk (da_cons de_int (da_cons (de_var 1) (da_cons (de_var 3) (da_cons de_str da_nil))))))))
      dss_nil))))))))
noncomputable def D__law_no_quotients : SDen := sSeq (sSet 2 (dLst (dCons (dC .non) (dCons (dC (.bl true)) (dCons (dC (.int 3)) (dCons (dC (.str "1/2")) (dCons (dTup (dCons (dC (.int 2)) (dCons (dC (.int 4)) (dNil)))) (dCons (dTup (dCons (dC (.int 1)) (dCons (dC (.int 0)) (dNil)))) (dCons (dTup (dCons (dC (.int 1)) (dCons (dUn oNeg (dC (.int 2))) (dNil)))) (dCons (dLst (dCons (dC (.int 1)) (dCons (dC (.int 2)) (dNil)))) (dCons (dTup (dCons (dC (.int 1)) (dCons (dC (.int 2)) (dCons (dC (.int 3)) (dNil))))) (dCons (dTup (dCons (dC (.bl true)) (dCons (dC (.int 2)) (dNil)))) (dCons (dTup (dCons (dC (.int 1)) (dCons (dC (.bl true)) (dNil)))) (dCons (dTup (dCons (dC (.int 1)) (dNil))) (dCons (dTup (dCons (dC (.int 0)) (dCons (dC (.int 2)) (dNil)))) (dNil)))))))))))))))) (sSeq (sSet 3 (dBin oMod (dCall oInt1 (dCons (dBin oIx (dVar 0) (dC (.int 40))) (dNil))) (dC (.int 13)))) (sSeq (sFor (dRange1 (dC (.int 5))) (tName 4) (sSeq (sSet 5 (dBin oIx (dVar 2) (dBin oMod (dCall oInt1 (dCons (dBin oPlus (dVar 3) (dBin oMul (dC (.int 5)) (dVar 4))) (dNil))) (dC (.int 13))))) (sSeq (sSet 6 (dBin oIx (dVar 2) (dBin oMod (dCall oInt1 (dCons (dBin oPlus (dBin oPlus (dVar 3) (dBin oMul (dC (.int 7)) (dVar 4))) (dC (.int 3))) (dNil))) (dC (.int 13))))) (sSeq (sIf (dOr (dNot (dTru (dFn 4 O__law_refused (dCons (dVar 4) (dCons (dVar 5) (dCons (dVar 1) (dCons (dC (.str "one")) (dNil)))))))) (dNot (dTru (dFn 4 O__law_refused (dCons (dVar 4) (dCons (dVar 1) (dCons (dVar 5) (dCons (dC (.str "other")) (dNil))))))))) (sSeq (sRet (dC (.bl false))) (sNil)) (sNil)) (sSeq (sIf (dNot (dTru (dFn 4 O__law_refused (dCons (dVar 4) (dCons (dVar 5) (dCons (dVar 6) (dCons (dC (.str "one")) (dNil)))))))) (sSeq (sRet (dC (.bl false))) (sNil)) (sNil)) (sNil)))))) (sSeq (sSet 7 (dLst (dCons (dC (.bl true)) (dCons (dC .non) (dCons (dC (.str "1")) (dCons (dTup (dCons (dC (.int 1)) (dCons (dC (.int 2)) (dNil)))) (dCons (dLst (dCons (dC (.int 1)) (dNil))) (dCons (dC (.bl false)) (dCons (dTup (dNil)) (dNil)))))))))) (sSeq (sSet 5 (dBin oIx (dVar 7) (dBin oMod (dCall oInt1 (dCons (dBin oIx (dVar 0) (dC (.int 41))) (dNil))) (dC (.int 7))))) (sSeq (sIf (dOr (dNot (dTru (dFn 4 O__law_refused (dCons (dC (.int 5)) (dCons (dVar 5) (dCons (dC (.int 0)) (dCons (dC (.str "top")) (dNil)))))))) (dNot (dTru (dFn 4 O__law_refused (dCons (dC (.int 5)) (dCons (dC (.int 1)) (dCons (dVar 5) (dCons (dC (.str "bottom")) (dNil))))))))) (sSeq (sRet (dC (.bl false))) (sNil)) (sNil)) (sSeq (sIf (dNot (dTru (dFn 4 O__law_refused (dCons (dC (.int 5)) (dCons (dBin oIx (dVar 1) (dC (.int 0))) (dCons (dC (.int 0)) (dCons (dC (.str "bottom")) (dNil)))))))) (sSeq (sRet (dC (.bl false))) (sNil)) (sNil)) (sSeq (sIf (dOr (dNot (dTru (dFn 4 O__law_refused (dCons (dC (.int 3)) (dCons (dVar 1) (dCons (dTup (dCons (dC (.int 0)) (dCons (dC (.int 1)) (dNil)))) (dCons (dC (.str "other")) (dNil)))))))) (dNot (dTru (dFn 4 O__law_refused (dCons (dC (.int 3)) (dCons (dBin oIx (dVar 2) (dVar 3)) (dCons (dTup (dCons (dC (.int 0)) (dCons (dC (.int 1)) (dNil)))) (dCons (dC (.str "one")) (dNil))))))))) (sSeq (sRet (dC (.bl false))) (sNil)) (sNil)) (sSeq (sSet 8 (dTup (dCons (dC (.int 1)) (dCons (dC (.int 2)) (dNil))))) (sSeq (sSet 9 (dLst (dCons (dTup (dNil)) (dCons (dLst (dCons (dVar 8) (dNil))) (dCons (dC .non) (dCons (dTup (dCons (dVar 8) (dCons (dTup (dCons (dUn oNeg (dC (.int 1))) (dCons (dC (.int 2)) (dNil)))) (dNil)))) (dCons (dTup (dCons (dVar 8) (dCons (dTup (dCons (dC (.int 2)) (dCons (dC (.int 4)) (dNil)))) (dNil)))) (dCons (dTup (dCons (dC (.bl true)) (dNil))) (dNil))))))))) (sSeq (sSet 9 (dBin oPlus (dVar 9) (dLst (dCons (dTup (dCons (dVar 8) (dCons (dC (.int 1)) (dNil)))) (dCons (dVar 8) (dCons (dTup (dCons (dTup (dCons (dC (.int 0)) (dCons (dC (.int 2)) (dNil)))) (dNil))) (dCons (dTup (dCons (dTup (dCons (dC (.int 1)) (dCons (dC (.int 0)) (dNil)))) (dCons (dVar 8) (dNil)))) (dCons (dTup (dCons (dLst (dCons (dC (.int 1)) (dCons (dC (.int 2)) (dNil)))) (dNil))) (dCons (dTup (dCons (dC .non) (dCons (dVar 8) (dNil)))) (dNil)))))))))) (sSeq (sSet 5 (dBin oIx (dVar 9) (dBin oMod (dCall oInt1 (dCons (dBin oIx (dVar 0) (dC (.int 42))) (dNil))) (dC (.int 12))))) (sSeq (sRet (dAnd (dFn 4 O__law_refused (dCons (dC (.int 16)) (dCons (dVar 5) (dCons (dC .non) (dCons (dC (.str "quotients")) (dNil)))))) (dFn 4 O__law_refused (dCons (dC (.int 16)) (dCons (dBin oIx (dVar 9) (dBin oMod (dCall oInt1 (dCons (dBin oIx (dVar 0) (dC (.int 43))) (dNil))) (dC (.int 12)))) (dCons (dC .non) (dCons (dC (.str "quotients")) (dNil)))))))) (sNil)))))))))))))
theorem Q__law_no_quotients : ∃ F : Op, F = fnOf ["_law_d", "_law_p", "_law_bad", "_law_k", "_law_which", "_law_x", "_law_y", "_law_odd", "_law_g", "_law_wrong"] D__law_no_quotients := ⟨_, rfl⟩
noncomputable def O__law_no_quotients : Op := Classical.choose Q__law_no_quotients
instance is__law_no_quotients : Is O__law_no_quotients ["_law_d", "_law_p", "_law_bad", "_law_k", "_law_which", "_law_x", "_law_y", "_law_odd", "_law_g", "_law_wrong"] D__law_no_quotients := ⟨Classical.choose_spec Q__law_no_quotients⟩
theorem sc__law_no_quotients : FnScope ["_law_d", "_law_p", "_law_bad", "_law_k", "_law_which", "_law_x", "_law_y", "_law_odd", "_law_g", "_law_wrong"] ["_law_d", "_law_p"] (defScope (top 62)) := ⟨rfl, rfl, rfl, by decide +kernel, rfl, by decide +kernel, by decide +kernel⟩
theorem b__law_no_quotients : BindsAll "_law_no_quotients" (top 62) ["_law_d", "_law_p"] := fun _ _ _ _ _ _ us hl => match us, hl with | [_, _], _ => rfl
theorem c__law_no_quotients (fx : Facts K mg) : Callee P w K mg base 9 "_law_no_quotients" (top 62) ["_law_d", "_law_p"] O__law_no_quotients := by
  obtain ⟨fd, F⟩ := fx.F__law_no_quotients
  refine ⟨fx.g__law_no_quotients, fd, F, ?_⟩
  rw [is__law_no_quotients.eq]
  refine fn_den F sc__law_no_quotients fun cdv A outer s H E hr tk => ?_
  have nd := sc__law_no_quotients.nd
  exact (dss_cons (ds_set 2 nd (de_lst (da_cons de_non (da_cons de_bl (da_cons de_int (da_cons de_str (da_cons (de_tup (da_cons de_int (da_cons de_int da_nil))) (da_cons (de_tup (da_cons de_int (da_cons de_int da_nil))) (da_cons (de_tup (da_cons de_int (da_cons (de_neg de_int) da_nil))) (da_cons (de_lst (da_cons de_int (da_cons de_int da_nil))) (da_cons (de_tup (da_cons de_int (da_cons de_int (da_cons de_int da_nil)))) (da_cons (de_tup (da_cons de_bl (da_cons de_int da_nil))) (da_cons (de_tup (da_cons de_int (da_cons de_bl da_nil))) (da_cons (de_tup (da_cons de_int da_nil)) (da_cons (de_tup (da_cons de_int (da_cons de_int da_nil))) da_nil)))))))))))))))
      (dss_cons (ds_set 3 nd (de_mod (de_callTy call_int1 callD_int1 (by decide +kernel) fx.n_int (da_cons (de_ix (de_var 0) de_int) da_nil)) de_int))
      (dss_cons (ds_for (L2.passes_of rfl) rfl (di_range1 fx.n_range de_int) (dg_name 4 nd) (dss_cons (ds_set 5 nd (de_ix (de_var 2) (de_mod (de_callTy call_int1 callD_int1 (by decide +kernel) fx.n_int (da_cons (de_add (de_var 3) (de_mul de_int (de_var 4))) da_nil)) de_int)))
      (dss_cons (ds_set 6 nd (de_ix (de_var 2) (de_mod (de_callTy call_int1 callD_int1 (by decide +kernel) fx.n_int (da_cons (de_add (de_add (de_var 3) (de_mul de_int (de_var 4))) de_int) da_nil)) de_int)))
      (dss_cons (ds_if (DW.dt (dw_or (dt_not (dt_truth (de_callC (c__law_refused fx) b__law_refused hr (by omega) tk (da_cons (de_var 4) (da_cons (de_var 5) (da_cons (de_var 1) (da_cons de_str da_nil))))))) (dw_or1 (dt_not (dt_truth (de_callC (c__law_refused fx) b__law_refused hr (by omega) tk (da_cons (de_var 4) (da_cons (de_var 1) (da_cons (de_var 5) (da_cons de_str da_nil)))))))))) (dss_cons (ds_ret de_bl)
      dss_nil) dss_nil)
      (dss_cons (ds_if (dt_not (dt_truth (de_callC (c__law_refused fx) b__law_refused hr (by omega) tk (da_cons (de_var 4) (da_cons (de_var 5) (da_cons (de_var 6) (da_cons de_str da_nil))))))) (dss_cons (ds_ret de_bl)
      dss_nil) dss_nil)
      dss_nil)))))
      (dss_cons (ds_set 7 nd (de_lst (da_cons de_bl (da_cons de_non (da_cons de_str (da_cons (de_tup (da_cons de_int (da_cons de_int da_nil))) (da_cons (de_lst (da_cons de_int da_nil)) (da_cons de_bl (da_cons (de_tup da_nil) da_nil)))))))))
      (dss_cons (ds_set 5 nd (de_ix (de_var 7) (de_mod (de_callTy call_int1 callD_int1 (by decide +kernel) fx.n_int (da_cons (de_ix (de_var 0) de_int) da_nil)) de_int)))
      (dss_cons (ds_if (DW.dt (dw_or (dt_not (dt_truth (de_callC (c__law_refused fx) b__law_refused hr (by omega) tk (da_cons de_int (da_cons (de_var 5) (da_cons de_int (da_cons de_str da_nil))))))) (dw_or1 (dt_not (dt_truth (de_callC (c__law_refused fx) b__law_refused hr (by omega) tk (da_cons de_int (da_cons de_int (da_cons (de_var 5) (da_cons de_str da_nil)))))))))) (dss_cons (ds_ret de_bl)
      dss_nil) dss_nil)
      (dss_cons (ds_if (dt_not (dt_truth (de_callC (c__law_refused fx) b__law_refused hr (by omega) tk (da_cons de_int (da_cons (de_ix (de_var 1) de_int) (da_cons de_int (da_cons de_str da_nil))))))) (dss_cons (ds_ret de_bl)
      dss_nil) dss_nil)
      (dss_cons (ds_if (DW.dt (dw_or (dt_not (dt_truth (de_callC (c__law_refused fx) b__law_refused hr (by omega) tk (da_cons de_int (da_cons (de_var 1) (da_cons (de_tup (da_cons de_int (da_cons de_int da_nil))) (da_cons de_str da_nil))))))) (dw_or1 (dt_not (dt_truth (de_callC (c__law_refused fx) b__law_refused hr (by omega) tk (da_cons de_int (da_cons (de_ix (de_var 2) (de_var 3)) (da_cons (de_tup (da_cons de_int (da_cons de_int da_nil))) (da_cons de_str da_nil)))))))))) (dss_cons (ds_ret de_bl)
      dss_nil) dss_nil)
      (dss_cons (ds_set 8 nd (de_tup (da_cons de_int (da_cons de_int da_nil))))
      (dss_cons (ds_set 9 nd (de_lst (da_cons (de_tup da_nil) (da_cons (de_lst (da_cons (de_var 8) da_nil)) (da_cons de_non (da_cons (de_tup (da_cons (de_var 8) (da_cons (de_tup (da_cons (de_neg de_int) (da_cons de_int da_nil))) da_nil))) (da_cons (de_tup (da_cons (de_var 8) (da_cons (de_tup (da_cons de_int (da_cons de_int da_nil))) da_nil))) (da_cons (de_tup (da_cons de_bl da_nil)) da_nil))))))))
      (dss_cons (ds_set 9 nd (de_add (de_var 9) (de_lst (da_cons (de_tup (da_cons (de_var 8) (da_cons de_int da_nil))) (da_cons (de_var 8) (da_cons (de_tup (da_cons (de_tup (da_cons de_int (da_cons de_int da_nil))) da_nil)) (da_cons (de_tup (da_cons (de_tup (da_cons de_int (da_cons de_int da_nil))) (da_cons (de_var 8) da_nil))) (da_cons (de_tup (da_cons (de_lst (da_cons de_int (da_cons de_int da_nil))) da_nil)) (da_cons (de_tup (da_cons de_non (da_cons (de_var 8) da_nil))) da_nil)))))))))
      (dss_cons (ds_set 5 nd (de_ix (de_var 9) (de_mod (de_callTy call_int1 callD_int1 (by decide +kernel) fx.n_int (da_cons (de_ix (de_var 0) de_int) da_nil)) de_int)))
      (dss_cons (ds_ret (de_and (de_callC (c__law_refused fx) b__law_refused hr (by omega) tk (da_cons de_int (da_cons (de_var 5) (da_cons de_non (da_cons de_str da_nil))))) (de_one (de_callC (c__law_refused fx) b__law_refused hr (by omega) tk (da_cons de_int (da_cons (de_ix (de_var 9) (de_mod (de_callTy call_int1 callD_int1 (by decide +kernel) fx.n_int (da_cons (de_ix (de_var 0) de_int) da_nil)) de_int)) (da_cons de_non (da_cons de_str da_nil))))))))
      dss_nil)))))))))))))
noncomputable def D__law_pair : SDen := sSeq (sAsg (dVar 0) (PD.tTup 2 (PD.tCons (tName 2) (PD.tCons (tName 3) (PD.tNil))))) (sSeq (sAsg (dVar 1) (PD.tTup 2 (PD.tCons (tName 4) (PD.tCons (tName 5) (PD.tNil))))) (sSeq (sIf (dNot (dTru (dFn 3 O__law_equal (dCons (dFn 2 O_plus (dCons (dVar 0) (dCons (dVar 1) (dNil)))) (dCons (dBin oPlus (dBin oMul (dVar 2) (dVar 5)) (dBin oMul (dVar 4) (dVar 3))) (dCons (dBin oMul (dVar 3) (dVar 5)) (dNil))))))) (sSeq (sRet (dC (.bl false))) (sNil)) (sNil)) (sSeq (sIf (dNot (dTru (dFn 3 O__law_equal (dCons (dFn 2 O_minus (dCons (dVar 0) (dCons (dVar 1) (dNil)))) (dCons (dBin oSub (dBin oMul (dVar 2) (dVar 5)) (dBin oMul (dVar 4) (dVar 3))) (dCons (dBin oMul (dVar 3) (dVar 5)) (dNil))))))) (sSeq (sRet (dC (.bl false))) (sNil)) (sNil)) (sSeq (sIf (dNot (dTru (dFn 3 O__law_equal (dCons (dFn 2 O_times (dCons (dVar 0) (dCons (dVar 1) (dNil)))) (dCons (dBin oMul (dVar 2) (dVar 4)) (dCons (dBin oMul (dVar 3) (dVar 5)) (dNil))))))) (sSeq (sRet (dC (.bl false))) (sNil)) (sNil)) (sSeq (sSet 6 (dFn 2 O_is_less (dCons (dVar 0) (dCons (dVar 1) (dNil))))) (sSeq (sIf (dOr (dNot (dTru (dIsi "bool" (dVar 6)))) (dBin oNe (dVar 6) (dBin oLt (dBin oMul (dVar 2) (dVar 5)) (dBin oMul (dVar 4) (dVar 3))))) (sSeq (sRet (dC (.bl false))) (sNil)) (sNil)) (sSeq (sIf (dBin oGt (dVar 4) (dC (.int 0))) (sSeq (sRet (dFn 3 O__law_equal (dCons (dFn 2 O_over (dCons (dVar 0) (dCons (dVar 1) (dNil)))) (dCons (dBin oMul (dVar 2) (dVar 5)) (dCons (dBin oMul (dVar 3) (dVar 4)) (dNil)))))) (sNil)) (sNil)) (sSeq (sIf (dBin oLt (dVar 4) (dC (.int 0))) (sSeq (sRet (dFn 3 O__law_equal (dCons (dFn 2 O_over (dCons (dVar 0) (dCons (dVar 1) (dNil)))) (dCons (dBin oMul (dUn oNeg (dVar 2)) (dVar 5)) (dCons (dBin oMul (dUn oNeg (dVar 3)) (dVar 4)) (dNil)))))) (sNil)) (sNil)) (sSeq (sRet (dC (.bl true))) (sNil))))))))))
theorem Q__law_pair : ∃ F : Op, F = fnOf ["_law_p", "_law_q", "_law_a", "_law_b", "_law_c", "_law_e", "_law_less"] D__law_pair := ⟨_, rfl⟩
noncomputable def O__law_pair : Op := Classical.choose Q__law_pair
instance is__law_pair : Is O__law_pair ["_law_p", "_law_q", "_law_a", "_law_b", "_law_c", "_law_e", "_law_less"] D__law_pair := ⟨Classical.choose_spec Q__law_pair⟩
theorem sc__law_pair : FnScope ["_law_p", "_law_q", "_law_a", "_law_b", "_law_c", "_law_e", "_law_less"] ["_law_p", "_law_q"] (defScope (top 59)) := ⟨rfl, rfl, rfl, by decide +kernel, rfl, by decide +kernel, by decide +kernel⟩
theorem b__law_pair : BindsAll "_law_pair" (top 59) ["_law_p", "_law_q"] := fun _ _ _ _ _ _ us hl => match us, hl with | [_, _], _ => rfl
theorem c__law_pair (fx : Facts K mg) : Callee P w K mg base 6 "_law_pair" (top 59) ["_law_p", "_law_q"] O__law_pair := by
  obtain ⟨fd, F⟩ := fx.F__law_pair
  refine ⟨fx.g__law_pair, fd, F, ?_⟩
  rw [is__law_pair.eq]
  refine fn_den F sc__law_pair fun cdv A outer s H E hr tk => ?_
  have nd := sc__law_pair.nd
  exact (dss_cons (ds_asg (de_var 0) (dg_tup rfl (dgs_cons (dg_name 2 nd) (dgs_cons (dg_name 3 nd) dgs_nil))))
      (dss_cons (ds_asg (de_var 1) (dg_tup rfl (dgs_cons (dg_name 4 nd) (dgs_cons (dg_name 5 nd) dgs_nil))))
      (dss_cons (ds_if (dt_not (dt_truth (de_callC (c__law_equal fx) b__law_equal hr (by omega) tk (da_cons (de_callC (c_plus fx) b_plus hr (by omega) tk (da_cons (de_var 0) (da_cons (de_var 1) da_nil))) (da_cons (de_add (de_mul (de_var 2) (de_var 5)) (de_mul (de_var 4) (de_var 3))) (da_cons (de_mul (de_var 3) (de_var 5)) da_nil)))))) (dss_cons (ds_ret de_bl)
      dss_nil) dss_nil)
      (dss_cons (ds_if (dt_not (dt_truth (de_callC (c__law_equal fx) b__law_equal hr (by omega) tk (da_cons (de_callC (c_minus fx) b_minus hr (by omega) tk (da_cons (de_var 0) (da_cons (de_var 1) da_nil))) (da_cons (de_sub (de_mul (de_var 2) (de_var 5)) (de_mul (de_var 4) (de_var 3))) (da_cons (de_mul (de_var 3) (de_var 5)) da_nil)))))) (dss_cons (ds_ret de_bl)
      dss_nil) dss_nil)
      (dss_cons (ds_if (dt_not (dt_truth (de_callC (c__law_equal fx) b__law_equal hr (by omega) tk (da_cons (de_callC (c_times fx) b_times hr (by omega) tk (da_cons (de_var 0) (da_cons (de_var 1) da_nil))) (da_cons (de_mul (de_var 2) (de_var 4)) (da_cons (de_mul (de_var 3) (de_var 5)) da_nil)))))) (dss_cons (ds_ret de_bl)
      dss_nil) dss_nil)
      (dss_cons (ds_set 6 nd (de_callC (c_is_less fx) b_is_less hr (by omega) tk (da_cons (de_var 0) (da_cons (de_var 1) da_nil))))
      (dss_cons (ds_if (DW.dt (dw_or (dt_not (dt_truth (de_isi (de_var 6) fx.n_isinstance fx.n_bool (by decide +kernel) (by decide)))) (dw_or1 (dt_ne hr.units (de_var 6) (de_lt (de_mul (de_var 2) (de_var 5)) (de_mul (de_var 4) (de_var 3))))))) (dss_cons (ds_ret de_bl)
      dss_nil) dss_nil)
      (dss_cons (ds_if (dt_gt (de_var 4) de_int) (dss_cons (ds_ret (de_callC (c__law_equal fx) b__law_equal hr (by omega) tk (da_cons (de_callC (c_over fx) b_over hr (by omega) tk (da_cons (de_var 0) (da_cons (de_var 1) da_nil))) (da_cons (de_mul (de_var 2) (de_var 5)) (da_cons (de_mul (de_var 3) (de_var 4)) da_nil)))))
      dss_nil) dss_nil)
      (dss_cons (ds_if (dt_lt (de_var 4) de_int) (dss_cons (ds_ret (de_callC (c__law_equal fx) b__law_equal hr (by omega) tk (da_cons (de_callC (c_over fx) b_over hr (by omega) tk (da_cons (de_var 0) (da_cons (de_var 1) da_nil))) (da_cons (de_mul (de_neg (de_var 2)) (de_var 5)) (da_cons (de_mul (de_neg (de_var 3)) (de_var 4)) da_nil)))))
      dss_nil) dss_nil)
      (dss_cons (ds_ret de_bl)
      dss_nil))))))))))
noncomputable def D__law_part : SDen := sSeq (sSet 4 (dLcM [5] (dRange1 (dVar 2)) (.one 5) (dYes) (dBin oMul (dBin oIx (dBin oIx (dVar 1) (dC (.int 0))) (dVar 5)) (dBin oMod (dCall oInt1 (dCons (dBin oIx (dVar 0) (dBin oMod (dCall oInt1 (dCons (dBin oPlus (dBin oMul (dC (.int 7)) (dVar 5)) (dC (.int 44))) (dNil))) (dC (.int 60)))) (dNil))) (dC (.int 5)))))) (sSeq (sIf (dBin oLt (dVar 3) (dVar 2)) (sSeq (sStore (dBin oPlus (dBin oMul (dC (.int 4)) (dBin oIx (dBin oIx (dVar 1) (dC (.int 0))) (dVar 3))) (dC (.int 1))) (dVar 4) (dVar 3)) (sNil)) (sNil)) (sSeq (sSet 6 (dBin oMul (dC (.int 4)) (dBin oIx (dVar 1) (dC (.int 1))))) (sSeq (sSet 7 (dVar 6)) (sSeq (sFor (dItems (dVar 4)) (tName 8) (sSeq (sSet 7 (dFn 2 O__law_common (dCons (dVar 8) (dCons (dVar 7) (dNil))))) (sNil))) (sSeq (sRet (dTup (dCons (dCall oTuple1 (dCons (dLc [8] (dItems (dVar 4)) (.one 8) (dYes) (dBin oDiv (dVar 8) (dVar 7))) (dNil))) (dCons (dBin oDiv (dVar 6) (dVar 7)) (dNil))))) (sNil))))))
theorem Q__law_part : ∃ F : Op, F = fnOf ["_law_d", "_law_z", "_law_n", "_law_j", "_law_tops", "_law_i", "_law_b", "_law_g", "_law_x"] D__law_part := ⟨_, rfl⟩
noncomputable def O__law_part : Op := Classical.choose Q__law_part
instance is__law_part : Is O__law_part ["_law_d", "_law_z", "_law_n", "_law_j", "_law_tops", "_law_i", "_law_b", "_law_g", "_law_x"] D__law_part := ⟨Classical.choose_spec Q__law_part⟩
theorem sc__law_part : FnScope ["_law_d", "_law_z", "_law_n", "_law_j", "_law_tops", "_law_i", "_law_b", "_law_g", "_law_x"] ["_law_d", "_law_z", "_law_n", "_law_j"] (defScope (top 64)) := ⟨rfl, rfl, rfl, by decide +kernel, rfl, by decide +kernel, by decide +kernel⟩
theorem b__law_part : BindsAll "_law_part" (top 64) ["_law_d", "_law_z", "_law_n", "_law_j"] := fun _ _ _ _ _ _ us hl => match us, hl with | [_, _, _, _], _ => rfl
theorem c__law_part (fx : Facts K mg) : Callee P w K mg base 2 "_law_part" (top 64) ["_law_d", "_law_z", "_law_n", "_law_j"] O__law_part := by
  obtain ⟨fd, F⟩ := fx.F__law_part
  refine ⟨fx.g__law_part, fd, F, ?_⟩
  rw [is__law_part.eq]
  refine fn_den F sc__law_part fun cdv A outer s H E hr tk => ?_
  have nd := sc__law_part.nd
  exact (dss_cons (ds_setLcM 4 [("_law_i", 5)] (.one 5) rfl nd (by decide) (by exact blkB_ok (by kernel_rfl)) (di_range1 fx.n_range (de_var 2)) (fun _ _ _ _ _ => (pg_name nd rfl (by first | exact .inl rfl | exact .inr rfl) (by first | exact .inl rfl | exact .inr rfl))) (fun _ _ _ _ _ => dts_nil) (fun _ _ _ _ _ => (de_mul (de_ix (de_ix (de_var 1) de_int) (de_var 5)) (de_mod (de_callTy call_int1 callD_int1 (by decide +kernel) fx.n_int (da_cons (de_ix (de_var 0) (de_mod (de_callTy call_int1 callD_int1 (by decide +kernel) fx.n_int (da_cons (de_add (de_mul de_int (de_var 5)) de_int) da_nil)) de_int)) da_nil)) de_int))) (by rfl))
      (dss_cons (ds_if (dt_lt (de_var 3) (de_var 2)) (dss_cons (ds_store (de_add (de_mul de_int (de_ix (de_ix (de_var 1) de_int) (de_var 3))) de_int) (de_var 4) (de_var 3))
      dss_nil) dss_nil)
      (dss_cons (ds_set 6 nd (de_mul de_int (de_ix (de_var 1) de_int)))
      (dss_cons (ds_set 7 nd (de_var 6))
      (dss_cons (ds_for (L2.passes_of rfl) rfl (di_seq (de_var 4)) (dg_name 8 nd) (dss_cons (ds_set 7 nd (de_callC (c__law_common fx) b__law_common hr (by omega) tk (da_cons (de_var 8) (da_cons (de_var 7) da_nil))))
      dss_nil))
      (dss_cons (ds_ret (de_tup (da_cons (de_callTy call_tuple_of callD_tuple1 (by decide +kernel) fx.n_tuple (da_cons (de_lc [("_law_x", 8)] (.one 8) rfl nd (by decide) (by exact blkB_ok (by kernel_rfl)) (di_seq (de_var 4)) (fun _ _ _ _ _ => (pg_name nd rfl (by first | exact .inl rfl | exact .inr rfl) (by first | exact .inl rfl | exact .inr rfl))) (fun _ _ _ _ _ => dts_nil) (fun _ _ _ _ _ => (de_div (de_var 8) (de_var 7)))) da_nil)) (da_cons (de_div (de_var 6) (de_var 7)) da_nil))))
      dss_nil))))))
noncomputable def D__law_lowered : SDen := sSeq (sIf (dBin oLt (dVar 1) (dC (.int 0))) (sSeq (sPar 0 1 (dCons (dUn oNeg (dVar 0)) (dCons (dUn oNeg (dVar 1)) (dNil)))) (sNil)) (sNil)) (sSeq (sSet 2 (dFn 2 O__law_common (dCons (dVar 0) (dCons (dVar 1) (dNil))))) (sSeq (sRet (dTup (dCons (dBin oDiv (dVar 0) (dVar 2)) (dCons (dBin oDiv (dVar 1) (dVar 2)) (dNil))))) (sNil)))
theorem Q__law_lowered : ∃ F : Op, F = fnOf ["_law_t", "_law_b", "_law_g"] D__law_lowered := ⟨_, rfl⟩
noncomputable def O__law_lowered : Op := Classical.choose Q__law_lowered
instance is__law_lowered : Is O__law_lowered ["_law_t", "_law_b", "_law_g"] D__law_lowered := ⟨Classical.choose_spec Q__law_lowered⟩
theorem sc__law_lowered : FnScope ["_law_t", "_law_b", "_law_g"] ["_law_t", "_law_b"] (defScope (top 55)) := ⟨rfl, rfl, rfl, by decide +kernel, rfl, by decide +kernel, by decide +kernel⟩
theorem b__law_lowered : BindsAll "_law_lowered" (top 55) ["_law_t", "_law_b"] := fun _ _ _ _ _ _ us hl => match us, hl with | [_, _], _ => rfl
theorem c__law_lowered (fx : Facts K mg) : Callee P w K mg base 2 "_law_lowered" (top 55) ["_law_t", "_law_b"] O__law_lowered := by
  obtain ⟨fd, F⟩ := fx.F__law_lowered
  refine ⟨fx.g__law_lowered, fd, F, ?_⟩
  rw [is__law_lowered.eq]
  refine fn_den F sc__law_lowered fun cdv A outer s H E hr tk => ?_
  have nd := sc__law_lowered.nd
  exact (dss_cons (ds_if (dt_lt (de_var 1) de_int) (dss_cons (ds_par 0 1 rfl nd (da_cons (de_neg (de_var 0)) (da_cons (de_neg (de_var 1)) da_nil)))
      dss_nil) dss_nil)
      (dss_cons (ds_set 2 nd (de_callC (c__law_common fx) b__law_common hr (by omega) tk (da_cons (de_var 0) (da_cons (de_var 1) da_nil))))
      (dss_cons (ds_ret (de_tup (da_cons (de_div (de_var 0) (de_var 2)) (da_cons (de_div (de_var 1) (de_var 2)) da_nil))))
      dss_nil)))
noncomputable def D__law_quotient : SDen := sSeq (sSet 2 (dBin oSub (dBin oMod (dCall oInt1 (dCons (dBin oIx (dVar 0) (dVar 1)) (dNil))) (dC (.int 41))) (dC (.int 20)))) (sSeq (sSet 3 (dBin oPlus (dC (.int 1)) (dBin oMod (dCall oInt1 (dCons (dBin oIx (dVar 0) (dBin oPlus (dVar 1) (dC (.int 1)))) (dNil))) (dC (.int 12))))) (sSeq (sIf (dBin oEq (dBin oMod (dCall oInt1 (dCons (dBin oIx (dVar 0) (dBin oPlus (dVar 1) (dC (.int 2)))) (dNil))) (dC (.int 7))) (dC (.int 3))) (sSeq (sSet 2 (dBin oPlus (dBin oPlus (dBin oMul (dBin oSub (dBin oIx (dVar 0) (dVar 1)) (dC (.int 500))) (dBin oPow (dC (.int 10)) (dC (.int 12)))) (dBin oMul (dBin oIx (dVar 0) (dBin oPlus (dVar 1) (dC (.int 1)))) (dBin oPow (dC (.int 10)) (dC (.int 9))))) (dBin oIx (dVar 0) (dBin oPlus (dVar 1) (dC (.int 2)))))) (sSeq (sSet 3 (dBin oPlus (dBin oPlus (dC (.int 1)) (dBin oMul (dBin oIx (dVar 0) (dBin oPlus (dVar 1) (dC (.int 2)))) (dBin oPow (dC (.int 10)) (dC (.int 9))))) (dBin oIx (dVar 0) (dBin oPlus (dVar 1) (dC (.int 1)))))) (sNil))) (sNil)) (sSeq (sIf (dBin oEq (dBin oMod (dCall oInt1 (dCons (dBin oIx (dVar 0) (dBin oPlus (dVar 1) (dC (.int 2)))) (dNil))) (dC (.int 7))) (dC (.int 5))) (sSeq (sSet 2 (dC (.int 0))) (sNil)) (sNil)) (sSeq (sRet (dFn 2 O__law_lowered (dCons (dVar 2) (dCons (dVar 3) (dNil))))) (sNil)))))
theorem Q__law_quotient : ∃ F : Op, F = fnOf ["_law_d", "_law_k", "_law_x", "_law_y"] D__law_quotient := ⟨_, rfl⟩
noncomputable def O__law_quotient : Op := Classical.choose Q__law_quotient
instance is__law_quotient : Is O__law_quotient ["_law_d", "_law_k", "_law_x", "_law_y"] D__law_quotient := ⟨Classical.choose_spec Q__law_quotient⟩
theorem sc__law_quotient : FnScope ["_law_d", "_law_k", "_law_x", "_law_y"] ["_law_d", "_law_k"] (defScope (top 56)) := ⟨rfl, rfl, rfl, by decide +kernel, rfl, by decide +kernel, by decide +kernel⟩
theorem b__law_quotient : BindsAll "_law_quotient" (top 56) ["_law_d", "_law_k"] := fun _ _ _ _ _ _ us hl => match us, hl with | [_, _], _ => rfl
theorem c__law_quotient (fx : Facts K mg) : Callee P w K mg base 3 "_law_quotient" (top 56) ["_law_d", "_law_k"] O__law_quotient := by
  obtain ⟨fd, F⟩ := fx.F__law_quotient
  refine ⟨fx.g__law_quotient, fd, F, ?_⟩
  rw [is__law_quotient.eq]
  refine fn_den F sc__law_quotient fun cdv A outer s H E hr tk => ?_
  have nd := sc__law_quotient.nd
  exact (dss_cons (ds_set 2 nd (de_sub (de_mod (de_callTy call_int1 callD_int1 (by decide +kernel) fx.n_int (da_cons (de_ix (de_var 0) (de_var 1)) da_nil)) de_int) de_int))
      (dss_cons (ds_set 3 nd (de_add de_int (de_mod (de_callTy call_int1 callD_int1 (by decide +kernel) fx.n_int (da_cons (de_ix (de_var 0) (de_add (de_var 1) de_int)) da_nil)) de_int)))
      (dss_cons (ds_if (dt_eq hr.units (de_mod (de_callTy call_int1 callD_int1 (by decide +kernel) fx.n_int (da_cons (de_ix (de_var 0) (de_add (de_var 1) de_int)) da_nil)) de_int) de_int) (dss_cons (ds_set 2 nd (de_add (de_add (de_mul (de_sub (de_ix (de_var 0) (de_var 1)) de_int) (de_pow de_int de_int)) (de_mul (de_ix (de_var 0) (de_add (de_var 1) de_int)) (de_pow de_int de_int))) (de_ix (de_var 0) (de_add (de_var 1) de_int))))
      (dss_cons (ds_set 3 nd (de_add (de_add de_int (de_mul (de_ix (de_var 0) (de_add (de_var 1) de_int)) (de_pow de_int de_int))) (de_ix (de_var 0) (de_add (de_var 1) de_int))))
      dss_nil)) dss_nil)
      (dss_cons (ds_if (dt_eq hr.units (de_mod (de_callTy call_int1 callD_int1 (by decide +kernel) fx.n_int (da_cons (de_ix (de_var 0) (de_add (de_var 1) de_int)) da_nil)) de_int) de_int) (dss_cons (ds_set 2 nd de_int)
      dss_nil) dss_nil)
      (dss_cons (ds_ret (de_callC (c__law_lowered fx) b__law_lowered hr (by omega) tk (da_cons (de_var 2) (da_cons (de_var 3) da_nil))))
      dss_nil)))))
noncomputable def D_no_load : SDen := sSeq (sRet (dTup (dCons (dBin oMul (dTup (dCons (dC (.int 0)) (dNil))) (dVar 0)) (dCons (dC (.int 1)) (dNil))))) (sNil)
theorem Q_no_load : ∃ F : Op, F = fnOf ["size"] D_no_load := ⟨_, rfl⟩
noncomputable def O_no_load : Op := Classical.choose Q_no_load
instance is_no_load : Is O_no_load ["size"] D_no_load := ⟨Classical.choose_spec Q_no_load⟩
theorem sc_no_load : FnScope ["size"] ["size"] (defScope (top 37)) := ⟨rfl, rfl, rfl, by decide +kernel, rfl, by decide +kernel, by decide +kernel⟩
theorem b_no_load : BindsAll "no_load" (top 37) ["size"] := fun _ _ _ _ _ _ us hl => match us, hl with | [_], _ => rfl
theorem bk_no_load_size : BindsKw "no_load" (top 37) ["size"] ["size"] [0] := fun _ _ _ _ _ _ us hl => match us, hl with | [_], _ => rfl
theorem c_no_load (fx : Facts K mg) : Callee P w K mg base 1 "no_load" (top 37) ["size"] O_no_load := by
  obtain ⟨fd, F⟩ := fx.F_no_load
  refine ⟨fx.g_no_load, fd, F, ?_⟩
  rw [is_no_load.eq]
  refine fn_den F sc_no_load fun cdv A outer s H E hr tk => ?_
  have nd := sc_no_load.nd
  exact (dss_cons (ds_ret (de_tup (da_cons (de_mul (de_tup (da_cons de_int da_nil)) (de_var 0)) (da_cons de_int da_nil))))
      dss_nil)
noncomputable def D_weight_of : SDen := sSeq (sRet (dFn 2 O_reduced (dCons (dCall oSum (dCons (dBin oIx (dVar 0) (dC (.int 0))) (dNil))) (dCons (dBin oIx (dVar 0) (dC (.int 1))) (dNil))))) (sNil)
theorem Q_weight_of : ∃ F : Op, F = fnOf ["load"] D_weight_of := ⟨_, rfl⟩
noncomputable def O_weight_of : Op := Classical.choose Q_weight_of
instance is_weight_of : Is O_weight_of ["load"] D_weight_of := ⟨Classical.choose_spec Q_weight_of⟩
theorem sc_weight_of : FnScope ["load"] ["load"] (defScope (top 36)) := ⟨rfl, rfl, rfl, by decide +kernel, rfl, by decide +kernel, by decide +kernel⟩
theorem b_weight_of : BindsAll "weight_of" (top 36) ["load"] := fun _ _ _ _ _ _ us hl => match us, hl with | [_], _ => rfl
theorem bk_weight_of_load : BindsKw "weight_of" (top 36) ["load"] ["load"] [0] := fun _ _ _ _ _ _ us hl => match us, hl with | [_], _ => rfl
theorem c_weight_of (fx : Facts K mg) : Callee P w K mg base 2 "weight_of" (top 36) ["load"] O_weight_of := by
  obtain ⟨fd, F⟩ := fx.F_weight_of
  refine ⟨fx.g_weight_of, fd, F, ?_⟩
  rw [is_weight_of.eq]
  refine fn_den F sc_weight_of fun cdv A outer s H E hr tk => ?_
  have nd := sc_weight_of.nd
  exact (dss_cons (ds_ret (de_callC (c_reduced fx) b_reduced hr (by omega) tk (da_cons (de_callB (call_sumA rfl) callD_sum (by decide +kernel) fx.n_sum (da_cons (de_ix (de_var 0) de_int) da_nil)) (da_cons (de_ix (de_var 0) de_int) da_nil))))
      dss_nil)
noncomputable def D__law_singles : SDen := sSeq (sAsg (dVar 1) (PD.tTup 2 (PD.tCons (tName 4) (PD.tCons (tName 5) (PD.tNil))))) (sSeq (sFor (dRange1 (dVar 2)) (tName 6) (sSeq (sIf (dAnd (dBin oGt (dVar 2) (dC (.int 5))) (dBin oNe (dBin oMod (dCall oInt1 (dCons (dVar 6) (dNil))) (dC (.int 13))) (dC (.int 8)))) (sSeq (sCont) (sNil)) (sNil)) (sSeq (sIf (dOr (dNot (dTru (dFn 3 O__law_equal (dCons (dFn 2 O_entry_of (dCons (dVar 1) (dCons (dVar 6) (dNil)))) (dCons (dBin oIx (dVar 4) (dVar 6)) (dCons (dVar 5) (dNil))))))) (dNot (dTru (dFn 3 O__law_equal (dCons (dFnK 2 2 [1, 0] O_entry_of (dCons (dVar 6) (dCons (dVar 1) (dNil)))) (dCons (dBin oIx (dVar 4) (dVar 6)) (dCons (dVar 5) (dNil)))))))) (sSeq (sRet (dC (.bl false))) (sNil)) (sNil)) (sNil)))) (sSeq (sIf (dOr (dNot (dTru (dFn 3 O__law_equal (dCons (dFn 1 O_weight_of (dCons (dVar 1) (dNil))) (dCons (dCall oSum (dCons (dVar 4) (dNil))) (dCons (dVar 5) (dNil))))))) (dNot (dTru (dFn 3 O__law_equal (dCons (dFnK 1 1 [0] O_weight_of (dCons (dVar 1) (dNil))) (dCons (dCall oSum (dCons (dVar 4) (dNil))) (dCons (dVar 5) (dNil)))))))) (sSeq (sRet (dC (.bl false))) (sNil)) (sNil)) (sSeq (sSet 7 (dBin oMod (dCall oInt1 (dCons (dBin oIx (dVar 0) (dC (.int 45))) (dNil))) (dVar 2))) (sSeq (sSet 8 (dLc [6] (dRange1 (dVar 2)) (.one 6) (dYes) (dCall oInt1 (dCons (dBin oEq (dVar 6) (dVar 7)) (dNil))))) (sSeq (sIf (dOr (dNot (dTru (dFn 3 O__law_entries (dCons (dFn 2 O_unit_load (dCons (dVar 2) (dCons (dVar 7) (dNil)))) (dCons (dVar 8) (dCons (dBin oMul (dLst (dCons (dC (.int 1)) (dNil))) (dVar 2)) (dNil))))))) (dNot (dTru (dFn 3 O__law_entries (dCons (dFn 1 O_no_load (dCons (dVar 2) (dNil))) (dCons (dBin oMul (dLst (dCons (dC (.int 0)) (dNil))) (dVar 2)) (dCons (dBin oMul (dLst (dCons (dC (.int 1)) (dNil))) (dVar 2)) (dNil)))))))) (sSeq (sRet (dC (.bl false))) (sNil)) (sNil)) (sSeq (sIf (dNot (dTru (dFn 3 O__law_entries (dCons (dFnK 2 2 [1, 0] O_unit_load (dCons (dVar 7) (dCons (dVar 2) (dNil)))) (dCons (dVar 8) (dCons (dBin oMul (dLst (dCons (dC (.int 1)) (dNil))) (dVar 2)) (dNil))))))) (sSeq (sRet (dC (.bl false))) (sNil)) (sNil)) (sSeq (sIf (dNot (dTru (dFn 3 O__law_entries (dCons (dFnK 1 1 [0] O_no_load (dCons (dVar 2) (dNil))) (dCons (dBin oMul (dLst (dCons (dC (.int 0)) (dNil))) (dVar 2)) (dCons (dBin oMul (dLst (dCons (dC (.int 1)) (dNil))) (dVar 2)) (dNil))))))) (sSeq (sRet (dC (.bl false))) (sNil)) (sNil)) (sSeq (sIf (dNot (dTru (dFn 3 O__law_entries (dCons (dFn 2 O_scaled (dCons (dVar 1) (dCons (dVar 3) (dNil)))) (dCons (dLc [9] (dItems (dVar 4)) (.one 9) (dYes) (dBin oMul (dVar 9) (dBin oIx (dVar 3) (dC (.int 0))))) (dCons (dBin oMul (dLst (dCons (dBin oMul (dVar 5) (dBin oIx (dVar 3) (dC (.int 1)))) (dNil))) (dVar 2)) (dNil))))))) (sSeq (sRet (dC (.bl false))) (sNil)) (sNil)) (sSeq (sSet 10 (dLc [6] (dRange1 (dVar 2)) (.one 6) (dYes) (dFn 2 O__law_lowered (dCons (dBin oMul (dBin oIx (dVar 4) (dVar 6)) (dBin oPlus (dC (.int 1)) (dBin oMod (dCall oInt1 (dCons (dVar 6) (dNil))) (dC (.int 5))))) (dCons (dVar 5) (dNil)))))) (sSeq (sSet 11 (dFnK 1 1 [0] O_load_of (dCons (dCall oTuple1 (dCons (dVar 10) (dNil))) (dNil)))) (sSeq (sRet (dFn 3 O__law_entries (dCons (dVar 11) (dCons (dLc [9] (dItems (dVar 10)) (.one 9) (dYes) (dBin oIx (dVar 9) (dC (.int 0)))) (dCons (dLc [9] (dItems (dVar 10)) (.one 9) (dYes) (dBin oIx (dVar 9) (dC (.int 1)))) (dNil)))))) (sNil))))))))))))
theorem Q__law_singles : ∃ F : Op, F = fnOf ["_law_d", "_law_u", "_law_n", "_law_f", "_law_a", "_law_b", "_law_i", "_law_j", "_law_one_there", "_law_x", "_law_parts", "_law_made"] D__law_singles := ⟨_, rfl⟩
noncomputable def O__law_singles : Op := Classical.choose Q__law_singles
instance is__law_singles : Is O__law_singles ["_law_d", "_law_u", "_law_n", "_law_f", "_law_a", "_law_b", "_law_i", "_law_j", "_law_one_there", "_law_x", "_law_parts", "_law_made"] D__law_singles := ⟨Classical.choose_spec Q__law_singles⟩
theorem sc__law_singles : FnScope ["_law_d", "_law_u", "_law_n", "_law_f", "_law_a", "_law_b", "_law_i", "_law_j", "_law_one_there", "_law_x", "_law_parts", "_law_made"] ["_law_d", "_law_u", "_law_n", "_law_f"] (defScope (top 66)) := ⟨rfl, rfl, rfl, by decide +kernel, rfl, by decide +kernel, by decide +kernel⟩
theorem b__law_singles : BindsAll "_law_singles" (top 66) ["_law_d", "_law_u", "_law_n", "_law_f"] := fun _ _ _ _ _ _ us hl => match us, hl with | [_, _, _, _], _ => rfl
theorem c__law_singles (fx : Facts K mg) : Callee P w K mg base 7 "_law_singles" (top 66) ["_law_d", "_law_u", "_law_n", "_law_f"] O__law_singles := by
  obtain ⟨fd, F⟩ := fx.F__law_singles
  refine ⟨fx.g__law_singles, fd, F, ?_⟩
  rw [is__law_singles.eq]
  refine fn_den F sc__law_singles fun cdv A outer s H E hr tk => ?_
  have nd := sc__law_singles.nd
  exact (dss_cons (ds_asg (de_var 1) (dg_tup rfl (dgs_cons (dg_name 4 nd) (dgs_cons (dg_name 5 nd) dgs_nil))))
      (dss_cons (ds_for (L2.passes_of rfl) rfl (di_range1 fx.n_range (de_var 2)) (dg_name 6 nd) (dss_cons (ds_if (DW.dt (dw_and (dt_gt (de_var 2) de_int) (dw_and1 (dt_ne hr.units (de_mod (de_callTy call_int1 callD_int1 (by decide +kernel) fx.n_int (da_cons (de_var 6) da_nil)) de_int) de_int)))) (dss_cons ds_continue
      dss_nil) dss_nil)
      (dss_cons (ds_if (DW.dt (dw_or (dt_not (dt_truth (de_callC (c__law_equal fx) b__law_equal hr (by omega) tk (da_cons (de_callC (c_entry_of fx) b_entry_of hr (by omega) tk (da_cons (de_var 1) (da_cons (de_var 6) da_nil))) (da_cons (de_ix (de_var 4) (de_var 6)) (da_cons (de_var 5) da_nil)))))) (dw_or1 (dt_not (dt_truth (de_callC (c__law_equal fx) b__law_equal hr (by omega) tk (da_cons (de_callKC [1, 0] (c_entry_of fx) bk_entry_of_place_load hr (by omega) tk (dk_cons (de_var 6) (dk_cons (de_var 1) dk_nil))) (da_cons (de_ix (de_var 4) (de_var 6)) (da_cons (de_var 5) da_nil))))))))) (dss_cons (ds_ret de_bl)
      dss_nil) dss_nil)
      dss_nil)))
      (dss_cons (ds_if (DW.dt (dw_or (dt_not (dt_truth (de_callC (c__law_equal fx) b__law_equal hr (by omega) tk (da_cons (de_callC (c_weight_of fx) b_weight_of hr (by omega) tk (da_cons (de_var 1) da_nil)) (da_cons (de_callB (call_sumA rfl) callD_sum (by decide +kernel) fx.n_sum (da_cons (de_var 4) da_nil)) (da_cons (de_var 5) da_nil)))))) (dw_or1 (dt_not (dt_truth (de_callC (c__law_equal fx) b__law_equal hr (by omega) tk (da_cons (de_callKC [0] (c_weight_of fx) bk_weight_of_load hr (by omega) tk (dk_cons (de_var 1) dk_nil)) (da_cons (de_callB (call_sumA rfl) callD_sum (by decide +kernel) fx.n_sum (da_cons (de_var 4) da_nil)) (da_cons (de_var 5) da_nil))))))))) (dss_cons (ds_ret de_bl)
      dss_nil) dss_nil)
      (dss_cons (ds_set 7 nd (de_mod (de_callTy call_int1 callD_int1 (by decide +kernel) fx.n_int (da_cons (de_ix (de_var 0) de_int) da_nil)) (de_var 2)))
      (dss_cons (ds_setLc 8 [("_law_i", 6)] (.one 6) rfl nd (by decide) (by exact blkB_ok (by kernel_rfl)) (di_range1 fx.n_range (de_var 2)) (fun _ _ _ _ _ => (pg_name nd rfl (by first | exact .inl rfl | exact .inr rfl) (by first | exact .inl rfl | exact .inr rfl))) (fun _ _ _ _ _ => dts_nil) (fun _ _ _ _ _ => (de_callTy call_int1 callD_int1 (by decide +kernel) fx.n_int (da_cons (de_eq hr.units (de_var 6) (de_var 7)) da_nil))) (by rfl))
      (dss_cons (ds_if (DW.dt (dw_or (dt_not (dt_truth (de_callC (c__law_entries fx) b__law_entries hr (by omega) tk (da_cons (de_callC (c_unit_load fx) b_unit_load hr (by omega) tk (da_cons (de_var 2) (da_cons (de_var 7) da_nil))) (da_cons (de_var 8) (da_cons (de_mul (de_lst (da_cons de_int da_nil)) (de_var 2)) da_nil)))))) (dw_or1 (dt_not (dt_truth (de_callC (c__law_entries fx) b__law_entries hr (by omega) tk (da_cons (de_callC (c_no_load fx) b_no_load hr (by omega) tk (da_cons (de_var 2) da_nil)) (da_cons (de_mul (de_lst (da_cons de_int da_nil)) (de_var 2)) (da_cons (de_mul (de_lst (da_cons de_int da_nil)) (de_var 2)) da_nil))))))))) (dss_cons (ds_ret de_bl)
      dss_nil) dss_nil)
      (dss_cons (ds_if (dt_not (dt_truth (de_callC (c__law_entries fx) b__law_entries hr (by omega) tk (da_cons (de_callKC [1, 0] (c_unit_load fx) bk_unit_load_place_size hr (by omega) tk (dk_cons (de_var 7) (dk_cons (de_var 2) dk_nil))) (da_cons (de_var 8) (da_cons (de_mul (de_lst (da_cons de_int da_nil)) (de_var 2)) da_nil)))))) (dss_cons (ds_ret de_bl)
      dss_nil) dss_nil)
      (dss_cons (ds_if (dt_not (dt_truth (de_callC (c__law_entries fx) b__law_entries hr (by omega) tk (da_cons (de_callKC [0] (c_no_load fx) bk_no_load_size hr (by omega) tk (dk_cons (de_var 2) dk_nil)) (da_cons (de_mul (de_lst (da_cons de_int da_nil)) (de_var 2)) (da_cons (de_mul (de_lst (da_cons de_int da_nil)) (de_var 2)) da_nil)))))) (dss_cons (ds_ret de_bl)
      dss_nil) dss_nil)
      (dss_cons (ds_if (dt_not (dt_truth (de_callC (c__law_entries fx) b__law_entries hr (by omega) tk (da_cons (de_callC (c_scaled fx) b_scaled hr (by omega) tk (da_cons (de_var 1) (da_cons (de_var 3) da_nil))) (da_cons (de_lc [("_law_x", 9)] (.one 9) rfl nd (by decide) (by exact blkB_ok (by kernel_rfl)) (di_seq (de_var 4)) (fun _ _ _ _ _ => (pg_name nd rfl (by first | exact .inl rfl | exact .inr rfl) (by first | exact .inl rfl | exact .inr rfl))) (fun _ _ _ _ _ => dts_nil) (fun _ _ _ _ _ => (de_mul (de_var 9) (de_ix (de_var 3) de_int)))) (da_cons (de_mul (de_lst (da_cons (de_mul (de_var 5) (de_ix (de_var 3) de_int)) da_nil)) (de_var 2)) da_nil)))))) (dss_cons (ds_ret de_bl)
      dss_nil) dss_nil)
      (dss_cons (ds_setLc 10 [("_law_i", 6)] (.one 6) rfl nd (by decide) (by exact blkB_ok (by kernel_rfl)) (di_range1 fx.n_range (de_var 2)) (fun _ _ _ _ _ => (pg_name nd rfl (by first | exact .inl rfl | exact .inr rfl) (by first | exact .inl rfl | exact .inr rfl))) (fun _ _ _ _ _ => dts_nil) (fun _ _ _ _ _ => (de_callC (c__law_lowered fx) b__law_lowered hr (by omega) takes0 (da_cons (de_mul (de_ix (de_var 4) (de_var 6)) (de_add de_int (de_mod (de_callTy call_int1 callD_int1 (by decide +kernel) fx.n_int (da_cons (de_var 6) da_nil)) de_int))) (da_cons (de_var 5) da_nil)))) (by rfl))
      (dss_cons (ds_set 11 nd (de_callKC [0] (c_load_of fx) bk_load_of_quotients hr (by omega) tk (dk_cons (de_callTy call_tuple_of callD_tuple1 (by decide +kernel) fx.n_tuple (da_cons (de_var 10) da_nil)) dk_nil)))
      (dss_cons (ds_ret (de_callC (c__law_entries fx) b__law_entries hr (by omega) tk (da_cons (de_var 11) (da_cons (de_lc [("_law_x", 9)] (.one 9) rfl nd (by decide) (by exact blkB_ok (by kernel_rfl)) (di_seq (de_var 10)) (fun _ _ _ _ _ => (pg_name nd rfl (by first | exact .inl rfl | exact .inr rfl) (by first | exact .inl rfl | exact .inr rfl))) (fun _ _ _ _ _ => dts_nil) (fun _ _ _ _ _ => (de_ix (de_var 9) de_int))) (da_cons (de_lc [("_law_x", 9)] (.one 9) rfl nd (by decide) (by exact blkB_ok (by kernel_rfl)) (di_seq (de_var 10)) (fun _ _ _ _ _ => (pg_name nd rfl (by first | exact .inl rfl | exact .inr rfl) (by first | exact .inl rfl | exact .inr rfl))) (fun _ _ _ _ _ => dts_nil) (fun _ _ _ _ _ => (de_ix (de_var 9) de_int))) da_nil)))))
      dss_nil))))))))))))
noncomputable def D_law : SDen := sSeq (sSet 1 (dFn 2 O__law_draws (dCons (dVar 0) (dCons (dC (.int 70)) (dNil))))) (sSeq (sSet 2 (dFn 2 O__law_quotient (dCons (dVar 1) (dCons (dC (.int 0)) (dNil))))) (sSeq (sSet 3 (dFn 2 O__law_quotient (dCons (dVar 1) (dCons (dC (.int 3)) (dNil))))) (sSeq (sSet 4 (dBin oPlus (dBin oPlus (dC (.int 3)) (dBin oMul (dBin oIx (dVar 1) (dC (.int 6))) (dBin oPow (dC (.int 10)) (dC (.int 9))))) (dBin oIx (dVar 1) (dC (.int 7))))) (sSeq (sSet 5 (dTup (dCons (dBin oSub (dVar 4) (dC (.int 1))) (dCons (dVar 4) (dNil))))) (sSeq (sSet 6 (dTup (dCons (dBin oSub (dVar 4) (dC (.int 2))) (dCons (dBin oSub (dVar 4) (dC (.int 1))) (dNil))))) (sSeq (sFor (dItems (dLst (dCons (dVar 2) (dCons (dVar 3) (dCons (dTup (dCons (dC (.int 0)) (dCons (dC (.int 1)) (dNil)))) (dCons (dTup (dCons (dC (.int 1)) (dCons (dC (.int 1)) (dNil)))) (dCons (dVar 5) (dCons (dVar 6) (dNil))))))))) (tName 7) (sSeq (sIf (dOr (dNot (dTru (dFn 2 O__law_pair (dCons (dVar 2) (dCons (dVar 7) (dNil)))))) (dOr (dNot (dTru (dFn 2 O__law_pair (dCons (dVar 7) (dCons (dVar 3) (dNil)))))) (dNot (dTru (dFn 2 O__law_pair (dCons (dVar 5) (dCons (dVar 7) (dNil)))))))) (sSeq (sRet (dC (.bl false))) (sNil)) (sNil)) (sNil))) (sSeq (sSet 8 (dBin oPlus (dC (.int 1)) (dBin oMod (dCall oInt1 (dCons (dBin oIx (dVar 1) (dC (.int 8))) (dNil))) (dC (.int 9))))) (sSeq (sSet 9 (dBin oPlus (dC (.int 1)) (dBin oMod (dCall oInt1 (dCons (dBin oIx (dVar 1) (dC (.int 9))) (dNil))) (dC (.int 12))))) (sSeq (sFor (dItems (dLst (dCons (dVar 8) (dCons (dUn oNeg (dVar 8)) (dCons (dUn oNeg (dC (.int 1))) (dNil)))))) (tName 7) (sSeq (sIf (dNot (dTru (dFn 3 O__law_equal (dCons (dFn 2 O_quotient_of (dCons (dBin oMul (dBin oDiv (dBin oIx (dVar 2) (dC (.int 0))) (dC (.int 10))) (dVar 7)) (dCons (dBin oMul (dVar 9) (dVar 7)) (dNil)))) (dCons (dBin oDiv (dBin oIx (dVar 2) (dC (.int 0))) (dC (.int 10))) (dCons (dVar 9) (dNil))))))) (sSeq (sRet (dC (.bl false))) (sNil)) (sNil)) (sNil))) (sSeq (sSet 10 (dBin oPlus (dC (.int 1)) (dBin oMod (dCall oInt1 (dCons (dBin oIx (dVar 1) (dC (.int 10))) (dNil))) (dC (.int 5))))) (sSeq (sIf (dBin oEq (dBin oMod (dCall oInt1 (dCons (dBin oIx (dVar 1) (dC (.int 11))) (dNil))) (dC (.int 8))) (dC (.int 6))) (sSeq (sSet 10 (dC (.int 60))) (sNil)) (sNil)) (sSeq (sSet 11 (dFn 3 O__law_load (dCons (dVar 1) (dCons (dC (.int 12)) (dCons (dVar 10) (dNil)))))) (sSeq (sSet 12 (dFn 3 O__law_load (dCons (dVar 1) (dCons (dC (.int 16)) (dCons (dVar 10) (dNil)))))) (sSeq (sSet 13 (dFn 4 O__law_part (dCons (dVar 1) (dCons (dVar 11) (dCons (dVar 10) (dCons (dVar 10) (dNil))))))) (sSeq (sSet 7 (dFn 4 O__law_part (dCons (dVar 1) (dCons (dVar 11) (dCons (dVar 10) (dCons (dBin oMod (dCall oInt1 (dCons (dBin oIx (dVar 1) (dC (.int 49))) (dNil))) (dVar 10)) (dNil))))))) (sSeq (sFor (dItems (dLst (dCons (dVar 12) (dCons (dVar 13) (dCons (dVar 7) (dCons (dVar 11) (dCons (dTup (dCons (dCall oTuple1 (dCons (dBin oMul (dLst (dCons (dC (.int 0)) (dNil))) (dVar 10)) (dNil))) (dCons (dC (.int 1)) (dNil)))) (dNil)))))))) (tName 14) (sSeq (sIf (dOr (dNot (dTru (dFn 3 O__law_loads (dCons (dVar 14) (dCons (dVar 11) (dCons (dVar 10) (dNil))))))) (dNot (dTru (dFn 3 O__law_loads (dCons (dVar 11) (dCons (dVar 14) (dCons (dVar 10) (dNil)))))))) (sSeq (sRet (dC (.bl false))) (sNil)) (sNil)) (sNil))) (sSeq (sSet 15 (dTup (dCons (dCall oAbs (dCons (dBin oIx (dVar 3) (dC (.int 0))) (dNil))) (dCons (dBin oIx (dVar 3) (dC (.int 1))) (dNil))))) (sSeq (sIf (dOr (dNot (dTru (dFn 4 O__law_singles (dCons (dVar 1) (dCons (dVar 11) (dCons (dVar 10) (dCons (dVar 15) (dNil)))))))) (dOr (dNot (dTru (dFn 4 O__law_singles (dCons (dVar 1) (dCons (dVar 12) (dCons (dVar 10) (dCons (dTup (dCons (dC (.int 0)) (dCons (dC (.int 1)) (dNil)))) (dNil)))))))) (dNot (dTru (dFn 4 O__law_singles (dCons (dVar 1) (dCons (dVar 13) (dCons (dVar 10) (dCons (dTup (dCons (dC (.int 1)) (dCons (dC (.int 1)) (dNil)))) (dNil)))))))))) (sSeq (sRet (dC (.bl false))) (sNil)) (sNil)) (sSeq (sRet (dAnd (dFn 2 O__law_no_quotients (dCons (dVar 1) (dCons (dVar 2) (dNil)))) (dAnd (dFn 4 O__law_no_loads (dCons (dVar 1) (dCons (dVar 11) (dCons (dVar 10) (dCons (dVar 2) (dNil)))))) (dAnd (dFn 2 O__law_pair (dCons (dVar 2) (dCons (dVar 3) (dNil)))) (dFn 3 O__law_loads (dCons (dVar 13) (dCons (dVar 11) (dCons (dVar 10) (dNil))))))))) (sNil))))))))))))))))))))
theorem Q_law : ∃ F : Op, F = fnOf ["_law_script", "_law_d", "_law_p", "_law_q", "_law_y", "_law_near", "_law_under", "_law_x", "_law_g", "_law_h", "_law_n", "_law_u", "_law_v", "_law_w", "_law_z", "_law_f"] D_law := ⟨_, rfl⟩
noncomputable def O_law : Op := Classical.choose Q_law
instance is_law : Is O_law ["_law_script", "_law_d", "_law_p", "_law_q", "_law_y", "_law_near", "_law_under", "_law_x", "_law_g", "_law_h", "_law_n", "_law_u", "_law_v", "_law_w", "_law_z", "_law_f"] D_law := ⟨Classical.choose_spec Q_law⟩
theorem sc_law : FnScope ["_law_script", "_law_d", "_law_p", "_law_q", "_law_y", "_law_near", "_law_under", "_law_x", "_law_g", "_law_h", "_law_n", "_law_u", "_law_v", "_law_w", "_law_z", "_law_f"] ["_law_script"] (defScope (top 68)) := ⟨rfl, rfl, rfl, by decide +kernel, rfl, by decide +kernel, by decide +kernel⟩
theorem b_law : BindsAll "law" (top 68) ["_law_script"] := fun _ _ _ _ _ _ us hl => match us, hl with | [_], _ => rfl
theorem c_law (fx : Facts K mg) : Callee P w K mg base 10 "law" (top 68) ["_law_script"] O_law := by
  obtain ⟨fd, F⟩ := fx.F_law
  refine ⟨fx.g_law, fd, F, ?_⟩
  rw [is_law.eq]
  refine fn_den F sc_law fun cdv A outer s H E hr tk => ?_
  have nd := sc_law.nd
  exact (dss_cons (ds_set 1 nd (de_callC (c__law_draws fx) b__law_draws hr (by omega) tk (da_cons (de_var 0) (da_cons de_int da_nil))))
      (dss_cons (ds_set 2 nd (de_callC (c__law_quotient fx) b__law_quotient hr (by omega) tk (da_cons (de_var 1) (da_cons de_int da_nil))))
      (dss_cons (ds_set 3 nd (de_callC (c__law_quotient fx) b__law_quotient hr (by omega) tk (da_cons (de_var 1) (da_cons de_int da_nil))))
      (dss_cons (ds_set 4 nd (de_add (de_add de_int (de_mul (de_ix (de_var 1) de_int) (de_pow de_int de_int))) (de_ix (de_var 1) de_int)))
      (dss_cons (ds_set 5 nd (de_tup (da_cons (de_sub (de_var 4) de_int) (da_cons (de_var 4) da_nil))))
      (dss_cons (ds_set 6 nd (de_tup (da_cons (de_sub (de_var 4) de_int) (da_cons (de_sub (de_var 4) de_int) da_nil))))
      (dss_cons (ds_for (L2.passes_of rfl) rfl (di_seq (de_lst (da_cons (de_var 2) (da_cons (de_var 3) (da_cons (de_tup (da_cons de_int (da_cons de_int da_nil))) (da_cons (de_tup (da_cons de_int (da_cons de_int da_nil))) (da_cons (de_var 5) (da_cons (de_var 6) da_nil)))))))) (dg_name 7 nd) (dss_cons (ds_if (DW.dt (dw_or (dt_not (dt_truth (de_callC (c__law_pair fx) b__law_pair hr (by omega) tk (da_cons (de_var 2) (da_cons (de_var 7) da_nil))))) (dw_or (dt_not (dt_truth (de_callC (c__law_pair fx) b__law_pair hr (by omega) tk (da_cons (de_var 7) (da_cons (de_var 3) da_nil))))) (dw_or1 (dt_not (dt_truth (de_callC (c__law_pair fx) b__law_pair hr (by omega) tk (da_cons (de_var 5) (da_cons (de_var 7) da_nil))))))))) (dss_cons (ds_ret de_bl)
      dss_nil) dss_nil)
      dss_nil))
      (dss_cons (ds_set 8 nd (de_add de_int (de_mod (de_callTy call_int1 callD_int1 (by decide +kernel) fx.n_int (da_cons (de_ix (de_var 1) de_int) da_nil)) de_int)))
      (dss_cons (ds_set 9 nd (de_add de_int (de_mod (de_callTy call_int1 callD_int1 (by decide +kernel) fx.n_int (da_cons (de_ix (de_var 1) de_int) da_nil)) de_int)))
      (dss_cons (ds_for (L2.passes_of rfl) rfl (di_seq (de_lst (da_cons (de_var 8) (da_cons (de_neg (de_var 8)) (da_cons (de_neg de_int) da_nil))))) (dg_name 7 nd) (dss_cons (ds_if (dt_not (dt_truth (de_callC (c__law_equal fx) b__law_equal hr (by omega) tk (da_cons (de_callC (c_quotient_of fx) b_quotient_of hr (by omega) tk (da_cons (de_mul (de_div (de_ix (de_var 2) de_int) de_int) (de_var 7)) (da_cons (de_mul (de_var 9) (de_var 7)) da_nil))) (da_cons (de_div (de_ix (de_var 2) de_int) de_int) (da_cons (de_var 9) da_nil)))))) (dss_cons (ds_ret de_bl)
      dss_nil) dss_nil)
      dss_nil))
      (dss_cons (ds_set 10 nd (de_add de_int (de_mod (de_callTy call_int1 callD_int1 (by decide +kernel) fx.n_int (da_cons (de_ix (de_var 1) de_int) da_nil)) de_int)))
      (dss_cons (ds_if (dt_eq hr.units (de_mod (de_callTy call_int1 callD_int1 (by decide +kernel) fx.n_int (da_cons (de_ix (de_var 1) de_int) da_nil)) de_int) de_int) (dss_cons (ds_set 10 nd de_int)
      dss_nil) dss_nil)
      (dss_cons (ds_set 11 nd (de_callC (c__law_load fx) b__law_load hr (by omega) tk (da_cons (de_var 1) (da_cons de_int (da_cons (de_var 10) da_nil)))))
      (dss_cons (ds_set 12 nd (de_callC (c__law_load fx) b__law_load hr (by omega) tk (da_cons (de_var 1) (da_cons de_int (da_cons (de_var 10) da_nil)))))
      (dss_cons (ds_set 13 nd (de_callC (c__law_part fx) b__law_part hr (by omega) tk (da_cons (de_var 1) (da_cons (de_var 11) (da_cons (de_var 10) (da_cons (de_var 10) da_nil))))))
      (dss_cons (ds_set 7 nd (de_callC (c__law_part fx) b__law_part hr (by omega) tk (da_cons (de_var 1) (da_cons (de_var 11) (da_cons (de_var 10) (da_cons (de_mod (de_callTy call_int1 callD_int1 (by decide +kernel) fx.n_int (da_cons (de_ix (de_var 1) de_int) da_nil)) (de_var 10)) da_nil))))))
      (dss_cons (ds_for (L2.passes_of rfl) rfl (di_seq (de_lst (da_cons (de_var 12) (da_cons (de_var 13) (da_cons (de_var 7) (da_cons (de_var 11) (da_cons (de_tup (da_cons (de_callTy call_tuple_of callD_tuple1 (by decide +kernel) fx.n_tuple (da_cons (de_mul (de_lst (da_cons de_int da_nil)) (de_var 10)) da_nil)) (da_cons de_int da_nil))) da_nil))))))) (dg_name 14 nd) (dss_cons (ds_if (DW.dt (dw_or (dt_not (dt_truth (de_callC (c__law_loads fx) b__law_loads hr (by omega) tk (da_cons (de_var 14) (da_cons (de_var 11) (da_cons (de_var 10) da_nil)))))) (dw_or1 (dt_not (dt_truth (de_callC (c__law_loads fx) b__law_loads hr (by omega) tk (da_cons (de_var 11) (da_cons (de_var 14) (da_cons (de_var 10) da_nil))))))))) (dss_cons (ds_ret de_bl)
      dss_nil) dss_nil)
      dss_nil))
      (dss_cons (ds_set 15 nd (de_tup (da_cons (de_callB call_abs callD_abs (by decide +kernel) fx.n_abs (da_cons (de_ix (de_var 3) de_int) da_nil)) (da_cons (de_ix (de_var 3) de_int) da_nil))))
      (dss_cons (ds_if (DW.dt (dw_or (dt_not (dt_truth (de_callC (c__law_singles fx) b__law_singles hr (by omega) tk (da_cons (de_var 1) (da_cons (de_var 11) (da_cons (de_var 10) (da_cons (de_var 15) da_nil))))))) (dw_or (dt_not (dt_truth (de_callC (c__law_singles fx) b__law_singles hr (by omega) tk (da_cons (de_var 1) (da_cons (de_var 12) (da_cons (de_var 10) (da_cons (de_tup (da_cons de_int (da_cons de_int da_nil))) da_nil))))))) (dw_or1 (dt_not (dt_truth (de_callC (c__law_singles fx) b__law_singles hr (by omega) tk (da_cons (de_var 1) (da_cons (de_var 13) (da_cons (de_var 10) (da_cons (de_tup (da_cons de_int (da_cons de_int da_nil))) da_nil))))))))))) (dss_cons (ds_ret de_bl)
      dss_nil) dss_nil)
      (dss_cons (ds_ret (de_and (de_callC (c__law_no_quotients fx) b__law_no_quotients hr (by omega) tk (da_cons (de_var 1) (da_cons (de_var 2) da_nil))) (de_and (de_callC (c__law_no_loads fx) b__law_no_loads hr (by omega) tk (da_cons (de_var 1) (da_cons (de_var 11) (da_cons (de_var 10) (da_cons (de_var 2) da_nil))))) (de_and (de_callC (c__law_pair fx) b__law_pair hr (by omega) tk (da_cons (de_var 2) (da_cons (de_var 3) da_nil))) (de_one (de_callC (c__law_loads fx) b__law_loads hr (by omega) tk (da_cons (de_var 13) (da_cons (de_var 11) (da_cons (de_var 10) da_nil)))))))))
      dss_nil))))))))))))))))))))
end
end My
set_option Elab.async false
set_option linter.all false
set_option maxRecDepth 100000
set_option maxHeartbeats 4000000
namespace My
open PySem PySem.Spec PyProof.Rows L2 PD
theorem v_whole (S : Store) (d : D) (h : told d = true) : O__law_whole [d] S = some (.ok (.bl (whole d)) S) := by
  refine fn_rtS ?_ rfl
  cases d <;> simp [told, tyName] at h <;> simp [D__law_whole, startD, tyName, isTy, whole]
theorem v_is_integer (S : Store) (d : D) (h : told d = true) : O_is_integer [d] S = some (.ok (.bl (whole d)) S) := by
  refine fn_rtS ?_ rfl
  cases d <;> simp [told, tyName] at h <;> simp [D_is_integer, startD, tyName, isTy, whole]
theorem common_loop (S : Store) : ∀ (xs all : List D) (a b : Int) (c : Option D), 0 ≤ b → ∃ b' c', forLoop none all (tName 2) (sSeq (sIf (dBin oEq (dVar 1) (dC (.int 0))) (sSeq (sBreak) (sNil)) (sNil)) (sSeq (sPar 0 1 (dCons (dVar 1) (dCons (dBin oMod (dCall oInt1 (dCons (dVar 0) (dNil))) (dVar 1)) (dNil)))) (sNil))) xs [some (.int a), some (.int b), c] S = some (.nx [some (.int (euc xs.length a b)), some (.int b'), c'] S)
  | [], all, a, b, c, h => ⟨b, c, by simp [euc]⟩
  | x :: xs, all, a, b, c, h => by
    by_cases hb : b = 0
    · subst hb
      exact ⟨0, some x, by rw [loop_cons]; simp [euc]⟩
    · have hp : 0 < b := by omega
      obtain ⟨b', c', ih⟩ := common_loop S xs all b (a % b) (some x) (Int.emod_nonneg a hb)
      refine ⟨b', c', ?_⟩
      rw [loop_cons]
      simp [hb, hp, euc, ih]
theorem v_common (S : Store) (a b : Int) (h0 : 0 ≤ b) (h1 : b < 2 ^ 1000) : O__law_common [.int a, .int b] S = some (.ok (.int (if b = 0 then a else (Int.gcd a b : Int))) S) := by
  refine fn_rtS ?_ rfl
  obtain ⟨b', c', hl⟩ := common_loop S (rgD 0 2000) (rgD 0 2000) a b none h0
  have e := euc_gcd 1000 (rgD 0 2000).length a b h0 h1 (by rw [rgD_length]; exact Nat.le_refl _)
  rw [e] at hl
  have hf : sFor (dRange1 (dC (.int 2000))) (tName 2) (sSeq (sIf (dBin oEq (dVar 1) (dC (.int 0))) (sSeq (sBreak) (sNil)) (sNil)) (sSeq (sPar 0 1 (dCons (dVar 1) (dCons (dBin oMod (dCall oInt1 (dCons (dVar 0) (dNil))) (dVar 1)) (dNil)))) (sNil))) [some (.int a), some (.int b), none] S = _ := (for_of (w := none) (items := rgD 0 2000) (S1 := S) (by simp)).trans hl
  simp only [D__law_common, startD, e_seq]
  simp [hf]
/-! numbers, in a tuple -/
theorem v_lowest (S : Store) (ns : List Int) (b : Int) (h0 : 0 < b) (h1 : b < 2 ^ 1000) (hn : ns.length ≤ 16777216) : O__law_lowest [.tup (ns.map .int), .int b] S = some (.ok (.bl (ns.foldl (fun g x => (Int.gcd x g : Int)) b == 1)) S) := by
  refine fn_rtS ?_ rfl
  have key : ∀ (xs : List Int) (all : List D) (b : Int) (c : Option D), 0 < b → b < 2 ^ 1000 → ∃ c', forLoop none all (tName 2) (sSeq (sSet 1 (dFn 2 O__law_common (dCons (dVar 2) (dCons (dVar 1) (dNil))))) (sNil)) (xs.map .int) [some (.tup (ns.map .int)), some (.int b), c] S = some (.nx [some (.tup (ns.map .int)), some (.int (xs.foldl (fun g x => (Int.gcd x g : Int)) b)), c'] S) := by
    intro xs
    induction xs with
    | nil => intro all b c _ _; exact ⟨c, by simp⟩
    | cons x xs ih =>
      intro all b c hb hb2
      have hne : b ≠ 0 := by omega
      have hg : 0 < (Int.gcd x b : Int) := by
        have := Int.gcd_pos_of_ne_zero_right x hne
        omega
      have hle : (Int.gcd x b : Int) ≤ b := Int.le_of_dvd hb (Int.gcd_dvd_right ..)
      obtain ⟨c', e⟩ := ih all (Int.gcd x b) (some (.int x)) hg (by omega)
      refine ⟨c', ?_⟩
      rw [List.map_cons, loop_cons]
      simp [v_common S x b (by omega) hb2, hne, e]
  obtain ⟨c', e⟩ := key ns (ns.map .int) b none h0 h1
  have hf : sFor (dItems (dVar 0)) (tName 2) (sSeq (sSet 1 (dFn 2 O__law_common (dCons (dVar 2) (dCons (dVar 1) (dNil))))) (sNil)) [some (.tup (ns.map .int)), some (.int b), none] S = _ := (for_of (w := none) (items := ns.map .int) (S1 := S) (by simp [asWalk])).trans e
  simp only [D__law_lowest, startD, e_seq]
  simp [hf]
/-- a whole number from 0 on -/
def numb : D → Bool
  | .int i => decide (0 ≤ i)
  | _ => false
def nums : D → Int → Bool
  | .tup xs, n => ((xs.length : Int) == n) && xs.all numb
  | _, _ => false
def deepTold : D → Bool
  | .tup xs => xs.all told
  | d => told d
theorem numb_item (d : D) (h : told d = true) (S : Store) (ρ : EnvD) (hr : ρ[2]? = some (some d)) : dAnd (dFn 1 O__law_whole (dCons (dVar 2) (dNil))) (dBin oGe (dVar 2) (dC (.int 0))) ρ S = some (.ok (.bl (numb d)) S) := by
  simp only [e_and, e_fn, e_consA, e_var, hr, e_nilA, bnds_ok, bndls_ok, bndl_ok, List.length_cons, List.length_nil, if_true, v_whole S d h, bndB_ok]
  cases d <;> simp [whole, numb, hr, oGe] <;> rfl
end My
set_option Elab.async false
set_option linter.all false
set_option maxRecDepth 100000
set_option maxHeartbeats 4000000
namespace My
open PySem PySem.Spec PyProof.Rows L2 PD
@[simp] theorem e_neg (f : Den) (ρ : EnvD) (S : Store) : dUn oNeg f ρ S = bnd (f ρ S) fun x S1 => oNeg x S1 := rfl
@[simp] theorem e_negI (i : Int) (S : Store) : oNeg (.int i) S = some (.ok (.int (-i)) S) := rfl
@[simp] theorem e_ix0 (x : D) (xs : List D) (S : Store) : oIx (.tup (x :: xs)) (.int 0) S = some (.ok x S) := by simp [oIx, asSeq, atI, ixN]
@[simp] theorem e_ix1 (x y : D) (xs : List D) (S : Store) : oIx (.tup (x :: y :: xs)) (.int 1) S = some (.ok y S) := by simp [oIx, asSeq, atI, ixN, show (1 : Int) < (xs.length : Int) + 1 + 1 by omega]
@[simp] theorem e_lenT (xs : List D) (S : Store) : oLen [.tup xs] S = some (.ok (.int xs.length) S) := by simp [oLen, asSeq]
@[simp] theorem e_lenL (xs : List D) (S : Store) : oLen [.lst xs] S = some (.ok (.int xs.length) S) := by simp [oLen, asSeq]
@[simp] theorem fits2 : fits 2 = true := by decide
@[simp] theorem fits1 : fits 1 = true := by decide
def isPair : D → Bool
  | .tup xs => ((xs.length : Int) == 2)
  | _ => false
theorem v_is_pair (S : Store) (d : D) (h : told d = true) : O_is_pair [d] S = some (.ok (.bl (isPair d)) S) := by
  refine fn_rtS ?_ rfl
  cases d <;> simp [told, tyName] at h <;> simp [D_is_pair, startD, tyName, isTy, isPair]
theorem v_is_number (S : Store) (d : D) (h : told d = true) : O_is_number [d] S = some (.ok (.bl (numb d)) S) := by
  refine fn_rtS ?_ rfl
  simp [D_is_number, startD, v_is_integer S d h]
  cases d <;> simp [whole, numb, oGe]
def bott : D → Bool
  | .int i => decide (1 ≤ i)
  | _ => false
theorem v_is_bottom (S : Store) (d : D) (h : told d = true) : O_is_bottom [d] S = some (.ok (.bl (bott d)) S) := by
  refine fn_rtS ?_ rfl
  simp [D_is_bottom, startD, v_is_integer S d h]
  cases d <;> simp [whole, bott, oGe]
def quot : D → Bool
  | .tup [.int a, .int b] => decide (1 ≤ b) && (((Nat.gcd a.natAbs b.natAbs : Nat) : Int) == 1)
  | _ => false
/-- told, its own parts too -/
def tell : D → Bool
  | .tup xs => xs.all told
  | d => told d
theorem tell_told {d : D} (h : tell d = true) : told d = true := by
  cases d <;> simp_all [tell, told, tyName]
theorem v_is_quotient (S : Store) (d : D) (h : tell d = true) : O_is_quotient [d] S = some (.ok (.bl (quot d)) S) := by
  refine fn_rtS ?_ rfl
  have ht := tell_told h
  simp only [D_is_quotient, startD]
  by_cases hp : isPair d = true
  · match d, hp with
    | .tup [x, y], _ =>
      simp only [tell, List.all_cons, List.all_nil, Bool.and_true, Bool.and_eq_true] at h
      obtain ⟨hx, hy⟩ := h
      have ht2 : told (.tup [x, y]) = true := rfl
      simp [v_is_pair S _ ht2, isPair, v_is_integer _ x hx, v_is_bottom _ y hy]
      cases x <;> simp_all [whole, quot, told, tyName] <;> cases y <;> simp_all [bott, quot, told, tyName]
      rename_i a b _
      by_cases hb : 1 ≤ b <;> simp [hb]
    | .tup [], hp => simp [isPair] at hp
    | .tup [_], hp => simp [isPair] at hp
    | .tup (_ :: _ :: _ :: _), hp => simp [isPair] at hp; omega
  · have hq : quot d = false := by
      cases d with
      | tup xs => 
        match xs with
        | [] => rfl
        | [z] => cases z <;> rfl
        | [_, _] => exact absurd rfl hp
        | _ :: _ :: _ :: _ => cases xs <;> simp [quot]
      | _ => rfl
    simp [v_is_pair S d ht, hp, hq]
theorem v_require_yes (S : Store) (x : Str) : O_require [.bl true, .str x] S = some (.ok .non S) := by
  refine fn_nx (ρ := [some (.bl true), some (.str x)]) ?_
  simp [D_require, startD, truth]
theorem v_require_no (S : Store) (x : Str) : O_require [.bl false, .str x] S = some (.exc "NotUsable" ["at", "word"] [.int (-1), .str x] S) := by
  refine fn_exc (ρ := [some (.bl false), some (.str x)]) ?_ rfl
  simp [D_require, startD, truth, sRaise]
theorem v_require_quotients_yes (S : Store) (p q : D) (hp : tell p = true) (hq : tell q = true) (h1 : quot p = true) (h2 : quot q = true) : O_require_quotients [p, q] S = some (.ok .non S) := by
  refine fn_nx (ρ := [some p, some q]) ?_
  simp [D_require_quotients, startD, v_is_quotient S p hp, v_is_quotient S q hq, h1, h2, v_require_yes]
theorem v_require_quotients_one (S : Store) (p q : D) (hp : tell p = true) (h1 : quot p = false) : O_require_quotients [p, q] S = some (.exc "NotUsable" ["at", "word"] [.int (-1), .str "one"] S) := by
  refine fn_exc (ρ := [some p, some q]) ?_ rfl
  simp [D_require_quotients, startD, v_is_quotient S p hp, h1, v_require_no]
theorem v_require_quotients_other (S : Store) (p q : D) (hp : tell p = true) (hq : tell q = true) (h1 : quot p = true) (h2 : quot q = false) : O_require_quotients [p, q] S = some (.exc "NotUsable" ["at", "word"] [.int (-1), .str "other"] S) := by
  refine fn_exc (ρ := [some p, some q]) ?_ rfl
  simp [D_require_quotients, startD, v_is_quotient S p hp, v_is_quotient S q hq, h1, h2, v_require_yes, v_require_no]
/-- a quotient in lowest terms, its bottom above 0 -/
def red (a b : Int) : D := if b < 0 then .tup [.int (-a / (Int.gcd a b : Int)), .int (-b / (Int.gcd a b : Int))] else .tup [.int (a / (Int.gcd a b : Int)), .int (b / (Int.gcd a b : Int))]
theorem gcd_nat (a b : Int) : ((Nat.gcd a.natAbs b.natAbs : Nat) : Int) = (Int.gcd a b : Int) := rfl
theorem gcd_small {a b : Int} (hb : b ≠ 0) (h : b.natAbs < 2 ^ 9000) : 0 < (Int.gcd a b : Int) ∧ ((Int.gcd a b : Int)).natAbs.log2 < 9000 := by
  have h1 := Int.gcd_pos_of_ne_zero_right a hb
  have h2 : Int.gcd a b ≤ b.natAbs := Nat.gcd_le_right _ (Int.natAbs_pos.mpr hb)
  refine ⟨by omega, ?_⟩
  rw [Int.natAbs_natCast]
  exact (Nat.log2_lt (by omega)).mpr (by omega)
theorem v_reduced (S : Store) (a b : Int) (hb : b ≠ 0) (h : b.natAbs < 2 ^ 9000) : O_reduced [.int a, .int b] S = some (.ok (red a b) S) := by
  obtain ⟨g1, g2⟩ := gcd_small (a := a) hb h
  rw [Int.natAbs_natCast] at g2
  refine fn_rtS ?_ ?_
  · simp only [D_reduced, startD, red]
    by_cases hn : b < 0
    · simp [hn, gcd_nat, oLt, oDiv, hb, g2]
    · simp [hn, gcd_nat, oLt, oDiv, hb, g2]
  · unfold red
    split <;> rfl
end My
set_option Elab.async false
set_option linter.all false
set_option maxRecDepth 100000
set_option maxHeartbeats 4000000
set_option exponentiation.threshold 20000
namespace My
open PySem PySem.Spec PyProof.Rows L2 PD
def small (a : Int) : Prop := a.natAbs < 2 ^ 2000
theorem log_small {a : Int} (h : small a) : a.natAbs.log2 < 2000 := by
  by_cases h0 : a.natAbs = 0
  · rw [h0]; decide
  · exact (Nat.log2_lt h0).mpr h
theorem fits_small {a b : Int} (ha : small a) (hb : small b) : mulFits a b = true := by
  unfold mulFits
  have h1 := log_small ha
  have h2 := log_small hb
  rw [decide_eq_true (show a.natAbs.log2 + b.natAbs.log2 < 1000000 by omega), Bool.or_true]
@[simp] theorem e_addI (a b : Int) (S : Store) : oPlus (.int a) (.int b) S = some (.ok (.int (a + b)) S) := rfl
theorem e_mulI {a b : Int} (ha : small a) (hb : small b) (S : Store) : oMul (.int a) (.int b) S = some (.ok (.int (a * b)) S) := by
  simp only [oMul, fits_small ha hb, if_true]
abbrev pr (a b : Int) : D := .tup [.int a, .int b]
theorem quot_pr {a b : Int} : quot (pr a b) = true ↔ 1 ≤ b ∧ Int.gcd a b = 1 := by
  simp only [quot, Bool.and_eq_true, decide_eq_true_eq, beq_iff_eq]
  refine and_congr_right fun _ => ?_
  show ((Int.gcd a b : Nat) : Int) = 1 ↔ _
  omega
theorem natAbs_mul_lt {a b : Int} {m n : Nat} (ha : a.natAbs < 2 ^ m) (hb : b.natAbs < 2 ^ n) : (a * b).natAbs < 2 ^ (m + n) := by
  rw [Int.natAbs_mul, Nat.pow_add]
  exact Nat.mul_lt_mul'' ha hb
theorem v_plus (S : Store) (a b c e : Int) (h1 : quot (pr a b) = true) (h2 : quot (pr c e) = true) (ha : small a) (hb : small b) (hc : small c) (he : small e) : O_plus [pr a b, pr c e] S = some (.ok (red (a * e + c * b) (b * e)) S) := by
  have b1 := (quot_pr.mp h1).1
  have e1 := (quot_pr.mp h2).1
  have ne : b * e ≠ 0 := Int.mul_ne_zero (by omega) (by omega)
  have lt : (b * e).natAbs < 2 ^ 9000 := Nat.lt_of_lt_of_le (natAbs_mul_lt hb he) (Nat.pow_le_pow_right (by decide) (by decide))
  refine fn_rtS (d := red (a * e + c * b) (b * e)) ?_ (by unfold red; split <;> rfl)
  simp [D_plus, startD, v_require_quotients_yes S (pr a b) (pr c e) rfl rfl h1 h2, e_mulI ha he, e_mulI hc hb, e_mulI hb he, v_reduced _ _ _ ne lt]
theorem v_minus (S : Store) (a b c e : Int) (h1 : quot (pr a b) = true) (h2 : quot (pr c e) = true) (ha : small a) (hb : small b) (hc : small c) (he : small e) : O_minus [pr a b, pr c e] S = some (.ok (red (a * e - c * b) (b * e)) S) := by
  have b1 := (quot_pr.mp h1).1
  have e1 := (quot_pr.mp h2).1
  have ne : b * e ≠ 0 := Int.mul_ne_zero (by omega) (by omega)
  have lt : (b * e).natAbs < 2 ^ 9000 := Nat.lt_of_lt_of_le (natAbs_mul_lt hb he) (Nat.pow_le_pow_right (by decide) (by decide))
  refine fn_rtS (d := red (a * e - c * b) (b * e)) ?_ (by unfold red; split <;> rfl)
  simp [D_minus, startD, v_require_quotients_yes S (pr a b) (pr c e) rfl rfl h1 h2, e_mulI ha he, e_mulI hc hb, e_mulI hb he, v_reduced _ _ _ ne lt, oSub]
theorem v_times (S : Store) (a b c e : Int) (h1 : quot (pr a b) = true) (h2 : quot (pr c e) = true) (ha : small a) (hb : small b) (hc : small c) (he : small e) : O_times [pr a b, pr c e] S = some (.ok (red (a * c) (b * e)) S) := by
  have b1 := (quot_pr.mp h1).1
  have e1 := (quot_pr.mp h2).1
  have ne : b * e ≠ 0 := Int.mul_ne_zero (by omega) (by omega)
  have lt : (b * e).natAbs < 2 ^ 9000 := Nat.lt_of_lt_of_le (natAbs_mul_lt hb he) (Nat.pow_le_pow_right (by decide) (by decide))
  refine fn_rtS (d := red (a * c) (b * e)) ?_ (by unfold red; split <;> rfl)
  simp [D_times, startD, v_require_quotients_yes S (pr a b) (pr c e) rfl rfl h1 h2, e_mulI ha hc, e_mulI hb he, v_reduced _ _ _ ne lt]
theorem v_over (S : Store) (a b c e : Int) (h1 : quot (pr a b) = true) (h2 : quot (pr c e) = true) (h0 : c ≠ 0) (ha : small a) (hb : small b) (hc : small c) (he : small e) : O_over [pr a b, pr c e] S = some (.ok (red (a * e) (b * c)) S) := by
  have b1 := (quot_pr.mp h1).1
  have e1 := (quot_pr.mp h2).1
  have ne : b * c ≠ 0 := Int.mul_ne_zero (by omega) h0
  have lt : (b * c).natAbs < 2 ^ 9000 := Nat.lt_of_lt_of_le (natAbs_mul_lt hb hc) (Nat.pow_le_pow_right (by decide) (by decide))
  refine fn_rtS (d := red (a * e) (b * c)) ?_ (by unfold red; split <;> rfl)
  have k : (c == 0) = false := beq_eq_false_iff_ne.mpr h0
  simp [D_over, startD, v_require_quotients_yes S (pr a b) (pr c e) rfl rfl h1 h2, k, v_require_yes, e_mulI ha he, e_mulI hb hc, v_reduced _ _ _ ne lt]
theorem v_is_less (S : Store) (a b c e : Int) (h1 : quot (pr a b) = true) (h2 : quot (pr c e) = true) (ha : small a) (hb : small b) (hc : small c) (he : small e) : O_is_less [pr a b, pr c e] S = some (.ok (.bl (decide (a * e < c * b))) S) := by
  refine fn_rtS ?_ rfl
  simp [D_is_less, startD, v_require_quotients_yes S (pr a b) (pr c e) rfl rfl h1 h2, e_mulI ha he, e_mulI hc hb, oLt]
/-- what a quotient in lowest terms is -/
theorem red_spec (a b : Int) (hb : b ≠ 0) : ∃ x y, red a b = pr x y ∧ 1 ≤ y ∧ Int.gcd x y = 1 ∧ x * b = a * y ∧ x.natAbs ≤ a.natAbs ∧ y.natAbs ≤ b.natAbs := by
  have gp := Int.gcd_pos_of_ne_zero_right a hb
  have gz : (Int.gcd a b : Int) ≠ 0 := by omega
  have ga : (Int.gcd a b : Int) ∣ a := Int.gcd_dvd_left ..
  have gb : (Int.gcd a b : Int) ∣ b := Int.gcd_dvd_right ..
  obtain ⟨u, hu⟩ := ga
  obtain ⟨v, hv⟩ := gb
  generalize hg : (Int.gcd a b : Int) = g at *
  have g1 : 1 ≤ g := by omega
  have cop : Int.gcd u v = 1 := by
    have h := Int.gcd_mul_left g u v
    rw [← hu, ← hv] at h
    have h2 : (Int.gcd a b : Int) = g * (Int.gcd u v : Int) := by rw [h]; simp [Int.natAbs_of_nonneg (by omega : 0 ≤ g)]
    rw [hg] at h2
    have h3 : g * ((Int.gcd u v : Int) - 1) = 0 := by rw [Int.mul_sub]; omega
    rcases Int.mul_eq_zero.mp h3 with z | z
    · omega
    · omega
  have le : ∀ z : Int, z.natAbs ≤ (g * z).natAbs := fun z => by
    rw [Int.natAbs_mul]
    exact Nat.le_mul_of_pos_left _ (by omega)
  unfold red
  rw [hg]
  have du : a / g = u := by rw [hu]; exact Int.mul_ediv_cancel_left _ gz
  have dv : b / g = v := by rw [hv]; exact Int.mul_ediv_cancel_left _ gz
  have du' : -a / g = -u := by rw [hu, ← Int.mul_neg]; exact Int.mul_ediv_cancel_left _ gz
  have dv' : -b / g = -v := by rw [hv, ← Int.mul_neg]; exact Int.mul_ediv_cancel_left _ gz
  split
  · rename_i hn
    have vn : v < 0 := by
      apply Int.lt_of_not_ge
      intro z
      have := Int.mul_nonneg (by omega : 0 ≤ g) z
      omega
    refine ⟨-u, -v, by rw [du', dv'], by omega, by rw [Int.gcd_neg, Int.neg_gcd]; exact cop, ?_, ?_, ?_⟩
    · rw [hu, hv]; simp only [Int.mul_neg, Int.neg_mul]; rw [Int.mul_left_comm, Int.mul_assoc]
    · rw [Int.natAbs_neg]; conv => rhs; rw [hu]
      exact le u
    · rw [Int.natAbs_neg]; conv => rhs; rw [hv]
      exact le v
  · rename_i hn
    have vp : 1 ≤ v := by
      apply Int.not_lt.mp
      intro z
      have : v ≤ 0 := by omega
      have := Int.mul_nonpos_of_nonneg_of_nonpos (by omega : 0 ≤ g) this
      omega
    refine ⟨u, v, by rw [du, dv], vp, cop, ?_, ?_, ?_⟩
    · rw [hu, hv]; simp [Int.mul_assoc, Int.mul_left_comm, Int.mul_comm]
    · conv => rhs; rw [hu]
      exact le u
    · conv => rhs; rw [hv]
      exact le v
end My
set_option Elab.async false
set_option linter.all false
set_option maxRecDepth 100000
set_option maxHeartbeats 4000000
set_option exponentiation.threshold 20000
namespace My
open PySem PySem.Spec PyProof.Rows L2 PD
/-- small enough for the law's own common divisor -/
def tiny (a : Int) : Prop := a.natAbs < 2 ^ 900
theorem tiny.small {a : Int} (h : tiny a) : small a := Nat.lt_of_lt_of_le h (Nat.pow_le_pow_right (by decide) (by decide))
theorem tiny.lt {a : Int} (h : tiny a) : a < 2 ^ 1000 := by
  have h' : a.natAbs < 2 ^ 900 := h
  omega
theorem v_equal (S : Store) (x y t b : Int) (hx : tiny x) (hy : tiny y) (ht : small t) (hb : small b) :
    O__law_equal [pr x y, .int t, .int b] S = some (.ok (.bl (decide (1 ≤ y) && ((Int.gcd x y : Int) == 1) && (x * b == t * y))) S) := by
  refine fn_rtS ?_ rfl
  have w1 : O__law_whole [.int x] S = some (.ok (.bl true) S) := v_whole S (.int x) rfl
  have w2 : O__law_whole [.int y] S = some (.ok (.bl true) S) := v_whole S (.int y) rfl
  simp only [D__law_equal, startD]
  by_cases h1 : 1 ≤ y
  · have c := v_common S x y (by omega) hy.lt
    rw [if_neg (by omega)] at c
    have hl : ¬ y < 1 := by omega
    by_cases h2 : (Int.gcd x y : Int) = 1
    · rw [h2] at c
      have k : ((Int.gcd x y : Int) == 1) = true := by rw [h2]; rfl
      simp [tyName, isTy, truth, w1, w2, oLt, hl, c, e_mulI hx.small hb, e_mulI ht hy.small, h1, k]
    · have k : ((Int.gcd x y : Int) == 1) = false := beq_eq_false_iff_ne.mpr h2
      simp [tyName, isTy, truth, w1, w2, oLt, hl, c, k]
  · have hl : y < 1 := by omega
    simp [tyName, isTy, truth, w1, w2, oLt, hl, h1]
theorem v_equal_red (S : Store) (a b t u : Int) (hb : b ≠ 0) (ha : tiny a) (hb2 : tiny b) (ht : small t) (hu : small u) (he : a * u = t * b) : O__law_equal [red a b, .int t, .int u] S = some (.ok (.bl true) S) := by
  obtain ⟨x, y, e, h1, h2, h3, h4, h5⟩ := red_spec a b hb
  rw [e, v_equal S x y t u (Nat.lt_of_le_of_lt h4 ha) (Nat.lt_of_le_of_lt h5 hb2) ht hu]
  have k : x * u = t * y := by
    have q : b * (x * u) = b * (t * y) := by
      calc b * (x * u) = (x * b) * u := by rw [Int.mul_left_comm, Int.mul_assoc]
        _ = (a * y) * u := by rw [h3]
        _ = (a * u) * y := by rw [Int.mul_assoc, Int.mul_comm y u, ← Int.mul_assoc]
        _ = (t * b) * y := by rw [he]
        _ = b * (t * y) := by rw [Int.mul_comm t b, Int.mul_assoc]
    exact Int.eq_of_mul_eq_mul_left hb q
  simp [h1, h2, k]
theorem v_lowered (S : Store) (a b : Int) (hb : b ≠ 0) (h2 : tiny b) : O__law_lowered [.int a, .int b] S = some (.ok (red a b) S) := by
  refine fn_rtS ?_ (by unfold red; split <;> rfl)
  have h2' : b.natAbs < 2 ^ 900 := h2
  obtain ⟨g1, g2⟩ := gcd_small (a := a) hb (Nat.lt_of_lt_of_le h2' (Nat.pow_le_pow_right (by decide) (by decide)))
  rw [Int.natAbs_natCast] at g2
  simp only [D__law_lowered, startD, red]
  by_cases hn : b < 0
  · have c := v_common S (-a) (-b) (by omega) (by omega)
    rw [if_neg (by omega), Int.gcd_neg, Int.neg_gcd] at c
    simp [hn, oLt, c, oDiv, hb, g2]
  · have c := v_common S a b (by omega) h2.lt
    rw [if_neg (by omega)] at c
    simp [hn, oLt, c, oDiv, hb, g2]
end My
set_option Elab.async false
set_option linter.all false
set_option maxRecDepth 100000
set_option maxHeartbeats 4000000
set_option exponentiation.threshold 20000
namespace My
open PySem PySem.Spec PyProof.Rows L2 PD
@[simp] theorem e_asg (f : Den) (t : TDen) (ρ : EnvD) (S : Store) : sAsg f t ρ S = bndS (f ρ S) ρ fun d S1 => (t d ρ S1).map fun ρ1 => .nx ρ1 S1 := rfl
@[simp] theorem e_tTup (n : Nat) (u : List D → EnvD → Store → Option EnvD) (xs : List D) (ρ : EnvD) (S : Store) : PD.tTup n u (.tup xs) ρ S = if xs.length = n then u xs ρ S else none := rfl
@[simp] theorem e_tCons (t : TDen) (u : List D → EnvD → Store → Option EnvD) (d : D) (ds : List D) (ρ : EnvD) (S : Store) : PD.tCons t u (d :: ds) ρ S = (t d ρ S).bind fun ρ1 => u ds ρ1 S := rfl
@[simp] theorem e_tNil (ρ : EnvD) (S : Store) : PD.tNil [] ρ S = some ρ := rfl
/-- small enough for products, then the law's own common divisor -/
def mini (a : Int) : Prop := a.natAbs < 2 ^ 400
theorem mini.tiny {a : Int} (h : mini a) : My.tiny a := Nat.lt_of_lt_of_le h (Nat.pow_le_pow_right (by decide) (by decide))
theorem mini.small {a : Int} (h : mini a) : My.small a := h.tiny.small
theorem mini.neg {a : Int} (h : mini a) : mini (-a) := by unfold mini; rw [Int.natAbs_neg]; exact h
theorem mini.mul {a b : Int} (ha : mini a) (hb : mini b) : (a * b).natAbs < 2 ^ 800 := natAbs_mul_lt ha hb
theorem tiny_of {a : Int} (h : a.natAbs < 2 ^ 801) : tiny a := Nat.lt_of_lt_of_le h (Nat.pow_le_pow_right (by decide) (by decide))
theorem mini.mulT {a b : Int} (ha : mini a) (hb : mini b) : My.tiny (a * b) := tiny_of (by have := ha.mul hb; omega)
theorem mini.addT {a b c d : Int} (ha : mini a) (hb : mini b) (hc : mini c) (hd : mini d) : My.tiny (a * b + c * d) := tiny_of (by have := ha.mul hb; have := hc.mul hd; omega)
theorem mini.subT {a b c d : Int} (ha : mini a) (hb : mini b) (hc : mini c) (hd : mini d) : My.tiny (a * b - c * d) := tiny_of (by have := ha.mul hb; have := hc.mul hd; omega)
theorem v_pair (S : Store) (a b c e : Int) (h1 : quot (pr a b) = true) (h2 : quot (pr c e) = true) (ha : mini a) (hb : mini b) (hc : mini c) (he : mini e) : O__law_pair [pr a b, pr c e] S = some (.ok (.bl true) S) := by
  refine fn_rtS ?_ rfl
  have b1 := (quot_pr.mp h1).1
  have e1 := (quot_pr.mp h2).1
  have ne : b * e ≠ 0 := Int.mul_ne_zero (by omega) (by omega)
  have be := hb.mulT he
  have q1 := v_equal_red S (a * e + c * b) (b * e) (a * e + c * b) (b * e) ne (ha.addT he hc hb) be (ha.addT he hc hb).small be.small rfl
  have q2 := v_equal_red S (a * e - c * b) (b * e) (a * e - c * b) (b * e) ne (ha.subT he hc hb) be (ha.subT he hc hb).small be.small rfl
  have q3 := v_equal_red S (a * c) (b * e) (a * c) (b * e) ne (ha.mulT hc) be (ha.mulT hc).small be.small rfl
  have l := v_is_less S a b c e h1 h2 ha.small hb.small hc.small he.small
  simp only [D__law_pair, startD]
  by_cases hp : c > 0
  · have q4 := v_equal_red S (a * e) (b * c) (a * e) (b * c) (Int.mul_ne_zero (by omega) (by omega)) (ha.mulT he) (hb.mulT hc) (ha.mulT he).small (hb.mulT hc).small rfl
    simp [v_plus S a b c e h1 h2 ha.small hb.small hc.small he.small, v_minus S a b c e h1 h2 ha.small hb.small hc.small he.small, v_times S a b c e h1 h2 ha.small hb.small hc.small he.small, e_mulI ha.small he.small, e_mulI hc.small hb.small, e_mulI hb.small he.small,
      e_mulI ha.small hc.small, e_mulI hb.small hc.small, q1, q2, q3, oSub, truth, l, tyName, isTy, oLt, oGt, hp, v_over S a b c e h1 h2 (by omega) ha.small hb.small hc.small he.small, q4]
  · by_cases hn : c < 0
    · have q4 := v_equal_red S (a * e) (b * c) (-a * e) (-b * c) (Int.mul_ne_zero (by omega) (by omega)) (ha.mulT he) (hb.mulT hc) (ha.neg.mulT he).small (hb.neg.mulT hc).small (by simp only [Int.neg_mul, Int.mul_neg])
      have h0 : ¬ 0 < c := by omega
      simp [v_plus S a b c e h1 h2 ha.small hb.small hc.small he.small, v_minus S a b c e h1 h2 ha.small hb.small hc.small he.small, v_times S a b c e h1 h2 ha.small hb.small hc.small he.small, e_mulI ha.small he.small, e_mulI hc.small hb.small, e_mulI hb.small he.small,
        e_mulI ha.small hc.small, e_mulI ha.neg.small he.small, e_mulI hb.neg.small hc.small, q1, q2, q3, oSub, truth, l, tyName, isTy, oLt, oGt, h0, hn, v_over S a b c e h1 h2 (by omega) ha.small hb.small hc.small he.small, q4]
    · have h0 : ¬ 0 < c := by omega
      simp [v_plus S a b c e h1 h2 ha.small hb.small hc.small he.small, v_minus S a b c e h1 h2 ha.small hb.small hc.small he.small, v_times S a b c e h1 h2 ha.small hb.small hc.small he.small, e_mulI ha.small he.small, e_mulI hc.small hb.small, e_mulI hb.small he.small,
        e_mulI ha.small hc.small, q1, q2, q3, oSub, truth, l, tyName, isTy, oLt, oGt, h0, hn]
end My
set_option Elab.async false
set_option linter.all false
set_option maxRecDepth 100000
set_option maxHeartbeats 4000000
set_option exponentiation.threshold 20000
namespace My
open PySem PySem.Spec PyProof.Rows L2 PD
@[simp] theorem e_fnK (n m : Nat) (ix : List Nat) (F : Op) (g : Dens) (ρ : EnvD) (S : Store) : dFnK n m ix F g ρ S = bndl (g ρ S) fun ds S1 => if ds.length = m ∧ (permL ix ds).length = n then F (permL ix ds) S1 else none := rfl
@[simp] theorem e_attrC (a dd : Addr) (cs : List Str) (f : Str) (fe : Den) (ρ : EnvD) (S : Store) : dAttrC a dd cs f fe ρ S = bnd (fe ρ S) fun d S1 => match d with
  | .cau a' d' c ns xs => if a' = a ∧ d' = dd ∧ c ∈ cs then ((ns.zip xs).lookup f).map fun d => .ok d S1 else none
  | _ => none := rfl
@[simp] theorem e_isC (a0 d0 : Addr) (c0 : Str) (b : Bool) (f : Den) (ρ : EnvD) (S : Store) : dIsC a0 d0 c0 b f ρ S = bnd (f ρ S) fun d S1 => match d with
  | .cau a d c _ _ => if a = a0 ∧ d = d0 ∧ c = c0 then some (.ok (.bl b) S1) else none
  | _ => none := rfl
/-- the try's end where the body raises what is caught -/
theorem e_try {tab : List (Str × Bool)} {i : Nat} {g : SDen} {gs : Str → Nat → Nat → SDen} {ρ ρ1 : EnvD} {S S1 : Store} {c : Str} {ns : List Str} {xs : List D} {r : SRes} (h : g ρ S = some (.exc c ns xs ρ1 S1)) (ht : tab.lookup c = some true)
    (hs : ∀ a d, clr i (gs c a d (ρ1.set i (some (.cau a d c ns xs))) S1) = some r) : sTry tab i g gs ρ S = some r := by
  unfold sTry
  rw [h]
  simp only [ht]
  exact unif_of hs
theorem v_refused (S : Store) (k : Int) (a b : D) (x : Str) (hx : PyData.strOk x = true) (h : O__law_call [.int k, a, b] S = some (.exc "NotUsable" ["at", "word"] [.int (-1), .str x] S)) : O__law_refused [.int k, a, b, .str x] S = some (.ok (.bl true) S) := by
  refine fn_rtS ?_ rfl
  simp only [D__law_refused, startD, e_seq]
  rw [e_try (r := .rt (.bl true) S) (ρ1 := [some (.int k), some a, some b, some (.str x), none]) (S1 := S) (c := "NotUsable") (ns := ["at", "word"]) (xs := [.int (-1), .str x]) (by simp [h]) (by decide) (fun a0 d0 => ?_)]
  simp only [D__law_refused_suite]
  have w : O__law_whole [.int (-1)] S = some (.ok (.bl true) S) := v_whole S (.int (-1)) rfl
  have e : oNe (.str x) (.str x) S = some (.ok (.bl false) S) := by
    rw [oNe_of (k := true) (by rw [eqD_str hx hx]; simp)]
    rfl
  have lw : List.lookup ("word" : Str) [(("at" : Str), D.int (-1)), (("word" : Str), D.str x)] = some (D.str x) := by
    rw [List.lookup_cons, show (("word" : Str) == ("at" : Str)) = false by decide]
    rfl
  have la : List.lookup ("at" : Str) [(("at" : Str), D.int (-1)), (("word" : Str), D.str x)] = some (D.int (-1)) := rfl
  simp [lw, la, tyName, isTy, truth, e, w, clr]
end My
set_option Elab.async false
set_option linter.all false
set_option maxRecDepth 100000
set_option maxHeartbeats 4000000
set_option exponentiation.threshold 20000
namespace My
open PySem PySem.Spec PyProof.Rows L2 PD
section
variable {S : Store} {a b : D} {c : Str} {ns : List Str} {xs : List D}
theorem v_call_0 (h : O_plus [a, b] S = some (.exc c ns xs S)) (hc : closeds xs = true) : O__law_call [.int 0, a, b] S = some (.exc c ns xs S) := by
  refine fn_exc (ρ := [some (.int 0), some a, some b]) ?_ hc
  simp [D__law_call, startD, permL, h]
theorem v_call_1 (h : O_minus [a, b] S = some (.exc c ns xs S)) (hc : closeds xs = true) : O__law_call [.int 1, a, b] S = some (.exc c ns xs S) := by
  refine fn_exc (ρ := [some (.int 1), some a, some b]) ?_ hc
  simp [D__law_call, startD, permL, h]
theorem v_call_2 (h : O_times [a, b] S = some (.exc c ns xs S)) (hc : closeds xs = true) : O__law_call [.int 2, a, b] S = some (.exc c ns xs S) := by
  refine fn_exc (ρ := [some (.int 2), some a, some b]) ?_ hc
  simp [D__law_call, startD, permL, h]
theorem v_call_3 (h : O_over [a, b] S = some (.exc c ns xs S)) (hc : closeds xs = true) : O__law_call [.int 3, a, b] S = some (.exc c ns xs S) := by
  refine fn_exc (ρ := [some (.int 3), some a, some b]) ?_ hc
  simp [D__law_call, startD, permL, h]
theorem v_call_4 (h : O_is_less [a, b] S = some (.exc c ns xs S)) (hc : closeds xs = true) : O__law_call [.int 4, a, b] S = some (.exc c ns xs S) := by
  refine fn_exc (ρ := [some (.int 4), some a, some b]) ?_ hc
  simp [D__law_call, startD, permL, h]
theorem v_call_5 (h : O_quotient_of [a, b] S = some (.exc c ns xs S)) (hc : closeds xs = true) : O__law_call [.int 5, a, b] S = some (.exc c ns xs S) := by
  refine fn_exc (ρ := [some (.int 5), some a, some b]) ?_ hc
  simp [D__law_call, startD, permL, h]
theorem v_call_6 (h : O_entry_of [a, b] S = some (.exc c ns xs S)) (hc : closeds xs = true) : O__law_call [.int 6, a, b] S = some (.exc c ns xs S) := by
  refine fn_exc (ρ := [some (.int 6), some a, some b]) ?_ hc
  simp [D__law_call, startD, permL, h]
theorem v_call_7 (h : O_unit_load [a, b] S = some (.exc c ns xs S)) (hc : closeds xs = true) : O__law_call [.int 7, a, b] S = some (.exc c ns xs S) := by
  refine fn_exc (ρ := [some (.int 7), some a, some b]) ?_ hc
  simp [D__law_call, startD, permL, h]
theorem v_call_8 (h : O_added [a, b] S = some (.exc c ns xs S)) (hc : closeds xs = true) : O__law_call [.int 8, a, b] S = some (.exc c ns xs S) := by
  refine fn_exc (ρ := [some (.int 8), some a, some b]) ?_ hc
  simp [D__law_call, startD, permL, h]
theorem v_call_9 (h : O_taken [a, b] S = some (.exc c ns xs S)) (hc : closeds xs = true) : O__law_call [.int 9, a, b] S = some (.exc c ns xs S) := by
  refine fn_exc (ρ := [some (.int 9), some a, some b]) ?_ hc
  simp [D__law_call, startD, permL, h]
theorem v_call_10 (h : O_scaled [a, b] S = some (.exc c ns xs S)) (hc : closeds xs = true) : O__law_call [.int 10, a, b] S = some (.exc c ns xs S) := by
  refine fn_exc (ρ := [some (.int 10), some a, some b]) ?_ hc
  simp [D__law_call, startD, permL, h]
theorem v_call_11 (h : O_product_of [a, b] S = some (.exc c ns xs S)) (hc : closeds xs = true) : O__law_call [.int 11, a, b] S = some (.exc c ns xs S) := by
  refine fn_exc (ρ := [some (.int 11), some a, some b]) ?_ hc
  simp [D__law_call, startD, permL, h]
theorem v_call_12 (h : O_is_within [a, b] S = some (.exc c ns xs S)) (hc : closeds xs = true) : O__law_call [.int 12, a, b] S = some (.exc c ns xs S) := by
  refine fn_exc (ρ := [some (.int 12), some a, some b]) ?_ hc
  simp [D__law_call, startD, permL, h]
theorem v_call_13 (h : O_lesser_of [a, b] S = some (.exc c ns xs S)) (hc : closeds xs = true) : O__law_call [.int 13, a, b] S = some (.exc c ns xs S) := by
  refine fn_exc (ρ := [some (.int 13), some a, some b]) ?_ hc
  simp [D__law_call, startD, permL, h]
theorem v_call_14 (h : O_greater_of [a, b] S = some (.exc c ns xs S)) (hc : closeds xs = true) : O__law_call [.int 14, a, b] S = some (.exc c ns xs S) := by
  refine fn_exc (ρ := [some (.int 14), some a, some b]) ?_ hc
  simp [D__law_call, startD, permL, h]
theorem v_call_15 (h : O_first_above [a, b] S = some (.exc c ns xs S)) (hc : closeds xs = true) : O__law_call [.int 15, a, b] S = some (.exc c ns xs S) := by
  refine fn_exc (ρ := [some (.int 15), some a, some b]) ?_ hc
  simp [D__law_call, startD, permL, h]
theorem v_call_16 (h : O_load_of [a] S = some (.exc c ns xs S)) (hc : closeds xs = true) : O__law_call [.int 16, a, b] S = some (.exc c ns xs S) := by
  refine fn_exc (ρ := [some (.int 16), some a, some b]) ?_ hc
  simp [D__law_call, startD, permL, h]
theorem n_plus_one (hp : tell a = true) (h : quot a = false) : O_plus [a, b] S = some (.exc "NotUsable" ["at", "word"] [.int (-1), .str "one"] S) := by
  refine fn_exc (ρ := [some a, some b]) ?_ rfl
  simp [D_plus, startD, v_require_quotients_one S a b hp h]
theorem n_plus_other (hp : tell a = true) (hq : tell b = true) (h1 : quot a = true) (h2 : quot b = false) : O_plus [a, b] S = some (.exc "NotUsable" ["at", "word"] [.int (-1), .str "other"] S) := by
  refine fn_exc (ρ := [some a, some b]) ?_ rfl
  simp [D_plus, startD, v_require_quotients_other S a b hp hq h1 h2]
theorem n_minus_one (hp : tell a = true) (h : quot a = false) : O_minus [a, b] S = some (.exc "NotUsable" ["at", "word"] [.int (-1), .str "one"] S) := by
  refine fn_exc (ρ := [some a, some b]) ?_ rfl
  simp [D_minus, startD, v_require_quotients_one S a b hp h]
theorem n_minus_other (hp : tell a = true) (hq : tell b = true) (h1 : quot a = true) (h2 : quot b = false) : O_minus [a, b] S = some (.exc "NotUsable" ["at", "word"] [.int (-1), .str "other"] S) := by
  refine fn_exc (ρ := [some a, some b]) ?_ rfl
  simp [D_minus, startD, v_require_quotients_other S a b hp hq h1 h2]
theorem n_times_one (hp : tell a = true) (h : quot a = false) : O_times [a, b] S = some (.exc "NotUsable" ["at", "word"] [.int (-1), .str "one"] S) := by
  refine fn_exc (ρ := [some a, some b]) ?_ rfl
  simp [D_times, startD, v_require_quotients_one S a b hp h]
theorem n_times_other (hp : tell a = true) (hq : tell b = true) (h1 : quot a = true) (h2 : quot b = false) : O_times [a, b] S = some (.exc "NotUsable" ["at", "word"] [.int (-1), .str "other"] S) := by
  refine fn_exc (ρ := [some a, some b]) ?_ rfl
  simp [D_times, startD, v_require_quotients_other S a b hp hq h1 h2]
theorem n_over_one (hp : tell a = true) (h : quot a = false) : O_over [a, b] S = some (.exc "NotUsable" ["at", "word"] [.int (-1), .str "one"] S) := by
  refine fn_exc (ρ := [some a, some b]) ?_ rfl
  simp [D_over, startD, v_require_quotients_one S a b hp h]
theorem n_over_other (hp : tell a = true) (hq : tell b = true) (h1 : quot a = true) (h2 : quot b = false) : O_over [a, b] S = some (.exc "NotUsable" ["at", "word"] [.int (-1), .str "other"] S) := by
  refine fn_exc (ρ := [some a, some b]) ?_ rfl
  simp [D_over, startD, v_require_quotients_other S a b hp hq h1 h2]
theorem n_is_less_one (hp : tell a = true) (h : quot a = false) : O_is_less [a, b] S = some (.exc "NotUsable" ["at", "word"] [.int (-1), .str "one"] S) := by
  refine fn_exc (ρ := [some a, some b]) ?_ rfl
  simp [D_is_less, startD, v_require_quotients_one S a b hp h]
theorem n_is_less_other (hp : tell a = true) (hq : tell b = true) (h1 : quot a = true) (h2 : quot b = false) : O_is_less [a, b] S = some (.exc "NotUsable" ["at", "word"] [.int (-1), .str "other"] S) := by
  refine fn_exc (ρ := [some a, some b]) ?_ rfl
  simp [D_is_less, startD, v_require_quotients_other S a b hp hq h1 h2]
theorem n_over_nought (x y e : Int) (h1 : quot (pr x y) = true) (h2 : quot (pr 0 e) = true) : O_over [pr x y, pr 0 e] S = some (.exc "NotUsable" ["at", "word"] [.int (-1), .str "other"] S) := by
  refine fn_exc (ρ := [some (pr x y), some (pr 0 e)]) ?_ rfl
  simp [D_over, startD, v_require_quotients_yes S (pr x y) (pr 0 e) rfl rfl h1 h2, v_require_no]
theorem n_quotient_top (h : told a = true) (hw : whole a = false) : O_quotient_of [a, b] S = some (.exc "NotUsable" ["at", "word"] [.int (-1), .str "top"] S) := by
  refine fn_exc (ρ := [some a, some b]) ?_ rfl
  simp [D_quotient_of, startD, v_is_integer S a h, hw, v_require_no]
theorem n_quotient_bottom (x : Int) (h : told b = true) (hw : whole b = false) : O_quotient_of [.int x, b] S = some (.exc "NotUsable" ["at", "word"] [.int (-1), .str "bottom"] S) := by
  refine fn_exc (ρ := [some (.int x), some b]) ?_ rfl
  have w : O_is_integer [.int x] S = some (.ok (.bl true) S) := v_is_integer S (.int x) rfl
  simp [D_quotient_of, startD, w, v_require_yes, v_is_integer S b h, hw, v_require_no]
theorem n_quotient_nought (x : Int) : O_quotient_of [.int x, .int 0] S = some (.exc "NotUsable" ["at", "word"] [.int (-1), .str "bottom"] S) := by
  refine fn_exc (ρ := [some (.int x), some (.int 0)]) ?_ rfl
  have w : ∀ i : Int, O_is_integer [.int i] S = some (.ok (.bl true) S) := fun i => v_is_integer S (.int i) rfl
  simp [D_quotient_of, startD, w, v_require_yes, v_require_no]
theorem v_quotient_of (x y : Int) (hy : y ≠ 0) (h : y.natAbs < 2 ^ 9000) : O_quotient_of [.int x, .int y] S = some (.ok (red x y) S) := by
  refine fn_rtS (d := red x y) ?_ (by unfold red; split <;> rfl)
  have w : ∀ i : Int, O_is_integer [.int i] S = some (.ok (.bl true) S) := fun i => v_is_integer S (.int i) rfl
  have k : (y == 0) = false := beq_eq_false_iff_ne.mpr hy
  simp [D_quotient_of, startD, w, v_require_yes, k, v_reduced S x y hy h]
end
def amount : D → Bool
  | .tup [.int a, .int b] => quot (pr a b) && decide (0 ≤ a)
  | _ => false
theorem v_is_amount (S : Store) (d : D) (h : tell d = true) : O_is_amount [d] S = some (.ok (.bl (amount d)) S) := by
  refine fn_rtS ?_ rfl
  simp [D_is_amount, startD, v_is_quotient S d h]
  by_cases hq : quot d = true
  · unfold quot at hq
    split at hq
    · rename_i a b
      simp [amount, quot, hq, oGe]
    · cases hq
  · have : amount d = false := by
      unfold amount
      split
      · rename_i a b
        simp [hq]
      · rfl
    simp [hq, this]
/-- tuples of amounts -/
def amounts : D → Bool
  | .tup xs => decide (0 < xs.length) && xs.all amount
  | _ => false
def tells : D → Bool
  | .tup xs => xs.all tell && decide (xs.length ≤ 1000)
  | d => told d
theorem v_are_amounts (S : Store) (d : D) (h : tells d = true) : O_are_amounts [d] S = some (.ok (.bl (amounts d)) S) := by
  refine fn_rtS ?_ rfl
  simp only [D_are_amounts, startD]
  match d, h with
  | .tup xs, h =>
    simp only [tells, Bool.and_eq_true, decide_eq_true_eq, List.all_eq_true] at h
    obtain ⟨h1, h2⟩ := h
    by_cases h0 : 0 < xs.length
    · have e := lc_map (own := [1]) (t := .one 1) (elt := dFn 1 O_is_amount (dCons (dVar 1) (dNil))) (f := dItems (dVar 0)) (ρ := [some (.tup xs), none]) (S := S) (items := xs) (fun x => .bl (amount x)) (fun x => [some (.tup xs), some x]) (by simp [asWalk])
        (fun x _ => rfl) (fun x hx T => by simp [v_is_amount T x (h1 x hx)]) (by omega) (by simp [closeds_all, closed])
      simp [tyName, isTy, oGt, h0, e, amounts]
    · have : xs = [] := List.eq_nil_of_length_eq_zero (by omega)
      subst this
      simp [tyName, isTy, oGt, amounts]
  | .non, _ => simp [tyName, isTy, amounts]
  | .bl _, _ => simp [tyName, isTy, amounts]
  | .int _, _ => simp [tyName, isTy, amounts]
  | .str _, _ => simp [tyName, isTy, amounts]
  | .lst _, _ => simp [tyName, isTy, amounts]
  | .scr _, _ => simp [tyName, isTy, amounts]
  | .ref _, _ => simp [tyName, isTy, amounts]
  | .err .., h => simp [tells, told, tyName] at h
  | .cau .., h => simp [tells, told, tyName] at h
theorem n_load_of (S : Store) (d : D) (h : tells d = true) (ha : amounts d = false) : O_load_of [d] S = some (.exc "NotUsable" ["at", "word"] [.int (-1), .str "quotients"] S) := by
  refine fn_exc (ρ := [some d, none, none, none, none]) ?_ rfl
  simp [D_load_of, startD, v_are_amounts S d h, ha, v_require_no]
end My
set_option Elab.async false
set_option linter.all false
set_option maxRecDepth 100000
set_option maxHeartbeats 4000000
set_option exponentiation.threshold 20000
namespace My
open PySem PySem.Spec PyProof.Rows L2 PD
/-- a def that returns a list of its own -/
theorem fn_rtM {O : Op} {N : List Str} {g : SDen} [i : Is O N g] {ds : List D} {S : Store} {acc : List D} (h : g (startD N ds) S = some (.rt (.ref S.length) (S ++ [acc]))) (hc : closeds acc = true) : O ds S = some (.ok (.lst acc) S) := by
  rw [i.eq]
  unfold fnOf
  rw [h]
  simp [fin, fz, fzg, mapRef, maps_closed hc]
theorem e_mulR {a b : Int} (hb : small64 b = true) (S : Store) : oMul (.int a) (.int b) S = some (.ok (.int (a * b)) S) := by
  simp [oMul, mulFits, hb]
/-- the numbers that the law draws -/
def Dr (n : Nat) (ds : List Int) : Prop := ds.length = n ∧ ∀ x ∈ ds, 0 ≤ x ∧ x < 1000
@[simp] theorem e_app (fo fe : Den) (ρ : EnvD) (S : Store) : dApp fo fe ρ S = bnd (fo ρ S) fun o S1 => match o with
  | .ref n => bnd (fe ρ S1) fun d S2 => (match S2[n]? with
    | some xs => if xs.length < 16777216 then some (.ok .non (S2.set n (xs ++ [d]))) else none
    | none => none)
  | _ => none := rfl
abbrev bodyA : SDen := sSeq (sIf (dBin oEq (dVar 3) (dC (.int 0))) (sSeq (sBreak) (sNil)) (sNil)) (sSeq (sExpr (dApp (dVar 2) (dBin oMod (dCall oInt1 (dCons (dVar 3) (dNil))) (dC (.int 1000))))) (sSeq (sSet 3 (dBin oDiv (dVar 3) (dC (.int 1000)))) (sNil)))
theorem draw_a (S : Store) (sc am : Option D) (r5 r6 : Option D) : ∀ (xs all : List D) (acc : List Int) (l : Int) (k : Option D), 0 ≤ l → acc.length + xs.length ≤ 1000 → (∀ x ∈ acc, 0 ≤ x ∧ x < 1000) → ∃ (acc' : List Int) (l' : Int) (k' : Option D), (∀ x ∈ acc', 0 ≤ x ∧ x < 1000) ∧ acc.length ≤ acc'.length ∧ acc'.length ≤ acc.length + xs.length ∧
    forLoop none all (tName 4) bodyA xs [sc, am, some (.ref S.length), some (.int l), k, r5, r6] (S ++ [acc.map .int]) = some (.nx [sc, am, some (.ref S.length), some (.int l'), k', r5, r6] (S ++ [acc'.map .int]))
  | [], all, acc, l, k, hl, hz, ha => ⟨acc, l, k, ha, Nat.le_refl _, by simp, by simp⟩
  | x :: xs, all, acc, l, k, hl, hz, ha => by
    by_cases h0 : l = 0
    · subst h0
      exact ⟨acc, 0, some x, ha, Nat.le_refl _, by omega, by rw [loop_cons]; simp [bodyA]⟩
    · simp only [List.length_cons] at hz
      obtain ⟨acc', l', k', h1, h2, h3, e⟩ := draw_a S sc am r5 r6 xs all (acc ++ [l % 1000]) (l / 1000) (some x) (Int.ediv_nonneg hl (by decide)) (by simp; omega) (fun y hy => by
        rcases List.mem_append.mp hy with z | z
        · exact ha y z
        · rw [List.mem_singleton.mp z]; omega)
      simp only [List.length_append, List.length_cons, List.length_nil] at h2 h3
      refine ⟨acc', l', k', h1, by omega, by simp only [List.length_cons]; omega, ?_⟩
      rw [loop_cons]
      have lt : acc.length < 16777216 := by omega
      have lg : (1000 : Nat).log2 < 9000 := by decide
      simp [bodyA, h0, lt, oMod, oDiv, lg]
      simpa using e
end My
set_option Elab.async false
set_option linter.all false
set_option maxRecDepth 100000
set_option maxHeartbeats 4000000
set_option exponentiation.threshold 20000
namespace My
open PySem PySem.Spec PyProof.Rows L2 PD
abbrev bodyB (m : Int) : SDen := sSeq (sSet 5 (dBin oMod (dCall oInt1 (dCons (dBin oPlus (dBin oPlus (dBin oMul (dVar 5) (dC (.int 39373))) (dBin oMul (dVar 6) (dC (.int 20011)))) (dC (.int 11))) (dNil))) (dC (.int m)))) (sNil)
theorem sm1 : PD.small64 39373 = true := by decide
theorem sm2 : PD.small64 20011 = true := by decide
theorem draw_b (m : Int) (hm : 0 < m) (S : Store) (sc am r2 r3 r4 : Option D) (xs : List Int) (all : List D) : ∀ (st : Int) (c : Option D), ∃ (st' : Int) (c' : Option D), (0 ≤ st ∧ st < m → 0 ≤ st' ∧ st' < m) ∧
    forLoop none all (tName 6) (bodyB m) (xs.map .int) [sc, am, r2, r3, r4, some (.int st), c] S = some (.nx [sc, am, r2, r3, r4, some (.int st'), c'] S) := by
  induction xs with
  | nil => exact fun st c => ⟨st, c, id, by simp⟩
  | cons x xs ih =>
    intro st c
    obtain ⟨st', c', h, e⟩ := ih ((st * 39373 + x * 20011 + 11) % m) (some (.int x))
    refine ⟨st', c', fun _ => h ⟨Int.emod_nonneg _ (by omega), Int.emod_lt_of_pos _ hm⟩, ?_⟩
    rw [List.map_cons, loop_cons]
    simp [bodyB, e_mulR sm1, e_mulR sm2, oMod, hm, e]
abbrev bodyC (m q : Int) : SDen := sSeq (sSet 6 (dBin oIx (dVar 0) (dBin oMod (dCall oInt1 (dCons (dVar 4) (dNil))) (dCall oLen (dCons (dVar 0) (dNil)))))) (sSeq (sSet 5 (dBin oMod (dCall oInt1 (dCons (dBin oPlus (dBin oPlus (dBin oPlus (dBin oMul (dVar 5) (dVar 5)) (dBin oMul (dVar 6) (dC (.int 6247)))) (dBin oMul (dVar 4) (dC (.int 99991)))) (dC (.int 47))) (dNil))) (dC (.int m)))) (sSeq (sExpr (dApp (dVar 2) (dBin oMod (dBin oMod (dCall oInt1 (dCons (dBin oMul (dBin oDiv (dVar 5) (dC (.int 64))) (dC (.int 52361))) (dNil))) (dC (.int q))) (dC (.int 1000))))) (sNil)))
theorem sm3 : PD.small64 6247 = true := by decide
theorem sm4 : PD.small64 99991 = true := by decide
theorem sm5 : PD.small64 52361 = true := by decide
theorem small64_of {a m : Int} (h0 : 0 ≤ a) (h1 : a < m) (hm : m ≤ 2 ^ 62) : PD.small64 a = true := by
  unfold PD.small64
  rw [decide_eq_true (by omega), decide_eq_true (by omega)]
  rfl
@[simp] theorem e_lenS (ns : List Int) (S : Store) : oLen [.scr ns] S = some (.ok (.int ns.length) S) := by simp [oLen, asSeq]
theorem ixS {ns : List Int} {i : Int} (h0 : 0 ≤ i) (h1 : i < ns.length) (S : Store) : oIx (.scr ns) (.int i) S = some (.ok (.int (ns.getD i.toNat 0)) S) := by
  have hn : i.toNat < ns.length := by omega
  have h2 : i < ((ns.map D.int).length : Int) := by simpa using h1
  simp only [oIx, asSeq, atI, ixN, h0, h2, if_true, Option.bind_some]
  rw [List.getElem?_map, List.getElem?_eq_getElem hn]
  simp [List.getD, List.getElem?_eq_getElem hn]
theorem turn_c (m q : Int) (hm : 0 < m) (hm2 : m ≤ 2 ^ 62) (hq : 0 < q) (S : Store) (ns : List Int) (am r3 c : Option D) (acc : List Int) (st xi cell : Int) (h0 : 0 ≤ st) (h1 : st < m) (hne : 0 < ns.length) (hz : acc.length < 16777216)
    (ix : oIx (.scr ns) (.int (xi % (ns.length : Int))) (S ++ [acc.map .int]) = some (.ok (.int cell) (S ++ [acc.map .int]))) :
    bodyC m q [some (.scr ns), am, some (.ref S.length), r3, some (.int xi), some (.int st), c] (S ++ [acc.map .int]) = some (.nx [some (.scr ns), am, some (.ref S.length), r3, some (.int xi), some (.int ((st * st + cell * 6247 + xi * 99991 + 47) % m)), some (.int cell)]
      (S ++ [(acc ++ [(st * st + cell * 6247 + xi * 99991 + 47) % m / 64 * 52361 % q % 1000]).map .int])) := by
  have s1 : sSet 6 (dBin oIx (dVar 0) (dBin oMod (dCall oInt1 (dCons (dVar 4) (dNil))) (dCall oLen (dCons (dVar 0) (dNil))))) [some (.scr ns), am, some (.ref S.length), r3, some (.int xi), some (.int st), c] (S ++ [acc.map .int]) = some (.nx [some (.scr ns), am, some (.ref S.length), r3, some (.int xi), some (.int st), some (.int cell)] (S ++ [acc.map .int])) := by
    have hl : (0 : Int) < (ns.length : Int) := by omega
    simp [oMod, hne, ix]
  generalize hs : (st * st + cell * 6247 + xi * 99991 + 47) % m = st1
  have s2 : sSet 5 (dBin oMod (dCall oInt1 (dCons (dBin oPlus (dBin oPlus (dBin oPlus (dBin oMul (dVar 5) (dVar 5)) (dBin oMul (dVar 6) (dC (.int 6247)))) (dBin oMul (dVar 4) (dC (.int 99991)))) (dC (.int 47))) (dNil))) (dC (.int m))) [some (.scr ns), am, some (.ref S.length), r3, some (.int xi), some (.int st), some (.int cell)] (S ++ [acc.map .int]) = some (.nx [some (.scr ns), am, some (.ref S.length), r3, some (.int xi), some (.int st1), some (.int cell)] (S ++ [acc.map .int])) := by
    simp [oMod, e_mulR (small64_of h0 h1 hm2), e_mulR sm3, e_mulR sm4, hm, hs]
  generalize hy : st1 / 64 * 52361 % q % 1000 = y
  have s3 : dBin oMod (dBin oMod (dCall oInt1 (dCons (dBin oMul (dBin oDiv (dVar 5) (dC (.int 64))) (dC (.int 52361))) (dNil))) (dC (.int q))) (dC (.int 1000)) [some (.scr ns), am, some (.ref S.length), r3, some (.int xi), some (.int st1), some (.int cell)] (S ++ [acc.map .int]) = some (.ok (.int y) (S ++ [acc.map .int])) := by
    have lg : (64 : Nat).log2 < 9000 := by decide
    simp [oMod, oDiv, e_mulR sm5, hq, lg, hy]
  have s4 : sExpr (dApp (dVar 2) (dBin oMod (dBin oMod (dCall oInt1 (dCons (dBin oMul (dBin oDiv (dVar 5) (dC (.int 64))) (dC (.int 52361))) (dNil))) (dC (.int q))) (dC (.int 1000)))) [some (.scr ns), am, some (.ref S.length), r3, some (.int xi), some (.int st1), some (.int cell)] (S ++ [acc.map .int]) = some (.nx [some (.scr ns), am, some (.ref S.length), r3, some (.int xi), some (.int st1), some (.int cell)] (S ++ [(acc ++ [y]).map .int])) := by
    have lz : (acc.map D.int).length < 16777216 := by simpa using hz
    have v2 : dVar 2 [some (.scr ns), am, some (.ref S.length), r3, some (.int xi), some (.int st1), some (.int cell)] (S ++ [acc.map .int]) = some (.ok (.ref S.length) (S ++ [acc.map .int])) := rfl
    simp only [e_expr, e_app, v2, bnd_ok, s3, get_last, lz, if_true, bndS_ok, set_last, List.map_append, List.map_cons, List.map_nil]
  unfold bodyC
  rw [e_seq, s1]
  simp only
  rw [e_seq, s2]
  simp only
  rw [e_seq, s4]
  rfl
theorem draw_c (m q : Int) (hm : 0 < m) (hm2 : m ≤ 2 ^ 62) (hq : 0 < q) (S : Store) (ns : List Int) (hne : 0 < ns.length) (am r3 : Option D) (all : List D) (xs : List Nat) : ∀ (acc : List Int) (st : Int) (k c : Option D), 0 ≤ st → st < m → acc.length + xs.length ≤ 1000 → (∀ x ∈ acc, 0 ≤ x ∧ x < 1000) →
    ∃ (acc' : List Int) (st' : Int) (k' c' : Option D), (∀ x ∈ acc', 0 ≤ x ∧ x < 1000) ∧ acc'.length = acc.length + xs.length ∧
    forLoop none all (tName 4) (bodyC m q) (xs.map fun i => .int (0 + (i : Nat))) [some (.scr ns), am, some (.ref S.length), r3, k, some (.int st), c] (S ++ [acc.map .int]) = some (.nx [some (.scr ns), am, some (.ref S.length), r3, k', some (.int st'), c'] (S ++ [acc'.map .int])) := by
  induction xs with
  | nil => exact fun acc st k c h0 h1 hz ha => ⟨acc, st, k, c, ha, by simp, by simp⟩
  | cons x xs ih =>
    intro acc st k c h0 h1 hz ha
    simp only [List.length_cons] at hz
    generalize hx : ((0 : Int) + (x : Nat)) = xi
    have hl : (0 : Int) < (ns.length : Int) := by omega
    generalize hc : ns.getD (xi % (ns.length : Int)).toNat 0 = cell
    generalize hs : (st * st + cell * 6247 + xi * 99991 + 47) % m = st1
    have s0 : 0 ≤ st1 := by rw [← hs]; exact Int.emod_nonneg _ (by omega)
    have s1 : st1 < m := by rw [← hs]; exact Int.emod_lt_of_pos _ hm
    generalize hy : st1 / 64 * 52361 % q % 1000 = y
    have y0 : 0 ≤ y ∧ y < 1000 := by rw [← hy]; exact ⟨Int.emod_nonneg _ (by decide), Int.emod_lt_of_pos _ (by decide)⟩
    obtain ⟨acc', st', k', c', h1', h2', e⟩ := ih (acc ++ [y]) st1 (some (.int xi)) (some (.int cell)) s0 s1 (by simp; omega) (fun z hz => by
      rcases List.mem_append.mp hz with w | w
      · exact ha z w
      · rw [List.mem_singleton.mp w]; exact y0)
    simp only [List.length_append, List.length_cons, List.length_nil] at h2'
    refine ⟨acc', st', k', c', h1', by simp only [List.length_cons]; omega, ?_⟩
    have ix := ixS (ns := ns) (i := xi % (ns.length : Int)) (Int.emod_nonneg _ (by omega)) (Int.emod_lt_of_pos _ hl) (S ++ [acc.map .int])
    rw [hc] at ix
    have t := turn_c m q hm hm2 hq S ns am r3 c acc st xi cell h0 h1 hne (by omega) ix
    rw [hs, hy] at t
    rw [List.map_cons, loop_cons, hx]
    have tn : tName 4 (.int xi) [some (.scr ns), am, some (.ref S.length), r3, k, some (.int st), c] (S ++ [acc.map .int]) = some [some (.scr ns), am, some (.ref S.length), r3, some (.int xi), some (.int st), c] := rfl
    rw [tn]
    simp only
    rw [t]
    exact e
end My
set_option Elab.async false
set_option linter.all false
set_option maxRecDepth 100000
set_option maxHeartbeats 4000000
set_option exponentiation.threshold 20000
namespace My
open PySem PySem.Spec PyProof.Rows L2 PD
theorem flat_rep (k : Nat) (x : D) : (List.replicate k [x]).flatten = List.replicate k x := by
  induction k with
  | zero => rfl
  | succ k ih => rw [List.replicate_succ, List.flatten_cons, ih, List.replicate_succ]; rfl
theorem v_draws (S : Store) (ns : List Int) (hn : ns.length ≤ 63) : ∃ ds : List Int, Dr 70 ds ∧ O__law_draws [.scr ns, .int 70] S = some (.ok (.lst (ds.map .int)) S) := by
  by_cases h0 : ns = []
  · subst h0
    refine ⟨List.replicate 70 0, ⟨by simp, fun x hx => by rw [List.eq_of_mem_replicate hx]; decide⟩, ?_⟩
    refine fn_rtS ?_ (by simp only [closed]; exact closeds_map_int _)
    have e : oMul (.lst [.int 0]) (.int 70) S = some (.ok (.lst ((List.replicate 70 0).map .int)) S) := by
      simp only [oMul, lMul, asList]
      rw [if_pos (by decide), List.map_replicate, show (70 : Int).toNat = 70 from rfl, flat_rep]
    simp [D__law_draws, startD, e]
  · have hp : 0 < ns.length := by
      cases ns with
      | nil => exact absurd rfl h0
      | cons _ _ => simp
    obtain ⟨ld, hld⟩ : ∃ l : Int, ns.getD (0 : Int).toNat 0 = l := ⟨_, rfl⟩
    have ix := fun T : Store => ixS (ns := ns) (i := 0) (by decide) (by omega) T
    simp only [hld] at ix
    have hne : ((ns.length : Int) == 0) = false := beq_eq_false_iff_ne.mpr (by omega)
    -- the lead
    obtain ⟨acc, l', k', a1, a2, e1⟩ : ∃ (acc : List Int) (l' : Int) (k' : Option D), (∀ x ∈ acc, 0 ≤ x ∧ x < 1000) ∧ acc.length ≤ 70 ∧
        sIf (dBin oGe (dVar 3) (dBin oPow (dC (.int 10)) (dC (.int 18)))) (sSeq (sFor (dRange1 (dVar 1)) (tName 4) bodyA) (sNil)) (sNil) [some (.scr ns), some (.int 70), some (.ref S.length), some (.int ld), none, none, none] (S ++ [([] : List Int).map .int]) = some (.nx [some (.scr ns), some (.int 70), some (.ref S.length), some (.int l'), k', none, none] (S ++ [acc.map .int])) := by
      have c : dBin oGe (dVar 3) (dBin oPow (dC (.int 10)) (dC (.int 18))) [some (.scr ns), some (.int 70), some (.ref S.length), some (.int ld), none, none, none] (S ++ [([] : List Int).map .int]) = some (.ok (.bl (decide (ld ≥ 10 ^ 18))) (S ++ [([] : List Int).map .int])) := by
        simp [oGe, oPow]
      by_cases hl : ld ≥ 10 ^ 18
      · obtain ⟨acc, l', k', b1, b2, b3, e⟩ := draw_a S (some (.scr ns)) (some (.int 70)) none none (rgD 0 70) (rgD 0 70) [] ld none (by omega) (by simp [rgD_length]) (by simp)
        refine ⟨acc, l', k', b1, by simpa [rgD_length] using b3, ?_⟩
        rw [e_if, c]
        simp only [hl, decide_true, if_true]
        rw [e_seq, for_of (w := none) (items := rgD 0 70) (S1 := S ++ [([] : List Int).map .int]) (by simp), e]
        rfl
      · refine ⟨[], ld, none, by simp, by simp, ?_⟩
        rw [e_if, c, decide_eq_false hl]
        rfl
    -- the script
    obtain ⟨st, c1, b1, e2⟩ := draw_b 2147483587 (by decide) (S ++ [acc.map .int]) (some (.scr ns)) (some (.int 70)) (some (.ref S.length)) (some (.int l')) k' ns (ns.map .int) 61007 none
    obtain ⟨s0, s1⟩ := b1 ⟨by decide, by decide⟩
    -- the draws
    obtain ⟨acc', st', k2, c2, g1, g2, e3⟩ := draw_c 2147483587 1000033 (by decide) (by decide) (by decide) S ns hp (some (.int 70)) (some (.int l')) (rgD 0 (70 - acc.length)) (List.range (70 - acc.length)) acc st k' c1 s0 s1 (by simp; omega) a1
    have rg : (List.range (70 - acc.length)).map (fun i : Nat => D.int (0 + (i : Int))) = rgD 0 (70 - acc.length) := rfl
    rw [rg] at e3
    refine ⟨acc', ⟨by rw [g2, List.length_range]; omega, g1⟩, ?_⟩
    refine fn_rtM ?_ (by simp)
    have f2 : sFor (dItems (dVar 0)) (tName 6) (bodyB 2147483587) [some (.scr ns), some (.int 70), some (.ref S.length), some (.int l'), k', some (.int 61007), none] (S ++ [acc.map .int]) = _ := (for_of (w := none) (items := ns.map .int) (S1 := S ++ [acc.map .int]) (by simp [asWalk])).trans e2
    have len : oLen [.ref S.length] (S ++ [acc.map .int]) = some (.ok (.int acc.length) (S ++ [acc.map .int])) := by
      simp [oLen, asSeq]
    have tn : ((70 : Int) - (acc.length : Int)).toNat = 70 - acc.length := by omega
    have f3 : sFor (dRange1 (dBin oSub (dVar 1) (dCall oLen (dCons (dVar 2) (dNil))))) (tName 4) (bodyC 2147483587 1000033) [some (.scr ns), some (.int 70), some (.ref S.length), some (.int l'), k', some (.int st), c1] (S ++ [acc.map .int]) = _ := (for_of (w := none) (items := rgD 0 (70 - acc.length)) (S1 := S ++ [acc.map .int]) (by
      simp only [e_range1, e_bin, e_var, e_call, e_consA, e_nilA, bnds_ok, bndls_ok, bndl_ok, bnd_ok, len, List.getElem?_cons_succ, List.getElem?_cons_zero]
      simp only [oSub, oInt2, Option.map_some, bndi_ok, tn]
      rw [if_pos (by omega)])).trans e3
    have d1 : D__law_draws (startD ["_law_script", "_law_amount", "_law_out", "_law_lead", "_law_k", "_law_state", "_law_cell"] [.scr ns, .int 70]) S = (sSeq (sIf (dBin oGe (dVar 3) (dBin oPow (dC (.int 10)) (dC (.int 18)))) (sSeq (sFor (dRange1 (dVar 1)) (tName 4) bodyA) (sNil)) (sNil)) (sSeq (sSet 5 (dC (.int 61007))) (sSeq (sFor (dItems (dVar 0)) (tName 6) (bodyB 2147483587)) (sSeq (sFor (dRange1 (dBin oSub (dVar 1) (dCall oLen (dCons (dVar 2) (dNil))))) (tName 4) (bodyC 2147483587 1000033)) (sSeq (sRet (dVar 2)) (sNil)))))) [some (.scr ns), some (.int 70), some (.ref S.length), some (.int ld), none, none, none] (S ++ [([] : List Int).map .int]) := by
      have z : fits 0 = true := by decide
      simp only [D__law_draws, startD]
      rw [e_seq]
      simp [h0, hne, z, ix]
    rw [d1, e_seq, e1]
    simp only
    rw [e_seq, e_set]
    simp only [e_C, bndS_ok, List.set_cons_succ, List.set_cons_zero]
    rw [e_seq, f2]
    simp only
    rw [e_seq, f3]
    rfl
end My
set_option Elab.async false
set_option linter.all false
set_option maxRecDepth 100000
set_option maxHeartbeats 4000000
set_option exponentiation.threshold 20000
namespace My
open PySem PySem.Spec PyProof.Rows L2 PD
theorem ixD {n : Nat} {ds : List Int} (h : Dr n ds) (i : Nat) (hi : i < n) : ∃ x : Int, 0 ≤ x ∧ x < 1000 ∧ ∀ S, oIx (.lst (ds.map .int)) (.int (i : Nat)) S = some (.ok (.int x) S) := by
  have hl : i < ds.length := by rw [h.1]; exact hi
  obtain ⟨h0, h1⟩ := h.2 _ (List.getElem_mem hl)
  refine ⟨ds[i], h0, h1, fun S => ?_⟩
  have h2 : ((i : Nat) : Int) < ((ds.map D.int).length : Int) := by simp; omega
  have h3 : (0 : Int) ≤ ((i : Nat) : Int) := by omega
  simp only [oIx, asSeq, atI, ixN, h2, h3, if_true, Option.bind_some, Int.toNat_natCast]
  rw [List.getElem?_map, List.getElem?_eq_getElem hl]
  rfl
theorem mini_of {a : Int} (h : a.natAbs < 2 ^ 100) : mini a := Nat.lt_of_lt_of_le h (Nat.pow_le_pow_right (by decide) (by decide))
theorem red_mini {x y : Int} (hy : 1 ≤ y) (hx : x.natAbs < 2 ^ 100) (hy2 : y.natAbs < 2 ^ 100) : ∃ a b, red x y = pr a b ∧ quot (pr a b) = true ∧ mini a ∧ mini b := by
  obtain ⟨a, b, e, h1, h2, _, h4, h5⟩ := red_spec x y (by omega)
  exact ⟨a, b, e, quot_pr.mpr ⟨h1, h2⟩, mini_of (by omega), mini_of (by omega)⟩
theorem v_quotient (S : Store) (ds : List Int) (h : Dr 70 ds) (k : Nat) (hk : k + 2 < 70) : ∃ a b, O__law_quotient [.lst (ds.map .int), .int (k : Nat)] S = some (.ok (pr a b) S) ∧ quot (pr a b) = true ∧ mini a ∧ mini b := by
  obtain ⟨u, u0, u1, iu⟩ := ixD h k (by omega)
  obtain ⟨v, v0, v1, iv⟩ := ixD h (k + 1) (by omega)
  obtain ⟨w, w0, w1, iw⟩ := ixD h (k + 2) (by omega)
  have e1 : ((k + 1 : Nat) : Int) = (k : Int) + 1 := by omega
  have e2 : ((k + 2 : Nat) : Int) = (k : Int) + 2 := by omega
  rw [e1] at iv
  rw [e2] at iw
  have sp : PD.small64 (10 ^ 12) = true := by decide
  have sq : PD.small64 (10 ^ 9) = true := by decide
  have key : ∀ (x y : Int), 1 ≤ y → x.natAbs < 2 ^ 100 → y.natAbs < 2 ^ 100 → ∃ a b, O__law_lowered [.int x, .int y] S = some (.ok (pr a b) S) ∧ quot (pr a b) = true ∧ mini a ∧ mini b := fun x y hy hx hy2 => by
    obtain ⟨a, b, e, q, ma, mb⟩ := red_mini hy hx hy2
    refine ⟨a, b, ?_, q, ma, mb⟩
    rw [v_lowered S x y (by omega) (Nat.lt_of_lt_of_le hy2 (Nat.pow_le_pow_right (by decide) (by decide))), e]
  have fin : ∀ (x y : Int) (a b : Int), O__law_lowered [.int x, .int y] S = some (.ok (pr a b) S) → D__law_quotient (startD ["_law_d", "_law_k", "_law_x", "_law_y"] [.lst (ds.map .int), .int (k : Nat)]) S = some (.rt (pr a b) S) → O__law_quotient [.lst (ds.map .int), .int (k : Nat)] S = some (.ok (pr a b) S) := fun x y a b _ e => fn_rtS e rfl
  by_cases c5 : w % 7 = 5
  · have c3 : ¬ w % 7 = 3 := by omega
    obtain ⟨a, b, e, q⟩ := key 0 (1 + v % 12) (by omega) (by decide) (by omega)
    refine ⟨a, b, fin _ _ a b e ?_, q⟩
    simp [D__law_quotient, startD, iu, iv, iw, oMod, oSub, c5, e]
  · by_cases c3 : w % 7 = 3
    · obtain ⟨a, b, e, q⟩ := key ((u - 500) * 10 ^ 12 + v * 10 ^ 9 + w) (1 + w * 10 ^ 9 + v) (by omega) (by omega) (by omega)
      refine ⟨a, b, fin _ _ a b e ?_, q⟩
      have e' := e
      simp at e'
      simp [D__law_quotient, startD, iu, iv, iw, oMod, oSub, oPow, c3, e_mulR sp, e_mulR sq, e_mulR (show PD.small64 1000000000000 = true by decide), e_mulR (show PD.small64 1000000000 = true by decide), e']
    · obtain ⟨a, b, e, q⟩ := key (u % 41 - 20) (1 + v % 12) (by omega) (by omega) (by omega)
      refine ⟨a, b, fin _ _ a b e ?_, q⟩
      simp [D__law_quotient, startD, iu, iv, iw, oMod, oSub, c5, c3, e]
end My
set_option Elab.async false
set_option linter.all false
set_option maxRecDepth 100000
set_option maxHeartbeats 4000000
set_option exponentiation.threshold 20000
namespace My
open PySem PySem.Spec PyProof.Rows L2 PD
theorem ixL (xs : List D) (j : Int) (h0 : 0 ≤ j) (h1 : j < xs.length) : ∃ x, x ∈ xs ∧ ∀ S, oIx (.lst xs) (.int j) S = some (.ok x S) := by
  have hn : j.toNat < xs.length := by omega
  refine ⟨xs[j.toNat], List.getElem_mem hn, fun S => ?_⟩
  simp only [oIx, asSeq, atI, ixN, h0, h1, if_true, Option.bind_some]
  rw [List.getElem?_eq_getElem hn]
  rfl
theorem okOne : PyData.strOk "one" = true := by decide +kernel
theorem okOther : PyData.strOk "other" = true := by decide +kernel
theorem okTop : PyData.strOk "top" = true := by decide +kernel
theorem okBottom : PyData.strOk "bottom" = true := by decide +kernel
theorem okQuotients : PyData.strOk "quotients" = true := by decide +kernel
def five (w : Int) : Prop := w = 0 ∨ w = 1 ∨ w = 2 ∨ w = 3 ∨ w = 4
theorem ref_one (S : Store) {w : Int} (hw : five w) {x y : D} (h1 : tell x = true) (h2 : quot x = false) : O__law_refused [.int w, x, y, .str "one"] S = some (.ok (.bl true) S) := by
  rcases hw with rfl | rfl | rfl | rfl | rfl
  · exact v_refused S 0 x y "one" okOne (v_call_0 (n_plus_one h1 h2) rfl)
  · exact v_refused S 1 x y "one" okOne (v_call_1 (n_minus_one h1 h2) rfl)
  · exact v_refused S 2 x y "one" okOne (v_call_2 (n_times_one h1 h2) rfl)
  · exact v_refused S 3 x y "one" okOne (v_call_3 (n_over_one h1 h2) rfl)
  · exact v_refused S 4 x y "one" okOne (v_call_4 (n_is_less_one h1 h2) rfl)
theorem ref_other (S : Store) {w : Int} (hw : five w) {x y : D} (g1 : tell x = true) (g2 : quot x = true) (h1 : tell y = true) (h2 : quot y = false) : O__law_refused [.int w, x, y, .str "other"] S = some (.ok (.bl true) S) := by
  rcases hw with rfl | rfl | rfl | rfl | rfl
  · exact v_refused S 0 x y "other" okOther (v_call_0 (n_plus_other g1 h1 g2 h2) rfl)
  · exact v_refused S 1 x y "other" okOther (v_call_1 (n_minus_other g1 h1 g2 h2) rfl)
  · exact v_refused S 2 x y "other" okOther (v_call_2 (n_times_other g1 h1 g2 h2) rfl)
  · exact v_refused S 3 x y "other" okOther (v_call_3 (n_over_other g1 h1 g2 h2) rfl)
  · exact v_refused S 4 x y "other" okOther (v_call_4 (n_is_less_other g1 h1 g2 h2) rfl)
def bads : List D := [.non, .bl true, .int 3, .str "1/2", pr 2 4, pr 1 0, pr 1 (-2), .lst [.int 1, .int 2], .tup [.int 1, .int 2, .int 3], .tup [.bl true, .int 2], .tup [.int 1, .bl true], .tup [.int 1], pr 0 2]
theorem bads_ok : ∀ x ∈ bads, tell x = true ∧ quot x = false := by
  have h : (bads.all fun x => tell x && !quot x) = true := by decide +kernel
  intro x hx
  have := List.all_eq_true.mp h x hx
  simpa using this
def odds : List D := [.bl true, .non, .str "1", pr 1 2, .lst [.int 1], .bl false, .tup []]
theorem odds_ok : ∀ x ∈ odds, told x = true ∧ whole x = false := by
  have h : (odds.all fun x => told x && !whole x) = true := by decide +kernel
  intro x hx
  have := List.all_eq_true.mp h x hx
  simpa using this
def wrongs : List D := [.tup [], .lst [pr 1 2], .non, .tup [pr 1 2, pr (-1) 2], .tup [pr 1 2, pr 2 4], .tup [.bl true]] ++ [.tup [pr 1 2, .int 1], pr 1 2, .tup [pr 0 2], .tup [pr 1 0, pr 1 2], .tup [.lst [.int 1, .int 2]], .tup [.non, pr 1 2]]
theorem wrongs_ok : ∀ x ∈ wrongs, tells x = true ∧ amounts x = false := by
  have h : (wrongs.all fun x => tells x && !amounts x) = true := by decide +kernel
  intro x hx
  have := List.all_eq_true.mp h x hx
  simpa using this
theorem ref_wrong (S : Store) {x : D} (hx : x ∈ wrongs) : O__law_refused [.int 16, x, .non, .str "quotients"] S = some (.ok (.bl true) S) :=
  v_refused S 16 x .non "quotients" okQuotients (v_call_16 (n_load_of S x (wrongs_ok x hx).1 (wrongs_ok x hx).2) rfl)
noncomputable abbrev bodyQ : SDen := sSeq (sSet 5 (dBin oIx (dVar 2) (dBin oMod (dCall oInt1 (dCons (dBin oPlus (dVar 3) (dBin oMul (dC (.int 5)) (dVar 4))) (dNil))) (dC (.int 13))))) (sSeq (sSet 6 (dBin oIx (dVar 2) (dBin oMod (dCall oInt1 (dCons (dBin oPlus (dBin oPlus (dVar 3) (dBin oMul (dC (.int 7)) (dVar 4))) (dC (.int 3))) (dNil))) (dC (.int 13))))) (sSeq (sIf (dOr (dNot (dTru (dFn 4 O__law_refused (dCons (dVar 4) (dCons (dVar 5) (dCons (dVar 1) (dCons (dC (.str "one")) (dNil)))))))) (dNot (dTru (dFn 4 O__law_refused (dCons (dVar 4) (dCons (dVar 1) (dCons (dVar 5) (dCons (dC (.str "other")) (dNil))))))))) (sSeq (sRet (dC (.bl false))) (sNil)) (sNil)) (sSeq (sIf (dNot (dTru (dFn 4 O__law_refused (dCons (dVar 4) (dCons (dVar 5) (dCons (dVar 6) (dCons (dC (.str "one")) (dNil)))))))) (sSeq (sRet (dC (.bl false))) (sNil)) (sNil)) (sNil))))
theorem turn_q (S : Store) (d p : D) (hp : tell p = true) (hq : quot p = true) (k w : Int) (hw : five w) (r5 r6 r7 r8 r9 : Option D) : ∃ x y, bodyQ [some d, some p, some (.lst bads), some (.int k), some (.int w), r5, r6, r7, r8, r9] S = some (.nx [some d, some p, some (.lst bads), some (.int k), some (.int w), some x, some y, r7, r8, r9] S) := by
  obtain ⟨x, hx, ix⟩ := ixL bads ((k + 5 * w) % 13) (Int.emod_nonneg _ (by decide)) (Int.emod_lt_of_pos _ (by decide))
  obtain ⟨y, hy, iy⟩ := ixL bads ((k + 7 * w + 3) % 13) (Int.emod_nonneg _ (by decide)) (Int.emod_lt_of_pos _ (by decide))
  have bx := bads_ok x hx
  have m5 : ∀ T, oMul (.int 5) (.int w) T = some (.ok (.int (5 * w)) T) := fun T => by simp [oMul, mulFits, show PD.small64 5 = true by decide]
  have m7 : ∀ T, oMul (.int 7) (.int w) T = some (.ok (.int (7 * w)) T) := fun T => by simp [oMul, mulFits, show PD.small64 7 = true by decide]
  refine ⟨x, y, ?_⟩
  simp [bodyQ, m5, m7, oMod, ix, iy, truth, ref_one S hw bx.1 bx.2, ref_other S hw hp hq bx.1 bx.2]
theorem loop_q (S : Store) (d p : D) (hp : tell p = true) (hq : quot p = true) (k : Int) (r7 r8 r9 : Option D) (all : List D) (ws : List Int) : (∀ w ∈ ws, five w) → ∀ (r4 r5 r6 : Option D), ∃ r4' r5' r6', forLoop none all (tName 4) bodyQ (ws.map .int) [some d, some p, some (.lst bads), some (.int k), r4, r5, r6, r7, r8, r9] S = some (.nx [some d, some p, some (.lst bads), some (.int k), r4', r5', r6', r7, r8, r9] S) := by
  induction ws with
  | nil => exact fun _ r4 r5 r6 => ⟨r4, r5, r6, by simp⟩
  | cons w ws ih =>
    intro hw r4 r5 r6
    obtain ⟨x, y, t⟩ := turn_q S d p hp hq k w (hw w List.mem_cons_self) r5 r6 r7 r8 r9
    obtain ⟨r4', r5', r6', e⟩ := ih (fun z hz => hw z (List.mem_cons_of_mem _ hz)) (some (.int w)) (some x) (some y)
    refine ⟨r4', r5', r6', ?_⟩
    rw [List.map_cons, loop_cons]
    simp only [e_tName, List.set_cons_succ, List.set_cons_zero]
    rw [t]
    exact e
end My
set_option Elab.async false
set_option linter.all false
set_option maxRecDepth 100000
set_option maxHeartbeats 4000000
set_option exponentiation.threshold 20000
namespace My
open PySem PySem.Spec PyProof.Rows L2 PD
theorem fits13 : fits 13 = true := by decide
theorem fits7 : fits 7 = true := by decide
theorem fits6 : fits 6 = true := by decide
theorem fits3 : fits 3 = true := by decide
theorem fits0 : fits 0 = true := by decide
theorem v_no_quotients (S : Store) (ds : List Int) (h : Dr 70 ds) (a b : Int) (hq : quot (pr a b) = true) : O__law_no_quotients [.lst (ds.map .int), pr a b] S = some (.ok (.bl true) S) := by
  obtain ⟨u, u0, u1, iu⟩ := ixD h 40 (by decide)
  obtain ⟨v, v0, v1, iv⟩ := ixD h 41 (by decide)
  obtain ⟨w, w0, w1, iw⟩ := ixD h 42 (by decide)
  obtain ⟨z, z0, z1, iz⟩ := ixD h 43 (by decide)
  refine fn_rtS ?_ rfl
  generalize hd : (D.lst (ds.map .int)) = d at *
  have iu' : ∀ T, oIx d (.int 40) T = some (.ok (.int u) T) := iu
  have iv' : ∀ T, oIx d (.int 41) T = some (.ok (.int v) T) := iv
  have iw' : ∀ T, oIx d (.int 42) T = some (.ok (.int w) T) := iw
  have iz' : ∀ T, oIx d (.int 43) T = some (.ok (.int z) T) := iz
  -- the list of what is no quotient
  obtain ⟨r4, r5, r6, hl⟩ := loop_q S d (pr a b) rfl hq (u % 13) none none none (rgD 0 5) [0, 1, 2, 3, 4] (by unfold five; decide) none none none
  have hr : rgD 0 5 = [0, 1, 2, 3, 4].map D.int := rfl
  rw [← hr] at hl
  have f1 : sFor (dRange1 (dC (.int 5))) (tName 4) bodyQ [some d, some (pr a b), some (.lst bads), some (.int (u % 13)), none, none, none, none, none, none] S = _ := (for_of (w := none) (items := rgD 0 5) (S1 := S) (by simp)).trans hl
  obtain ⟨x, hx, ix⟩ := ixL odds (v % 7) (Int.emod_nonneg _ (by decide)) (Int.emod_lt_of_pos _ (by decide))
  obtain ⟨y, hy, iy⟩ := ixL bads (u % 13) (Int.emod_nonneg _ (by decide)) (Int.emod_lt_of_pos _ (by decide))
  obtain ⟨s, hs, is⟩ := ixL wrongs (w % 12) (Int.emod_nonneg _ (by decide)) (Int.emod_lt_of_pos _ (by decide))
  obtain ⟨t, ht, it⟩ := ixL wrongs (z % 12) (Int.emod_nonneg _ (by decide)) (Int.emod_lt_of_pos _ (by decide))
  have ox := odds_ok x hx
  have q1 : O__law_refused [.int 5, x, .int 0, .str "top"] S = some (.ok (.bl true) S) := v_refused S 5 x (.int 0) "top" okTop (v_call_5 (n_quotient_top ox.1 ox.2) rfl)
  have q2 : O__law_refused [.int 5, .int 1, x, .str "bottom"] S = some (.ok (.bl true) S) := v_refused S 5 (.int 1) x "bottom" okBottom (v_call_5 (n_quotient_bottom 1 ox.1 ox.2) rfl)
  have q3 : O__law_refused [.int 5, .int a, .int 0, .str "bottom"] S = some (.ok (.bl true) S) := v_refused S 5 (.int a) (.int 0) "bottom" okBottom (v_call_5 (n_quotient_nought a) rfl)
  have q4 : O__law_refused [.int 3, pr a b, pr 0 1, .str "other"] S = some (.ok (.bl true) S) := v_refused S 3 (pr a b) (pr 0 1) "other" okOther (v_call_3 (n_over_nought a b 1 hq (by decide +kernel)) rfl)
  have q5 : O__law_refused [.int 3, y, pr 0 1, .str "one"] S = some (.ok (.bl true) S) := v_refused S 3 y (pr 0 1) "one" okOne (v_call_3 (n_over_one (bads_ok y hy).1 (bads_ok y hy).2) rfl)
  have q6 := ref_wrong S hs
  have q7 := ref_wrong S ht
  have e2 : sSet 2 (dLst (dCons (dC .non) (dCons (dC (.bl true)) (dCons (dC (.int 3)) (dCons (dC (.str "1/2")) (dCons (dTup (dCons (dC (.int 2)) (dCons (dC (.int 4)) (dNil)))) (dCons (dTup (dCons (dC (.int 1)) (dCons (dC (.int 0)) (dNil)))) (dCons (dTup (dCons (dC (.int 1)) (dCons (dUn oNeg (dC (.int 2))) (dNil)))) (dCons (dLst (dCons (dC (.int 1)) (dCons (dC (.int 2)) (dNil)))) (dCons (dTup (dCons (dC (.int 1)) (dCons (dC (.int 2)) (dCons (dC (.int 3)) (dNil))))) (dCons (dTup (dCons (dC (.bl true)) (dCons (dC (.int 2)) (dNil)))) (dCons (dTup (dCons (dC (.int 1)) (dCons (dC (.bl true)) (dNil)))) (dCons (dTup (dCons (dC (.int 1)) (dNil))) (dCons (dTup (dCons (dC (.int 0)) (dCons (dC (.int 2)) (dNil)))) (dNil))))))))))))))) [some d, some (pr a b), none, none, none, none, none, none, none, none] S = some (.nx [some d, some (pr a b), some (.lst bads), none, none, none, none, none, none, none] S) := by
    simp [fits13, fits3, bads]
  have st : startD ["_law_d", "_law_p", "_law_bad", "_law_k", "_law_which", "_law_x", "_law_y", "_law_odd", "_law_g", "_law_wrong"] [d, pr a b] = [some d, some (pr a b), none, none, none, none, none, none, none, none] := rfl
  simp only [D__law_no_quotients]
  rw [st, e_seq, e2]
  try simp only
  rw [e_seq]
  simp only [e_set, e_bin, e_call, e_consA, e_var, e_C, e_nilA, List.getElem?_cons_zero, List.getElem?_cons_succ, bnd_ok, bnds_ok, bndls_ok, bndl_ok, iu', e_int1, oMod, oInt2, if_true, Option.map_some, bndS_ok, List.set_cons_succ, List.set_cons_zero, show (0 : Int) < 13 by decide]
  rw [e_seq, f1]
  try simp only
  have od : D.lst [.bl true, .non, .str "1", pr 1 2, .lst [.int 1], .bl false, .tup []] = D.lst odds := rfl
  have wr1 : ∀ T, oPlus (.lst [.tup [], .lst [pr 1 2], .non, .tup [pr 1 2, pr (-1) 2], .tup [pr 1 2, pr 2 4], .tup [.bl true]]) (.lst [.tup [pr 1 2, .int 1], pr 1 2, .tup [pr 0 2], .tup [pr 1 0, pr 1 2], .tup [.lst [.int 1, .int 2]], .tup [.non, pr 1 2]]) T = some (.ok (.lst wrongs) T) := fun T => rfl
  simp [fits7, fits6, fits0, od, iv', ix, oMod, q1, q2, q3, q4, q5, truth, iy, wr1, iw', is, iz', it, q6, q7]
end My
set_option Elab.async false
set_option linter.all false
set_option maxRecDepth 100000
set_option maxHeartbeats 4000000
set_option exponentiation.threshold 20000
namespace My
open PySem PySem.Spec PyProof.Rows L2 PD
/-! ### the common divisor of a list -/
def cd (xs : List Int) : Int := xs.foldl (fun g x => (Int.gcd g x : Int)) 0
theorem cdF_dvd : ∀ (xs : List Int) (g : Int), xs.foldl (fun g x => (Int.gcd g x : Int)) g ∣ g ∧ ∀ x ∈ xs, xs.foldl (fun g x => (Int.gcd g x : Int)) g ∣ x
  | [], g => ⟨Int.dvd_refl g, fun _ h => nomatch h⟩
  | y :: ys, g => by
    obtain ⟨h1, h2⟩ := cdF_dvd ys (Int.gcd g y)
    refine ⟨Int.dvd_trans h1 (Int.gcd_dvd_left ..), fun x hx => ?_⟩
    rcases List.mem_cons.mp hx with rfl | hx
    · exact Int.dvd_trans h1 (Int.gcd_dvd_right ..)
    · exact h2 x hx
theorem cdF_of : ∀ (xs : List Int) (g d : Int), d ∣ g → (∀ x ∈ xs, d ∣ x) → d ∣ xs.foldl (fun g x => (Int.gcd g x : Int)) g
  | [], g, d, h, _ => h
  | y :: ys, g, d, h, hx => cdF_of ys _ d (Int.dvd_coe_gcd h (hx y List.mem_cons_self)) fun x hm => hx x (List.mem_cons_of_mem _ hm)
theorem cdF_nonneg : ∀ (xs : List Int) (g : Int), 0 ≤ g → 0 ≤ xs.foldl (fun g x => (Int.gcd g x : Int)) g
  | [], g, h => h
  | y :: ys, g, _ => cdF_nonneg ys _ (by show 0 ≤ ((Int.gcd g y : Nat) : Int); omega)
theorem cd_dvd {xs : List Int} {x : Int} (h : x ∈ xs) : cd xs ∣ x := (cdF_dvd xs 0).2 x h
theorem cd_of {xs : List Int} {d : Int} (h : ∀ x ∈ xs, d ∣ x) : d ∣ cd xs := cdF_of xs 0 d (Int.dvd_zero d) h
theorem cd_nonneg (xs : List Int) : 0 ≤ cd xs := cdF_nonneg xs 0 (by omega)
theorem cd_pos {xs : List Int} {x : Int} (h : x ∈ xs) (hx : x ≠ 0) : 0 < cd xs := by
  have h1 := cd_nonneg xs
  have h2 := cd_dvd h
  by_cases z : cd xs = 0
  · rw [z] at h2
    exact absurd (Int.zero_dvd.mp h2) hx
  · omega
theorem v_common_divisor (S : Store) (xs : List Int) : O_common_divisor [.lst (xs.map .int)] S = some (.ok (.int (cd xs)) S) := by
  refine fn_rtS ?_ rfl
  have key : ∀ (ys : List Int) (all : List D) (g : Int) (c : Option D), ∃ c', forLoop none all (tName 2) (sSeq (sSet 1 (dCall oGcd (dCons (dVar 1) (dCons (dVar 2) (dNil))))) (sNil)) (ys.map .int) [some (.lst (xs.map .int)), some (.int g), c] S = some (.nx [some (.lst (xs.map .int)), some (.int (ys.foldl (fun g x => (Int.gcd g x : Int)) g)), c'] S) := by
    intro ys
    induction ys with
    | nil => exact fun all g c => ⟨c, by simp⟩
    | cons y ys ih =>
      intro all g c
      obtain ⟨c', e⟩ := ih all (Int.gcd g y) (some (.int y))
      refine ⟨c', ?_⟩
      rw [List.map_cons, loop_cons]
      simp [gcd_nat, e]
  obtain ⟨c', e⟩ := key xs (xs.map .int) 0 none
  have hf : sFor (dItems (dVar 0)) (tName 2) (sSeq (sSet 1 (dCall oGcd (dCons (dVar 1) (dCons (dVar 2) (dNil))))) (sNil)) [some (.lst (xs.map .int)), some (.int 0), none] S = _ := (for_of (w := none) (items := xs.map .int) (S1 := S) (by simp [asWalk])).trans e
  simp only [D_common_divisor, startD, e_seq]
  simp [hf, cd]
/-! ### loads -/
abbrev ld (ts : List Int) (b : Int) : D := .tup [.tup (ts.map .int), .int b]
def ival : D → Int
  | .int i => i
  | _ => 0
def numsB (n : Int) : D → Bool
  | .tup xs => ((xs.length : Int) == n) && xs.all numb
  | _ => false
theorem v_are_numbers (S : Store) (n : Int) (d : D) (h : tell d = true) (hz : ∀ xs, d = .tup xs → xs.length ≤ 1000) : O_are_numbers [.int n, d] S = some (.ok (.bl (numsB n d)) S) := by
  refine fn_rtS ?_ rfl
  simp only [D_are_numbers, startD]
  match d, h with
  | .tup xs, h =>
    simp only [tell, List.all_eq_true] at h
    have e := lc_map (own := [2]) (t := .one 2) (elt := dFn 1 O_is_number (dCons (dVar 2) (dNil))) (f := dItems (dVar 1)) (ρ := [some (.int n), some (.tup xs), none]) (S := S) (items := xs) (fun x => .bl (numb x)) (fun x => [some (.int n), some (.tup xs), some x]) (by simp [asWalk])
      (fun x _ => rfl) (fun x hx T => by simp [v_is_number T x (h x hx)]) (by have := hz xs rfl; omega) (by simp [closeds_all, closed])
    by_cases hn : (xs.length : Int) = n
    · have k : ((xs.length : Int) == n) = true := by rw [hn]; exact beq_self_eq_true n
      simp [tyName, isTy, e, numsB, k]
    · have k : ((xs.length : Int) == n) = false := beq_eq_false_iff_ne.mpr hn
      simp [tyName, isTy, numsB, k]
  | .non, _ => simp [tyName, isTy, numsB]
  | .bl _, _ => simp [tyName, isTy, numsB]
  | .int _, _ => simp [tyName, isTy, numsB]
  | .str _, _ => simp [tyName, isTy, numsB]
  | .lst _, _ => simp [tyName, isTy, numsB]
  | .scr _, _ => simp [tyName, isTy, numsB]
  | .ref _, _ => simp [tyName, isTy, numsB]
  | .err .., h => simp [tell, told, tyName] at h
  | .cau .., h => simp [tell, told, tyName] at h
theorem numb_ints : ∀ {xs : List D}, xs.all numb = true → xs = (xs.map ival).map .int
  | [], _ => rfl
  | x :: xs, h => by
    simp only [List.all_cons, Bool.and_eq_true] at h
    have h1 := numb_ints h.2
    rw [List.map_cons, List.map_cons, ← h1]
    cases x <;> simp [numb] at h <;> rfl
def loadB (n : Int) : D → Bool
  | .tup [x, y] => numsB n x && bott y && (match x, y with
    | .tup xs, .int b => cd (xs.map ival ++ [b]) == 1
    | _, _ => false)
  | _ => false
/-- told, its parts and theirs, none of them long -/
def tellL : D → Bool
  | .tup xs => xs.all fun x => tell x && (match x with
    | .tup ys => decide (ys.length ≤ 1000)
    | _ => true)
  | d => told d
theorem v_is_load (S : Store) (n : Int) (d : D) (h : tellL d = true) : O_is_load [.int n, d] S = some (.ok (.bl (loadB n d)) S) := by
  refine fn_rtS ?_ rfl
  simp only [D_is_load, startD]
  have ht : told d = true := by cases d <;> simp_all [tellL, told, tyName]
  by_cases hp : isPair d = true
  · match d, hp with
    | .tup [x, y], _ =>
      simp only [tellL, List.all_cons, List.all_nil, Bool.and_true, Bool.and_eq_true] at h
      obtain ⟨⟨hx, hx2⟩, hy, _⟩ := h
      have hz : ∀ xs, x = .tup xs → xs.length ≤ 1000 := fun xs e => by subst e; simpa using hx2
      have t2 : told (.tup [x, y]) = true := rfl
      have a1 := v_are_numbers S n x hx hz
      have a2 := v_is_bottom S y (tell_told hy)
      by_cases c1 : numsB n x = true
      · by_cases c2 : bott y = true
        · match x, c1 with
          | .tup xs, c1 =>
            match y, c2 with
            | .int b, c2 =>
              simp only [numsB, Bool.and_eq_true] at c1
              have hi := numb_ints c1.2
              have e : xs ++ [.int b] = (xs.map ival ++ [b]).map .int := by
                rw [List.map_append, ← hi]; rfl
              have v := v_common_divisor S (xs.map ival ++ [b])
              rw [← e] at v
              have c1' : numsB n (.tup xs) = true := by simp [numsB, c1.1, c1.2]
              have hz' := hz xs rfl
              have ft : fits (xs.length + 1) = true := by unfold fits; exact decide_eq_true (by omega)
              simp [v_is_pair S _ t2, isPair, a1, a2, c1', c2, truth, dStar, asSeq, ft, v, loadB]
        · simp only [Bool.not_eq_true] at c2
          simp [v_is_pair S _ t2, isPair, a1, a2, c1, c2, truth, loadB]
      · simp only [Bool.not_eq_true] at c1
        simp [v_is_pair S _ t2, isPair, a1, c1, truth, loadB]
    | .tup [], hp => simp [isPair] at hp
    | .tup [_], hp => simp [isPair] at hp
    | .tup (_ :: _ :: _ :: _), hp => simp [isPair] at hp; omega
  · have hl : loadB n d = false := by
      unfold loadB
      split
      · exact absurd rfl hp
      · rfl
    simp only [Bool.not_eq_true] at hp
    simp [v_is_pair S d ht, hp, truth, hl]
end My
set_option Elab.async false
set_option linter.all false
set_option maxRecDepth 100000
set_option maxHeartbeats 4000000
set_option exponentiation.threshold 20000
namespace My
open PySem PySem.Spec PyProof.Rows L2 PD
section
variable {ρ : EnvD} {S : Store} {own : List Nat} {t : Tg} {elt cnd : Den} {f : Iens}
theorem range1_of {g : Den} {n : Nat} {S1 : Store} (h : g ρ S = some (.ok (.int (n : Nat)) S1)) (hn : n ≤ 16777216) : dRange1 g ρ S = some (.ok (rgD 0 n) none S1) := by
  have lo : -(2 ^ 62) ≤ ((n : Nat) : Int) := by omega
  have hi : ((n : Nat) : Int) < 2 ^ 62 := by omega
  rw [e_range1, h, bndi_ok]
  simp only [lo, hi, and_self, if_true, Int.toNat_natCast]
def ixOf (h : Nat → D) : D → D
  | .int i => h i.toNat
  | _ => .non
theorem rg_map (n : Nat) (h : Nat → D) : (rgD 0 n).map (ixOf h) = (List.range n).map h := by
  unfold rgD
  rw [List.map_map]
  refine List.map_congr_left fun i _ => ?_
  simp [ixOf]
theorem rg_mem {n : Nat} {x : D} (hx : x ∈ rgD 0 n) : ∃ i : Nat, i < n ∧ x = .int (i : Nat) := by
  unfold rgD at hx
  obtain ⟨i, hi, rfl⟩ := List.mem_map.mp hx
  exact ⟨i, List.mem_range.mp hi, by simp⟩
theorem lc_range (n : Nat) (h : Nat → D) (ρ' : Nat → EnvD) (hf : f ρ S = some (.ok (rgD 0 n) none S)) (ht : ∀ i < n, t.go (.int (i : Nat)) (wipeD ρ own) = some (ρ' i)) (he : ∀ i < n, ∀ T, elt (ρ' i) T = some (.ok (h i) T))
    (hl : n ≤ 16777216) (cl : closeds ((List.range n).map h) = true) : dLc own f t dYes elt ρ S = some (.ok (.lst ((List.range n).map h)) S) := by
  have e := lc_map (elt := elt) (ixOf h) (fun d => match d with | .int i => ρ' i.toNat | _ => ρ) hf (fun x hx => by
    obtain ⟨i, hi, rfl⟩ := rg_mem hx
    simpa using ht i hi) (fun x hx T => by
    obtain ⟨i, hi, rfl⟩ := rg_mem hx
    simpa [ixOf] using he i hi T) (by rw [rgD_length]; exact hl) (by rw [rg_map]; exact cl)
  rwa [rg_map] at e
end
/-- the number at place i -/
def gt (xs : List Int) (i : Nat) : Int := xs.getD i 0
theorem ixT {xs : List Int} {i : Nat} (hi : i < xs.length) (S : Store) : oIx (.tup (xs.map .int)) (.int (i : Nat)) S = some (.ok (.int (gt xs i)) S) := by
  have h2 : ((i : Nat) : Int) < ((xs.map D.int).length : Int) := by simp; omega
  have h3 : (0 : Int) ≤ ((i : Nat) : Int) := by omega
  simp only [oIx, asSeq, atI, ixN, h2, h3, if_true, Option.bind_some, Int.toNat_natCast]
  rw [List.getElem?_map, List.getElem?_eq_getElem hi]
  simp [gt, List.getD, List.getElem?_eq_getElem hi]
/-- a load in lowest terms from tops and a bottom -/
def lf (ts : List Int) (b : Int) : D := ld (ts.map (· / cd (ts ++ [b]))) (b / cd (ts ++ [b]))
theorem cd_bot {ts : List Int} {b : Int} (hb : 1 ≤ b) : 0 < cd (ts ++ [b]) ∧ cd (ts ++ [b]) ≤ b := by
  have hm : b ∈ ts ++ [b] := List.mem_append_right _ (List.mem_singleton.mpr rfl)
  exact ⟨cd_pos hm (by omega), Int.le_of_dvd (by omega) (cd_dvd hm)⟩
theorem closed_ld (ts : List Int) (b : Int) : closed (ld ts b) = true := by
  simp only [closed, closeds, closeds_map_int, Bool.and_self]
theorem v_load_from (S : Store) (ts : List Int) (b : Int) (hb : 1 ≤ b) (h9 : b.natAbs < 2 ^ 9000) (hn : ts.length ≤ 1000) : O_load_from [.lst (ts.map .int), .int b] S = some (.ok (lf ts b) S) := by
  refine fn_rtS ?_ (closed_ld _ _)
  obtain ⟨g0, g1⟩ := cd_bot (ts := ts) hb
  generalize hg : cd (ts ++ [b]) = g at *
  have lg : g.natAbs.log2 < 9000 := (Nat.log2_lt (by omega)).mpr (by omega)
  have ft : fits (ts.length + 1) = true := by unfold fits; exact decide_eq_true (by omega)
  have e : ts.map D.int ++ [.int b] = (ts ++ [b]).map .int := by simp
  have v := v_common_divisor S (ts ++ [b])
  rw [← e, hg] at v
  have c := lc_map (own := [3]) (t := .one 3) (elt := dBin oDiv (dVar 3) (dVar 2)) (f := dItems (dVar 0)) (ρ := [some (.lst (ts.map .int)), some (.int b), some (.int g), none]) (S := S) (items := ts.map .int) (fun x => .int (ival x / g)) (fun x => [some (.lst (ts.map .int)), some (.int b), some (.int g), some x]) (by simp [asWalk])
    (fun x _ => rfl) (fun x hx T => by
      obtain ⟨i, _, rfl⟩ := List.mem_map.mp hx
      simp [oDiv, g0, lg, ival]) (by simp; omega) (by simp [closeds_all, closed])
  have m : (ts.map D.int).map (fun x => D.int (ival x / g)) = (ts.map (· / g)).map .int := by
    rw [List.map_map, List.map_map]; rfl
  rw [m] at c
  simp only [D_load_from, startD]
  simp [dStar, asSeq, ft, v, c, oTuple1, asList, oDiv, g0, lg, lf, hg]
/-- the tops of two loads of one size over the product of the bottoms, side by side -/
def lvl (ts us : List Int) (b c : Int) (i : Nat) : D := pr (gt ts i * c) (gt us i * b)
theorem e_len2 (ts : List Int) (b : Int) (S : Store) : oLen [.tup (ts.map .int)] S = some (.ok (.int ts.length) S) := by simp [oLen, asSeq]
theorem getD_small {ts : List Int} (h : ∀ x ∈ ts, small x) (i : Nat) : small (gt ts i) := by
  unfold gt
  by_cases hi : i < ts.length
  · rw [List.getD, List.getElem?_eq_getElem hi]
    exact h _ (List.getElem_mem hi)
  · rw [List.getD, List.getElem?_eq_none (by omega)]
    show (0 : Int).natAbs < 2 ^ 2000
    exact Nat.pos_of_ne_zero (by simp)
theorem v_leveled (S : Store) (ts us : List Int) (b c : Int) (hl : us.length = ts.length) (hn : ts.length ≤ 1000) (h1 : ∀ x ∈ ts, small x) (h2 : ∀ x ∈ us, small x) (hb : small b) (hc : small c) : O_leveled [ld ts b, ld us c] S = some (.ok (.lst ((List.range ts.length).map (lvl ts us b c))) S) := by
  have cl : closeds ((List.range ts.length).map (lvl ts us b c)) = true := by simp [closeds_all, lvl, closed, closeds]
  refine fn_rtS ?_ (by simp only [closed]; exact cl)
  have e := lc_range (own := [2]) (t := .one 2) (elt := dTup (dCons (dBin oMul (dBin oIx (dBin oIx (dVar 0) (dC (.int 0))) (dVar 2)) (dBin oIx (dVar 1) (dC (.int 1)))) (dCons (dBin oMul (dBin oIx (dBin oIx (dVar 1) (dC (.int 0))) (dVar 2)) (dBin oIx (dVar 0) (dC (.int 1)))) (dNil)))) (f := dRange1 (dCall oLen (dCons (dBin oIx (dVar 0) (dC (.int 0))) (dNil)))) (ρ := [some (ld ts b), some (ld us c), none]) (S := S) ts.length (lvl ts us b c) (fun i => [some (ld ts b), some (ld us c), some (.int (i : Nat))])
    (range1_of (by simp [e_len2]) (by omega)) (fun i _ => rfl) (fun i hi T => by
      have i2 : i < us.length := by omega
      simp [ixT hi, ixT i2, e_mulI (getD_small h1 i) hc, e_mulI (getD_small h2 i) hb, lvl]) (by omega) cl
  have st : startD ["load", "other", "i"] [ld ts b, ld us c] = [some (ld ts b), some (ld us c), none] := rfl
  simp only [D_leveled]
  rw [st, e_seq, e_ret, e]
  rfl
end My
set_option Elab.async false
set_option linter.all false
set_option maxRecDepth 100000
set_option maxHeartbeats 4000000
set_option exponentiation.threshold 20000
namespace My
open PySem PySem.Spec PyProof.Rows L2 PD
section
variable {ρ : EnvD} {S : Store} {own : List Nat} {t : Tg} {elt cnd : Den} {f : Iens}
theorem lc_loopI (all : List D) (F h : Nat → D) (p : Nat → Bool) (ρ' : Nat → EnvD) : ∀ (xs : List Nat) (acc : List D), (∀ x ∈ xs, t.go (F x) (wipeD ρ own) = some (ρ' x)) → (∀ x ∈ xs, ∀ T, cnd (ρ' x) T = some (.ok (.bl (p x)) T)) → (∀ x ∈ xs, p x = true → ∀ T, elt (ρ' x) T = some (.ok (h x) T)) →
    acc.length + xs.length ≤ 16777216 → lcLoop own t cnd elt ρ S.length none all (xs.map F) (S ++ [acc]) = some (S ++ [acc ++ (xs.filter p).map h])
  | [], acc, _, _, _, _ => by simp [lcLoop]
  | x :: xs, acc, ht, hc, he, hl => by
    have ih := fun a => lc_loopI all F h p ρ' xs a (fun y hy => ht y (List.mem_cons_of_mem _ hy)) (fun y hy => hc y (List.mem_cons_of_mem _ hy)) (fun y hy => he y (List.mem_cons_of_mem _ hy))
    simp only [List.length_cons] at hl
    simp only [List.map_cons, lcLoop, ht x List.mem_cons_self, hc x List.mem_cons_self]
    cases hp : p x with
    | false =>
      simp only [Bool.false_eq_true, if_false, ckOf_none, if_true]
      rw [ih acc (by omega)]
      simp [hp]
    | true =>
      simp only [if_true, he x List.mem_cons_self hp, get_last, ckOf_none, set_last, and_true]
      rw [if_pos (by omega), ih (acc ++ [h x]) (by simp; omega)]
      simp [hp]
theorem lc_idxF (xs : List Nat) (F h : Nat → D) (p : Nat → Bool) (ρ' : Nat → EnvD) (hf : f ρ S = some (.ok (xs.map F) none S)) (ht : ∀ x ∈ xs, t.go (F x) (wipeD ρ own) = some (ρ' x)) (hc : ∀ x ∈ xs, ∀ T, cnd (ρ' x) T = some (.ok (.bl (p x)) T)) (he : ∀ x ∈ xs, p x = true → ∀ T, elt (ρ' x) T = some (.ok (h x) T))
    (hl : xs.length ≤ 16777216) (cl : closeds ((xs.filter p).map h) = true) : dLc own f t cnd elt ρ S = some (.ok (.lst ((xs.filter p).map h)) S) := by
  have e := lc_loopI (S := S) (xs.map F) F h p ρ' xs [] ht hc he (by simpa using hl)
  unfold dLc
  rw [hf]
  simp only [e, List.nil_append, get_last, List.take_left', fzs_closed cl]
  simp
theorem lc_idx (xs : List Nat) (F h : Nat → D) (ρ' : Nat → EnvD) (hf : f ρ S = some (.ok (xs.map F) none S)) (ht : ∀ x ∈ xs, t.go (F x) (wipeD ρ own) = some (ρ' x)) (he : ∀ x ∈ xs, ∀ T, elt (ρ' x) T = some (.ok (h x) T))
    (hl : xs.length ≤ 16777216) (cl : closeds (xs.map h) = true) : dLc own f t dYes elt ρ S = some (.ok (.lst (xs.map h)) S) := by
  have k : xs.filter (fun _ => true) = xs := List.filter_eq_self.mpr fun _ _ => rfl
  have e := lc_idxF (cnd := dYes) xs F h (fun _ => true) ρ' hf ht (fun x hx T => rfl) (fun x hx _ => he x hx) hl (by rw [k]; exact cl)
  rwa [k] at e
end
theorem closeds_ints {α : Type} (xs : List α) (g : α → Int) : closeds (xs.map fun x => D.int (g x)) = true := by simp [closeds_all, closed]
theorem v_require_alike_yes (S : Store) (ts : List Int) (b : Int) (d : D) (h : tellL d = true) (hl : loadB ts.length d = true) : O_require_alike [ld ts b, d] S = some (.ok .non S) := by
  refine fn_nx (ρ := [some (ld ts b), some d]) ?_
  have v := v_is_load S ts.length d h
  rw [hl] at v
  have st : startD ["load", "other"] [ld ts b, d] = [some (ld ts b), some d] := rfl
  simp only [D_require_alike]
  rw [st]
  simp [e_len2, v, v_require_yes]
theorem v_require_alike_no (S : Store) (ts : List Int) (b : Int) (d : D) (h : tellL d = true) (hl : loadB ts.length d = false) : O_require_alike [ld ts b, d] S = some (.exc "NotUsable" ["at", "word"] [.int (-1), .str "other"] S) := by
  refine fn_exc (ρ := [some (ld ts b), some d]) ?_ rfl
  have v := v_is_load S ts.length d h
  rw [hl] at v
  have st : startD ["load", "other"] [ld ts b, d] = [some (ld ts b), some d] := rfl
  simp only [D_require_alike]
  rw [st]
  simp [e_len2, v, v_require_no]
/-- two loads of one size, small -/
structure Two (ts us : List Int) (b c : Int) : Prop where
  len : us.length = ts.length
  few : ts.length ≤ 1000
  ts_ : ∀ x ∈ ts, small x
  us_ : ∀ x ∈ us, small x
  b1 : 1 ≤ b
  c1 : 1 ≤ c
  b_ : small b
  c_ : small c
  tl : tellL (ld us c) = true
  lo : loadB ts.length (ld us c) = true
theorem Two.bc {ts us : List Int} {b c : Int} (h : Two ts us b c) : 1 ≤ b * c ∧ (b * c).natAbs < 2 ^ 9000 := by
  refine ⟨?_, Nat.lt_of_lt_of_le (natAbs_mul_lt h.b_ h.c_) (Nat.pow_le_pow_right (by decide) (by decide))⟩
  have := Int.mul_pos (a := b) (b := c) (by have := h.b1; omega) (by have := h.c1; omega)
  omega
theorem Two.lev {ts us : List Int} {b c : Int} (h : Two ts us b c) (S : Store) : O_leveled [ld ts b, ld us c] S = some (.ok (.lst ((List.range ts.length).map (lvl ts us b c))) S) :=
  v_leveled S ts us b c h.len h.few h.ts_ h.us_ h.b_ h.c_
/-- a load made of two, place by place -/
def by2 (g : Int → Int → Int) (ts us : List Int) (b c : Int) : List Int := (List.range ts.length).map fun i => g (gt ts i * c) (gt us i * b)
theorem by2_map (g : Int → Int → Int) (ts us : List Int) (b c : Int) : ((List.range ts.length).map fun i => D.int (g (gt ts i * c) (gt us i * b))) = (by2 g ts us b c).map .int := by
  unfold by2; rw [List.map_map]; rfl
theorem by2_len (g : Int → Int → Int) (ts us : List Int) (b c : Int) : (by2 g ts us b c).length = ts.length := by simp [by2]
/-- such a comprehension over the leveled tops -/
theorem lc_by2 {ts us : List Int} {b c : Int} (h : Two ts us b c) (S : Store) (g : Int → Int → Int) (elt : Den) (he : ∀ (x y : Int) (T : Store), elt [some (ld ts b), some (ld us c), some (.int x), some (.int y)] T = some (.ok (.int (g x y)) T)) :
    dLc [2, 3] (dItems (dFn 2 O_leveled (dCons (dVar 0) (dCons (dVar 1) (dNil))))) (.tup (.cons (.one 2) (.cons (.one 3) .nil))) dYes elt [some (ld ts b), some (ld us c), none, none] S = some (.ok (.lst ((by2 g ts us b c).map .int)) S) := by
  rw [← by2_map]
  have hf : dItems (dFn 2 O_leveled (dCons (dVar 0) (dCons (dVar 1) (dNil)))) [some (ld ts b), some (ld us c), none, none] S = some (.ok ((List.range ts.length).map (lvl ts us b c)) none S) := by
    have a : dCons (dVar 0) (dCons (dVar 1) (dNil)) [some (ld ts b), some (ld us c), none, none] S = some (.ok [ld ts b, ld us c] S) := rfl
    have k : dFn 2 O_leveled (dCons (dVar 0) (dCons (dVar 1) (dNil))) [some (ld ts b), some (ld us c), none, none] S = some (.ok (.lst ((List.range ts.length).map (lvl ts us b c))) S) := by
      rw [e_fn, a, bndl_ok]
      exact (if_pos rfl).trans (h.lev S)
    rw [e_items, k]
    rfl
  have few : (List.range ts.length).length ≤ 16777216 := by
    rw [List.length_range]
    exact Nat.le_trans h.few (by decide)
  exact lc_idx (List.range ts.length) (lvl ts us b c) (fun i => .int (g (gt ts i * c) (gt us i * b))) (fun i => [some (ld ts b), some (ld us c), some (.int (gt ts i * c)), some (.int (gt us i * b))]) hf (fun i _ => rfl) (fun i _ T => he _ _ T)
    few (closeds_ints _ _)
/-- the shape of added, lesser_of, greater_of -/
theorem two_end {ts us : List Int} {b c : Int} (h : Two ts us b c) (S : Store) (g : Int → Int → Int) (elt : Den) (he : ∀ (x y : Int) (T : Store), elt [some (ld ts b), some (ld us c), some (.int x), some (.int y)] T = some (.ok (.int (g x y)) T)) :
    sSeq (sExpr (dFn 2 O_require_alike (dCons (dVar 0) (dCons (dVar 1) (dNil))))) (sSeq (sRet (dFn 2 O_load_from (dCons (dLc [2, 3] (dItems (dFn 2 O_leveled (dCons (dVar 0) (dCons (dVar 1) (dNil))))) (.tup (.cons (.one 2) (.cons (.one 3) .nil))) (dYes) elt) (dCons (dBin oMul (dBin oIx (dVar 0) (dC (.int 1))) (dBin oIx (dVar 1) (dC (.int 1)))) (dNil))))) (sNil))
      [some (ld ts b), some (ld us c), none, none] S = some (.rt (lf (by2 g ts us b c) (b * c)) S) := by
  have l := lc_by2 h S g elt he
  have v := v_load_from S (by2 g ts us b c) (b * c) h.bc.1 h.bc.2 (by rw [by2_len]; exact h.few)
  generalize by2 g ts us b c = zs at *
  have a0 : dCons (dVar 0) (dCons (dVar 1) (dNil)) [some (ld ts b), some (ld us c), none, none] S = some (.ok [ld ts b, ld us c] S) := rfl
  have r1 : sExpr (dFn 2 O_require_alike (dCons (dVar 0) (dCons (dVar 1) (dNil)))) [some (ld ts b), some (ld us c), none, none] S = some (.nx [some (ld ts b), some (ld us c), none, none] S) := by
    rw [e_expr, e_fn, a0, bndl_ok, if_pos (show [ld ts b, ld us c].length = 2 from rfl), v_require_alike_yes S ts b (ld us c) h.tl h.lo]
    rfl
  have m : dBin oMul (dBin oIx (dVar 0) (dC (.int 1))) (dBin oIx (dVar 1) (dC (.int 1))) [some (ld ts b), some (ld us c), none, none] S = some (.ok (.int (b * c)) S) := by
    have x1 : dBin oIx (dVar 0) (dC (.int 1)) [some (ld ts b), some (ld us c), none, none] S = some (.ok (.int b) S) := e_ix1 (.tup (ts.map .int)) (.int b) [] S
    have x2 : dBin oIx (dVar 1) (dC (.int 1)) [some (ld ts b), some (ld us c), none, none] S = some (.ok (.int c) S) := e_ix1 (.tup (us.map .int)) (.int c) [] S
    rw [e_bin, x1, bnd_ok, x2, bnd_ok]
    exact e_mulI h.b_ h.c_ S
  have a1 : dCons (dLc [2, 3] (dItems (dFn 2 O_leveled (dCons (dVar 0) (dCons (dVar 1) (dNil))))) (.tup (.cons (.one 2) (.cons (.one 3) .nil))) (dYes) elt) (dCons (dBin oMul (dBin oIx (dVar 0) (dC (.int 1))) (dBin oIx (dVar 1) (dC (.int 1)))) (dNil)) [some (ld ts b), some (ld us c), none, none] S = some (.ok [.lst (zs.map .int), .int (b * c)] S) := by
    rw [e_consA, l, bnds_ok, e_consA, m, bnds_ok]
    rfl
  rw [e_seq, r1]
  show sSeq _ _ _ _ = _
  rw [e_seq, e_ret, e_fn, a1, bndl_ok, if_pos (show [D.lst (zs.map .int), D.int (b * c)].length = 2 from rfl), v]
  rfl
theorem v_added {ts us : List Int} {b c : Int} (h : Two ts us b c) (S : Store) : O_added [ld ts b, ld us c] S = some (.ok (lf (by2 (fun x y => x + y) ts us b c) (b * c)) S) :=
  fn_rtS (two_end h S (fun x y => x + y) (dBin oPlus (dVar 2) (dVar 3)) fun x y T => rfl) (closed_ld _ _)
theorem v_lesser_of {ts us : List Int} {b c : Int} (h : Two ts us b c) (S : Store) : O_lesser_of [ld ts b, ld us c] S = some (.ok (lf (by2 (fun x y => if y < x then y else x) ts us b c) (b * c)) S) :=
  fn_rtS (two_end h S (fun x y => if y < x then y else x) (dCall oMin2 (dCons (dVar 2) (dCons (dVar 3) (dNil)))) fun x y T => rfl) (closed_ld _ _)
theorem v_greater_of {ts us : List Int} {b c : Int} (h : Two ts us b c) (S : Store) : O_greater_of [ld ts b, ld us c] S = some (.ok (lf (by2 (fun x y => if y > x then y else x) ts us b c) (b * c)) S) :=
  fn_rtS (two_end h S (fun x y => if y > x then y else x) (dCall oMax2 (dCons (dVar 2) (dCons (dVar 3) (dNil)))) fun x y T => rfl) (closed_ld _ _)
end My
set_option Elab.async false
set_option linter.all false
set_option maxRecDepth 100000
set_option maxHeartbeats 4000000
set_option exponentiation.threshold 20000
namespace My
open PySem PySem.Spec PyProof.Rows L2 PD
theorem enum_map {α : Type} (F : α → D) : ∀ (xs : List α) (k : Nat), enumD k (xs.map F) = (xs.zipIdx k).map fun q => .tup [.int (q.2 : Nat), F q.1]
  | [], k => rfl
  | x :: xs, k => by simp [enumD, enum_map F xs (k + 1)]
theorem enum_range (n : Nat) (F : Nat → D) : enumD 0 ((List.range n).map F) = (List.range n).map fun i => .tup [.int (i : Nat), F i] := by
  rw [enum_map, List.zipIdx_eq_zip_range']
  have : (List.range n).zip (List.range' 0 (List.range n).length) = (List.range n).map fun i => (i, i) := by
    rw [List.length_range, ← List.range_eq_range']
    generalize List.range n = l
    induction l with
    | nil => rfl
    | cons a l ih => rw [List.zip_cons_cons, ih, List.map_cons]
  rw [this, List.map_map]
  rfl
/-- the places at which the first load is above the second -/
def above (ts us : List Int) (b c : Int) : List Nat := (List.range ts.length).filter fun i => decide (gt ts i * c > gt us i * b)
theorem v_places_above {ts us : List Int} {b c : Int} (h : Two ts us b c) (S : Store) : O_places_above [ld ts b, ld us c] S = some (.ok (.tup ((above ts us b c).map fun i => .int (i : Nat))) S) := by
  have cl : closeds ((above ts us b c).map fun i => D.int (i : Nat)) = true := closeds_ints _ _
  refine fn_rtS ?_ (by simp only [closed]; exact cl)
  have hf : dEnum (dFn 2 O_leveled (dCons (dVar 0) (dCons (dVar 1) (dNil)))) [some (ld ts b), some (ld us c), none, none, none] S = some (.ok ((List.range ts.length).map fun i => .tup [.int (i : Nat), lvl ts us b c i]) none S) := by
    have a : dCons (dVar 0) (dCons (dVar 1) (dNil)) [some (ld ts b), some (ld us c), none, none, none] S = some (.ok [ld ts b, ld us c] S) := rfl
    have k : dFn 2 O_leveled (dCons (dVar 0) (dCons (dVar 1) (dNil))) [some (ld ts b), some (ld us c), none, none, none] S = some (.ok (.lst ((List.range ts.length).map (lvl ts us b c))) S) := by
      rw [e_fn, a, bndl_ok]
      exact (if_pos rfl).trans (h.lev S)
    rw [← enum_range]
    unfold dEnum
    rw [k]
    rfl
  have few : (List.range ts.length).length ≤ 16777216 := by
    rw [List.length_range]
    exact Nat.le_trans h.few (by decide)
  have l := lc_idxF (own := [2, 3, 4]) (t := .tup (.cons (.one 2) (.cons (.tup (.cons (.one 3) (.cons (.one 4) .nil))) .nil))) (cnd := dBin oGt (dVar 3) (dVar 4)) (elt := dVar 2) (List.range ts.length) (fun i => .tup [.int (i : Nat), lvl ts us b c i]) (fun i => .int (i : Nat)) (fun i => decide (gt ts i * c > gt us i * b))
    (fun i => [some (ld ts b), some (ld us c), some (.int (i : Nat)), some (.int (gt ts i * c)), some (.int (gt us i * b))]) hf (fun i _ => rfl) (fun i _ T => rfl) (fun i _ _ T => rfl) few cl
  have st : startD ["load", "other", "i", "top", "limit"] [ld ts b, ld us c] = [some (ld ts b), some (ld us c), none, none, none] := rfl
  simp only [D_places_above]
  rw [st, e_seq, e_ret, e_call, e_consA, l]
  rfl
theorem req2 {ts us : List Int} {b c : Int} (h : Two ts us b c) (S : Store) (rest : EnvD) : sExpr (dFn 2 O_require_alike (dCons (dVar 0) (dCons (dVar 1) (dNil)))) (some (ld ts b) :: some (ld us c) :: rest) S = some (.nx (some (ld ts b) :: some (ld us c) :: rest) S) := by
  have a0 : dCons (dVar 0) (dCons (dVar 1) (dNil)) (some (ld ts b) :: some (ld us c) :: rest) S = some (.ok [ld ts b, ld us c] S) := rfl
  rw [e_expr, e_fn, a0, bndl_ok, if_pos (show [ld ts b, ld us c].length = 2 from rfl), v_require_alike_yes S ts b (ld us c) h.tl h.lo]
  rfl
theorem pla2 {ts us : List Int} {b c : Int} (h : Two ts us b c) (S : Store) (rest : EnvD) : dFn 2 O_places_above (dCons (dVar 0) (dCons (dVar 1) (dNil))) (some (ld ts b) :: some (ld us c) :: rest) S = some (.ok (.tup ((above ts us b c).map fun i => .int (i : Nat))) S) := by
  have a0 : dCons (dVar 0) (dCons (dVar 1) (dNil)) (some (ld ts b) :: some (ld us c) :: rest) S = some (.ok [ld ts b, ld us c] S) := rfl
  rw [e_fn, a0, bndl_ok, if_pos (show [ld ts b, ld us c].length = 2 from rfl), v_places_above h]
theorem v_is_within {ts us : List Int} {b c : Int} (h : Two ts us b c) (S : Store) : O_is_within [ld ts b, ld us c] S = some (.ok (.bl (above ts us b c).isEmpty) S) := by
  refine fn_rtS ?_ rfl
  have st : startD ["load", "other"] [ld ts b, ld us c] = [some (ld ts b), some (ld us c)] := rfl
  simp only [D_is_within]
  rw [st, e_seq, req2 h]
  show sSeq _ _ _ _ = _
  rw [e_seq, e_ret]
  unfold dNotT
  rw [e_not, e_tru, pla2 h]
  cases above ts us b c <;> rfl
theorem v_first_above {ts us : List Int} {b c : Int} (h : Two ts us b c) (S : Store) : O_first_above [ld ts b, ld us c] S = some (.ok (match above ts us b c with | [] => .non | i :: _ => .int (i : Nat)) S) := by
  refine fn_rtS ?_ (by split <;> rfl)
  have st : startD ["load", "other", "above"] [ld ts b, ld us c] = [some (ld ts b), some (ld us c), none] := rfl
  simp only [D_first_above]
  rw [st, e_seq, req2 h]
  show sSeq _ _ _ _ = _
  rw [e_seq, e_set, pla2 h]
  cases e : above ts us b c with
  | nil => rfl
  | cons i is =>
    show sSeq (sRet (dIf (dTru (dVar 2)) (dBin oIx (dVar 2) (dC (.int 0))) (dC .non))) sNil [some (ld ts b), some (ld us c), some (.tup (.int (i : Nat) :: is.map fun i => .int (i : Nat)))] S = _
    have x : dBin oIx (dVar 2) (dC (.int 0)) [some (ld ts b), some (ld us c), some (.tup (.int (i : Nat) :: is.map fun i => .int (i : Nat)))] S = some (.ok (.int (i : Nat)) S) := e_ix0 _ _ S
    have y : dTru (dVar 2) [some (ld ts b), some (ld us c), some (.tup (.int (i : Nat) :: is.map fun i => .int (i : Nat)))] S = some (.ok (.bl true) S) := rfl
    rw [e_seq, e_ret, e_ifx, y, bndB_ok, if_pos rfl, x]
    rfl
end My
set_option Elab.async false
set_option linter.all false
set_option maxRecDepth 100000
set_option maxHeartbeats 4000000
set_option exponentiation.threshold 20000
namespace My
open PySem PySem.Spec PyProof.Rows L2 PD
/-- a load, small -/
structure One (ts : List Int) (b : Int) : Prop where
  few : ts.length ≤ 1000
  ts_ : ∀ x ∈ ts, small x
  b1 : 1 ≤ b
  b_ : small b
theorem One.lt {ts : List Int} {b : Int} (h : One ts b) : b.natAbs < 2 ^ 9000 := Nat.lt_of_lt_of_le h.b_ (Nat.pow_le_pow_right (by decide) (by decide))
theorem v_weight_of {ts : List Int} {b : Int} (h : One ts b) (S : Store) : O_weight_of [ld ts b] S = some (.ok (red ts.sum b) S) := by
  refine fn_rtS (d := red ts.sum b) ?_ (by unfold red; split <;> rfl)
  have hb := h.b1
  have v := v_reduced S ts.sum b (by omega) h.lt
  have s : oSum [.tup (ts.map .int)] S = some (.ok (.int ts.sum) S) := by simp only [oSum, asSeq, PD.ints_map, Option.bind_some, Option.map_some]
  have st : startD ["load"] [ld ts b] = [some (ld ts b)] := rfl
  simp only [D_weight_of]
  rw [st]
  simp [s, v]
theorem red_closed (a b : Int) : closed (red a b) = true := by unfold red; split <;> rfl
theorem v_is_below (S : Store) (n : Int) (d : D) (h : told d = true) : O_is_below [.int n, d] S = some (.ok (.bl (numb d && decide (ival d < n))) S) := by
  refine fn_rtS ?_ rfl
  simp [D_is_below, startD, v_is_number S d h]
  cases d <;> simp [numb, ival, oLt]
  rename_i i
  by_cases h0 : 0 ≤ i
  · simp [h0]
    exact decide_eq_decide.mpr Iff.rfl
  · simp [h0]
theorem v_entry_of {ts : List Int} {b : Int} (h : One ts b) (S : Store) (i : Nat) (hi : i < ts.length) : O_entry_of [ld ts b, .int (i : Nat)] S = some (.ok (red (gt ts i) b) S) := by
  refine fn_rtS (d := red (gt ts i) b) ?_ (red_closed _ _)
  have hb := h.b1
  have v := v_reduced S (gt ts i) b (by omega) h.lt
  have w := v_is_below S ts.length (.int (i : Nat)) rfl
  have k : (numb (.int (i : Nat)) && decide (ival (.int (i : Nat)) < (ts.length : Int))) = true := by simp [numb, ival, hi]
  rw [k] at w
  have st : startD ["load", "place"] [ld ts b, .int (i : Nat)] = [some (ld ts b), some (.int (i : Nat))] := rfl
  simp only [D_entry_of]
  rw [st]
  simp [e_len2, w, v_require_yes, ixT hi, v]
theorem n_entry_of (ts : List Int) (b : Int) (S : Store) (d : D) (hd : told d = true) (hn : (numb d && decide (ival d < (ts.length : Int))) = false) : O_entry_of [ld ts b, d] S = some (.exc "NotUsable" ["at", "word"] [.int (-1), .str "place"] S) := by
  refine fn_exc (ρ := [some (ld ts b), some d]) ?_ rfl
  have w := v_is_below S ts.length d hd
  rw [hn] at w
  have st : startD ["load", "place"] [ld ts b, d] = [some (ld ts b), some d] := rfl
  simp only [D_entry_of]
  rw [st]
  simp [e_len2, w, v_require_no]
theorem n_unit_load (n : Int) (S : Store) (d : D) (hd : told d = true) (hn : (numb d && decide (ival d < n)) = false) : O_unit_load [.int n, d] S = some (.exc "NotUsable" ["at", "word"] [.int (-1), .str "place"] S) := by
  refine fn_exc (ρ := [some (.int n), some d, none]) ?_ rfl
  have w := v_is_below S n d hd
  rw [hn] at w
  simp [D_unit_load, startD, w, v_require_no]
def unit (n j : Nat) : List Int := (List.range n).map fun i => if i = j then 1 else 0
theorem v_unit_load (S : Store) (n j : Nat) (hj : j < n) (hn : n ≤ 1000) : O_unit_load [.int (n : Nat), .int (j : Nat)] S = some (.ok (ld (unit n j) 1) S) := by
  refine fn_rtS ?_ (closed_ld _ _)
  have w := v_is_below S n (.int (j : Nat)) rfl
  have k : (numb (.int (j : Nat)) && decide (ival (.int (j : Nat)) < ((n : Nat) : Int))) = true := by simp [numb, ival, hj]
  rw [k] at w
  have e := lc_range (own := [2]) (t := .one 2) (elt := dIf (dBin oEq (dVar 2) (dVar 1)) (dC (.int 1)) (dC (.int 0))) (f := dRange1 (dVar 0)) (ρ := [some (.int (n : Nat)), some (.int (j : Nat)), none]) (S := S) n (fun i => .int (if i = j then 1 else 0)) (fun i => [some (.int (n : Nat)), some (.int (j : Nat)), some (.int (i : Nat))])
    (range1_of rfl (by omega)) (fun i _ => rfl) (fun i hi T => by
      by_cases h : i = j
      · simp [h]
      · have : ((i : Int) == (j : Int)) = false := beq_eq_false_iff_ne.mpr (by omega)
        simp [h, this]) (by omega) (closeds_ints _ _)
  have m : ((List.range n).map fun i => D.int (if i = j then 1 else 0)) = (unit n j).map .int := by unfold unit; rw [List.map_map]; rfl
  rw [m] at e
  have st : startD ["size", "place", "i"] [.int (n : Nat), .int (j : Nat)] = [some (.int (n : Nat)), some (.int (j : Nat)), none] := rfl
  have r1 : sExpr (dFn 2 O_require (dCons (dFn 2 O_is_below (dCons (dVar 0) (dCons (dVar 1) (dNil)))) (dCons (dC (.str "place")) (dNil)))) [some (.int (n : Nat)), some (.int (j : Nat)), none] S = some (.nx [some (.int (n : Nat)), some (.int (j : Nat)), none] S) := by
    simp [w, v_require_yes]
  simp only [D_unit_load]
  rw [st, e_seq, r1]
  simp only
  rw [e_seq, e_ret, e_tup, e_consA, e_call, e_consA, e]
  rfl
theorem v_no_load (S : Store) (n : Nat) (h1 : 1 ≤ n) (hn : n ≤ 1000) : O_no_load [.int (n : Nat)] S = some (.ok (ld (List.replicate n 0) 1) S) := by
  refine fn_rtS ?_ (closed_ld _ _)
  have e : oMul (.tup [.int 0]) (.int (n : Nat)) S = some (.ok (.tup ((List.replicate n 0).map .int)) S) := by
    simp only [oMul]
    by_cases h : ((n : Nat) : Int) = 1
    · have : n = 1 := by omega
      subst this
      rfl
    · rw [if_neg h, if_pos ⟨by omega, by omega, by decide, by simp⟩, Int.toNat_natCast, flat_rep, List.map_replicate]
  have st : startD ["size"] [.int (n : Nat)] = [some (.int (n : Nat))] := rfl
  simp only [D_no_load]
  rw [st]
  simp [e]
end My
set_option Elab.async false
set_option linter.all false
set_option maxRecDepth 100000
set_option maxHeartbeats 4000000
set_option exponentiation.threshold 20000
namespace My
open PySem PySem.Spec PyProof.Rows L2 PD
section
variable {S : Store} {ts : List Int} {b : Int} {d : D}
theorem reqN (h : tellL d = true) (hl : loadB ts.length d = false) (rest : EnvD) : sExpr (dFn 2 O_require_alike (dCons (dVar 0) (dCons (dVar 1) (dNil)))) (some (ld ts b) :: some d :: rest) S = some (.exc "NotUsable" ["at", "word"] [.int (-1), .str "other"] (some (ld ts b) :: some d :: rest) S) := by
  have a0 : dCons (dVar 0) (dCons (dVar 1) (dNil)) (some (ld ts b) :: some d :: rest) S = some (.ok [ld ts b, d] S) := rfl
  rw [e_expr, e_fn, a0, bndl_ok, if_pos (show [ld ts b, d].length = 2 from rfl), v_require_alike_no S ts b d h hl]
  rfl
theorem n_added (h : tellL d = true) (hl : loadB ts.length d = false) : O_added [ld ts b, d] S = some (.exc "NotUsable" ["at", "word"] [.int (-1), .str "other"] S) := by
  refine fn_exc (ρ := [some (ld ts b), some d, none, none]) ?_ rfl
  have st : startD ["load", "other", "top", "more"] [ld ts b, d] = [some (ld ts b), some d, none, none] := rfl
  simp only [D_added]
  rw [st, e_seq, reqN h hl]
theorem n_product_of (h : tellL d = true) (hl : loadB ts.length d = false) : O_product_of [ld ts b, d] S = some (.exc "NotUsable" ["at", "word"] [.int (-1), .str "other"] S) := by
  refine fn_exc (ρ := [some (ld ts b), some d, none]) ?_ rfl
  have st : startD ["load", "other", "i"] [ld ts b, d] = [some (ld ts b), some d, none] := rfl
  simp only [D_product_of]
  rw [st, e_seq, reqN h hl]
theorem n_is_within (h : tellL d = true) (hl : loadB ts.length d = false) : O_is_within [ld ts b, d] S = some (.exc "NotUsable" ["at", "word"] [.int (-1), .str "other"] S) := by
  refine fn_exc (ρ := [some (ld ts b), some d]) ?_ rfl
  have st : startD ["load", "other"] [ld ts b, d] = [some (ld ts b), some d] := rfl
  simp only [D_is_within]
  rw [st, e_seq, reqN h hl]
theorem n_lesser_of (h : tellL d = true) (hl : loadB ts.length d = false) : O_lesser_of [ld ts b, d] S = some (.exc "NotUsable" ["at", "word"] [.int (-1), .str "other"] S) := by
  refine fn_exc (ρ := [some (ld ts b), some d, none, none]) ?_ rfl
  have st : startD ["load", "other", "top", "limit"] [ld ts b, d] = [some (ld ts b), some d, none, none] := rfl
  simp only [D_lesser_of]
  rw [st, e_seq, reqN h hl]
theorem n_greater_of (h : tellL d = true) (hl : loadB ts.length d = false) : O_greater_of [ld ts b, d] S = some (.exc "NotUsable" ["at", "word"] [.int (-1), .str "other"] S) := by
  refine fn_exc (ρ := [some (ld ts b), some d, none, none]) ?_ rfl
  have st : startD ["load", "other", "top", "limit"] [ld ts b, d] = [some (ld ts b), some d, none, none] := rfl
  simp only [D_greater_of]
  rw [st, e_seq, reqN h hl]
theorem n_first_above (h : tellL d = true) (hl : loadB ts.length d = false) : O_first_above [ld ts b, d] S = some (.exc "NotUsable" ["at", "word"] [.int (-1), .str "other"] S) := by
  refine fn_exc (ρ := [some (ld ts b), some d, none]) ?_ rfl
  have st : startD ["load", "other", "above"] [ld ts b, d] = [some (ld ts b), some d, none] := rfl
  simp only [D_first_above]
  rw [st, e_seq, reqN h hl]
theorem n_taken_load (h : tellL d = true) (hl : loadB ts.length d = false) : O_taken [ld ts b, d] S = some (.exc "NotUsable" ["at", "word"] [.int (-1), .str "other"] S) := by
  refine fn_exc (ρ := [some (ld ts b), some d, none, none]) ?_ rfl
  have v := v_is_load S ts.length d h
  rw [hl] at v
  have st : startD ["load", "other", "top", "less"] [ld ts b, d] = [some (ld ts b), some d, none, none] := rfl
  have il : dFn 2 O_is_load (dCons (dCall oLen (dCons (dBin oIx (dVar 0) (dC (.int 0))) (dNil))) (dCons (dVar 1) (dNil))) [some (ld ts b), some d, none, none] S = some (.ok (.bl false) S) := by
    simp [e_len2, v]
  simp only [D_taken]
  rw [st, e_seq, e_expr, e_fn, e_consA, e_and, il]
  simp [v_require_no]
theorem n_scaled (ht : tell d = true) (ha : amount d = false) : O_scaled [ld ts b, d] S = some (.exc "NotUsable" ["at", "word"] [.int (-1), .str "factor"] S) := by
  refine fn_exc (ρ := [some (ld ts b), some d, none]) ?_ rfl
  have st : startD ["load", "factor", "top"] [ld ts b, d] = [some (ld ts b), some d, none] := rfl
  have ra : sExpr (dFn 2 O_require (dCons (dFn 1 O_is_amount (dCons (dVar 1) (dNil))) (dCons (dC (.str "factor")) (dNil)))) [some (ld ts b), some d, none] S = some (.exc "NotUsable" ["at", "word"] [.int (-1), .str "factor"] [some (ld ts b), some d, none] S) := by
    simp [v_is_amount S d ht, ha, v_require_no]
  simp only [D_scaled]
  rw [st, e_seq, ra]
end
/-- taken, where there is as much at each place -/
def enough (ts us : List Int) (b c : Int) : Bool := (List.range ts.length).all fun i => decide (gt ts i * c ≥ gt us i * b)
theorem all_enough {ts us : List Int} {b c : Int} (h : Two ts us b c) (S : Store) : dCall oAll (dCons (dLc [2, 3] (dItems (dFn 2 O_leveled (dCons (dVar 0) (dCons (dVar 1) (dNil))))) (.tup (.cons (.one 2) (.cons (.one 3) .nil))) (dYes) (dBin oGe (dVar 2) (dVar 3))) (dNil)) [some (ld ts b), some (ld us c), none, none] S = some (.ok (.bl (enough ts us b c)) S) := by
  have hf : dItems (dFn 2 O_leveled (dCons (dVar 0) (dCons (dVar 1) (dNil)))) [some (ld ts b), some (ld us c), none, none] S = some (.ok ((List.range ts.length).map (lvl ts us b c)) none S) := by
    have a : dCons (dVar 0) (dCons (dVar 1) (dNil)) [some (ld ts b), some (ld us c), none, none] S = some (.ok [ld ts b, ld us c] S) := rfl
    have k : dFn 2 O_leveled (dCons (dVar 0) (dCons (dVar 1) (dNil))) [some (ld ts b), some (ld us c), none, none] S = some (.ok (.lst ((List.range ts.length).map (lvl ts us b c))) S) := by
      rw [e_fn, a, bndl_ok]
      exact (if_pos rfl).trans (h.lev S)
    rw [e_items, k]
    rfl
  have few : (List.range ts.length).length ≤ 16777216 := by
    rw [List.length_range]
    exact Nat.le_trans h.few (by decide)
  have l := lc_idx (own := [2, 3]) (t := .tup (.cons (.one 2) (.cons (.one 3) .nil))) (elt := dBin oGe (dVar 2) (dVar 3)) (List.range ts.length) (lvl ts us b c) (fun i => .bl (decide (gt ts i * c ≥ gt us i * b))) (fun i => [some (ld ts b), some (ld us c), some (.int (gt ts i * c)), some (.int (gt us i * b))]) hf (fun i _ => rfl) (fun i _ T => rfl) few (by simp [closeds_all, closed])
  rw [e_call, e_consA, l, bnds_ok, e_nilA, bndls_ok, bndl_ok]
  exact e_all _ _ S
end My
set_option Elab.async false
set_option linter.all false
set_option maxRecDepth 100000
set_option maxHeartbeats 4000000
set_option exponentiation.threshold 20000
namespace My
open PySem PySem.Spec PyProof.Rows L2 PD
section
variable {ts us : List Int} {b c : Int}
theorem req_taken (h : Two ts us b c) (S : Store) : dAnd (dFn 2 O_is_load (dCons (dCall oLen (dCons (dBin oIx (dVar 0) (dC (.int 0))) (dNil))) (dCons (dVar 1) (dNil)))) (dCall oAll (dCons (dLc [2, 3] (dItems (dFn 2 O_leveled (dCons (dVar 0) (dCons (dVar 1) (dNil))))) (.tup (.cons (.one 2) (.cons (.one 3) .nil))) (dYes) (dBin oGe (dVar 2) (dVar 3))) (dNil))) [some (ld ts b), some (ld us c), none, none] S = some (.ok (.bl (enough ts us b c)) S) := by
  have v := v_is_load S ts.length (ld us c) h.tl
  rw [h.lo] at v
  have il : dFn 2 O_is_load (dCons (dCall oLen (dCons (dBin oIx (dVar 0) (dC (.int 0))) (dNil))) (dCons (dVar 1) (dNil))) [some (ld ts b), some (ld us c), none, none] S = some (.ok (.bl true) S) := by
    simp [e_len2, v]
  rw [e_and, il, bndB_ok, if_pos rfl]
  exact all_enough h S
theorem n_taken_more (h : Two ts us b c) (he : enough ts us b c = false) (S : Store) : O_taken [ld ts b, ld us c] S = some (.exc "NotUsable" ["at", "word"] [.int (-1), .str "other"] S) := by
  refine fn_exc (ρ := [some (ld ts b), some (ld us c), none, none]) ?_ rfl
  have r := req_taken h S
  rw [he] at r
  have st : startD ["load", "other", "top", "less"] [ld ts b, ld us c] = [some (ld ts b), some (ld us c), none, none] := rfl
  simp only [D_taken]
  rw [st, e_seq, e_expr, e_fn, e_consA, r]
  simp [v_require_no]
theorem v_taken (h : Two ts us b c) (he : enough ts us b c = true) (S : Store) : O_taken [ld ts b, ld us c] S = some (.ok (lf (by2 (fun x y => x - y) ts us b c) (b * c)) S) := by
  refine fn_rtS ?_ (closed_ld _ _)
  have r := req_taken h S
  rw [he] at r
  have st : startD ["load", "other", "top", "less"] [ld ts b, ld us c] = [some (ld ts b), some (ld us c), none, none] := rfl
  have q : sExpr (dFn 2 O_require (dCons (dAnd (dFn 2 O_is_load (dCons (dCall oLen (dCons (dBin oIx (dVar 0) (dC (.int 0))) (dNil))) (dCons (dVar 1) (dNil)))) (dCall oAll (dCons (dLc [2, 3] (dItems (dFn 2 O_leveled (dCons (dVar 0) (dCons (dVar 1) (dNil))))) (.tup (.cons (.one 2) (.cons (.one 3) .nil))) (dYes) (dBin oGe (dVar 2) (dVar 3))) (dNil)))) (dCons (dC (.str "other")) (dNil)))) [some (ld ts b), some (ld us c), none, none] S = some (.nx [some (ld ts b), some (ld us c), none, none] S) := by
    rw [e_expr, e_fn, e_consA, r]
    simp [v_require_yes]
  have l := lc_by2 h S (fun x y => x - y) (dBin oSub (dVar 2) (dVar 3)) (fun x y T => rfl)
  have v := v_load_from S (by2 (fun x y => x - y) ts us b c) (b * c) h.bc.1 h.bc.2 (by rw [by2_len]; exact h.few)
  generalize by2 (fun x y => x - y) ts us b c = zs at *
  have m : dBin oMul (dBin oIx (dVar 0) (dC (.int 1))) (dBin oIx (dVar 1) (dC (.int 1))) [some (ld ts b), some (ld us c), none, none] S = some (.ok (.int (b * c)) S) := by
    have x1 : dBin oIx (dVar 0) (dC (.int 1)) [some (ld ts b), some (ld us c), none, none] S = some (.ok (.int b) S) := e_ix1 (.tup (ts.map .int)) (.int b) [] S
    have x2 : dBin oIx (dVar 1) (dC (.int 1)) [some (ld ts b), some (ld us c), none, none] S = some (.ok (.int c) S) := e_ix1 (.tup (us.map .int)) (.int c) [] S
    rw [e_bin, x1, bnd_ok, x2, bnd_ok]
    exact e_mulI h.b_ h.c_ S
  simp only [D_taken]
  rw [st, e_seq, q]
  show sSeq _ _ _ _ = _
  rw [e_seq, e_ret, e_fn, e_consA, l, bnds_ok, e_consA, m, bnds_ok, e_nilA, bndls_ok, bndls_ok, bndl_ok, if_pos (show [D.lst (zs.map .int), D.int (b * c)].length = 2 from rfl), v]
  rfl
/-- the sum of the products, place by place -/
def dot (ts us : List Int) : Int := ((List.range ts.length).map fun i => gt ts i * gt us i).sum
theorem v_product_of (h : Two ts us b c) (S : Store) : O_product_of [ld ts b, ld us c] S = some (.ok (red (dot ts us) (b * c)) S) := by
  refine fn_rtS (d := red (dot ts us) (b * c)) ?_ (red_closed _ _)
  have nz : b * c ≠ 0 := by have := h.bc.1; omega
  have v := v_reduced S (dot ts us) (b * c) nz h.bc.2
  have st : startD ["load", "other", "i"] [ld ts b, ld us c] = [some (ld ts b), some (ld us c), none] := rfl
  have x0 : dBin oIx (dVar 0) (dC (.int 0)) [some (ld ts b), some (ld us c), none] S = some (.ok (.tup (ts.map .int)) S) := e_ix0 (.tup (ts.map .int)) [.int b] S
  have ln : dCall oLen (dCons (dBin oIx (dVar 0) (dC (.int 0))) (dNil)) [some (ld ts b), some (ld us c), none] S = some (.ok (.int (ts.length : Nat)) S) := by
    rw [e_call, e_consA, x0, bnds_ok, e_nilA, bndls_ok, bndl_ok]
    exact e_len2 ts b S
  have few : ts.length ≤ 16777216 := Nat.le_trans h.few (by decide)
  have l := lc_range (own := [2]) (t := .one 2) (elt := dBin oMul (dBin oIx (dBin oIx (dVar 0) (dC (.int 0))) (dVar 2)) (dBin oIx (dBin oIx (dVar 1) (dC (.int 0))) (dVar 2))) (f := dRange1 (dCall oLen (dCons (dBin oIx (dVar 0) (dC (.int 0))) (dNil)))) (ρ := [some (ld ts b), some (ld us c), none]) (S := S) ts.length (fun i => .int (gt ts i * gt us i)) (fun i => [some (ld ts b), some (ld us c), some (.int (i : Nat))])
    (range1_of ln few) (fun i _ => rfl) (fun i hi T => by
      have i2 : i < us.length := by rw [h.len]; exact hi
      have y0 : dBin oIx (dBin oIx (dVar 0) (dC (.int 0))) (dVar 2) [some (ld ts b), some (ld us c), some (.int (i : Nat))] T = some (.ok (.int (gt ts i)) T) := ixT hi T
      have y1 : dBin oIx (dBin oIx (dVar 1) (dC (.int 0))) (dVar 2) [some (ld ts b), some (ld us c), some (.int (i : Nat))] T = some (.ok (.int (gt us i)) T) := ixT i2 T
      rw [e_bin, y0, bnd_ok, y1, bnd_ok]
      exact e_mulI (getD_small h.ts_ i) (getD_small h.us_ i) T) few (closeds_ints _ _)
  have s : oSum [.lst ((List.range ts.length).map fun i => D.int (gt ts i * gt us i))] S = some (.ok (.int (dot ts us)) S) := by
    simp only [oSum, asSeq, Option.bind_some, ints_mapA, Option.map_some]
    rfl
  have m : dBin oMul (dBin oIx (dVar 0) (dC (.int 1))) (dBin oIx (dVar 1) (dC (.int 1))) [some (ld ts b), some (ld us c), none] S = some (.ok (.int (b * c)) S) := by
    have x1 : dBin oIx (dVar 0) (dC (.int 1)) [some (ld ts b), some (ld us c), none] S = some (.ok (.int b) S) := e_ix1 (.tup (ts.map .int)) (.int b) [] S
    have x2 : dBin oIx (dVar 1) (dC (.int 1)) [some (ld ts b), some (ld us c), none] S = some (.ok (.int c) S) := e_ix1 (.tup (us.map .int)) (.int c) [] S
    rw [e_bin, x1, bnd_ok, x2, bnd_ok]
    exact e_mulI h.b_ h.c_ S
  simp only [D_product_of]
  rw [st, e_seq, req2 h]
  show sSeq _ _ _ _ = _
  rw [e_seq, e_ret, e_fn, e_consA, e_call, e_consA, l, bnds_ok, e_nilA, bndls_ok, bndl_ok, s, bnds_ok, e_consA, m, bnds_ok, e_nilA, bndls_ok, bndls_ok, bndl_ok, if_pos (show [D.int (dot ts us), D.int (b * c)].length = 2 from rfl), v]
  rfl
end
end My
set_option Elab.async false
set_option linter.all false
set_option maxRecDepth 100000
set_option maxHeartbeats 4000000
set_option exponentiation.threshold 20000
namespace My
open PySem PySem.Spec PyProof.Rows L2 PD
theorem mulS {ts : List Int} {b x y : Int} (h : One ts b) (hx : small x) (hy : small y) (hq : amount (pr x y) = true) (S : Store) : O_scaled [ld ts b, pr x y] S = some (.ok (lf (ts.map (· * x)) (b * y)) S) := by
  refine fn_rtS ?_ (closed_ld _ _)
  simp only [amount, Bool.and_eq_true, decide_eq_true_eq] at hq
  have y1 := (quot_pr.mp hq.1).1
  have b1 := h.b1
  have bp : 1 ≤ b * y := by
    have := Int.mul_pos (a := b) (b := y) (by omega) (by omega)
    omega
  have lt : (b * y).natAbs < 2 ^ 9000 := Nat.lt_of_lt_of_le (natAbs_mul_lt h.b_ hy) (Nat.pow_le_pow_right (by decide) (by decide))
  have v := v_load_from S (ts.map (· * x)) (b * y) bp lt (by rw [List.length_map]; exact h.few)
  have st : startD ["load", "factor", "top"] [ld ts b, pr x y] = [some (ld ts b), some (pr x y), none] := rfl
  have am : amount (pr x y) = true := by simp [amount, hq.1, hq.2]
  have r1 : sExpr (dFn 2 O_require (dCons (dFn 1 O_is_amount (dCons (dVar 1) (dNil))) (dCons (dC (.str "factor")) (dNil)))) [some (ld ts b), some (pr x y), none] S = some (.nx [some (ld ts b), some (pr x y), none] S) := by
    simp [v_is_amount S (pr x y) rfl, am, v_require_yes]
  have few : (ts.map D.int).length ≤ 16777216 := by
    rw [List.length_map]
    exact Nat.le_trans h.few (by decide)
  have l := lc_map (own := [2]) (t := .one 2) (elt := dBin oMul (dVar 2) (dBin oIx (dVar 1) (dC (.int 0)))) (f := dItems (dBin oIx (dVar 0) (dC (.int 0)))) (ρ := [some (ld ts b), some (pr x y), none]) (S := S) (items := ts.map .int) (fun d => .int (ival d * x)) (fun d => [some (ld ts b), some (pr x y), some d])
    (by
      have x0 : dBin oIx (dVar 0) (dC (.int 0)) [some (ld ts b), some (pr x y), none] S = some (.ok (.tup (ts.map .int)) S) := e_ix0 (.tup (ts.map .int)) [.int b] S
      rw [e_items, x0]
      rfl) (fun d _ => rfl) (fun d hd T => by
      obtain ⟨i, hi, rfl⟩ := List.mem_map.mp hd
      have e1 : dBin oIx (dVar 1) (dC (.int 0)) [some (ld ts b), some (pr x y), some (.int i)] T = some (.ok (.int x) T) := e_ix0 (.int x) [.int y] T
      have e0 : dVar 2 [some (ld ts b), some (pr x y), some (.int i)] T = some (.ok (.int i) T) := rfl
      rw [e_bin, e0, bnd_ok, e1, bnd_ok]
      exact e_mulI (h.ts_ i hi) hx T) few (by simp [closeds_all, closed])
  have mm : (ts.map D.int).map (fun d => D.int (ival d * x)) = (ts.map (· * x)).map .int := by
    rw [List.map_map, List.map_map]; rfl
  rw [mm] at l
  generalize ts.map (· * x) = zs at *
  have m : dBin oMul (dBin oIx (dVar 0) (dC (.int 1))) (dBin oIx (dVar 1) (dC (.int 1))) [some (ld ts b), some (pr x y), none] S = some (.ok (.int (b * y)) S) := by
    have x1 : dBin oIx (dVar 0) (dC (.int 1)) [some (ld ts b), some (pr x y), none] S = some (.ok (.int b) S) := e_ix1 (.tup (ts.map .int)) (.int b) [] S
    have x2 : dBin oIx (dVar 1) (dC (.int 1)) [some (ld ts b), some (pr x y), none] S = some (.ok (.int y) S) := e_ix1 (.int x) (.int y) [] S
    rw [e_bin, x1, bnd_ok, x2, bnd_ok]
    exact e_mulI h.b_ hy S
  simp only [D_scaled]
  rw [st, e_seq, r1]
  show sSeq _ _ _ _ = _
  rw [e_seq, e_ret, e_fn, e_consA, l, bnds_ok, e_consA, m, bnds_ok, e_nilA, bndls_ok, bndls_ok, bndl_ok, if_pos (show [D.lst (zs.map .int), D.int (b * y)].length = 2 from rfl), v]
  rfl
/-- the least common multiple of a list, while it stays below a bound -/
def lcmL (g : Int) (xs : List Int) : Int := xs.foldl (fun g x => ((Nat.lcm g.natAbs x.natAbs : Nat) : Int)) g
theorem lcmL_dvd {B : Int} : ∀ (xs : List Int) (g : Int), g ∣ B → (∀ x ∈ xs, x ∣ B) → lcmL g xs ∣ B
  | [], g, h, _ => h
  | x :: xs, g, h, hx => by
    refine lcmL_dvd xs _ ?_ fun y hy => hx y (List.mem_cons_of_mem _ hy)
    have h1 := Int.natAbs_dvd_natAbs.mpr h
    have h2 := Int.natAbs_dvd_natAbs.mpr (hx x List.mem_cons_self)
    exact Int.natAbs_dvd_natAbs.mp (by rw [Int.natAbs_natCast]; exact Nat.lcm_dvd h1 h2)
theorem v_common_multiple (S : Store) (xs : List Int) (B : Int) (hB : 1 ≤ B) (hB2 : B < 2 ^ 64) (hx : ∀ x ∈ xs, x ∣ B) : O_common_multiple [.lst (xs.map .int)] S = some (.ok (.int (lcmL 1 xs)) S) := by
  refine fn_rtS ?_ rfl
  have sm : ∀ x : Int, x ∣ B → x.natAbs < 2 ^ 64 := fun x h => by
    have := Nat.le_of_dvd (by omega) (Int.natAbs_dvd_natAbs.mpr h)
    omega
  have key : ∀ (ys : List Int), (∀ y ∈ ys, y ∣ B) → ∀ (all : List D) (g : Int) (c : Option D), g ∣ B → ∃ c', forLoop none all (tName 2) (sSeq (sSet 1 (dCall oLcm (dCons (dVar 1) (dCons (dVar 2) (dNil))))) (sNil)) (ys.map .int) [some (.lst (xs.map .int)), some (.int g), c] S = some (.nx [some (.lst (xs.map .int)), some (.int (lcmL g ys)), c'] S) := by
    intro ys
    induction ys with
    | nil => exact fun _ all g c _ => ⟨c, rfl⟩
    | cons y ys ih =>
      intro hy all g c hg
      have h1 := sm g hg
      have h2 := sm y (hy y List.mem_cons_self)
      have hd : ((Nat.lcm g.natAbs y.natAbs : Nat) : Int) ∣ B := Int.natAbs_dvd_natAbs.mp (by rw [Int.natAbs_natCast]; exact Nat.lcm_dvd (Int.natAbs_dvd_natAbs.mpr hg) (Int.natAbs_dvd_natAbs.mpr (hy y List.mem_cons_self)))
      obtain ⟨c', e⟩ := ih (fun z hz => hy z (List.mem_cons_of_mem _ hz)) all ((Nat.lcm g.natAbs y.natAbs : Nat) : Int) (some (.int y)) hd
      refine ⟨c', ?_⟩
      rw [List.map_cons, loop_cons]
      have o : oLcm [.int g, .int y] S = some (.ok (.int ((Nat.lcm g.natAbs y.natAbs : Nat) : Int)) S) := by
        simp only [oLcm, if_pos (And.intro h1 h2)]
      have s : sSeq (sSet 1 (dCall oLcm (dCons (dVar 1) (dCons (dVar 2) (dNil))))) (sNil) [some (.lst (xs.map .int)), some (.int g), some (.int y)] S = some (.nx [some (.lst (xs.map .int)), some (.int ((Nat.lcm g.natAbs y.natAbs : Nat) : Int)), some (.int y)] S) := by
        have a : dCons (dVar 1) (dCons (dVar 2) (dNil)) [some (.lst (xs.map .int)), some (.int g), some (.int y)] S = some (.ok [.int g, .int y] S) := rfl
        rw [e_seq, e_set, e_call, a, bndl_ok, o]
        rfl
      simp only [e_tName, List.set_cons_succ, List.set_cons_zero, s]
      exact e
  obtain ⟨c', e⟩ := key xs hx (xs.map .int) 1 none (Int.one_dvd B)
  have hf : sFor (dItems (dVar 0)) (tName 2) (sSeq (sSet 1 (dCall oLcm (dCons (dVar 1) (dCons (dVar 2) (dNil))))) (sNil)) [some (.lst (xs.map .int)), some (.int 1), none] S = _ := (for_of (w := none) (items := xs.map .int) (S1 := S) rfl).trans e
  have st : startD ["bottoms", "found", "bottom"] [.lst (xs.map .int)] = [some (.lst (xs.map .int)), none, none] := rfl
  simp only [D_common_multiple]
  rw [st, e_seq, e_set]
  show sSeq _ _ _ _ = _
  rw [e_seq]
  have hf' : sFor (dItems (dVar 0)) (tName 2) (sSeq (sSet 1 (dCall oLcm (dCons (dVar 1) (dCons (dVar 2) (dNil))))) (sNil)) ([some (.lst (xs.map .int)), none, none].set 1 (some (.int 1))) S = _ := hf
  rw [hf']
  rfl
end My
set_option Elab.async false
set_option linter.all false
set_option maxRecDepth 100000
set_option maxHeartbeats 4000000
set_option exponentiation.threshold 20000
namespace My
open PySem PySem.Spec PyProof.Rows L2 PD
theorem amounts_of (n : Nat) (p q : Nat → Int) (hn : 1 ≤ n) (ha : ∀ i < n, amount (pr (p i) (q i)) = true) : amounts (.tup ((List.range n).map fun i => pr (p i) (q i))) = true := by
  simp only [amounts, List.length_map, List.length_range, Bool.and_eq_true, decide_eq_true_eq, List.all_eq_true]
  refine ⟨by omega, fun x hx => ?_⟩
  obtain ⟨i, hi, rfl⟩ := List.mem_map.mp hx
  exact ha i (List.mem_range.mp hi)
theorem v_load_of (S : Store) (n : Nat) (p q : Nat → Int) (B : Int) (hn : 1 ≤ n) (hn2 : n ≤ 1000) (ha : ∀ i < n, amount (pr (p i) (q i)) = true) (hp : ∀ i < n, small (p i)) (hB : 1 ≤ B) (hB2 : B < 2 ^ 64) (hq : ∀ i < n, q i ∣ B) :
    O_load_of [.tup ((List.range n).map fun i => pr (p i) (q i))] S = some (.ok (lf ((List.range n).map fun i => p i * (lcmL 1 ((List.range n).map q) / q i)) (lcmL 1 ((List.range n).map q))) S) := by
  refine fn_rtS ?_ (closed_ld _ _)
  have am := amounts_of n p q hn ha
  have te : tells (.tup ((List.range n).map fun i => pr (p i) (q i))) = true := by
    simp only [tells, List.length_map, List.length_range, Bool.and_eq_true, decide_eq_true_eq, List.all_eq_true]
    refine ⟨fun x hx => ?_, hn2⟩
    obtain ⟨i, _, rfl⟩ := List.mem_map.mp hx
    rfl
  have few : (List.range n).length ≤ 16777216 := by
    rw [List.length_range]
    exact Nat.le_trans hn2 (by decide)
  have va := v_are_amounts S _ te
  rw [am] at va
  have cm := v_common_multiple S ((List.range n).map q) B hB hB2 fun x hx => by
    obtain ⟨i, hi, rfl⟩ := List.mem_map.mp hx
    exact hq i (List.mem_range.mp hi)
  have M1 : lcmL 1 ((List.range n).map q) ∣ B := lcmL_dvd _ 1 (Int.one_dvd B) fun x hx => by
    obtain ⟨i, hi, rfl⟩ := List.mem_map.mp hx
    exact hq i (List.mem_range.mp hi)
  have M0 : 0 ≤ lcmL 1 ((List.range n).map q) := by
    have : ∀ (xs : List Int) (g : Int), 0 ≤ g → 0 ≤ lcmL g xs := by
      intro xs
      induction xs with
      | nil => exact fun g h => h
      | cons x xs ih => exact fun g _ => ih _ (by show 0 ≤ ((Nat.lcm g.natAbs x.natAbs : Nat) : Int); omega)
    exact this _ 1 (by omega)
  generalize hM : lcmL 1 ((List.range n).map q) = M at *
  have Mp : 1 ≤ M := by
    by_cases h0 : M = 0
    · rw [h0] at M1
      have := Int.zero_dvd.mp M1
      omega
    · omega
  have Mle : M ≤ B := Int.le_of_dvd (by omega) M1
  have sM : ∀ x : Int, 0 ≤ x → x ≤ M → small x := fun x h0 h1 => by
    have : x.natAbs < 2 ^ 64 := by omega
    exact Nat.lt_of_lt_of_le this (Nat.pow_le_pow_right (by decide) (by decide))
  have lt9 : M.natAbs < 2 ^ 9000 := by
    have : M.natAbs < 2 ^ 64 := by omega
    exact Nat.lt_of_lt_of_le this (Nat.pow_le_pow_right (by decide) (by decide))
  have v := v_load_from S ((List.range n).map fun i => p i * (M / q i)) M Mp lt9 (by rw [List.length_map, List.length_range]; exact hn2)
  generalize hd : (D.tup ((List.range n).map fun i => pr (p i) (q i))) = d at *
  have st : startD ["quotients", "bottom", "_", "under", "top"] [d] = [some d, none, none, none, none] := rfl
  have r1 : sExpr (dFn 2 O_require (dCons (dFn 1 O_are_amounts (dCons (dVar 0) (dNil))) (dCons (dC (.str "quotients")) (dNil)))) [some d, none, none, none, none] S = some (.nx [some d, none, none, none, none] S) := by
    simp [va, v_require_yes]
  have i1 : dItems (dVar 0) [some d, none, none, none, none] S = some (.ok ((List.range n).map fun i => pr (p i) (q i)) none S) := by rw [← hd]; rfl
  have i2 : dItems (dVar 0) [some d, some (.int M), none, none, none] S = some (.ok ((List.range n).map fun i => pr (p i) (q i)) none S) := by rw [← hd]; rfl
  have l1 := lc_idx (own := [2, 3]) (t := .tup (.cons (.one 2) (.cons (.one 3) .nil))) (elt := dVar 3) (List.range n) (fun i => pr (p i) (q i)) (fun i => .int (q i)) (fun i => [some d, none, some (.int (p i)), some (.int (q i)), none]) i1 (fun i _ => rfl) (fun i _ T => rfl) few (closeds_ints _ _)
  have m1 : ((List.range n).map fun i => D.int (q i)) = ((List.range n).map q).map .int := by rw [List.map_map]; rfl
  rw [m1] at l1
  have l2 := lc_idx (own := [4, 3]) (t := .tup (.cons (.one 4) (.cons (.one 3) .nil))) (elt := dBin oMul (dVar 4) (dBin oDiv (dVar 1) (dVar 3))) (List.range n) (fun i => pr (p i) (q i)) (fun i => .int (p i * (M / q i))) (fun i => [some d, some (.int M), none, some (.int (q i)), some (.int (p i))]) i2 (fun i _ => rfl) (fun i hi T => by
    have hi' := List.mem_range.mp hi
    have a := ha i hi'
    simp only [amount, Bool.and_eq_true, decide_eq_true_eq] at a
    have q1 := (quot_pr.mp a.1).1
    have qle : q i ≤ B := Int.le_of_dvd (by omega) (hq i hi')
    have lg : (q i).natAbs.log2 < 9000 := (Nat.log2_lt (by omega)).mpr (Nat.lt_of_lt_of_le (show (q i).natAbs < 2 ^ 64 by omega) (Nat.pow_le_pow_right (by decide) (by decide)))
    have o : oDiv (.int M) (.int (q i)) T = some (.ok (.int (M / q i)) T) := by
      simp only [oDiv, oInt2, if_pos (And.intro (show 0 < q i by omega) lg), Option.map_some]
    have dv : dBin oDiv (dVar 1) (dVar 3) [some d, some (.int M), none, some (.int (q i)), some (.int (p i))] T = some (.ok (.int (M / q i)) T) := o
    have e4 : dVar 4 [some d, some (.int M), none, some (.int (q i)), some (.int (p i))] T = some (.ok (.int (p i)) T) := rfl
    rw [e_bin, e4, bnd_ok, dv, bnd_ok]
    exact e_mulI (hp i hi') (sM _ (Int.ediv_nonneg M0 (by omega)) (Int.ediv_le_self _ M0)) T) few (closeds_ints _ _)
  have m2 : ((List.range n).map fun i => D.int (p i * (M / q i))) = ((List.range n).map fun i => p i * (M / q i)).map .int := by rw [List.map_map]; rfl
  rw [m2] at l2
  generalize ((List.range n).map fun i => p i * (M / q i)) = zs at *
  have s2 : sSet 1 (dFn 1 O_common_multiple (dCons (dLc [2, 3] (dItems (dVar 0)) (.tup (.cons (.one 2) (.cons (.one 3) .nil))) (dYes) (dVar 3)) (dNil))) [some d, none, none, none, none] S = some (.nx [some d, some (.int M), none, none, none] S) := by
    rw [e_set, e_fn, e_consA, l1, bnds_ok, e_nilA, bndls_ok, bndl_ok, if_pos (show [D.lst (((List.range n).map q).map .int)].length = 1 from rfl), cm]
    rfl
  have v1 : dCons (dVar 1) (dNil) [some d, some (.int M), none, none, none] S = some (.ok [.int M] S) := rfl
  simp only [D_load_of]
  rw [st, e_seq, r1]
  show sSeq _ _ _ _ = _
  rw [e_seq, s2]
  show sSeq _ _ _ _ = _
  rw [e_seq, e_ret, e_fn, e_consA, l2, bnds_ok, v1, bndls_ok, bndl_ok, if_pos (show [D.lst (zs.map .int), D.int M].length = 2 from rfl), v]
  rfl
end My
set_option Elab.async false
set_option linter.all false
set_option maxRecDepth 100000
set_option maxHeartbeats 4000000
set_option exponentiation.threshold 20000
namespace My
open PySem PySem.Spec PyProof.Rows L2 PD
theorem v_numbers (S : Store) (zs : List Int) (n : Nat) (hl : zs.length = n) (hn : n ≤ 1000) (h0 : ∀ z ∈ zs, 0 ≤ z) : O__law_numbers [.tup (zs.map .int), .int (n : Nat)] S = some (.ok (.bl true) S) := by
  refine fn_rtS ?_ rfl
  have few : (zs.map D.int).length ≤ 16777216 := by
    rw [List.length_map, hl]
    exact Nat.le_trans hn (by decide)
  have l := lc_map (own := [2]) (t := .one 2) (elt := dAnd (dFn 1 O__law_whole (dCons (dVar 2) (dNil))) (dBin oGe (dVar 2) (dC (.int 0)))) (f := dItems (dVar 0)) (ρ := [some (.tup (zs.map .int)), some (.int (n : Nat)), none]) (S := S) (items := zs.map .int) (fun x => .bl (numb x)) (fun x => [some (.tup (zs.map .int)), some (.int (n : Nat)), some x]) rfl (fun _ _ => rfl)
    (fun x hx T => by
      obtain ⟨i, _, rfl⟩ := List.mem_map.mp hx
      exact numb_item (.int i) rfl T _ rfl) few (by simp [closeds_all, closed])
  have al : (zs.map D.int).all numb = true := List.all_eq_true.mpr fun x hx => by
    obtain ⟨i, hi, rfl⟩ := List.mem_map.mp hx
    exact decide_eq_true (h0 i hi)
  have st : startD ["_law_r", "_law_n", "_law_x"] [.tup (zs.map .int), .int (n : Nat)] = [some (.tup (zs.map .int)), some (.int (n : Nat)), none] := rfl
  have a : dCall oAll (dCons (dLc [2] (dItems (dVar 0)) (.one 2) (dYes) (dAnd (dFn 1 O__law_whole (dCons (dVar 2) (dNil))) (dBin oGe (dVar 2) (dC (.int 0))))) (dNil)) [some (.tup (zs.map .int)), some (.int (n : Nat)), none] S = some (.ok (.bl true) S) := by
    rw [e_call, e_consA, l, bnds_ok, e_nilA, bndls_ok, bndl_ok, e_all, al]
  have c : dOr (dNot (dTru (dIsi "tuple" (dVar 0)))) (dBin oNe (dCall oLen (dCons (dVar 0) (dNil))) (dVar 1)) [some (.tup (zs.map .int)), some (.int (n : Nat)), none] S = some (.ok (.bl false) S) := by
    simp [tyName, isTy, truth, e_len2, hl]
  simp only [D__law_numbers]
  rw [st, e_seq, e_if, c]
  show sSeq _ _ _ _ = _
  rw [e_seq, e_ret, a]
  rfl
theorem ixLi {xs : List Int} {i : Nat} (hi : i < xs.length) (S : Store) : oIx (.lst (xs.map .int)) (.int (i : Nat)) S = some (.ok (.int (gt xs i)) S) := by
  have h2 : ((i : Nat) : Int) < ((xs.map D.int).length : Int) := by simp; omega
  have h3 : (0 : Int) ≤ ((i : Nat) : Int) := by omega
  simp only [oIx, asSeq, atI, ixN, h2, h3, if_true, Option.bind_some, Int.toNat_natCast]
  rw [List.getElem?_map, List.getElem?_eq_getElem hi]
  simp [gt, List.getD, List.getElem?_eq_getElem hi]
theorem v_entries (S : Store) (zs ts bs : List Int) (m : Int) (hz : zs.length = ts.length) (hb : bs.length = ts.length) (hn : ts.length ≤ 1000) (h0 : ∀ z ∈ zs, 0 ≤ z) (h1 : 1 ≤ m) (h2 : m < 2 ^ 1000) (hg : zs.foldl (fun g x => (Int.gcd x g : Int)) m = 1)
    (sz : ∀ z ∈ zs, small z) (st_ : ∀ z ∈ ts, small z) (sb : ∀ z ∈ bs, small z) (hm : small m) (he : ∀ i < ts.length, gt zs i * gt bs i = gt ts i * m) :
    O__law_entries [ld zs m, .lst (ts.map .int), .lst (bs.map .int)] S = some (.ok (.bl true) S) := by
  refine fn_rtS ?_ rfl
  have nm := v_numbers S zs ts.length hz hn h0
  have wh : O__law_whole [.int m] S = some (.ok (.bl true) S) := v_whole S (.int m) rfl
  have lo := v_lowest S zs m (by omega) h2 (by rw [hz]; exact Nat.le_trans hn (by decide))
  rw [hg] at lo
  have st : startD ["_law_z", "_law_tops", "_law_bots", "_law_i"] [ld zs m, .lst (ts.map .int), .lst (bs.map .int)] = [some (ld zs m), some (.lst (ts.map .int)), some (.lst (bs.map .int)), none] := rfl
  have ln : dCall oLen (dCons (dVar 1) (dNil)) [some (ld zs m), some (.lst (ts.map .int)), some (.lst (bs.map .int)), none] S = some (.ok (.int (ts.length : Nat)) S) := by
    have : oLen [.lst (ts.map .int)] S = some (.ok (.int (ts.length : Nat)) S) := by rw [e_lenL, List.length_map]
    exact this
  have few : ts.length ≤ 16777216 := Nat.le_trans hn (by decide)
  have l := lc_range (own := [3]) (t := .one 3) (elt := dBin oEq (dBin oMul (dBin oIx (dBin oIx (dVar 0) (dC (.int 0))) (dVar 3)) (dBin oIx (dVar 2) (dVar 3))) (dBin oMul (dBin oIx (dVar 1) (dVar 3)) (dBin oIx (dVar 0) (dC (.int 1))))) (f := dRange1 (dCall oLen (dCons (dVar 1) (dNil)))) (ρ := [some (ld zs m), some (.lst (ts.map .int)), some (.lst (bs.map .int)), none]) (S := S) ts.length (fun _ => .bl true)
    (fun i => [some (ld zs m), some (.lst (ts.map .int)), some (.lst (bs.map .int)), some (.int (i : Nat))]) (range1_of ln few) (fun i _ => rfl) (fun i hi T => by
      have y0 : dBin oIx (dBin oIx (dVar 0) (dC (.int 0))) (dVar 3) [some (ld zs m), some (.lst (ts.map .int)), some (.lst (bs.map .int)), some (.int (i : Nat))] T = some (.ok (.int (gt zs i)) T) := ixT (by rw [hz]; exact hi) T
      have y1 : dBin oIx (dVar 2) (dVar 3) [some (ld zs m), some (.lst (ts.map .int)), some (.lst (bs.map .int)), some (.int (i : Nat))] T = some (.ok (.int (gt bs i)) T) := ixLi (by rw [hb]; exact hi) T
      have y2 : dBin oIx (dVar 1) (dVar 3) [some (ld zs m), some (.lst (ts.map .int)), some (.lst (bs.map .int)), some (.int (i : Nat))] T = some (.ok (.int (gt ts i)) T) := ixLi hi T
      have y3 : dBin oIx (dVar 0) (dC (.int 1)) [some (ld zs m), some (.lst (ts.map .int)), some (.lst (bs.map .int)), some (.int (i : Nat))] T = some (.ok (.int m) T) := e_ix1 (.tup (zs.map .int)) (.int m) [] T
      rw [e_bin, e_bin, y0, bnd_ok, y1, bnd_ok, e_mulI (getD_small sz i) (getD_small sb i), bnd_ok, e_bin, y2, bnd_ok, y3, bnd_ok, e_mulI (getD_small st_ i) hm, bnd_ok, he i hi]
      exact oEq_of (k := true) (by rw [eqD_int, beq_self_eq_true]) ) few (by simp [closeds_all, closed])
  have al : oAll [.lst ((List.range ts.length).map fun _ => D.bl true)] S = some (.ok (.bl true) S) := by
    have := e_all (fun _ : Nat => true) (List.range ts.length) S
    rw [this]
    simp
  simp only [D__law_entries]
  rw [st]
  have z0 : dBin oIx (dVar 0) (dC (.int 0)) [some (ld zs m), some (.lst (ts.map .int)), some (.lst (bs.map .int)), none] S = some (.ok (.tup (zs.map .int)) S) := e_ix0 (.tup (zs.map .int)) [.int m] S
  have z1 : dBin oIx (dVar 0) (dC (.int 1)) [some (ld zs m), some (.lst (ts.map .int)), some (.lst (bs.map .int)), none] S = some (.ok (.int m) S) := e_ix1 (.tup (zs.map .int)) (.int m) [] S
  have c1 : dOr (dNot (dTru (dIsi "tuple" (dVar 0)))) (dOr (dBin oNe (dCall oLen (dCons (dVar 0) (dNil))) (dC (.int 2))) (dNot (dTru (dFn 2 O__law_numbers (dCons (dBin oIx (dVar 0) (dC (.int 0))) (dCons (dCall oLen (dCons (dVar 1) (dNil))) (dNil))))))) [some (ld zs m), some (.lst (ts.map .int)), some (.lst (bs.map .int)), none] S = some (.ok (.bl false) S) := by
    have f : dFn 2 O__law_numbers (dCons (dBin oIx (dVar 0) (dC (.int 0))) (dCons (dCall oLen (dCons (dVar 1) (dNil))) (dNil))) [some (ld zs m), some (.lst (ts.map .int)), some (.lst (bs.map .int)), none] S = some (.ok (.bl true) S) := by
      rw [e_fn, e_consA, z0, bnds_ok, e_consA, ln, bnds_ok, e_nilA, bndls_ok, bndls_ok, bndl_ok, if_pos (show [D.tup (zs.map .int), D.int (ts.length : Nat)].length = 2 from rfl), nm]
    have g1 : dNot (dTru (dIsi "tuple" (dVar 0))) [some (ld zs m), some (.lst (ts.map .int)), some (.lst (bs.map .int)), none] S = some (.ok (.bl false) S) := by simp [tyName, isTy, truth]
    have g2 : dBin oNe (dCall oLen (dCons (dVar 0) (dNil))) (dC (.int 2)) [some (ld zs m), some (.lst (ts.map .int)), some (.lst (bs.map .int)), none] S = some (.ok (.bl false) S) := by simp
    rw [e_or, g1, bndB_ok, if_neg Bool.false_ne_true, e_or, g2, bndB_ok, if_neg Bool.false_ne_true, e_not, e_tru, f]
    rfl
  have c2 : dOr (dNot (dTru (dFn 1 O__law_whole (dCons (dBin oIx (dVar 0) (dC (.int 1))) (dNil))))) (dOr (dBin oLt (dBin oIx (dVar 0) (dC (.int 1))) (dC (.int 1))) (dNot (dTru (dFn 2 O__law_lowest (dCons (dBin oIx (dVar 0) (dC (.int 0))) (dCons (dBin oIx (dVar 0) (dC (.int 1))) (dNil))))))) [some (ld zs m), some (.lst (ts.map .int)), some (.lst (bs.map .int)), none] S = some (.ok (.bl false) S) := by
    have f1 : dFn 1 O__law_whole (dCons (dBin oIx (dVar 0) (dC (.int 1))) (dNil)) [some (ld zs m), some (.lst (ts.map .int)), some (.lst (bs.map .int)), none] S = some (.ok (.bl true) S) := by
      rw [e_fn, e_consA, z1, bnds_ok, e_nilA, bndls_ok, bndl_ok, if_pos (show [D.int m].length = 1 from rfl), wh]
    have f2 : dFn 2 O__law_lowest (dCons (dBin oIx (dVar 0) (dC (.int 0))) (dCons (dBin oIx (dVar 0) (dC (.int 1))) (dNil))) [some (ld zs m), some (.lst (ts.map .int)), some (.lst (bs.map .int)), none] S = some (.ok (.bl true) S) := by
      rw [e_fn, e_consA, z0, bnds_ok, e_consA, z1, bnds_ok, e_nilA, bndls_ok, bndls_ok, bndl_ok, if_pos (show [D.tup (zs.map .int), D.int m].length = 2 from rfl), lo]
      rfl
    have f3 : dBin oLt (dBin oIx (dVar 0) (dC (.int 1))) (dC (.int 1)) [some (ld zs m), some (.lst (ts.map .int)), some (.lst (bs.map .int)), none] S = some (.ok (.bl false) S) := by
      rw [e_bin, z1, bnd_ok, e_C, bnd_ok]
      simp only [oLt, oInt2, Option.map_some, decide_eq_false (show ¬ m < 1 by omega)]
    have n1 : dNot (dTru (dFn 1 O__law_whole (dCons (dBin oIx (dVar 0) (dC (.int 1))) (dNil)))) [some (ld zs m), some (.lst (ts.map .int)), some (.lst (bs.map .int)), none] S = some (.ok (.bl false) S) := by
      rw [e_not, e_tru, f1]
      rfl
    rw [e_or, n1, bndB_ok, if_neg Bool.false_ne_true, e_or, f3, bndB_ok, if_neg Bool.false_ne_true, e_not, e_tru, f2]
    rfl
  rw [e_seq, e_if, c1]
  show sSeq _ _ _ _ = _
  rw [e_seq, e_if, c2]
  show sSeq _ _ _ _ = _
  rw [e_seq, e_ret, e_call, e_consA, l, bnds_ok, e_nilA, bndls_ok, bndl_ok, al]
  rfl
end My
set_option Elab.async false
set_option linter.all false
set_option maxRecDepth 100000
set_option maxHeartbeats 4000000
set_option exponentiation.threshold 20000
namespace My
open PySem PySem.Spec PyProof.Rows L2 PD
/-- the law's own way of the common divisor -/
def cg (m : Int) (zs : List Int) : Int := zs.foldl (fun g x => (Int.gcd x g : Int)) m
theorem cg_dvd : ∀ (zs : List Int) (m : Int), cg m zs ∣ m ∧ ∀ z ∈ zs, cg m zs ∣ z
  | [], m => ⟨Int.dvd_refl m, fun _ h => nomatch h⟩
  | y :: ys, m => by
    obtain ⟨h1, h2⟩ := cg_dvd ys (Int.gcd y m)
    refine ⟨Int.dvd_trans h1 (Int.gcd_dvd_right ..), fun x hx => ?_⟩
    rcases List.mem_cons.mp hx with rfl | hx
    · exact Int.dvd_trans h1 (Int.gcd_dvd_left ..)
    · exact h2 x hx
theorem cg_nonneg : ∀ (zs : List Int) (m : Int), 0 ≤ m → 0 ≤ cg m zs
  | [], m, h => h
  | y :: ys, m, _ => cg_nonneg ys _ (by show 0 ≤ ((Int.gcd y m : Nat) : Int); omega)
/-- what a load in lowest terms is -/
theorem lf_spec (ts : List Int) (b : Int) (hb : 1 ≤ b) (h0 : ∀ t ∈ ts, 0 ≤ t) : ∃ zs m, lf ts b = ld zs m ∧ zs.length = ts.length ∧ 1 ≤ m ∧ m ≤ b ∧ (∀ z ∈ zs, 0 ≤ z ∧ ∃ t ∈ ts, z ≤ t) ∧ (∀ i < ts.length, gt zs i * b = gt ts i * m) ∧ cg m zs = 1 := by
  obtain ⟨g0, g1⟩ := cd_bot (ts := ts) hb
  have dv : ∀ x ∈ ts ++ [b], cd (ts ++ [b]) ∣ x := fun x hx => cd_dvd hx
  have gr : ∀ d : Int, (∀ x ∈ ts ++ [b], d ∣ x) → d ∣ cd (ts ++ [b]) := fun d hd => cd_of hd
  refine ⟨ts.map (· / cd (ts ++ [b])), b / cd (ts ++ [b]), rfl, by simp, ?_, ?_, ?_, ?_, ?_⟩
  all_goals generalize hg : cd (ts ++ [b]) = g at *
  · exact Int.le_ediv_of_mul_le g0 (by omega)
  · exact Int.ediv_le_self _ (by omega)
  · intro z hz
    obtain ⟨t, ht, rfl⟩ := List.mem_map.mp hz
    exact ⟨Int.ediv_nonneg (h0 t ht) (by omega), t, ht, Int.ediv_le_self _ (h0 t ht)⟩
  · intro i hi
    have hm : ts[i] ∈ ts := List.getElem_mem hi
    obtain ⟨u, hu⟩ := dv ts[i] (List.mem_append_left _ hm)
    obtain ⟨v, hv⟩ := dv b (List.mem_append_right _ (List.mem_singleton.mpr rfl))
    have e1 : gt (ts.map (· / g)) i = u := by
      simp only [gt, List.getD, List.getElem?_map, List.getElem?_eq_getElem hi, Option.map_some, Option.getD_some]
      rw [hu]
      exact Int.mul_ediv_cancel_left _ (by omega)
    have e2 : gt ts i = g * u := by
      simp only [gt, List.getD, List.getElem?_eq_getElem hi, Option.getD_some]
      exact hu
    have e3 : b / g = v := by
      rw [hv]
      exact Int.mul_ediv_cancel_left _ (by omega)
    rw [e1, e2, e3]
    conv => lhs; rw [hv]
    rw [← Int.mul_assoc, Int.mul_comm u g]
  · obtain ⟨d1, d2⟩ := cg_dvd (ts.map (· / g)) (b / g)
    have nn := cg_nonneg (ts.map (· / g)) (b / g) (Int.ediv_nonneg (by omega) (by omega))
    generalize cg (b / g) (ts.map (· / g)) = d at *
    have all : ∀ x ∈ ts ++ [b], g * d ∣ x := fun x hx => by
      obtain ⟨u, hu⟩ := dv x hx
      have q : x / g = u := by
        rw [hu]
        exact Int.mul_ediv_cancel_left _ (by omega)
      have : d ∣ x / g := by
        rcases List.mem_append.mp hx with h | h
        · exact d2 _ (List.mem_map.mpr ⟨x, h, rfl⟩)
        · rw [List.mem_singleton.mp h]; exact d1
      rw [q] at this
      rw [hu]
      exact Int.mul_dvd_mul_left g this
    obtain ⟨k, hk⟩ := gr (g * d) all
    have : g * (d * k) = g * 1 := by rw [← Int.mul_assoc, ← hk, Int.mul_one]
    have dk : d * k = 1 := Int.eq_of_mul_eq_mul_left (by omega) this
    have dd : d ∣ 1 := ⟨k, dk.symm⟩
    have := Int.le_of_dvd (by decide) dd
    have : d ≠ 0 := fun z => by rw [z, Int.zero_mul] at dk; exact absurd dk (by decide)
    omega
end My
set_option Elab.async false
set_option linter.all false
set_option maxRecDepth 100000
set_option maxHeartbeats 4000000
set_option exponentiation.threshold 20000
namespace PD
open PySem PySem.Spec PyProof.Rows L2 My
/-! ### rules: one expression, one statement at a time -/
section
variable {ρ ρ1 : EnvD} {S S1 : Store} {f g t : Den} {gs : Dens} {a b d : D} {ds : List D} {o : Op2} {F : Op} {r : Option Res} {n k m : Nat}
theorem x_bin {r : Option Res} (h1 : f ρ S = some (.ok a S)) (h2 : g ρ S = some (.ok b S)) (h : o a b S = r) : dBin o f g ρ S = r := by
  rw [e_bin, h1, bnd_ok, h2, bnd_ok, h]
theorem y_nil : dNil ρ S = some (.ok [] S) := rfl
theorem y_cons (h1 : f ρ S = some (.ok d S)) (h2 : gs ρ S = some (.ok ds S)) : dCons f gs ρ S = some (.ok (d :: ds) S) := by
  rw [e_consA, h1, bnds_ok, h2, bndls_ok]
theorem x_call (h : gs ρ S = some (.ok ds S)) (hF : F ds S = r) : dCall F gs ρ S = r := by
  rw [e_call, h, bndl_ok, hF]
theorem x_fn (h : gs ρ S = some (.ok ds S)) (hl : ds.length = n) (hF : F ds S = r) : dFn n F gs ρ S = r := by
  rw [e_fn, h, bndl_ok, if_pos hl, hF]
theorem x_fnK {ix : List Nat} (h : gs ρ S = some (.ok ds S)) (hl : ds.length = m ∧ (permL ix ds).length = n) (hF : F (permL ix ds) S = r) : dFnK n m ix F gs ρ S = r := by
  rw [e_fnK, h, bndl_ok, if_pos hl, hF]
variable {f1 f2 f3 f4 : Den} {d1 d2 d3 d4 : D}
theorem x_c1 (h1 : f1 ρ S = some (.ok d1 S)) (hF : F [d1] S = r) : dCall F (dCons f1 dNil) ρ S = r := x_call (y_cons h1 y_nil) hF
theorem x_c2 (h1 : f1 ρ S = some (.ok d1 S)) (h2 : f2 ρ S = some (.ok d2 S)) (hF : F [d1, d2] S = r) : dCall F (dCons f1 (dCons f2 dNil)) ρ S = r := x_call (y_cons h1 (y_cons h2 y_nil)) hF
theorem x_f1 (h1 : f1 ρ S = some (.ok d1 S)) (hF : F [d1] S = r) : dFn 1 F (dCons f1 dNil) ρ S = r := x_fn (y_cons h1 y_nil) rfl hF
theorem x_f2 (h1 : f1 ρ S = some (.ok d1 S)) (h2 : f2 ρ S = some (.ok d2 S)) (hF : F [d1, d2] S = r) : dFn 2 F (dCons f1 (dCons f2 dNil)) ρ S = r := x_fn (y_cons h1 (y_cons h2 y_nil)) rfl hF
theorem x_f3 (h1 : f1 ρ S = some (.ok d1 S)) (h2 : f2 ρ S = some (.ok d2 S)) (h3 : f3 ρ S = some (.ok d3 S)) (hF : F [d1, d2, d3] S = r) : dFn 3 F (dCons f1 (dCons f2 (dCons f3 dNil))) ρ S = r := x_fn (y_cons h1 (y_cons h2 (y_cons h3 y_nil))) rfl hF
theorem x_f4 (h1 : f1 ρ S = some (.ok d1 S)) (h2 : f2 ρ S = some (.ok d2 S)) (h3 : f3 ρ S = some (.ok d3 S)) (h4 : f4 ρ S = some (.ok d4 S)) (hF : F [d1, d2, d3, d4] S = r) : dFn 4 F (dCons f1 (dCons f2 (dCons f3 (dCons f4 dNil)))) ρ S = r := x_fn (y_cons h1 (y_cons h2 (y_cons h3 (y_cons h4 y_nil)))) rfl hF
theorem x_k1 (h1 : f1 ρ S = some (.ok d1 S)) (hF : F [d1] S = r) : dFnK 1 1 [0] F (dCons f1 dNil) ρ S = r := x_fnK (y_cons h1 y_nil) ⟨rfl, rfl⟩ hF
theorem x_k10 (h1 : f1 ρ S = some (.ok d1 S)) (h2 : f2 ρ S = some (.ok d2 S)) (hF : F [d2, d1] S = r) : dFnK 2 2 [1, 0] F (dCons f1 (dCons f2 dNil)) ρ S = r := x_fnK (y_cons h1 (y_cons h2 y_nil)) ⟨rfl, rfl⟩ hF
theorem x_tup (h : gs ρ S = some (.ok ds S)) (hf : fits ds.length = true) : dTup gs ρ S = some (.ok (.tup ds) S) := by
  rw [e_tup, h, bndl_ok, if_pos hf]
theorem x_lst (h : gs ρ S = some (.ok ds S)) (hf : fits ds.length = true) : dLst gs ρ S = some (.ok (.lst ds) S) := by
  rw [e_lst, h, bndl_ok, if_pos hf]
theorem x_and {p q : Bool} (h1 : f ρ S = some (.ok (.bl p) S)) (h2 : p = true → g ρ S = some (.ok (.bl q) S)) : dAnd f g ρ S = some (.ok (.bl (p && q)) S) := by
  rw [e_and, h1, bndB_ok]
  cases p
  · rfl
  · exact h2 rfl
theorem x_andT (h1 : f ρ S = some (.ok (.bl true) S)) (h2 : g ρ S = r) : dAnd f g ρ S = r := by
  rw [e_and, h1, bndB_ok, if_pos rfl, h2]
theorem x_andF (h1 : f ρ S = some (.ok (.bl false) S)) : dAnd f g ρ S = some (.ok (.bl false) S) := by
  rw [e_and, h1, bndB_ok, if_neg Bool.false_ne_true]
theorem x_orF (h1 : f ρ S = some (.ok (.bl false) S)) (h2 : g ρ S = r) : dOr f g ρ S = r := by
  rw [e_or, h1, bndB_ok, if_neg Bool.false_ne_true, h2]
theorem x_orT (h1 : f ρ S = some (.ok (.bl true) S)) : dOr f g ρ S = some (.ok (.bl true) S) := by
  rw [e_or, h1, bndB_ok, if_pos rfl]
theorem x_not {p : Bool} (h1 : f ρ S = some (.ok (.bl p) S)) : dNot f ρ S = some (.ok (.bl (!p)) S) := by
  rw [e_not, h1, bndB_ok]
theorem x_tru {p : Bool} (h1 : f ρ S = some (.ok d S)) (h : truth S d = some p) : dTru f ρ S = some (.ok (.bl p) S) := by
  rw [e_tru, h1, bnd_ok, h]
  rfl
/-- `if not f(..):` where the call gives True -/
theorem x_notT (h1 : f ρ S = some (.ok (.bl true) S)) : dNot (dTru f) ρ S = some (.ok (.bl false) S) := x_not (p := true) (x_tru h1 rfl)
theorem x_ifT (h1 : t ρ S = some (.ok (.bl true) S)) (h2 : f ρ S = r) : dIf t f g ρ S = r := by
  rw [e_ifx, h1, bndB_ok, if_pos rfl, h2]
theorem x_ifF (h1 : t ρ S = some (.ok (.bl false) S)) (h2 : g ρ S = r) : dIf t f g ρ S = r := by
  rw [e_ifx, h1, bndB_ok, if_neg Bool.false_ne_true, h2]
variable {st sa sb rest : SDen} {R : Option SRes}
theorem q_nx {S1 : Store} (h : st ρ S = some (.nx ρ1 S1)) (k : rest ρ1 S1 = R) : sSeq st rest ρ S = R := by
  rw [e_seq, h]
  exact k
theorem q_rt {S1 : Store} (h : st ρ S = some (.rt d S1)) : sSeq st rest ρ S = some (.rt d S1) := by
  rw [e_seq, h]
theorem s_set {S1 : Store} (h : f ρ S = some (.ok d S1)) : sSet n f ρ S = some (.nx (ρ.set n (some d)) S1) := by
  rw [e_set, h, bndS_ok]
theorem q_set {S1 : Store} (h : f ρ S = some (.ok d S1)) (k : rest (ρ.set n (some d)) S1 = R) : sSeq (sSet n f) rest ρ S = R := q_nx (s_set h) k
theorem q_expr {S1 : Store} (h : f ρ S = some (.ok d S1)) (k : rest ρ S1 = R) : sSeq (sExpr f) rest ρ S = R := q_nx (by rw [e_expr, h, bndS_ok]) k
theorem q_ret {S1 : Store} (h : f ρ S = some (.ok d S1)) : sSeq (sRet f) rest ρ S = some (.rt d S1) := q_rt (by rw [e_ret, h, bndS_ok])
theorem q_ifF (h : t ρ S = some (.ok (.bl false) S)) (k : rest ρ S = R) : sSeq (sIf t sa sNil) rest ρ S = R := q_nx (by rw [e_if, h]; rfl) k
theorem q_ifT {S1 : Store} (h : t ρ S = some (.ok (.bl true) S)) (h2 : sa ρ S = some (.nx ρ1 S1)) (k : rest ρ1 S1 = R) : sSeq (sIf t sa sb) rest ρ S = R := q_nx (by rw [e_if, h]; exact h2) k
theorem q_ifR {S1 : Store} (h : t ρ S = some (.ok (.bl true) S)) (h2 : sa ρ S = some (.rt d S1)) : sSeq (sIf t sa sb) rest ρ S = some (.rt d S1) := q_rt (by rw [e_if, h]; exact h2)
theorem q_for {S1 S2 : Store} {fi : Iens} {td : TDen} {items : List D} {w : Option Nat} (h : fi ρ S = some (.ok items w S1)) (hl : forLoop w items td st items ρ S1 = some (.nx ρ1 S2)) (k : rest ρ1 S2 = R) : sSeq (sFor fi td st) rest ρ S = R := q_nx ((for_of h).trans hl) k
/-- both numbers of a pair -/
theorem q_two {x y : D} {p q : Nat} (h : f ρ S = some (.ok (.tup [x, y]) S)) (k : rest ((ρ.set p (some x)).set q (some y)) S = R) : sSeq (sAsg f (PD.tTup 2 (PD.tCons (tName p) (PD.tCons (tName q) PD.tNil)))) rest ρ S = R := q_nx (by rw [e_asg, h, bndS_ok]; rfl) k
end
theorem o_mod {a b : Int} (hb : 0 < b) (S : Store) : oMod (.int a) (.int b) S = some (.ok (.int (a % b)) S) := by simp [oMod, hb]
theorem o_eqI (a b : Int) (S : Store) : oEq (.int a) (.int b) S = some (.ok (.bl (a == b)) S) := oEq_of (eqD_int a b)
theorem o_neI (a b : Int) (S : Store) : oNe (.int a) (.int b) S = some (.ok (.bl (!(a == b))) S) := oNe_of (eqD_int a b)
theorem o_addI (a b : Int) (S : Store) : oPlus (.int a) (.int b) S = some (.ok (.int (a + b)) S) := rfl
theorem o_subI (a b : Int) (S : Store) : oSub (.int a) (.int b) S = some (.ok (.int (a - b)) S) := rfl
theorem o_mulL {a b : Int} (h : small64 a = true) (S : Store) : oMul (.int a) (.int b) S = some (.ok (.int (a * b)) S) := by simp [oMul, mulFits, h]
theorem o_divI {a b : Int} (h : 0 < b) (h2 : b.natAbs.log2 < 9000) (S : Store) : oDiv (.int a) (.int b) S = some (.ok (.int (a / b)) S) := by simp [oDiv, h, h2]
/-- a list of one, repeated -/
theorem o_rep (x : D) (n : Nat) (hn : n ≤ 1000) (S : Store) : oMul (.lst [x]) (.int (n : Nat)) S = some (.ok (.lst (List.replicate n x)) S) := by
  show lMul (.lst [x]) (.int (n : Nat)) S = _
  simp only [lMul, asList]
  rw [if_pos ⟨by omega, by omega, by simp; omega⟩, Int.toNat_natCast, flat_rep]
end PD
set_option Elab.async false
set_option linter.all false
set_option maxRecDepth 100000
set_option maxHeartbeats 4000000
set_option exponentiation.threshold 20000
namespace My
open PySem PySem.Spec PyProof.Rows L2 PD
theorem cg_of : ∀ (zs : List Int) (m d : Int), d ∣ m → (∀ z ∈ zs, d ∣ z) → d ∣ cg m zs
  | [], m, d, h, _ => h
  | y :: ys, m, d, h, hx => cg_of ys _ d (Int.dvd_coe_gcd (hx y List.mem_cons_self) h) fun x hm => hx x (List.mem_cons_of_mem _ hm)
theorem cg_cd (zs : List Int) (m : Int) (hm : 1 ≤ m) : cg m zs = cd (zs ++ [m]) := by
  have h1 : cg m zs ∣ cd (zs ++ [m]) := cd_of fun x hx => by
    rcases List.mem_append.mp hx with h | h
    · exact (cg_dvd zs m).2 x h
    · rw [List.mem_singleton.mp h]; exact (cg_dvd zs m).1
  have h2 : cd (zs ++ [m]) ∣ cg m zs := cg_of zs m _ (cd_dvd (List.mem_append_right _ (List.mem_singleton.mpr rfl))) fun z hz => cd_dvd (List.mem_append_left _ hz)
  exact Int.dvd_antisymm (cg_nonneg zs m (by omega)) (cd_nonneg _) h1 h2
/-- a load of n places in lowest terms, small enough for all that the law does with it -/
structure Lo (n : Nat) (ts : List Int) (b : Int) : Prop where
  len : ts.length = n
  n1 : 1 ≤ n
  nk : n ≤ 60
  nn : ∀ t ∈ ts, 0 ≤ t
  bd : ∀ t ∈ ts, t < 2 ^ 100
  b1 : 1 ≤ b
  bb : b < 2 ^ 60
  lo : cg b ts = 1
theorem small_of {a : Int} (h : a.natAbs < 2 ^ 400) : small a := Nat.lt_of_lt_of_le h (Nat.pow_le_pow_right (by decide) (by decide))
theorem Lo.b_ {n : Nat} {ts : List Int} {b : Int} (h : Lo n ts b) : mini b := mini_of (by have := h.b1; have := h.bb; omega)
theorem Lo.t_ {n : Nat} {ts : List Int} {b : Int} (h : Lo n ts b) : ∀ t ∈ ts, mini t := fun t ht => Nat.lt_of_lt_of_le (show t.natAbs < 2 ^ 100 by have := h.nn t ht; have := h.bd t ht; omega) (Nat.pow_le_pow_right (by decide) (by decide))
theorem numb_all (ts : List Int) (h : ∀ t ∈ ts, 0 ≤ t) : (ts.map D.int).all numb = true := List.all_eq_true.mpr fun x hx => by
  obtain ⟨i, hi, rfl⟩ := List.mem_map.mp hx
  exact decide_eq_true (h i hi)
theorem ival_int (ts : List Int) : (ts.map D.int).map ival = ts := by
  rw [List.map_map]
  exact List.map_id _
theorem tellL_ld (ts : List Int) (b : Int) (h : ts.length ≤ 1000) : tellL (ld ts b) = true := by
  have a : (ts.map D.int).all told = true := List.all_eq_true.mpr fun x hx => by
    obtain ⟨i, _, rfl⟩ := List.mem_map.mp hx
    rfl
  simp [tellL, tell, a, h, told, tyName]
theorem Lo.load {n : Nat} {ts : List Int} {b : Int} (h : Lo n ts b) : loadB n (ld ts b) = true := by
  have c : cd (ts ++ [b]) = 1 := by rw [← cg_cd ts b h.b1]; exact h.lo
  have nb : numsB n (.tup (ts.map .int)) = true := by
    simp only [numsB, numb_all ts h.nn, Bool.and_true, List.length_map, h.len, beq_self_eq_true]
  have bo : bott (.int b) = true := decide_eq_true h.b1
  simp only [loadB, nb, bo, Bool.and_self, Bool.true_and]
  rw [ival_int, c]
  rfl
theorem Lo.two {n : Nat} {ts us : List Int} {b c : Int} (h : Lo n ts b) (k : Lo n us c) : Two ts us b c where
  len := by rw [h.len, k.len]
  few := by rw [h.len]; exact Nat.le_trans h.nk (by decide)
  ts_ := fun x hx => (h.t_ x hx).small
  us_ := fun x hx => (k.t_ x hx).small
  b1 := h.b1
  c1 := k.b1
  b_ := h.b_.small
  c_ := k.b_.small
  tl := tellL_ld us c (by rw [k.len]; exact Nat.le_trans k.nk (by decide))
  lo := by rw [h.len]; exact k.load
theorem Lo.one {n : Nat} {ts : List Int} {b : Int} (h : Lo n ts b) : One ts b where
  few := by rw [h.len]; exact Nat.le_trans h.nk (by decide)
  ts_ := fun x hx => (h.t_ x hx).small
  b1 := h.b1
  b_ := h.b_.small
/-- a load made of small numbers -/
theorem lo_of {n : Nat} {ts : List Int} {b : Int} (hl : ts.length = n) (h1 : 1 ≤ n) (hk : n ≤ 60) (h0 : ∀ t ∈ ts, 0 ≤ t) (hb : ∀ t ∈ ts, t < 2 ^ 100) (b1 : 1 ≤ b) (b2 : b < 2 ^ 60) : ∃ zs m, lf ts b = ld zs m ∧ Lo n zs m ∧ m ≤ b ∧ ∀ z ∈ zs, ∃ t ∈ ts, z ≤ t := by
  obtain ⟨zs, m, e, l, m1, m2, z0, _, c⟩ := lf_spec ts b b1 h0
  exact ⟨zs, m, e, ⟨by rw [l, hl], h1, hk, fun z hz => (z0 z hz).1, fun z hz => by
    obtain ⟨_, t, ht, hle⟩ := z0 z hz
    have := hb t ht
    omega, m1, by omega, c⟩, m2, fun z hz => (z0 z hz).2⟩
/-! ### the end of the law's load and part -/
theorem ixDg {n : Nat} {ds : List Int} (h : Dr n ds) (j : Int) (h0 : 0 ≤ j) (h1 : j < n) : (0 ≤ gt ds j.toNat ∧ gt ds j.toNat < 1000) ∧ ∀ S, oIx (.lst (ds.map .int)) (.int j) S = some (.ok (.int (gt ds j.toNat)) S) := by
  have hl : j.toNat < ds.length := by rw [h.1]; omega
  have e : gt ds j.toNat = ds[j.toNat] := by simp [gt, List.getD, List.getElem?_eq_getElem hl]
  refine ⟨by rw [e]; exact h.2 _ (List.getElem_mem hl), fun S => ?_⟩
  have := ixLi hl S
  rwa [Int.toNat_of_nonneg h0] at this
end My
set_option Elab.async false
set_option linter.all false
set_option maxRecDepth 100000
set_option maxHeartbeats 4000000
set_option exponentiation.threshold 20000
namespace My
open PySem PySem.Spec PyProof.Rows L2 PD
theorem lf_cg (ts : List Int) (b : Int) (hb : 1 ≤ b) : lf ts b = ld (ts.map (· / cg b ts)) (b / cg b ts) := by
  unfold lf
  rw [← cg_cd ts b hb]
theorem cg_pos (ts : List Int) (b : Int) (hb : 1 ≤ b) : 0 < cg b ts ∧ cg b ts ≤ b := by
  rw [cg_cd ts b hb]
  exact cd_bot hb
theorem loop_load (S : Store) (d0 d1 d2 d3 d4 d5 d6 : Option D) : ∀ (xs : List Int) (all : List D) (b : Int) (c : Option D), 0 < b → b < 2 ^ 1000 → ∃ c', forLoop none all (tName 7) (sSeq (sSet 8 (dFn 2 O__law_common (dCons (dVar 7) (dCons (dVar 8) (dNil))))) (sNil)) (xs.map .int) [d0, d1, d2, d3, d4, d5, d6, c, some (.int b)] S = some (.nx [d0, d1, d2, d3, d4, d5, d6, c', some (.int (cg b xs))] S) := by
  intro xs
  induction xs with
  | nil => exact fun all b c _ _ => ⟨c, by simp [cg]⟩
  | cons x xs ih =>
    intro all b c hb hb2
    have hne : b ≠ 0 := by omega
    have hg : 0 < (Int.gcd x b : Int) := by
      have := Int.gcd_pos_of_ne_zero_right x hne
      omega
    have hle : (Int.gcd x b : Int) ≤ b := Int.le_of_dvd hb (Int.gcd_dvd_right ..)
    obtain ⟨c', e⟩ := ih all (Int.gcd x b) (some (.int x)) hg (by omega)
    refine ⟨c', ?_⟩
    rw [List.map_cons, loop_cons]
    have v := v_common S x b (by omega) hb2
    rw [if_neg hne] at v
    have t : sSeq (sSet 8 (dFn 2 O__law_common (dCons (dVar 7) (dCons (dVar 8) (dNil))))) (sNil) [d0, d1, d2, d3, d4, d5, d6, some (.int x), some (.int b)] S = some (.nx [d0, d1, d2, d3, d4, d5, d6, some (.int x), some (.int (Int.gcd x b : Int))] S) := q_set (x_f2 rfl rfl v) rfl
    show (match sSeq (sSet 8 (dFn 2 O__law_common (dCons (dVar 7) (dCons (dVar 8) (dNil))))) (sNil) [d0, d1, d2, d3, d4, d5, d6, some (.int x), some (.int b)] S with
      | some (.nx ρ2 S2) => _
      | some (.ct ρ2 S2) => _
      | some (.bk ρ2 S2) => _
      | r => _) = _
    rw [t]
    exact e
theorem map_div (ts : List Int) (g : Int) : ((ts.map D.int).map fun x => D.int (ival x / g)) = (ts.map (· / g)).map .int := by
  rw [List.map_map, List.map_map]; rfl
theorem tail_load (S : Store) (r0 r1 r2 r3 r6 r7 r8 : Option D) (ts : List Int) (b : Int) (hb : 1 ≤ b) (hb2 : b < 2 ^ 60) (hl : ts.length ≤ 1000) :
    sSeq (sSet 8 (dVar 4)) (sSeq (sFor (dItems (dVar 5)) (tName 7) (sSeq (sSet 8 (dFn 2 O__law_common (dCons (dVar 7) (dCons (dVar 8) (dNil))))) (sNil))) (sSeq (sRet (dTup (dCons (dCall oTuple1 (dCons (dLc [7] (dItems (dVar 5)) (.one 7) (dYes) (dBin oDiv (dVar 7) (dVar 8))) (dNil))) (dCons (dBin oDiv (dVar 4) (dVar 8)) (dNil))))) (sNil)))
      [r0, r1, r2, r3, some (.int b), some (.lst (ts.map .int)), r6, r7, r8] S = some (.rt (lf ts b) S) := by
  obtain ⟨g0, g1⟩ := cg_pos ts b hb
  obtain ⟨c', e⟩ := loop_load S r0 r1 r2 r3 (some (.int b)) (some (.lst (ts.map .int))) r6 ts (ts.map .int) b r7 (by omega) (by omega)
  rw [lf_cg ts b hb]
  generalize cg b ts = g at *
  have lg : g.natAbs.log2 < 9000 := (Nat.log2_lt (by omega)).mpr (by omega)
  have few : (ts.map D.int).length ≤ 16777216 := by rw [List.length_map]; omega
  have l := lc_map (own := [7]) (t := .one 7) (elt := dBin oDiv (dVar 7) (dVar 8)) (f := dItems (dVar 5)) (ρ := [r0, r1, r2, r3, some (.int b), some (.lst (ts.map .int)), r6, c', some (.int g)]) (S := S) (items := ts.map .int) (fun x => .int (ival x / g)) (fun x => [r0, r1, r2, r3, some (.int b), some (.lst (ts.map .int)), r6, some x, some (.int g)]) rfl (fun _ _ => rfl)
    (fun x hx T => by
      obtain ⟨i, _, rfl⟩ := List.mem_map.mp hx
      exact x_bin rfl rfl (o_divI g0 lg T)) few (by rw [map_div]; exact closeds_map_int _)
  rw [map_div] at l
  exact q_set rfl (q_for (w := none) (items := ts.map .int) (S1 := S) rfl e (q_ret (x_tup (y_cons (x_c1 l rfl) (y_cons (x_bin rfl rfl (o_divI g0 lg S)) y_nil)) rfl)))
theorem ixI (xs : List Int) (j : Int) (h0 : 0 ≤ j) (h1 : j < xs.length) : gt xs j.toNat ∈ xs ∧ ∀ S, oIx (.lst (xs.map .int)) (.int j) S = some (.ok (.int (gt xs j.toNat)) S) := by
  have hl : j.toNat < xs.length := by omega
  refine ⟨by simp only [gt, List.getD, List.getElem?_eq_getElem hl, Option.getD_some]; exact List.getElem_mem hl, fun S => ?_⟩
  have := ixLi hl S
  rwa [Int.toNat_of_nonneg h0] at this
theorem pow8 (S : Store) : oPow (.int 10) (.int 8) S = some (.ok (.int (10 ^ 8)) S) := by simp [oPow]
theorem pow13 (S : Store) : oPow (.int 10) (.int 13) S = some (.ok (.int (10 ^ 13)) S) := by simp [oPow]
theorem pow9 (S : Store) : oPow (.int 10) (.int 9) S = some (.ok (.int (10 ^ 9)) S) := by simp [oPow]
theorem sm3' : PD.small64 3 = true := by decide
/-- the tops that the law draws -/
def dtop (ds : List Int) (k i : Nat) : Int := if gt ds (((k : Int) + 3 * (i : Int) + 1) % 60).toNat % 7 - 2 > 0 then gt ds (((k : Int) + 3 * (i : Int) + 1) % 60).toNat % 7 - 2 else 0
theorem v_load (S : Store) (ds : List Int) (h : Dr 70 ds) (k n : Nat) (hk : k + 2 < 70) (n1 : 1 ≤ n) (nk : n ≤ 60) : ∃ zs m, O__law_load [.lst (ds.map .int), .int (k : Nat), .int (n : Nat)] S = some (.ok (ld zs m) S) ∧ Lo n zs m ∧ m ≤ 2 ^ 40 ∧ ∀ z ∈ zs, z < 2 ^ 60 := by
  obtain ⟨⟨x0, x1⟩, ix⟩ := ixDg h (k : Int) (by omega) (by omega)
  obtain ⟨⟨y0, y1⟩, iy⟩ := ixDg h ((k : Int) + 1) (by omega) (by omega)
  obtain ⟨⟨z0, z1⟩, iz⟩ := ixDg h ((k : Int) + 2) (by omega) (by omega)
  generalize gt ds ((k : Int)).toNat = x at *
  generalize gt ds ((k : Int) + 1).toNat = y at *
  generalize gt ds ((k : Int) + 2).toNat = z at *
  obtain ⟨mc, ic⟩ := ixI [1, 2, 3, 4, 6, 12, 5, 7] (x % 8) (by omega) (by simp; omega)
  have bc : ∀ c ∈ ([1, 2, 3, 4, 6, 12, 5, 7] : List Int), 1 ≤ c ∧ c ≤ 12 := by decide
  obtain ⟨c1, c2⟩ := bc _ mc
  generalize gt [1, 2, 3, 4, 6, 12, 5, 7] (x % 8).toNat = c at *
  have lt : ((List.range n).map (dtop ds k)).length = n := by simp
  have bt : ∀ t ∈ (List.range n).map (dtop ds k), 0 ≤ t ∧ t ≤ 4 := fun t ht => by
    obtain ⟨i, _, rfl⟩ := List.mem_map.mp ht
    unfold dtop
    split <;> omega
  have mi : ((List.range n).map fun i => D.int (dtop ds k i)) = ((List.range n).map (dtop ds k)).map .int := by rw [List.map_map]; rfl
  have few : (List.range n).length ≤ 16777216 := by rw [List.length_range]; omega
  have l := lc_range (own := [6]) (t := .one 6) (elt := dCall oMax2 (dCons (dC (.int 0)) (dCons (dBin oSub (dBin oMod (dCall oInt1 (dCons (dBin oIx (dVar 0) (dBin oMod (dCall oInt1 (dCons (dBin oPlus (dBin oPlus (dVar 1) (dBin oMul (dC (.int 3)) (dVar 6))) (dC (.int 1))) (dNil))) (dC (.int 60)))) (dNil))) (dC (.int 7))) (dC (.int 2))) (dNil)))) (f := dRange1 (dVar 2)) (ρ := [some (.lst (ds.map .int)), some (.int k), some (.int n), some (.int (x % 8)), some (.int c), none, none, none, none]) (S := S) n (fun i => .int (dtop ds k i))
    (fun i => [some (.lst (ds.map .int)), some (.int k), some (.int n), some (.int (x % 8)), some (.int c), none, some (.int (i : Nat)), none, none]) (range1_of rfl (by omega)) (fun i _ => rfl) (fun i hi T => by
      obtain ⟨_, iw⟩ := ixDg h (((k : Int) + 3 * (i : Int) + 1) % 60) (by omega) (by omega)
      exact x_c2 rfl (x_bin (x_bin (x_c1 (x_bin rfl (x_bin (x_c1 (x_bin (x_bin rfl (x_bin rfl rfl (o_mulL sm3' T)) rfl) rfl rfl) rfl) rfl (o_mod (by decide) T)) (iw T)) rfl) rfl (o_mod (by decide) T)) rfl rfl) rfl) (by omega) (closeds_ints _ _)
  rw [mi] at l
  generalize (List.range n).map (dtop ds k) = ts at *
  have st : startD ["_law_d", "_law_k", "_law_n", "_law_kind", "_law_b", "_law_tops", "_law_i", "_law_x", "_law_g"] [.lst (ds.map .int), .int (k : Nat), .int (n : Nat)] = [some (.lst (ds.map .int)), some (.int k), some (.int n), none, none, none, none, none, none] := rfl
  -- what the beginning comes to
  have key : ∀ (us : List Int) (b : Int), us.length = n → (∀ u ∈ us, 0 ≤ u ∧ u < 2 ^ 60) → 1 ≤ b → b ≤ 10 ^ 11 + 1 → D__law_load (startD ["_law_d", "_law_k", "_law_n", "_law_kind", "_law_b", "_law_tops", "_law_i", "_law_x", "_law_g"] [.lst (ds.map .int), .int (k : Nat), .int (n : Nat)]) S = some (.rt (lf us b) S) → ∃ zs m, O__law_load [.lst (ds.map .int), .int (k : Nat), .int (n : Nat)] S = some (.ok (ld zs m) S) ∧ Lo n zs m ∧ m ≤ 2 ^ 40 ∧ ∀ z ∈ zs, z < 2 ^ 60 := fun us b hl hu b1 b2 e => by
    obtain ⟨zs, m, e2, lo, m2, zt⟩ := lo_of hl n1 nk (fun t ht => (hu t ht).1) (fun t ht => Int.lt_trans (hu t ht).2 (by decide)) b1 (by omega)
    refine ⟨zs, m, ?_, lo, by omega, fun z hz => ?_⟩
    rotate_left
    · obtain ⟨t, ht, hle⟩ := zt z hz
      have := hu t ht
      omega
    rw [← e2]
    exact fn_rtS e (closed_ld _ _)
  simp only [D__law_load] at key
  rw [st] at key
  have k6 : ∀ e : Bool, (x % 8 == 6) = e → dBin oEq (dVar 3) (dC (.int 6)) [some (.lst (ds.map .int)), some (.int k), some (.int n), some (.int (x % 8)), some (.int c), some (.lst (ts.map .int)), none, none, none] S = some (.ok (.bl e) S) := fun e he => by
    rw [← he]
    exact x_bin rfl rfl (o_eqI _ _ S)
  by_cases h6 : x % 8 = 6
  · have n7 : (x % 8 == 7) = false := beq_eq_false_iff_ne.mpr (by omega)
    have l2 := lc_map (own := [7]) (t := .one 7) (elt := dBin oPlus (dBin oMul (dVar 7) (dBin oPow (dC (.int 10)) (dC (.int 13)))) (dBin oIx (dVar 0) (dBin oPlus (dVar 1) (dC (.int 2))))) (f := dItems (dVar 5)) (ρ := [some (.lst (ds.map .int)), some (.int k), some (.int n), some (.int (x % 8)), some (.int (1 + y * 10 ^ 8)), some (.lst (ts.map .int)), none, none, none]) (S := S) (items := ts.map .int) (fun u => .int (ival u * 10 ^ 13 + z))
      (fun u => [some (.lst (ds.map .int)), some (.int k), some (.int n), some (.int (x % 8)), some (.int (1 + y * 10 ^ 8)), some (.lst (ts.map .int)), none, some u, none]) rfl (fun _ _ => rfl) (fun u hu T => by
        obtain ⟨i, _, rfl⟩ := List.mem_map.mp hu
        exact x_bin (x_bin rfl (x_bin rfl rfl (pow13 T)) (e_mulR (by decide) T)) (x_bin rfl (x_bin rfl rfl rfl) (iz T)) rfl) (by rw [List.length_map, lt]; omega) (by simp [closeds_all, closed])
    have m2 : ((ts.map D.int).map fun u => D.int (ival u * 10 ^ 13 + z)) = (ts.map fun t => t * 10 ^ 13 + z).map .int := by rw [List.map_map, List.map_map]; rfl
    rw [m2] at l2
    refine key (ts.map fun t => t * 10 ^ 13 + z) (1 + y * 10 ^ 8) (by rw [List.length_map, lt]) (fun u hu => by
      obtain ⟨t, ht, rfl⟩ := List.mem_map.mp hu
      have := bt t ht
      omega) (by omega) (by omega) ?_
    refine q_set (x_bin (x_c1 (x_bin rfl rfl (ix S)) rfl) rfl (o_mod (by decide) S)) (q_set (x_bin rfl rfl (ic S)) (q_set l (q_ifT (k6 true (by rw [h6]; rfl)) (q_set (x_bin rfl (x_bin (x_bin rfl (x_bin rfl rfl rfl) (iy S)) (x_bin rfl rfl (pow8 S)) (e_mulR (by decide) S)) rfl) (q_set l2 rfl)) ?_)))
    refine q_ifF (by rw [← n7]; exact x_bin rfl rfl (o_eqI _ _ S)) ?_
    exact tail_load S _ _ _ _ _ _ _ _ _ (by omega) (by omega) (by rw [List.length_map, lt]; omega)
  · have n6 : (x % 8 == 6) = false := beq_eq_false_iff_ne.mpr h6
    by_cases h7 : x % 8 = 7
    · refine key (List.replicate n 0) c (by simp) (fun u hu => by rw [List.eq_of_mem_replicate hu]; decide) c1 (by omega) ?_
      refine q_set (x_bin (x_c1 (x_bin rfl rfl (ix S)) rfl) rfl (o_mod (by decide) S)) (q_set (x_bin rfl rfl (ic S)) (q_set l (q_ifF (k6 false n6) ?_)))
      have rep : ((List.replicate n (0 : Int)).map D.int) = List.replicate n (.int 0) := by rw [List.map_replicate]
      refine q_ifT (by rw [show true = (x % 8 == 7) by rw [h7]; rfl]; exact x_bin rfl rfl (o_eqI _ _ S)) (q_set (x_bin rfl rfl (o_rep (.int 0) n (by omega) S)) rfl) ?_
      have tl := tail_load S (some (.lst (ds.map .int))) (some (.int k)) (some (.int n)) (some (.int (x % 8))) none none none (List.replicate n 0) c c1 (by omega) (by simp; omega)
      rw [rep] at tl
      exact tl
    · have n7 : (x % 8 == 7) = false := beq_eq_false_iff_ne.mpr h7
      refine key ts c lt (fun u hu => by have := bt u hu; omega) c1 (by omega) ?_
      refine q_set (x_bin (x_c1 (x_bin rfl rfl (ix S)) rfl) rfl (o_mod (by decide) S)) (q_set (x_bin rfl rfl (ic S)) (q_set l (q_ifF (k6 false n6) (q_ifF (by rw [← n7]; exact x_bin rfl rfl (o_eqI _ _ S)) ?_))))
      exact tail_load S _ _ _ _ _ _ _ _ _ c1 (by omega) (by rw [lt]; omega)
end My
set_option Elab.async false
set_option linter.all false
set_option maxRecDepth 100000
set_option maxHeartbeats 4000000
set_option exponentiation.threshold 20000
namespace My
open PySem PySem.Spec PyProof.Rows L2 PD
/-! ### lists that may change -/
section
variable {ρ : EnvD} {S : Store} {own : List Nat} {t : Tg} {elt cnd : Den} {f : Iens} {items all : List D} {td : TDen} {g : SDen}
theorem loop_consW {n : Nat} {x : D} {xs : List D} {ρ1 ρ2 : EnvD} {R : Option SRes} (hk : S[n]? = some all) (ht : td x ρ S = some ρ1) (hg : g ρ1 S = some (.nx ρ2 S)) (hr : forLoop (some n) all td g xs ρ2 S = R) : forLoop (some n) all td g (x :: xs) ρ S = R := by
  simp only [forLoop, ht, hg]
  rw [if_pos (show ckOf (some n) all S from hk)]
  exact hr
theorem lcM_map (h : D → D) (ρ' : D → EnvD) (hf : f ρ S = some (.ok items none S)) (ht : ∀ x ∈ items, t.go x (wipeD ρ own) = some (ρ' x)) (he : ∀ x ∈ items, ∀ T, elt (ρ' x) T = some (.ok (h x) T)) (hl : items.length ≤ 16777216) : dLcM own f t dYes elt ρ S = some (.ok (.ref S.length) (S ++ [items.map h])) := by
  have e := lc_loop (cnd := dYes) (S := S) (own := own) (t := t) (elt := elt) (ρ := ρ) items h (fun _ => true) ρ' items [] ht (fun x hx T => rfl) (fun x hx _ => he x hx) (by simpa using hl)
  have k : items.filter (fun _ => true) = items := List.filter_eq_self.mpr fun _ _ => rfl
  unfold dLcM
  rw [hf]
  simp only [e, List.nil_append, k]
  rfl
theorem lcM_range (n : Nat) (h : Nat → D) (ρ' : Nat → EnvD) (hf : f ρ S = some (.ok (rgD 0 n) none S)) (ht : ∀ i < n, t.go (.int (i : Nat)) (wipeD ρ own) = some (ρ' i)) (he : ∀ i < n, ∀ T, elt (ρ' i) T = some (.ok (h i) T))
    (hl : n ≤ 16777216) : dLcM own f t dYes elt ρ S = some (.ok (.ref S.length) (S ++ [(List.range n).map h])) := by
  have e := lcM_map (elt := elt) (ixOf h) (fun d => match d with | .int i => ρ' i.toNat | _ => ρ) hf (fun x hx => by
    obtain ⟨i, hi, rfl⟩ := rg_mem hx
    simpa using ht i hi) (fun x hx T => by
    obtain ⟨i, hi, rfl⟩ := rg_mem hx
    simpa [ixOf] using he i hi T) (by rw [rgD_length]; exact hl)
  rwa [rg_map] at e
theorem lcW_loop {n : Nat} (hk : S[n]? = some all) (h : D → D) (ρ' : D → EnvD) : ∀ (xs acc : List D), (∀ x ∈ xs, t.go x (wipeD ρ own) = some (ρ' x)) → (∀ x ∈ xs, ∀ T, elt (ρ' x) T = some (.ok (h x) T)) →
    acc.length + xs.length ≤ 16777216 → lcLoop own t dYes elt ρ S.length (some n) all xs (S ++ [acc]) = some (S ++ [acc ++ xs.map h])
  | [], acc, _, _, _ => by simp [lcLoop]
  | x :: xs, acc, ht, he, hl => by
    have hn : n < S.length := (List.getElem?_eq_some_iff.mp hk).1
    have ih := fun a => lcW_loop hk h ρ' xs a (fun y hy => ht y (List.mem_cons_of_mem _ hy)) (fun y hy => he y (List.mem_cons_of_mem _ hy))
    simp only [List.length_cons] at hl
    simp only [lcLoop, ht x List.mem_cons_self, dYes, if_true, he x List.mem_cons_self, get_last, set_last]
    have ck : ckOf (some n) all (S ++ [acc ++ [h x]]) := by
      show (S ++ [acc ++ [h x]])[n]? = some all
      rw [List.getElem?_append_left hn]
      exact hk
    rw [if_pos ⟨by omega, by rw [set_last]; exact ck⟩]
    have := ih (acc ++ [h x]) (by simp; omega)
    rw [this]
    simp
theorem lcW_map {n : Nat} (h : D → D) (ρ' : D → EnvD) (hf : f ρ S = some (.ok items (some n) S)) (hk : S[n]? = some items) (ht : ∀ x ∈ items, t.go x (wipeD ρ own) = some (ρ' x)) (he : ∀ x ∈ items, ∀ T, elt (ρ' x) T = some (.ok (h x) T)) (hl : items.length ≤ 16777216) (cl : closeds (items.map h) = true) : dLc own f t dYes elt ρ S = some (.ok (.lst (items.map h)) S) := by
  have e := lcW_loop (own := own) (t := t) (elt := elt) (ρ := ρ) hk h ρ' items [] ht he (by simpa using hl)
  unfold dLc
  rw [hf]
  simp only [e, List.nil_append, get_last, List.take_left', fzs_closed cl]
  simp
end
theorem s_store {ρ : EnvD} {S : Store} {fe fo fi : Den} {v : D} {n j : Nat} {k : Int} {xs : List D} (h1 : fe ρ S = some (.ok v S)) (h2 : fo ρ S = some (.ok (.ref n) S)) (h3 : fi ρ S = some (.ok (.int k) S)) (hx : S[n]? = some xs) (hj : ixN xs.length k = some j) : sStore fe fo fi ρ S = some (.nx ρ (S.set n (xs.set j v))) := by
  unfold sStore
  simp only [h1, bndS_ok, h2, h3, hx, hj, Option.map_some]
theorem loop_part (S : Store) (n : Nat) (d0 d1 d2 d3 d4 d5 d6 : Option D) (all : List D) (hk : S[n]? = some all) : ∀ (xs : List Int) (b : Int) (c : Option D), 0 < b → b < 2 ^ 1000 → ∃ c', forLoop (some n) all (tName 8) (sSeq (sSet 7 (dFn 2 O__law_common (dCons (dVar 8) (dCons (dVar 7) (dNil))))) (sNil)) (xs.map .int) [d0, d1, d2, d3, d4, d5, d6, some (.int b), c] S = some (.nx [d0, d1, d2, d3, d4, d5, d6, some (.int (cg b xs)), c'] S) := by
  intro xs
  induction xs with
  | nil => exact fun b c _ _ => ⟨c, by simp [cg, forLoop]⟩
  | cons x xs ih =>
    intro b c hb hb2
    have hne : b ≠ 0 := by omega
    have hg : 0 < (Int.gcd x b : Int) := by
      have := Int.gcd_pos_of_ne_zero_right x hne
      omega
    have hle : (Int.gcd x b : Int) ≤ b := Int.le_of_dvd hb (Int.gcd_dvd_right ..)
    obtain ⟨c', e⟩ := ih (Int.gcd x b) (some (.int x)) hg (by omega)
    refine ⟨c', ?_⟩
    have v := v_common S x b (by omega) hb2
    rw [if_neg hne] at v
    rw [List.map_cons]
    exact loop_consW (ρ1 := [d0, d1, d2, d3, d4, d5, d6, some (.int b), some (.int x)]) (ρ2 := [d0, d1, d2, d3, d4, d5, d6, some (.int (Int.gcd x b : Int)), some (.int x)]) hk rfl (q_set (x_f2 rfl rfl v) rfl) e
theorem tail_part (S : Store) (n : Nat) (r0 r1 r2 r3 r5 r8 : Option D) (ts : List Int) (b : Int) (hk : S[n]? = some (ts.map .int)) (hb : 1 ≤ b) (hb2 : b < 2 ^ 60) (hl : ts.length ≤ 1000) :
    sSeq (sSet 7 (dVar 6)) (sSeq (sFor (dItems (dVar 4)) (tName 8) (sSeq (sSet 7 (dFn 2 O__law_common (dCons (dVar 8) (dCons (dVar 7) (dNil))))) (sNil))) (sSeq (sRet (dTup (dCons (dCall oTuple1 (dCons (dLc [8] (dItems (dVar 4)) (.one 8) (dYes) (dBin oDiv (dVar 8) (dVar 7))) (dNil))) (dCons (dBin oDiv (dVar 6) (dVar 7)) (dNil))))) (sNil)))
      [r0, r1, r2, r3, some (.ref n), r5, some (.int b), none, r8] S = some (.rt (lf ts b) S) := by
  obtain ⟨g0, g1⟩ := cg_pos ts b hb
  obtain ⟨c', e⟩ := loop_part S n r0 r1 r2 r3 (some (.ref n)) r5 (some (.int b)) (ts.map .int) hk ts b r8 (by omega) (by omega)
  rw [lf_cg ts b hb]
  generalize cg b ts = g at *
  have lg : g.natAbs.log2 < 9000 := (Nat.log2_lt (by omega)).mpr (by omega)
  have few : (ts.map D.int).length ≤ 16777216 := by rw [List.length_map]; omega
  have hi : ∀ x : Option D, dItems (dVar 4) [r0, r1, r2, r3, some (.ref n), r5, some (.int b), x, r8] S = some (.ok (ts.map .int) (some n) S) := fun x => by
    rw [e_items]
    show bndi (some (.ok (.ref n) S)) _ = _
    rw [bndi_ok]
    show Option.map _ ((S[n]?).map fun xs => (xs, some n)) = _
    rw [hk]
    rfl
  have hi2 : dItems (dVar 4) [r0, r1, r2, r3, some (.ref n), r5, some (.int b), some (.int g), c'] S = some (.ok (ts.map .int) (some n) S) := by
    rw [e_items]
    show bndi (some (.ok (.ref n) S)) _ = _
    rw [bndi_ok]
    show Option.map _ ((S[n]?).map fun xs => (xs, some n)) = _
    rw [hk]
    rfl
  have l := lcW_map (own := [8]) (t := .one 8) (elt := dBin oDiv (dVar 8) (dVar 7)) (f := dItems (dVar 4)) (ρ := [r0, r1, r2, r3, some (.ref n), r5, some (.int b), some (.int g), c']) (S := S) (items := ts.map .int) (fun x => .int (ival x / g)) (fun x => [r0, r1, r2, r3, some (.ref n), r5, some (.int b), some (.int g), some x]) hi2 hk (fun _ _ => rfl)
    (fun x hx T => by
      obtain ⟨i, _, rfl⟩ := List.mem_map.mp hx
      exact x_bin rfl rfl (o_divI g0 lg T)) few (by rw [map_div]; exact closeds_map_int _)
  rw [map_div] at l
  exact q_set rfl (q_for (w := some n) (items := ts.map .int) (S1 := S) (hi _) e (q_ret (x_tup (y_cons (x_c1 l rfl) (y_cons (x_bin rfl rfl (o_divI g0 lg S)) y_nil)) rfl)))
theorem sm7 : PD.small64 7 = true := by decide
theorem sm4' : PD.small64 4 = true := by decide
/-- the tops of a part -/
def ptop (ds ts : List Int) (i : Nat) : Int := gt ts i * (gt ds ((7 * (i : Int) + 44) % 60).toNat % 5)
theorem v_part (S : Store) (ds : List Int) (h : Dr 70 ds) (ts : List Int) (b : Int) (n j : Nat) (hn : Lo n ts b) (hb : b ≤ 2 ^ 40) (ht : ∀ t ∈ ts, t < 2 ^ 60) (hj : j ≤ n) : ∃ zs m, O__law_part [.lst (ds.map .int), ld ts b, .int (n : Nat), .int (j : Nat)] S = some (.ok (ld zs m) S) ∧ Lo n zs m := by
  have n1 := hn.n1
  have nk := hn.nk
  have b1 := hn.b1
  have gb : ∀ i, 0 ≤ gt ts i ∧ gt ts i < 2 ^ 60 := fun i => by
    unfold gt
    by_cases hi : i < ts.length
    · rw [List.getD, List.getElem?_eq_getElem hi]
      exact ⟨hn.nn _ (List.getElem_mem hi), ht _ (List.getElem_mem hi)⟩
    · rw [List.getD, List.getElem?_eq_none (by omega)]
      decide
  have st : startD ["_law_d", "_law_z", "_law_n", "_law_j", "_law_tops", "_law_i", "_law_b", "_law_g", "_law_x"] [.lst (ds.map .int), ld ts b, .int (n : Nat), .int (j : Nat)] = [some (.lst (ds.map .int)), some (ld ts b), some (.int n), some (.int j), none, none, none, none, none] := rfl
  have sd : ∀ j : Int, 0 ≤ j ∧ j < 5 → small64 j = true := fun j hj => small64_of hj.1 hj.2 (by decide)
  have l := lcM_range (own := [5]) (t := .one 5) (elt := dBin oMul (dBin oIx (dBin oIx (dVar 1) (dC (.int 0))) (dVar 5)) (dBin oMod (dCall oInt1 (dCons (dBin oIx (dVar 0) (dBin oMod (dCall oInt1 (dCons (dBin oPlus (dBin oMul (dC (.int 7)) (dVar 5)) (dC (.int 44))) (dNil))) (dC (.int 60)))) (dNil))) (dC (.int 5)))) (f := dRange1 (dVar 2)) (ρ := [some (.lst (ds.map .int)), some (ld ts b), some (.int n), some (.int j), none, none, none, none, none]) (S := S) n (fun i => .int (ptop ds ts i))
    (fun i => [some (.lst (ds.map .int)), some (ld ts b), some (.int n), some (.int j), none, some (.int (i : Nat)), none, none, none]) (range1_of rfl (by omega)) (fun i _ => rfl) (fun i hi T => by
      obtain ⟨⟨w0, w1⟩, iw⟩ := ixDg h ((7 * (i : Int) + 44) % 60) (by omega) (by omega)
      exact x_bin (x_bin (x_bin rfl rfl (e_ix0 _ _ T)) rfl (ixT (by rw [hn.len]; exact hi) T)) (x_bin (x_c1 (x_bin rfl (x_bin (x_c1 (x_bin (x_bin rfl rfl (o_mulL sm7 T)) rfl rfl) rfl) rfl (o_mod (by decide) T)) (iw T)) rfl) rfl (o_mod (by decide) T)) (e_mulR (sd _ (by omega)) T)) (by omega)
  have mi : ((List.range n).map fun i => D.int (ptop ds ts i)) = ((List.range n).map (ptop ds ts)).map .int := by rw [List.map_map]; rfl
  rw [mi] at l
  have lt : ((List.range n).map (ptop ds ts)).length = n := by simp
  have bt : ∀ t ∈ (List.range n).map (ptop ds ts), 0 ≤ t ∧ t < 2 ^ 100 := fun t ht => by
    obtain ⟨i, hi, rfl⟩ := List.mem_map.mp ht
    obtain ⟨⟨w0, w1⟩, iw⟩ := ixDg h ((7 * (i : Int) + 44) % 60) (by omega) (by omega)
    obtain ⟨q0, q1⟩ := gb i
    unfold ptop
    generalize gt ds ((7 * (i : Int) + 44) % 60).toNat = w at *
    generalize gt ts i = q at *
    refine ⟨Int.mul_nonneg q0 (by omega), ?_⟩
    have : q * (w % 5) ≤ q * 4 := Int.mul_le_mul_of_nonneg_left (by omega) q0
    omega
  generalize (List.range n).map (ptop ds ts) = us at *
  have key : ∀ us : List Int, us.length = n → (∀ u ∈ us, 0 ≤ u ∧ u < 2 ^ 100) → D__law_part (startD ["_law_d", "_law_z", "_law_n", "_law_j", "_law_tops", "_law_i", "_law_b", "_law_g", "_law_x"] [.lst (ds.map .int), ld ts b, .int (n : Nat), .int (j : Nat)]) S = some (.rt (lf us (4 * b)) (S ++ [us.map .int])) → ∃ zs m, O__law_part [.lst (ds.map .int), ld ts b, .int (n : Nat), .int (j : Nat)] S = some (.ok (ld zs m) S) ∧ Lo n zs m := fun us hl hu e => by
    obtain ⟨zs, m, e2, lo, m2, _⟩ := lo_of (b := 4 * b) hl n1 nk (fun t ht => (hu t ht).1) (fun t ht => (hu t ht).2) (by omega) (by omega)
    refine ⟨zs, m, ?_, lo⟩
    rw [← e2]
    exact fn_rt e (by simp) (closed_ld _ _)
  have gl : ∀ us : List Int, (S ++ [us.map D.int])[S.length]? = some (us.map .int) := fun us => get_last S _
  simp only [D__law_part] at key
  rw [st] at key
  by_cases hjn : j < n
  · refine key (us.set j (4 * gt ts j + 1)) (by rw [List.length_set, lt]) (fun u hu => by
      rcases List.mem_or_eq_of_mem_set hu with hu | rfl
      · exact bt u hu
      · have := gb j
        omega) ?_
    refine q_set l (q_ifT (ρ1 := [some (.lst (ds.map .int)), some (ld ts b), some (.int n), some (.int j), some (.ref S.length), none, none, none, none]) (S1 := S ++ [(us.set j (4 * gt ts j + 1)).map .int]) ?_ ?_ ?_)
    · refine x_bin rfl rfl ?_
      simp [oLt, hjn]
    · refine q_nx ?_ rfl
      have e1 : dBin oPlus (dBin oMul (dC (.int 4)) (dBin oIx (dBin oIx (dVar 1) (dC (.int 0))) (dVar 3))) (dC (.int 1)) [some (.lst (ds.map .int)), some (ld ts b), some (.int n), some (.int j), some (.ref S.length), none, none, none, none] (S ++ [us.map .int]) = some (.ok (.int (4 * gt ts j + 1)) (S ++ [us.map .int])) := x_bin (x_bin rfl (x_bin (x_bin rfl rfl (e_ix0 _ _ _)) rfl (ixT (by rw [hn.len]; exact hjn) _)) (o_mulL sm4' _)) rfl rfl
      have ixn : ixN (us.map D.int).length ((j : Nat) : Int) = some j := by
        rw [List.length_map, lt]
        simp [ixN, hjn]
      refine (s_store e1 rfl rfl (gl _) ixn).trans ?_
      rw [set_last, List.map_set]
    · exact q_set (x_bin rfl (x_bin rfl rfl (e_ix1 _ _ _ _)) (o_mulL sm4' _)) (tail_part _ S.length _ _ _ _ _ _ _ _ (gl _) (by omega) (by omega) (by rw [List.length_set, lt]; omega))
  · refine key us lt bt ?_
    refine q_set l (q_ifF ?_ ?_)
    · refine x_bin rfl rfl ?_
      simp [oLt, hjn]
      try omega
    · exact q_set (x_bin rfl (x_bin rfl rfl (e_ix1 _ _ _ _)) (o_mulL sm4' _)) (tail_part _ S.length _ _ _ _ _ _ _ _ (gl _) (by omega) (by omega) (by rw [lt]; omega))
end My
set_option Elab.async false
set_option linter.all false
set_option maxRecDepth 100000
set_option maxHeartbeats 4000000
set_option exponentiation.threshold 20000
namespace My
open PySem PySem.Spec PyProof.Rows L2 PD
theorem Lo.g_ {n : Nat} {ts : List Int} {b : Int} (h : Lo n ts b) (i : Nat) : 0 ≤ gt ts i ∧ gt ts i < 2 ^ 100 := by
  unfold gt
  by_cases hi : i < ts.length
  · rw [List.getD, List.getElem?_eq_getElem hi]
    exact ⟨h.nn _ (List.getElem_mem hi), h.bd _ (List.getElem_mem hi)⟩
  · rw [List.getD, List.getElem?_eq_none (by omega)]
    decide
theorem Lo.m_ {n : Nat} {ts : List Int} {b : Int} (h : Lo n ts b) (i : Nat) : mini (gt ts i) := mini_of (by have := h.g_ i; omega)
theorem mul_lt {x y : Int} (x0 : 0 ≤ x) (x1 : x < 2 ^ 100) (y0 : 1 ≤ y) (y1 : y < 2 ^ 60) : 0 ≤ x * y ∧ x * y < 2 ^ 160 := by
  refine ⟨Int.mul_nonneg x0 (by omega), ?_⟩
  have h1 : x * y ≤ x * 2 ^ 60 := Int.mul_le_mul_of_nonneg_left (by omega) x0
  omega
theorem gt_rep (n : Nat) (x : Int) (i : Nat) (hi : i < n) : gt (List.replicate n x) i = x := by
  simp [gt, List.getD, List.getElem?_replicate, hi]
theorem gt_map (n : Nat) (F : Nat → Int) (i : Nat) (hi : i < n) : gt ((List.range n).map F) i = F i := by
  simp [gt, List.getD, List.getElem?_map, List.getElem?_range, hi]
theorem smallP {x : Int} (h0 : 0 ≤ x) (h1 : x < 2 ^ 600) : small x := Nat.lt_of_lt_of_le (show x.natAbs < 2 ^ 600 by omega) (Nat.pow_le_pow_right (by decide) (by decide))
/-- what is made in lowest terms of n tops and a bottom has the entries that it was made of -/
theorem ent (S : Store) (n : Nat) (ts : List Int) (b : Int) (hl : ts.length = n) (hn : n ≤ 1000) (h0 : ∀ t ∈ ts, 0 ≤ t ∧ t < 2 ^ 600) (b1 : 1 ≤ b) (b2 : b < 2 ^ 600) : O__law_entries [lf ts b, .lst (ts.map .int), .lst ((List.replicate n b).map .int)] S = some (.ok (.bl true) S) := by
  obtain ⟨zs, m, e, l, m1, m2, z0, z1, c⟩ := lf_spec ts b b1 (fun t ht => (h0 t ht).1)
  rw [e]
  exact v_entries S zs ts (List.replicate n b) m l (by simp [hl]) (by omega) (fun z hz => (z0 z hz).1) m1 (by omega) c
    (fun z hz => by
      obtain ⟨a, t, ht, le⟩ := z0 z hz
      have := h0 t ht
      exact smallP a (by omega)) (fun z hz => smallP (h0 z hz).1 (h0 z hz).2) (fun z hz => by rw [List.eq_of_mem_replicate hz]; exact smallP (by omega) b2) (smallP (by omega) (by omega))
    (fun i hi => by rw [gt_rep n b i (by omega)]; exact z1 i hi)
theorem sum_le (M : Int) : ∀ xs : List Int, (∀ x ∈ xs, 0 ≤ x ∧ x ≤ M) → 0 ≤ xs.sum ∧ xs.sum ≤ xs.length * M
  | [], _ => by simp
  | x :: xs, h => by
    obtain ⟨h1, h2⟩ := sum_le M xs fun y hy => h y (List.mem_cons_of_mem _ hy)
    have := h x List.mem_cons_self
    rw [List.sum_cons, List.length_cons]
    have e : ((xs.length + 1 : Nat) : Int) * M = (xs.length : Int) * M + M := by
      rw [Int.natCast_add, Int.add_mul]
      simp
    omega
section
variable {n : Nat} {ts us : List Int} {b c : Int}
abbrev envL (n : Nat) (ts us : List Int) (b c : Int) (bo i r9 r10 r11 : Option D) : EnvD := [some (ld ts b), some (ld us c), some (.int n), some (.tup (ts.map .int)), some (.int b), some (.tup (us.map .int)), some (.int c), bo, i, r9, r10, r11]
theorem m1 (h : Lo n ts b) (k : Lo n us c) (bo r9 r10 r11 : Option D) (i : Nat) (hi : i < n) (T : Store) : dBin oMul (dBin oIx (dVar 3) (dVar 8)) (dVar 6) (envL n ts us b c bo (some (.int i)) r9 r10 r11) T = some (.ok (.int (gt ts i * c)) T) :=
  x_bin (x_bin rfl rfl (ixT (by rw [h.len]; exact hi) T)) rfl (e_mulI (h.m_ i).small k.b_.small T)
theorem m2 (h : Lo n ts b) (k : Lo n us c) (bo r9 r10 r11 : Option D) (i : Nat) (hi : i < n) (T : Store) : dBin oMul (dBin oIx (dVar 5) (dVar 8)) (dVar 4) (envL n ts us b c bo (some (.int i)) r9 r10 r11) T = some (.ok (.int (gt us i * b)) T) :=
  x_bin (x_bin rfl rfl (ixT (by rw [k.len]; exact hi) T)) rfl (e_mulI (k.m_ i).small h.b_.small T)
theorem lc_law (h : Lo n ts b) (k : Lo n us c) (S : Store) (bo r9 r10 r11 : Option D) (F : Nat → Int) (elt : Den) (he : ∀ i < n, ∀ T, elt (envL n ts us b c bo (some (.int (i : Nat))) r9 r10 r11) T = some (.ok (.int (F i)) T)) :
    dLc [8] (dRange1 (dVar 2)) (.one 8) dYes elt (envL n ts us b c bo none r9 r10 r11) S = some (.ok (.lst (((List.range n).map F).map .int)) S) := by
  have l := lc_range (own := [8]) (t := .one 8) (elt := elt) (f := dRange1 (dVar 2)) (ρ := envL n ts us b c bo none r9 r10 r11) (S := S) n (fun i => .int (F i)) (fun i => envL n ts us b c bo (some (.int (i : Nat))) r9 r10 r11) (range1_of rfl (by have := h.nk; omega)) (fun i _ => rfl) he (by have := h.nk; omega) (closeds_ints _ _)
  rw [l, List.map_map]
  rfl
theorem rgD0 (n : Nat) : rgD 0 n = (List.range n).map fun i => .int (i : Nat) := by simp [rgD]
theorem more_law (h : Lo n ts b) (k : Lo n us c) (S : Store) (bo r9 r10 r11 : Option D) : dLc [8] (dRange1 (dVar 2)) (.one 8) (dBin oGt (dBin oMul (dBin oIx (dVar 3) (dVar 8)) (dVar 6)) (dBin oMul (dBin oIx (dVar 5) (dVar 8)) (dVar 4))) (dVar 8) (envL n ts us b c bo none r9 r10 r11) S = some (.ok (.lst ((above ts us b c).map fun i => .int (i : Nat))) S) := by
  have r : dRange1 (dVar 2) (envL n ts us b c bo none r9 r10 r11) S = some (.ok ((List.range n).map fun i => .int (i : Nat)) none S) := by
    rw [← rgD0]
    exact range1_of rfl (by have := h.nk; omega)
  have few : (List.range n).length ≤ 16777216 := by rw [List.length_range]; have := h.nk; omega
  have l := lc_idxF (own := [8]) (t := .one 8) (cnd := dBin oGt (dBin oMul (dBin oIx (dVar 3) (dVar 8)) (dVar 6)) (dBin oMul (dBin oIx (dVar 5) (dVar 8)) (dVar 4))) (elt := dVar 8) (List.range n) (fun i => .int (i : Nat)) (fun i => .int (i : Nat)) (fun i => decide (gt ts i * c > gt us i * b)) (fun i => envL n ts us b c bo (some (.int (i : Nat))) r9 r10 r11) r (fun i _ => rfl)
    (fun i hi T => x_bin (m1 h k bo r9 r10 r11 i (List.mem_range.mp hi) T) (m2 h k bo r9 r10 r11 i (List.mem_range.mp hi) T) rfl) (fun i _ _ T => rfl) few (closeds_ints _ _)
  rw [l]
  unfold above
  rw [h.len]
theorem e_ixL0 (x : D) (xs : List D) (S : Store) : oIx (.lst (x :: xs)) (.int 0) S = some (.ok x S) := by simp [oIx, asSeq, atI, ixN]
/-- what the law's lists are -/
theorem by2_law (h : Lo n ts b) (g : Int → Int → Int) : by2 g ts us b c = (List.range n).map fun i => g (gt ts i * c) (gt us i * b) := by
  unfold by2
  rw [h.len]
theorem bc_lt (h : Lo n ts b) (k : Lo n us c) : 1 ≤ b * c ∧ b * c < 2 ^ 600 := by
  have h1 := h.b1
  have h2 := h.bb
  have k1 := k.b1
  have k2 := k.bb
  have p := Int.mul_pos (a := b) (b := c) (by omega) (by omega)
  have q : b * c ≤ b * 2 ^ 60 := Int.mul_le_mul_of_nonneg_left (by omega) (by omega)
  exact ⟨by omega, by omega⟩
theorem ent2 (h : Lo n ts b) (k : Lo n us c) (S : Store) (g : Int → Int → Int) (hg : ∀ i, i < n → 0 ≤ g (gt ts i * c) (gt us i * b) ∧ g (gt ts i * c) (gt us i * b) < 2 ^ 600) :
    O__law_entries [lf (by2 g ts us b c) (b * c), .lst (((List.range n).map fun i => g (gt ts i * c) (gt us i * b)).map .int), .lst ((List.replicate n (b * c)).map .int)] S = some (.ok (.bl true) S) := by
  rw [← by2_law h g]
  refine ent S n (by2 g ts us b c) (b * c) (by rw [by2_len, h.len]) (by have := h.nk; omega) (fun t ht => ?_) (bc_lt h k).1 (bc_lt h k).2
  rw [by2_law h g] at ht
  obtain ⟨i, hi, rfl⟩ := List.mem_map.mp ht
  exact hg i (List.mem_range.mp hi)
theorem xy (h : Lo n ts b) (k : Lo n us c) (i : Nat) : (0 ≤ gt ts i * c ∧ gt ts i * c < 2 ^ 160) ∧ (0 ≤ gt us i * b ∧ gt us i * b < 2 ^ 160) := by
  obtain ⟨x0, x1⟩ := h.g_ i
  obtain ⟨y0, y1⟩ := k.g_ i
  exact ⟨mul_lt x0 x1 k.b1 k.bb, mul_lt y0 y1 h.b1 h.bb⟩
theorem dot_lt (h : Lo n ts b) (k : Lo n us c) : 0 ≤ dot ts us ∧ dot ts us < 2 ^ 600 := by
  unfold dot
  rw [h.len]
  obtain ⟨s0, s1⟩ := sum_le (2 ^ 200) ((List.range n).map fun i => gt ts i * gt us i) fun x hx => by
    obtain ⟨i, _, rfl⟩ := List.mem_map.mp hx
    obtain ⟨x0, x1⟩ := h.g_ i
    obtain ⟨y0, y1⟩ := k.g_ i
    refine ⟨Int.mul_nonneg x0 y0, ?_⟩
    have e : gt ts i * gt us i ≤ gt ts i * 2 ^ 100 := Int.mul_le_mul_of_nonneg_left (by omega) x0
    omega
  rw [List.length_map, List.length_range] at s1
  have := h.nk
  refine ⟨s0, ?_⟩
  omega
theorem above_enough (h : Lo n ts b) (k : Lo n us c) : enough us ts c b = (above ts us b c).isEmpty := by
  unfold enough above
  rw [h.len, k.len]
  generalize List.range n = l
  induction l with
  | nil => rfl
  | cons i l ih =>
    by_cases hi : gt ts i * c > gt us i * b
    · have : ¬ gt us i * b ≥ gt ts i * c := by omega
      simp [hi, this]
    · have : gt us i * b ≥ gt ts i * c := by omega
      simp [this, ih]
theorem v_loads (S : Store) (h : Lo n ts b) (k : Lo n us c) : O__law_loads [ld ts b, ld us c, .int (n : Nat)] S = some (.ok (.bl true) S) := by
  refine fn_rtS ?_ rfl
  have n1 := h.n1
  have nk := h.nk
  have w := h.two k
  have st : startD ["_law_u", "_law_v", "_law_n", "_law_a", "_law_b", "_law_c", "_law_e", "_law_bots", "_law_i", "_law_more", "_law_flag", "_law_first"] [ld ts b, ld us c, .int (n : Nat)] = [some (ld ts b), some (ld us c), some (.int n), none, none, none, none, none, none, none, none, none] := rfl
  have rp : ((List.replicate n (b * c)).map D.int) = List.replicate n (.int (b * c)) := by rw [List.map_replicate]
  have bo : ∀ T, oMul (.lst [.int (b * c)]) (.int (n : Nat)) T = some (.ok (.lst ((List.replicate n (b * c)).map .int)) T) := fun T => by
    rw [rp]
    exact o_rep _ n (by omega) T
  have bcT := (e_mulI h.b_.small k.b_.small S)
  have e1 := ent2 h k S (fun x y => x + y) fun i _ => by have := xy h k i; omega
  have e2 := ent2 h k S (fun x y => if y < x then y else x) fun i _ => by have := xy h k i; split <;> omega
  have e3 := ent2 h k S (fun x y => if y > x then y else x) fun i _ => by have := xy h k i; split <;> omega
  have dl := dot_lt h k
  have bl := bc_lt h k
  have tn : ∀ x : Int, 0 ≤ x ∧ x < 2 ^ 600 → tiny x := fun x hx => tiny_of (by omega)
  have e4 := v_equal_red S (dot ts us) (b * c) (dot ts us) (b * c) (by omega) (tn _ dl) (tn _ ⟨by omega, bl.2⟩) (tn _ dl).small (tn _ ⟨by omega, bl.2⟩).small rfl
  have ds : dCall oSum (dCons (dLc [8] (dRange1 (dVar 2)) (.one 8) (dYes) (dBin oMul (dBin oIx (dVar 3) (dVar 8)) (dBin oIx (dVar 5) (dVar 8)))) (dNil)) (envL n ts us b c (some (.lst ((List.replicate n (b * c)).map .int))) none none none none) S = some (.ok (.int (dot ts us)) S) := by
    refine x_c1 (lc_law h k S _ _ _ _ (fun i => gt ts i * gt us i) _ fun i hi T => x_bin (x_bin rfl rfl (ixT (by rw [h.len]; exact hi) T)) (x_bin rfl rfl (ixT (by rw [k.len]; exact hi) T)) (e_mulI (h.m_ i).small (k.m_ i).small T)) ?_
    simp only [oSum, asSeq, PD.ints_map, Option.bind_some, Option.map_some, dot, h.len]
  simp only [D__law_loads]
  rw [st]
  refine q_two rfl (q_two rfl (q_set (x_bin (x_lst (y_cons (x_bin rfl rfl bcT) y_nil) rfl) rfl (bo S)) ?_))
  refine q_ifF (x_notT (x_f3 (x_f2 rfl rfl (v_added w S)) (lc_law h k S _ _ _ _ (fun i => gt ts i * c + gt us i * b) _ fun i hi T => x_bin (m1 h k _ _ _ _ i hi T) (m2 h k _ _ _ _ i hi T) rfl) rfl e1)) ?_
  refine q_ifF (x_notT (x_f3 (x_f2 rfl rfl (v_lesser_of w S)) (lc_law h k S _ _ _ _ (fun i => if gt us i * b < gt ts i * c then gt us i * b else gt ts i * c) _ fun i hi T => x_c2 (m1 h k _ _ _ _ i hi T) (m2 h k _ _ _ _ i hi T) rfl) rfl e2)) ?_
  refine q_ifF (x_notT (x_f3 (x_f2 rfl rfl (v_greater_of w S)) (lc_law h k S _ _ _ _ (fun i => if gt us i * b > gt ts i * c then gt us i * b else gt ts i * c) _ fun i hi T => x_c2 (m1 h k _ _ _ _ i hi T) (m2 h k _ _ _ _ i hi T) rfl) rfl e3)) ?_
  refine q_ifF (x_notT (x_f3 (x_f2 rfl rfl (v_product_of w S)) ds (x_bin rfl rfl bcT) e4)) ?_
  refine q_set (more_law h k S _ _ _ _) (q_set (x_f2 rfl rfl (v_is_within w S)) ?_)
  have tk : ∀ (T : Store) r9 r10 r11, enough us ts c b = true → dFn 3 O__law_entries (dCons (dFn 2 O_taken (dCons (dVar 1) (dCons (dVar 0) (dNil)))) (dCons (dLc [8] (dRange1 (dVar 2)) (.one 8) (dYes) (dBin oSub (dBin oMul (dBin oIx (dVar 5) (dVar 8)) (dVar 4)) (dBin oMul (dBin oIx (dVar 3) (dVar 8)) (dVar 6)))) (dCons (dVar 7) (dNil)))) (envL n ts us b c (some (.lst ((List.replicate n (b * c)).map .int))) none r9 r10 r11) T = some (.ok (.bl true) T) := fun T r9 r10 r11 he => by
    have en : ∀ i < n, gt us i * b ≥ gt ts i * c := fun i hi => by
      have := List.all_eq_true.mp he i (List.mem_range.mpr (by rw [k.len]; exact hi))
      simpa using this
    have e5 := ent2 k h T (fun x y => x - y) fun i hi => by have := xy h k i; have := en i hi; omega
    rw [Int.mul_comm c b] at e5
    have t := v_taken (k.two h) he T
    rw [Int.mul_comm c b] at t
    exact x_f3 (x_f2 rfl rfl t) (lc_law h k T _ _ _ _ (fun i => gt us i * b - gt ts i * c) _ fun i hi T => x_bin (m2 h k _ _ _ _ i hi T) (m1 h k _ _ _ _ i hi T) rfl) rfl e5
  have ae := above_enough h k
  have fa := v_first_above w S
  cases ha : above ts us b c with
  | nil =>
    rw [ha] at fa ae
    refine q_ifF (x_orF (x_notT rfl) (x_bin rfl (x_bin (x_c1 rfl rfl) rfl (o_eqI _ _ S)) rfl)) ?_
    refine q_set (x_f2 rfl rfl fa) ?_
    refine q_ifF (x_bin (x_c1 rfl rfl) rfl rfl) ?_
    exact q_ret (x_andT rfl (tk S _ _ _ ae))
  | cons i is =>
    rw [ha] at fa ae
    have he : enough us ts c b = false := ae
    have rf := v_refused S 9 (ld us c) (ld ts b) "other" okOther (v_call_9 (n_taken_more (k.two h) he S) rfl)
    have ln : oLen [.lst ((i :: is).map fun i => D.int (i : Nat))] S = some (.ok (.int ((is.length + 1 : Nat) : Int)) S) := by
      rw [e_lenL]
      simp
    refine q_ifF (x_orF (x_notT rfl) (x_bin rfl (x_bin (x_c1 rfl ln) rfl (o_eqI _ _ S)) ?_)) ?_
    · rw [oNe_of (eqD_bl _ _), beq_eq_false_iff_ne.mpr (show ((is.length + 1 : Nat) : Int) ≠ 0 by omega)]
      rfl
    refine q_set (x_f2 rfl rfl fa) ?_
    refine q_ifR (x_bin (x_c1 rfl ln) rfl ?_) (q_ret (x_andT (x_f1 rfl (v_whole S (.int (i : Nat)) rfl)) (x_andT (x_bin rfl (x_bin rfl rfl (e_ixL0 _ _ S)) ((o_eqI _ _ S).trans (by rw [beq_self_eq_true]))) (x_f4 rfl rfl rfl rfl rf))))
    simp [oGt]
    try omega
end
end My
set_option Elab.async false
set_option linter.all false
set_option maxRecDepth 100000
set_option maxHeartbeats 4000000
set_option exponentiation.threshold 20000
namespace My
open PySem PySem.Spec PyProof.Rows L2 PD
noncomputable abbrev bodyS : SDen := sSeq (sIf (dAnd (dBin oGt (dVar 2) (dC (.int 5))) (dBin oNe (dBin oMod (dCall oInt1 (dCons (dVar 6) (dNil))) (dC (.int 13))) (dC (.int 8)))) (sSeq (sCont) (sNil)) (sNil)) (sSeq (sIf (dOr (dNot (dTru (dFn 3 O__law_equal (dCons (dFn 2 O_entry_of (dCons (dVar 1) (dCons (dVar 6) (dNil)))) (dCons (dBin oIx (dVar 4) (dVar 6)) (dCons (dVar 5) (dNil))))))) (dNot (dTru (dFn 3 O__law_equal (dCons (dFnK 2 2 [1, 0] O_entry_of (dCons (dVar 6) (dCons (dVar 1) (dNil)))) (dCons (dBin oIx (dVar 4) (dVar 6)) (dCons (dVar 5) (dNil)))))))) (sSeq (sRet (dC (.bl false))) (sNil)) (sNil)) (sNil))
section
variable {n : Nat} {ts : List Int} {b : Int}
abbrev envS (n : Nat) (ts : List Int) (b : Int) (d f i r7 r8 r9 r10 r11 : Option D) : EnvD := [d, some (ld ts b), some (.int n), f, some (.tup (ts.map .int)), some (.int b), i, r7, r8, r9, r10, r11]
theorem turn_s (h : Lo n ts b) (S : Store) (d f r7 r8 r9 r10 r11 : Option D) (i : Nat) (hi : i < n) : bodyS (envS n ts b d f (some (.int i)) r7 r8 r9 r10 r11) S = some (.nx (envS n ts b d f (some (.int i)) r7 r8 r9 r10 r11) S) ∨ bodyS (envS n ts b d f (some (.int i)) r7 r8 r9 r10 r11) S = some (.ct (envS n ts b d f (some (.int i)) r7 r8 r9 r10 r11) S) := by
  have b1 := h.b1
  have e := v_entry_of h.one S i (by rw [h.len]; exact hi)
  have q := v_equal_red S (gt ts i) b (gt ts i) b (by omega) (h.m_ i).tiny h.b_.tiny (h.m_ i).small h.b_.small rfl
  have c : dAnd (dBin oGt (dVar 2) (dC (.int 5))) (dBin oNe (dBin oMod (dCall oInt1 (dCons (dVar 6) (dNil))) (dC (.int 13))) (dC (.int 8))) (envS n ts b d f (some (.int i)) r7 r8 r9 r10 r11) S = some (.ok (.bl (decide ((n : Int) > 5) && !((i : Int) % 13 == 8))) S) :=
    x_and rfl fun _ => x_bin (x_bin (x_c1 rfl rfl) rfl (o_mod (by decide) S)) rfl (o_neI _ _ S)
  have ix : dBin oIx (dVar 4) (dVar 6) (envS n ts b d f (some (.int i)) r7 r8 r9 r10 r11) S = some (.ok (.int (gt ts i)) S) := x_bin rfl rfl (ixT (by rw [h.len]; exact hi) S)
  cases hc : decide ((n : Int) > 5) && !((i : Int) % 13 == 8) with
  | true =>
    rw [hc] at c
    refine .inr ?_
    show sSeq _ _ _ _ = _
    rw [e_seq, e_if, c]
    rfl
  | false =>
    rw [hc] at c
    refine .inl ?_
    refine q_ifF c (q_ifF (x_orF (x_notT (x_f3 (x_f2 rfl rfl e) ix rfl q)) (x_notT (x_f3 (x_k10 rfl rfl e) ix rfl q))) rfl)
theorem loop_s (h : Lo n ts b) (S : Store) (d f r7 r8 r9 r10 r11 : Option D) (all : List D) : ∀ (l : List Nat) (i : Option D), (∀ x ∈ l, x < n) → ∃ i', forLoop none all (tName 6) bodyS (l.map fun x => .int (x : Nat)) (envS n ts b d f i r7 r8 r9 r10 r11) S = some (.nx (envS n ts b d f i' r7 r8 r9 r10 r11) S)
  | [], i, _ => ⟨i, rfl⟩
  | x :: l, i, hl => by
    obtain ⟨i', e⟩ := loop_s h S d f r7 r8 r9 r10 r11 all l (some (.int x)) fun y hy => hl y (List.mem_cons_of_mem _ hy)
    refine ⟨i', ?_⟩
    rw [List.map_cons, loop_cons]
    show (match bodyS (envS n ts b d f (some (.int x)) r7 r8 r9 r10 r11) S with
      | some (.nx ρ2 S2) => forLoop none all (tName 6) bodyS (l.map fun x => .int (x : Nat)) ρ2 S2
      | some (.ct ρ2 S2) => forLoop none all (tName 6) bodyS (l.map fun x => .int (x : Nat)) ρ2 S2
      | some (.bk ρ2 S2) => some (.nx ρ2 S2)
      | r => r) = _
    rcases turn_s h S d f r7 r8 r9 r10 r11 x (hl x List.mem_cons_self) with t | t <;> rw [t] <;> exact e
theorem cg_one : ∀ zs : List Int, cg 1 zs = 1 := fun zs => by
  have h1 := (cg_dvd zs 1).1
  have h2 := cg_nonneg zs 1 (by decide)
  have h3 := Int.le_of_dvd (by decide) h1
  have h4 : cg 1 zs ≠ 0 := fun z => by rw [z] at h1; exact absurd (Int.zero_dvd.mp h1) (by decide)
  omega
theorem sm1' : small 1 := small_of (by decide)
theorem ent1 (S : Store) (zs : List Int) (n : Nat) (hl : zs.length = n) (hn : n ≤ 1000) (h0 : ∀ z ∈ zs, 0 ≤ z ∧ z < 2 ^ 600) : O__law_entries [ld zs 1, .lst (zs.map .int), .lst ((List.replicate n 1).map .int)] S = some (.ok (.bl true) S) := by
  exact v_entries S zs zs (List.replicate n 1) 1 rfl (by simp [hl]) (by omega) (fun z hz => (h0 z hz).1) (by omega) (by decide) (cg_one zs)
    (fun z hz => smallP (h0 z hz).1 (h0 z hz).2) (fun z hz => smallP (h0 z hz).1 (h0 z hz).2) (fun z hz => by rw [List.eq_of_mem_replicate hz]; exact sm1') sm1'
    (fun i hi => by rw [gt_rep n 1 i (by omega)])
theorem unit_nn (n j : Nat) : ∀ z ∈ unit n j, 0 ≤ z ∧ z < 2 ^ 600 := fun z hz => by
  obtain ⟨i, _, rfl⟩ := List.mem_map.mp hz
  split <;> decide
theorem unit_len (n j : Nat) : (unit n j).length = n := by simp [unit]
theorem rep_nn (n : Nat) : ∀ z ∈ List.replicate n (0 : Int), 0 ≤ z ∧ z < 2 ^ 600 := fun z hz => by
  rw [List.eq_of_mem_replicate hz]
  decide
/-- the parts that the law makes of a load -/
def ptT (ts : List Int) (i : Nat) : Int := gt ts i * (1 + (i : Int) % 5)
def ptP (ts : List Int) (b : Int) (i : Nat) : Int := ptT ts i / (Int.gcd (ptT ts i) b : Int)
def ptQ (ts : List Int) (b : Int) (i : Nat) : Int := b / (Int.gcd (ptT ts i) b : Int)
theorem ptT_le (h : Lo n ts b) (i : Nat) : 0 ≤ ptT ts i ∧ ptT ts i < 2 ^ 110 := by
  obtain ⟨g0, g1⟩ := h.g_ i
  have m0 : 0 ≤ (i : Int) % 5 := Int.emod_nonneg _ (by decide)
  have m1 : (i : Int) % 5 < 5 := Int.emod_lt_of_pos _ (by decide)
  unfold ptT
  refine ⟨Int.mul_nonneg g0 (by omega), ?_⟩
  have : gt ts i * (1 + (i : Int) % 5) ≤ gt ts i * 5 := Int.mul_le_mul_of_nonneg_left (by omega) g0
  omega
theorem pt_red (h : Lo n ts b) (i : Nat) : red (ptT ts i) b = pr (ptP ts b i) (ptQ ts b i) ∧ amount (pr (ptP ts b i) (ptQ ts b i)) = true ∧ (0 ≤ ptP ts b i ∧ ptP ts b i < 2 ^ 110) ∧ 1 ≤ ptQ ts b i ∧ ptQ ts b i ∣ b := by
  have b1 := h.b1
  obtain ⟨t0, t1⟩ := ptT_le h i
  have e : red (ptT ts i) b = pr (ptP ts b i) (ptQ ts b i) := by
    unfold red ptP ptQ
    rw [if_neg (by omega)]
  obtain ⟨x, y, e2, y1, g1, xy, _, _⟩ := red_spec (ptT ts i) b (by omega)
  rw [e] at e2
  injection e2 with e2
  injection e2 with ex e2
  injection e2 with ey _
  injection ex with ex
  injection ey with ey
  have gp : 0 < (Int.gcd (ptT ts i) b : Int) := by
    have := Int.gcd_pos_of_ne_zero_right (ptT ts i) (b := b) (by omega)
    omega
  have p0 : 0 ≤ ptP ts b i := Int.ediv_nonneg t0 (by omega)
  have p1 : ptP ts b i ≤ ptT ts i := Int.ediv_le_self _ t0
  refine ⟨e, ?_, ⟨p0, by omega⟩, by rw [ey]; exact y1, ?_⟩
  · have q : quot (pr (ptP ts b i) (ptQ ts b i)) = true := quot_pr.mpr ⟨by rw [ey]; exact y1, by rw [ex, ey]; exact g1⟩
    simp only [amount, q, Bool.true_and]
    exact decide_eq_true p0
  · exact ⟨(Int.gcd (ptT ts i) b : Int), (Int.ediv_mul_cancel (Int.gcd_dvd_right ..)).symm⟩
theorem lcmL_of : ∀ (xs : List Int) (g : Int), g ∣ lcmL g xs ∧ ∀ x ∈ xs, x ∣ lcmL g xs
  | [], g => ⟨Int.dvd_refl g, fun _ h => nomatch h⟩
  | x :: xs, g => by
    obtain ⟨h1, h2⟩ := lcmL_of xs ((Nat.lcm g.natAbs x.natAbs : Nat) : Int)
    have a : g ∣ ((Nat.lcm g.natAbs x.natAbs : Nat) : Int) := Int.natAbs_dvd_natAbs.mp (by rw [Int.natAbs_natCast]; exact Nat.dvd_lcm_left ..)
    have c : x ∣ ((Nat.lcm g.natAbs x.natAbs : Nat) : Int) := Int.natAbs_dvd_natAbs.mp (by rw [Int.natAbs_natCast]; exact Nat.dvd_lcm_right ..)
    refine ⟨Int.dvd_trans a h1, fun y hy => ?_⟩
    rcases List.mem_cons.mp hy with rfl | hy
    · exact Int.dvd_trans c h1
    · exact h2 y hy
theorem lcmL_nn : ∀ (xs : List Int) (g : Int), 0 ≤ g → 0 ≤ lcmL g xs
  | [], g, h => h
  | x :: xs, g, _ => lcmL_nn xs _ (by show 0 ≤ ((Nat.lcm g.natAbs x.natAbs : Nat) : Int); omega)
/-- the load made of the parts has their entries -/
theorem made (h : Lo n ts b) (S : Store) : ∃ z, O_load_of [.tup ((List.range n).map fun i => red (ptT ts i) b)] S = some (.ok z S) ∧ O__law_entries [z, .lst (((List.range n).map (ptP ts b)).map .int), .lst (((List.range n).map (ptQ ts b)).map .int)] S = some (.ok (.bl true) S) := by
  have b1 := h.b1
  have bb := h.bb
  have n1 := h.n1
  have nk := h.nk
  have er : ((List.range n).map fun i => red (ptT ts i) b) = (List.range n).map fun i => pr (ptP ts b i) (ptQ ts b i) := List.map_congr_left fun i _ => (pt_red h i).1
  rw [er]
  have v := v_load_of S n (ptP ts b) (ptQ ts b) b n1 (by omega) (fun i _ => (pt_red h i).2.1) (fun i _ => by have := (pt_red h i).2.2.1; exact smallP this.1 (by omega)) b1 (by omega) (fun i _ => (pt_red h i).2.2.2.2)
  have Md : lcmL 1 ((List.range n).map (ptQ ts b)) ∣ b := lcmL_dvd _ 1 (Int.one_dvd b) fun x hx => by
    obtain ⟨i, _, rfl⟩ := List.mem_map.mp hx
    exact (pt_red h i).2.2.2.2
  have Mq : ∀ i < n, ptQ ts b i ∣ lcmL 1 ((List.range n).map (ptQ ts b)) := fun i hi => (lcmL_of _ 1).2 _ (List.mem_map.mpr ⟨i, List.mem_range.mpr hi, rfl⟩)
  have M0 := lcmL_nn ((List.range n).map (ptQ ts b)) 1 (by decide)
  generalize lcmL 1 ((List.range n).map (ptQ ts b)) = M at *
  have Mle := Int.le_of_dvd (by omega) Md
  have M1 : 1 ≤ M := by
    by_cases z : M = 0
    · rw [z] at Md
      have := Int.zero_dvd.mp Md
      omega
    · omega
  refine ⟨_, v, ?_⟩
  have kq : ∀ i < n, ∃ k, M = ptQ ts b i * k ∧ M / ptQ ts b i = k ∧ 1 ≤ k ∧ k ≤ M := fun i hi => by
    obtain ⟨k, hk⟩ := Mq i hi
    have q1 := (pt_red h i).2.2.2.1
    have dk : M / ptQ ts b i = k := by rw [hk]; exact Int.mul_ediv_cancel_left _ (by omega)
    have k0 : 0 ≤ k := by rw [← dk]; exact Int.ediv_nonneg (by omega) (by omega)
    have kz : k ≠ 0 := fun z => by rw [z, Int.mul_zero] at hk; omega
    exact ⟨k, hk, dk, by omega, by rw [← dk]; exact Int.ediv_le_self _ (by omega)⟩
  have raw : ∀ t ∈ (List.range n).map fun i => ptP ts b i * (M / ptQ ts b i), 0 ≤ t ∧ t < 2 ^ 600 := fun t ht => by
    obtain ⟨i, hi, rfl⟩ := List.mem_map.mp ht
    obtain ⟨k, _, dk, k1, kM⟩ := kq i (List.mem_range.mp hi)
    obtain ⟨p0, p1⟩ := (pt_red h i).2.2.1
    rw [dk]
    refine ⟨Int.mul_nonneg p0 (by omega), ?_⟩
    have : ptP ts b i * k ≤ ptP ts b i * 2 ^ 60 := Int.mul_le_mul_of_nonneg_left (by omega) p0
    omega
  obtain ⟨zs, m, e, l, m1, m2, z0, z1, c⟩ := lf_spec _ M M1 fun t ht => (raw t ht).1
  rw [e]
  rw [List.length_map, List.length_range] at l z1
  refine v_entries S zs ((List.range n).map (ptP ts b)) ((List.range n).map (ptQ ts b)) m (by simp [l]) (by simp) (by simp; omega) (fun z hz => (z0 z hz).1) m1 (by omega) c
    (fun z hz => by
      obtain ⟨a, t, ht, le⟩ := z0 z hz
      have := raw t ht
      exact smallP a (by omega)) (fun z hz => by
      obtain ⟨i, _, rfl⟩ := List.mem_map.mp hz
      have := (pt_red h i).2.2.1
      exact smallP this.1 (by omega)) (fun z hz => by
      obtain ⟨i, _, rfl⟩ := List.mem_map.mp hz
      have q := (pt_red h i).2.2.2
      have := Int.le_of_dvd (by omega) q.2
      exact smallP (by omega) (by omega)) (smallP (by omega) (by omega)) fun i hi => ?_
  rw [List.length_map, List.length_range] at hi
  obtain ⟨k, hk, dk, k1, kM⟩ := kq i hi
  have e1 := z1 i hi
  rw [gt_map n _ i hi] at e1
  rw [gt_map n _ i hi, gt_map n _ i hi]
  rw [dk] at e1
  conv at e1 => lhs; rw [hk]
  have e2 : k * (gt zs i * ptQ ts b i) = k * (ptP ts b i * m) := by
    calc k * (gt zs i * ptQ ts b i) = gt zs i * (ptQ ts b i * k) := by rw [Int.mul_comm k, Int.mul_assoc]
      _ = ptP ts b i * k * m := e1
      _ = k * (ptP ts b i * m) := by rw [Int.mul_comm (ptP ts b i) k, Int.mul_assoc]
  exact Int.eq_of_mul_eq_mul_left (by omega) e2
end
end My
set_option Elab.async false
set_option linter.all false
set_option maxRecDepth 100000
set_option maxHeartbeats 4000000
set_option exponentiation.threshold 20000
namespace My
open PySem PySem.Spec PyProof.Rows L2 PD
theorem o_rep' (x : Int) (n : Nat) (hn : n ≤ 1000) (S : Store) : oMul (.lst [.int x]) (.int (n : Nat)) S = some (.ok (.lst ((List.replicate n x).map .int)) S) := by
  rw [o_rep _ n hn S, List.map_replicate]
section
variable {n : Nat} {ts : List Int} {b : Int}
theorem v_singles (S : Store) (ds : List Int) (hd : Dr 70 ds) (h : Lo n ts b) (fx fy : Int) (ha : amount (pr fx fy) = true) (mx : mini fx) (my : mini fy) (hx : fx < 2 ^ 400) (hy : fy < 2 ^ 400) : O__law_singles [.lst (ds.map .int), ld ts b, .int (n : Nat), pr fx fy] S = some (.ok (.bl true) S) := by
  refine fn_rtS ?_ rfl
  have n1 := h.n1
  have nk := h.nk
  have b1 := h.b1
  have bb := h.bb
  have haa := ha
  simp only [amount, Bool.and_eq_true, decide_eq_true_eq] at haa
  obtain ⟨hq, fx0⟩ := haa
  have fy1 := (quot_pr.mp hq).1
  have st : startD ["_law_d", "_law_u", "_law_n", "_law_f", "_law_a", "_law_b", "_law_i", "_law_j", "_law_one_there", "_law_x", "_law_parts", "_law_made"] [.lst (ds.map .int), ld ts b, .int (n : Nat), pr fx fy] = [some (.lst (ds.map .int)), some (ld ts b), some (.int n), some (pr fx fy), none, none, none, none, none, none, none, none] := rfl
  obtain ⟨i', lp⟩ := loop_s h S (some (.lst (ds.map .int))) (some (pr fx fy)) none none none none none ((List.range n).map fun x => .int (x : Nat)) (List.range n) none fun x hx => List.mem_range.mp hx
  have rg : dRange1 (dVar 2) (envS n ts b (some (.lst (ds.map .int))) (some (pr fx fy)) none none none none none none) S = some (.ok ((List.range n).map fun i => .int (i : Nat)) none S) := by
    rw [← rgD0]
    exact range1_of rfl (by omega)
  have sb := sum_le (2 ^ 100) ts fun x hx => ⟨h.nn x hx, by have := h.bd x hx; omega⟩
  rw [h.len] at sb
  have tn : ∀ x : Int, 0 ≤ x → x < 2 ^ 600 → tiny x := fun x h0 h1 => tiny_of (by omega)
  have ts' := tn ts.sum sb.1 (by omega)
  have eq := v_equal_red S ts.sum b ts.sum b (by omega) ts' (tn b (by omega) (by omega)) ts'.small (tn b (by omega) (by omega)).small rfl
  have sm : oSum [.tup (ts.map .int)] S = some (.ok (.int ts.sum) S) := by simp only [oSum, asSeq, PD.ints_map, Option.bind_some, Option.map_some]
  have wt := v_weight_of h.one S
  obtain ⟨⟨w0, w1⟩, iw⟩ := ixDg hd 45 (by decide) (by decide)
  generalize gt ds (45 : Int).toNat = w at *
  have j0 : 0 ≤ w % (n : Int) := Int.emod_nonneg _ (by omega)
  have j1 : w % (n : Int) < n := Int.emod_lt_of_pos _ (by omega)
  obtain ⟨j, hj⟩ : ∃ j : Nat, w % (n : Int) = (j : Int) := ⟨(w % (n : Int)).toNat, by omega⟩
  have jn : j < n := by omega
  have oj : dBin oMod (dCall oInt1 (dCons (dBin oIx (dVar 0) (dC (.int 45))) (dNil))) (dVar 2) (envS n ts b (some (.lst (ds.map .int))) (some (pr fx fy)) i' none none none none none) S = some (.ok (.int (j : Nat)) S) := by
    rw [← hj]
    exact x_bin (x_c1 (x_bin rfl rfl (iw S)) rfl) rfl (o_mod (by omega) S)
  have ot := lc_range (own := [6]) (t := .one 6) (elt := dCall oInt1 (dCons (dBin oEq (dVar 6) (dVar 7)) (dNil))) (f := dRange1 (dVar 2)) (ρ := envS n ts b (some (.lst (ds.map .int))) (some (pr fx fy)) i' (some (.int j)) none none none none) (S := S) n (fun i => .int (if i = j then 1 else 0)) (fun i => envS n ts b (some (.lst (ds.map .int))) (some (pr fx fy)) (some (.int (i : Nat))) (some (.int j)) none none none none)
    (range1_of rfl (by omega)) (fun i _ => rfl) (fun i hi T => x_c1 (x_bin rfl rfl (o_eqI _ _ T)) (by
      by_cases h : i = j
      · subst h
        rw [beq_self_eq_true]
        simp [oInt1]
      · rw [beq_eq_false_iff_ne.mpr (show (i : Int) ≠ (j : Int) by omega)]
        simp [oInt1, h])) (by omega) (closeds_ints _ _)
  have m : ((List.range n).map fun i => D.int (if i = j then 1 else 0)) = (unit n j).map .int := by unfold unit; rw [List.map_map]; rfl
  rw [m] at ot
  have ul := v_unit_load S n j jn (by omega)
  have nl := v_no_load S n n1 (by omega)
  have eu := ent1 S (unit n j) n (unit_len n j) (by omega) (unit_nn n j)
  have en := ent1 S (List.replicate n 0) n (by simp) (by omega) (rep_nn n)
  have sc := mulS h.one mx.small my.small ha S
  have by1 : 1 ≤ b * fy := by
    have := Int.mul_pos (a := b) (b := fy) (by omega) (by omega)
    omega
  have by2' : b * fy < 2 ^ 600 := by
    have : b * fy ≤ b * 2 ^ 400 := Int.mul_le_mul_of_nonneg_left (by omega) (by omega)
    omega
  have es := ent S n (ts.map (· * fx)) (b * fy) (by rw [List.length_map, h.len]) (by omega) (fun t ht => by
    obtain ⟨x, hx', rfl⟩ := List.mem_map.mp ht
    have x0 := h.nn x hx'
    have x1 := h.bd x hx'
    refine ⟨Int.mul_nonneg x0 fx0, ?_⟩
    have : x * fx ≤ x * 2 ^ 400 := Int.mul_le_mul_of_nonneg_left (by omega) x0
    show x * fx < _
    omega) by1 by2'
  have few : (ts.map D.int).length ≤ 16777216 := by rw [List.length_map, h.len]; omega
  have ls := fun r8 => lc_map (own := [9]) (t := .one 9) (elt := dBin oMul (dVar 9) (dBin oIx (dVar 3) (dC (.int 0)))) (f := dItems (dVar 4)) (ρ := envS n ts b (some (.lst (ds.map .int))) (some (pr fx fy)) i' (some (.int j)) r8 none none none) (S := S) (items := ts.map .int) (fun x => .int (ival x * fx)) (fun x => envS n ts b (some (.lst (ds.map .int))) (some (pr fx fy)) i' (some (.int j)) r8 (some x) none none) rfl (fun _ _ => rfl)
    (fun x hx T => by
      obtain ⟨i, hi, rfl⟩ := List.mem_map.mp hx
      exact x_bin rfl (x_bin rfl rfl (e_ix0 _ _ T)) (e_mulI (h.t_ i hi).small mx.small T)) few (by simp [closeds_all, closed])
  have ms : ((ts.map D.int).map fun x => D.int (ival x * fx)) = (ts.map (· * fx)).map .int := by rw [List.map_map, List.map_map]; rfl
  rw [ms] at ls
  have sq : ∀ i : Nat, small64 (1 + (i : Int) % 5) = true := fun i => small64_of (by omega) (show _ < 6 by omega) (by decide)
  have lpt := fun r8 => lc_range (own := [6]) (t := .one 6) (elt := dFn 2 O__law_lowered (dCons (dBin oMul (dBin oIx (dVar 4) (dVar 6)) (dBin oPlus (dC (.int 1)) (dBin oMod (dCall oInt1 (dCons (dVar 6) (dNil))) (dC (.int 5))))) (dCons (dVar 5) (dNil)))) (f := dRange1 (dVar 2)) (ρ := envS n ts b (some (.lst (ds.map .int))) (some (pr fx fy)) i' (some (.int j)) r8 none none none) (S := S) n (fun i => red (ptT ts i) b) (fun i => envS n ts b (some (.lst (ds.map .int))) (some (pr fx fy)) (some (.int (i : Nat))) (some (.int j)) r8 none none none)
    (range1_of rfl (by omega)) (fun i _ => rfl) (fun i hi T => x_f2 (x_bin (x_bin rfl rfl (ixT (by rw [h.len]; exact hi) T)) (x_bin rfl (x_bin (x_c1 rfl rfl) rfl (o_mod (by decide) T)) rfl) (e_mulR (sq i) T)) rfl (v_lowered T (ptT ts i) b (by omega) (tn b (by omega) (by omega)))) (by omega) (by
      simp only [closeds_all, List.all_map, List.all_eq_true]
      exact fun i _ => red_closed _ _)
  obtain ⟨z, mz, ez⟩ := made h S
  have it0 : ∀ r8 r11, dLc [9] (dItems (dVar 10)) (.one 9) (dYes) (dBin oIx (dVar 9) (dC (.int 0))) (envS n ts b (some (.lst (ds.map .int))) (some (pr fx fy)) i' (some (.int j)) r8 none (some (.lst ((List.range n).map fun i => red (ptT ts i) b))) r11) S = some (.ok (.lst (((List.range n).map (ptP ts b)).map .int)) S) := fun r8 r11 => by
    have few : (List.range n).length ≤ 16777216 := by rw [List.length_range]; omega
    have l := lc_idx (own := [9]) (t := .one 9) (elt := dBin oIx (dVar 9) (dC (.int 0))) (f := dItems (dVar 10)) (ρ := envS n ts b (some (.lst (ds.map .int))) (some (pr fx fy)) i' (some (.int j)) r8 none (some (.lst ((List.range n).map fun i => red (ptT ts i) b))) r11) (S := S) (List.range n) (fun i => red (ptT ts i) b) (fun i => .int (ptP ts b i)) (fun i => envS n ts b (some (.lst (ds.map .int))) (some (pr fx fy)) i' (some (.int j)) r8 (some (red (ptT ts i) b)) (some (.lst ((List.range n).map fun i => red (ptT ts i) b))) r11) rfl (fun _ _ => rfl)
      (fun i _ T => x_bin rfl rfl (by rw [(pt_red h i).1]; exact e_ix0 _ _ T)) few (closeds_ints _ _)
    rw [l, List.map_map]
    rfl
  have it1 : ∀ r8 r11, dLc [9] (dItems (dVar 10)) (.one 9) (dYes) (dBin oIx (dVar 9) (dC (.int 1))) (envS n ts b (some (.lst (ds.map .int))) (some (pr fx fy)) i' (some (.int j)) r8 none (some (.lst ((List.range n).map fun i => red (ptT ts i) b))) r11) S = some (.ok (.lst (((List.range n).map (ptQ ts b)).map .int)) S) := fun r8 r11 => by
    have few : (List.range n).length ≤ 16777216 := by rw [List.length_range]; omega
    have l := lc_idx (own := [9]) (t := .one 9) (elt := dBin oIx (dVar 9) (dC (.int 1))) (f := dItems (dVar 10)) (ρ := envS n ts b (some (.lst (ds.map .int))) (some (pr fx fy)) i' (some (.int j)) r8 none (some (.lst ((List.range n).map fun i => red (ptT ts i) b))) r11) (S := S) (List.range n) (fun i => red (ptT ts i) b) (fun i => .int (ptQ ts b i)) (fun i => envS n ts b (some (.lst (ds.map .int))) (some (pr fx fy)) i' (some (.int j)) r8 (some (red (ptT ts i) b)) (some (.lst ((List.range n).map fun i => red (ptT ts i) b))) r11) rfl (fun _ _ => rfl)
      (fun i _ T => x_bin rfl rfl (by rw [(pt_red h i).1]; exact e_ix1 _ _ _ T)) few (closeds_ints _ _)
    rw [l, List.map_map]
    rfl
  simp only [D__law_singles]
  rw [st]
  refine q_two rfl (q_for (w := none) (S1 := S) rg lp ?_)
  refine q_ifF (x_orF (x_notT (x_f3 (x_f1 rfl wt) (x_c1 rfl sm) rfl eq)) (x_notT (x_f3 (x_k1 rfl wt) (x_c1 rfl sm) rfl eq))) ?_
  refine q_set oj (q_set ot ?_)
  have one : ∀ ρ : EnvD, ρ[2]? = some (some (.int (n : Nat))) → dBin oMul (dLst (dCons (dC (.int 1)) (dNil))) (dVar 2) ρ S = some (.ok (.lst ((List.replicate n 1).map .int)) S) := fun ρ hr => x_bin rfl (by rw [e_var, hr]) (o_rep' 1 n (by omega) S)
  have nul : ∀ ρ : EnvD, ρ[2]? = some (some (.int (n : Nat))) → dBin oMul (dLst (dCons (dC (.int 0)) (dNil))) (dVar 2) ρ S = some (.ok (.lst ((List.replicate n 0).map .int)) S) := fun ρ hr => x_bin rfl (by rw [e_var, hr]) (o_rep' 0 n (by omega) S)
  refine q_ifF (x_orF (x_notT (x_f3 (x_f2 rfl rfl ul) rfl (one _ rfl) eu)) (x_notT (x_f3 (x_f1 rfl nl) (nul _ rfl) (one _ rfl) en))) ?_
  refine q_ifF (x_notT (x_f3 (x_k10 rfl rfl ul) rfl (one _ rfl) eu)) ?_
  refine q_ifF (x_notT (x_f3 (x_k1 rfl nl) (nul _ rfl) (one _ rfl) en)) ?_
  refine q_ifF (x_notT (x_f3 (x_f2 rfl rfl sc) (ls _) (x_bin (x_lst (y_cons (x_bin rfl (x_bin rfl rfl (e_ix1 _ _ _ S)) (e_mulI h.b_.small my.small S)) y_nil) rfl) rfl (o_rep' _ n (by omega) S)) es)) ?_
  exact q_set (lpt _) (q_set (x_k1 (x_c1 rfl rfl) mz) (q_ret (x_f3 rfl (it0 _ _) (it1 _ _) ez)))
end
end My
set_option Elab.async false
set_option linter.all false
set_option maxRecDepth 100000
set_option maxHeartbeats 4000000
set_option exponentiation.threshold 20000
namespace My
open PySem PySem.Spec PyProof.Rows L2 PD
theorem okPlace : PyData.strOk "place" = true := by decide +kernel
theorem okFactor : PyData.strOk "factor" = true := by decide +kernel
def sevens : List Int := [8, 9, 11, 12, 13, 14, 15]
theorem ref_load (S : Store) {w : Int} (hw : w ∈ sevens) {ts : List Int} {b : Int} {d : D} (h : tellL d = true) (hl : loadB ts.length d = false) : O__law_refused [.int w, ld ts b, d, .str "other"] S = some (.ok (.bl true) S) := by
  simp only [sevens, List.mem_cons, List.not_mem_nil, or_false] at hw
  rcases hw with rfl | rfl | rfl | rfl | rfl | rfl | rfl
  · exact v_refused S 8 _ _ "other" okOther (v_call_8 (n_added h hl) rfl)
  · exact v_refused S 9 _ _ "other" okOther (v_call_9 (n_taken_load h hl) rfl)
  · exact v_refused S 11 _ _ "other" okOther (v_call_11 (n_product_of h hl) rfl)
  · exact v_refused S 12 _ _ "other" okOther (v_call_12 (n_is_within h hl) rfl)
  · exact v_refused S 13 _ _ "other" okOther (v_call_13 (n_lesser_of h hl) rfl)
  · exact v_refused S 14 _ _ "other" okOther (v_call_14 (n_greater_of h hl) rfl)
  · exact v_refused S 15 _ _ "other" okOther (v_call_15 (n_first_above h hl) rfl)
theorem ref_factor (S : Store) {ts : List Int} {b : Int} {d : D} (h : tell d = true) (hl : amount d = false) : O__law_refused [.int 10, ld ts b, d, .str "factor"] S = some (.ok (.bl true) S) :=
  v_refused S 10 _ _ "factor" okFactor (v_call_10 (n_scaled h hl) rfl)
def facs : List D := [pr (-1) 2, pr 2 4, .non, .bl true, .int 2, .lst [.int 1, .int 2], pr 1 0, pr 0 2]
theorem facs_ok : ∀ x ∈ facs, tell x = true ∧ amount x = false := by
  have h : (facs.all fun x => tell x && !amount x) = true := by decide +kernel
  intro x hx
  have := List.all_eq_true.mp h x hx
  simpa using this
def oddP (n : Int) : List D := [.int n, .int (-1), .bl true, .non, .str "0", .tup [.int 0], .lst [.int 0], .int (n + 3)]
theorem oddP_ok (n : Int) : ∀ x ∈ oddP n, told x = true ∧ (numb x && decide (ival x < n)) = false := by
  intro x hx
  simp only [oddP, List.mem_cons, List.not_mem_nil, or_false] at hx
  rcases hx with rfl | rfl | rfl | rfl | rfl | rfl | rfl | rfl
  · refine ⟨rfl, ?_⟩
    simp [ival]
  · exact ⟨rfl, rfl⟩
  · exact ⟨rfl, rfl⟩
  · exact ⟨rfl, rfl⟩
  · exact ⟨rfl, rfl⟩
  · exact ⟨rfl, rfl⟩
  · exact ⟨rfl, rfl⟩
  · refine ⟨rfl, ?_⟩
    rw [show decide (ival (.int (n + 3)) < n) = false from decide_eq_false (by show ¬ (n + 3 < n); omega), Bool.and_false]
/-- what is near a load, and no load -/
def badL (ts : List Int) (b : Int) : List D :=
  [.tup [.tup (ts.map .int ++ [.int 0]), .int b], ld (ts.map fun x => 2 * x) (2 * b), .lst [.tup (ts.map .int), .int b], .tup [.lst (ts.map .int), .int b], .tup (ts.map .int), .non, .tup [.tup (ts.map .int), .bl true], .tup [.tup (ts.map .int), .int 0], .tup [.tup ((ts.map D.int).drop 1), .int b]] ++
  [.tup [.tup (.bl true :: (ts.map D.int).drop 1), .int 1], .tup [.tup (.int (-1) :: (ts.map D.int).drop 1), .int 1], .tup [.tup (ts.map .int), .int b, .int 1], .bl true, .str "0/1"]
theorem told_ints (ts : List Int) : (ts.map D.int).all told = true := List.all_eq_true.mpr fun x hx => by
  obtain ⟨i, _, rfl⟩ := List.mem_map.mp hx
  rfl
theorem told_drop (ts : List Int) : ((ts.map D.int).drop 1).all told = true := List.all_eq_true.mpr fun x hx => List.all_eq_true.mp (told_ints ts) x (List.mem_of_mem_drop hx)
theorem badL_ok {n : Nat} {ts : List Int} {b : Int} (h : Lo n ts b) : ∀ x ∈ badL ts b, tellL x = true ∧ loadB ts.length x = false := by
  have n1 := h.n1
  have nk := h.nk
  have hl := h.len
  have ti := told_ints ts
  have td := told_drop ts
  intro x hx
  simp only [badL, List.cons_append, List.nil_append, List.mem_cons, List.not_mem_nil, or_false] at hx
  rcases hx with rfl | rfl | rfl | rfl | rfl | rfl | rfl | rfl | rfl | rfl | rfl | rfl | rfl | rfl
  · refine ⟨?_, ?_⟩
    · simp only [tellL, tell, List.all_cons, List.all_nil, List.all_append, ti, told, tyName]
      simp
      omega
    · have : ¬ ((ts.length : Int) + 1 = ts.length) := by omega
      simp [loadB, numsB, this]
  · refine ⟨tellL_ld _ _ (by rw [List.length_map]; omega), ?_⟩
    have c : (2 : Int) ∣ cd ((ts.map fun x => 2 * x) ++ [2 * b]) := cd_of fun x hx => by
      rcases List.mem_append.mp hx with hx | hx
      · obtain ⟨y, _, rfl⟩ := List.mem_map.mp hx
        exact ⟨y, rfl⟩
      · rw [List.mem_singleton.mp hx]
        exact ⟨b, rfl⟩
    have k : (cd ((ts.map fun x => 2 * x) ++ [2 * b]) == 1) = false := by
      refine beq_eq_false_iff_ne.mpr fun z => ?_
      rw [z] at c
      exact absurd c (by decide)
    simp only [loadB]
    rw [ival_int, k, Bool.and_false]
  · exact ⟨rfl, rfl⟩
  · exact ⟨by simp [tellL, tell, told, tyName], by simp [loadB, numsB]⟩
  · refine ⟨?_, ?_⟩
    · simp only [tellL, List.all_eq_true]
      intro x hx
      obtain ⟨i, _, rfl⟩ := List.mem_map.mp hx
      rfl
    · cases ts with
      | nil => rfl
      | cons a ts => cases ts with
        | nil => rfl
        | cons c ts => cases ts <;> rfl
  · exact ⟨rfl, rfl⟩
  · refine ⟨?_, ?_⟩
    · simp [tellL, tell, told, tyName]
      omega
    · simp [loadB, bott]
  · refine ⟨?_, ?_⟩
    · simp [tellL, tell, told, tyName]
      omega
    · simp [loadB, bott]
  · refine ⟨?_, ?_⟩
    · simp only [tellL, tell, List.all_cons, List.all_nil, td, told, tyName]
      simp
      omega
    · have : ¬ (((ts.length - 1 : Nat) : Int) = ts.length) := by omega
      simp [loadB, numsB, this]
  · refine ⟨?_, ?_⟩
    · simp only [tellL, tell, List.all_cons, List.all_nil, td, told, tyName]
      simp
      omega
    · simp [loadB, numsB, numb]
  · refine ⟨?_, ?_⟩
    · simp only [tellL, tell, List.all_cons, List.all_nil, td, told, tyName]
      simp
      omega
    · simp [loadB, numsB, numb]
  · refine ⟨?_, ?_⟩
    · simp [tellL, tell, told, tyName]
      omega
    · rfl
  · exact ⟨rfl, rfl⟩
  · exact ⟨rfl, rfl⟩
end My
set_option Elab.async false
set_option linter.all false
set_option maxRecDepth 100000
set_option maxHeartbeats 4000000
set_option exponentiation.threshold 20000
namespace My
open PySem PySem.Spec PyProof.Rows L2 PD
noncomputable abbrev bodyN1 : SDen := sSeq (sSet 6 (dBin oIx (dLst (dCons (dVar 1) (dCons (dVar 2) (dNil)))) (dVar 5))) (sSeq (sIf (dNot (dTru (dFn 4 O__law_refused (dCons (dBin oPlus (dC (.int 6)) (dVar 5)) (dCons (dVar 6) (dCons (dBin oIx (dVar 4) (dBin oMod (dCall oInt1 (dCons (dBin oPlus (dBin oIx (dVar 0) (dC (.int 46))) (dVar 5)) (dNil))) (dC (.int 8)))) (dCons (dC (.str "place")) (dNil)))))))) (sSeq (sRet (dC (.bl false))) (sNil)) (sNil)) (sNil))
noncomputable abbrev bodyN2 : SDen := sSeq (sSet 5 (dBin oIx (dLst (dCons (dC (.int 8)) (dCons (dC (.int 9)) (dCons (dC (.int 11)) (dCons (dC (.int 12)) (dCons (dC (.int 13)) (dCons (dC (.int 14)) (dCons (dC (.int 15)) (dCons (dC (.int 10)) (dNil)))))))))) (dVar 11))) (sSeq (sSet 9 (dBin oIx (dVar 10) (dBin oMod (dCall oInt1 (dCons (dBin oPlus (dBin oIx (dVar 0) (dC (.int 47))) (dBin oMul (dC (.int 3)) (dVar 11))) (dNil))) (dC (.int 14))))) (sSeq (sSet 12 (dC (.str "other"))) (sSeq (sIf (dBin oEq (dVar 5) (dC (.int 10))) (sSeq (sSet 12 (dC (.str "factor"))) (sSeq (sSet 9 (dBin oIx (dLst (dCons (dTup (dCons (dUn oNeg (dC (.int 1))) (dCons (dC (.int 2)) (dNil)))) (dCons (dTup (dCons (dC (.int 2)) (dCons (dC (.int 4)) (dNil)))) (dCons (dC .non) (dCons (dC (.bl true)) (dCons (dC (.int 2)) (dCons (dLst (dCons (dC (.int 1)) (dCons (dC (.int 2)) (dNil)))) (dCons (dTup (dCons (dC (.int 1)) (dCons (dC (.int 0)) (dNil)))) (dCons (dTup (dCons (dC (.int 0)) (dCons (dC (.int 2)) (dNil)))) (dNil)))))))))) (dBin oMod (dCall oInt1 (dCons (dBin oIx (dVar 0) (dC (.int 48))) (dNil))) (dC (.int 8))))) (sNil))) (sNil)) (sSeq (sIf (dNot (dTru (dFn 4 O__law_refused (dCons (dVar 5) (dCons (dVar 1) (dCons (dVar 9) (dCons (dVar 12) (dNil)))))))) (sSeq (sRet (dC (.bl false))) (sNil)) (sNil)) (sNil)))))
section
variable {n : Nat} {ts : List Int} {b : Int}
theorem turn_n1 (h : Lo n ts b) (S : Store) (ds : List Int) (hd : Dr 70 ds) (p r6 r7 r8 r9 r10 r11 r12 : Option D) (w : Int) (hw : w = 0 ∨ w = 1) : ∃ r6', bodyN1 [some (.lst (ds.map .int)), some (ld ts b), some (.int n), p, some (.lst (oddP n)), some (.int w), r6, r7, r8, r9, r10, r11, r12] S = some (.nx [some (.lst (ds.map .int)), some (ld ts b), some (.int n), p, some (.lst (oddP n)), some (.int w), r6', r7, r8, r9, r10, r11, r12] S) := by
  obtain ⟨⟨v0, v1⟩, iv⟩ := ixDg hd 46 (by decide) (by decide)
  generalize gt ds (46 : Int).toNat = v at *
  obtain ⟨x, hx, ix⟩ := ixL (oddP n) ((v + w) % 8) (Int.emod_nonneg _ (by decide)) (Int.emod_lt_of_pos _ (by decide))
  obtain ⟨x1, x2⟩ := oddP_ok n x hx
  have rf : O__law_refused [.int (6 + w), (if w = 0 then ld ts b else .int n), x, .str "place"] S = some (.ok (.bl true) S) := by
    rcases hw with rfl | rfl
    · exact v_refused S 6 _ _ "place" okPlace (v_call_6 (n_entry_of ts b S x x1 (by rw [h.len]; exact x2)) rfl)
    · exact v_refused S 7 _ _ "place" okPlace (v_call_7 (n_unit_load n S x x1 x2) rfl)
  have fx : dBin oIx (dLst (dCons (dVar 1) (dCons (dVar 2) (dNil)))) (dVar 5) [some (.lst (ds.map .int)), some (ld ts b), some (.int n), p, some (.lst (oddP n)), some (.int w), r6, r7, r8, r9, r10, r11, r12] S = some (.ok (if w = 0 then ld ts b else .int n) S) := by
    rcases hw with rfl | rfl <;> rfl
  exact ⟨_, q_set fx (q_ifF (x_notT (x_f4 (x_bin rfl rfl rfl) rfl (x_bin rfl (x_bin (x_c1 (x_bin (x_bin rfl rfl (iv S)) rfl rfl) rfl) rfl (o_mod (by decide) S)) (ix S)) rfl rf)) rfl)⟩
theorem turn_n2 (h : Lo n ts b) (S : Store) (ds : List Int) (hd : Dr 70 ds) (r2 p r4 r5 r6 r7 r8 r9 r12 : Option D) (k : Int) (k0 : 0 ≤ k) (k1 : k < 8) : ∃ r5' r9' r12', bodyN2 [some (.lst (ds.map .int)), some (ld ts b), r2, p, r4, r5, r6, r7, r8, r9, some (.lst (badL ts b)), some (.int k), r12] S = some (.nx [some (.lst (ds.map .int)), some (ld ts b), r2, p, r4, r5', r6, r7, r8, r9', some (.lst (badL ts b)), some (.int k), r12'] S) := by
  obtain ⟨⟨u0, u1⟩, iu⟩ := ixDg hd 47 (by decide) (by decide)
  generalize gt ds (47 : Int).toNat = u at *
  obtain ⟨⟨v0, v1⟩, iv⟩ := ixDg hd 48 (by decide) (by decide)
  generalize gt ds (48 : Int).toNat = v at *
  have lb : (badL ts b).length = 14 := rfl
  obtain ⟨x, hx, ix⟩ := ixL (badL ts b) ((u + 3 * k) % 14) (Int.emod_nonneg _ (by decide)) (Int.emod_lt_of_pos _ (by decide))
  obtain ⟨x1, x2⟩ := badL_ok h x hx
  obtain ⟨mw, iw⟩ := ixI [8, 9, 11, 12, 13, 14, 15, 10] k k0 (by simp; omega)
  generalize gt [8, 9, 11, 12, 13, 14, 15, 10] k.toNat = w at *
  obtain ⟨y, hy, iy⟩ := ixL facs (v % 8) (Int.emod_nonneg _ (by decide)) (Int.emod_lt_of_pos _ (by decide))
  obtain ⟨y1, y2⟩ := facs_ok y hy
  by_cases hw : w = 10
  · have c : (w == 10) = true := by rw [hw]; rfl
    subst hw
    refine ⟨some (.int 10), some y, some (.str "factor"), ?_⟩
    refine q_set (x_bin rfl rfl (iw S)) (q_set (x_bin rfl (x_bin (x_c1 (x_bin (x_bin rfl rfl (iu S)) (x_bin rfl rfl (o_mulL sm3' S)) rfl) rfl) rfl (o_mod (by decide) S)) (ix S)) (q_set rfl ?_))
    refine q_ifT ((x_bin rfl rfl (o_eqI _ _ S)).trans (by rw [c])) (q_set rfl (q_set (x_bin rfl (x_bin (x_c1 (x_bin rfl rfl (iv S)) rfl) rfl (o_mod (by decide) S)) (iy S)) rfl)) ?_
    exact q_ifF (x_notT (x_f4 rfl rfl rfl rfl (ref_factor S y1 y2))) rfl
  · have c : (w == 10) = false := beq_eq_false_iff_ne.mpr hw
    have w7 : w ∈ sevens := by
      simp only [List.mem_cons, List.not_mem_nil, or_false] at mw
      simp only [sevens, List.mem_cons, List.not_mem_nil, or_false]
      omega
    refine ⟨some (.int w), some x, some (.str "other"), ?_⟩
    refine q_set (x_bin rfl rfl (iw S)) (q_set (x_bin rfl (x_bin (x_c1 (x_bin (x_bin rfl rfl (iu S)) (x_bin rfl rfl (o_mulL sm3' S)) rfl) rfl) rfl (o_mod (by decide) S)) (ix S)) (q_set rfl ?_))
    refine q_ifF ((x_bin rfl rfl (o_eqI _ _ S)).trans (by rw [c])) ?_
    exact q_ifF (x_notT (x_f4 rfl rfl rfl rfl (ref_load S w7 x1 x2))) rfl
theorem x_items {ρ : EnvD} {S : Store} {f : Den} {d : D} {items : List D} {w : Option Nat} (h : f ρ S = some (.ok d S)) (hw : asWalk S d = some (items, w)) : dItems f ρ S = some (.ok items w S) := by
  rw [e_items, h, bndi_ok, hw]
  rfl
theorem loop_cons_nx {t : TDen} {g : SDen} {all : List D} {x : D} {xs : List D} {ρ ρ1 ρ2 : EnvD} {S : Store} {R : Option SRes} (ht : t x ρ S = some ρ1) (hg : g ρ1 S = some (.nx ρ2 S)) (hr : forLoop none all t g xs ρ2 S = R) : forLoop none all t g (x :: xs) ρ S = R := by
  rw [loop_cons, ht]
  simp only [hg]
  exact hr
theorem loop_n2 (h : Lo n ts b) (S : Store) (ds : List Int) (hd : Dr 70 ds) (r2 p r4 r6 r7 r8 : Option D) (all : List D) : ∀ (l : List Int) (r5 r9 r11 r12 : Option D), (∀ k ∈ l, 0 ≤ k ∧ k < 8) → ∃ r5' r9' r11' r12', forLoop none all (tName 11) bodyN2 (l.map .int) [some (.lst (ds.map .int)), some (ld ts b), r2, p, r4, r5, r6, r7, r8, r9, some (.lst (badL ts b)), r11, r12] S = some (.nx [some (.lst (ds.map .int)), some (ld ts b), r2, p, r4, r5', r6, r7, r8, r9', some (.lst (badL ts b)), r11', r12'] S)
  | [], r5, r9, r11, r12, _ => ⟨r5, r9, r11, r12, rfl⟩
  | k :: l, r5, r9, r11, r12, hl => by
    obtain ⟨k0, k1⟩ := hl k List.mem_cons_self
    obtain ⟨q5, q9, q12, t⟩ := turn_n2 h S ds hd r2 p r4 r5 r6 r7 r8 r9 r12 k k0 k1
    obtain ⟨r5', r9', r11', r12', e⟩ := loop_n2 h S ds hd r2 p r4 r6 r7 r8 all l q5 q9 (some (.int k)) q12 fun y hy => hl y (List.mem_cons_of_mem _ hy)
    exact ⟨r5', r9', r11', r12', loop_cons_nx rfl t e⟩
theorem v_no_loads (S : Store) (ds : List Int) (hD : Dr 70 ds) (h : Lo n ts b) (px py : Int) (hq : quot (pr px py) = true) : O__law_no_loads [.lst (ds.map .int), ld ts b, .int (n : Nat), pr px py] S = some (.ok (.bl true) S) := by
  refine fn_rtS ?_ rfl
  have n1 := h.n1
  have nk := h.nk
  have hl := h.len
  have st : startD ["_law_d", "_law_u", "_law_n", "_law_p", "_law_odd", "_law_which", "_law_first", "_law_wide", "_law_twice", "_law_x", "_law_bad", "_law_k", "_law_name"] [.lst (ds.map .int), ld ts b, .int (n : Nat), pr px py] = [some (.lst (ds.map .int)), some (ld ts b), some (.int n), some (pr px py), none, none, none, none, none, none, none, none, none] := rfl
  obtain ⟨q6, t1⟩ := turn_n1 h S ds hD (some (pr px py)) none none none none none none none 0 (.inl rfl)
  obtain ⟨q6', t2⟩ := turn_n1 h S ds hD (some (pr px py)) q6 none none none none none none 1 (.inr rfl)
  have l1 : forLoop none (rgD 0 2) (tName 5) bodyN1 (rgD 0 2) [some (.lst (ds.map .int)), some (ld ts b), some (.int n), some (pr px py), some (.lst (oddP n)), none, none, none, none, none, none, none, none] S = some (.nx [some (.lst (ds.map .int)), some (ld ts b), some (.int n), some (pr px py), some (.lst (oddP n)), some (.int 1), q6', none, none, none, none, none, none] S) :=
    loop_cons_nx rfl t1 (loop_cons_nx rfl t2 rfl)
  have few : (ts.map D.int).length ≤ 16777216 := by rw [List.length_map]; omega
  have l2 := fun r5 r6 r7 => lc_map (own := [9]) (t := .one 9) (elt := dBin oMul (dC (.int 2)) (dVar 9)) (f := dItems (dBin oIx (dVar 1) (dC (.int 0)))) (ρ := [some (.lst (ds.map .int)), some (ld ts b), some (.int n), some (pr px py), some (.lst (oddP n)), r5, r6, r7, none, none, none, none, none]) (S := S) (items := ts.map .int) (fun x => .int (2 * ival x)) (fun x => [some (.lst (ds.map .int)), some (ld ts b), some (.int n), some (pr px py), some (.lst (oddP n)), r5, r6, r7, none, some x, none, none, none])
    (x_items (x_bin rfl rfl (e_ix0 _ _ S)) rfl) (fun _ _ => rfl)
    (fun x hx T => by
      obtain ⟨i, hi, rfl⟩ := List.mem_map.mp hx
      exact x_bin rfl rfl (o_mulL (by decide) T)) few (by simp [closeds_all, closed])
  have l2d : ((ts.map D.int).map fun x => D.int (2 * ival x)) = (ts.map fun x => 2 * x).map .int := by rw [List.map_map, List.map_map]; rfl
  rw [l2d] at l2
  have wd : ∀ T, oPlus (.tup (ts.map .int)) (.tup [.int 0]) T = some (.ok (.tup (ts.map .int ++ [.int 0])) T) := fun T => by
    show (if _ then _ else _) = _
    rw [if_pos (by simp; omega)]
  have ne : ts ≠ [] := fun z => by rw [z] at hl; simp at hl; omega
  have ctD : PD.cutD (ts.map D.int) (some 1) none = (ts.map D.int).drop 1 := by
    cases ts with
    | nil => exact absurd rfl ne
    | cons a ts =>
      have e1 : HT.sIx (ts.length + 1) 0 (some 1) = 1 := by simp [HT.sIx]
      simp only [PD.cutD, List.map_cons, List.length_cons, List.length_map, e1, HT.sIx_none]
      rw [List.drop_succ_cons, List.drop_zero, List.take_of_length_le (by simp)]
  have hd : ∀ ρ : EnvD, ρ[1]? = some (some (ld ts b)) → ∀ T, dBin oIx (dVar 1) (dC (.int 0)) ρ T = some (.ok (.tup (ts.map .int)) T) := fun ρ hr T => x_bin (by rw [e_var, hr]) rfl (e_ix0 _ _ T)
  have bt : ∀ ρ : EnvD, ρ[1]? = some (some (ld ts b)) → ∀ T, dBin oIx (dVar 1) (dC (.int 1)) ρ T = some (.ok (.int b) T) := fun ρ hr T => x_bin (by rw [e_var, hr]) rfl (e_ix1 _ _ _ T)
  have ct : ∀ ρ : EnvD, ρ[1]? = some (some (ld ts b)) → ∀ T, dCut (dBin oIx (dVar 1) (dC (.int 0))) (some (dC (.int 1))) none ρ T = some (.ok (.tup ((ts.map D.int).drop 1)) T) := fun ρ hr T => by
    unfold dCut
    rw [hd ρ hr T, bnd_ok]
    show oCut (.tup (ts.map .int)) (some 1) none T = _
    show some (Res.ok (D.tup (PD.cutD (ts.map D.int) (some 1) none)) T) = _
    rw [ctD]
  have w1 : ∀ x T, oPlus (.tup [x]) (.tup ((ts.map D.int).drop 1)) T = some (.ok (.tup (x :: (ts.map D.int).drop 1)) T) := fun x T => by
    show (if _ then _ else _) = _
    rw [if_pos (by simp; omega)]
    rfl
  have ls : oList1 [.tup (ts.map .int)] S = some (.ok (.lst (ts.map .int)) S) := rfl
  obtain ⟨r5, r9, r11, r12, l3⟩ := loop_n2 h S ds hD (some (.int n)) (some (pr px py)) (some (.lst (oddP n))) q6' (some (.tup [.tup (ts.map .int ++ [.int 0]), .int b])) (some (ld (ts.map fun x => 2 * x) (2 * b))) (rgD 0 8) [0, 1, 2, 3, 4, 5, 6, 7] (some (.int 1)) none none none (by decide)
  simp only [D__law_no_loads]
  rw [st]
  refine q_set (x_lst (y_cons rfl (y_cons rfl (y_cons rfl (y_cons rfl (y_cons rfl (y_cons rfl (y_cons rfl (y_cons rfl y_nil)))))))) rfl) ?_
  refine q_for (w := none) (items := rgD 0 2) (S1 := S) rfl l1 ?_
  refine q_set (x_tup (y_cons (x_bin (hd _ rfl S) rfl (wd S)) (y_cons (bt _ rfl S) y_nil)) rfl) ?_
  refine q_set (x_tup (y_cons (x_c1 (l2 _ _ _) rfl) (y_cons (x_bin rfl (bt _ rfl S) (o_mulL (by decide) S)) y_nil)) rfl) ?_
  refine q_set (x_lst (y_cons rfl (y_cons rfl (y_cons (x_lst (y_cons (hd _ rfl S) (y_cons (bt _ rfl S) y_nil)) rfl) (y_cons (x_tup (y_cons (x_c1 (hd _ rfl S) ls) (y_cons (bt _ rfl S) y_nil)) rfl) (y_cons (hd _ rfl S) (y_cons rfl (y_cons (x_tup (y_cons (hd _ rfl S) (y_cons rfl y_nil)) rfl) (y_cons (x_tup (y_cons (hd _ rfl S) (y_cons rfl y_nil)) rfl) (y_cons (x_tup (y_cons (ct _ rfl S) (y_cons (bt _ rfl S) y_nil)) rfl) y_nil))))))))) rfl) ?_
  refine q_set (d := .lst (badL ts b)) (x_bin rfl (x_lst (y_cons (x_tup (y_cons (x_bin rfl (ct _ rfl S) (w1 _ S)) (y_cons rfl y_nil)) rfl) (y_cons (x_tup (y_cons (x_bin rfl (ct _ rfl S) (w1 _ S)) (y_cons rfl y_nil)) rfl) (y_cons (x_tup (y_cons (hd _ rfl S) (y_cons (bt _ rfl S) (y_cons rfl y_nil))) rfl) (y_cons rfl (y_cons rfl y_nil))))) rfl) rfl) ?_
  refine q_for (w := none) (items := rgD 0 8) (S1 := S) rfl l3 ?_
  have pv : dBin oIx (dVar 3) (dC (.int 0)) [some (.lst (ds.map .int)), some (ld ts b), some (.int n), some (pr px py), some (.lst (oddP n)), r5, q6', some (.tup [.tup (ts.map .int ++ [.int 0]), .int b]), some (ld (ts.map fun x => 2 * x) (2 * b)), r9, some (.lst (badL ts b)), r11, r12] S = some (.ok (.int px) S) := x_bin rfl rfl (e_ix0 _ _ S)
  by_cases hp : px ≥ 0
  · exact q_ret (x_orT (x_bin pv rfl (by simp [oGe, hp])))
  · have am : amount (pr px py) = false := by simp [amount, hp]
    exact q_ret (x_orF (x_bin pv rfl (by simp [oGe, hp])) (x_f4 rfl rfl rfl rfl (ref_factor S rfl am)))
end
end My
set_option Elab.async false
set_option linter.all false
set_option maxRecDepth 100000
set_option maxHeartbeats 4000000
set_option exponentiation.threshold 20000
namespace My
open PySem PySem.Spec PyProof.Rows L2 PD
/-- a quotient, small -/
structure Qu (d : D) (a b : Int) : Prop where
  eq : d = pr a b
  ok : quot (pr a b) = true
  ma : mini a
  mb : mini b
noncomputable abbrev bodyP : SDen := sSeq (sIf (dOr (dNot (dTru (dFn 2 O__law_pair (dCons (dVar 2) (dCons (dVar 7) (dNil)))))) (dOr (dNot (dTru (dFn 2 O__law_pair (dCons (dVar 7) (dCons (dVar 3) (dNil)))))) (dNot (dTru (dFn 2 O__law_pair (dCons (dVar 5) (dCons (dVar 7) (dNil)))))))) (sSeq (sRet (dC (.bl false))) (sNil)) (sNil)) (sNil)
theorem loop_p (S : Store) (r0 r1 r4 r6 r8 r9 r10 r11 r12 r13 r14 r15 : Option D) (a b c e f g : Int) (hp : Qu (pr a b) a b) (hq : Qu (pr c e) c e) (hn : Qu (pr f g) f g) (all : List D) : ∀ (l : List D) (r7 : Option D), (∀ x ∈ l, ∃ u v, Qu x u v) → ∃ r7', forLoop none all (tName 7) bodyP l [r0, r1, some (pr a b), some (pr c e), r4, some (pr f g), r6, r7, r8, r9, r10, r11, r12, r13, r14, r15] S = some (.nx [r0, r1, some (pr a b), some (pr c e), r4, some (pr f g), r6, r7', r8, r9, r10, r11, r12, r13, r14, r15] S)
  | [], r7, _ => ⟨r7, rfl⟩
  | x :: l, r7, hl => by
    obtain ⟨u, v, hx⟩ := hl x List.mem_cons_self
    obtain ⟨r7', t⟩ := loop_p S r0 r1 r4 r6 r8 r9 r10 r11 r12 r13 r14 r15 a b c e f g hp hq hn all l (some x) fun y hy => hl y (List.mem_cons_of_mem _ hy)
    refine ⟨r7', loop_cons_nx rfl ?_ t⟩
    rw [hx.eq]
    exact q_ifF (x_orF (x_notT (x_f2 rfl rfl (v_pair S a b u v hp.ok hx.ok hp.ma hp.mb hx.ma hx.mb))) (x_orF (x_notT (x_f2 rfl rfl (v_pair S u v c e hx.ok hq.ok hx.ma hx.mb hq.ma hq.mb))) (x_notT (x_f2 rfl rfl (v_pair S f g u v hn.ok hx.ok hn.ma hn.mb hx.ma hx.mb))))) rfl
noncomputable abbrev bodyG : SDen := sSeq (sIf (dNot (dTru (dFn 3 O__law_equal (dCons (dFn 2 O_quotient_of (dCons (dBin oMul (dBin oDiv (dBin oIx (dVar 2) (dC (.int 0))) (dC (.int 10))) (dVar 7)) (dCons (dBin oMul (dVar 9) (dVar 7)) (dNil)))) (dCons (dBin oDiv (dBin oIx (dVar 2) (dC (.int 0))) (dC (.int 10))) (dCons (dVar 9) (dNil))))))) (sSeq (sRet (dC (.bl false))) (sNil)) (sNil)) (sNil)
theorem loop_g (S : Store) (r0 r1 r3 r4 r5 r6 r8 r10 r11 r12 r13 r14 r15 : Option D) (a b h : Int) (ma : mini a) (h1 : 1 ≤ h) (h2 : h ≤ 12) (all : List D) : ∀ (l : List Int) (r7 : Option D), (∀ x ∈ l, x ≠ 0 ∧ x.natAbs ≤ 9) → ∃ r7', forLoop none all (tName 7) bodyG (l.map .int) [r0, r1, some (pr a b), r3, r4, r5, r6, r7, r8, some (.int h), r10, r11, r12, r13, r14, r15] S = some (.nx [r0, r1, some (pr a b), r3, r4, r5, r6, r7', r8, some (.int h), r10, r11, r12, r13, r14, r15] S)
  | [], r7, _ => ⟨r7, rfl⟩
  | x :: l, r7, hl => by
    obtain ⟨x0, x9⟩ := hl x List.mem_cons_self
    obtain ⟨r7', t⟩ := loop_g S r0 r1 r3 r4 r5 r6 r8 r10 r11 r12 r13 r14 r15 a b h ma h1 h2 all l (some (.int x)) fun y hy => hl y (List.mem_cons_of_mem _ hy)
    refine ⟨r7', loop_cons_nx rfl ?_ t⟩
    have ma' : a.natAbs < 2 ^ 400 := ma
    have m10 : mini (a / 10) := by
      show (a / 10).natAbs < 2 ^ 400
      omega
    have mx : mini x := mini_of (by omega)
    have mh : mini h := mini_of (by omega)
    have nz : h * x ≠ 0 := Int.mul_ne_zero (by omega) x0
    have sx : PD.small64 x = true := by
      unfold PD.small64
      simp only [Bool.and_eq_true, decide_eq_true_eq]
      omega
    have dv : dBin oDiv (dBin oIx (dVar 2) (dC (.int 0))) (dC (.int 10)) [r0, r1, some (pr a b), r3, r4, r5, r6, some (.int x), r8, some (.int h), r10, r11, r12, r13, r14, r15] S = some (.ok (.int (a / 10)) S) := x_bin (x_bin rfl rfl (e_ix0 _ _ S)) rfl (o_divI (by decide) (by decide) S)
    have tt : tiny (h * x) := mh.mulT mx
    have q := v_quotient_of (S := S) (a / 10 * x) (h * x) nz (Nat.lt_of_lt_of_le tt (Nat.pow_le_pow_right (by decide) (by decide)))
    have e := v_equal_red S (a / 10 * x) (h * x) (a / 10) h nz (m10.mulT mx) tt m10.small mh.small (by rw [Int.mul_assoc, Int.mul_comm x h])
    exact q_ifF (x_notT (x_f3 (x_f2 (x_bin dv rfl (e_mulR sx S)) (x_bin rfl rfl (e_mulR sx S)) q) dv rfl e)) rfl
noncomputable abbrev bodyL : SDen := sSeq (sIf (dOr (dNot (dTru (dFn 3 O__law_loads (dCons (dVar 14) (dCons (dVar 11) (dCons (dVar 10) (dNil))))))) (dNot (dTru (dFn 3 O__law_loads (dCons (dVar 11) (dCons (dVar 14) (dCons (dVar 10) (dNil)))))))) (sSeq (sRet (dC (.bl false))) (sNil)) (sNil)) (sNil)
theorem loop_l (S : Store) (n : Nat) (ts : List Int) (b : Int) (hu : Lo n ts b) (r0 r1 r2 r3 r4 r5 r6 r7 r8 r9 r12 r13 r15 : Option D) (all : List D) : ∀ (l : List D) (r14 : Option D), (∀ x ∈ l, ∃ us c, x = ld us c ∧ Lo n us c) → ∃ r14', forLoop none all (tName 14) bodyL l [r0, r1, r2, r3, r4, r5, r6, r7, r8, r9, some (.int n), some (ld ts b), r12, r13, r14, r15] S = some (.nx [r0, r1, r2, r3, r4, r5, r6, r7, r8, r9, some (.int n), some (ld ts b), r12, r13, r14', r15] S)
  | [], r14, _ => ⟨r14, rfl⟩
  | x :: l, r14, hl => by
    obtain ⟨us, c, hx, lo⟩ := hl x List.mem_cons_self
    obtain ⟨r14', t⟩ := loop_l S n ts b hu r0 r1 r2 r3 r4 r5 r6 r7 r8 r9 r12 r13 r15 all l (some x) fun y hy => hl y (List.mem_cons_of_mem _ hy)
    refine ⟨r14', loop_cons_nx rfl ?_ t⟩
    rw [hx]
    exact q_ifF (x_orF (x_notT (x_f3 rfl rfl rfl (v_loads S lo hu))) (x_notT (x_f3 rfl rfl rfl (v_loads S hu lo)))) rfl
theorem qu_near (y : Int) (h1 : 1 ≤ y) (h2 : y < 2 ^ 90) : Qu (pr (y - 1) y) (y - 1) y where
  eq := rfl
  ok := quot_pr.mpr ⟨h1, by
    have e : Int.gcd (y - 1) y ∣ 1 := by
      have d1 : (Int.gcd (y - 1) y : Int) ∣ y - 1 := Int.gcd_dvd_left ..
      have d2 : (Int.gcd (y - 1) y : Int) ∣ y := Int.gcd_dvd_right ..
      have d3 := Int.dvd_sub d2 d1
      rw [show y - (y - 1) = 1 by omega] at d3
      exact Int.natCast_dvd_natCast.mp d3
    exact Nat.eq_one_of_dvd_one e⟩
  ma := mini_of (by omega)
  mb := mini_of (by omega)
theorem lo_zero (n : Nat) (n1 : 1 ≤ n) (nk : n ≤ 60) : Lo n (List.replicate n 0) 1 where
  len := by simp
  n1 := n1
  nk := nk
  nn := fun t ht => by rw [List.eq_of_mem_replicate ht]; decide
  bd := fun t ht => by rw [List.eq_of_mem_replicate ht]; decide
  b1 := by decide
  bb := by decide
  lo := cg_one _
theorem law_ok (S : Store) (ns : List Int) (hn : ns.length ≤ 63) : O_law [.scr ns] S = some (.ok (.bl true) S) := by
  refine fn_rtS ?_ rfl
  obtain ⟨ds, hD, ed⟩ := v_draws S ns hn
  obtain ⟨a, b, e2, q2, ma, mb⟩ := v_quotient S ds hD 0 (by decide)
  obtain ⟨c, e, e3, q3, mc, me⟩ := v_quotient S ds hD 3 (by decide)
  obtain ⟨⟨x60, x61⟩, i6⟩ := ixDg hD 6 (by decide) (by decide)
  obtain ⟨⟨x70, x71⟩, i7⟩ := ixDg hD 7 (by decide) (by decide)
  obtain ⟨⟨x80, x81⟩, i8⟩ := ixDg hD 8 (by decide) (by decide)
  obtain ⟨⟨x90, x91⟩, i9⟩ := ixDg hD 9 (by decide) (by decide)
  obtain ⟨⟨xa0, xa1⟩, ia⟩ := ixDg hD 10 (by decide) (by decide)
  obtain ⟨⟨xb0, xb1⟩, ib⟩ := ixDg hD 11 (by decide) (by decide)
  obtain ⟨⟨xc0, xc1⟩, ic⟩ := ixDg hD 49 (by decide) (by decide)
  generalize gt ds (6 : Int).toNat = x6 at *
  generalize gt ds (7 : Int).toNat = x7 at *
  generalize gt ds (8 : Int).toNat = x8 at *
  generalize gt ds (9 : Int).toNat = x9 at *
  generalize gt ds (10 : Int).toNat = xa at *
  generalize gt ds (11 : Int).toNat = xb at *
  generalize gt ds (49 : Int).toNat = xc at *
  have st : startD ["_law_script", "_law_d", "_law_p", "_law_q", "_law_y", "_law_near", "_law_under", "_law_x", "_law_g", "_law_h", "_law_n", "_law_u", "_law_v", "_law_w", "_law_z", "_law_f"] [.scr ns] = [some (.scr ns), none, none, none, none, none, none, none, none, none, none, none, none, none, none, none] := rfl
  have hp : Qu (pr a b) a b := ⟨rfl, q2, ma, mb⟩
  have hq : Qu (pr c e) c e := ⟨rfl, q3, mc, me⟩
  have y1 : 3 ≤ 3 + x6 * 10 ^ 9 + x7 := by omega
  have y2 : 3 + x6 * 10 ^ 9 + x7 < 2 ^ 60 := by omega
  generalize hy : 3 + x6 * 10 ^ 9 + x7 = y at *
  have hnear := qu_near y (by omega) (by omega)
  have hund : Qu (pr (y - 2) (y - 1)) (y - 2) (y - 1) := by
    have := qu_near (y - 1) (by omega) (by omega)
    rwa [show y - 1 - 1 = y - 2 by omega] at this
  obtain ⟨r7, l1⟩ := loop_p S (some (.scr ns)) (some (.lst (ds.map .int))) (some (.int y)) (some (pr (y - 2) (y - 1))) none none none none none none none none a b c e (y - 1) y hp hq hnear [pr a b, pr c e, pr 0 1, pr 1 1, pr (y - 1) y, pr (y - 2) (y - 1)] [pr a b, pr c e, pr 0 1, pr 1 1, pr (y - 1) y, pr (y - 2) (y - 1)] none fun x hx => by
    simp only [List.mem_cons, List.not_mem_nil, or_false] at hx
    rcases hx with rfl | rfl | rfl | rfl | rfl | rfl
    · exact ⟨a, b, hp⟩
    · exact ⟨c, e, hq⟩
    · exact ⟨0, 1, rfl, rfl, mini_of (by decide), mini_of (by decide)⟩
    · exact ⟨1, 1, rfl, rfl, mini_of (by decide), mini_of (by decide)⟩
    · exact ⟨_, _, hnear⟩
    · exact ⟨_, _, hund⟩
  obtain ⟨r7b, l2⟩ := loop_g S (some (.scr ns)) (some (.lst (ds.map .int))) (some (pr c e)) (some (.int y)) (some (pr (y - 1) y)) (some (pr (y - 2) (y - 1))) (some (.int (1 + x8 % 9))) none none none none none none a b (1 + x9 % 12) ma (by omega) (by omega) ([1 + x8 % 9, -(1 + x8 % 9), -1].map .int) [1 + x8 % 9, -(1 + x8 % 9), -1] r7 fun x hx => by
    simp only [List.mem_cons, List.not_mem_nil, or_false] at hx
    omega
  -- the size
  obtain ⟨n, n1, nk, en⟩ : ∃ n : Nat, 1 ≤ n ∧ n ≤ 60 ∧ sIf (dBin oEq (dBin oMod (dCall oInt1 (dCons (dBin oIx (dVar 1) (dC (.int 11))) (dNil))) (dC (.int 8))) (dC (.int 6))) (sSeq (sSet 10 (dC (.int 60))) (sNil)) (sNil) [some (.scr ns), some (.lst (ds.map .int)), some (pr a b), some (pr c e), some (.int y), some (pr (y - 1) y), some (pr (y - 2) (y - 1)), r7b, some (.int (1 + x8 % 9)), some (.int (1 + x9 % 12)), some (.int (1 + xa % 5)), none, none, none, none, none] S =
      some (.nx [some (.scr ns), some (.lst (ds.map .int)), some (pr a b), some (pr c e), some (.int y), some (pr (y - 1) y), some (pr (y - 2) (y - 1)), r7b, some (.int (1 + x8 % 9)), some (.int (1 + x9 % 12)), some (.int n), none, none, none, none, none] S) := by
    have cn : dBin oEq (dBin oMod (dCall oInt1 (dCons (dBin oIx (dVar 1) (dC (.int 11))) (dNil))) (dC (.int 8))) (dC (.int 6)) [some (.scr ns), some (.lst (ds.map .int)), some (pr a b), some (pr c e), some (.int y), some (pr (y - 1) y), some (pr (y - 2) (y - 1)), r7b, some (.int (1 + x8 % 9)), some (.int (1 + x9 % 12)), some (.int (1 + xa % 5)), none, none, none, none, none] S = some (.ok (.bl (xb % 8 == 6)) S) := x_bin (x_bin (x_c1 (x_bin rfl rfl (ib S)) rfl) rfl (o_mod (by decide) S)) rfl (o_eqI _ _ S)
    cases hb : xb % 8 == 6 with
    | true =>
      rw [hb] at cn
      refine ⟨60, by decide, by decide, ?_⟩
      rw [e_if, cn]
      rfl
    | false =>
      rw [hb] at cn
      refine ⟨(1 + xa % 5).toNat, by omega, by omega, ?_⟩
      rw [e_if, cn]
      have : (((1 + xa % 5).toNat : Nat) : Int) = 1 + xa % 5 := by omega
      rw [this]
      rfl
  obtain ⟨us, ub, eu, lu, ub2, ut⟩ := v_load S ds hD 12 n (by decide) n1 nk
  obtain ⟨vs, vb, ev, lv, _, _⟩ := v_load S ds hD 16 n (by decide) n1 nk
  obtain ⟨ws, wb, ew, lw⟩ := v_part S ds hD us ub n n lu ub2 ut (Nat.le_refl n)
  have j0 : 0 ≤ xc % (n : Int) := Int.emod_nonneg _ (by omega)
  have j1 : xc % (n : Int) < n := Int.emod_lt_of_pos _ (by omega)
  obtain ⟨j, hj⟩ : ∃ j : Nat, xc % (n : Int) = (j : Int) := ⟨(xc % (n : Int)).toNat, by omega⟩
  obtain ⟨xs, xb', ex, lx⟩ := v_part S ds hD us ub n j lu ub2 ut (by omega)
  have zr : ∀ T, oMul (.lst [.int 0]) (.int (n : Nat)) T = some (.ok (.lst ((List.replicate n 0).map .int)) T) := fun T => o_rep' 0 n (by omega) T
  have lz := lo_zero n n1 nk
  obtain ⟨r14, l3⟩ := loop_l S n us ub lu (some (.scr ns)) (some (.lst (ds.map .int))) (some (pr a b)) (some (pr c e)) (some (.int y)) (some (pr (y - 1) y)) (some (pr (y - 2) (y - 1))) (some (ld xs xb')) (some (.int (1 + x8 % 9))) (some (.int (1 + x9 % 12))) (some (ld vs vb)) (some (ld ws wb)) none [ld vs vb, ld ws wb, ld xs xb', ld us ub, ld (List.replicate n 0) 1] [ld vs vb, ld ws wb, ld xs xb', ld us ub, ld (List.replicate n 0) 1] none fun x hx => by
    simp only [List.mem_cons, List.not_mem_nil, or_false] at hx
    rcases hx with rfl | rfl | rfl | rfl | rfl
    · exact ⟨_, _, rfl, lv⟩
    · exact ⟨_, _, rfl, lw⟩
    · exact ⟨_, _, rfl, lx⟩
    · exact ⟨_, _, rfl, lu⟩
    · exact ⟨_, _, rfl, lz⟩
  -- the factor
  have e1 := (quot_pr.mp q3).1
  have g1 := (quot_pr.mp q3).2
  obtain ⟨f, fe, f0, fm⟩ : ∃ f : Int, oAbs [.int c] S = some (.ok (.int f) S) ∧ 0 ≤ f ∧ f.natAbs = c.natAbs := ⟨if c < 0 then -c else c, rfl, by split <;> omega, by split <;> omega⟩
  have mf : mini f := by
    have mc' : c.natAbs < 2 ^ 400 := mc
    show f.natAbs < 2 ^ 400
    omega
  have qf : quot (pr f e) = true := quot_pr.mpr ⟨e1, by
    unfold Int.gcd
    rw [fm]
    exact g1⟩
  have af : amount (pr f e) = true := by
    simp only [amount, qf, Bool.true_and]
    exact decide_eq_true f0
  have mf' : f.natAbs < 2 ^ 400 := mf
  have me' : e.natAbs < 2 ^ 400 := me
  have s1 := v_singles S ds hD lu f e af mf me (by omega) (by omega)
  have s2 := v_singles S ds hD lv 0 1 rfl (mini_of (by decide)) (mini_of (by decide)) (by decide) (by decide)
  have s3 := v_singles S ds hD lw 1 1 rfl (mini_of (by decide)) (mini_of (by decide)) (by decide) (by decide)
  have nq := v_no_quotients S ds hD a b q2
  have nl := v_no_loads S ds hD lu a b q2
  have vp := v_pair S a b c e q2 q3 ma mb mc me
  have vl := v_loads S lw lu
  simp only [D_law]
  rw [st]
  refine q_set (x_f2 rfl rfl ed) (q_set (x_f2 rfl rfl e2) (q_set (x_f2 rfl rfl e3) ?_))
  refine q_set (x_bin (x_bin rfl (x_bin (x_bin rfl rfl (i6 S)) (x_bin rfl rfl (pow9 S)) (e_mulR (by decide) S)) rfl) (x_bin rfl rfl (i7 S)) (by rw [e_addI, hy])) ?_
  refine q_set (x_tup (y_cons (x_bin rfl rfl rfl) (y_cons rfl y_nil)) rfl) (q_set (x_tup (y_cons (x_bin rfl rfl rfl) (y_cons (x_bin rfl rfl rfl) y_nil)) rfl) ?_)
  refine q_for (w := none) (S1 := S) (x_items (x_lst (y_cons rfl (y_cons rfl (y_cons rfl (y_cons rfl (y_cons rfl (y_cons rfl y_nil)))))) rfl) rfl) l1 ?_
  refine q_set (x_bin rfl (x_bin (x_c1 (x_bin rfl rfl (i8 S)) rfl) rfl (o_mod (by decide) S)) rfl) (q_set (x_bin rfl (x_bin (x_c1 (x_bin rfl rfl (i9 S)) rfl) rfl (o_mod (by decide) S)) rfl) ?_)
  refine q_for (w := none) (S1 := S) (x_items (x_lst (y_cons rfl (y_cons rfl (y_cons rfl y_nil))) rfl) rfl) l2 ?_
  refine q_set (x_bin rfl (x_bin (x_c1 (x_bin rfl rfl (ia S)) rfl) rfl (o_mod (by decide) S)) rfl) (q_nx en ?_)
  refine q_set (x_f3 rfl rfl rfl eu) (q_set (x_f3 rfl rfl rfl ev) (q_set (x_f4 rfl rfl rfl rfl ew) ?_))
  refine q_set (x_f4 rfl rfl rfl (x_bin (x_c1 (x_bin rfl rfl (ic S)) rfl) rfl ((o_mod (by omega) S).trans (by rw [hj]))) ex) ?_
  refine q_for (w := none) (S1 := S) (x_items (x_lst (y_cons rfl (y_cons rfl (y_cons rfl (y_cons rfl (y_cons (x_tup (y_cons (x_c1 (x_bin rfl rfl (zr S)) rfl) (y_cons rfl y_nil)) rfl) y_nil))))) rfl) rfl) l3 ?_
  refine q_set (x_tup (y_cons (x_c1 (x_bin rfl rfl (e_ix0 _ _ S)) fe) (y_cons (x_bin rfl rfl (e_ix1 _ _ _ S)) y_nil)) rfl) ?_
  refine q_ifF (x_orF (x_notT (x_f4 rfl rfl rfl rfl s1)) (x_orF (x_notT (x_f4 rfl rfl rfl rfl s2)) (x_notT (x_f4 rfl rfl rfl rfl s3)))) ?_
  exact q_ret (x_andT (x_f2 rfl rfl nq) (x_andT (x_f4 rfl rfl rfl rfl nl) (x_andT (x_f2 rfl rfl vp) (x_f3 rfl rfl rfl vl))))
end My
set_option Elab.async false
set_option linter.all false
set_option maxRecDepth 100000
set_option maxHeartbeats 0
namespace My
open PySem PySem.Spec PyProof.Rows L2 PD
def dd (x : Str) (i : Nat) : He.DefD := ⟨(x, none), x, x, defArgs (top i), defBody (top i), defScope (top i), [], []⟩
def fn0 : List He.DefD := [dd "_law_draws" 50, dd "_law_common" 52, dd "_law_whole" 51, dd "_law_equal" 57, dd "_law_load" 63, dd "_law_lowest" 53, dd "_law_numbers" 54, dd "_law_entries" 58, dd "leveled" 32, dd "common_divisor" 2, dd "load_from" 31, dd "is_integer" 3, dd "is_number" 4, dd "are_numbers" 8, dd "is_bottom" 6, dd "is_pair" 7, dd "is_load" 11, dd "require" 18, dd "require_alike" 19, dd "added" 39]
def fn1 : List He.DefD := [dd "is_below" 5, dd "reduced" 21, dd "entry_of" 35, dd "places_above" 44, dd "first_above" 48, dd "greater_of" 47, dd "is_quotient" 9, dd "require_quotients" 22, dd "is_less" 28, dd "is_within" 45, dd "lesser_of" 46, dd "is_amount" 10, dd "are_amounts" 33, dd "common_multiple" 30, dd "load_of" 34, dd "minus" 25, dd "over" 27, dd "plus" 24, dd "product_of" 42, dd "quotient_of" 23]
def fn2 : List He.DefD := [dd "scaled" 41, dd "taken" 40, dd "times" 26, dd "unit_load" 38, dd "_law_call" 60, dd "_law_refused" 61, dd "_law_loads" 65, dd "_law_no_loads" 67, dd "_law_no_quotients" 62, dd "_law_pair" 59, dd "_law_part" 64, dd "_law_lowered" 55, dd "_law_quotient" 56, dd "no_load" 37, dd "weight_of" 36, dd "_law_singles" 66, dd "law" 68, ⟨("NotUsable", some "__init__"), "__init__", "NotUsable.__init__", defArgs (meth 16 0), defBody (meth 16 0), defScope (meth 16 0), [], []⟩]
def fn : List He.DefD := fn0 ++ fn1 ++ fn2
def fa0 : List He.Fa := [.glo "_law_draws", .glo "_law_common", .glo "_law_whole", .glo "_law_equal", .glo "_law_load", .glo "_law_lowest", .glo "_law_numbers", .glo "_law_entries", .glo "leveled", .glo "common_divisor", .glo "load_from", .glo "is_integer", .glo "is_number", .glo "are_numbers", .glo "is_bottom", .glo "is_pair", .glo "is_load", .glo "require", .glo "require_alike", .glo "added", .glo "is_below", .glo "reduced", .glo "entry_of", .glo "places_above", .glo "first_above", .glo "greater_of", .glo "is_quotient", .glo "require_quotients", .glo "is_less", .glo "is_within"]
def fa1 : List He.Fa := [.glo "lesser_of", .glo "is_amount", .glo "are_amounts", .glo "common_multiple", .glo "load_of", .glo "minus", .glo "over", .glo "plus", .glo "product_of", .glo "quotient_of", .glo "scaled", .glo "taken", .glo "times", .glo "unit_load", .glo "_law_call", .glo "_law_refused", .glo "_law_loads", .glo "_law_no_loads", .glo "_law_no_quotients", .glo "_law_pair", .glo "_law_part", .glo "_law_lowered", .glo "_law_quotient", .glo "no_load", .glo "weight_of", .glo "_law_singles", .glo "law", .glo "StayError", .glo "PaperError", .glo "WebError"]
def fa2 : List He.Fa := [.glo "NotUsable", .free "ValueError", .free "abs", .free "all", .free "bool", .free "enumerate", .free "int", .free "isinstance", .free "len", .free "list", .free "max", .free "min", .free "range", .free "str", .free "sum", .free "tuple"]
def fa : List He.Fa := fa0 ++ fa1 ++ fa2
def fe0 : List Fe := [.con "gcd" "math.gcd", .oex "NotUsable", .no "NotUsable" "word", .no "NotUsable" "at", .con "lcm" "math.lcm", .is_ "NotUsable" (.own "PaperError") false, .is_ "NotUsable" (.bty "ValueError") true, .is_ "NotUsable" (.own "WebError") true, .ex "NotUsable" (.own "NotUsable") true]
def fe : List Fe := fe0
def nm0 : List Str := ["gcd", "lcm", "common_divisor", "is_integer", "is_number", "is_below", "is_bottom", "is_pair", "are_numbers", "is_quotient", "is_amount", "is_load", "StayError", "PaperError", "WebError", "NotUsable", "require", "require_alike", "reduced", "require_quotients", "quotient_of", "plus", "minus", "times", "over", "is_less", "common_multiple", "load_from", "leveled", "are_amounts"]
def nm1 : List Str := ["load_of", "entry_of", "weight_of", "no_load", "unit_load", "added", "taken", "scaled", "product_of", "places_above", "is_within", "lesser_of", "greater_of", "first_above", "_law_draws", "_law_whole", "_law_common", "_law_lowest", "_law_numbers", "_law_lowered", "_law_quotient", "_law_equal", "_law_entries", "_law_pair", "_law_call", "_law_refused", "_law_no_quotients", "_law_load", "_law_part", "_law_loads"]
def nm2 : List Str := ["_law_singles", "_law_no_loads"]
def nm : List Str := nm0 ++ nm1 ++ nm2
abbrev R : PySem.W.OpenRow := PySem.W.OpenLaw.row PySem.Challenge.rw_stayorgo_k01_whole_quotients_and_loads
abbrev hk : PySem.W.Hook := hookE 5 fa fn fe
def ob (s : PySem.W.SharedT) : AlE := obsEG 5 fa fn fe (HeadRun.getT s)
theorem ob_eq (s : PySem.W.SharedT) : ob s = hk.obs s.abs := obsEG_eq (HeadRun.getT_eq s)
theorem run (w : World) : HeadRun.RunEqI R (PySem.W.view R.prog [0, 68]) hk ob 12000 nm w := by
  unfold HeadRun.RunEqI
  kernel_rfl
theorem facts {K : PySem.W.Frag} {h : Heap} {mg : Str → Option Value} (X : K.In h) (G : h.Ns mainGlobals mg) (c : SaysE fa fn fe K) : Facts K mg where
  g__law_draws := He.glo_ok X G (c.d.fact 0 rfl)
  F__law_draws := c.d.def_ 0 (d := dd "_law_draws" 50) rfl
  g__law_common := He.glo_ok X G (c.d.fact 1 rfl)
  F__law_common := c.d.def_ 1 (d := dd "_law_common" 52) rfl
  g__law_whole := He.glo_ok X G (c.d.fact 2 rfl)
  F__law_whole := c.d.def_ 2 (d := dd "_law_whole" 51) rfl
  g__law_equal := He.glo_ok X G (c.d.fact 3 rfl)
  F__law_equal := c.d.def_ 3 (d := dd "_law_equal" 57) rfl
  g__law_load := He.glo_ok X G (c.d.fact 4 rfl)
  F__law_load := c.d.def_ 4 (d := dd "_law_load" 63) rfl
  g__law_lowest := He.glo_ok X G (c.d.fact 5 rfl)
  F__law_lowest := c.d.def_ 5 (d := dd "_law_lowest" 53) rfl
  g__law_numbers := He.glo_ok X G (c.d.fact 6 rfl)
  F__law_numbers := c.d.def_ 6 (d := dd "_law_numbers" 54) rfl
  g__law_entries := He.glo_ok X G (c.d.fact 7 rfl)
  F__law_entries := c.d.def_ 7 (d := dd "_law_entries" 58) rfl
  g_leveled := He.glo_ok X G (c.d.fact 8 rfl)
  F_leveled := c.d.def_ 8 (d := dd "leveled" 32) rfl
  g_common_divisor := He.glo_ok X G (c.d.fact 9 rfl)
  F_common_divisor := c.d.def_ 9 (d := dd "common_divisor" 2) rfl
  g_load_from := He.glo_ok X G (c.d.fact 10 rfl)
  F_load_from := c.d.def_ 10 (d := dd "load_from" 31) rfl
  g_is_integer := He.glo_ok X G (c.d.fact 11 rfl)
  F_is_integer := c.d.def_ 11 (d := dd "is_integer" 3) rfl
  g_is_number := He.glo_ok X G (c.d.fact 12 rfl)
  F_is_number := c.d.def_ 12 (d := dd "is_number" 4) rfl
  g_are_numbers := He.glo_ok X G (c.d.fact 13 rfl)
  F_are_numbers := c.d.def_ 13 (d := dd "are_numbers" 8) rfl
  g_is_bottom := He.glo_ok X G (c.d.fact 14 rfl)
  F_is_bottom := c.d.def_ 14 (d := dd "is_bottom" 6) rfl
  g_is_pair := He.glo_ok X G (c.d.fact 15 rfl)
  F_is_pair := c.d.def_ 15 (d := dd "is_pair" 7) rfl
  g_is_load := He.glo_ok X G (c.d.fact 16 rfl)
  F_is_load := c.d.def_ 16 (d := dd "is_load" 11) rfl
  g_require := He.glo_ok X G (c.d.fact 17 rfl)
  F_require := c.d.def_ 17 (d := dd "require" 18) rfl
  g_require_alike := He.glo_ok X G (c.d.fact 18 rfl)
  F_require_alike := c.d.def_ 18 (d := dd "require_alike" 19) rfl
  g_added := He.glo_ok X G (c.d.fact 19 rfl)
  F_added := c.d.def_ 19 (d := dd "added" 39) rfl
  g_is_below := He.glo_ok X G (c.d.fact 20 rfl)
  F_is_below := c.d.def_ 20 (d := dd "is_below" 5) rfl
  g_reduced := He.glo_ok X G (c.d.fact 21 rfl)
  F_reduced := c.d.def_ 21 (d := dd "reduced" 21) rfl
  g_entry_of := He.glo_ok X G (c.d.fact 22 rfl)
  F_entry_of := c.d.def_ 22 (d := dd "entry_of" 35) rfl
  g_places_above := He.glo_ok X G (c.d.fact 23 rfl)
  F_places_above := c.d.def_ 23 (d := dd "places_above" 44) rfl
  g_first_above := He.glo_ok X G (c.d.fact 24 rfl)
  F_first_above := c.d.def_ 24 (d := dd "first_above" 48) rfl
  g_greater_of := He.glo_ok X G (c.d.fact 25 rfl)
  F_greater_of := c.d.def_ 25 (d := dd "greater_of" 47) rfl
  g_is_quotient := He.glo_ok X G (c.d.fact 26 rfl)
  F_is_quotient := c.d.def_ 26 (d := dd "is_quotient" 9) rfl
  g_require_quotients := He.glo_ok X G (c.d.fact 27 rfl)
  F_require_quotients := c.d.def_ 27 (d := dd "require_quotients" 22) rfl
  g_is_less := He.glo_ok X G (c.d.fact 28 rfl)
  F_is_less := c.d.def_ 28 (d := dd "is_less" 28) rfl
  g_is_within := He.glo_ok X G (c.d.fact 29 rfl)
  F_is_within := c.d.def_ 29 (d := dd "is_within" 45) rfl
  g_lesser_of := He.glo_ok X G (c.d.fact 30 rfl)
  F_lesser_of := c.d.def_ 30 (d := dd "lesser_of" 46) rfl
  g_is_amount := He.glo_ok X G (c.d.fact 31 rfl)
  F_is_amount := c.d.def_ 31 (d := dd "is_amount" 10) rfl
  g_are_amounts := He.glo_ok X G (c.d.fact 32 rfl)
  F_are_amounts := c.d.def_ 32 (d := dd "are_amounts" 33) rfl
  g_common_multiple := He.glo_ok X G (c.d.fact 33 rfl)
  F_common_multiple := c.d.def_ 33 (d := dd "common_multiple" 30) rfl
  g_load_of := He.glo_ok X G (c.d.fact 34 rfl)
  F_load_of := c.d.def_ 34 (d := dd "load_of" 34) rfl
  g_minus := He.glo_ok X G (c.d.fact 35 rfl)
  F_minus := c.d.def_ 35 (d := dd "minus" 25) rfl
  g_over := He.glo_ok X G (c.d.fact 36 rfl)
  F_over := c.d.def_ 36 (d := dd "over" 27) rfl
  g_plus := He.glo_ok X G (c.d.fact 37 rfl)
  F_plus := c.d.def_ 37 (d := dd "plus" 24) rfl
  g_product_of := He.glo_ok X G (c.d.fact 38 rfl)
  F_product_of := c.d.def_ 38 (d := dd "product_of" 42) rfl
  g_quotient_of := He.glo_ok X G (c.d.fact 39 rfl)
  F_quotient_of := c.d.def_ 39 (d := dd "quotient_of" 23) rfl
  g_scaled := He.glo_ok X G (c.d.fact 40 rfl)
  F_scaled := c.d.def_ 40 (d := dd "scaled" 41) rfl
  g_taken := He.glo_ok X G (c.d.fact 41 rfl)
  F_taken := c.d.def_ 41 (d := dd "taken" 40) rfl
  g_times := He.glo_ok X G (c.d.fact 42 rfl)
  F_times := c.d.def_ 42 (d := dd "times" 26) rfl
  g_unit_load := He.glo_ok X G (c.d.fact 43 rfl)
  F_unit_load := c.d.def_ 43 (d := dd "unit_load" 38) rfl
  g__law_call := He.glo_ok X G (c.d.fact 44 rfl)
  F__law_call := c.d.def_ 44 (d := dd "_law_call" 60) rfl
  g__law_refused := He.glo_ok X G (c.d.fact 45 rfl)
  F__law_refused := c.d.def_ 45 (d := dd "_law_refused" 61) rfl
  g__law_loads := He.glo_ok X G (c.d.fact 46 rfl)
  F__law_loads := c.d.def_ 46 (d := dd "_law_loads" 65) rfl
  g__law_no_loads := He.glo_ok X G (c.d.fact 47 rfl)
  F__law_no_loads := c.d.def_ 47 (d := dd "_law_no_loads" 67) rfl
  g__law_no_quotients := He.glo_ok X G (c.d.fact 48 rfl)
  F__law_no_quotients := c.d.def_ 48 (d := dd "_law_no_quotients" 62) rfl
  g__law_pair := He.glo_ok X G (c.d.fact 49 rfl)
  F__law_pair := c.d.def_ 49 (d := dd "_law_pair" 59) rfl
  g__law_part := He.glo_ok X G (c.d.fact 50 rfl)
  F__law_part := c.d.def_ 50 (d := dd "_law_part" 64) rfl
  g__law_lowered := He.glo_ok X G (c.d.fact 51 rfl)
  F__law_lowered := c.d.def_ 51 (d := dd "_law_lowered" 55) rfl
  g__law_quotient := He.glo_ok X G (c.d.fact 52 rfl)
  F__law_quotient := c.d.def_ 52 (d := dd "_law_quotient" 56) rfl
  g_no_load := He.glo_ok X G (c.d.fact 53 rfl)
  F_no_load := c.d.def_ 53 (d := dd "no_load" 37) rfl
  g_weight_of := He.glo_ok X G (c.d.fact 54 rfl)
  F_weight_of := c.d.def_ 54 (d := dd "weight_of" 36) rfl
  g__law_singles := He.glo_ok X G (c.d.fact 55 rfl)
  F__law_singles := c.d.def_ 55 (d := dd "_law_singles" 66) rfl
  g_law := He.glo_ok X G (c.d.fact 56 rfl)
  F_law := c.d.def_ 56 (d := dd "law" 68) rfl
  g_StayError := He.glo_ok X G (c.d.fact 57 rfl)
  g_PaperError := He.glo_ok X G (c.d.fact 58 rfl)
  g_WebError := He.glo_ok X G (c.d.fact 59 rfl)
  g_NotUsable := He.glo_ok X G (c.d.fact 60 rfl)
  n_ValueError := He.free_ok X G (c.d.fact 61 rfl)
  n_abs := He.free_ok X G (c.d.fact 62 rfl)
  n_all := He.free_ok X G (c.d.fact 63 rfl)
  n_bool := He.free_ok X G (c.d.fact 64 rfl)
  n_enumerate := He.free_ok X G (c.d.fact 65 rfl)
  n_int := He.free_ok X G (c.d.fact 66 rfl)
  n_isinstance := He.free_ok X G (c.d.fact 67 rfl)
  n_len := He.free_ok X G (c.d.fact 68 rfl)
  n_list := He.free_ok X G (c.d.fact 69 rfl)
  n_max := He.free_ok X G (c.d.fact 70 rfl)
  n_min := He.free_ok X G (c.d.fact 71 rfl)
  n_range := He.free_ok X G (c.d.fact 72 rfl)
  n_str := He.free_ok X G (c.d.fact 73 rfl)
  n_sum := He.free_ok X G (c.d.fact 74 rfl)
  n_tuple := He.free_ok X G (c.d.fact 75 rfl)
  k_gcd := PySem.W.mg_of X G (He.eqO_ok (c.err_at 0 rfl))
  x_NotUsable := ownErr_ok (He.glo_ok X G (c.d.fact 60 rfl)) (c.err_at 1 rfl)
  I_NotUsable := c.d.def_ 57 (d := ⟨("NotUsable", some "__init__"), "__init__", "NotUsable.__init__", defArgs (meth 16 0), defBody (meth 16 0), defScope (meth 16 0), [], []⟩) rfl
  no_NotUsable_word := He.eqO_ok (c.err_at 2 rfl)
  no_NotUsable_at := He.eqO_ok (c.err_at 3 rfl)
  k_lcm := PySem.W.mg_of X G (He.eqO_ok (c.err_at 4 rfl))
  is_NotUsable_PaperError := of_decide_eq_true (c.err_at 5 rfl)
  is_NotUsable_ValueError := of_decide_eq_true (c.err_at 6 rfl)
  is_NotUsable_WebError := of_decide_eq_true (c.err_at 7 rfl)
  ex_NotUsable_NotUsable := of_decide_eq_true (c.err_at 8 rfl)
theorem law_at (low : ∀ ns : List Int, ns.length ≤ 63 → (∀ z ∈ ns, Builtin.Int.intBits z ≤ 1048576) → O_law [.scr ns] [] = some (.ok (.bl true) [])) {w : World} {K : PySem.W.Frag} {h : Heap} {mg : Str → Option Value} {f : Addr} (X : K.In h) (G : h.Ns mainGlobals mg) (hfa : mg ("law" : Str) = some (.ref f)) (c : SaysE fa fn fe K) :
    LamX.LawAtS PySem.Challenge.rw_stayorgo_k01_whole_quotients_and_loads w K (L2N.CX (PySem.Challenge.rw_stayorgo_k01_whole_quotients_and_loads).prog w) 10 63 "_law_script" mg f h := by
  have fx := facts X G c
  have e := hfa.symm.trans fx.g_law
  cases e
  have cl := fun base : Heap => c_law (P := (PySem.Challenge.rw_stayorgo_k01_whole_quotients_and_loads).prog) (w := w) (base := base) fx
  obtain ⟨fd, F⟩ := fx.F_law
  refine ⟨fd, [], spD K mg 1 O_law, by simp, by simp, by simp, fun s u => F.bindsA b_law s [u] rfl, fun H a ns hl hb _ hS => ?_, fun base _ _ _ => ?_⟩
  · refine ⟨rfl, [], [], [.scr ns], _, st_none, .single (.scr (hS.elim (fun z => .inl ⟨z, List.not_mem_nil⟩) .inr)), low ns hl hb, fun v H' _ _ r => ?_⟩
    cases r
    rfl
  · obtain ⟨fd', F', G'⟩ := (cl base).ex
    have : fd' = fd := funD_fd F' F
    subst this
    exact G'
end My
open PySem PySem.W PySem.Calls PyProof.Rows
theorem my_holds (low : ∀ ns : List Int, ns.length ≤ 63 → (∀ z ∈ ns, Builtin.Int.intBits z ≤ 1048576) → My.O_law [.scr ns] [] = some (.ok (.bl true) [])) : PySem.Challenge.rw_stayorgo_k01_whole_quotients_and_loads.Holds := by
  w_on; o_law
  refine HeadRun.head_imp (r := OpenLaw.row PySem.Challenge.rw_stayorgo_k01_whole_quotients_and_loads) (q := view (OpenLaw.row PySem.Challenge.rw_stayorgo_k01_whole_quotients_and_loads).prog [0, 68]) (H := My.hk) (ob := My.ob) (M := 12000) (loose := My.nm) (d := HandSHeadRun.topDef (OpenLaw.row PySem.Challenge.rw_stayorgo_k01_whole_quotients_and_loads).prog 68) (kwd := []) My.ob_eq
    My.run (by kernel_rfl) (by kernel_rfl) (by kernel_rfl) (by rfl) (by first | assumption | decide +kernel) (by decide +kernel) ⟨rfl, rfl, rfl, rfl, rfl, by decide +kernel⟩ ?hw ?hc
  case hw => w_witness2
  case hc =>
    refine LamX.walk_ofTsE (l := PySem.Challenge.rw_stayorgo_k01_whole_quotients_and_loads) (n := 63) (k := 10) (x := "_law_script") (CX := fun w => L2N.CX (PySem.Challenge.rw_stayorgo_k01_whole_quotients_and_loads).prog w) rfl (by decide) (by kernel_rfl) ⟨rfl, by decide, by decide⟩ ?F (fun _ _ _ _ _ ⟨_, _, _, _, _, _, _, _, _, _, _, _, z⟩ => z)
    intro w mg fa h Y G hmg0
    obtain ⟨K, KX, c⟩ := Y
    have hmg : mg ("law" : PySem.Str) = some (.ref fa) := by
      have e : (HandSHeadRun.topDef (OpenLaw.row PySem.Challenge.rw_stayorgo_k01_whole_quotients_and_loads).prog 68).name = ("law" : PySem.Str) := by kernel_rfl
      rw [← e]
      exact hmg0
    exact ⟨K, KX, My.law_at low KX G hmg c⟩
open PySem PySem.W PyProof.Rows
set_option Elab.async false
set_option maxRecDepth 100000 in
set_option maxHeartbeats 0 in
theorem PySem.Challenge.cw_stayorgo_k01_whole_quotients_and_loads_holds : PySem.Challenge.rw_stayorgo_k01_whole_quotients_and_loads.Holds := by
  exact my_holds fun ns hn _ => My.law_ok [] ns hn
