import PyProof.Rows.All
import Wide.All
import OpenK.AllK
import Wide.FinOn
import HandS.ForMost
import HandS.ForExc
import HandS.ExcInit
import HandS.ExcField
import HandS.ExcIs
import HandS.IsInst
import HandS.Gcd
import HandS.Deep
import HandS.Flow
import HandS.Wide
import HandS.TupAny
import HandS.TupMul
import HandS.Defaults
import HandS.ExcCtx
import HandS.HotCalls
import HandS.CallSlots
import HandS.Star
import HandS.Style
import KE.KTupSum
import KE.KMathGC
import HandS.HeadHook1
import HandS.HeadHook2
import HandS.Words
import HandS.Zip
import KE.KStateDown
import Lean
import HandS.Head0
import HandS.Head1
import HandS.Head2
import HandS.HeadEnd
import HandS.HeadWalk
import KE.HD3
import PySem.Challenge.RW_stayorgo_k18_whole_courses_of_both_rules
set_option Elab.async false
set_option Elab.async false
set_option linter.all false
set_option maxRecDepth 100000
set_option maxHeartbeats 4000000
namespace PD
open PySem PySem.Spec PyProof.Rows L2

/-! ### plain values -/
inductive D where
  | non | bl (b : Bool) | int (i : Int) | str (s : Str)
  | tup (xs : List D) | lst (xs : List D) | ref (n : Nat) | scr (ns : List Int)
  | err (c : Str) (ns : List Str) (xs : List D)
  | rng (lo hi : Int)
  | cau (a d : Nat) (c : Str) (ns : List Str) (xs : List D)

abbrev Store := List (List D)
abbrev EnvD := List (Option D)

/-- a tuple, a list that no list of mu is: tracked, or of the written part -/
def SqTm (K : PySem.W.Frag) (H : Hp) (mu : List Addr) (a : Addr) (xs : List V) : Prop :=
  (Rd H a (.tup xs) ∧ a ∉ mu) ∨
    ∃ (o : Obj) (its : Array Value) (n : Nat), K.lookup a = some o ∧ o.cls = .type "tuple" ∧ o.data = .seq its n ∧ its.size ≤ sizeLine ∧ Vals xs its.toList
def SqLm (K : PySem.W.Frag) (H : Hp) (mu : List Addr) (a : Addr) (xs : List V) : Prop :=
  (Rd H a (.lst xs) ∧ a ∉ mu) ∨
    ∃ (o : Obj) (its : Array Value) (n : Nat), K.lookup a = some o ∧ o.cls = .type "list" ∧ o.dict = none ∧ o.data = .seq its n ∧ its.size ≤ sizeLine ∧ Vals xs its.toList
theorem SqTm.sq {K : PySem.W.Frag} {H : Hp} {mu : List Addr} {a : Addr} {xs : List V} (h : SqTm K H mu a xs) : SqT K H a xs := h.elim (fun z => .inl z.1) .inr
theorem SqLm.sq {K : PySem.W.Frag} {H : Hp} {mu : List Addr} {a : Addr} {xs : List V} (h : SqLm K H mu a xs) : SqL K H a xs := h.elim (fun z => .inl z.1) .inr
section
variable (K : PySem.W.Frag) (mg : Str → Option Value)
mutual
/-- the value v stands for d; the addresses of mu are those of lists that may still change -/
inductive Rep (H : Hp) (mu : List Addr) : V → D → Prop
  | non : Rep H mu .non .non
  | bl (b : Bool) : Rep H mu (.bl b) (.bl b)
  | int (i : Int) : Rep H mu (.int i) (.int i)
  | str (s : Str) : Rep H mu (.str s) (.str s)
  | tup {a : Addr} {vs : List V} {ds : List D} (h : SqTm K H mu a vs) (r : Reps H mu vs ds) : Rep H mu (.ref a) (.tup ds)
  | lst {a : Addr} {vs : List V} {ds : List D} (h : H a = some (.lst vs)) (n : a ∉ mu) (r : Reps H mu vs ds) : Rep H mu (.ref a) (.lst ds)
  | ref {a : Addr} {n : Nat} (h : mu[n]? = some a) : Rep H mu (.ref a) (.ref n)
  | scr {a : Addr} {ns : List Int} (h : SqLm K H mu a (ns.map V.int)) : Rep H mu (.ref a) (.scr ns)
  | rng {a : Addr} {lo hi : Int} (h : H a = some (.rng lo hi)) (n : a ∉ mu) : Rep H mu (.ref a) (.rng lo hi)
  | err {e C d : Addr} {c : Str} {ns : List Str} {vs : List V} {xs : List D} (hm : mg c = some (.ref C)) (he : H e = some (exo e C (some d))) (hd : H d = some (exd d (ns.zip vs))) (n1 : e ∉ mu) (n2 : d ∉ mu)
      (l : ns.length = vs.length) (r : Reps H mu vs xs) : Rep H mu (.ref e) (.err c ns xs)
  | cau {e C d : Addr} {c : Str} {ns : List Str} {vs : List V} {xs : List D} (hm : mg c = some (.ref C)) (hd : H d = some (.xd (ns.zip vs))) (n2 : d ∉ mu) (l : ns.length = vs.length) (r : Reps H mu vs xs) : Rep H mu (.ref e) (.cau e d c ns xs)
inductive Reps (H : Hp) (mu : List Addr) : List V → List D → Prop
  | nil : Reps H mu [] []
  | cons {v : V} {vs : List V} {d : D} {ds : List D} (h : Rep H mu v d) (t : Reps H mu vs ds) : Reps H mu (v :: vs) (d :: ds)
end
end

/-- from H with mu to H' with mu': what was tracked and may not change stands -/
structure Ext (H : Hp) (mu : List Addr) (H' : Hp) (mu' : List Addr) : Prop where
  pre : mu <+: mu'
  keep : ∀ a o, H a = some o → a ∉ mu → H' a = some o
  new : ∀ a, a ∈ mu' → a ∉ mu → H a = none
theorem Ext.refl (H : Hp) (mu : List Addr) : Ext H mu H mu := ⟨List.prefix_refl _, fun _ _ h _ => h, fun _ h n => absurd h n⟩
theorem Ext.notin {H H' : Hp} {mu mu' : List Addr} (e : Ext H mu H' mu') {a : Addr} {o : HO} (h : H a = some o) (n : a ∉ mu) : a ∉ mu' := fun m => by
  rw [e.new a m n] at h; cases h
theorem Ext.trans {H H1 H2 : Hp} {mu m1 m2 : List Addr} (a : Ext H mu H1 m1) (b : Ext H1 m1 H2 m2) : Ext H mu H2 m2 where
  pre := a.pre.trans b.pre
  keep := fun c o h n => b.keep c o (a.keep c o h n) (a.notin h n)
  new := fun c h n => by
    by_cases q : c ∈ m1
    · exact a.new c q n
    · have z := b.new c h q
      cases e : H c with
      | none => rfl
      | some o => rw [a.keep c o e n] at z; cases z
section
variable {K : PySem.W.Frag} {mg : Str → Option Value} {H H' : Hp} {mu mu' : List Addr}
theorem Ext.rd (e : Ext H mu H' mu') {a : Addr} {u : HO} (h : Rd H a u ∧ a ∉ mu) : Rd H' a u ∧ a ∉ mu' := by
  obtain ⟨h | ⟨o, h⟩, n⟩ := h
  · exact ⟨.inl (e.keep _ _ h n), e.notin h n⟩
  · exact ⟨.inr ⟨o, e.keep _ _ h n⟩, e.notin h n⟩
theorem Ext.sqT (e : Ext H mu H' mu') {a : Addr} {vs : List V} (h : SqTm K H mu a vs) : SqTm K H' mu' a vs := h.elim (fun z => .inl (e.rd z)) .inr
theorem Ext.sqL (e : Ext H mu H' mu') {a : Addr} {vs : List V} (h : SqLm K H mu a vs) : SqLm K H' mu' a vs := h.elim (fun z => .inl (e.rd z)) .inr
theorem prefix_get {α : Type} {l l' : List α} (p : l <+: l') {n : Nat} {a : α} (h : l[n]? = some a) : l'[n]? = some a := by
  obtain ⟨t, rfl⟩ := p
  have hn : n < l.length := (List.getElem?_eq_some_iff.mp h).1
  rw [List.getElem?_append_left hn]
  exact h

mutual
theorem Rep.mono (e : Ext H mu H' mu') : ∀ {v : V} {d : D}, Rep K mg H mu v d → Rep K mg H' mu' v d
  | _, _, .non => .non
  | _, _, .bl b => .bl b
  | _, _, .int i => .int i
  | _, _, .str s => .str s
  | _, _, .tup h r => .tup (e.sqT h) (Reps.mono e r)
  | _, _, .lst h n r => .lst (e.keep _ _ h n) (e.notin h n) (Reps.mono e r)
  | _, _, .ref h => .ref (prefix_get e.pre h)
  | _, _, .scr h => .scr (e.sqL h)
  | _, _, .rng h n => .rng (e.keep _ _ h n) (e.notin h n)
  | _, _, .err hm he hd n1 n2 l r => .err hm (e.keep _ _ he n1) (e.keep _ _ hd n2) (e.notin he n1) (e.notin hd n2) l (Reps.mono e r)
  | _, _, .cau hm hd n2 l r => .cau hm (e.keep _ _ hd n2) (e.notin hd n2) l (Reps.mono e r)
theorem Reps.mono (e : Ext H mu H' mu') : ∀ {vs : List V} {ds : List D}, Reps K mg H mu vs ds → Reps K mg H' mu' vs ds
  | _, _, .nil => .nil
  | _, _, .cons h t => .cons (Rep.mono e h) (Reps.mono e t)
end
theorem Reps.length : ∀ {vs : List V} {ds : List D}, Reps K mg H mu vs ds → vs.length = ds.length
  | _, _, .nil => rfl
  | _, _, .cons _ t => congrArg Nat.succ (Reps.length t)
theorem Reps.get : ∀ {vs : List V} {ds : List D} {i : Nat} {d : D}, Reps K mg H mu vs ds → ds[i]? = some d → ∃ v, vs[i]? = some v ∧ Rep K mg H mu v d
  | _, _, _, _, .nil, e => by simp at e
  | _, _, 0, _, .cons h _, e => by simp at e; subst e; exact ⟨_, rfl, h⟩
  | _, _, i + 1, d, .cons _ t, e => by
    obtain ⟨v, h1, h2⟩ := Reps.get (i := i) (d := d) t (by simpa using e)
    exact ⟨v, by simpa using h1, h2⟩
theorem Reps.get' : ∀ {vs : List V} {ds : List D} {i : Nat} {v : V}, Reps K mg H mu vs ds → vs[i]? = some v → ∃ d, ds[i]? = some d ∧ Rep K mg H mu v d
  | _, _, _, _, .nil, e => by simp at e
  | _, _, 0, _, .cons h _, e => by simp at e; subst e; exact ⟨_, rfl, h⟩
  | _, _, i + 1, v, .cons _ t, e => by
    obtain ⟨d, h1, h2⟩ := Reps.get' (i := i) (v := v) t (by simpa using e)
    exact ⟨d, by simpa using h1, h2⟩
theorem Reps.append : ∀ {vs ws : List V} {ds es : List D}, Reps K mg H mu vs ds → Reps K mg H mu ws es → Reps K mg H mu (vs ++ ws) (ds ++ es)
  | _, _, _, _, .nil, s => s
  | _, _, _, _, .cons r t, s => .cons r (Reps.append t s)
theorem Reps.take : ∀ {vs : List V} {ds : List D} (n : Nat), Reps K mg H mu vs ds → Reps K mg H mu (vs.take n) (ds.take n)
  | _, _, 0, _ => .nil
  | _, _, _ + 1, .nil => .nil
  | _, _, n + 1, .cons r t => .cons r (Reps.take n t)
theorem Reps.drop : ∀ {vs : List V} {ds : List D} (n : Nat), Reps K mg H mu vs ds → Reps K mg H mu (vs.drop n) (ds.drop n)
  | _, _, 0, r => r
  | _, _, _ + 1, .nil => .nil
  | _, _, n + 1, .cons _ t => Reps.drop n t
theorem Reps.set {v : V} {d : D} (r : Rep K mg H mu v d) : ∀ {vs : List V} {ds : List D} (i : Nat), Reps K mg H mu vs ds → Reps K mg H mu (vs.set i v) (ds.set i d)
  | _, _, _, .nil => .nil
  | _, _, 0, .cons _ t => .cons r t
  | _, _, i + 1, .cons q t => .cons q (Reps.set r i t)
theorem Reps.ints : ∀ (ns : List Int), Reps K mg H mu (ns.map V.int) (ns.map D.int)
  | [] => .nil
  | n :: ns => .cons (.int n) (Reps.ints ns)
theorem Reps.single {v : V} {d : D} (r : Rep K mg H mu v d) : Reps K mg H mu [v] [d] := .cons r .nil
end

section
variable (K : PySem.W.Frag) (mg : Str → Option Value)
/-- the lists that may still change: at mu, in the store's order -/
structure StOk (H : Hp) (mu : List Addr) (S : Store) : Prop where
  nd : mu.Nodup
  len : mu.length = S.length
  at_ : ∀ (n : Nat) (a : Addr) (ds : List D), mu[n]? = some a → S[n]? = some ds → ∃ vs, H a = some (.lst vs) ∧ Reps K mg H mu vs ds
/-- the slots -/
structure EnvOk (H : Hp) (mu : List Addr) (σ : L2.St) (ρ : EnvD) : Prop where
  len : σ.length = ρ.length
  at_ : ∀ (i : Nat) (d : D), ρ[i]? = some (some d) → ∃ v, σ[i]? = some (some v) ∧ Rep K mg H mu v d
end
section
variable {K : PySem.W.Frag} {mg : Str → Option Value} {H H' : Hp} {mu mu' : List Addr} {σ : L2.St} {ρ : EnvD} {S : Store}
theorem EnvOk.mono (e : Ext H mu H' mu') (h : EnvOk K mg H mu σ ρ) : EnvOk K mg H' mu' σ ρ :=
  ⟨h.len, fun i d q => let ⟨v, h1, h2⟩ := h.at_ i d q; ⟨v, h1, h2.mono e⟩⟩
theorem EnvOk.set (h : EnvOk K mg H mu σ ρ) {v : V} {d : D} (r : Rep K mg H mu v d) (i : Nat) : EnvOk K mg H mu (σ.set i (some v)) (ρ.set i (some d)) := by
  refine ⟨by simpa using h.len, fun j e q => ?_⟩
  by_cases hj : i = j
  · subst hj
    by_cases hi : i < ρ.length
    · rw [List.getElem?_set_self hi] at q
      cases q
      exact ⟨v, by rw [List.getElem?_set_self (by rw [h.len]; exact hi)], r⟩
    · rw [List.getElem?_eq_none (by simpa using hi)] at q; cases q
  · rw [List.getElem?_set_ne hj] at q
    obtain ⟨w, h1, h2⟩ := h.at_ j e q
    exact ⟨w, by rw [List.getElem?_set_ne hj]; exact h1, h2⟩
theorem EnvOk.forget (h : EnvOk K mg H mu σ ρ) (i : Nat) (x : Option V) : EnvOk K mg H mu (σ.set i x) (ρ.set i none) := by
  refine ⟨by simpa using h.len, fun j e q => ?_⟩
  by_cases hj : i = j
  · subst hj
    by_cases hi : i < ρ.length
    · rw [List.getElem?_set_self hi] at q; cases q
    · rw [List.getElem?_eq_none (by simpa using hi)] at q; cases q
  · rw [List.getElem?_set_ne hj] at q
    obtain ⟨w, h1, h2⟩ := h.at_ j e q
    exact ⟨w, by rw [List.getElem?_set_ne hj]; exact h1, h2⟩
/-- a new object that is no changing list -/
theorem Ext.fresh {p : Addr} {o : HO} (hp : H p = none) (hm : p ∉ mu) : Ext H mu (L2.upd H p o) mu :=
  ⟨List.prefix_refl _, fun a u h _ => by rw [upd_ne (ne_of_none h hp)]; exact h, fun _ h n => absurd h n⟩
theorem StOk.free (s : StOk K mg H mu S) {p : Addr} (hp : H p = none) : p ∉ mu := fun m => by
  obtain ⟨n, hn⟩ := List.getElem?_of_mem m
  have hl : n < S.length := by rw [← s.len]; exact (List.getElem?_eq_some_iff.mp hn).1
  obtain ⟨vs, h, _⟩ := s.at_ n p _ hn (List.getElem?_eq_getElem hl)
  rw [hp] at h; cases h
theorem StOk.fresh (s : StOk K mg H mu S) {p : Addr} {o : HO} (hp : H p = none) : StOk K mg (L2.upd H p o) mu S :=
  ⟨s.nd, s.len, fun n a ds h1 h2 => by
    obtain ⟨vs, h, r⟩ := s.at_ n a ds h1 h2
    exact ⟨vs, by rw [upd_ne (ne_of_none h hp)]; exact h, r.mono (Ext.fresh hp (s.free hp))⟩⟩
/-- a new list that may change -/
theorem Ext.grow (s : StOk K mg H mu S) {p : Addr} {o : HO} (hp : H p = none) : Ext H mu (upd H p o) (mu ++ [p]) :=
  ⟨List.prefix_append _ _, fun a u h _ => by rw [upd_ne (ne_of_none h hp)]; exact h, fun a h n => by
    rcases List.mem_append.mp h with z | z
    · exact absurd z n
    · rw [List.mem_singleton.mp z]; exact hp⟩
theorem StOk.grow (s : StOk K mg H mu S) {p : Addr} {vs : List V} {ds : List D} (hp : H p = none) (r : Reps K mg H mu vs ds) : StOk K mg (upd H p (.lst vs)) (mu ++ [p]) (S ++ [ds]) := by
  have e := Ext.grow (o := .lst vs) s hp
  refine ⟨?_, by simp [s.len], fun n a es h1 h2 => ?_⟩
  · rw [List.nodup_append]
    exact ⟨s.nd, by simp, fun x hx y hy => by rw [List.mem_singleton.mp hy]; exact fun z => s.free hp (z ▸ hx)⟩
  · by_cases hn : n < mu.length
    · rw [List.getElem?_append_left hn] at h1
      rw [List.getElem?_append_left (by rw [← s.len]; exact hn)] at h2
      obtain ⟨ws, h, q⟩ := s.at_ n a es h1 h2
      exact ⟨ws, e.keep _ _ h |> fun _ => by rw [upd_ne (ne_of_none h hp)]; exact h, q.mono e⟩
    · have hn' : n = mu.length := by
        have := (List.getElem?_eq_some_iff.mp h1).1
        rw [List.length_append] at this
        simp at this
        omega
      subst hn'
      rw [List.getElem?_append_right (Nat.le_refl _)] at h1
      rw [s.len, List.getElem?_append_right (Nat.le_refl _)] at h2
      simp at h1 h2
      subst h1 h2
      exact ⟨vs, upd_same, r.mono e⟩
/-- a changing list is changed -/
theorem Ext.chg {p : Addr} {o : HO} (hp : p ∈ mu) : Ext H mu (L2.upd H p o) mu :=
  ⟨List.prefix_refl _, fun a u h n => by rw [upd_ne (fun z => n (by rw [z]; exact hp))]; exact h, fun _ h n => absurd h n⟩
theorem StOk.chg (s : StOk K mg H mu S) {n : Nat} {p : Addr} {vs : List V} {ds : List D} (hp : mu[n]? = some p) (r : Reps K mg H mu vs ds) : StOk K mg (L2.upd H p (.lst vs)) mu (S.set n ds) := by
  have hm := List.mem_of_getElem? hp
  have e := Ext.chg (H := H) (o := .lst vs) hm
  refine ⟨s.nd, by simp [s.len], fun k a es h1 h2 => ?_⟩
  by_cases hk : n = k
  · subst hk
    rw [hp] at h1
    cases h1
    have hl : n < S.length := by rw [← s.len]; exact (List.getElem?_eq_some_iff.mp hp).1
    rw [List.getElem?_set_self hl] at h2
    cases h2
    exact ⟨vs, upd_same, r.mono e⟩
  · rw [List.getElem?_set_ne hk] at h2
    obtain ⟨ws, h, q⟩ := s.at_ k a es h1 h2
    have hne : a ≠ p := fun z => hk (by
      subst z
      exact ((List.getElem?_inj (List.getElem?_eq_some_iff.mp hp).1 s.nd).mp (hp.trans h1.symm)))
    exact ⟨ws, by rw [upd_ne hne]; exact h, q.mono e⟩
end
end PD
set_option Elab.async false
set_option linter.all false
set_option maxRecDepth 100000
set_option maxHeartbeats 4000000
namespace PD
open PySem PySem.Spec PyProof.Rows L2

/-! ### what an expression gives -/
inductive Res where
  | ok (d : D) (S : Store)
  | exc (c : Str) (ns : List Str) (xs : List D) (S : Store)
abbrev Den := EnvD → Store → Option Res
/-- lists of values -/
inductive Ress where
  | ok (ds : List D) (S : Store)
  | exc (c : Str) (ns : List Str) (xs : List D) (S : Store)
abbrev Dens := EnvD → Store → Option Ress
def bnd (o : Option Res) (k : D → Store → Option Res) : Option Res := match o with
  | some (.ok d S) => k d S
  | some (.exc c ns xs S) => some (.exc c ns xs S)
  | none => none
@[simp] theorem bnd_ok (d : D) (S : Store) (k : D → Store → Option Res) : bnd (some (.ok d S)) k = k d S := rfl
@[simp] theorem bnd_exc (c : Str) (ns : List Str) (xs : List D) (S : Store) (k : D → Store → Option Res) : bnd (some (.exc c ns xs S)) k = some (.exc c ns xs S) := rfl
@[simp] theorem bnd_none (k : D → Store → Option Res) : bnd none k = none := rfl
def bnds (o : Option Res) (k : D → Store → Option Ress) : Option Ress := match o with
  | some (.ok d S) => k d S
  | some (.exc c ns xs S) => some (.exc c ns xs S)
  | none => none
@[simp] theorem bnds_ok (d : D) (S : Store) (k : D → Store → Option Ress) : bnds (some (.ok d S)) k = k d S := rfl
@[simp] theorem bnds_exc (c : Str) (ns : List Str) (xs : List D) (S : Store) (k : D → Store → Option Ress) : bnds (some (.exc c ns xs S)) k = some (.exc c ns xs S) := rfl
@[simp] theorem bnds_none (k : D → Store → Option Ress) : bnds none k = none := rfl
def bndl (o : Option Ress) (k : List D → Store → Option Res) : Option Res := match o with
  | some (.ok d S) => k d S
  | some (.exc c ns xs S) => some (.exc c ns xs S)
  | none => none
@[simp] theorem bndl_ok (d : List D) (S : Store) (k : List D → Store → Option Res) : bndl (some (.ok d S)) k = k d S := rfl
@[simp] theorem bndl_exc (c : Str) (ns : List Str) (xs : List D) (S : Store) (k : List D → Store → Option Res) : bndl (some (.exc c ns xs S)) k = some (.exc c ns xs S) := rfl
@[simp] theorem bndl_none (k : List D → Store → Option Res) : bndl none k = none := rfl
def bndls (o : Option Ress) (k : List D → Store → Option Ress) : Option Ress := match o with
  | some (.ok d S) => k d S
  | some (.exc c ns xs S) => some (.exc c ns xs S)
  | none => none
@[simp] theorem bndls_ok (d : List D) (S : Store) (k : List D → Store → Option Ress) : bndls (some (.ok d S)) k = k d S := rfl
@[simp] theorem bndls_exc (c : Str) (ns : List Str) (xs : List D) (S : Store) (k : List D → Store → Option Ress) : bndls (some (.exc c ns xs S)) k = some (.exc c ns xs S) := rfl
@[simp] theorem bndls_none (k : List D → Store → Option Ress) : bndls none k = none := rfl

section
variable (K : PySem.W.Frag) (mg : Str → Option Value) (W : WX)
/-- behind an exception -/
def PostX (σ : L2.St) (H : Hp) (mu : List Addr) (c : Str) (ns : List Str) (xs : List D) (S' : Store) : Prop :=
  ∀ (C dx : Addr) (vs : List V) (H' : Hp) (mu' : List Addr), Ext H mu H' mu' → StOk K mg H' mu' S' → mg c = some (.ref C) → H' dx = some (.xd (ns.zip vs)) → dx ∉ mu' → ns.length = vs.length → Reps K mg H' mu' vs xs → W (.ref C) (some dx) σ H'
def PostV (H : Hp) (mu : List Addr) (Q : VK) (d : D) (S' : Store) : Prop :=
  ∀ (v : V) (H' : Hp) (mu' : List Addr), Ext H mu H' mu' → StOk K mg H' mu' S' → Rep K mg H' mu' v d → Q v H'
def Post (σ : L2.St) (H : Hp) (mu : List Addr) (Q : VK) : Res → Prop
  | .ok d S' => PostV K mg H mu Q d S'
  | .exc c ns xs S' => PostX K mg W σ H mu c ns xs S'
def Posts (σ : L2.St) (H : Hp) (mu : List Addr) (Q : List V → Hp → Prop) : Ress → Prop
  | .ok ds S' => ∀ (vs : List V) (H' : Hp) (mu' : List Addr), Ext H mu H' mu' → StOk K mg H' mu' S' → Reps K mg H' mu' vs ds → Q vs H'
  | .exc c ns xs S' => PostX K mg W σ H mu c ns xs S'
/-- the reading of a denotation -/
def rd (f : Den) : TE := fun σ H Q => ∃ mu S ρ r, StOk K mg H mu S ∧ EnvOk K mg H mu σ ρ ∧ f ρ S = some r ∧ Post K mg W σ H mu Q r
def rds (f : Dens) : TA := fun σ H Q => ∃ mu S ρ r, StOk K mg H mu S ∧ EnvOk K mg H mu σ ρ ∧ f ρ S = some r ∧ Posts K mg W σ H mu Q r
/-- tests: a denotation's truth -/
def rdt (f : EnvD → Store → Option Res) : TT := fun σ H Q => ∃ mu S ρ r, StOk K mg H mu S ∧ EnvOk K mg H mu σ ρ ∧ f ρ S = some r ∧
  match r with
  | .ok (.bl b) S' => ∀ (H' : Hp) (mu' : List Addr), Ext H mu H' mu' → StOk K mg H' mu' S' → Q b H'
  | .ok _ _ => False
  | .exc c ns xs S' => PostX K mg W σ H mu c ns xs S'
end
section
variable {K : PySem.W.Frag} {mg : Str → Option Value} {W : WX} {H H' : Hp} {mu mu' : List Addr} {σ : L2.St} {ρ : EnvD} {S S' : Store}
theorem PostX.mono (e : Ext H mu H' mu') {c : Str} {ns : List Str} {xs : List D} (p : PostX K mg W σ H mu c ns xs S') : PostX K mg W σ H' mu' c ns xs S' :=
  fun C dx vs H2 m2 e2 => p C dx vs H2 m2 (e.trans e2)
theorem PostV.mono (e : Ext H mu H' mu') {Q : VK} {d : D} (p : PostV K mg H mu Q d S') : PostV K mg H' mu' Q d S' :=
  fun v H2 m2 e2 => p v H2 m2 (e.trans e2)
theorem Post.mono (e : Ext H mu H' mu') {Q : VK} {r : Res} (p : Post K mg W σ H mu Q r) : Post K mg W σ H' mu' Q r := by
  cases r with
  | ok d S => exact PostV.mono (Q := Q) (d := d) (S' := S) e p
  | exc c ns xs S => exact PostX.mono e p
theorem Posts.mono (e : Ext H mu H' mu') {Q : List V → Hp → Prop} {r : Ress} (p : Posts K mg W σ H mu Q r) : Posts K mg W σ H' mu' Q r := by
  cases r with
  | ok d S => exact fun v H2 m2 e2 => p v H2 m2 (e.trans e2)
  | exc c ns xs S => exact PostX.mono e p
/-- one expression, then more -/
theorem rd_bnd {f : Den} {k : D → Store → Option Res} {r : Res} {Q Q' : VK} (s : StOk K mg H mu S) (en : EnvOk K mg H mu σ ρ) (h : bnd (f ρ S) k = some r) (p : Post K mg W σ H mu Q r)
    (hk : ∀ d S1 v H1 m1, Ext H mu H1 m1 → StOk K mg H1 m1 S1 → EnvOk K mg H1 m1 σ ρ → Rep K mg H1 m1 v d → k d S1 = some r → Post K mg W σ H1 m1 Q r → Q' v H1) : rd K mg W f σ H Q' := by
  cases e : f ρ S with
  | none => rw [e] at h; cases h
  | some r1 =>
    rw [e] at h
    cases r1 with
    | ok d S1 => exact ⟨mu, S, ρ, _, s, en, e, fun v H1 m1 x s1 rp => hk d S1 v H1 m1 x s1 (en.mono x) rp h (p.mono x)⟩
    | exc c ns xs S1 =>
      have hr : r = .exc c ns xs S1 := (Option.some.inj h).symm
      subst hr
      exact ⟨mu, S, ρ, _, s, en, e, p⟩
theorem rd_bnds {f : Den} {k : D → Store → Option Ress} {r : Ress} {Q : List V → Hp → Prop} {Q' : VK} (s : StOk K mg H mu S) (en : EnvOk K mg H mu σ ρ) (h : bnds (f ρ S) k = some r) (p : Posts K mg W σ H mu Q r)
    (hk : ∀ d S1 v H1 m1, Ext H mu H1 m1 → StOk K mg H1 m1 S1 → EnvOk K mg H1 m1 σ ρ → Rep K mg H1 m1 v d → k d S1 = some r → Posts K mg W σ H1 m1 Q r → Q' v H1) : rd K mg W f σ H Q' := by
  cases e : f ρ S with
  | none => rw [e] at h; cases h
  | some r1 =>
    rw [e] at h
    cases r1 with
    | ok d S1 => exact ⟨mu, S, ρ, _, s, en, e, fun v H1 m1 x s1 rp => hk d S1 v H1 m1 x s1 (en.mono x) rp h (p.mono x)⟩
    | exc c ns xs S1 =>
      have hr : r = .exc c ns xs S1 := (Option.some.inj h).symm
      subst hr
      exact ⟨mu, S, ρ, _, s, en, e, p⟩
theorem rds_bndl {f : Dens} {k : List D → Store → Option Res} {r : Res} {Q : VK} {Q' : List V → Hp → Prop} (s : StOk K mg H mu S) (en : EnvOk K mg H mu σ ρ) (h : bndl (f ρ S) k = some r) (p : Post K mg W σ H mu Q r)
    (hk : ∀ d S1 v H1 m1, Ext H mu H1 m1 → StOk K mg H1 m1 S1 → EnvOk K mg H1 m1 σ ρ → Reps K mg H1 m1 v d → k d S1 = some r → Post K mg W σ H1 m1 Q r → Q' v H1) : rds K mg W f σ H Q' := by
  cases e : f ρ S with
  | none => rw [e] at h; cases h
  | some r1 =>
    rw [e] at h
    cases r1 with
    | ok d S1 => exact ⟨mu, S, ρ, _, s, en, e, fun v H1 m1 x s1 rp => hk d S1 v H1 m1 x s1 (en.mono x) rp h (p.mono x)⟩
    | exc c ns xs S1 =>
      have hr : r = .exc c ns xs S1 := (Option.some.inj h).symm
      subst hr
      exact ⟨mu, S, ρ, _, s, en, e, p⟩
theorem rds_bndls {f : Dens} {k : List D → Store → Option Ress} {r : Ress} {Q : List V → Hp → Prop} {Q' : List V → Hp → Prop} (s : StOk K mg H mu S) (en : EnvOk K mg H mu σ ρ) (h : bndls (f ρ S) k = some r) (p : Posts K mg W σ H mu Q r)
    (hk : ∀ d S1 v H1 m1, Ext H mu H1 m1 → StOk K mg H1 m1 S1 → EnvOk K mg H1 m1 σ ρ → Reps K mg H1 m1 v d → k d S1 = some r → Posts K mg W σ H1 m1 Q r → Q' v H1) : rds K mg W f σ H Q' := by
  cases e : f ρ S with
  | none => rw [e] at h; cases h
  | some r1 =>
    rw [e] at h
    cases r1 with
    | ok d S1 => exact ⟨mu, S, ρ, _, s, en, e, fun v H1 m1 x s1 rp => hk d S1 v H1 m1 x s1 (en.mono x) rp h (p.mono x)⟩
    | exc c ns xs S1 =>
      have hr : r = .exc c ns xs S1 := (Option.some.inj h).symm
      subst hr
      exact ⟨mu, S, ρ, _, s, en, e, p⟩
end

/-! ### the judgements -/
theorem peI {X : Cx} {e : Expr} {t t' : TE} (h : PE X e t) (i : ∀ σ H Q, t' σ H Q → t σ H Q) : PE X e t' := ⟨fun pins s σ H Q I q => h.run pins s σ H Q I (i σ H Q q)⟩
theorem ptI {X : Cx} {e : Expr} {t t' : TT} (h : PT X e t) (i : ∀ σ H Q, t' σ H Q → t σ H Q) : PT X e t' := ⟨fun pins s σ H Q I q => h.run pins s σ H Q I (i σ H Q q)⟩
theorem paI {X : Cx} {e : List Expr} {t t' : TA} (h : PA X e t) (i : ∀ σ H Q, t' σ H Q → t σ H Q) : PA X e t' := ⟨fun pos pins s σ H Q I q => h.run pos pins s σ H Q I (i σ H Q q)⟩
theorem psI {X : Cx} {e : Stmt} {t t' : TS} (h : PS X e t) (i : ∀ D σ H, t' D σ H → t D σ H) : PS X e t' := ⟨fun pins s σ H D I q => h.run pins s σ H D I (i D σ H q)⟩
theorem pssI {X : Cx} {e : List Stmt} {t t' : TS} (h : PSs X e t) (i : ∀ D σ H, t' D σ H → t D σ H) : PSs X e t' := ⟨fun pins s σ H D I q => h.run pins s σ H D I (i D σ H q)⟩
def DE (X : Cx) (W : WX) (e : Expr) (f : Den) : Prop := PE X e (rd X.K X.mg W f)
def DT (X : Cx) (W : WX) (e : Expr) (f : Den) : Prop := PT X e (rdt X.K X.mg W f)
def DA (X : Cx) (W : WX) (es : List Expr) (f : Dens) : Prop := PA X es (rds X.K X.mg W f)

section
variable {X : Cx} {W : WX} {a b c e : Expr} {fa fb fc : Den} {pos : Pos}

/-! ### names and constants -/
def dVar (i : Nat) : Den := fun ρ S => match ρ[i]? with
  | some (some d) => some (.ok d S)
  | _ => none
def dC (d : D) : Den := fun _ S => some (.ok d S)
theorem de_var (i : Nat) {x : Str} {pos : Pos} (hN : X.N[i]? = some x := by rfl) (hv : Vis X.env.scope x := by first | exact Or.inl rfl | exact Or.inr (Or.inl rfl) | exact Or.inr (Or.inr rfl)) (hd : (x == ("__debug__" : Str)) = false := by decide)
    (hcd : (x == ("__classdict__" : Str)) = false := by decide) : DE X W (.Name x pos) (dVar i) := by
  refine peI (pe_var hN hv hd hcd) fun σ H Q h => ?_
  obtain ⟨mu, S, ρ, r, s, en, hf, p⟩ := h
  unfold dVar at hf
  split at hf
  · rename_i d hd
    cases hf
    obtain ⟨v, h1, h2⟩ := en.at_ i d hd
    exact ⟨v, h1, p v H mu (Ext.refl _ _) s h2⟩
  · cases hf
theorem de_const {v : V} {d : D} (h : PE X e (tC v)) (r : ∀ H mu, Rep X.K X.mg H mu v d) : DE X W e (dC d) := by
  refine peI h fun σ H Q q => ?_
  obtain ⟨mu, S, ρ, res, s, en, hf, p⟩ := q
  cases hf
  exact p v H mu (Ext.refl _ _) s (r H mu)
theorem de_int {i j pos} : DE X W (.Constant (.int i) j pos) (dC (.int i)) := de_const pe_int fun _ _ => .int i
theorem de_bl {i j pos} : DE X W (.Constant (.bool i) j pos) (dC (.bl i)) := de_const pe_bl fun _ _ => .bl i
theorem de_non {j pos} : DE X W (.Constant .none j pos) (dC .non) := de_const pe_non fun _ _ => .non
theorem de_str {x j pos} : DE X W (.Constant (.str x) j pos) (dC (.str x)) := de_const pe_str fun _ _ => .str x

/-! ### operators -/
abbrev Op2 := D → D → Store → Option Res
abbrev Op1 := D → Store → Option Res
def dBin (op : Op2) (fa fb : Den) : Den := fun ρ S => bnd (fa ρ S) fun x S1 => bnd (fb ρ S1) fun y S2 => op x y S2
def dUn (op : Op1) (fa : Den) : Den := fun ρ S => bnd (fa ρ S) fun x S1 => op x S1
/-- the operator r by values does what op does by plain values -/
def OpD (X : Cx) (r : R2) (op : Op2) : Prop := ∀ (H : Hp) (mu : List Addr) (S : Store) (x y : V) (a b : D) (res : Res) (W : WX) (σ : L2.St) (Q : VK), StOk X.K X.mg H mu S → Rep X.K X.mg H mu x a → Rep X.K X.mg H mu y b → op a b S = some res → Post X.K X.mg W σ H mu Q res → r x y H Q
def UnD (X : Cx) (r : V → Hp → VK → Prop) (op : Op1) : Prop := ∀ (H : Hp) (mu : List Addr) (S : Store) (x : V) (a : D) (res : Res) (W : WX) (σ : L2.St) (Q : VK), StOk X.K X.mg H mu S → Rep X.K X.mg H mu x a → op a S = some res → Post X.K X.mg W σ H mu Q res → r x H Q
theorem rd_bin {r : R2} {op : Op2} (ho : OpD X r op) {σ : L2.St} {H : Hp} {Q : VK} (h : rd X.K X.mg W (dBin op fa fb) σ H Q) : tOp r (rd X.K X.mg W fa) (rd X.K X.mg W fb) σ H Q := by
  obtain ⟨mu, S, ρ, res, s, en, hf, p⟩ := h
  refine rd_bnd s en hf p fun d S1 v H1 m1 x s1 en1 rp h1 p1 => ?_
  refine rd_bnd s1 en1 h1 p1 fun d2 S2 v2 H2 m2 x2 s2 en2 rp2 h2 p2 => ?_
  exact ho H2 m2 S2 v v2 d d2 res W σ Q s2 (rp.mono x2) rp2 h2 p2
theorem de_bin {op : Operator} {r : R2} {dop : Op2} (ho : OpR X (binaryOp op) r) (hd : OpD X r dop) (ha : DE X W a fa) (hb : DE X W b fb) : DE X W (.BinOp a op b pos) (dBin dop fa fb) :=
  peI (pe_op ho ha hb) fun σ H Q h => rd_bin hd h
theorem de_cmp {op : CmpOp} {r : R2} {dop : Op2} (ho : OpR X (compareOp op) r) (hd : OpD X r dop) (ha : DE X W a fa) (hb : DE X W b fb) (hm : behindInMarks op b = false) : DE X W (.Compare a [op] [b] pos) (dBin dop fa fb) :=
  peI (pe_cmpR ho ha hb hm) fun σ H Q h => rd_bin hd h
theorem de_un {op : UnaryOp} {r : V → Hp → VK → Prop} {dop : Op1} (ho : UnR X (unaryOp op) r) (hd : UnD X r dop) (ha : DE X W a fa) : DE X W (.UnaryOp op a pos) (dUn dop fa) := by
  refine peI (pe_un ho ha) fun σ H Q h => ?_
  obtain ⟨mu, S, ρ, res, s, en, hf, p⟩ := h
  refine rd_bnd s en hf p fun d S1 v H1 m1 x s1 en1 rp h1 p1 => ?_
  exact hd H1 m1 S1 v d res W σ Q s1 rp h1 p1
/-- the operator's answer is one value, nothing changes -/
theorem Post.val {σ : L2.St} {H : Hp} {mu : List Addr} {S : Store} {Q : VK} {d : D} {v : V} (p : Post X.K X.mg W σ H mu Q (.ok d S)) (s : StOk X.K X.mg H mu S) (r : Rep X.K X.mg H mu v d) : Q v H := p v H mu (Ext.refl _ _) s r
def oInt2 (g : Int → Int → Option D) : Op2 := fun a b S => match a, b with
  | .int i, .int j => (g i j).map fun d => .ok d S
  | _, _ => none
theorem opD_int {r : R2} {g : Int → Int → Option D} (h : ∀ i j d, g i j = some d → ∀ (H : Hp) (Q : VK), (∀ v, (∀ mu, Rep X.K X.mg H mu v d) → Q v H) → r (.int i) (.int j) H Q) : OpD X r (oInt2 g) := by
  intro H mu S x y a b res W σ Q s ra rb ho p
  cases a <;> cases b <;> try (cases ho)
  cases ra
  cases rb
  rename_i i j
  simp only [oInt2] at ho
  cases e : g i j with
  | none => rw [e] at ho; cases ho
  | some d =>
    rw [e] at ho
    cases ho
    exact h i j d e H Q fun v hv => Post.val p s (hv mu)
abbrev oAdd : Op2 := oInt2 fun i j => some (.int (i + j))
abbrev oSub : Op2 := oInt2 fun i j => some (.int (i - j))
abbrev oLt : Op2 := oInt2 fun i j => some (.bl (decide (i < j)))
abbrev oLe : Op2 := oInt2 fun i j => some (.bl (decide (i ≤ j)))
abbrev oGt : Op2 := oInt2 fun i j => some (.bl (decide (j < i)))
abbrev oGe : Op2 := oInt2 fun i j => some (.bl (decide (j ≤ i)))
theorem de_sub (ha : DE X W a fa) (hb : DE X W b fb) : DE X W (.BinOp a .Sub b pos) (dBin oSub fa fb) := de_bin op_sub (opD_int fun i j d e H Q q => by cases e; exact ⟨i, j, rfl, rfl, q _ fun mu => .int _⟩) ha hb
theorem de_lt (ha : DE X W a fa) (hb : DE X W b fb) : DE X W (.Compare a [.Lt] [b] pos) (dBin oLt fa fb) := de_cmp op_lt (opD_int fun i j d e H Q q => by cases e; exact ⟨i, j, rfl, rfl, q _ fun mu => .bl _⟩) ha hb (nomark _)
theorem de_le (ha : DE X W a fa) (hb : DE X W b fb) : DE X W (.Compare a [.LtE] [b] pos) (dBin oLe fa fb) := de_cmp op_le (opD_int fun i j d e H Q q => by cases e; exact ⟨i, j, rfl, rfl, q _ fun mu => .bl _⟩) ha hb (nomark _)
theorem de_gt (ha : DE X W a fa) (hb : DE X W b fb) : DE X W (.Compare a [.Gt] [b] pos) (dBin oGt fa fb) := de_cmp op_gt (opD_int fun i j d e H Q q => by cases e; exact ⟨i, j, rfl, rfl, q _ fun mu => .bl _⟩) ha hb (nomark _)
theorem de_ge (ha : DE X W a fa) (hb : DE X W b fb) : DE X W (.Compare a [.GtE] [b] pos) (dBin oGe fa fb) := de_cmp op_ge (opD_int fun i j d e H Q q => by cases e; exact ⟨i, j, rfl, rfl, q _ fun mu => .bl _⟩) ha hb (nomark _)
end
end PD
set_option Elab.async false
set_option linter.all false
set_option maxRecDepth 100000
set_option maxHeartbeats 4000000
namespace PD
open PySem PySem.Spec PyProof.Rows L2
section
variable {X : Cx} {W : WX} {a b c e : Expr} {fa fb fc : Den} {pos : Pos}

/-! ### lists of values -/
def asList (S : Store) : D → Option (List D)
  | .lst xs => some xs
  | .ref n => S[n]?
  | _ => none
/-- a frozen or a changing list -/
theorem rep_list {H : Hp} {mu : List Addr} {S : Store} {v : V} {d : D} {xs : List D} (s : StOk X.K X.mg H mu S) (r : Rep X.K X.mg H mu v d) (h : asList S d = some xs) : ∃ p vs, v = .ref p ∧ H p = some (.lst vs) ∧ Reps X.K X.mg H mu vs xs := by
  cases d with
  | lst ys =>
    cases h
    cases r with
    | lst h n r => exact ⟨_, _, rfl, h, r⟩
  | ref n =>
    cases r with
    | ref h' =>
      obtain ⟨vs, h1, h2⟩ := s.at_ n _ xs h' h
      exact ⟨_, _, rfl, h1, h2⟩
  | _ => cases h
def asSeq (S : Store) : D → Option (List D)
  | .lst xs => some xs
  | .tup xs => some xs
  | .scr ns => some (ns.map D.int)
  | .ref n => S[n]?
  | _ => none
theorem rep_seq {H : Hp} {mu : List Addr} {S : Store} {v : V} {d : D} {xs : List D} (s : StOk X.K X.mg H mu S) (r : Rep X.K X.mg H mu v d) (h : asSeq S d = some xs) : ∃ p vs, v = .ref p ∧ (SqL X.K H p vs ∨ SqT X.K H p vs) ∧ Reps X.K X.mg H mu vs xs := by
  cases d with
  | lst ys =>
    cases h
    cases r with
    | lst h n r => exact ⟨_, _, rfl, .inl (.of h), r⟩
  | tup ys =>
    cases h
    cases r with
    | tup h r => exact ⟨_, _, rfl, .inr h.sq, r⟩
  | scr ns =>
    cases h
    cases r with
    | scr h => exact ⟨_, _, rfl, .inl h.sq, .ints ns⟩
  | ref n =>
    cases r with
    | ref h' =>
      obtain ⟨vs, h1, h2⟩ := s.at_ n _ xs h' h
      exact ⟨_, _, rfl, .inl (.of h1), h2⟩
  | _ => cases h
theorem line_eq : sizeLine = 16777216 := sizeLine_eq
/-- a new frozen list, a new tuple -/
theorem Post.lst {σ : L2.St} {H : Hp} {mu : List Addr} {S : Store} {Q : VK} {ds : List D} {vs : List V} (p : Post X.K X.mg W σ H mu Q (.ok (.lst ds) S)) (s : StOk X.K X.mg H mu S) (r : Reps X.K X.mg H mu vs ds) : ∀ q, H q = none → Q (.ref q) (upd H q (.lst vs)) := fun q hq => by
  have n := s.free hq
  have x : Ext H mu (upd H q (.lst vs)) mu := Ext.fresh hq n
  exact p _ _ mu x (s.fresh hq) (.lst upd_same n (r.mono x))
theorem Post.tup {σ : L2.St} {H : Hp} {mu : List Addr} {S : Store} {Q : VK} {ds : List D} {vs : List V} (p : Post X.K X.mg W σ H mu Q (.ok (.tup ds) S)) (s : StOk X.K X.mg H mu S) (r : Reps X.K X.mg H mu vs ds) : ∀ q, H q = none → Q (.ref q) (upd H q (.tup vs)) := fun q hq => by
  have n := s.free hq
  have x : Ext H mu (upd H q (.tup vs)) mu := Ext.fresh hq n
  exact p _ _ mu x (s.fresh hq) (.tup (.inl ⟨.inl upd_same, n⟩) (r.mono x))
/-- a new list that may change -/
theorem Post.mut {σ : L2.St} {H : Hp} {mu : List Addr} {S : Store} {Q : VK} {ds : List D} {vs : List V} (p : Post X.K X.mg W σ H mu Q (.ok (.ref S.length) (S ++ [ds]))) (s : StOk X.K X.mg H mu S) (r : Reps X.K X.mg H mu vs ds) : ∀ q, H q = none → Q (.ref q) (upd H q (.lst vs)) := fun q hq => by
  have x : Ext H mu (upd H q (.lst vs)) (mu ++ [q]) := Ext.grow s hq
  refine p _ _ (mu ++ [q]) x (s.grow hq r) (.ref ?_)
  rw [← s.len, List.getElem?_append_right (Nat.le_refl _)]
  simp

/-! ### + -/
def lPlus : Op2 := fun a b S => match asList S a, asList S b with
  | some xs, some ys => if xs.length + ys.length ≤ 16777216 then some (.ok (.lst (xs ++ ys)) S) else none
  | _, _ => none
def oPlus : Op2 := fun a b S => match a, b with
  | .int i, .int j => some (.ok (.int (i + j)) S)
  | .str x, .str y => if x.length + y.length ≤ 16777216 then some (.ok (.str (x ++ y)) S) else none
  | .tup xs, .tup ys => if xs.length + ys.length ≤ 16777216 then some (.ok (.tup (xs ++ ys)) S) else none
  | a, b => lPlus a b S
abbrev rPlus (K : PySem.W.Frag) : R2 := fun x y H Q => (rI0 fun i j => .int (i + j)) x y H Q ∨ ((fun x y H Q => ∃ i j, x = .str i ∧ y = .str j ∧ i.length + j.length ≤ sizeLine ∧ Q (.str (i ++ j)) H : R2) x y H Q ∨ ((rCatA K) x y H Q ∨ rCat x y H Q))
theorem op_plus : OpR X (binaryOp .Add) (rPlus X.K) := op_add.or (op_add_str.or (op_catA.or op_cat))
theorem opD_plus : OpD X (rPlus X.K) oPlus := by
  intro H mu S x y a b res W σ Q s ra rb ho p
  have lists : lPlus a b S = some res → rPlus X.K x y H Q := fun ho => by
    unfold lPlus at ho
    split at ho
    · rename_i xs ys h1 h2
      split at ho
      · rename_i hz
        cases ho
        obtain ⟨p1, vs, rfl, e1, r1⟩ := rep_list s ra h1
        obtain ⟨p2, ws, rfl, e2, r2⟩ := rep_list s rb h2
        exact .inr (.inr (.inr ⟨p1, p2, vs, ws, rfl, rfl, e1, e2, by rw [r1.length, r2.length, line_eq]; exact hz, p.lst s (r1.append r2)⟩))
      · cases ho
    · cases ho
  cases a <;> cases b <;> (try exact lists ho)
  · cases ho; cases ra; cases rb
    exact .inl ⟨_, _, rfl, rfl, p.val s (.int _)⟩
  · simp only [oPlus] at ho
    split at ho
    · cases ho; cases ra; cases rb
      exact .inr (.inl ⟨_, _, rfl, rfl, by rw [line_eq]; assumption, p.val s (.str _)⟩)
    · cases ho
  · simp only [oPlus] at ho
    split at ho
    · rename_i xs ys hz
      cases ho
      cases ra with
      | tup h1 r1 =>
        cases rb with
        | tup h2 r2 =>
          refine .inr (.inr (.inl ⟨_, _, _, _, rfl, rfl, h1.sq, h2.sq, by rw [r1.length, r2.length, line_eq]; exact hz, fun e => ?_, fun _ e => ?_, fun _ _ => p.tup s (r1.append r2)⟩))
          · subst e
            cases r1
            exact p.val s (.tup h2 r2)
          · subst e
            cases r2
            rw [List.append_nil] at p
            exact p.val s (.tup h1 r1)
    · cases ho
theorem de_add (ha : DE X W a fa) (hb : DE X W b fb) : DE X W (.BinOp a .Add b pos) (dBin oPlus fa fb) := de_bin op_plus opD_plus ha hb

/-! ### * -/
def small64 (i : Int) : Bool := decide (-(2 ^ 64) < i) && decide (i < 2 ^ 64)
def mulFits (i j : Int) : Bool := small64 i || small64 j || decide (i.natAbs.log2 + j.natAbs.log2 < 1000000)
def oMulI : Op2 := oInt2 fun i j => if mulFits i j then some (.int (i * j)) else none
theorem op_mulA : OpR X (binaryOp .Mult) (fun x y H Q => (rI CMul fun i j => .int (i * j)) x y H Q ∨ (rI CMulW fun i j => .int (i * j)) x y H Q) := op_mul.or op_mulW
theorem small64_ok {i : Int} (h : small64 i = true) : -(2 ^ 64) < i ∧ i < 2 ^ 64 := by
  unfold small64 at h
  simpa using h
theorem opD_mulI : OpD X (fun x y H Q => (rI CMul fun i j => .int (i * j)) x y H Q ∨ (rI CMulW fun i j => .int (i * j)) x y H Q) oMulI := opD_int fun i j d e H Q q => by
  split at e
  · rename_i h
    cases e
    unfold mulFits at h
    rw [Bool.or_eq_true, Bool.or_eq_true] at h
    rcases h with (h | h) | h
    · exact .inl ⟨i, j, rfl, rfl, .inl (small64_ok h), q _ fun mu => .int _⟩
    · exact .inl ⟨i, j, rfl, rfl, .inr (small64_ok h), q _ fun mu => .int _⟩
    · exact .inr ⟨i, j, rfl, rfl, show i.natAbs.log2 + j.natAbs.log2 < 1000000 from of_decide_eq_true h, q _ fun mu => .int _⟩
  · cases e
/-- int * int, list * int, tuple * int -/
def lMul : Op2 := fun a b S => match b with
  | .int k => (match asList S a with
    | some xs => if -(2 ^ 63) ≤ k ∧ k < 2 ^ 63 ∧ xs.length * k.toNat ≤ 16777216 then some (.ok (.lst (List.replicate k.toNat xs).flatten) S) else none
    | none => none)
  | _ => none
instance (xs : List D) : Decidable (xs ≠ []) := match xs with
  | [] => isFalse (fun h => h rfl)
  | _ :: _ => isTrue (fun h => nomatch h)
def oMul : Op2 := fun a b S => match a, b with
  | .int i, .int j => if mulFits i j then some (.ok (.int (i * j)) S) else none
  | .tup xs, .int k => if k = 1 then some (.ok (.tup xs) S) else if k = 0 ∧ xs ≠ [] then some (.ok (.tup []) S) else if 2 ≤ k ∧ k ≤ 1000 ∧ xs.length ≤ 1000 ∧ xs ≠ [] then some (.ok (.tup (List.replicate k.toNat xs).flatten) S) else none
  | a, b => lMul a b S
theorem reps_rep {H : Hp} {mu : List Addr} {vs : List V} {ds : List D} (r : Reps X.K X.mg H mu vs ds) : ∀ k : Nat, Reps X.K X.mg H mu (List.replicate k vs).flatten (List.replicate k ds).flatten
  | 0 => .nil
  | k + 1 => by
    rw [List.replicate_succ, List.replicate_succ, List.flatten_cons, List.flatten_cons]
    exact r.append (reps_rep r k)
/-- a tuple times 1 is that tuple -/
theorem tuple_once (l : Addr) (its : Array Value) (n : Nat) (dd : Option Addr) (sl : Array (Option Value)) (u : Tok) :
    Meets (Builtin.«tuple.__mul__» ⟨[.ref l, .int 1 u], []⟩) (fun _ R s => s.heap.get? l = some { cls := .type "tuple", dict := dd, data := .seq its n, slots := sl } ∧ R (.ok (.ret (Value.ref l))) s) :=
  .of_wp fun prog w A R s h => by
    obtain ⟨hp, gn, dr, tk, os⟩ := s
    obtain ⟨there, h⟩ := h
    have ix := AutoSeq1.idx_int
    have yes : (its.isEmpty || (1 : Int) == 1) = true := by cases its.isEmpty <;> rfl
    wp_walk using wpAny_loadPart' there
    repeat (first
      | (refine wpAny_ite_false (decide_eq_false (by decide)) ?_; wp_walk using wpAny_loadPart' there)
      | (refine wpAny_ite_true (decide_eq_true yes) ?_; wp_walk using wpAny_loadPart' there)
      | (rw [if_pos yes]; wp_walk using wpAny_loadPart' there))
    first
      | exact ⟨_, rfl, h⟩
      | exact h
def rOnce (K : PySem.W.Frag) : R2 := fun x y H Q => ∃ l xs, x = .ref l ∧ y = .int 1 ∧ SqT K H l xs ∧ Q (.ref l) H
theorem op_once : OpR X (binaryOp .Mult) (rOnce X.K) := by
  intro pins s σ H x y v u Q J rx ry h
  obtain ⟨l, xs, rfl, rfl, hT, q⟩ := h
  cases rx
  obtain ⟨t, rfl⟩ := ry
  obtain ⟨its, r, ⟨⟨cls, dd, data, sl⟩, ho, hc, n, hd⟩, _⟩ := J.tuple hT
  simp only at hc hd
  subst hc hd
  exact wpAny_binaryOp_repeat_ref (T := "tuple") (U := "int") (by decide) ⟨_, ho, rfl⟩ (fun s' => typeIs_int s' 1 t) noFill_tuple_mul F.fills_int_mul F.slot_int_rmul repeat_tuple F.slot_int_index.lookup
    (call_meets F.slot_int_rmul (typeIs_int s 1 t) F.entry_int_rmul (F.args_int_rmul_2 _ _) (int_rmul_tuple 1 t l its.toArray n dd sl)
      ⟨ho, rfl, ⟨_, ho, rfl⟩, call_meets F.slot_tuple_mul ⟨_, ho, rfl⟩ F.entry_tuple_mul (F.args_tuple_mul_2 _ _) (tuple_once l its.toArray n dd sl t) ⟨ho, .ref l, H, J, rfl, q⟩⟩)
/-- a tuple times 0 is a new empty one -/
theorem tuple_zero (l : Addr) (its : Array Value) (n : Nat) (dd : Option Addr) (sl : Array (Option Value)) (u : Tok) (c1 : (its.isEmpty || (0 : Int) == 1) = false) :
    Meets (Builtin.«tuple.__mul__» ⟨[.ref l, .int 0 u], []⟩) (fun _ R s => s.heap.get? l = some { cls := .type "tuple", dict := dd, data := .seq its n, slots := sl } ∧
      R (.ok (.ret (Value.ref s.heap.objs.size))) { s with heap := s.heap.push { cls := Value.type "tuple", data := Data.seq #[] }, toks := s.toks }) :=
  .of_wp fun prog w A R s h => by
    obtain ⟨hp, g, d, tk, os⟩ := s
    obtain ⟨hl, h⟩ := h
    have f1 := AutoSeq1.idx_int
    wp_walk using wpAny_loadPart' hl
    repeat (first
      | (refine wpAny_ite_false (decide_eq_false (by decide)) ?_; wp_walk using wpAny_loadPart' hl)
      | (refine wpAny_ite_false (decide_eq_false (by rw [c1]; exact Bool.false_ne_true)) ?_; wp_walk using wpAny_loadPart' hl)
      | (refine wpAny_ite_true (decide_eq_true (by rfl)) ?_; wp_walk using wpAny_loadPart' hl))
    exact ⟨_, rfl, h⟩
def rZero (K : PySem.W.Frag) : R2 := fun x y H Q => ∃ l xs, x = .ref l ∧ y = .int 0 ∧ SqT K H l xs ∧ xs ≠ [] ∧ ∀ p, H p = none → Q (.ref p) (upd H p (.tup []))
theorem op_zero : OpR X (binaryOp .Mult) (rZero X.K) := by
  intro pins s σ H x y v u Q I rx ry h
  obtain ⟨l, xs, rfl, rfl, hT, hne, q⟩ := h
  cases rx
  obtain ⟨t, rfl⟩ := ry
  obtain ⟨its, r, ⟨⟨cls, dd, data, sl⟩, ho, hc, n, hd⟩, hs⟩ := I.tuple hT
  simp only at hc hd
  subst hc hd
  have hle : its.length = xs.length := r.length.symm
  have hn : its ≠ [] := fun e => hne (by
    rw [e] at hle
    exact List.eq_nil_of_length_eq_zero hle.symm)
  have c1 : (its.toArray.isEmpty || (0 : Int) == 1) = false := by
    cases its with
    | nil => exact absurd rfl hn
    | cons a b => rfl
  refine wpAny_binaryOp_repeat_ref (T := "tuple") (U := "int") (by decide) ⟨_, ho, rfl⟩ (fun s' => typeIs_int s' 0 t) noFill_tuple_mul F.fills_int_mul F.slot_int_rmul repeat_tuple F.slot_int_index.lookup
    (call_meets F.slot_int_rmul (typeIs_int s 0 t) F.entry_int_rmul (F.args_int_rmul_2 _ _) (int_rmul_tuple 0 t l its.toArray n dd sl)
      ⟨ho, rfl, ⟨_, ho, rfl⟩, call_meets F.slot_tuple_mul ⟨_, ho, rfl⟩ F.entry_tuple_mul (F.args_tuple_mul_2 _ _) (tuple_zero l its.toArray n dd sl t c1) ⟨ho, ?_⟩⟩)
  refine ⟨.ref s.heap.objs.size, _, I.laid (t' := s.toks) (o := .tup []) (fun b ob q => Heap.get?_push_of_some _ q) (Nat.le_refl _) ?_, rfl, q _ (I.hok.fresh (Nat.le_refl _))⟩
  exact ⟨Nat.zero_le _, [], .nil, IsTup.new _ _⟩
abbrev rMulA (K : PySem.W.Frag) : R2 := fun x y H Q => ((rI CMul fun i j => .int (i * j)) x y H Q ∨ (rI CMulW fun i j => .int (i * j)) x y H Q) ∨ ((rRepT K) x y H Q ∨ (rRep x y H Q ∨ ((rOnce K) x y H Q ∨ (rZero K) x y H Q)))
theorem op_mulAll : OpR X (binaryOp .Mult) (rMulA X.K) := op_mulA.or (op_repT.or (op_rep.or (op_once.or op_zero)))
theorem opD_mul : OpD X (rMulA X.K) oMul := by
  intro H mu S x y a b res W σ Q s ra rb ho p
  have lists : lMul a b S = some res → rMulA X.K x y H Q := fun ho => by
    unfold lMul at ho
    split at ho
    · rename_i k
      split at ho
      · rename_i xs h1
        split at ho
        · rename_i hz
          cases ho
          cases rb
          obtain ⟨p1, vs, rfl, e1, r1⟩ := rep_list s ra h1
          exact .inr (.inr (.inl ⟨p1, _, vs, rfl, rfl, e1, hz.1, hz.2.1, by rw [r1.length, line_eq]; exact hz.2.2, p.lst s (reps_rep r1 _)⟩))
        · cases ho
      · cases ho
    · cases ho
  cases a <;> cases b <;> (try exact lists ho)
  · rename_i i j
    have ho' : oMulI (.int i) (.int j) S = some res := by
      simp only [oMulI, oInt2]
      rw [← ho]
      simp only [oMul]
      split <;> rfl
    exact .inl (opD_mulI H mu S x y _ _ res W σ Q s ra rb ho' p)
  · simp only [oMul] at ho
    split at ho
    · rename_i hk
      cases ho
      cases rb
      subst hk
      cases ra with
      | tup h1 r1 => exact .inr (.inr (.inr (.inl ⟨_, _, rfl, rfl, h1.sq, p.val s (.tup h1 r1)⟩)))
    split at ho
    · rename_i hz
      cases ho
      cases rb
      obtain ⟨hz, hn⟩ := hz
      subst hz
      cases ra with
      | tup h1 r1 =>
        have hne : ∀ {vs : List V} {ds : List D}, Reps X.K X.mg H mu vs ds → ds ≠ [] → vs ≠ [] := fun r h => by
          cases r with
          | nil => exact absurd rfl h
          | cons _ _ => exact fun z => nomatch z
        exact .inr (.inr (.inr (.inr ⟨_, _, rfl, rfl, h1.sq, hne r1 hn, p.tup s .nil⟩)))
    split at ho
    · rename_i hz
      cases ho
      cases rb
      cases ra with
      | tup h1 r1 =>
        have hne : ∀ {vs : List V} {ds : List D}, Reps X.K X.mg H mu vs ds → ds ≠ [] → vs ≠ [] := fun r h => by
          cases r with
          | nil => exact absurd rfl h
          | cons _ _ => exact fun z => nomatch z
        exact .inr (.inl ⟨_, _, _, rfl, rfl, h1.sq, hne r1 hz.2.2.2, hz.1, hz.2.1, by rw [r1.length]; exact hz.2.2.1, p.tup s (reps_rep r1 _)⟩)
    · cases ho
theorem de_mul (ha : DE X W a fa) (hb : DE X W b fb) : DE X W (.BinOp a .Mult b pos) (dBin oMul fa fb) := de_bin op_mulAll opD_mul ha hb

/-! ### % // ** - -/
abbrev oMod : Op2 := oInt2 fun i j => if 0 < j then some (.int (i % j)) else none
abbrev oDiv : Op2 := oInt2 fun i j => if 0 < j ∧ j.natAbs.log2 < 9000 then some (.int (i / j)) else none
abbrev oPow : Op2 := oInt2 fun i j => if 0 ≤ j ∧ j ≤ 1000000 ∧ i.natAbs < 2 ^ 64 then some (.int (i ^ j.toNat)) else none
theorem de_mod (ha : DE X W a fa) (hb : DE X W b fb) : DE X W (.BinOp a .Mod b pos) (dBin oMod fa fb) := de_bin op_mod (opD_int fun i j d e H Q q => by
  split at e
  · cases e; exact ⟨i, j, rfl, rfl, by assumption, q _ fun mu => .int _⟩
  · cases e) ha hb
theorem de_div (ha : DE X W a fa) (hb : DE X W b fb) : DE X W (.BinOp a .FloorDiv b pos) (dBin oDiv fa fb) := de_bin op_fdivW (opD_int fun i j d e H Q q => by
  split at e
  · cases e; exact ⟨i, j, rfl, rfl, by assumption, q _ fun mu => .int _⟩
  · cases e) ha hb
theorem de_pow (ha : DE X W a fa) (hb : DE X W b fb) : DE X W (.BinOp a .Pow b pos) (dBin oPow fa fb) := de_bin op_pow (opD_int fun i j d e H Q q => by
  split at e
  · cases e; exact ⟨i, j, rfl, rfl, by assumption, q _ fun mu => .int _⟩
  · cases e) ha hb
def oNeg : Op1 := fun a S => match a with
  | .int i => some (.ok (.int (-i)) S)
  | _ => none
theorem de_neg (ha : DE X W a fa) : DE X W (.UnaryOp .USub a pos) (dUn oNeg fa) := de_un un_neg (fun H mu S x d res W σ Q s r ho p => by
  cases d <;> try (cases ho; done)
  cases ho; cases r
  exact ⟨_, rfl, p.val s (.int _)⟩) ha

/-! ### == and != by data -/
mutual
def pyr (g : Nat → Option PyData) : D → Option PyData
  | .non => some .none
  | .bl b => some (.bool b)
  | .int i => some (.int i)
  | .str s => some (.str s)
  | .tup xs => (pyrs g xs).map .tuple
  | .lst xs => (pyrs g xs).map .list
  | .scr ns => some (.list (ns.map .int))
  | .ref k => g k
  | .err _ _ _ => none
  | .rng _ _ => none
  | .cau .. => none
def pyrs (g : Nat → Option PyData) : List D → Option (List PyData)
  | [] => some []
  | x :: xs => match pyr g x, pyrs g xs with
    | some y, some ys => some (y :: ys)
    | _, _ => none
end
def pyg (S : Store) : Nat → Nat → Option PyData
  | 0, _ => none
  | j + 1, k => match S[k]? with
    | some xs => (pyrs (pyg S j) xs).map .list
    | none => none
def toPy (S : Store) (d : D) : Option PyData := pyr (pyg S 3) d
theorem dp_ints {K : PySem.W.Frag} {H : Hp} : ∀ ns : List Int, DpAll K H (ns.map V.int) (ns.map PyData.int)
  | [] => .nil
  | n :: ns => .cons (.int n) (dp_ints ns)
mutual
theorem rep_dp {H : Hp} {mu : List Addr} {g : Nat → Option PyData} (hg : ∀ k v y, Rep X.K X.mg H mu v (.ref k) → g k = some y → Dp X.K H v y) : ∀ {v : V} {d : D} {y : PyData}, Rep X.K X.mg H mu v d → pyr g d = some y → Dp X.K H v y
  | _, _, _, .non, h => by simp only [pyr] at h; cases h; exact .non
  | _, _, _, .bl b, h => by simp only [pyr] at h; cases h; exact .bl b
  | _, _, _, .int i, h => by simp only [pyr] at h; cases h; exact .int i
  | _, _, _, .str i, h => by simp only [pyr] at h; cases h; exact .str i
  | _, _, _, .tup hq r, h => by
    simp only [pyr] at h
    obtain ⟨ys, h1, rfl⟩ := Option.map_eq_some_iff.mp h
    exact .tup hq.sq (reps_dp hg r h1)
  | _, _, _, .lst hq hn r, h => by
    simp only [pyr] at h
    obtain ⟨ys, h1, rfl⟩ := Option.map_eq_some_iff.mp h
    exact .lst (.of hq) (reps_dp hg r h1)
  | _, _, _, .scr hq, h => by
    simp only [pyr] at h
    cases h
    exact .lst hq.sq (dp_ints _)
  | _, _, _, .ref hq, h => by
    simp only [pyr] at h
    exact hg _ _ _ (.ref hq) h
  | _, _, _, .err .., h => by simp only [pyr] at h; cases h
  | _, _, _, .cau .., h => by simp only [pyr] at h; cases h
theorem reps_dp {H : Hp} {mu : List Addr} {g : Nat → Option PyData} (hg : ∀ k v y, Rep X.K X.mg H mu v (.ref k) → g k = some y → Dp X.K H v y) : ∀ {vs : List V} {ds : List D} {ys : List PyData}, Reps X.K X.mg H mu vs ds → pyrs g ds = some ys → DpAll X.K H vs ys
  | _, _, _, .nil, h => by simp only [pyrs] at h; cases h; exact .nil
  | _, _, ys, .cons (d := d) (ds := ds) r t, h => by
    simp only [pyrs] at h
    cases e1 : pyr g d with
    | none => rw [e1] at h; cases h
    | some y =>
      cases e2 : pyrs g ds with
      | none => rw [e1, e2] at h; cases h
      | some zs =>
        rw [e1, e2] at h
        cases h
        exact .cons (rep_dp hg r e1) (reps_dp hg t e2)
end
theorem pyg_ok {H : Hp} {mu : List Addr} {S : Store} (s : StOk X.K X.mg H mu S) : ∀ (j k : Nat) (v : V) (y : PyData), Rep X.K X.mg H mu v (.ref k) → pyg S j k = some y → Dp X.K H v y
  | 0, _, _, _, _, h => by cases h
  | j + 1, k, v, y, r, h => by
    cases r with
    | ref hq =>
    simp only [pyg] at h
    cases e : S[k]? with
    | none => rw [e] at h; cases h
    | some xs =>
      rw [e] at h
      obtain ⟨ys, h1, rfl⟩ := Option.map_eq_some_iff.mp h
      obtain ⟨vs, hv, hr⟩ := s.at_ k _ xs hq e
      exact .lst (.of hv) (reps_dp (pyg_ok s j) hr h1)
def eqD (S : Store) (a b : D) : Option Bool := match toPy S a, toPy S b with
  | some x, some y => if SeqAt.shaped x && SeqAt.shaped y then some (PyData.eqv x y) else none
  | _, _ => none
theorem eqD_ok {H : Hp} {mu : List Addr} {S : Store} {x y : V} {a b : D} {k : Bool} (s : StOk X.K X.mg H mu S) (ra : Rep X.K X.mg H mu x a) (rb : Rep X.K X.mg H mu y b) (h : eqD S a b = some k) :
    ∃ d e, Dp X.K H x d ∧ Dp X.K H y e ∧ SeqAt.shaped d = true ∧ SeqAt.shaped e = true ∧ k = PyData.eqv d e := by
  unfold eqD at h
  split at h
  · rename_i d e h1 h2
    split at h
    · rename_i hs
      cases h
      rw [Bool.and_eq_true] at hs
      exact ⟨d, e, rep_dp (pyg_ok s 3) ra h1, rep_dp (pyg_ok s 3) rb h2, hs.1, hs.2, rfl⟩
    · cases h
  · cases h
def oEq : Op2 := fun a b S => (eqD S a b).map fun k => .ok (.bl k) S
def oNe : Op2 := fun a b S => (eqD S a b).map fun k => .ok (.bl (!k)) S
theorem de_eq (hu : X.A.units + 64 < cLine) (ha : DE X W a fa) (hb : DE X W b fb) : DE X W (.Compare a [.Eq] [b] pos) (dBin oEq fa fb) := de_cmp (op_eqD hu) (fun H mu S x y a b res W σ Q s ra rb ho p => by
  obtain ⟨k, h1, rfl⟩ := Option.map_eq_some_iff.mp ho
  obtain ⟨d, e, q1, q2, q3, q4, rfl⟩ := eqD_ok s ra rb h1
  exact ⟨d, e, q1, q2, q3, q4, p.val s (.bl _)⟩) ha hb (nomark _)
theorem de_ne (hu : X.A.units + 64 < cLine) (ha : DE X W a fa) (hb : DE X W b fb) : DE X W (.Compare a [.NotEq] [b] pos) (dBin oNe fa fb) := de_cmp (op_neD hu) (fun H mu S x y a b res W σ Q s ra rb ho p => by
  obtain ⟨k, h1, rfl⟩ := Option.map_eq_some_iff.mp ho
  obtain ⟨d, e, q1, q2, q3, q4, rfl⟩ := eqD_ok s ra rb h1
  exact ⟨d, e, q1, q2, q3, q4, p.val s (.bl _)⟩) ha hb (nomark _)
/-! ### is None -/
def isNon : D → Bool
  | .non => true
  | _ => false
def dIsN (f : Den) : Den := fun ρ S => bnd (f ρ S) fun d S1 => some (.ok (.bl (isNon d)) S1)
def dNotN (f : Den) : Den := fun ρ S => bnd (f ρ S) fun d S1 => some (.ok (.bl (!isNon d)) S1)
theorem rep_non {H : Hp} {mu : List Addr} {v : V} {d : D} (r : Rep X.K X.mg H mu v d) : decide (v = .non) = isNon d := by
  cases r <;> first | rfl | (exact decide_eq_false (fun z => nomatch z))
theorem de_isN {j pos'} (ha : DE X W a fa) : DE X W (.Compare a [.Is] [.Constant .none j pos'] pos) (dIsN fa) := by
  refine peI (pe_cmp (pc_isN ha)) fun σ H Q h => ?_
  obtain ⟨mu, S, ρ, res, s, en, hf, p⟩ := h
  refine rd_bnd s en hf p fun d S1 v H1 m1 x s1 en1 rp h1 p1 => ?_
  cases h1
  rw [rep_non rp]
  exact p1.val s1 (.bl _)
theorem de_notN {j pos'} (ha : DE X W a fa) : DE X W (.Compare a [.IsNot] [.Constant .none j pos'] pos) (dNotN fa) := by
  refine peI (pe_cmp (pc_notN ha)) fun σ H Q h => ?_
  obtain ⟨mu, S, ρ, res, s, en, hf, p⟩ := h
  refine rd_bnd s en hf p fun d S1 v H1 m1 x s1 en1 rp h1 p1 => ?_
  cases h1
  rw [rep_non rp]
  exact p1.val s1 (.bl _)
end
end PD
set_option Elab.async false
set_option linter.all false
set_option maxRecDepth 100000
set_option maxHeartbeats 4000000
namespace PD
open PySem PySem.Spec PyProof.Rows L2
section
variable {X : Cx} {W : WX} {a b c e : Expr} {fa fb fc : Den} {pos : Pos}

/-! ### tests -/
/-- a value's truth -/
def truth (S : Store) : D → Option Bool
  | .non => some false
  | .bl b => some b
  | .int i => some (i != 0)
  | .str s => if s.length ≤ 16777216 then some ((s.length : Int) != 0) else none
  | .tup xs => some !xs.isEmpty
  | .lst xs => some !xs.isEmpty
  | .scr ns => some !ns.isEmpty
  | .ref k => (S[k]?).map fun xs => !xs.isEmpty
  | .err .. => none
  | .rng .. => none
  | .cau .. => none
def dTru (f : Den) : Den := fun ρ S => bnd (f ρ S) fun d S1 => (truth S1 d).map fun k => .ok (.bl k) S1
theorem reps_empty {H : Hp} {mu : List Addr} {vs : List V} {ds : List D} (r : Reps X.K X.mg H mu vs ds) : vs.isEmpty = ds.isEmpty := by cases r <;> rfl
theorem rep_truth {H : Hp} {mu : List Addr} {S : Store} {v : V} {d : D} {k : Bool} (s : StOk X.K X.mg H mu S) (r : Rep X.K X.mg H mu v d) (h : truth S d = some k) : TruV X.K v H k := by
  cases r with
  | non => cases h; rfl
  | bl b => cases h; rfl
  | int i => cases h; rfl
  | str x =>
    simp only [truth] at h
    split at h
    · cases h; exact ⟨by rw [line_eq]; assumption, rfl⟩
    · cases h
  | tup hq r => cases h; exact .inr (.inl ⟨_, hq.sq, by rw [reps_empty r]⟩)
  | lst hq n r => cases h; exact .inl ⟨_, .of hq, by rw [reps_empty r]⟩
  | @scr a ns hq => cases h; exact .inl ⟨_, hq.sq, by cases ns <;> rfl⟩
  | rng hq n => cases h
  | ref hq =>
    simp only [truth] at h
    obtain ⟨xs, h1, rfl⟩ := Option.map_eq_some_iff.mp h
    obtain ⟨vs, hv, hr⟩ := s.at_ _ _ xs hq h1
    exact .inl ⟨_, .of hv, by rw [reps_empty hr]⟩
  | err => cases h
  | cau => cases h
/-- a test by its value's truth -/
theorem dt_truth (ha : DE X W a fa) (he : ∀ whole, isTrue a X.env whole = (do let v ← whole; standAt a.pos; holding [v] (truthy v)) := by intro _; rfl) : DT X W a (dTru fa) := by
  refine ptI (pt_truth ha he) fun σ H Q h => ?_
  obtain ⟨mu, S, ρ, res, s, en, hf, p⟩ := h
  unfold dTru at hf
  cases e : fa ρ S with
  | none => rw [e] at hf; cases hf
  | some r1 =>
    rw [e] at hf
    cases r1 with
    | exc c ns xs S1 =>
      have hr : res = .exc c ns xs S1 := (Option.some.inj hf).symm
      subst hr
      exact ⟨mu, S, ρ, _, s, en, e, p⟩
    | ok d S1 =>
      obtain ⟨k, h1, rfl⟩ := Option.map_eq_some_iff.mp hf
      exact ⟨mu, S, ρ, _, s, en, e, fun v H1 m1 x s1 rp => ⟨k, rep_truth s1 rp h1, p H1 m1 x s1⟩⟩
/-- a comparison as a test -/
theorem dt_cmp {op : CmpOp} {r : R2} {dop : Op2} (ho : OpR X (compareOp op) r) (hd : OpD X r dop) (ha : DE X W a fa) (hb : DE X W b fb) (hm : behindInMarks op b = false)
    (hk : ∀ x y S res, dop x y S = some res → ∃ k, res = .ok (.bl k) S) : DT X W (.Compare a [op] [b] pos) (dBin dop fa fb) := by
  refine ptI (pt_cmpR ho ha hb hm) fun σ H Q h => ?_
  obtain ⟨mu, S, ρ, res, s, en, hf, p⟩ := h
  -- as an expression with the wish that the answer is a truth value
  have h2 : rd X.K X.mg W (dBin dop fa fb) σ H (fun x H' => ∃ k, x = V.bl k ∧ Q k H') := by
    refine ⟨mu, S, ρ, res, s, en, hf, ?_⟩
    cases res with
    | exc c ns xs S1 => exact p
    | ok d S1 =>
      cases d <;> first | exact False.elim p | skip
      intro v H' mu' x s' rp
      cases rp
      exact ⟨_, rfl, p H' mu' x s'⟩
  exact rd_bin hd h2
theorem ok_int2 {g : Int → Int → Bool} : ∀ (x y : D) (S : Store) (res : Res), oInt2 (fun i j => some (.bl (g i j))) x y S = some res → ∃ k, res = .ok (.bl k) S := fun x y S res h => by
  cases x <;> cases y <;> try (cases h; done)
  cases h
  exact ⟨_, rfl⟩
theorem dt_lt (ha : DE X W a fa) (hb : DE X W b fb) : DT X W (.Compare a [.Lt] [b] pos) (dBin oLt fa fb) := dt_cmp op_lt (opD_int fun i j d e H Q q => by cases e; exact ⟨i, j, rfl, rfl, q _ fun mu => .bl _⟩) ha hb (nomark _) ok_int2
theorem dt_le (ha : DE X W a fa) (hb : DE X W b fb) : DT X W (.Compare a [.LtE] [b] pos) (dBin oLe fa fb) := dt_cmp op_le (opD_int fun i j d e H Q q => by cases e; exact ⟨i, j, rfl, rfl, q _ fun mu => .bl _⟩) ha hb (nomark _) ok_int2
theorem dt_gt (ha : DE X W a fa) (hb : DE X W b fb) : DT X W (.Compare a [.Gt] [b] pos) (dBin oGt fa fb) := dt_cmp op_gt (opD_int fun i j d e H Q q => by cases e; exact ⟨i, j, rfl, rfl, q _ fun mu => .bl _⟩) ha hb (nomark _) ok_int2
theorem dt_ge (ha : DE X W a fa) (hb : DE X W b fb) : DT X W (.Compare a [.GtE] [b] pos) (dBin oGe fa fb) := dt_cmp op_ge (opD_int fun i j d e H Q q => by cases e; exact ⟨i, j, rfl, rfl, q _ fun mu => .bl _⟩) ha hb (nomark _) ok_int2
theorem opD_eq (X : Cx) : OpD X (rEqD X.K) oEq := fun H mu S x y a b res W σ Q s ra rb ho p => by
  obtain ⟨k, h1, rfl⟩ := Option.map_eq_some_iff.mp ho
  obtain ⟨d, e, q1, q2, q3, q4, rfl⟩ := eqD_ok s ra rb h1
  exact ⟨d, e, q1, q2, q3, q4, p.val s (.bl _)⟩
theorem opD_ne (X : Cx) : OpD X (rNeD X.K) oNe := fun H mu S x y a b res W σ Q s ra rb ho p => by
  obtain ⟨k, h1, rfl⟩ := Option.map_eq_some_iff.mp ho
  obtain ⟨d, e, q1, q2, q3, q4, rfl⟩ := eqD_ok s ra rb h1
  exact ⟨d, e, q1, q2, q3, q4, p.val s (.bl _)⟩
theorem dt_eq (hu : X.A.units + 64 < cLine) (ha : DE X W a fa) (hb : DE X W b fb) : DT X W (.Compare a [.Eq] [b] pos) (dBin oEq fa fb) := dt_cmp (op_eqD hu) (opD_eq X) ha hb (nomark _) fun x y S res h => by
  obtain ⟨k, h1, rfl⟩ := Option.map_eq_some_iff.mp h
  exact ⟨_, rfl⟩
theorem dt_ne (hu : X.A.units + 64 < cLine) (ha : DE X W a fa) (hb : DE X W b fb) : DT X W (.Compare a [.NotEq] [b] pos) (dBin oNe fa fb) := dt_cmp (op_neD hu) (opD_ne X) ha hb (nomark _) fun x y S res h => by
  obtain ⟨k, h1, rfl⟩ := Option.map_eq_some_iff.mp h
  exact ⟨_, rfl⟩
/-- an expression of truth value as a test (is None, ..) -/
theorem dt_val (ha : DE X W a fa) (hk : ∀ ρ S res, fa ρ S = some res → (∃ k S', res = .ok (.bl k) S') ∨ ∃ c ns xs S', res = .exc c ns xs S') (h : ∀ {t : TE}, PE X a t → PT X a (tB t)) : DT X W a fa := by
  refine ptI (h ha) fun σ H Q q => ?_
  obtain ⟨mu, S, ρ, res, s, en, hf, p⟩ := q
  refine ⟨mu, S, ρ, res, s, en, hf, ?_⟩
  rcases hk ρ S res hf with ⟨k, S', rfl⟩ | ⟨c, ns, xs, S', rfl⟩
  · intro v H' mu' x s' rp
    cases rp
    exact ⟨_, rfl, p H' mu' x s'⟩
  · exact p
theorem bl_isN {f : Den} {neg : Bool} : ∀ ρ S res, bnd (f ρ S) (fun d S1 => some (.ok (.bl (neg ^^ isNon d)) S1)) = some res → (∃ k S', res = .ok (.bl k) S') ∨ ∃ c ns xs S', res = .exc c ns xs S' := fun ρ S res h => by
  cases e : f ρ S with
  | none => rw [e] at h; cases h
  | some r1 =>
    rw [e] at h
    cases r1 with
    | ok d S1 => cases h; exact .inl ⟨_, _, rfl⟩
    | exc c ns xs S1 => cases h; exact .inr ⟨_, _, _, _, rfl⟩
theorem dt_isN {j pos'} (ha : DE X W a fa) : DT X W (.Compare a [.Is] [.Constant .none j pos'] pos) (dIsN fa) := by
  refine ptI (pt_cmp (pc_isN ha)) fun σ H Q q => ?_
  obtain ⟨mu, S, ρ, res, s, en, hf, p⟩ := q
  have h2 : rd X.K X.mg W (dIsN fa) σ H (fun x H' => ∃ k, x = V.bl k ∧ Q k H') := by
    refine ⟨mu, S, ρ, res, s, en, hf, ?_⟩
    rcases bl_isN (neg := false) ρ S res (by simpa [dIsN] using hf) with ⟨k, S', rfl⟩ | ⟨c, ns, xs, S', rfl⟩
    · intro v H' mu' x s' rp
      cases rp
      exact ⟨_, rfl, p H' mu' x s'⟩
    · exact p
  obtain ⟨mu, S, ρ, res, s, en, hf, p⟩ := h2
  refine rd_bnd s en hf p fun d S1 v H1 m1 x s1 en1 rp h1 p1 => ?_
  cases h1
  rw [rep_non rp]
  exact p1.val s1 (.bl _)
theorem dt_notN {j pos'} (ha : DE X W a fa) : DT X W (.Compare a [.IsNot] [.Constant .none j pos'] pos) (dNotN fa) := by
  refine ptI (pt_cmp (pc_notN ha)) fun σ H Q q => ?_
  obtain ⟨mu, S, ρ, res, s, en, hf, p⟩ := q
  have h2 : rd X.K X.mg W (dNotN fa) σ H (fun x H' => ∃ k, x = V.bl k ∧ Q k H') := by
    refine ⟨mu, S, ρ, res, s, en, hf, ?_⟩
    rcases bl_isN (neg := true) ρ S res (by simpa [dNotN] using hf) with ⟨k, S', rfl⟩ | ⟨c, ns, xs, S', rfl⟩
    · intro v H' mu' x s' rp
      cases rp
      exact ⟨_, rfl, p H' mu' x s'⟩
    · exact p
  obtain ⟨mu, S, ρ, res, s, en, hf, p⟩ := h2
  refine rd_bnd s en hf p fun d S1 v H1 m1 x s1 en1 rp h1 p1 => ?_
  cases h1
  rw [rep_non rp]
  exact p1.val s1 (.bl _)

/-! ### and, or, not -/
def bndB (o : Option Res) (k : Bool → Store → Option Res) : Option Res := bnd o fun d S => match d with
  | .bl b => k b S
  | _ => none
@[simp] theorem bndB_bl (b : Bool) (S : Store) (k : Bool → Store → Option Res) : bndB (some (.ok (.bl b) S)) k = k b S := rfl
@[simp] theorem bndB_exc (c : Str) (ns : List Str) (xs : List D) (S : Store) (k : Bool → Store → Option Res) : bndB (some (.exc c ns xs S)) k = some (.exc c ns xs S) := rfl
@[simp] theorem bndB_none (k : Bool → Store → Option Res) : bndB none k = none := rfl
def dAnd (f g : Den) : Den := fun ρ S => bndB (f ρ S) fun b S1 => if b then g ρ S1 else some (.ok (.bl false) S1)
def dOr (f g : Den) : Den := fun ρ S => bndB (f ρ S) fun b S1 => if b then some (.ok (.bl true) S1) else g ρ S1
def dNot (f : Den) : Den := fun ρ S => bndB (f ρ S) fun b S1 => some (.ok (.bl (!b)) S1)
theorem bndB_some {o : Option Res} {k : Bool → Store → Option Res} {r : Res} (h : bndB o k = some r) : (∃ b S, o = some (.ok (.bl b) S) ∧ k b S = some r) ∨ ∃ c ns xs S, o = some (.exc c ns xs S) ∧ r = .exc c ns xs S := by
  unfold bndB bnd at h
  split at h
  · rename_i d S
    cases d <;> first | (cases h; done) | exact .inl ⟨_, _, rfl, h⟩
  · cases h; exact .inr ⟨_, _, _, _, rfl, rfl⟩
  · cases h
/-- a test, then more -/
theorem rdt_bnd {K : PySem.W.Frag} {mg : Str → Option Value} {H : Hp} {mu : List Addr} {σ : L2.St} {ρ : EnvD} {S : Store} {f : Den} {k : Bool → Store → Option Res} {r : Res} {R : Res → Prop} {Q' : Bool → Hp → Prop} (s : StOk K mg H mu S) (en : EnvOk K mg H mu σ ρ) (h : bndB (f ρ S) k = some r)
    (px : ∀ c ns xs S1, r = .exc c ns xs S1 → PostX K mg W σ H mu c ns xs S1)
    (hk : ∀ b S1 H1 m1, Ext H mu H1 m1 → StOk K mg H1 m1 S1 → EnvOk K mg H1 m1 σ ρ → k b S1 = some r → Q' b H1) : rdt K mg W f σ H Q' := by
  rcases bndB_some h with ⟨b, S1, h1, h2⟩ | ⟨c, ns, xs, S1, h1, h2⟩
  · exact ⟨mu, S, ρ, _, s, en, h1, fun H1 m1 x s1 => hk b S1 H1 m1 x s1 (en.mono x) h2⟩
  · exact ⟨mu, S, ρ, _, s, en, h1, px _ _ _ _ h2⟩
def PostT (K : PySem.W.Frag) (mg : Str → Option Value) (W : WX) (σ : L2.St) (H : Hp) (mu : List Addr) (Q : Bool → Hp → Prop) (r : Res) : Prop := match r with
  | .ok (.bl b) S' => ∀ (H' : Hp) (mu' : List Addr), Ext H mu H' mu' → StOk K mg H' mu' S' → Q b H'
  | .ok _ _ => False
  | .exc c ns xs S' => PostX K mg W σ H mu c ns xs S'
theorem PostT.mono {K : PySem.W.Frag} {mg : Str → Option Value} {H H' : Hp} {mu mu' : List Addr} {σ : L2.St} {Q : Bool → Hp → Prop} {r : Res} (e : Ext H mu H' mu') (p : PostT K mg W σ H mu Q r) : PostT K mg W σ H' mu' Q r := by
  cases r with
  | ok d S => cases d <;> first | exact False.elim p | exact fun H2 m2 e2 => p H2 m2 (e.trans e2)
  | exc c ns xs S => exact PostX.mono e p
theorem rdt_iff {K : PySem.W.Frag} {mg : Str → Option Value} {f : Den} {σ : L2.St} {H : Hp} {Q : Bool → Hp → Prop} : rdt K mg W f σ H Q ↔ ∃ mu S ρ r, StOk K mg H mu S ∧ EnvOk K mg H mu σ ρ ∧ f ρ S = some r ∧ PostT K mg W σ H mu Q r := Iff.rfl
theorem PostT.exc {K : PySem.W.Frag} {mg : Str → Option Value} {H : Hp} {mu : List Addr} {σ : L2.St} {Q : Bool → Hp → Prop} {r : Res} (p : PostT K mg W σ H mu Q r) : ∀ c ns xs S1, r = .exc c ns xs S1 → PostX K mg W σ H mu c ns xs S1 := fun c ns xs S1 h => by subst h; exact p
theorem PostT.bl {K : PySem.W.Frag} {mg : Str → Option Value} {H : Hp} {mu : List Addr} {σ : L2.St} {Q : Bool → Hp → Prop} {b : Bool} {S : Store} (p : PostT K mg W σ H mu Q (.ok (.bl b) S)) (s : StOk K mg H mu S) : Q b H := p H mu (Ext.refl _ _) s
/-- tests joined: DW has no 'whole' -/
def DW (X : Cx) (W : WX) (e : Expr) (f : Den) : Prop := PW X e (rdt X.K X.mg W f)
theorem DW.dt {e : Expr} {f : Den} (h : DW X W e f) : DT X W e f := PW.pt h
theorem pwI {t t' : TT} (h : PW X e t) (i : ∀ σ H Q, t' σ H Q → t σ H Q) : PW X e t' := ⟨fun wh pins s σ H Q I q => h.run wh pins s σ H Q I (i σ H Q q)⟩
variable {rest : List Expr}
theorem dw_and1 (ha : DT X W a fa) : DW X W (.BoolOp .And [a] pos) fa := pw_and1 ha
theorem dw_or1 (ha : DT X W a fa) : DW X W (.BoolOp .Or [a] pos) fa := pw_or1 ha
theorem dw_and (ha : DT X W a fa) (hb : DW X W (.BoolOp .And (b :: rest) pos) fb) : DW X W (.BoolOp .And (a :: b :: rest) pos) (dAnd fa fb) := by
  refine pwI (pw_and ha hb) fun σ H Q h => ?_
  obtain ⟨mu, S, ρ, r, s, en, hf, p⟩ := h
  have p' : PostT X.K X.mg W σ H mu Q r := p
  refine rdt_bnd (R := fun _ => True) s en hf p'.exc fun b S1 H1 m1 x s1 en1 h1 => ?_
  have p1 := PostT.mono x p'
  cases b with
  | true => exact ⟨m1, S1, ρ, r, s1, en1, h1, p1⟩
  | false => cases h1; exact p1.bl s1
theorem dw_or (ha : DT X W a fa) (hb : DW X W (.BoolOp .Or (b :: rest) pos) fb) : DW X W (.BoolOp .Or (a :: b :: rest) pos) (dOr fa fb) := by
  refine pwI (pw_or ha hb) fun σ H Q h => ?_
  obtain ⟨mu, S, ρ, r, s, en, hf, p⟩ := h
  have p' : PostT X.K X.mg W σ H mu Q r := p
  refine rdt_bnd (R := fun _ => True) s en hf p'.exc fun b S1 H1 m1 x s1 en1 h1 => ?_
  have p1 := PostT.mono x p'
  cases b with
  | true => cases h1; exact p1.bl s1
  | false => exact ⟨m1, S1, ρ, r, s1, en1, h1, p1⟩
theorem dt_not (ha : DT X W a fa) : DT X W (.UnaryOp .Not a pos) (dNot fa) := by
  refine ptI (pt_not ha) fun σ H Q h => ?_
  obtain ⟨mu, S, ρ, r, s, en, hf, p⟩ := h
  have p' : PostT X.K X.mg W σ H mu Q r := p
  refine rdt_bnd (R := fun _ => True) s en hf p'.exc fun b S1 H1 m1 x s1 en1 h1 => ?_
  have p1 := PostT.mono x p'
  cases h1
  exact p1.bl s1
/-- as values -/
theorem de_one {op} (ha : DE X W a fa) : DE X W (.BoolOp op [a] pos) fa := pe_one ha
theorem de_and (ha : DE X W a fa) (hb : DE X W (.BoolOp .And (b :: rest) pos) fb) : DE X W (.BoolOp .And (a :: b :: rest) pos) (dAnd fa fb) := by
  refine peI (pe_and ha hb) fun σ H Q h => ?_
  obtain ⟨mu, S, ρ, r, s, en, hf, p⟩ := h
  rcases bndB_some hf with ⟨b, S1, h1, h2⟩ | ⟨c, ns, xs, S1, h1, rfl⟩
  · refine ⟨mu, S, ρ, _, s, en, h1, fun v H1 m1 x s1 rp => ?_⟩
    cases rp
    refine ⟨_, rfl, ?_⟩
    cases b with
    | true => exact ⟨m1, S1, ρ, r, s1, en.mono x, h2, p.mono x⟩
    | false => cases h2; exact (p.mono x).val s1 (.bl _)
  · exact ⟨mu, S, ρ, _, s, en, h1, p⟩
theorem de_or (ha : DE X W a fa) (hb : DE X W (.BoolOp .Or (b :: rest) pos) fb) : DE X W (.BoolOp .Or (a :: b :: rest) pos) (dOr fa fb) := by
  refine peI (pe_or ha hb) fun σ H Q h => ?_
  obtain ⟨mu, S, ρ, r, s, en, hf, p⟩ := h
  rcases bndB_some hf with ⟨b, S1, h1, h2⟩ | ⟨c, ns, xs, S1, h1, rfl⟩
  · refine ⟨mu, S, ρ, _, s, en, h1, fun v H1 m1 x s1 rp => ?_⟩
    cases rp
    refine ⟨_, rfl, ?_⟩
    cases b with
    | false => exact ⟨m1, S1, ρ, r, s1, en.mono x, h2, p.mono x⟩
    | true => cases h2; exact (p.mono x).val s1 (.bl _)
  · exact ⟨mu, S, ρ, _, s, en, h1, p⟩
theorem de_not (ha : DE X W a fa) : DE X W (.UnaryOp .Not a pos) (dNot fa) := by
  refine peI (pe_not ha) fun σ H Q h => ?_
  obtain ⟨mu, S, ρ, r, s, en, hf, p⟩ := h
  rcases bndB_some hf with ⟨b, S1, h1, h2⟩ | ⟨c, ns, xs, S1, h1, rfl⟩
  · refine ⟨mu, S, ρ, _, s, en, h1, fun v H1 m1 x s1 rp => ?_⟩
    cases rp
    cases h2
    exact ⟨_, rfl, (p.mono x).val s1 (.bl _)⟩
  · exact ⟨mu, S, ρ, _, s, en, h1, p⟩
/-- not, of any value by its truth -/
def dNotT (f : Den) : Den := dNot (dTru f)
def dIf (t f g : Den) : Den := fun ρ S => bndB (t ρ S) fun b S1 => if b then f ρ S1 else g ρ S1
theorem de_if {ft : Den} (hc : DT X W c ft) (ha : DE X W a fa) (hb : DE X W b fb) : DE X W (.IfExp c a b pos) (dIf ft fa fb) := by
  refine peI (pe_ifExp hc ha hb) fun σ H Q h => ?_
  obtain ⟨mu, S, ρ, r, s, en, hf, p⟩ := h
  refine rdt_bnd (R := fun _ => True) s en hf (fun c ns xs S1 h => by subst h; exact p) fun b S1 H1 m1 x s1 en1 h1 => ?_
  cases b with
  | true => exact iteT ⟨m1, S1, ρ, r, s1, en1, h1, p.mono x⟩
  | false => exact iteF ⟨m1, S1, ρ, r, s1, en1, h1, p.mono x⟩
end
end PD
set_option Elab.async false
set_option linter.all false
set_option maxRecDepth 100000
set_option maxHeartbeats 4000000
namespace PD
open PySem PySem.Spec PyProof.Rows L2
section
variable {X : Cx} {W : WX} {a b c e : Expr} {es : List Expr} {fa fb fc : Den} {ga gb : Dens} {pos p p1 p2 : Pos}

/-! ### lists of expressions, displays -/
def dNil : Dens := fun _ S => some (.ok [] S)
def dCons (f : Den) (g : Dens) : Dens := fun ρ S => bnds (f ρ S) fun d S1 => bndls (g ρ S1) fun ds S2 => some (.ok (d :: ds) S2)
def dStar (f : Den) (g : Dens) : Dens := fun ρ S => bnds (f ρ S) fun d S1 => match asSeq S1 d with
  | some xs => bndls (g ρ S1) fun ds S2 => some (.ok (xs ++ ds) S2)
  | none => none
theorem da_nil : DA X W [] dNil := by
  refine paI pa_nil fun σ H Q h => ?_
  obtain ⟨mu, S, ρ, r, s, en, hf, q⟩ := h
  cases hf
  exact q [] H mu (Ext.refl _ _) s .nil
theorem da_cons (ha : DE X W e fa) (hr : DA X W es ga) (hs : starEach (e :: es) X.env = (false, eval e X.env) :: starEach es X.env := by rfl) : DA X W (e :: es) (dCons fa ga) := by
  refine paI (pa_cons ha hr hs) fun σ H Q h => ?_
  obtain ⟨mu, S, ρ, r, s, en, hf, q⟩ := h
  refine rd_bnds s en hf q fun d S1 v H1 m1 x s1 en1 rp h1 q1 => ?_
  refine rds_bndls s1 en1 h1 q1 fun ds S2 vs H2 m2 x2 s2 en2 rp2 h2 q2 => ?_
  cases h2
  exact q2 _ H2 m2 (Ext.refl _ _) s2 (.cons (rp.mono x2) rp2)
theorem da_star (ha : DE X W e fa) (hr : DA X W es ga) (hs : starEach (.Starred e p :: es) X.env = (true, eval e X.env) :: starEach es X.env := by rfl) : DA X W (.Starred e p :: es) (dStar fa ga) := by
  refine paI (StX.pa_star ha hr hs) fun σ H Q h => ?_
  obtain ⟨mu, S, ρ, r, s, en, hf, q⟩ := h
  refine rd_bnds s en hf q fun d S1 v H1 m1 x s1 en1 rp h1 q1 => ?_
  cases e1 : asSeq S1 d with
  | none => rw [e1] at h1; cases h1
  | some xs =>
    rw [e1] at h1
    obtain ⟨a, vs, rfl, hq, rv⟩ := rep_seq s1 rp e1
    refine ⟨a, vs, rfl, hq.symm, ?_⟩
    refine rds_bndls s1 en1 h1 q1 fun ds S2 ws H2 m2 x2 s2 en2 rp2 h2 q2 => ?_
    cases h2
    exact q2 _ H2 m2 (Ext.refl _ _) s2 ((rv.mono x2).append rp2)
def fits (n : Nat) : Bool := decide (n ≤ 16777216)
theorem fits_ok {n : Nat} (h : fits n = true) : n ≤ sizeLine := by rw [line_eq]; exact of_decide_eq_true h
def dTup (g : Dens) : Den := fun ρ S => bndl (g ρ S) fun ds S1 => if fits ds.length then some (.ok (.tup ds) S1) else none
def dLst (g : Dens) : Den := fun ρ S => bndl (g ρ S) fun ds S1 => if fits ds.length then some (.ok (.lst ds) S1) else none
/-- a displayed list that may change later -/
def dLstM (g : Dens) : Den := fun ρ S => bndl (g ρ S) fun ds S1 => if fits ds.length then some (.ok (.ref S1.length) (S1 ++ [ds])) else none
theorem de_tup {x1} (h : DA X W es ga) : DE X W (.Tuple es x1 pos) (dTup ga) := by
  refine peI (pe_tup h) fun σ H Q q => ?_
  obtain ⟨mu, S, ρ, r, s, en, hf, q⟩ := q
  refine rds_bndl s en hf q fun ds S1 vs H1 m1 x s1 en1 rp h1 q1 => ?_
  split at h1
  · rename_i hz
    cases h1
    exact ⟨by rw [rp.length]; exact fits_ok hz, q1.tup s1 rp⟩
  · cases h1
theorem de_lst (h : DA X W es ga) : DE X W (.List es pos) (dLst ga) := by
  refine peI (pe_lst h) fun σ H Q q => ?_
  obtain ⟨mu, S, ρ, r, s, en, hf, q⟩ := q
  refine rds_bndl s en hf q fun ds S1 vs H1 m1 x s1 en1 rp h1 q1 => ?_
  split at h1
  · rename_i hz
    cases h1
    exact ⟨by rw [rp.length]; exact fits_ok hz, q1.lst s1 rp⟩
  · cases h1
theorem de_lstM (h : DA X W es ga) : DE X W (.List es pos) (dLstM ga) := by
  refine peI (pe_lst h) fun σ H Q q => ?_
  obtain ⟨mu, S, ρ, r, s, en, hf, q⟩ := q
  refine rds_bndl s en hf q fun ds S1 vs H1 m1 x s1 en1 rp h1 q1 => ?_
  split at h1
  · rename_i hz
    cases h1
    exact ⟨by rw [rp.length]; exact fits_ok hz, q1.mut s1 rp⟩
  · cases h1

/-! ### subscripts, slices -/
def oIx : Op2 := fun o i S => match i with
  | .int k => (match o with
    | .str z => if fits z.length then (atI z.cps.toList k).map fun c => .ok (.str ⟨#[c]⟩) S else none
    | o => match asSeq S o with
      | some xs => (atI xs k).map fun d => .ok d S
      | none => none)
  | _ => none
theorem reps_at {H : Hp} {mu : List Addr} {vs : List V} {ds : List D} {k : Int} {d : D} (r : Reps X.K X.mg H mu vs ds) (h : atI ds k = some d) : ∃ v, atI vs k = some v ∧ Rep X.K X.mg H mu v d := by
  unfold atI at h ⊢
  rw [r.length]
  cases e : ixN ds.length k with
  | none => rw [e] at h; cases h
  | some j =>
    rw [e] at h
    obtain ⟨v, h1, h2⟩ := r.get h
    exact ⟨v, h1, h2⟩
theorem opD_ix : OpD X (rIx X.K) oIx := by
  intro H mu S x y a b res W σ Q s ra rb ho p
  unfold oIx at ho
  cases b <;> try (cases ho; done)
  rename_i k
  cases rb
  have seqs : (match asSeq S a with | some xs => (atI xs k).map fun d => Res.ok d S | none => none) = some res → rIx X.K x (.int k) H Q := fun ho => by
    cases e : asSeq S a with
    | none => rw [e] at ho; cases ho
    | some xs =>
      rw [e] at ho
      obtain ⟨d, h1, rfl⟩ := Option.map_eq_some_iff.mp ho
      obtain ⟨q, vs, rfl, hq, rv⟩ := rep_seq s ra e
      obtain ⟨v, h2, h3⟩ := reps_at rv h1
      rcases hq with hq | hq
      · exact .inl ⟨q, vs, k, v, rfl, rfl, hq, h2, p.val s h3⟩
      · exact .inr (.inl ⟨q, vs, k, v, rfl, rfl, hq, h2, p.val s h3⟩)
  cases a <;> first | exact seqs ho | skip
  simp only at ho
  split at ho
  · rename_i hz
    obtain ⟨ch, h1, rfl⟩ := Option.map_eq_some_iff.mp ho
    cases ra
    exact .inr (.inr ⟨_, k, ch, rfl, rfl, fits_ok hz, h1, p.val s (.str _)⟩)
  · cases ho
theorem de_ix (ha : DE X W a fa) (hb : DE X W b fb) (hs : PlainIx b := by intro _ _; rfl) : DE X W (.Subscript a b pos) (dBin oIx fa fb) := peI (pe_ix ix_seq ha hb hs) fun σ H Q h => rd_bin opD_ix h
def cutD (xs : List D) (lo hi : Option Int) : List D := (xs.drop (HT.sIx xs.length 0 lo)).take (HT.sIx xs.length xs.length hi - HT.sIx xs.length 0 lo)
theorem reps_cut {H : Hp} {mu : List Addr} {vs : List V} {ds : List D} (r : Reps X.K X.mg H mu vs ds) (lo hi : Option Int) : Reps X.K X.mg H mu (cutV vs lo hi) (cutD ds lo hi) := by
  unfold cutV cutD
  rw [r.length]
  exact (r.drop _).take _
/-- the parts of a slice -/
def dPart (o : Option Den) (ρ : EnvD) (S : Store) (k : Option Int → Store → Option Res) : Option Res := match o with
  | none => k none S
  | some f => bnd (f ρ S) fun d S1 => match d with
    | .int i => k (some i) S1
    | _ => none
def DO (X : Cx) (W : WX) (e : Option Expr) (o : Option Den) : Prop := match e, o with
  | none, none => True
  | some e, some f => DE X W e f
  | _, _ => False
def roP (K : PySem.W.Frag) (mg : Str → Option Value) (W : WX) (o : Option Den) : TO := match o with
  | none => tNoPart
  | some f => tPart (rd K mg W f)
theorem po_of {eo : Option Expr} {o : Option Den} (h : DO X W eo o) : PO X eo (roP X.K X.mg W o) := by
  cases eo with
  | none => cases o with
    | none => exact po_none
    | some f => exact h.elim
  | some e => cases o with
    | none => exact h.elim
    | some f => exact po_some (show DE X W e f from h)
theorem ro_part {o : Option Den} {σ : L2.St} {H : Hp} {mu : List Addr} {S : Store} {ρ : EnvD} {k : Option Int → Store → Option Res} {r : Res} {Q : VK} {Q' : Option Int → Hp → Prop} (s : StOk X.K X.mg H mu S) (en : EnvOk X.K X.mg H mu σ ρ) (h : dPart o ρ S k = some r) (q : Post X.K X.mg W σ H mu Q r)
    (hk : ∀ i S1 H1 m1, Ext H mu H1 m1 → StOk X.K X.mg H1 m1 S1 → EnvOk X.K X.mg H1 m1 σ ρ → k i S1 = some r → Post X.K X.mg W σ H1 m1 Q r → Q' i H1) : roP X.K X.mg W o σ H Q' := by
  cases o with
  | none => exact hk none S H mu (Ext.refl _ _) s en h q
  | some f =>
    refine rd_bnd s en h q fun d S1 v H1 m1 x s1 en1 rp h1 q1 => ?_
    cases d <;> try (cases h1; done)
    cases rp
    exact ⟨_, rfl, hk _ S1 H1 m1 x s1 en1 h1 q1⟩
def oCut (o : D) (lo hi : Option Int) (S : Store) : Option Res := match o with
  | .tup xs => some (.ok (.tup (cutD xs lo hi)) S)
  | o => match asList S o with
    | some xs => some (.ok (.lst (cutD xs lo hi)) S)
    | none => none
def dCut (f : Den) (lo hi : Option Den) : Den := fun ρ S => bnd (f ρ S) fun o S1 => dPart lo ρ S1 fun i S2 => dPart hi ρ S2 fun j S3 => oCut o i j S3
theorem cut_whole (xs : List D) {lo hi : Option Int} (h : HT.sIx xs.length 0 lo = 0 ∧ HT.sIx xs.length xs.length hi = xs.length) : cutD xs lo hi = xs := by
  unfold cutD
  rw [h.1, h.2]
  simp
theorem de_cut {lo hi : Option Expr} {dl dh : Option Den} (ha : DE X W a fa) (hl : DO X W lo dl) (hh : DO X W hi dh) : DE X W (.Subscript a (.Slice lo hi none p2) pos) (dCut fa dl dh) := by
  refine peI (pe_slice (sl_list.or sl_tupA) ha (po_of hl) (po_of hh)) fun σ H Q h => ?_
  obtain ⟨mu, S, ρ, res, s, en, hf, q⟩ := h
  refine rd_bnd s en hf q fun d S1 v H1 m1 x s1 en1 rp h1 q1 => ?_
  refine ro_part s1 en1 h1 q1 fun i S2 H2 m2 x2 s2 en2 h2 q2 => ?_
  refine ro_part s2 en2 h2 q2 fun j S3 H3 m3 x3 s3 en3 h3 q3 => ?_
  have rp3 := (rp.mono x2).mono x3
  have lists : (match asList S3 d with | some xs => some (Res.ok (.lst (cutD xs i j)) S3) | none => none) = some res → rSlL X.K v i j H3 Q ∨ rSlA X.K v i j H3 Q := fun h3 => by
    cases e : asList S3 d with
    | none => rw [e] at h3; cases h3
    | some xs =>
      rw [e] at h3
      cases h3
      obtain ⟨z, vs, rfl, hz, rv⟩ := rep_list s3 rp3 e
      exact .inl ⟨z, vs, rfl, .of hz, q3.lst s3 (reps_cut rv i j)⟩
  cases d <;> first | exact lists h3 | skip
  cases h3
  cases rp3 with
  | tup hq rv =>
    refine .inr ⟨_, _, rfl, hq.sq, fun hw => ?_, fun _ => q3.tup s3 (reps_cut rv i j)⟩
    rw [rv.length] at hw
    rw [cut_whole _ hw] at q3
    exact q3.val s3 (.tup hq rv)

/-! ### calls of built-ins -/
abbrev Op := List D → Store → Option Res
def dCall (op : Op) (g : Dens) : Den := fun ρ S => bndl (g ρ S) op
def CallD (X : Cx) (r : List V → Hp → VK → Prop) (op : Op) : Prop := ∀ (H : Hp) (mu : List Addr) (S : Store) (vs : List V) (ds : List D) (res : Res) (W : WX) (σ : L2.St) (Q : VK), StOk X.K X.mg H mu S → Reps X.K X.mg H mu vs ds → op ds S = some res → Post X.K X.mg W σ H mu Q res → r vs H Q
theorem rd_call {r : List V → Hp → VK → Prop} {op : Op} (hd : CallD X r op) {σ : L2.St} {H : Hp} {Q : VK} (h : rd X.K X.mg W (dCall op ga) σ H Q) : tCB r (rds X.K X.mg W ga) σ H Q := by
  obtain ⟨mu, S, ρ, res, s, en, hf, q⟩ := h
  refine rds_bndl s en hf q fun ds S1 vs H1 m1 x s1 en1 rp h1 q1 => ?_
  exact hd H1 m1 S1 vs ds res W σ Q s1 rp h1 q1
theorem de_callB {id : String} {x : Str} {r : List V → Hp → VK → Prop} {op : Op} (hc : CallR X (.builtin id) r) (hd : CallD X r op) (hv : bootBuiltins x = some (.builtin id)) (hm : X.mg x = none) (ha : DA X W (e :: es) ga) (hg : Gl X x := by rfl) (hn : x ≠ "__name__" := by decide) (hdb : (x == ("__debug__" : Str)) = false := by decide)
    (he : starEach (e :: es) X.env = (false, eval e X.env) :: starEach es X.env := by rfl) (hpl : (backTo pos (starEach es X.env)).any (·.1) = false := by rfl) : DE X W (.Call (.Name x p) (e :: es) [] pos) (dCall op ga) :=
  peI (pe_callB hc hg hm hv ha hn hdb he hpl) fun σ H Q h => rd_call hd h
theorem de_callTy {T : String} {x : Str} {r : List V → Hp → VK → Prop} {op : Op} (hc : CallR X (.type T) r) (hd : CallD X r op) (hv : bootBuiltins x = some (.type T)) (hm : X.mg x = none) (ha : DA X W (e :: es) ga) (hg : Gl X x := by rfl) (hn : x ≠ "__name__" := by decide) (hdb : (x == ("__debug__" : Str)) = false := by decide)
    (he : starEach (e :: es) X.env = (false, eval e X.env) :: starEach es X.env := by rfl) (hpl : (backTo pos (starEach es X.env)).any (·.1) = false := by rfl) : DE X W (.Call (.Name x p) (e :: es) [] pos) (dCall op ga) :=
  peI (pe_callTy hc hg hm hv ha hn hdb he hpl) fun σ H Q h => rd_call hd h
/-- a name of the module that stands for a built-in function -/
theorem de_callM {id : String} {x : Str} {r : List V → Hp → VK → Prop} {op : Op} (hc : CallR X (.builtin id) r) (hd : CallD X r op) (hm : X.mg x = some (.builtin id)) (ha : DA X W (e :: es) ga) (hg : Gl X x := by rfl) (hdb : (x == ("__debug__" : Str)) = false := by decide)
    (he : starEach (e :: es) X.env = (false, eval e X.env) :: starEach es X.env := by rfl) (hpl : (backTo pos (starEach es X.env)).any (·.1) = false := by rfl) : DE X W (.Call (.Name x p) (e :: es) [] pos) (dCall op ga) :=
  peI (pe_callBfun hc hg hm ha hdb he hpl) fun σ H Q h => rd_call hd h
theorem reps1 {H : Hp} {mu : List Addr} {vs : List V} {d : D} (r : Reps X.K X.mg H mu vs [d]) : ∃ v, vs = [v] ∧ Rep X.K X.mg H mu v d := by
  cases r with
  | cons h t => cases t; exact ⟨_, rfl, h⟩
theorem reps2 {H : Hp} {mu : List Addr} {vs : List V} {d d2 : D} (r : Reps X.K X.mg H mu vs [d, d2]) : ∃ v v2, vs = [v, v2] ∧ Rep X.K X.mg H mu v d ∧ Rep X.K X.mg H mu v2 d2 := by
  cases r with
  | cons h t => cases t with
    | cons h2 t => cases t; exact ⟨_, _, rfl, h, h2⟩
/-- len -/
def oLen : Op := fun ds S => match ds with
  | [.str z] => if fits z.length then some (.ok (.int z.length) S) else none
  | [d] => (asSeq S d).map fun xs => .ok (.int xs.length) S
  | _ => none
abbrev rLenA (K : PySem.W.Frag) : List V → Hp → VK → Prop := fun xs H Q => (∃ p ys, xs = [.ref p] ∧ (SqL K H p ys ∨ SqT K H p ys) ∧ Q (.int ys.length) H) ∨ (∃ z, xs = [.str z] ∧ z.length ≤ sizeLine ∧ Q (.int z.length) H)
theorem callD_len : CallD X (rLenA X.K) oLen := by
  intro H mu S vs ds res W σ Q s r ho q
  match ds, ho with
  | [d], ho =>
    obtain ⟨v, rfl, rv⟩ := reps1 r
    have seqs : ((asSeq S d).map fun xs => Res.ok (.int xs.length) S) = some res → rLenA X.K [v] H Q := fun ho => by
      obtain ⟨xs, h1, rfl⟩ := Option.map_eq_some_iff.mp ho
      obtain ⟨a, ws, rfl, hq, rw_⟩ := rep_seq s rv h1
      refine .inl ⟨a, ws, rfl, hq, ?_⟩
      rw [rw_.length]
      exact q.val s (.int _)
    cases d <;> first | exact seqs ho | skip
    simp only [oLen] at ho
    split at ho
    · cases ho; cases rv
      exact .inr ⟨_, rfl, fits_ok (by assumption), q.val s (.int _)⟩
    · cases ho
  | d :: d2 :: ds, ho => cases d <;> cases ho
theorem de_len (hm : X.mg "len" = none) (ha : DA X W (e :: es) ga) (hg : Gl X "len" := by rfl) (he : starEach (e :: es) X.env = (false, eval e X.env) :: starEach es X.env := by rfl) (hpl : (backTo pos (starEach es X.env)).any (·.1) = false := by rfl) :
    DE X W (.Call (.Name "len" p) (e :: es) [] pos) (dCall oLen ga) := de_callB (call_len_seq.or call_len_str) callD_len PySem.boot_len hm ha hg (by decide) (by decide) he hpl
/-- gcd -/
def oGcd : Op := fun ds S => match ds with
  | [.int a, .int b] => some (.ok (.int ((Nat.gcd a.natAbs b.natAbs : Nat) : Int)) S)
  | _ => none
theorem callD_gcd : CallD X rGcd oGcd := by
  intro H mu S vs ds res W σ Q s r ho q
  unfold oGcd at ho
  split at ho
  · cases ho
    obtain ⟨v, v2, rfl, r1, r2⟩ := reps2 r
    cases r1; cases r2
    exact ⟨_, _, rfl, q.val s (.int _)⟩
  · cases ho
/-- all, any of a list of truth values -/
def bools : List D → Option (List Bool)
  | [] => some []
  | .bl b :: ds => (bools ds).map (b :: ·)
  | _ :: _ => none
theorem bools_ok {H : Hp} {mu : List Addr} : ∀ {vs : List V} {ds : List D} {bs : List Bool}, Reps X.K X.mg H mu vs ds → bools ds = some bs → vs = bs.map V.bl
  | _, _, _, .nil, h => by cases h; rfl
  | _, _, bs, .cons (d := d) (ds := ds) r t, h => by
    cases d <;> try (cases h; done)
    simp only [bools] at h
    obtain ⟨cs, h1, rfl⟩ := Option.map_eq_some_iff.mp h
    cases r
    rw [bools_ok t h1]
    rfl
def oAll : Op := fun ds S => match ds with
  | [d] => ((asList S d).bind bools).map fun bs => .ok (.bl (bs.all id)) S
  | _ => none
def oAny : Op := fun ds S => match ds with
  | [d] => ((asList S d).bind bools).map fun bs => .ok (.bl (bs.any id)) S
  | _ => none
theorem bind_two {α β : Type} {o : Option α} {f : α → Option β} {b : β} (h : o.bind f = some b) : ∃ a, o = some a ∧ f a = some b := by
  cases o with
  | none => cases h
  | some a => exact ⟨a, rfl, h⟩
theorem callD_all : CallD X (rAll X.K) oAll := by
  intro H mu S vs ds res W σ Q s r ho q
  match ds, ho with
  | [d], ho =>
    obtain ⟨v, rfl, rv⟩ := reps1 r
    obtain ⟨bs, h1, rfl⟩ := Option.map_eq_some_iff.mp ho
    obtain ⟨xs, h2, h3⟩ := bind_two h1
    obtain ⟨a, ws, rfl, hq, rw_⟩ := rep_list s rv h2
    have e := bools_ok rw_ h3
    subst e
    exact ⟨a, bs, rfl, .of hq, q.val s (.bl _)⟩
theorem callD_any : CallD X (rAny X.K) oAny := by
  intro H mu S vs ds res W σ Q s r ho q
  match ds, ho with
  | [d], ho =>
    obtain ⟨v, rfl, rv⟩ := reps1 r
    obtain ⟨bs, h1, rfl⟩ := Option.map_eq_some_iff.mp ho
    obtain ⟨xs, h2, h3⟩ := bind_two h1
    obtain ⟨a, ws, rfl, hq, rw_⟩ := rep_list s rv h2
    have e := bools_ok rw_ h3
    subst e
    exact ⟨a, bs, rfl, .of hq, q.val s (.bl _)⟩
/-- sum of a list, max and min of two, int(), list(), tuple() -/
def intsD : List D → Option (List Int)
  | [] => some []
  | .int i :: ds => (intsD ds).map (i :: ·)
  | _ :: _ => none
theorem ints_ok {H : Hp} {mu : List Addr} : ∀ {vs : List V} {ds : List D} {bs : List Int}, Reps X.K X.mg H mu vs ds → intsD ds = some bs → vs = bs.map V.int
  | _, _, _, .nil, h => by cases h; rfl
  | _, _, bs, .cons (d := d) (ds := ds) r t, h => by
    cases d <;> try (cases h; done)
    simp only [intsD] at h
    obtain ⟨cs, h1, rfl⟩ := Option.map_eq_some_iff.mp h
    cases r
    rw [ints_ok t h1]
    rfl
theorem ints_map (ns : List Int) : intsD (ns.map D.int) = some ns := by
  induction ns with
  | nil => rfl
  | cons n ns ih => simp [intsD, ih]
def oMax2 : Op := fun ds S => match ds with
  | [.int i, .int j] => some (.ok (.int (if j > i then j else i)) S)
  | _ => none
def oMin2 : Op := fun ds S => match ds with
  | [.int i, .int j] => some (.ok (.int (if j < i then j else i)) S)
  | _ => none
theorem callD_max2 : CallD X (fun xs H Q => ∃ i j, xs = [.int i, .int j] ∧ Q (.int (if j > i then j else i)) H) oMax2 := by
  intro H mu S vs ds res W σ Q s r ho q
  unfold oMax2 at ho
  split at ho
  · cases ho
    obtain ⟨v, v2, rfl, r1, r2⟩ := reps2 r
    cases r1; cases r2
    exact ⟨_, _, rfl, q.val s (.int _)⟩
  · cases ho
theorem callD_min2 : CallD X (fun xs H Q => ∃ i j, xs = [.int i, .int j] ∧ Q (.int (if j < i then j else i)) H) oMin2 := by
  intro H mu S vs ds res W σ Q s r ho q
  unfold oMin2 at ho
  split at ho
  · cases ho
    obtain ⟨v, v2, rfl, r1, r2⟩ := reps2 r
    cases r1; cases r2
    exact ⟨_, _, rfl, q.val s (.int _)⟩
  · cases ho
def oInt1 : Op := fun ds S => match ds with
  | [.int i] => some (.ok (.int i) S)
  | [.bl k] => some (.ok (.int (if k then 1 else 0)) S)
  | _ => none
theorem callD_int1 : CallD X (fun xs H Q => (∃ i, xs = [.int i] ∧ Q (.int i) H) ∨ ∃ k, xs = [.bl k] ∧ Q (.int (if k then 1 else 0)) H) oInt1 := by
  intro H mu S vs ds res W σ Q s r ho q
  unfold oInt1 at ho
  split at ho
  · cases ho
    obtain ⟨v, rfl, r1⟩ := reps1 r
    cases r1
    exact .inl ⟨_, rfl, q.val s (.int _)⟩
  · cases ho
    obtain ⟨v, rfl, r1⟩ := reps1 r
    cases r1
    exact .inr ⟨_, rfl, q.val s (.int _)⟩
  · cases ho
def oList1 : Op := fun ds S => match ds with
  | [d] => (asSeq S d).map fun xs => .ok (.lst xs) S
  | _ => none
def oListM : Op := fun ds S => match ds with
  | [d] => (asSeq S d).map fun xs => .ok (.ref S.length) (S ++ [xs])
  | _ => none
def oTuple1 : Op := fun ds S => match ds with
  | [.tup xs] => some (.ok (.tup xs) S)
  | [d] => (asList S d).map fun xs => .ok (.tup xs) S
  | _ => none
abbrev rListOf (K : PySem.W.Frag) : List V → Hp → VK → Prop := fun xs H Q => ∃ p ys, xs = [.ref p] ∧ (SqL K H p ys ∨ SqT K H p ys) ∧ ∀ l, H l = none → Q (.ref l) (upd H l (.lst ys))
theorem callD_list1 : CallD X (rListOf X.K) oList1 := by
  intro H mu S vs ds res W σ Q s r ho q
  match ds, ho with
  | [d], ho =>
    obtain ⟨v, rfl, rv⟩ := reps1 r
    obtain ⟨xs, h1, rfl⟩ := Option.map_eq_some_iff.mp ho
    obtain ⟨a, ws, rfl, hq, rw_⟩ := rep_seq s rv h1
    exact ⟨a, ws, rfl, hq, q.lst s rw_⟩
theorem callD_listM : CallD X (rListOf X.K) oListM := by
  intro H mu S vs ds res W σ Q s r ho q
  match ds, ho with
  | [d], ho =>
    obtain ⟨v, rfl, rv⟩ := reps1 r
    obtain ⟨xs, h1, rfl⟩ := Option.map_eq_some_iff.mp ho
    obtain ⟨a, ws, rfl, hq, rw_⟩ := rep_seq s rv h1
    exact ⟨a, ws, rfl, hq, q.mut s rw_⟩
abbrev rTupleOf (K : PySem.W.Frag) : List V → Hp → VK → Prop := fun xs H Q => ∃ p ys, xs = [.ref p] ∧ ((SqL K H p ys ∧ ∀ l, H l = none → Q (.ref l) (upd H l (.tup ys))) ∨ (SqT K H p ys ∧ Q (.ref p) H))
theorem callD_tuple1 : CallD X (rTupleOf X.K) oTuple1 := by
  intro H mu S vs ds res W σ Q s r ho q
  match ds, ho with
  | [d], ho =>
    obtain ⟨v, rfl, rv⟩ := reps1 r
    have lists : ((asList S d).map fun xs => Res.ok (.tup xs) S) = some res → rTupleOf X.K [v] H Q := fun ho => by
      obtain ⟨xs, h1, rfl⟩ := Option.map_eq_some_iff.mp ho
      obtain ⟨a, ws, rfl, hq, rw_⟩ := rep_list s rv h1
      exact ⟨a, ws, rfl, .inl ⟨.of hq, q.tup s rw_⟩⟩
    cases d <;> first | exact lists ho | skip
    cases ho
    cases rv with
    | tup hq r2 => exact ⟨_, _, rfl, .inr ⟨hq.sq, q.val s (.tup hq r2)⟩⟩
  | d :: d2 :: ds, ho => cases d <;> cases ho
end
end PD
set_option Elab.async false
set_option linter.all false
set_option maxRecDepth 100000
set_option maxHeartbeats 4000000
namespace PD
open PySem PySem.Spec PyProof.Rows L2

/-! ### isinstance, of built-in types -/
def tyName : D → Option String
  | .non => some "NoneType"
  | .bl _ => some "bool"
  | .int _ => some "int"
  | .str _ => some "str"
  | .tup _ => some "tuple"
  | .lst _ => some "list"
  | .ref _ => some "list"
  | .scr _ => some "list"
  | .err .. => none
  | .rng .. => none
  | .cau .. => none
/-- of which built-in types a value of type t is -/
def isTy (t T : String) : Bool := t == T || (t == "bool" && T == "int")
def goodTy (T : String) : Bool := T == "int" || T == "bool" || T == "str" || T == "tuple" || T == "list"
def names6 : List String := ["NoneType", "bool", "int", "str", "tuple", "list"]
theorem isTy_all : (names6.all fun t => ["int", "bool", "str", "tuple", "list"].all fun T => decide (kitB t T = some (isTy t T))) = true := by decide +kernel
theorem isTy_ok {t T : String} (h1 : t ∈ names6) (h2 : goodTy T = true) : kitB t T = some (isTy t T) := by
  have h := List.all_eq_true.mp (List.all_eq_true.mp isTy_all t h1) T (by
    unfold goodTy at h2
    simp only [Bool.or_eq_true, beq_iff_eq] at h2
    rcases h2 with (((h | h) | h) | h) | h <;> subst h <;> simp)
  exact of_decide_eq_true h
theorem tyName_mem {d : D} {t : String} (h : tyName d = some t) : t ∈ names6 := by
  cases d <;> simp [tyName] at h <;> subst h <;> simp [names6]
section
variable {X : Cx} {W : WX} {a b c e : Expr} {es : List Expr} {fa fb fc : Den} {ga gb : Dens} {pos p p1 p2 : Pos}
theorem rep_ty {H : Hp} {mu : List Addr} {S : Store} {v : V} {d : D} {t : String} (s : StOk X.K X.mg H mu S) (r : Rep X.K X.mg H mu v d) (h : tyName d = some t) : TyX X.K H v (.type t) := by
  cases r with
  | non => cases h; exact .base .non
  | bl b => cases h; exact .base (.bl b)
  | int i => cases h; exact .base (.int i)
  | str x => cases h; exact .base (.str x)
  | tup hq r =>
    cases h
    rcases hq with ⟨hq | ⟨o, hq⟩, _⟩ | ⟨o, its, n, h1, h2, _⟩
    · exact .base (.tup hq)
    · exact .fTuple hq
    · exact .kTuple h1 h2
  | lst hq n r => cases h; exact .base (.lst hq)
  | scr hq =>
    cases h
    rcases hq with ⟨hq | ⟨o, hq⟩, _⟩ | ⟨o, its, n, h1, h2, _⟩
    · exact .base (.lst hq)
    · exact .base (.frz hq)
    · exact .kList h1 h2
  | @ref a k hq =>
    cases h
    have hl : k < S.length := by rw [← s.len]; exact (List.getElem?_eq_some_iff.mp hq).1
    obtain ⟨vs, h1, _⟩ := s.at_ k a _ hq (List.getElem?_eq_getElem hl)
    exact .base (.lst h1)
  | rng hq n => cases h
  | err => cases h
  | cau => cases h
def dIsi (T : String) (f : Den) : Den := fun ρ S => bnd (f ρ S) fun d S1 => (tyName d).map fun t => .ok (.bl (isTy t T)) S1
theorem de_isi {T : Str} {Tn : String} (ha : DE X W a fa) (hm : X.mg "isinstance" = none) (hT : X.mg T = none) (hb : bootBuiltins T = some (.type Tn)) (gT : goodTy Tn = true) (hg : Gl X "isinstance" := by rfl) (hg2 : Gl X T := by rfl)
    (hn : T ≠ "__name__" := by decide) (hdb : (T == ("__debug__" : Str)) = false := by decide) (hs : starEach [a, .Name T p2] X.env = (false, eval a X.env) :: starEach [.Name T p2] X.env := by rfl) :
    DE X W (.Call (.Name "isinstance" p1) [a, .Name T p2] [] pos) (dIsi Tn fa) := by
  refine peI (pe_callB call_isi hg hm (by decide +kernel) (pa_cons ha (pa_cons (pe_bltn (v := .ty Tn) hg2 hT hb rfl hn hdb) pa_nil) hs) (by decide) (by decide) hs (by rfl)) fun σ H Q h => ?_
  obtain ⟨mu, S, ρ, res, s, en, hf, q⟩ := h
  refine rd_bnd s en hf q fun d S1 v H1 m1 x s1 en1 rp h1 q1 => ?_
  obtain ⟨t, ht, rfl⟩ := Option.map_eq_some_iff.mp h1
  exact ⟨v, .ty Tn, .type t, .type Tn, isTy t Tn, rfl, .ty Tn, rep_ty s1 rp ht, kit_ty (isTy_ok (tyName_mem ht) gT), q1.val s1 (.bl _)⟩

/-! ### a def's denotation -/
section
variable (K : PySem.W.Frag) (mg : Str → Option Value)
def PostF (H : Hp) (mu : List Addr) (Q : VK) (E : XK) : Res → Prop
  | .ok d S' => ∀ (v : V) (H' : Hp), Ext H mu H' mu → StOk K mg H' mu S' → Rep K mg H' mu v d → Q v H'
  | .exc c ns xs S' => ∀ (C dx : Addr) (vs : List V) (H' : Hp), Ext H mu H' mu → StOk K mg H' mu S' → mg c = some (.ref C) → H' dx = some (.xd (ns.zip vs)) → dx ∉ mu → ns.length = vs.length → Reps K mg H' mu vs xs → E (.ref C) (some dx) H'
/-- a def keeps the denotation F, of n arguments -/
def spD (n : Nat) (F : Op) : Sp := fun vs H Q E => vs.length = n ∧ ∃ mu S ds r, StOk K mg H mu S ∧ Reps K mg H mu vs ds ∧ F ds S = some r ∧ PostF K mg H mu Q E r
end
abbrev FnD (P : Program) (w : World) (K : PySem.W.Frag) (mg : Str → Option Value) (base : Heap) (k : Nat) (f : Addr) (fd : FuncData) (ps : List Str) (F : Op) : Prop := FnOk P w K mg base (L2N.CX P w) k f fd ps (spD K mg ps.length F)
theorem spD_of {n : Nat} {F : Op} {H : Hp} {mu : List Addr} {S : Store} {vs : List V} {ds : List D} {res : Res} {σ : L2.St} {Q : VK} (s : StOk X.K X.mg H mu S) (r : Reps X.K X.mg H mu vs ds) (hl : ds.length = n) (h : F ds S = some res) (q : Post X.K X.mg W σ H mu Q res) :
    spD X.K X.mg n F vs H Q (WE W σ) := by
  refine ⟨r.length.trans hl, mu, S, ds, res, s, r, h, ?_⟩
  cases res with
  | ok d S' => exact fun v H' x s' rp => q v H' mu x s' rp
  | exc c ns xs S' => exact fun C dx vs H' x s' hm hd hn hl rp => q C dx vs H' mu x s' hm hd hn hl rp
/-- a call of n arguments -/
def dFn (n : Nat) (F : Op) (g : Dens) : Den := fun ρ S => bndl (g ρ S) fun ds S1 => if ds.length = n then F ds S1 else none
theorem de_call {k : Nat} {f : Addr} {fd : FuncData} {ps : List Str} {F : Op} {x : Str} (G : FnD X.prog X.w X.K X.mg X.base k f fd ps F) (hr : Room k X.A) (tk : L2N.Takes X W) (hm : X.mg x = some (.ref f)) (hk : PySem.W.keepIn X.K (.ref f) = true) (hb : Binds X.K fd ps [])
    (ha : DA X W (e :: es) ga) (hg : Gl X x := by rfl) (hdb : (x == ("__debug__" : Str)) = false := by decide) (he : starEach (e :: es) X.env = (false, eval e X.env) :: starEach es X.env := by rfl) (hpl : (backTo pos (starEach es X.env)).any (·.1) = false := by rfl) :
    DE X W (.Call (.Name x p) (e :: es) [] pos) (dFn ps.length F ga) := by
  refine peI (pe_callSD (E := WE W) (dvs := []) G hr hg hm hk hb .nil (fun σ => L2N.passAt tk σ) ha hdb he hpl) fun σ H Q h => ?_
  obtain ⟨mu, S, ρ, res, s, en, hf, q⟩ := h
  refine rds_bndl s en hf q fun ds S1 vs H1 m1 x s1 en1 rp h1 q1 => ?_
  split at h1
  · rename_i hl
    rw [List.append_nil]
    exact spD_of s1 rp hl h1 q1
  · cases h1
/-- a call with keywords: pos the places in the parameters of the values as written -/
def permL {α : Type} (ix : List Nat) (xs : List α) : List α := ix.filterMap fun i => xs[i]?

/-! ### what a def gives back: the lists that it made are frozen -/
mutual
def mapRef (g : Nat → Option D) : D → Option D
  | .tup xs => (mapRefs g xs).map .tup
  | .lst xs => (mapRefs g xs).map .lst
  | .ref k => g k
  | .err c ns xs => (mapRefs g xs).map (.err c ns)
  | .non => some .non
  | .bl b => some (.bl b)
  | .int i => some (.int i)
  | .str s => some (.str s)
  | .scr ns => some (.scr ns)
  | .rng lo hi => some (.rng lo hi)
  | .cau .. => none
def mapRefs (g : Nat → Option D) : List D → Option (List D)
  | [] => some []
  | x :: xs => match mapRef g x, mapRefs g xs with
    | some y, some ys => some (y :: ys)
    | _, _ => none
end
def fzg (S : Store) (n0 : Nat) : Nat → Nat → Option D
  | 0, k => if k < n0 then some (.ref k) else none
  | j + 1, k => if k < n0 then some (.ref k) else match S[k]? with
    | some xs => (mapRefs (fzg S n0 j) xs).map .lst
    | none => none
def fz (S : Store) (n0 : Nat) (d : D) : Option D := mapRef (fzg S n0 3) d
def fzs (S : Store) (n0 : Nat) (d : List D) : Option (List D) := mapRefs (fzg S n0 3) d
section
variable {K : PySem.W.Frag} {mg : Str → Option Value} {H H1 : Hp} {mu m1 : List Addr} {S S1 : Store}
theorem pre_notin (p : mu <+: m1) {a : Addr} (h : a ∉ m1) : a ∉ mu := fun z => h (p.subset z)
theorem SqTm.less (p : mu <+: m1) {a : Addr} {vs : List V} (h : SqTm K H m1 a vs) : SqTm K H mu a vs := h.elim (fun z => .inl ⟨z.1, pre_notin p z.2⟩) .inr
theorem SqLm.less (p : mu <+: m1) {a : Addr} {vs : List V} (h : SqLm K H m1 a vs) : SqLm K H mu a vs := h.elim (fun z => .inl ⟨z.1, pre_notin p z.2⟩) .inr
mutual
theorem rep_map {g : Nat → Option D} (p : mu <+: m1) (hg : ∀ a k d', m1[k]? = some a → g k = some d' → Rep K mg H mu (.ref a) d') : ∀ {v : V} {d d' : D}, Rep K mg H m1 v d → mapRef g d = some d' → Rep K mg H mu v d'
  | _, _, _, .non, h => by simp only [mapRef] at h; cases h; exact .non
  | _, _, _, .bl b, h => by simp only [mapRef] at h; cases h; exact .bl b
  | _, _, _, .int i, h => by simp only [mapRef] at h; cases h; exact .int i
  | _, _, _, .str i, h => by simp only [mapRef] at h; cases h; exact .str i
  | _, _, _, .tup hq r, h => by
    simp only [mapRef] at h
    obtain ⟨ys, h1, rfl⟩ := Option.map_eq_some_iff.mp h
    exact .tup (hq.less p) (reps_map p hg r h1)
  | _, _, _, .lst hq hn r, h => by
    simp only [mapRef] at h
    obtain ⟨ys, h1, rfl⟩ := Option.map_eq_some_iff.mp h
    exact .lst hq (pre_notin p hn) (reps_map p hg r h1)
  | _, _, _, .scr hq, h => by simp only [mapRef] at h; cases h; exact .scr (hq.less p)
  | _, _, _, .ref hq, h => by simp only [mapRef] at h; exact hg _ _ _ hq h
  | _, _, _, .err hm he hd n1 n2 l r, h => by
    simp only [mapRef] at h
    obtain ⟨ys, h1, rfl⟩ := Option.map_eq_some_iff.mp h
    exact .err hm he hd (pre_notin p n1) (pre_notin p n2) l (reps_map p hg r h1)
  | _, _, _, .rng hq n, h => by simp only [mapRef] at h; cases h; exact .rng hq (pre_notin p n)
  | _, _, _, .cau .., h => by simp only [mapRef] at h; cases h
theorem reps_map {g : Nat → Option D} (p : mu <+: m1) (hg : ∀ a k d', m1[k]? = some a → g k = some d' → Rep K mg H mu (.ref a) d') : ∀ {vs : List V} {ds ds' : List D}, Reps K mg H m1 vs ds → mapRefs g ds = some ds' → Reps K mg H mu vs ds'
  | _, _, _, .nil, h => by simp only [mapRefs] at h; cases h; exact .nil
  | _, _, ds', .cons (d := d) (ds := ds) r t, h => by
    simp only [mapRefs] at h
    cases e1 : mapRef g d with
    | none => rw [e1] at h; cases h
    | some y =>
      cases e2 : mapRefs g ds with
      | none => rw [e1, e2] at h; cases h
      | some zs =>
        rw [e1, e2] at h
        cases h
        exact .cons (rep_map p hg r e1) (reps_map p hg t e2)
end
theorem fzg_ok (s : StOk K mg H m1 S1) (p : mu <+: m1) : ∀ (j : Nat) (a : Addr) (k : Nat) (d' : D), m1[k]? = some a → fzg S1 mu.length j k = some d' → Rep K mg H mu (.ref a) d' := by
  have old : ∀ (a : Addr) (k : Nat), m1[k]? = some a → k < mu.length → Rep K mg H mu (.ref a) (.ref k) := fun a k h hk => by
    refine .ref ?_
    obtain ⟨t, rfl⟩ := p
    rw [List.getElem?_append_left hk] at h
    exact h
  have new : ∀ (a : Addr) (k : Nat), m1[k]? = some a → ¬ k < mu.length → a ∉ mu := fun a k h hk z => by
    obtain ⟨n, hn⟩ := List.getElem?_of_mem z
    have hn1 := prefix_get p hn
    have e := (List.getElem?_inj (List.getElem?_eq_some_iff.mp hn1).1 s.nd).mp (hn1.trans h.symm)
    exact hk (by rw [← e]; exact (List.getElem?_eq_some_iff.mp hn).1)
  intro j
  induction j with
  | zero =>
    intro a k d' h e
    unfold fzg at e
    split at e
    · cases e; exact old a k h (by assumption)
    · cases e
  | succ j ih =>
    intro a k d' h e
    unfold fzg at e
    split at e
    · cases e; exact old a k h (by assumption)
    · rename_i hk
      cases e1 : S1[k]? with
      | none => rw [e1] at e; cases e
      | some xs =>
        rw [e1] at e
        obtain ⟨ys, h1, rfl⟩ := Option.map_eq_some_iff.mp e
        obtain ⟨vs, hv, hr⟩ := s.at_ k a xs h e1
        exact .lst hv (new a k h hk) (reps_map p ih hr h1)
mutual
/-- what was told of the plain value at the entry holds of the value behind it -/
theorem rep_back (p : mu <+: m1) : ∀ {v v0 : V} {d : D}, Rep K mg H1 m1 v d → Rep K mg H mu v0 d → Rep K mg H1 mu v d
  | _, _, _, .non, _ => .non
  | _, _, _, .bl b, _ => .bl b
  | _, _, _, .int i, _ => .int i
  | _, _, _, .str i, _ => .str i
  | _, _, _, .tup hq r, .tup _ r0 => .tup (hq.less p) (reps_back p r r0)
  | _, _, _, .lst hq hn r, .lst _ _ r0 => .lst hq (pre_notin p hn) (reps_back p r r0)
  | _, _, _, .scr hq, _ => .scr (hq.less p)
  | _, _, _, .rng hq n, _ => .rng hq (pre_notin p n)
  | _, _, _, .ref (n := n) hq, .ref h0 => .ref (by
    obtain ⟨t, rfl⟩ := p
    rw [List.getElem?_append_left (List.getElem?_eq_some_iff.mp h0).1] at hq
    exact hq)
  | _, _, _, .err hm he hd n1 n2 l r, .err _ _ _ _ _ _ r0 => .err hm he hd (pre_notin p n1) (pre_notin p n2) l (reps_back p r r0)
  | _, _, _, .cau hm hd n2 l r, .cau _ _ _ _ r0 => .cau hm hd (pre_notin p n2) l (reps_back p r r0)
theorem reps_back (p : mu <+: m1) : ∀ {vs ws : List V} {ds : List D}, Reps K mg H1 m1 vs ds → Reps K mg H mu ws ds → Reps K mg H1 mu vs ds
  | _, _, _, .nil, _ => .nil
  | _, _, _, .cons r t, .cons r0 t0 => .cons (rep_back p r r0) (reps_back p t t0)
end
theorem ext_less (x : Ext H mu H1 m1) : Ext H mu H1 mu := ⟨List.prefix_refl _, x.keep, fun _ h n => absurd h n⟩
theorem st_less (s0 : StOk K mg H mu S) (s1 : StOk K mg H1 m1 S1) (x : Ext H mu H1 m1) (h : S1.take S.length = S) : StOk K mg H1 mu S := by
  refine ⟨s0.nd, s0.len, fun n a ds h1 h2 => ?_⟩
  have h3 : S1[n]? = some ds := by
    have hn : n < S.length := (List.getElem?_eq_some_iff.mp h2).1
    rw [← h, List.getElem?_take_of_lt hn] at h2
    exact h2
  obtain ⟨vs, hv, hr⟩ := s1.at_ n a ds (prefix_get x.pre h1) h3
  obtain ⟨ws, _, hr0⟩ := s0.at_ n a ds h1 h2
  exact ⟨vs, hv, reps_back x.pre hr hr0⟩
end
end

/-! ### statements -/
inductive SRes where
  | nx (ρ : EnvD) (S : Store)
  | rt (d : D) (S : Store)
  | bk (ρ : EnvD) (S : Store)
  | ct (ρ : EnvD) (S : Store)
  | exc (c : Str) (ns : List Str) (xs : List D) (ρ : EnvD) (S : Store)
abbrev SDen := EnvD → Store → Option SRes
section
variable (K : PySem.W.Frag) (mg : Str → Option Value) (W : WX)
def PostN (H : Hp) (mu : List Addr) (nx : L2.St → Hp → Prop) (ρ' : EnvD) (S' : Store) : Prop :=
  ∀ (σ' : L2.St) (H' : Hp) (mu' : List Addr), Ext H mu H' mu' → StOk K mg H' mu' S' → EnvOk K mg H' mu' σ' ρ' → nx σ' H'
def PostS (D : Ends) (H : Hp) (mu : List Addr) : SRes → Prop
  | .nx ρ' S' => PostN K mg H mu D.nx ρ' S'
  | .bk ρ' S' => PostN K mg H mu D.bk ρ' S'
  | .ct ρ' S' => PostN K mg H mu D.ct ρ' S'
  | .rt d S' => PostV K mg H mu D.rt d S'
  | .exc c ns xs ρ' S' => ∀ σ' : L2.St, ∀ (H' : Hp) (mu' : List Addr), Ext H mu H' mu' → EnvOk K mg H' mu' σ' ρ' → PostX K mg W σ' H' mu' c ns xs S'
def rdS (g : SDen) : TS := fun D σ H => ∃ mu S ρ r, StOk K mg H mu S ∧ EnvOk K mg H mu σ ρ ∧ g ρ S = some r ∧ PostS K mg W D H mu r
end
theorem PostN.mono {K : PySem.W.Frag} {mg : Str → Option Value} {H H1 : Hp} {mu m1 : List Addr} {nx : L2.St → Hp → Prop} {ρ : EnvD} {S : Store} (x : Ext H mu H1 m1) (p : PostN K mg H mu nx ρ S) : PostN K mg H1 m1 nx ρ S := fun σ' H' mu' y => p σ' H' mu' (x.trans y)
theorem PostS.mono {K : PySem.W.Frag} {mg : Str → Option Value} {W : WX} {D : Ends} {H H1 : Hp} {mu m1 : List Addr} {r : SRes} (x : Ext H mu H1 m1) (p : PostS K mg W D H mu r) : PostS K mg W D H1 m1 r := by
  cases r with
  | nx ρ S => exact PostN.mono x p
  | bk ρ S => exact PostN.mono x p
  | ct ρ S => exact PostN.mono x p
  | rt d S => exact PostV.mono x p
  | exc c ns xs ρ S => exact fun σ' H' mu' y => p σ' H' mu' (x.trans y)
/-- a statement, a block, denotes g -/
def DS (X : Cx) (W : WX) (st : Stmt) (g : SDen) : Prop := PS X st (rdS X.K X.mg W g)
def DSs (X : Cx) (W : WX) (st : List Stmt) (g : SDen) : Prop := PSs X st (rdS X.K X.mg W g)
def bndS (o : Option Res) (ρ : EnvD) (k : D → Store → Option SRes) : Option SRes := match o with
  | some (.ok d S) => k d S
  | some (.exc c ns xs S) => some (.exc c ns xs ρ S)
  | none => none
@[simp] theorem bndS_ok (d : D) (S : Store) (ρ : EnvD) (k : D → Store → Option SRes) : bndS (some (.ok d S)) ρ k = k d S := rfl
@[simp] theorem bndS_exc (c : Str) (ns : List Str) (xs : List D) (S : Store) (ρ : EnvD) (k : D → Store → Option SRes) : bndS (some (.exc c ns xs S)) ρ k = some (.exc c ns xs ρ S) := rfl
@[simp] theorem bndS_none (ρ : EnvD) (k : D → Store → Option SRes) : bndS none ρ k = none := rfl
section
variable {K : PySem.W.Frag} {mg : Str → Option Value} {W : WX} {H : Hp} {mu : List Addr} {σ : L2.St} {ρ : EnvD} {S : Store} {r : SRes}
/-- an expression, then more of a statement -/
theorem rd_bndS {f : Den} {k : D → Store → Option SRes} {D0 : Ends} {Q' : VK} (s : StOk K mg H mu S) (en : EnvOk K mg H mu σ ρ) (h : bndS (f ρ S) ρ k = some r) (q : PostS K mg W D0 H mu r)
    (hk : ∀ d S1 v H1 m1, Ext H mu H1 m1 → StOk K mg H1 m1 S1 → EnvOk K mg H1 m1 σ ρ → Rep K mg H1 m1 v d → k d S1 = some r → PostS K mg W D0 H1 m1 r → Q' v H1) : rd K mg W f σ H Q' := by
  cases e : f ρ S with
  | none => rw [e] at h; cases h
  | some r1 =>
    rw [e] at h
    cases r1 with
    | ok d S1 => exact ⟨mu, S, ρ, _, s, en, e, fun v H1 m1 x s1 rp => hk d S1 v H1 m1 x s1 (en.mono x) rp h (q.mono x)⟩
    | exc c ns xs S1 =>
      have hr : r = .exc c ns xs ρ S1 := (Option.some.inj h).symm
      subst hr
      exact ⟨mu, S, ρ, _, s, en, e, q σ H mu (Ext.refl _ _) en⟩
theorem rds_bndS {f : Dens} {k : List D → Store → Option SRes} {D0 : Ends} {Q' : List V → Hp → Prop} (s : StOk K mg H mu S) (en : EnvOk K mg H mu σ ρ)
    (h : (match f ρ S with | some (.ok d S1) => k d S1 | some (.exc c ns xs S1) => some (.exc c ns xs ρ S1) | none => none) = some r) (q : PostS K mg W D0 H mu r)
    (hk : ∀ d S1 v H1 m1, Ext H mu H1 m1 → StOk K mg H1 m1 S1 → EnvOk K mg H1 m1 σ ρ → Reps K mg H1 m1 v d → k d S1 = some r → PostS K mg W D0 H1 m1 r → Q' v H1) : rds K mg W f σ H Q' := by
  cases e : f ρ S with
  | none => rw [e] at h; cases h
  | some r1 =>
    rw [e] at h
    cases r1 with
    | ok d S1 => exact ⟨mu, S, ρ, _, s, en, e, fun v H1 m1 x s1 rp => hk d S1 v H1 m1 x s1 (en.mono x) rp h (q.mono x)⟩
    | exc c ns xs S1 =>
      have hr : r = .exc c ns xs ρ S1 := (Option.some.inj h).symm
      subst hr
      exact ⟨mu, S, ρ, _, s, en, e, q σ H mu (Ext.refl _ _) en⟩
end

open Classical in
/-- a def's end: what it made and still could change is frozen, what it was handed is as it was -/
noncomputable def fin (S : Store) : Option SRes → Option Res
  | some (.rt d S1) => if S1.take S.length = S then (fz S1 S.length d).map fun d' => .ok d' S else none
  | some (.nx _ S1) => if S1.take S.length = S then some (.ok .non S) else none
  | some (.exc c ns xs _ S1) => if S1.take S.length = S then (fzs S1 S.length xs).map fun xs' => .exc c ns xs' S else none
  | _ => none
def startD (N : List Str) (ds : List D) : EnvD := ds.map some ++ List.replicate (N.length - ds.length) none
noncomputable def fnOf (N : List Str) (g : SDen) : Op := fun ds S => fin S (g (startD N ds) S)
theorem start_ok {K : PySem.W.Frag} {mg : Str → Option Value} {H : Hp} {mu : List Addr} (N : List Str) {vs : List V} {ds : List D} (r : Reps K mg H mu vs ds) : EnvOk K mg H mu (start N vs) (startD N ds) := by
  have hl := r.length
  refine ⟨by simp [L2.start, startD, hl], fun i d h => ?_⟩
  unfold startD at h
  by_cases hi : i < ds.length
  · rw [List.getElem?_append_left (by simpa using hi), List.getElem?_map] at h
    cases e : ds[i]? with
    | none => rw [e] at h; cases h
    | some d' =>
      rw [e] at h
      cases h
      obtain ⟨v, h1, h2⟩ := r.get e
      refine ⟨v, ?_, h2⟩
      unfold L2.start
      rw [List.getElem?_append_left (by rw [List.length_map, hl]; exact hi), List.getElem?_map, h1]
      rfl
  · rw [List.getElem?_append_right (by simpa using hi), List.getElem?_replicate] at h
    split at h <;> cases h
/-- what a def's promise asks is what its body's denotation does -/
theorem den_end {K : PySem.W.Frag} {mg : Str → Option Value} {N ps : List Str} {g : SDen} {vs : List V} {H : Hp} {Q : VK} {E : XK} (h : spD K mg ps.length (fnOf N g) vs H Q E) : rdS K mg (fun cls d _ H => E cls d H) g { nx := fun _ H' => Q .non H', rt := Q } (start N vs) H := by
  obtain ⟨hl, mu, S, ds, r, st, rp, hF, q⟩ := h
  unfold fnOf at hF
  cases e : g (startD N ds) S with
  | none => rw [e] at hF; cases hF
  | some r1 =>
    rw [e] at hF
    refine ⟨mu, S, startD N ds, r1, st, start_ok N rp, e, ?_⟩
    have fzok : ∀ {H1 : Hp} {m1 : List Addr} {S1 : Store} {v : V} {d d' : D}, Ext H mu H1 m1 → StOk K mg H1 m1 S1 → Rep K mg H1 m1 v d → fz S1 S.length d = some d' → Rep K mg H1 mu v d' := fun x s1 r h => by
      rw [← st.len] at h
      exact rep_map x.pre (fzg_ok s1 x.pre 3) r h
    have fzsok : ∀ {H1 : Hp} {m1 : List Addr} {S1 : Store} {v : List V} {d d' : List D}, Ext H mu H1 m1 → StOk K mg H1 m1 S1 → Reps K mg H1 m1 v d → fzs S1 S.length d = some d' → Reps K mg H1 mu v d' := fun x s1 r h => by
      rw [← st.len] at h
      exact reps_map x.pre (fzg_ok s1 x.pre 3) r h
    cases r1 with
    | nx ρ1 S1 =>
      simp only [fin] at hF
      split at hF
      · rename_i ht
        cases hF
        exact fun σ' H' m' x s1 en1 => q .non H' (ext_less x) (st_less st s1 x ht) .non
      · cases hF
    | rt d S1 =>
      simp only [fin] at hF
      split at hF
      · rename_i ht
        obtain ⟨d', h1, rfl⟩ := Option.map_eq_some_iff.mp hF
        exact fun v H' m' x s1 r1 => q v H' (ext_less x) (st_less st s1 x ht) (fzok x s1 r1 h1)
      · cases hF
    | exc c ns xs ρ1 S1 =>
      simp only [fin] at hF
      split at hF
      · rename_i ht
        obtain ⟨xs', h1, rfl⟩ := Option.map_eq_some_iff.mp hF
        intro σ' H' m' x en1 C dx ws H2 m2 x2 s2 hm hd hn hl2 r2
        have x3 := x.trans x2
        exact q C dx ws H2 (ext_less x3) (st_less st s2 x3 ht) hm hd (pre_notin x3.pre hn) hl2 (fzsok x3 s2 r2 h1)
      · cases hF
    | bk _ _ => cases hF
    | ct _ _ => cases hF
section
variable {P : Program} {w : World} {K : PySem.W.Frag} {mg : Str → Option Value} {base : Heap} {x qual : Str} {params : Arguments} {body : List Stmt} {scope : Scope} {dvs : List V} {kws : List (Str × V)} {f : Addr} {fd : FuncData}
/-- THE RULE for a def: its body's denotation is its own -/
theorem fn_den {N ps : List Str} {k : Nat} {g : SDen} (F : FunD K x qual params body scope dvs kws f fd) (Sc : FnScope N ps scope)
    (hb : ∀ (cdv : Value) (A : Around) (outer : List Env) (s : Shared) (H : Hp) (E : XK), Room k (A.deeper (envOfC qual scope s.heap.objs.size f cdv)) →
      L2N.Takes (cxOf (L2N.CX P w) P w K mg base N qual scope f cdv A outer s H E) (fun cls d _ H => E cls d H) →
      DSs (cxOf (L2N.CX P w) P w K mg base N qual scope f cdv A outer s H E) (fun cls d _ H => E cls d H) body g) : FnD P w K mg base (k + 1) f fd ps (fnOf N g) := by
  exact F.ok Sc (fun vs H Q E h => h.1) fun cdv A outer s H vs Q E hr h => ⟨_, hb cdv A outer s H E hr (L2N.takes_of rfl rfl rfl rfl), den_end h⟩
end
end PD
set_option Elab.async false
set_option linter.all false
set_option maxRecDepth 100000
set_option maxHeartbeats 4000000
namespace PD
open PySem PySem.Spec PyProof.Rows L2
section
variable {X : Cx} {W : WX} {a b c e o i : Expr} {es : List Expr} {fa fb fc : Den} {ga gb : Dens} {pos p p1 p2 : Pos} {st : Stmt} {sts rest : List Stmt} {g h : SDen}

/-! ### blocks -/
def sNil : SDen := fun ρ S => some (.nx ρ S)
def sSeq (g h : SDen) : SDen := fun ρ S => match g ρ S with
  | some (.nx ρ1 S1) => h ρ1 S1
  | r => r
theorem ds_seq_post {D : Ends} {σ : L2.St} {H : Hp} (q : rdS X.K X.mg W (sSeq g h) D σ H) : rdS X.K X.mg W g { D with nx := fun σ' H' => rdS X.K X.mg W h D σ' H' } σ H := by
  obtain ⟨mu, S, ρ, r, s, en, hf, q⟩ := q
  unfold sSeq at hf
  cases e : g ρ S with
  | none => rw [e] at hf; cases hf
  | some r1 =>
    rw [e] at hf
    refine ⟨mu, S, ρ, r1, s, en, e, ?_⟩
    cases r1 with
    | nx ρ1 S1 => exact fun σ' H' mu' x s1 en1 => ⟨mu', S1, ρ1, r, s1, en1, hf, q.mono x⟩
    | rt d S1 => cases hf; exact q
    | bk d S1 => cases hf; exact q
    | ct d S1 => cases hf; exact q
    | exc c ns xs ρ1 S1 => cases hf; exact q
theorem dss_nil : DSs X W [] sNil := by
  refine pssI pss_nil fun D σ H h => ?_
  obtain ⟨mu, S, ρ, r, s, en, hf, q⟩ := h
  cases hf
  exact q σ H mu (Ext.refl _ _) s en
theorem dss_cons (h1 : DS X W st g) (h2 : DSs X W rest h) : DSs X W (st :: rest) (sSeq g h) := pssI (pss_cons h1 h2) fun D σ H q => ds_seq_post q
theorem dss_one (h1 : DS X W st g) : DSs X W [st] g := pss_one h1
theorem ds_pass : DS X W (.Pass pos) sNil := by
  refine psI ps_pass fun D σ H h => ?_
  obtain ⟨mu, S, ρ, r, s, en, hf, q⟩ := h
  cases hf
  exact q σ H mu (Ext.refl _ _) s en
def sBreak : SDen := fun ρ S => some (.bk ρ S)
def sCont : SDen := fun ρ S => some (.ct ρ S)
theorem ds_break : DS X W (.Break pos) sBreak := by
  refine psI ps_break fun D σ H h => ?_
  obtain ⟨mu, S, ρ, r, s, en, hf, q⟩ := h
  cases hf
  exact q σ H mu (Ext.refl _ _) s en
theorem ds_continue : DS X W (.Continue pos) sCont := by
  refine psI ps_continue fun D σ H h => ?_
  obtain ⟨mu, S, ρ, r, s, en, hf, q⟩ := h
  cases hf
  exact q σ H mu (Ext.refl _ _) s en
/-- an expression alone -/
def sExpr (f : Den) : SDen := fun ρ S => bndS (f ρ S) ρ fun _ S1 => some (.nx ρ S1)
theorem ds_expr (ha : DE X W e fa) (hs : swapsWith e none pos.line X.env = pure false := by rfl) : DS X W (.Expr e pos) (sExpr fa) := by
  refine psI (ps_expr ha hs) fun D σ H q => ?_
  obtain ⟨mu, S, ρ, r, s, en, hf, q⟩ := q
  refine rd_bndS s en hf q fun d S1 v H1 m1 x s1 en1 rp h1 q1 => ?_
  cases h1
  exact q1 σ H1 m1 (Ext.refl _ _) s1 en1
def sRet (f : Den) : SDen := fun ρ S => bndS (f ρ S) ρ fun d S1 => some (.rt d S1)
theorem ds_ret (ha : DE X W e fa) : DS X W (.Return (some e) pos) (sRet fa) := by
  refine psI (ps_ret ha) fun D σ H q => ?_
  obtain ⟨mu, S, ρ, r, s, en, hf, q⟩ := q
  refine rd_bndS s en hf q fun d S1 v H1 m1 x s1 en1 rp h1 q1 => ?_
  cases h1
  exact q1 v H1 m1 (Ext.refl _ _) s1 rp
def sRetN : SDen := fun _ S => some (.rt .non S)
theorem ds_retN : DS X W (.Return none pos) sRetN := by
  refine psI ps_retN fun D σ H q => ?_
  obtain ⟨mu, S, ρ, r, s, en, hf, q⟩ := q
  cases hf
  exact q .non H mu (Ext.refl _ _) s .non

/-! ### targets -/
abbrev TDen := D → EnvD → Store → Option EnvD
def rdG (K : PySem.W.Frag) (mg : Str → Option Value) (t : TDen) : TG := fun v σ H Q => ∃ mu S ρ d ρ', StOk K mg H mu S ∧ EnvOk K mg H mu σ ρ ∧ Rep K mg H mu v d ∧ t d ρ S = some ρ' ∧ ∀ σ', EnvOk K mg H mu σ' ρ' → Q σ' H
def rdGs (K : PySem.W.Frag) (mg : Str → Option Value) (t : List D → EnvD → Store → Option EnvD) : TGs := fun vs σ H Q => ∃ mu S ρ ds ρ', StOk K mg H mu S ∧ EnvOk K mg H mu σ ρ ∧ Reps K mg H mu vs ds ∧ t ds ρ S = some ρ' ∧ ∀ σ', EnvOk K mg H mu σ' ρ' → Q σ' H
def DG (X : Cx) (tg : Expr) (t : TDen) : Prop := PG X tg (rdG X.K X.mg t)
def DGs (X : Cx) (tgs : List Expr) (t : List D → EnvD → Store → Option EnvD) : Prop := PGs X tgs (rdGs X.K X.mg t)
theorem pgI {tg : Expr} {t t' : TG} (h : PG X tg t) (i : ∀ v σ H Q, t' v σ H Q → t v σ H Q) : PG X tg t' := ⟨fun pins s σ H v u Q I r q => h.run pins s σ H v u Q I r (i v σ H Q q)⟩
theorem pgsI {tg : List Expr} {t t' : TGs} (h : PGs X tg t) (i : ∀ v σ H Q, t' v σ H Q → t v σ H Q) : PGs X tg t' := ⟨fun pins s σ H v u Q I r q => h.run pins s σ H v u Q I r (i v σ H Q q)⟩
def tName (k : Nat) : TDen := fun d ρ _ => some (ρ.set k (some d))
theorem dg_name (k : Nat) {x : Str} (hN : X.N.Nodup) (hi : X.N[k]? = some x := by rfl) (hx : Loc X.env.scope x := by first | exact .inl rfl | exact .inr rfl) (hf : X.fn x = true ∨ X.env.scope.names.lookup x = some .local := by first | exact .inl rfl | exact .inr rfl) : DG X (.Name x pos) (tName k) := by
  refine pgI (pg_name hN hi hx hf) fun v σ H Q h => ?_
  obtain ⟨mu, S, ρ, d, ρ', s, en, rp, ht, q⟩ := h
  cases ht
  exact q _ (en.set rp k)
def tNil : List D → EnvD → Store → Option EnvD := fun ds ρ _ => match ds with
  | [] => some ρ
  | _ => none
def tCons (t : TDen) (u : List D → EnvD → Store → Option EnvD) : List D → EnvD → Store → Option EnvD := fun ds ρ S => match ds with
  | d :: ds => (t d ρ S).bind fun ρ1 => u ds ρ1 S
  | [] => none
theorem dgs_nil : DGs X [] PD.tNil := by
  refine pgsI pgs_nil fun vs σ H Q h => ?_
  obtain ⟨mu, S, ρ, ds, ρ', s, en, rp, ht, q⟩ := h
  cases rp with
  | nil => cases ht; exact ⟨rfl, q _ en⟩
  | cons _ _ => cases ht
theorem dgs_cons {t : TDen} {u : List D → EnvD → Store → Option EnvD} (h1 : DG X e t) (h2 : DGs X es u) (hs : (assignEach (e :: es) X.env).map (·.2) = assign e X.env :: (assignEach es X.env).map (·.2) := by first | rfl | intros; rfl) : DGs X (e :: es) (PD.tCons t u) := by
  refine pgsI (pgs_cons h1 h2 hs) fun vs σ H Q h => ?_
  obtain ⟨mu, S, ρ, ds, ρ', s, en, rp, ht, q⟩ := h
  cases rp with
  | nil => cases ht
  | cons r rs =>
    obtain ⟨ρ1, h3, h4⟩ := bind_two ht
    exact ⟨_, _, rfl, mu, S, ρ, _, ρ1, s, en, r, h3, fun σ' en' => ⟨mu, S, ρ1, _, ρ', s, en', rs, h4, q⟩⟩
def tTup (n : Nat) (u : List D → EnvD → Store → Option EnvD) : TDen := fun d ρ S => match d with
  | .tup xs => if xs.length = n then u xs ρ S else none
  | _ => none
theorem dg_tup {k n : Nat} {u : List D → EnvD → Store → Option EnvD} (hc : X.calm = true) (h : DGs X es u) (hn : (assignEach es X.env).length = n := by rfl) (hst : (assignEach es X.env).findIdx? (·.1) = none := by rfl) : DG X (.Tuple es k pos) (PD.tTup n u) := by
  refine pgI (pg_tup hc h hn hst) fun v σ H Q h => ?_
  obtain ⟨mu, S, ρ, d, ρ', s, en, rp, ht, q⟩ := h
  unfold PD.tTup at ht
  split at ht
  · split at ht
    · rename_i hl
      cases rp with
      | tup hq rs => exact ⟨_, _, rfl, hq.sq, rs.length.trans hl, mu, S, ρ, _, ρ', s, en, rs, ht, q⟩
    · cases ht
  · cases ht
/-- target = e -/
def sAsg (f : Den) (t : TDen) : SDen := fun ρ S => bndS (f ρ S) ρ fun d S1 => (t d ρ S1).map fun ρ1 => .nx ρ1 S1
theorem asg_post {t : TDen} {D : Ends} {σ : L2.St} {H : Hp} (q : rdS X.K X.mg W (sAsg fa t) D σ H) : tAsg (rd X.K X.mg W fa) (rdG X.K X.mg t) D σ H := by
  obtain ⟨mu, S, ρ, r, s, en, hf, q⟩ := q
  refine rd_bndS s en hf q fun d S1 v H1 m1 x s1 en1 rp h1 q1 => ?_
  obtain ⟨ρ1, h2, rfl⟩ := Option.map_eq_some_iff.mp h1
  exact ⟨m1, S1, ρ, d, ρ1, s1, en1, rp, h2, fun σ' en' => q1 σ' H1 m1 (Ext.refl _ _) s1 en'⟩
theorem ds_asg {tg : Expr} {t : TDen} (ha : DE X W e fa) (hg : DG X tg t) (hs : swapsWithSole [tg] e pos.line X.env = pure false := by rfl) (hw : swappedStores [tg] e X.env = pure none := by rfl) (h1 : (assignEach [tg] X.env).map (·.2) = [assign tg X.env] := by rfl) : DS X W (.Assign [tg] e pos) (sAsg fa t) :=
  psI (ps_asg ha hg hs hw h1) fun D σ H q => asg_post q
def sSet (k : Nat) (f : Den) : SDen := fun ρ S => bndS (f ρ S) ρ fun d S1 => some (.nx (ρ.set k (some d)) S1)
theorem set_post {k : Nat} {D : Ends} {σ : L2.St} {H : Hp} (q : rdS X.K X.mg W (sSet k fa) D σ H) : tAsg (rd X.K X.mg W fa) (gName k) D σ H := by
  obtain ⟨mu, S, ρ, r, s, en, hf, q⟩ := q
  refine rd_bndS s en hf q fun d S1 v H1 m1 x s1 en1 rp h1 q1 => ?_
  cases h1
  exact q1 _ H1 m1 (Ext.refl _ _) s1 (en1.set rp k)
theorem ds_set (k : Nat) {x : Str} {pos' : Pos} (hN : X.N.Nodup) (ha : DE X W e fa) (hi : X.N[k]? = some x := by rfl) (hx : Loc X.env.scope x := by first | exact .inl rfl | exact .inr rfl) (hs : swapsWith e (some (.Name x pos')) pos.line X.env = pure false := by rfl) (hf : X.fn x = true ∨ X.env.scope.names.lookup x = some .local := by first | exact .inl rfl | exact .inr rfl) :
    DS X W (.Assign [.Name x pos'] e pos) (sSet k fa) := psI (ps_set hN hi hx ha hs hf) fun D σ H q => set_post q
/-- x, y = e, e' -/
def sPar (k l : Nat) (g : Dens) : SDen := fun ρ S => match g ρ S with
  | some (.ok [d, d2] S1) => some (.nx ((ρ.set k (some d)).set l (some d2)) S1)
  | some (.ok _ _) => none
  | some (.exc c ns xs S1) => some (.exc c ns xs ρ S1)
  | none => none
theorem ds_par (k l : Nat) {x y : Str} {px py pt : Pos} {kt k2 pt2} (hc : X.calm = true) (hN : X.N.Nodup) (ha : DA X W [a, b] ga) (hi : X.N[k]? = some x := by rfl) (hj : X.N[l]? = some y := by rfl) (hij : k ≠ l := by decide)
    (hx : X.env.scope.names.lookup x = some .local := by rfl) (hy : X.env.scope.names.lookup y = some .local := by rfl) (hw : swappedStores [.Tuple [.Name x px, .Name y py] kt pt] (.Tuple [a, b] k2 pt2) X.env = pure (some [x, y]) := by rfl)
    (hs : swapsWithSole [.Tuple [.Name x px, .Name y py] kt pt] (.Tuple [a, b] k2 pt2) pos.line X.env = pure false := by rfl) :
    DS X W (.Assign [.Tuple [.Name x px, .Name y py] kt pt] (.Tuple [a, b] k2 pt2) pos) (sPar k l ga) := by
  refine psI (ps_par hc hN hi hj hij hx hy ha hw hs) fun D σ H q => ?_
  obtain ⟨mu, S, ρ, r, s, en, hf, q⟩ := q
  unfold sPar at hf
  have hf2 : (match ga ρ S with | some (.ok d S1) => (match d with | [d, d2] => some (.nx ((ρ.set k (some d)).set l (some d2)) S1) | _ => none) | some (.exc c ns xs S1) => some (.exc c ns xs ρ S1) | none => none) = some r := by
    rw [← hf]
    split <;> rename_i e1 <;> rw [e1]
    · split <;> simp_all
  refine rds_bndS s en hf2 q fun ds S1 vs H1 m1 x s1 en1 rp h1 q1 => ?_
  split at h1
  · cases h1
    obtain ⟨v, v2, rfl, r1, r2⟩ := reps2 rp
    exact ⟨v, v2, rfl, q1 _ H1 m1 (Ext.refl _ _) s1 ((en1.set r1 k).set r2 l)⟩
  · cases h1
/-- x = x + e, said shortly, of ints and of texts -/
def sAug (k : Nat) (op : Op2) (f : Den) : SDen := fun ρ S => match ρ[k]? with
  | some (some d0) => bndS (f ρ S) ρ fun d S1 => bndS (op d0 d S1) ρ fun d2 S2 => some (.nx (ρ.set k (some d2)) S2)
  | _ => none
theorem ds_aug (k : Nat) {x : Str} {op : Operator} {ti : TIp} {dop : Op2} {pos' : Pos} (ho : PIp X op ti) (hd : ∀ (H : Hp) (mu : List Addr) (S : Store) (x y : V) (a b d : D) (S' : Store) (Q : VK), StOk X.K X.mg H mu S → Rep X.K X.mg H mu x a → Rep X.K X.mg H mu y b → dop a b S = some (.ok d S') → PostV X.K X.mg H mu Q d S' → ti x y H Q)
    (hno : ∀ a b S c ns xs S', dop a b S ≠ some (.exc c ns xs S')) (hN : X.N.Nodup) (ha : DE X W e fa) (hi : X.N[k]? = some x := by rfl) (hx : Loc X.env.scope x := by first | exact .inl rfl | exact .inr rfl) (hf : X.fn x = true ∨ X.env.scope.names.lookup x = some .local := by first | exact .inl rfl | exact .inr rfl) :
    DS X W (.AugAssign (.Name x pos') op e pos) (sAug k dop fa) := by
  refine psI (ps_aug hN hi hx ha ho hf) fun D σ H q => ?_
  obtain ⟨mu, S, ρ, r, s, en, hf, q⟩ := q
  unfold sAug at hf
  split at hf
  · rename_i d0 hd0
    obtain ⟨v0, h1, h2⟩ := en.at_ k d0 hd0
    refine ⟨v0, h1, rd_bndS s en hf q fun d S1 v H1 m1 x s1 en1 rp h3 q1 => ?_⟩
    cases e1 : dop d0 d S1 with
    | none => rw [e1] at h3; cases h3
    | some r1 =>
      rw [e1] at h3
      cases r1 with
      | exc c ns xs S2 => exact absurd e1 (hno _ _ _ _ _ _ _)
      | ok d2 S2 =>
        cases h3
        exact hd H1 m1 S1 v0 v d0 d d2 S2 _ s1 (h2.mono x) rp e1 fun v' H2 m2 x2 s2 rp2 => q1 _ H2 m2 x2 s2 ((en1.mono x2).set rp2 k)
  · cases hf
theorem ds_augAdd (k : Nat) {x : Str} {pos' : Pos} (hN : X.N.Nodup) (ha : DE X W e fa) (hi : X.N[k]? = some x := by rfl) (hx : Loc X.env.scope x := by first | exact .inl rfl | exact .inr rfl) (hf : X.fn x = true ∨ X.env.scope.names.lookup x = some .local := by first | exact .inl rfl | exact .inr rfl) :
    DS X W (.AugAssign (.Name x pos') .Add e pos) (sAug k oAdd fa) := ds_aug k ip_add (fun H mu S x y a b d S' Q s ra rb h p => by
  cases a <;> cases b <;> try (cases h; done)
  cases h; cases ra; cases rb
  exact ⟨_, _, rfl, rfl, p _ H mu (Ext.refl _ _) s (.int _)⟩) (fun a b S c ns xs S' h => by cases a <;> cases b <;> cases h) hN ha hi hx hf
/-- xs[i] = e, xs a list that may change -/
def sStore (fe fo fi : Den) : SDen := fun ρ S => bndS (fe ρ S) ρ fun d S1 => bndS (fo ρ S1) ρ fun o S2 => bndS (fi ρ S2) ρ fun i S3 => match o, i with
  | .ref n, .int k => (match S3[n]? with
    | some xs => (ixN xs.length k).map fun j => .nx ρ (S3.set n (xs.set j d))
    | none => none)
  | _, _ => none
theorem ds_store (he : DE X W e fa) (ho : DE X W o fb) (hi : DE X W i fc) (hs : swapsWithSole [.Subscript o i p] e pos.line X.env = pure false := by rfl) (hw : swappedStores [.Subscript o i p] e X.env = pure none := by rfl)
    (hpg : ∀ {to ti : TE}, PE X o to → PE X i ti → PG X (.Subscript o i p) (gSub to ti rSetL) := by intro _ _ h1 h2; exact pg_sub h1 h2 set_list) : DS X W (.Assign [.Subscript o i p] e pos) (sStore fa fb fc) := by
  refine psI (ps_asg he (hpg ho hi) hs hw) fun D σ H q => ?_
  obtain ⟨mu, S, ρ, r, s, en, hf, q⟩ := q
  refine rd_bndS s en hf q fun d S1 v H1 m1 x1 s1 en1 rp h1 q1 => ?_
  refine rd_bndS s1 en1 h1 q1 fun od S2 ov H2 m2 x2 s2 en2 rp2 h2 q2 => ?_
  refine rd_bndS s2 en2 h2 q2 fun id S3 iv H3 m3 x3 s3 en3 rp3 h3 q3 => ?_
  split at h3
  · rename_i n k
    split at h3
    · rename_i xs hxs
      obtain ⟨j, hj, rfl⟩ := Option.map_eq_some_iff.mp h3
      cases rp3
      have ro := rp2.mono x3
      cases ro with
      | ref hn =>
        obtain ⟨vs, hv, hr⟩ := s3.at_ n _ xs hn hxs
        refine ⟨_, vs, k, j, rfl, rfl, hv, by rw [hr.length]; exact hj, ?_⟩
        have hm := List.mem_of_getElem? hn
        have xc := Ext.chg (H := H3) (o := .lst (vs.set j v)) hm
        exact q3 σ _ m3 xc (s3.chg hn (((rp.mono x2).mono x3) |> fun z => Reps.set z j hr)) (en3.mono xc)
    · cases h3
  · cases h3
/-- xs.append(e), xs a list that may change -/
def dApp (fo fe : Den) : Den := fun ρ S => bnd (fo ρ S) fun o S1 => match o with
  | .ref n => bnd (fe ρ S1) fun d S2 => (match S2[n]? with
    | some xs => if xs.length < 16777216 then some (.ok .non (S2.set n (xs ++ [d]))) else none
    | none => none)
  | _ => none
theorem de_app (ho : DE X W o fa) (he : DE X W e fb)
    (hpe : ∀ {to : TE} {ta : TA}, PE X o to → PA X [e] ta → PE X (.Call (.Attribute o "append" p1) [e] [] pos) (tBM X.K "list" rAppend to ta) := by intro _ _ h1 h2; exact pe_bm PySem.F.plainAttrs_list PySem.F.slot_list_append PySem.F.type_list_append mt_append h1 h2)
    (hs : starEach [e] X.env = (false, eval e X.env) :: starEach [] X.env := by rfl) : DE X W (.Call (.Attribute o "append" p1) [e] [] pos) (dApp fa fb) := by
  refine peI (hpe ho (pa_cons he pa_nil hs)) fun σ H Q h => ?_
  obtain ⟨mu, S, ρ, res, s, en, hf, q⟩ := h
  refine rd_bnd s en hf q fun od S1 ov H1 m1 x1 s1 en1 rp h1 q1 => ?_
  cases od <;> try (cases h1; done)
  rename_i n
  cases rp with
  | @ref a _ hn =>
    have hl : n < S1.length := by rw [← s1.len]; exact (List.getElem?_eq_some_iff.mp hn).1
    obtain ⟨vs, hv, _⟩ := s1.at_ n a _ hn (List.getElem?_eq_getElem hl)
    refine ⟨.inl ⟨rfl, _, .of hv⟩, ?_⟩
    show rd X.K X.mg W fb σ H1 _
    refine rd_bnd s1 en1 h1 q1 fun d S2 v H2 m2 x2 s2 en2 rp2 h2 q2 => ?_
    split at h2
    · rename_i xs hxs
      split at h2
      · rename_i hz
        cases h2
        have hn2 := prefix_get x2.pre hn
        obtain ⟨ws, hw, hr⟩ := s2.at_ n a xs hn2 hxs
        refine ⟨a, ws, v, rfl, rfl, hw, by rw [hr.length, line_eq]; exact hz, ?_⟩
        have hm := List.mem_of_getElem? hn2
        have xc := Ext.chg (H := H2) (o := .lst (ws ++ [v])) hm
        exact q2 .non _ m2 xc (s2.chg hn2 (hr.append (.single rp2))) .non
      · cases h2
    · cases h2

/-! ### if, while, for -/
def sIf (t : Den) (g h : SDen) : SDen := fun ρ S => match t ρ S with
  | some (.ok (.bl b) S1) => if b then g ρ S1 else h ρ S1
  | some (.exc c ns xs S1) => some (.exc c ns xs ρ S1)
  | _ => none
theorem ds_if (hc : DT X W c fc) (ha : DSs X W sts g) (hb : DSs X W rest h) : DS X W (.If c sts rest pos) (sIf fc g h) := by
  refine psI (ps_if hc ha hb) fun D σ H q => ?_
  obtain ⟨mu, S, ρ, r, s, en, hf, q⟩ := q
  unfold sIf at hf
  split at hf
  · rename_i b S1 e1
    refine ⟨mu, S, ρ, _, s, en, e1, fun H1 m1 x s1 => ?_⟩
    cases b with
    | true => exact iteT ⟨m1, S1, ρ, r, s1, en.mono x, hf, q.mono x⟩
    | false => exact iteF ⟨m1, S1, ρ, r, s1, en.mono x, hf, q.mono x⟩
  · rename_i e1
    cases hf
    exact ⟨mu, S, ρ, _, s, en, e1, q σ H mu (Ext.refl _ _) en⟩
  · cases hf
/-- while, at most n turns -/
def sWhileN (t : Den) (g : SDen) : Nat → SDen
  | 0 => fun _ _ => none
  | n + 1 => fun ρ S => match t ρ S with
    | some (.ok (.bl b) S1) => if b then (match g ρ S1 with
      | some (.nx ρ2 S2) => sWhileN t g n ρ2 S2
      | some (.ct ρ2 S2) => sWhileN t g n ρ2 S2
      | some (.bk ρ2 S2) => some (.nx ρ2 S2)
      | r => r) else some (.nx ρ S1)
    | some (.exc c ns xs S1) => some (.exc c ns xs ρ S1)
    | _ => none
def sWhile (n : Nat) (t : Den) (g : SDen) : SDen := sWhileN t g n
theorem ds_while (n : Nat) (hp : PassesOwn (model X.prog X.w) X.A X.env X.xe) (hc : DT X W c fc) (hb : DSs X W sts g) : DS X W (.While c sts [] pos) (sWhile n fc g) := by
  refine psI (ps_while hp hc hb) fun D σ H q => ?_
  refine ⟨fun m σ H => ∃ mu S ρ r, StOk X.K X.mg H mu S ∧ EnvOk X.K X.mg H mu σ ρ ∧ sWhileN fc g m ρ S = some r ∧ PostS X.K X.mg W D H mu r, ⟨n, q⟩, ?_⟩
  rintro m σ H ⟨mu, S, ρ, r, s, en, hf, q⟩
  cases m with
  | zero => cases hf
  | succ m =>
    unfold sWhileN at hf
    split at hf
    · rename_i b S1 e1
      refine ⟨mu, S, ρ, _, s, en, e1, fun H1 m1 x s1 => ?_⟩
      have en1 := en.mono x
      have q1 := q.mono x
      cases b with
      | false =>
        refine iteF ?_
        cases hf
        exact q1 σ H1 m1 (Ext.refl _ _) s1 en1
      | true =>
        refine iteT ?_
        simp only [if_true] at hf
        cases e2 : g ρ S1 with
        | none => rw [e2] at hf; cases hf
        | some r2 =>
          rw [e2] at hf
          refine ⟨_, fun σ' H' z => z, m1, S1, ρ, r2, s1, en1, e2, ?_⟩
          cases r2 with
          | nx ρ2 S2 => exact fun σ' H' mu' x2 s2 en2 => ⟨m, Nat.lt_succ_self _, mu', S2, ρ2, r, s2, en2, hf, q1.mono x2⟩
          | ct ρ2 S2 => exact fun σ' H' mu' x2 s2 en2 => ⟨m, Nat.lt_succ_self _, mu', S2, ρ2, r, s2, en2, hf, q1.mono x2⟩
          | bk ρ2 S2 => cases hf; exact q1
          | rt d S2 => cases hf; exact q1
          | exc c ns xs ρ2 S2 => cases hf; exact q1
    · rename_i e1
      cases hf
      exact ⟨mu, S, ρ, _, s, en, e1, q σ H mu (Ext.refl _ _) en⟩
    · cases hf
end
end PD
set_option Elab.async false
set_option linter.all false
set_option maxRecDepth 100000
set_option maxHeartbeats 4000000
namespace PD
open PySem PySem.Spec PyProof.Rows L2

/-! ### what is walked -/
/-- the walk J gives just these values, one behind another, while P stands; P stands while the store passes the check -/
structure Walks (K : PySem.W.Frag) (mg : Str → Option Value) (J : It) (P : Hp → List Addr → Store → Prop) (ck : Store → Prop) (items : List D) : Prop where
  mono : ∀ H mu S H' mu' S', P H mu S → Ext H mu H' mu' → ck S' → P H' mu' S'
  has : ∀ H mu S, P H mu S → ck S
  go : ∀ i H mu S, P H mu S → StOk K mg H mu S → i < items.length → J.go i H
  yld : ∀ i H mu x H' S d, P H mu S → StOk K mg H mu S → J.yld i H x H' → items[i]? = some d → Ext H mu H' mu ∧ StOk K mg H' mu S ∧ Rep K mg H' mu x d
  stop : ∀ H mu S, P H mu S → StOk K mg H mu S → J.stop items.length H
/-- what is walked: these values; w: the list that may change, if it is one -/
inductive Ires where
  | ok (items : List D) (w : Option Nat) (S : Store)
  | exc (c : Str) (ns : List Str) (xs : List D) (S : Store)
abbrev Iens := EnvD → Store → Option Ires
def bndi (o : Option Res) (k : D → Store → Option Ires) : Option Ires := match o with
  | some (.ok d S) => k d S
  | some (.exc c ns xs S) => some (.exc c ns xs S)
  | none => none
@[simp] theorem bndi_ok (d : D) (S : Store) (k : D → Store → Option Ires) : bndi (some (.ok d S)) k = k d S := rfl
@[simp] theorem bndi_exc (c : Str) (ns : List Str) (xs : List D) (S : Store) (k : D → Store → Option Ires) : bndi (some (.exc c ns xs S)) k = some (.exc c ns xs S) := rfl
@[simp] theorem bndi_none (k : D → Store → Option Ires) : bndi none k = none := rfl
def ckOf (w : Option Nat) (all : List D) (S : Store) : Prop := match w with
  | none => True
  | some n => S[n]? = some all
@[simp] theorem ckOf_none (all : List D) (S : Store) : ckOf none all S = True := rfl
def PostI (K : PySem.W.Frag) (mg : Str → Option Value) (W : WX) (σ : L2.St) (H : Hp) (mu : List Addr) (R : It → Hp → Prop) : Ires → Prop
  | .ok items w S' => ∀ (J : It) (P : Hp → List Addr → Store → Prop) (H' : Hp) (mu' : List Addr), Walks K mg J P (ckOf w items) items → P H' mu' S' → Ext H mu H' mu' → StOk K mg H' mu' S' → R J H'
  | .exc c ns xs S' => PostX K mg W σ H mu c ns xs S'
def rdI (K : PySem.W.Frag) (mg : Str → Option Value) (W : WX) (f : Iens) : TI := fun σ H R => ∃ mu S ρ r, StOk K mg H mu S ∧ EnvOk K mg H mu σ ρ ∧ f ρ S = some r ∧ PostI K mg W σ H mu R r
def DI (X : Cx) (W : WX) (tg iter : Expr) (f : Iens) : Prop := PI X tg iter (rdI X.K X.mg W f)
theorem piI {X : Cx} {tg iter : Expr} {t t' : TI} (h : PI X tg iter t) (i : ∀ σ H R, t' σ H R → t σ H R) : PI X tg iter t' := ⟨fun pins s σ H R I q => h.run pins s σ H R I (i σ H R q)⟩
section
variable {X : Cx} {W : WX} {a b c e o i tg iter elt : Expr} {es ifs : List Expr} {fa fb fc : Den} {ga : Iens} {gb : Dens} {w : Option Nat} {pos p p1 p2 : Pos} {st : Stmt} {sts rest : List Stmt} {g h : SDen}
theorem walks_list {a : Addr} {vs : List V} {items : List D} : Walks X.K X.mg (Itl X.K a) (fun H mu _ => SqLm X.K H mu a vs ∧ Reps X.K X.mg H mu vs items) (ckOf none items) items where
  mono := fun H mu S H' mu' S' h x _ => ⟨x.sqL h.1, h.2.mono x⟩
  has := fun _ _ _ _ => trivial
  go := fun i H mu S h _ hi => ⟨vs, vs[i]'(by rw [h.2.length]; exact hi), h.1.sq, List.getElem?_eq_getElem _⟩
  yld := fun i H mu x H' S d h s y hd => by
    obtain ⟨rfl, hx⟩ := y
    obtain ⟨v, h1, h2⟩ := h.2.get hd
    have := hx vs h.1.sq
    rw [h1] at this
    cases this
    exact ⟨Ext.refl _ _, s, h2⟩
  stop := fun H mu S h _ => ⟨vs, h.1.sq, by rw [h.2.length]; exact Nat.le_refl _⟩
theorem walks_tup {a : Addr} {vs : List V} {items : List D} : Walks X.K X.mg (Itt X.K a) (fun H mu _ => SqTm X.K H mu a vs ∧ Reps X.K X.mg H mu vs items) (ckOf none items) items where
  mono := fun H mu S H' mu' S' h x _ => ⟨x.sqT h.1, h.2.mono x⟩
  has := fun _ _ _ _ => trivial
  go := fun i H mu S h _ hi => ⟨vs, vs[i]'(by rw [h.2.length]; exact hi), h.1.sq, List.getElem?_eq_getElem _⟩
  yld := fun i H mu x H' S d h s y hd => by
    obtain ⟨rfl, hx⟩ := y
    obtain ⟨v, h1, h2⟩ := h.2.get hd
    have := hx vs h.1.sq
    rw [h1] at this
    cases this
    exact ⟨Ext.refl _ _, s, h2⟩
  stop := fun H mu S h _ => ⟨vs, h.1.sq, by rw [h.2.length]; exact Nat.le_refl _⟩
def rgD (lo : Int) (n : Nat) : List D := (List.range n).map fun i => .int (lo + (i : Nat))
theorem rgD_length (lo : Int) (n : Nat) : (rgD lo n).length = n := by simp [rgD]
theorem walks_range (lo : Int) (n : Nat) : Walks X.K X.mg (Itr lo n) (fun _ _ _ => True) (ckOf none (rgD lo n)) (rgD lo n) where
  mono := fun _ _ _ _ _ _ _ _ _ => trivial
  has := fun _ _ _ _ => trivial
  go := fun i H mu _ _ _ hi => by rw [rgD_length] at hi; exact hi
  yld := fun i H mu x H' S d _ s y hd => by
    obtain ⟨rfl, rfl⟩ := y
    have hi : i < n := by rw [← rgD_length lo n]; exact (List.getElem?_eq_some_iff.mp hd).1
    have e : d = .int (lo + i) := by
      simp [rgD, List.getElem?_range hi] at hd
      exact hd.symm
    subst e
    exact ⟨Ext.refl _ _, s, .int _⟩
  stop := fun H mu _ _ _ => by show n ≤ (rgD lo n).length; rw [rgD_length]; exact Nat.le_refl _
/-- a list or a tuple, walked -/
def iSeq (K : PySem.W.Frag) (tl : TE) : TI := fun σ H R => tl σ H fun x H1 => ∃ a, x = .ref a ∧ (((∃ xs, SqL K H1 a xs) ∧ R (Itl K a) H1) ∨ ((∃ xs, SqT K H1 a xs) ∧ R (Itt K a) H1) ∨ ∃ lo hi, H1 a = some (.rng lo hi) ∧ -(2 ^ 62) ≤ lo ∧ lo < 2 ^ 62 ∧ -(2 ^ 62) ≤ hi ∧ hi < 2 ^ 62 ∧ R (Itr lo (hi - lo).toNat) H1)
theorem pi_seq {tl : TE} (hl : PE X iter tl) : PI X tg iter (iSeq X.K tl) := by
  refine ⟨fun pins s σ H R I h => ?_⟩
  refine thn (hl.run pins s σ H _ I h) fun v s1 ⟨x, H1, I1, r1, q1⟩ => ?_
  obtain ⟨a, rfl, q1⟩ := q1
  cases r1
  have fresh : ∀ b ∈ [s1.heap.objs.size], FpOk X pins H1 b := fun b hb => by
    rw [List.mem_singleton.mp hb]
    exact I1.fpOk (Nat.le_refl _) I1.fresh
  rcases q1 with ⟨⟨xs, hq⟩, q⟩ | ⟨⟨xs, hq⟩, q⟩ | ⟨lo, hi, ho, b1, b2, b3, b4, q⟩
  · obtain ⟨its, rv, pl, _⟩ := I1.list hq
    exact wpAny_pyIter_list pl.isList ⟨_, [s1.heap.objs.size], _, _, H1, rfl, I1.kept (t' := s1.toks) fun b o z => Heap.get?_push_of_some _ z, turn_list a _, ⟨_, Heap.get?_push_size _ rfl, rfl, rfl⟩, fresh, q⟩
  · obtain ⟨its, rv, pl, _⟩ := I1.tuple hq
    exact wpAny_pyIter_tuple (show s1.heap.IsTuple a its.toArray from pl) ⟨_, [s1.heap.objs.size], _, _, H1, rfl, I1.kept (t' := s1.toks) fun b o z => Heap.get?_push_of_some _ z, turn_tuple a _, ⟨_, Heap.get?_push_size _ rfl, rfl, rfl⟩, fresh, q⟩
  · obtain ⟨t1, t2, t3, pl⟩ := I1.hok a _ ho
    refine wpAny_pyIter_range (t := t1) (u := t2) (v := t3) (show IsRange s1.heap a lo hi 1 t1 t2 t3 from pl) (small_one b1 b2 b3 b4) ?_
    refine ⟨s1.heap.objs.size, [s1.heap.objs.size], _, _, H1, rfl, I1.kept (t' := s1.toks) fun b o z => Heap.get?_push_of_some _ z, turn_range _ lo (hi - lo).toNat, ?_, fresh, q⟩
    have e1 : lo + ((0 : Nat) : Int) * 1 = lo := by simp
    have e2 : (((hi - lo).toNat : Nat) : Int) - ((0 : Nat) : Int) = Builtin.Range.rangeSize lo hi 1 := by rw [rangeSize_one]; split <;> omega
    show IsRangeIter _ _ (lo + ((0 : Nat) : Int) * 1) ((((hi - lo).toNat : Nat) : Int) - ((0 : Nat) : Int)) 1
    rw [e1, e2]
    exact Heap.get?_push_size _ rfl
def asFix : D → Option (List D)
  | .lst xs => some xs
  | .tup xs => some xs
  | .scr ns => some (ns.map D.int)
  | _ => none
theorem walks_ref {a : Addr} {n : Nat} {items : List D} : Walks X.K X.mg (Itl X.K a) (fun _ mu S => mu[n]? = some a ∧ S[n]? = some items) (ckOf (some n) items) items where
  mono := fun H mu S H' mu' S' h x c => ⟨prefix_get x.pre h.1, c⟩
  has := fun _ _ _ h => h.2
  go := fun i H mu S h s hi => by
    obtain ⟨vs, hv, hr⟩ := s.at_ n a items h.1 h.2
    exact ⟨vs, vs[i]'(by rw [hr.length]; exact hi), .of hv, List.getElem?_eq_getElem _⟩
  yld := fun i H mu x H' S d h s y hd => by
    obtain ⟨rfl, hx⟩ := y
    obtain ⟨vs, hv, hr⟩ := s.at_ n a items h.1 h.2
    obtain ⟨v, h1, h2⟩ := hr.get hd
    have := hx vs (.of hv)
    rw [h1] at this
    cases this
    exact ⟨Ext.refl _ _, s, h2⟩
  stop := fun H mu S h s => by
    obtain ⟨vs, hv, hr⟩ := s.at_ n a items h.1 h.2
    exact ⟨vs, .of hv, by rw [hr.length]; exact Nat.le_refl _⟩
def asWalk (S : Store) : D → Option (List D × Option Nat)
  | .lst xs => some (xs, none)
  | .tup xs => some (xs, none)
  | .scr ns => some (ns.map D.int, none)
  | .ref n => (S[n]?).map fun xs => (xs, some n)
  | .rng lo hi => if -(2 ^ 62) ≤ lo ∧ lo < 2 ^ 62 ∧ -(2 ^ 62) ≤ hi ∧ hi < 2 ^ 62 then some (rgD lo (hi - lo).toNat, none) else none
  | _ => none
def dItems (f : Den) : Iens := fun ρ S => bndi (f ρ S) fun d S1 => (asWalk S1 d).map fun q => .ok q.1 q.2 S1
theorem PostI.mono {K : PySem.W.Frag} {mg : Str → Option Value} {σ : L2.St} {H H1 : Hp} {mu m1 : List Addr} {R : It → Hp → Prop} {r : Ires} (x : Ext H mu H1 m1) (q : PostI K mg W σ H mu R r) : PostI K mg W σ H1 m1 R r := by
  cases r with
  | ok items w S2 => exact fun J P H2 m2 wk pp x2 => q J P H2 m2 wk pp (x.trans x2)
  | exc c ns xs S2 => exact PostX.mono x q
theorem rdI_of {K : PySem.W.Frag} {mg : Str → Option Value} {f : Iens} {σ : L2.St} {H : Hp} {R : It → Hp → Prop} (h : rdI K mg W f σ H R) : ∃ mu S ρ r, StOk K mg H mu S ∧ EnvOk K mg H mu σ ρ ∧ f ρ S = some r ∧ PostI K mg W σ H mu R r := h
theorem rd_bndI {K : PySem.W.Frag} {mg : Str → Option Value} {f : Den} {k : D → Store → Option Ires} {σ : L2.St} {H : Hp} {mu : List Addr} {S : Store} {ρ : EnvD} {r : Ires} {R : It → Hp → Prop} {Q' : VK} (s : StOk K mg H mu S) (en : EnvOk K mg H mu σ ρ) (h : bndi (f ρ S) k = some r) (q : PostI K mg W σ H mu R r)
    (hk : ∀ d S1 v H1 m1, Ext H mu H1 m1 → StOk K mg H1 m1 S1 → EnvOk K mg H1 m1 σ ρ → Rep K mg H1 m1 v d → k d S1 = some r → PostI K mg W σ H1 m1 R r → Q' v H1) : rd K mg W f σ H Q' := by
  cases e : f ρ S with
  | none => rw [e] at h; cases h
  | some r1 =>
    rw [e] at h
    cases r1 with
    | ok d S1 => exact ⟨mu, S, ρ, _, s, en, e, fun v H1 m1 x s1 rp => hk d S1 v H1 m1 x s1 (en.mono x) rp h (q.mono x)⟩
    | exc c ns xs S1 =>
      have hr : r = .exc c ns xs S1 := (Option.some.inj h).symm
      subst hr
      exact ⟨mu, S, ρ, _, s, en, e, q⟩
/-- what is walked -/
theorem fix_walk {H : Hp} {mu : List Addr} {S : Store} {v : V} {d : D} {q : List D × Option Nat} {R : It → Hp → Prop} (s : StOk X.K X.mg H mu S) (r : Rep X.K X.mg H mu v d) (h : asWalk S d = some q) (hR : ∀ J P, Walks X.K X.mg J P (ckOf q.2 q.1) q.1 → P H mu S → R J H) :
    ∃ a, v = .ref a ∧ (((∃ xs, SqL X.K H a xs) ∧ R (Itl X.K a) H) ∨ ((∃ xs, SqT X.K H a xs) ∧ R (Itt X.K a) H) ∨ ∃ lo hi, H a = some (.rng lo hi) ∧ -(2 ^ 62) ≤ lo ∧ lo < 2 ^ 62 ∧ -(2 ^ 62) ≤ hi ∧ hi < 2 ^ 62 ∧ R (Itr lo (hi - lo).toNat) H) := by
  cases d <;> try (cases h; done)
  · cases h
    cases r with
    | tup hq rv => exact ⟨_, rfl, .inr (.inl ⟨⟨_, hq.sq⟩, hR _ _ walks_tup ⟨hq, rv⟩⟩)⟩
  · cases h
    cases r with
    | lst hq hn rv => exact ⟨_, rfl, .inl ⟨⟨_, .of hq⟩, hR _ _ walks_list ⟨.inl ⟨.inl hq, hn⟩, rv⟩⟩⟩
  · obtain ⟨xs, h1, rfl⟩ := Option.map_eq_some_iff.mp h
    cases r with
    | @ref a n hq =>
      obtain ⟨vs, hv, hr⟩ := s.at_ _ a xs hq h1
      exact ⟨a, rfl, .inl ⟨⟨vs, .of hv⟩, hR _ _ walks_ref ⟨hq, h1⟩⟩⟩
  · cases h
    cases r with
    | scr hq => exact ⟨_, rfl, .inl ⟨⟨_, hq.sq⟩, hR _ _ walks_list ⟨hq, Reps.ints _⟩⟩⟩
  · rename_i lo hi
    simp only [asWalk] at h
    split at h
    · rename_i hb
      cases h
      cases r with
      | rng hq hn => exact ⟨_, rfl, .inr (.inr ⟨lo, hi, hq, hb.1, hb.2.1, hb.2.2.1, hb.2.2.2, hR _ _ (walks_range lo (hi - lo).toNat) trivial⟩)⟩
    · cases h
theorem di_seq (ha : DE X W iter fa) : DI X W tg iter (dItems fa) := by
  refine piI (pi_seq ha) fun σ H R h => ?_
  obtain ⟨mu, S, ρ, r, s, en, hf, q⟩ := rdI_of h
  refine rd_bndI s en hf q fun d S1 v H1 m1 x s1 en1 rp h1 q1 => ?_
  obtain ⟨xs, h2, rfl⟩ := Option.map_eq_some_iff.mp h1
  exact fix_walk s1 rp h2 fun J P w pp => q1 J P H1 m1 w pp (Ext.refl _ _) s1
def dRange1 (f : Den) : Iens := fun ρ S => bndi (f ρ S) fun d S1 => match d with
  | .int j => if -(2 ^ 62) ≤ j ∧ j < 2 ^ 62 then some (.ok (rgD 0 j.toNat) none S1) else none
  | _ => none
def dRange2 (f g : Den) : Iens := fun ρ S => bndi (f ρ S) fun d S1 => bndi (g ρ S1) fun d2 S2 => match d, d2 with
  | .int i, .int j => if -(2 ^ 62) ≤ i ∧ i < 2 ^ 62 ∧ -(2 ^ 62) ≤ j ∧ j < 2 ^ 62 then some (.ok (rgD i (j - i).toNat) none S2) else none
  | _, _ => none
theorem di_range1 (hm : X.mg "range" = none) (ha : DE X W a fa) (hg : Gl X "range" := by rfl) (hs : starEach [a] X.env = [(false, eval a X.env)] := by rfl) : DI X W tg (.Call (.Name "range" p) [a] [] pos) (dRange1 fa) := by
  refine piI (pi_range1 hg hm (pa_cons ha pa_nil hs) hs) fun σ H R h => ?_
  obtain ⟨mu, S, ρ, r, s, en, hf, q⟩ := rdI_of h
  refine rd_bndI s en hf q fun d S1 v H1 m1 x s1 en1 rp h1 q1 => ?_
  split at h1
  · split at h1
    · rename_i j hj
      cases h1
      cases rp
      exact ⟨j, rfl, hj.1, hj.2, q1 _ _ H1 m1 (walks_range 0 j.toNat) trivial (Ext.refl _ _) s1⟩
    · cases h1
  · cases h1
theorem di_range2 (hm : X.mg "range" = none) (ha : DE X W a fa) (hb : DE X W b fb) (hg : Gl X "range" := by rfl) (hs : starEach [a, b] X.env = [(false, eval a X.env), (false, eval b X.env)] := by rfl) (hs2 : starEach [b] X.env = [(false, eval b X.env)] := by rfl)
    (hs3 : starEach [a, b] X.env = (false, eval a X.env) :: starEach [b] X.env := by rfl) : DI X W tg (.Call (.Name "range" p) [a, b] [] pos) (dRange2 fa fb) := by
  refine piI (pi_range2 hg hm (pa_cons ha (pa_cons hb pa_nil hs2) hs3) hs hs2) fun σ H R h => ?_
  obtain ⟨mu, S, ρ, r, s, en, hf, q⟩ := rdI_of h
  refine rd_bndI s en hf q fun d S1 v H1 m1 x s1 en1 rp h1 q1 => ?_
  refine rd_bndI s1 en1 h1 q1 fun d2 S2 v2 H2 m2 x2 s2 en2 rp2 h2 q2 => ?_
  split at h2
  · split at h2
    · rename_i i j hj
      cases h2
      cases rp
      cases rp2
      exact ⟨i, j, rfl, hj, q2 _ _ H2 m2 (walks_range i (j - i).toNat) trivial (Ext.refl _ _) s2⟩
    · cases h2
  · cases h2
/-- pairs of place and value -/
def enumD : Nat → List D → List D
  | _, [] => []
  | i, x :: xs => .tup [.int i, x] :: enumD (i + 1) xs
theorem enumD_length : ∀ (i : Nat) (xs : List D), (enumD i xs).length = xs.length
  | _, [] => rfl
  | i, x :: xs => congrArg Nat.succ (enumD_length (i + 1) xs)
theorem enumD_get : ∀ (i k : Nat) (xs : List D) (d : D), (enumD i xs)[k]? = some d → ∃ x, xs[k]? = some x ∧ d = .tup [.int ((i + k : Nat) : Int), x]
  | _, _, [], _, h => by cases h
  | i, 0, x :: xs, d, h => by
    simp only [enumD, List.getElem?_cons_zero] at h
    cases h
    exact ⟨x, rfl, rfl⟩
  | i, k + 1, x :: xs, d, h => by
    simp only [enumD, List.getElem?_cons_succ] at h
    obtain ⟨y, h1, rfl⟩ := enumD_get (i + 1) k xs d h
    exact ⟨y, by simpa using h1, by rw [show i + 1 + k = i + (k + 1) by omega]⟩
theorem walks_enum {a : Addr} {vs : List V} {items : List D} : Walks X.K X.mg (Ite X.K a) (fun H mu _ => SqLm X.K H mu a vs ∧ Reps X.K X.mg H mu vs items) (ckOf none (enumD 0 items)) (enumD 0 items) where
  mono := fun H mu S H' mu' S' h x _ => ⟨x.sqL h.1, h.2.mono x⟩
  has := fun _ _ _ _ => trivial
  go := fun i H mu S h _ hi => by
    rw [enumD_length] at hi
    exact ⟨vs, vs[i]'(by rw [h.2.length]; exact hi), h.1.sq, List.getElem?_eq_getElem _⟩
  yld := fun i H mu x H' S d h s y hd => by
    obtain ⟨T, z, rfl, hT, rfl, hz⟩ := y
    obtain ⟨xd, h1, rfl⟩ := enumD_get 0 i items d hd
    obtain ⟨v, h2, h3⟩ := h.2.get h1
    have e := hz vs h.1.sq
    rw [h2] at e
    have ez : z = v := (Option.some.inj e).symm
    subst ez
    have n := s.free hT
    have xx : Ext H mu (upd H T (.tup [.int (i : Nat), z])) mu := Ext.fresh hT n
    refine ⟨xx, s.fresh hT, .tup (.inl ⟨.inl upd_same, n⟩) (.cons ?_ (.cons (h3.mono xx) .nil))⟩
    rw [Nat.zero_add]
    exact .int _
  stop := fun H mu S h _ => ⟨vs, h.1.sq, by rw [enumD_length, h.2.length]; exact Nat.le_refl _⟩

/-! ### for -/
open Classical in
noncomputable def forLoop (w : Option Nat) (all : List D) (t : TDen) (g : SDen) : List D → SDen
  | [] => fun ρ S => some (.nx ρ S)
  | x :: xs => fun ρ S => match t x ρ S with
    | none => none
    | some ρ1 => match g ρ1 S with
      | some (.nx ρ2 S2) => if ckOf w all S2 then forLoop w all t g xs ρ2 S2 else none
      | some (.ct ρ2 S2) => if ckOf w all S2 then forLoop w all t g xs ρ2 S2 else none
      | some (.bk ρ2 S2) => some (.nx ρ2 S2)
      | r => r
noncomputable def sFor (f : Iens) (t : TDen) (g : SDen) : SDen := fun ρ S => match f ρ S with
  | some (.ok items w S1) => forLoop w items t g items ρ S1
  | some (.exc c ns xs S1) => some (.exc c ns xs ρ S1)
  | none => none
theorem ds_for {t : TDen} (hp : PassesOwn (model X.prog X.w) X.A X.env X.xe) (hc : X.calm = true) (hi : DI X W tg iter ga) (hg : DG X tg t) (hb : DSs X W sts g) (hs : ∀ x, foldedSetIterable iter X.env x = pure x := by intro _; rfl) :
    DS X W (.For tg iter sts [] pos) (sFor ga t g) := by
  refine psI (ps_for hp hc hi hg hb hs) fun D0 σ H q => ?_
  obtain ⟨mu, S, ρ, r, s, en, hf, q⟩ := q
  unfold sFor at hf
  cases e1 : ga ρ S with
  | none => rw [e1] at hf; cases hf
  | some r1 =>
    rw [e1] at hf
    refine ⟨mu, S, ρ, r1, s, en, e1, ?_⟩
    cases r1 with
    | exc c ns xs S1 => cases hf; exact q σ H mu (Ext.refl _ _) en
    | ok items w S1 =>
      intro J P H1 m1 wk pp x1 s1
      refine ⟨fun i m σ H => ∃ mu S ρ, StOk X.K X.mg H mu S ∧ EnvOk X.K X.mg H mu σ ρ ∧ P H mu S ∧ i + m = items.length ∧ forLoop w items t g (items.drop i) ρ S = some r ∧ PostS X.K X.mg W D0 H mu r,
        ⟨items.length, m1, S1, ρ, s1, en.mono x1, pp, by omega, by simpa using hf, q.mono x1⟩, ?_⟩
      rintro i m σ2 H2 ⟨m2, S2, ρ2, s2, en2, pp2, hl, hf2, q2⟩
      by_cases hi : i < items.length
      · obtain ⟨d, hd⟩ : ∃ d, items[i]? = some d := ⟨_, List.getElem?_eq_getElem hi⟩
        have hdrop : items.drop i = d :: items.drop (i + 1) := by
          rw [List.drop_eq_getElem_cons hi]
          rw [List.getElem?_eq_getElem hi] at hd
          rw [Option.some.inj hd]
        rw [hdrop] at hf2
        simp only [forLoop] at hf2
        refine .inr ⟨wk.go i H2 m2 S2 pp2 s2 hi, fun σ' H' => ∃ mu S ρ, StOk X.K X.mg H' mu S ∧ EnvOk X.K X.mg H' mu σ' ρ ∧ P H' mu S ∧ (i + 1) + (m - 1) = items.length ∧ forLoop w items t g (items.drop (i + 1)) ρ S = some r ∧ PostS X.K X.mg W D0 H' mu r,
          fun σ' H' z => ⟨m - 1, by omega, z⟩, fun v H3 y => ?_⟩
        obtain ⟨x3, s3, rp3⟩ := wk.yld i H2 m2 v H3 S2 d pp2 s2 y hd
        have en3 := en2.mono x3
        have q3 := q2.mono x3
        have pp3 := wk.mono _ _ _ _ _ _ pp2 x3 (wk.has _ _ _ pp2)
        cases e4 : t d ρ2 S2 with
        | none => rw [e4] at hf2; cases hf2
        | some ρ3 =>
          rw [e4] at hf2
          simp only at hf2
          refine ⟨m2, S2, ρ2, d, ρ3, s3, en3, rp3, e4, fun σ4 en4 => ?_⟩
          cases e5 : g ρ3 S2 with
          | none => rw [e5] at hf2; cases hf2
          | some r5 =>
            rw [e5] at hf2
            refine ⟨m2, S2, ρ3, r5, s3, en4, e5, ?_⟩
            cases r5 with
            | nx ρ5 S5 =>
              simp only at hf2
              split at hf2
              · rename_i hck
                exact fun σ6 H6 m6 x6 s6 en6 => ⟨m6, S5, ρ5, s6, en6, wk.mono _ _ _ _ _ _ pp3 x6 hck, by omega, hf2, q3.mono x6⟩
              · cases hf2
            | ct ρ5 S5 =>
              simp only at hf2
              split at hf2
              · rename_i hck
                exact fun σ6 H6 m6 x6 s6 en6 => ⟨m6, S5, ρ5, s6, en6, wk.mono _ _ _ _ _ _ pp3 x6 hck, by omega, hf2, q3.mono x6⟩
              · cases hf2
            | bk ρ5 S5 => cases hf2; exact q3
            | rt d5 S5 => cases hf2; exact q3
            | exc c ns xs ρ5 S5 => cases hf2; exact q3
      · have he : i = items.length := by omega
        subst he
        rw [List.drop_length] at hf2
        cases hf2
        exact .inl ⟨wk.stop H2 m2 S2 pp2 s2, q2 σ2 H2 m2 (Ext.refl _ _) s2 en2⟩

/-! ### comprehensions -/

mutual
inductive Tg where
  | one (k : Nat)
  | tup (ts : Tgs)
inductive Tgs where
  | nil
  | cons (t : Tg) (ts : Tgs)
end
mutual
def Tg.slots : Tg → List Nat
  | .one k => [k]
  | .tup ts => ts.slots
def Tgs.slots : Tgs → List Nat
  | .nil => []
  | .cons t ts => t.slots ++ ts.slots
end
def Tgs.len : Tgs → Nat
  | .nil => 0
  | .cons _ ts => ts.len + 1
mutual
def Tg.go : Tg → D → EnvD → Option EnvD
  | .one k, d, ρ => some (ρ.set k (some d))
  | .tup ts, d, ρ => match d with
    | .tup xs => ts.go xs ρ
    | _ => none
def Tgs.go : Tgs → List D → EnvD → Option EnvD
  | .nil, xs, ρ => match xs with
    | [] => some ρ
    | _ => none
  | .cons t ts, xs, ρ => match xs with
    | x :: xs => (t.go x ρ).bind fun ρ1 => ts.go xs ρ1
    | [] => none
end
mutual
def Tg.rd (K : PySem.W.Frag) : Tg → TG
  | .one k => gName k
  | .tup ts => gTup K ts.len (ts.rd K)
def Tgs.rd (K : PySem.W.Frag) : Tgs → TGs
  | .nil => gNil
  | .cons t ts => gCons (t.rd K) (ts.rd K)
end
def wipeD (ρ : EnvD) : List Nat → EnvD
  | [] => ρ
  | v :: vs => (wipeD ρ vs).set v none
theorem wipe_ok {K : PySem.W.Frag} {mg : Str → Option Value} {H : Hp} {mu : List Addr} {σ : L2.St} {ρ : EnvD} (h : EnvOk K mg H mu σ ρ) : ∀ own : List Nat, EnvOk K mg H mu (wipe σ own) (wipeD ρ own)
  | [] => h
  | v :: vs => (wipe_ok h vs).forget v none
theorem wipe_set {σ : L2.St} {k : Nat} {x : Option V} : ∀ {own : List Nat}, k ∈ own → wipe (σ.set k x) own = wipe σ own
  | [], h => nomatch h
  | v :: vs, h => by
    unfold wipe
    by_cases hv : k ∈ vs
    · rw [wipe_set hv]
    · have e : k = v := by
        rcases List.mem_cons.mp h with z | z
        · exact z
        · exact absurd z hv
      subst e
      have out : ∀ (ws : List Nat) (τ : L2.St), k ∉ ws → wipe (τ.set k x) ws = (wipe τ ws).set k x := by
        intro ws
        induction ws with
        | nil => intro τ _; rfl
        | cons w ws ih =>
          intro τ hw
          unfold wipe
          rw [ih τ (fun z => hw (List.mem_cons_of_mem _ z))]
          exact List.set_comm _ _ (fun z => hw (by rw [z]; exact List.mem_cons_self))
      rw [out vs σ hv, List.set_set]
theorem wipe_wipe (σ : L2.St) : ∀ own : List Nat, wipe (wipe σ own) own = wipe σ own := by
  have step : ∀ (ws own : List Nat), (∀ k ∈ ws, k ∈ own) → wipe (wipe σ ws) own = wipe σ own := by
    intro ws
    induction ws with
    | nil => intro own _; rfl
    | cons w ws ih =>
      intro own h
      show wipe ((wipe σ ws).set w none) own = _
      rw [wipe_set (h w List.mem_cons_self), ih own fun k hk => h k (List.mem_cons_of_mem _ hk)]
  exact fun own => step own own fun _ h => h
theorem Tgs.go_len : ∀ {ts : Tgs} {xs : List D} {ρ ρ' : EnvD}, ts.go xs ρ = some ρ' → xs.length = ts.len
  | .nil, [], _, _, _ => rfl
  | .nil, _ :: _, _, _, h => by simp [Tgs.go] at h
  | .cons t ts, [], _, _, h => by simp [Tgs.go] at h
  | .cons t ts, x :: xs, ρ, ρ', h => by
    simp only [Tgs.go] at h
    obtain ⟨ρ1, _, h2⟩ := Option.bind_eq_some_iff.mp h
    exact congrArg (· + 1) (Tgs.go_len h2)
mutual
theorem tg_ok {K : PySem.W.Frag} {mg : Str → Option Value} {H : Hp} {mu : List Addr} {own : List Nat} : ∀ (t : Tg) {v : V} {d : D} {σ : L2.St} {ρ ρ' : EnvD} {Q : L2.St → Hp → Prop}, Rep K mg H mu v d → EnvOk K mg H mu σ ρ → t.go d ρ = some ρ' → (∀ k ∈ t.slots, k ∈ own) →
    (∀ σ', EnvOk K mg H mu σ' ρ' → wipe σ' own = wipe σ own → Q σ' H) → t.rd K v σ H Q
  | .one k, v, d, σ, ρ, ρ', Q, r, en, h, hs, q => by
    simp only [Tg.go] at h
    cases h
    exact q _ (en.set r k) (wipe_set (hs k (by simp [Tg.slots])))
  | .tup ts, v, d, σ, ρ, ρ', Q, r, en, h, hs, q => by
    simp only [Tg.go] at h
    split at h
    · rename_i xs
      cases r with
      | tup hq rv => exact ⟨_, _, rfl, hq.sq, rv.length.trans (Tgs.go_len h), tgs_ok ts rv en h (fun k hk => hs k (by simpa [Tg.slots] using hk)) q⟩
    · cases h
theorem tgs_ok {K : PySem.W.Frag} {mg : Str → Option Value} {H : Hp} {mu : List Addr} {own : List Nat} : ∀ (ts : Tgs) {vs : List V} {ds : List D} {σ : L2.St} {ρ ρ' : EnvD} {Q : L2.St → Hp → Prop}, Reps K mg H mu vs ds → EnvOk K mg H mu σ ρ → ts.go ds ρ = some ρ' → (∀ k ∈ ts.slots, k ∈ own) →
    (∀ σ', EnvOk K mg H mu σ' ρ' → wipe σ' own = wipe σ own → Q σ' H) → ts.rd K vs σ H Q
  | .nil, vs, ds, σ, ρ, ρ', Q, r, en, h, hs, q => by
    cases r with
    | nil =>
      simp only [Tgs.go] at h
      cases h
      exact ⟨rfl, q _ en rfl⟩
    | cons r t => simp [Tgs.go] at h
  | .cons t ts, vs, ds, σ, ρ, ρ', Q, r, en, h, hs, q => by
    cases r with
    | nil => simp [Tgs.go] at h
    | @cons v vs d ds r rr =>
      simp only [Tgs.go] at h
      obtain ⟨ρ1, h1, h2⟩ := Option.bind_eq_some_iff.mp h
      refine ⟨v, vs, rfl, tg_ok t r en h1 (fun k hk => hs k (by simp [Tgs.slots, hk])) fun σ1 en1 w1 => ?_⟩
      exact tgs_ok ts rr en1 h2 (fun k hk => hs k (by simp [Tgs.slots, hk])) fun σ2 en2 w2 => q σ2 en2 (w2.trans w1)
end
open Classical in
/-- the block of a comprehension over items: its list stands at place n0 of the store -/
noncomputable def lcLoop (own : List Nat) (t : Tg) (cnd elt : Den) (ρ : EnvD) (n0 : Nat) (w : Option Nat) (all : List D) : List D → Store → Option Store
  | [], T => some T
  | x :: xs, T => match t.go x (wipeD ρ own) with
    | none => none
    | some ρ1 => match cnd ρ1 T with
      | some (.ok (.bl b) T1) => if b then (match elt ρ1 T1 with
        | some (.ok y T2) => (match T2[n0]? with
          | some acc => if acc.length < 16777216 ∧ ckOf w all (T2.set n0 (acc ++ [y])) then lcLoop own t cnd elt ρ n0 w all xs (T2.set n0 (acc ++ [y])) else none
          | none => none)
        | _ => none) else if ckOf w all T1 then lcLoop own t cnd elt ρ n0 w all xs T1 else none
      | _ => none
def dYes : Den := fun _ S => some (.ok (.bl true) S)
open Classical in
/-- a comprehension whose list is frozen -/
noncomputable def dLc (own : List Nat) (f : Iens) (t : Tg) (cnd elt : Den) : Den := fun ρ S => match f ρ S with
  | some (.ok items w S1) => (match lcLoop own t cnd elt ρ S1.length w items items (S1 ++ [[]]) with
    | some T => if T.take S1.length = S1 then (match T[S1.length]? with
      | some acc => (fzs T S1.length acc).map fun ys => .ok (.lst ys) S1
      | none => none) else none
    | none => none)
  | some (.exc c ns xs S1) => some (.exc c ns xs S1)
  | none => none
/-- .. whose list may change later -/
noncomputable def dLcM (own : List Nat) (f : Iens) (t : Tg) (cnd elt : Den) : Den := fun ρ S => match f ρ S with
  | some (.ok items w S1) => (lcLoop own t cnd elt ρ S1.length w items items (S1 ++ [[]])).map fun T => .ok (.ref S1.length) T
  | some (.exc c ns xs S1) => some (.exc c ns xs S1)
  | none => none
/-- the state behind i items -/
def LcAt (X : Cx) (P : Hp → List Addr → Store → Prop) (w : Option Nat) (items : List D) (own : List Nat) (t : Tg) (cnd elt : Den) (σ : L2.St) (ρ : EnvD) (n0 : Nat) (D0 : Addr) (H0 : Hp) (m0 : List Addr) (Te : Store) (i m : Nat) (H : Hp) : Prop :=
  ∃ mu T, StOk X.K X.mg H mu T ∧ Ext H0 m0 H mu ∧ EnvOk X.K X.mg H mu σ ρ ∧ P H mu T ∧ mu[n0]? = some D0 ∧ i + m = items.length ∧ lcLoop own t cnd elt ρ n0 w items (items.drop i) T = some Te
theorem lc_turns {J : It} {P : Hp → List Addr → Store → Prop} {items : List D} {own : List Nat} {t : Tg} {cnd elt : Den} {σ : L2.St} {ρ : EnvD} {n0 : Nat} {D0 : Addr} {H0 : Hp} {m0 : List Addr} {Te : Store} {Q : Hp → Prop} {W' : WX} (wk : Walks X.K X.mg J P (ckOf w items) items) (ht : ∀ k ∈ t.slots, k ∈ own) (hW : ∀ c d σ H, ¬ W' c d σ H)
    (hQ : ∀ H mu, StOk X.K X.mg H mu Te → Ext H0 m0 H mu → mu[n0]? = some D0 → Q H) (i m : Nat) (H : Hp) (h : LcAt X P w items own t cnd elt σ ρ n0 D0 H0 m0 Te i m H) :
    (J.stop i H ∧ Q H) ∨ (J.go i H ∧ ∃ Nx : Hp → Prop, (∀ H', Nx H' → ∃ m', m' < m ∧ LcAt X P w items own t cnd elt σ ρ n0 D0 H0 m0 Te (i + 1) m' H') ∧ ∀ x H', J.yld i H x H' → Tg.rd X.K t x (wipe σ own) H' fun σ2 H2 => wipe σ2 own = wipe σ own ∧ rdt X.K X.mg W' cnd σ2 H2 fun b H3 =>
      if b = true then rd X.K X.mg W' elt σ2 H3 fun y H4 => ∃ acc, H4 D0 = some (.lst acc) ∧ acc.length < sizeLine ∧ Nx (upd H4 D0 (.lst (acc ++ [y]))) else Nx H3) := by
  obtain ⟨m2, T2, s2, x02, en2, pp2, hD, hl, hf2⟩ := h
  by_cases hi : i < items.length
  · obtain ⟨d, hd⟩ : ∃ d, items[i]? = some d := ⟨_, List.getElem?_eq_getElem hi⟩
    have hdrop : items.drop i = d :: items.drop (i + 1) := by
      rw [List.drop_eq_getElem_cons hi]
      rw [List.getElem?_eq_getElem hi] at hd
      rw [Option.some.inj hd]
    rw [hdrop] at hf2
    simp only [lcLoop] at hf2
    refine .inr ⟨wk.go i H m2 T2 pp2 s2 hi, fun H' => LcAt X P w items own t cnd elt σ ρ n0 D0 H0 m0 Te (i + 1) (m - 1) H', fun H' z => ⟨m - 1, by omega, z⟩, fun v H3 y => ?_⟩
    obtain ⟨x3, s3, rp3⟩ := wk.yld i H m2 v H3 T2 d pp2 s2 y hd
    have en3 := wipe_ok (en2.mono x3) own
    have pp3 := wk.mono _ _ _ _ _ _ pp2 x3 (wk.has _ _ _ pp2)
    cases e4 : t.go d (wipeD ρ own) with
    | none => rw [e4] at hf2; cases hf2
    | some ρ3 =>
      rw [e4] at hf2
      simp only at hf2
      -- behind the target's store
      have body : ∀ σ2, EnvOk X.K X.mg H3 m2 σ2 ρ3 → wipe σ2 own = wipe σ own → (wipe σ2 own = wipe σ own ∧ rdt X.K X.mg W' cnd σ2 H3 fun b H3 =>
          if b = true then rd X.K X.mg W' elt σ2 H3 fun y H4 => ∃ acc, H4 D0 = some (.lst acc) ∧ acc.length < sizeLine ∧ LcAt X P w items own t cnd elt σ ρ n0 D0 H0 m0 Te (i + 1) (m - 1) (upd H4 D0 (.lst (acc ++ [y]))) else LcAt X P w items own t cnd elt σ ρ n0 D0 H0 m0 Te (i + 1) (m - 1) H3) := fun σ2 en4 hw => by
        refine ⟨hw, ?_⟩
        split at hf2
        · rename_i b T3 e5
          refine ⟨m2, T2, ρ3, _, s3, en4, e5, fun H5 m5 x5 s5 => ?_⟩
          have x35 := x3.trans x5
          cases b with
          | false =>
            refine iteF ?_
            simp only [Bool.false_eq_true, if_false] at hf2
            split at hf2
            · rename_i hck
              exact ⟨m5, T3, s5, x02.trans x35, en2.mono x35, wk.mono _ _ _ _ _ _ pp3 x5 hck, prefix_get x5.pre hD, by omega, hf2⟩
            · cases hf2
          | true =>
            refine iteT ?_
            simp only [if_true] at hf2
            split at hf2
            · rename_i y T4 e6
              split at hf2
              · rename_i acc e7
                split at hf2
                · rename_i hz
                  refine ⟨m5, T3, ρ3, _, s5, en4.mono x5, e6, fun w H6 m6 x6 s6 rp6 => ?_⟩
                  have hD6 := prefix_get x6.pre (prefix_get x5.pre hD)
                  obtain ⟨ws, hw6, hr6⟩ := s6.at_ n0 D0 acc hD6 e7
                  refine ⟨ws, hw6, by rw [hr6.length, line_eq]; exact hz.1, ?_⟩
                  have hm := List.mem_of_getElem? hD6
                  have xc := Ext.chg (H := H6) (o := .lst (ws ++ [w])) hm
                  have xa := (x35.trans x6).trans xc
                  exact ⟨m6, _, s6.chg hD6 (hr6.append (.single rp6)), x02.trans xa, en2.mono xa, wk.mono _ _ _ _ _ _ pp2 xa hz.2, hD6, by omega, hf2⟩
                · cases hf2
              · cases hf2
            · cases hf2
        · cases hf2
      exact tg_ok t rp3 en3 e4 ht fun σ2 en4 hw => body σ2 en4 (hw.trans (wipe_wipe σ own))
  · have he : i = items.length := by omega
    subst he
    rw [List.drop_length] at hf2
    cases hf2
    exact .inl ⟨wk.stop H m2 _ pp2 s2, hQ H m2 s2 x02 hD⟩

/-! ### enumerate over a list -/
def dEnum (f : Den) : Iens := fun ρ S => bndi (f ρ S) fun d S1 => match d with
  | .lst xs => some (.ok (enumD 0 xs) none S1)
  | .scr ns => some (.ok (enumD 0 (ns.map .int)) none S1)
  | _ => none
theorem di_enum {elts : List Expr} {kk : Nat} {tpos : Pos} (hm : X.mg "enumerate" = none) (ha : DE X W a fa) (hg : Gl X "enumerate" := by rfl) (hs : starEach [a] X.env = [(false, eval a X.env)] := by rfl) :
    DI X W (.Tuple elts kk tpos) (.Call (.Name "enumerate" p) [a] [] pos) (dEnum fa) := by
  refine piI (pi_enum hg hm (pa_cons ha pa_nil hs) hs) fun σ H R h => ?_
  obtain ⟨mu, S, ρ, r, s, en, hf, q⟩ := rdI_of h
  refine rd_bndI s en hf q fun d S1 v H1 m1 x s1 en1 rp h1 q1 => ?_
  cases rp with
  | lst hq hn rv =>
    cases h1
    exact ⟨_, _, rfl, .inl (.inl hq), q1 _ _ H1 m1 walks_enum ⟨.inl ⟨.inl hq, hn⟩, rv⟩ (Ext.refl _ _) s1⟩
  | scr hq =>
    cases h1
    exact ⟨_, _, rfl, hq.sq, q1 _ _ H1 m1 walks_enum ⟨hq, Reps.ints _⟩ (Ext.refl _ _) s1⟩
  | _ => cases h1
end
end PD
set_option Elab.async false
set_option linter.all false
set_option maxRecDepth 100000
set_option maxHeartbeats 4000000
namespace PD
open PySem PySem.Spec PyProof.Rows L2
/-! ### an own error that has an own __init__ is made: as a value that stays, as what raise flies -/
section
variable {X : Cx} {x : Str} {C fI : Addr} {k : Nat} {fd : FuncData} {ps : List Str} {sp : Sp} {ds : List Value} {dvs : List V} {e : Expr} {es : List Expr} {ta : TA} {p pos : Pos} {CX : CXT}
theorem passLN {P : Program} {w : World} {X : Cx} : Passes (L2N.CX P w) X (fun _ _ _ => False) := fun _ _ _ _ _ _ _ ⟨_, _, _, _, _, _, _, _, _, _, _, _, z⟩ => z.elim
/-- the class is called: what is there then -/
def Made (X : Cx) (pins : List (Addr × Obj)) (σ : L2.St) (H1 : Hp) (s1 : Shared) (C : Addr) (R : Addr → Hp → Prop) (u : Value) (z : Shared) : Prop :=
  ∃ (a : Addr) (h2 : Heap) (H2 : Hp), u = .ref a ∧ s1.heap.objs.size ≤ a ∧ (∀ b o, s1.heap.get? b = some o → h2.get? b = some o) ∧ Inv X pins σ (upd H1 a (exo a C none)) { s1 with heap := h2 } ∧ z.os = s1.os ∧ AllBare z.gens ∧
    Un (frs X.stack) [] (upd H1 a (exo a C none)) H2 h2 z.heap ∧ HOk X.prog X.w H2 z.heap ∧ R a H2
theorem oex_made (T : OexC X.K C) (iC : PySem.W.findIn X.K (.ref C) "__init__" = some (some (.ref fI))) (tI : PySem.W.typeIn X.K (.ref fI) = some (.type "function"))
    (F1 : FnOk X.prog X.w X.K X.mg X.base CX k fI fd ps sp) (hr : Room (k + 1) X.A) (hb : Binds X.K fd ps ds) (hd : Vals dvs ds) (hx : Passes CX X (fun _ _ _ => False)) {pins : List (Addr × Obj)} {σ : L2.St} {H1 : Hp} {s1 : Shared} {us : List Value} {vs : List V} {R : Addr → Hp → Prop}
    (J : Inv X pins σ H1 s1) (rv : Vals vs us) (hz : vs.length ≤ 1000) (hq : ∀ a, H1 a = none → sp (.ref a :: (vs ++ dvs)) (upd H1 a (exo a C none)) (fun v H2 => v = .non ∧ R a H2) fun _ _ _ => False) :
    wpAny (model X.prog X.w) X.A (call (.ref C) us) (Made X pins σ H1 s1 C R) X.xe s1 := by
  obtain ⟨q1, q2, q3, q4, bm, q6, q7, q8, q9, q10, q11, q12, q13, q14, q15, hC, hbm⟩ := T.cls
  obtain ⟨hp, gn, dr, tk, os⟩ := s1
  have lo : hp.objs.size ≤ hp.objs.size + 1 := by omega
  have q := hq (hp.objs.size + 1) (J.hok.fresh lo)
  generalize eh : (hp.push (PySem.W.kdv_tup us)).push (PySem.HandSPX.excO C hp.objs.size) = h2
  have grow : ∀ b o, hp.get? b = some o → h2.get? b = some o := fun b o z => by
    rw [← eh]; exact Heap.get?_push_of_some _ (Heap.get?_push_of_some _ z)
  have here : h2.get? (hp.objs.size + 1) = some (PySem.HandSPX.excO C hp.objs.size) := by
    rw [← eh]; heap_get
  have J2 : Inv X pins σ (upd H1 (hp.objs.size + 1) (exo (hp.objs.size + 1) C none)) ⟨h2, gn, dr, tk, os⟩ := J.laid (t' := tk) grow lo (exo_ok here)
  have all : Vals (V.ref (hp.objs.size + 1) :: (vs ++ dvs)) (Value.ref (hp.objs.size + 1) :: (us ++ ds)) := .cons rfl (rv.append hd)
  have cnt : (Value.ref (hp.objs.size + 1) :: us ++ ds).length = ps.length := all.length.symm.trans (F1.len _ _ _ _ q)
  have few : us.length ≤ sizeLine := by
    have := Paired.length rv
    rw [sizeLine_eq]; omega
  refine wpAny_call (PySem.HandSPX.call_own F.excBase_ValueError (fun Y => PySem.HandSPX.refsVE_contains Y bm hbm) (J.kIn _ _ hC) (PySem.W.looks_findIn J.kIn iC) (fun self => PySem.W.bind_fn J.kIn self tI) few ?_)
  rw [eh]
  refine codeAny_mono (F1.run _ X.stack _ _ ⟨Value.ref (hp.objs.size + 1) :: us, []⟩ _ _ _ _ (hr.make C us []) (J2.env0.make C us []) (hb _ (Value.ref (hp.objs.size + 1) :: us) J2.kIn cnt) all q) fun r z hc => ?_
  match r, hc with
  | .error er, hc => exact hx pins σ _ _ er z J2 hc
  | .ok (.ret u), ⟨v, H2, o2, b2, un, ok2, ru, ev, qR⟩ => subst ev; exact ⟨ru, hp.objs.size + 1, h2, H2, rfl, lo, grow, J2, o2, b2, un, ok2, qR⟩
  | .ok .next, hc => exact hc.elim
  | .ok .brk, hc => exact hc.elim
  | .ok .cont, hc => exact hc.elim
/-- as a value -/
def tMkV (C : Addr) (sp : Sp) (dvs : List V) (ta : TA) : TE := fun σ H Q => ta σ H fun vs H1 => vs.length ≤ 1000 ∧ ∀ a, H1 a = none → sp (.ref a :: (vs ++ dvs)) (upd H1 a (exo a C none)) (fun v H2 => v = .non ∧ Q (.ref a) H2) fun _ _ _ => False
theorem pe_oexV (T : OexC X.K C) (iC : PySem.W.findIn X.K (.ref C) "__init__" = some (some (.ref fI))) (tI : PySem.W.typeIn X.K (.ref fI) = some (.type "function"))
    (F1 : FnOk X.prog X.w X.K X.mg X.base CX k fI fd ps sp) (hr : Room (k + 1) X.A) (hb : Binds X.K fd ps ds) (hd : Vals dvs ds) (hx : Passes CX X (fun _ _ _ => False)) (hg : Gl X x) (hm : X.mg x = some (.ref C)) (ha : PA X (e :: es) ta)
    (hdb : (x == ("__debug__" : Str)) = false := by decide) (he : starEach (e :: es) X.env = (false, eval e X.env) :: starEach es X.env := by rfl) (hpl : (backTo pos (starEach es X.env)).any (·.1) = false := by rfl) :
    PE X (.Call (.Name x p) (e :: es) [] pos) (tMkV C sp dvs ta) := by
  refine ⟨fun pins s σ H Q J h => wpAny_Call_Name_kw (ld_glob J hg hm (PySem.W.callWith_K (h₀ := X.base) J.ok.mod.kin T.kC (thn (ha.run pos pins s σ H _ J h) fun us s1 ⟨vs, H1, J1, r1, hz, q1⟩ => ⟨J1.kIn, ?_⟩) he hpl) hdb)⟩
  refine wpAny_mono (oex_made T iC tI F1 hr hb hd hx J1 r1 hz q1) (fun u z ⟨a, h2, H2, eu, _, _, J2, o2, b2, un, ok2, q⟩ => ?_) fun _ _ z => z
  subst eu
  exact ⟨.ref a, H2, J2.call' o2 un ok2 b2 (fun b hb => absurd hb List.not_mem_nil), rfl, q⟩
/-- to be flown -/
def tMkF (C : Addr) (sp : Sp) (dvs : List V) (ta : TA) : L2.St → Hp → XK → Prop := fun σ H Q => ta σ H fun vs H1 => vs.length ≤ 1000 ∧ ∀ a, H1 a = none → sp (.ref a :: (vs ++ dvs)) (upd H1 a (exo a C none))
  (fun v H2 => v = .non ∧ ∃ (d : Addr) (fs : List (Str × V)), H2 a = some (exo a C (some d)) ∧ H2 d = some (exd d fs) ∧ H1 d = none ∧ Q (.ref C) (some d) (upd (del H2 a) d (.xd fs))) fun _ _ _ => False
theorem pmk_oexF (T : OexC X.K C) (iC : PySem.W.findIn X.K (.ref C) "__init__" = some (some (.ref fI))) (tI : PySem.W.typeIn X.K (.ref fI) = some (.type "function"))
    (F1 : FnOk X.prog X.w X.K X.mg X.base CX k fI fd ps sp) (hr : Room (k + 1) X.A) (hb : Binds X.K fd ps ds) (hd : Vals dvs ds) (hx : Passes CX X (fun _ _ _ => False)) (hg : Gl X x) (hm : X.mg x = some (.ref C)) (ha : PA X (e :: es) ta)
    (hdb : (x == ("__debug__" : Str)) = false := by decide) (he : starEach (e :: es) X.env = (false, eval e X.env) :: starEach es X.env := by rfl) (hpl : (backTo pos (starEach es X.env)).any (·.1) = false := by rfl) :
    L2N.PMk X (.Call (.Name x p) (e :: es) [] pos) (tMkF C sp dvs ta) := by
  intro pins s σ H Q J h
  refine wpAny_Call_Name_kw (ld_glob J hg hm (PySem.W.callWith_K (h₀ := X.base) J.ok.mod.kin T.kC (thn (ha.run pos pins s σ H _ J h) fun us s1 ⟨vs, H1, J1, r1, hz, q1⟩ => ⟨J1.kIn, ?_⟩) he hpl) hdb)
  refine wpAny_mono (oex_made T iC tI F1 hr hb hd hx J1 r1 hz q1) (fun u z ⟨a, h2, H2, eu, lo, grow, _, o2, b2, un, ok2, d, fs, ea, ed, nd, q⟩ => ?_) fun _ _ z => z
  subst eu
  obtain ⟨hz, gz, dz, tz, oz⟩ := z
  obtain ⟨hp, gn, dr, tk, os⟩ := s1
  obtain ⟨t0, G, J3, up, gone, obj, free⟩ := mk_end0 (d2 := dz) (t2 := tz) J1 lo grow un ok2 o2 b2 ea ed nd
  exact ⟨a, _, _, ⟨G, gz, dz, tz, oz⟩, _, .ref C, some d, rfl, J3, up, gone, obj, ⟨rfl, rfl, fun vs ev => by cases ev; rfl⟩, rfl, rfl, free, rfl, b2, raises_own T.exC T.tyC, q⟩
end
end PD
set_option Elab.async false
set_option linter.all false
set_option maxRecDepth 100000
set_option maxHeartbeats 4000000
namespace PD
open PySem PySem.Spec PyProof.Rows L2
abbrev W0 : WX := fun _ _ _ _ => False
section
variable {X : Cx} {W : WX} {a b c e o i tg iter elt tg1 iter1 : Expr} {es ifs ifs1 : List Expr} {fa fb fc : Den} {ga gb : Dens} {gi : Iens} {w : Option Nat} {pos p p1 p2 : Pos} {st : Stmt} {sts rest : List Stmt} {g h : SDen} {scope : Scope} {own : List (Str × Nat)} {t t1 : Tg} {cnd cnd1 felt : Den}

def DTs (X : Cx) (W : WX) (ifs : List Expr) (f : Den) : Prop := PTs X ifs (rdt X.K X.mg W f)
theorem dts_nil : DTs X W [] dYes := by
  refine ⟨fun pins s σ H Q I h => pts_nil.run pins s σ H Q I ?_⟩
  obtain ⟨mu, S, ρ, r, s, en, hf, q⟩ := h
  cases hf
  exact q H mu (Ext.refl _ _) s
theorem dts_one (h : DT X W c fc) : DTs X W [c] fc := pts_one h

theorem ck_grow {items : List D} {S : Store} {y : List D} (h : ckOf w items S) : ckOf w items (S ++ [y]) := by
  cases w with
  | none => trivial
  | some n =>
    have h1 : S[n]? = some items := h
    show (S ++ [y])[n]? = some items
    rw [List.getElem?_append_left (List.getElem?_eq_some_iff.mp h1).1]
    exact h1
/-- what the loop of a comprehension needs of its start and gives at its end -/
theorem lc_start {J : It} {P : Hp → List Addr → Store → Prop} {items : List D} {σ : L2.St} {ρ : EnvD} {H : Hp} {mu : List Addr} {S : Store} {Te : Store} {ow : List Nat} {Q : V → Hp → Prop} (wk : Walks X.K X.mg J P (ckOf w items) items) (ht : ∀ k ∈ t.slots, k ∈ ow) (pp : P H mu S) (s : StOk X.K X.mg H mu S) (en : EnvOk X.K X.mg H mu σ ρ)
    (hf : lcLoop ow t cnd felt ρ S.length w items items (S ++ [[]]) = some Te) (D0 : Addr) (hD : H D0 = none)
    (hQ : ∀ H' mu' , StOk X.K X.mg H' mu' Te → Ext H mu H' mu' → mu'[S.length]? = some D0 → Q (.ref D0) H') :
    ∃ Wv : Nat → Nat → Hp → Prop, (∃ m, Wv 0 m (upd H D0 (.lst []))) ∧ ∀ i m H, Wv i m H → (J.stop i H ∧ Q (.ref D0) H) ∨ (J.go i H ∧ ∃ Nx : Hp → Prop, (∀ H', Nx H' → ∃ m', m' < m ∧ Wv (i + 1) m' H') ∧ ∀ x H', J.yld i H x H' → Tg.rd X.K t x (wipe σ ow) H' fun σ2 H2 => wipe σ2 ow = wipe σ ow ∧ rdt X.K X.mg W0 cnd σ2 H2 fun b H3 =>
      if b = true then rd X.K X.mg W0 felt σ2 H3 fun y H4 => ∃ acc, H4 D0 = some (.lst acc) ∧ acc.length < sizeLine ∧ Nx (upd H4 D0 (.lst (acc ++ [y]))) else Nx H3) := by
  have x0 : Ext H mu (upd H D0 (.lst [])) (mu ++ [D0]) := Ext.grow s hD
  refine ⟨LcAt X P w items ow t cnd felt σ ρ S.length D0 (upd H D0 (.lst [])) (mu ++ [D0]) Te, ⟨items.length, mu ++ [D0], S ++ [[]], s.grow hD .nil, Ext.refl _ _, en.mono x0, wk.mono _ _ _ _ _ _ pp x0 (ck_grow (wk.has _ _ _ pp)), ?_, by omega, by simpa using hf⟩, ?_⟩
  · rw [← s.len, List.getElem?_append_right (Nat.le_refl _)]
    simp
  · exact fun i m H' h' => lc_turns (W' := W0) wk ht (fun _ _ _ _ z => z) (fun H2 mu2 s2 x2 hd => hQ H2 mu2 s2 (x0.trans x2) hd) i m H' h'
/-- the list is frozen -/
theorem lc_frozen {H H' : Hp} {mu mu' : List Addr} {S Te : Store} {D0 : Addr} {acc ys : List D} {σ : L2.St} {Q : VK} (s : StOk X.K X.mg H mu S) (s' : StOk X.K X.mg H' mu' Te) (x : Ext H mu H' mu') (hD : mu'[S.length]? = some D0) (hT : Te.take S.length = S) (ha : Te[S.length]? = some acc) (hy : fzs Te S.length acc = some ys)
    (q : Post X.K X.mg W σ H mu Q (.ok (.lst ys) S)) : Q (.ref D0) H' := by
  obtain ⟨vs, hv, hr⟩ := s'.at_ _ D0 acc hD ha
  have x1 := ext_less x
  refine q (.ref D0) H' mu x1 (st_less s s' x hT) (.lst hv (fun z => ?_) ?_)
  · obtain ⟨n, hn⟩ := List.getElem?_of_mem z
    have h1 := prefix_get x.pre hn
    have e := (List.getElem?_inj (List.getElem?_eq_some_iff.mp h1).1 s'.nd).mp (h1.trans hD.symm)
    have := (List.getElem?_eq_some_iff.mp hn).1
    rw [s.len] at this
    omega
  · refine reps_map x.pre (fzg_ok s' x.pre 3) hr ?_
    rw [s.len]
    exact hy
theorem lc_read {wi : TI} {σ : L2.St} {H : Hp} {Q : VK} (ht : ∀ k ∈ t.slots, k ∈ own.map (·.2)) (h : rd X.K X.mg W (dLc (own.map (·.2)) gi t cnd felt) σ H Q) : tLc (rdI X.K X.mg W gi) (Tg.rd X.K t) (rdt X.K X.mg W0 cnd) (rd X.K X.mg W0 felt) (own.map (·.2)) σ H Q := by
  obtain ⟨mu, S, ρ, r, s, en, hf, q⟩ := h
  unfold dLc at hf
  cases e1 : gi ρ S with
  | none => rw [e1] at hf; cases hf
  | some r1 =>
    rw [e1] at hf
    refine ⟨mu, S, ρ, r1, s, en, e1, ?_⟩
    cases r1 with
    | exc c ns xs S1 => cases hf; exact q
    | ok items w S1 =>
      simp only at hf
      intro J P H1 m1 wk pp x1 s1 D0 hD
      split at hf
      · rename_i Te e2
        split at hf
        · rename_i hT
          split at hf
          · rename_i acc e3
            obtain ⟨ys, h4, rfl⟩ := Option.map_eq_some_iff.mp hf
            exact lc_start wk ht pp s1 (en.mono x1) e2 D0 hD fun H2 m2 s2 x2 hd => lc_frozen s1 s2 x2 hd hT e3 h4 (q.mono x1)
          · cases hf
        · cases hf
      · cases hf
theorem lcM_read {σ : L2.St} {H : Hp} {Q : VK} (ht : ∀ k ∈ t.slots, k ∈ own.map (·.2)) (h : rd X.K X.mg W (dLcM (own.map (·.2)) gi t cnd felt) σ H Q) : tLc (rdI X.K X.mg W gi) (Tg.rd X.K t) (rdt X.K X.mg W0 cnd) (rd X.K X.mg W0 felt) (own.map (·.2)) σ H Q := by
  obtain ⟨mu, S, ρ, r, s, en, hf, q⟩ := h
  unfold dLcM at hf
  cases e1 : gi ρ S with
  | none => rw [e1] at hf; cases hf
  | some r1 =>
    rw [e1] at hf
    refine ⟨mu, S, ρ, r1, s, en, e1, ?_⟩
    cases r1 with
    | exc c ns xs S1 => cases hf; exact q
    | ok items w S1 =>
      simp only at hf
      intro J P H1 m1 wk pp x1 s1 D0 hD
      obtain ⟨Te, e2, rfl⟩ := Option.map_eq_some_iff.mp hf
      exact lc_start wk ht pp s1 (en.mono x1) e2 D0 hD fun H2 m2 s2 x2 hd => (Post.mono x1 q) (.ref D0) H2 m2 x2 s2 (.ref hd)
theorem de_lc (own : List (Str × Nat)) (t : Tg) (hc : X.calm = true) (hN : X.N.Nodup) (ht : ∀ k ∈ t.slots, k ∈ own.map (·.2)) (ok : BlkOk X.N X.env.scope scope own) (hi : DI X W tg iter gi)
    (hg : ∀ (s : Shared) (H : Hp) (C : Addr) (cl : List (Str × Addr)) (fp : List Addr), PG (X.blk s H scope (compEnvC scope cl C X.env) fp) tg (Tg.rd X.K t)) (hif : ∀ (s : Shared) (H : Hp) (C : Addr) (cl : List (Str × Addr)) (fp : List Addr), DTs (X.blk s H scope (compEnvC scope cl C X.env) fp) W0 ifs cnd)
    (he : ∀ (s : Shared) (H : Hp) (C : Addr) (cl : List (Str × Addr)) (fp : List Addr), DE (X.blk s H scope (compEnvC scope cl C X.env) fp) W0 elt felt) (hs : ∀ x, foldedSetIterable iter X.env x = pure x := by intro _; rfl) :
    DE X W (.ListComp elt [⟨tg, iter, ifs, 0⟩] scope pos) (dLc (own.map (·.2)) gi t cnd felt) := peI (pe_lc (tt := rdt X.K X.mg W0 cnd) (te := rd X.K X.mg W0 felt) hc hN hi ok hg hif he hs) fun σ H Q h => lc_read (wi := rdI X.K X.mg W gi) ht h
theorem de_lcM (own : List (Str × Nat)) (t : Tg) (hc : X.calm = true) (hN : X.N.Nodup) (ht : ∀ k ∈ t.slots, k ∈ own.map (·.2)) (ok : BlkOk X.N X.env.scope scope own) (hi : DI X W tg iter gi)
    (hg : ∀ (s : Shared) (H : Hp) (C : Addr) (cl : List (Str × Addr)) (fp : List Addr), PG (X.blk s H scope (compEnvC scope cl C X.env) fp) tg (Tg.rd X.K t)) (hif : ∀ (s : Shared) (H : Hp) (C : Addr) (cl : List (Str × Addr)) (fp : List Addr), DTs (X.blk s H scope (compEnvC scope cl C X.env) fp) W0 ifs cnd)
    (he : ∀ (s : Shared) (H : Hp) (C : Addr) (cl : List (Str × Addr)) (fp : List Addr), DE (X.blk s H scope (compEnvC scope cl C X.env) fp) W0 elt felt) (hs : ∀ x, foldedSetIterable iter X.env x = pure x := by intro _; rfl) :
    DE X W (.ListComp elt [⟨tg, iter, ifs, 0⟩] scope pos) (dLcM (own.map (·.2)) gi t cnd felt) := peI (pe_lc (tt := rdt X.K X.mg W0 cnd) (te := rd X.K X.mg W0 felt) hc hN hi ok hg hif he hs) fun σ H Q h => lcM_read ht h
/-- y = [..] on one line -/
theorem ds_setLc (k : Nat) (own : List (Str × Nat)) (t : Tg) {y : Str} {py spos : Pos} (hc : X.calm = true) (hN : X.N.Nodup) (ht : ∀ k ∈ t.slots, k ∈ own.map (·.2)) (ok : BlkOk X.N X.env.scope scope own) (hi : DI X W tg iter gi)
    (hg : ∀ (s : Shared) (H : Hp) (C : Addr) (cl : List (Str × Addr)) (fp : List Addr), PG (X.blk s H scope (compEnvC scope cl C X.env) fp) tg (Tg.rd X.K t)) (hif : ∀ (s : Shared) (H : Hp) (C : Addr) (cl : List (Str × Addr)) (fp : List Addr), DTs (X.blk s H scope (compEnvC scope cl C X.env) fp) W0 ifs cnd)
    (he : ∀ (s : Shared) (H : Hp) (C : Addr) (cl : List (Str × Addr)) (fp : List Addr), DE (X.blk s H scope (compEnvC scope cl C X.env) fp) W0 elt felt)
    (hsw : swapsWith (.ListComp elt [⟨tg, iter, ifs, 0⟩] scope pos) (some (.Name y py)) spos.line X.env = pure true) (hy : X.N[k]? = some y := by rfl) (hyl : X.env.scope.names.lookup y = some .local := by rfl) (hs : ∀ x, foldedSetIterable iter X.env x = pure x := by intro _; rfl) :
    DS X W (.Assign [.Name y py] (.ListComp elt [⟨tg, iter, ifs, 0⟩] scope pos) spos) (sSet k (dLc (own.map (·.2)) gi t cnd felt)) :=
  psI (ps_setLc (tt := rdt X.K X.mg W0 cnd) (te := rd X.K X.mg W0 felt) hc hN hy hyl hsw hi ok hg hif he hs) fun D σ H q => by
    obtain ⟨mu, S, ρ, r, s, en, hf, q⟩ := q
    have h2 : rd X.K X.mg W (dLc (own.map (·.2)) gi t cnd felt) σ H (fun x H1 => gName k x σ H1 D.nx) := rd_bndS s en hf q fun d S1 v H1 m1 x s1 en1 rp h1 q1 => by
      cases h1
      exact q1 _ H1 m1 (Ext.refl _ _) s1 (en1.set rp k)
    exact lc_read (wi := rdI X.K X.mg W gi) ht h2
theorem ds_setLcM (k : Nat) (own : List (Str × Nat)) (t : Tg) {y : Str} {py spos : Pos} (hc : X.calm = true) (hN : X.N.Nodup) (ht : ∀ k ∈ t.slots, k ∈ own.map (·.2)) (ok : BlkOk X.N X.env.scope scope own) (hi : DI X W tg iter gi)
    (hg : ∀ (s : Shared) (H : Hp) (C : Addr) (cl : List (Str × Addr)) (fp : List Addr), PG (X.blk s H scope (compEnvC scope cl C X.env) fp) tg (Tg.rd X.K t)) (hif : ∀ (s : Shared) (H : Hp) (C : Addr) (cl : List (Str × Addr)) (fp : List Addr), DTs (X.blk s H scope (compEnvC scope cl C X.env) fp) W0 ifs cnd)
    (he : ∀ (s : Shared) (H : Hp) (C : Addr) (cl : List (Str × Addr)) (fp : List Addr), DE (X.blk s H scope (compEnvC scope cl C X.env) fp) W0 elt felt)
    (hsw : swapsWith (.ListComp elt [⟨tg, iter, ifs, 0⟩] scope pos) (some (.Name y py)) spos.line X.env = pure true) (hy : X.N[k]? = some y := by rfl) (hyl : X.env.scope.names.lookup y = some .local := by rfl) (hs : ∀ x, foldedSetIterable iter X.env x = pure x := by intro _; rfl) :
    DS X W (.Assign [.Name y py] (.ListComp elt [⟨tg, iter, ifs, 0⟩] scope pos) spos) (sSet k (dLcM (own.map (·.2)) gi t cnd felt)) :=
  psI (ps_setLc (tt := rdt X.K X.mg W0 cnd) (te := rd X.K X.mg W0 felt) hc hN hy hyl hsw hi ok hg hif he hs) fun D σ H q => by
    obtain ⟨mu, S, ρ, r, s, en, hf, q⟩ := q
    have h2 : rd X.K X.mg W (dLcM (own.map (·.2)) gi t cnd felt) σ H (fun x H1 => gName k x σ H1 D.nx) := rd_bndS s en hf q fun d S1 v H1 m1 x s1 en1 rp h1 q1 => by
      cases h1
      exact q1 _ H1 m1 (Ext.refl _ _) s1 (en1.set rp k)
    exact lcM_read ht h2

/-! ### raise -/
/-- what the written part says of the own exception class named c, whose __init__ stores its parameters under the names ns -/
structure ExcCls (K : PySem.W.Frag) (mg : Str → Option Value) (c : Str) (C : Addr) : Prop where
  gl : mg c = some (.ref C)
  ox : OexC K C
/-- __init__ of one or two fields, as a promise -/
def spInit1 (K : PySem.W.Frag) (f1 : Str) : Sp := fun vs H Q _ => ∃ (a C : Addr) (y : V), vs = [.ref a, y] ∧ OexC K C ∧ PySem.W.findIn K (.ref C) f1 = some none ∧ H a = some (exo a C none) ∧ ∀ dx, H dx = none → dx ≠ a → Q .non (upd (upd H dx (exd dx [(f1, y)])) a (exo a C (some dx)))
def spInit2 (K : PySem.W.Frag) (f1 f2 : Str) : Sp := fun vs H Q _ => ∃ (a C : Addr) (y z : V), vs = [.ref a, y, z] ∧ OexC K C ∧ PySem.W.findIn K (.ref C) f1 = some none ∧ PySem.W.findIn K (.ref C) f2 = some none ∧ H a = some (exo a C none) ∧
  ∀ dx, H dx = none → dx ≠ a → Q .non (upd (upd (upd H dx (exd dx [(f1, y)])) a (exo a C (some dx))) dx (exd dx [(f2, z), (f1, y)]))
theorem init1_ok {P : Program} {w : World} {K : PySem.W.Frag} {mg : Str → Option Value} {base : Heap} {x qual : Str} {params : Arguments} {scope : Scope} {dvs : List V} {kws : List (Str × V)} {f : Addr} {fd : FuncData} {f1 p1 self : Str} {q1 q2 q3 q4 : Pos}
    (F : FunD K x qual params [.Assign [.Attribute (.Name self q1) f1 q2] (.Name p1 q3) q4] scope dvs kws f fd) (Sc : FnScope [self, p1] [self, p1] scope)
    (h1 : Vis scope self) (h2 : Vis scope p1) (hd1 : (self == ("__debug__" : Str)) = false := by decide) (hd2 : (p1 == ("__debug__" : Str)) = false := by decide) (hc1 : (self == ("__classdict__" : Str)) = false := by decide) (hc2 : (p1 == ("__classdict__" : Str)) = false := by decide)
    (hsw : ∀ env : Env, swapsWith (.Name p1 q3) (some (.Attribute (.Name self q1) f1 q2)) q4.line env = pure false := by intro _; rfl) : FnOk P w K mg base (L2N.CX P w) 1 f fd [self, p1] (spInit1 K f1) := by
  refine F.ok Sc (fun vs H Q E h => ?_) (fun cdv A outer s H vs Q E hr h => ⟨_, pss_one (ps_ost (pe_var (i := 0) rfl h1 hd1 hc1) (pe_var (i := 1) rfl h2 hd2 hc2) (hsw _)), ?_⟩)
  · obtain ⟨a, C, y, rfl, _⟩ := h
    rfl
  · obtain ⟨a, C, y, rfl, hC, hf, ha, q⟩ := h
    exact ⟨y, rfl, .ref a, rfl, a, C, rfl, hC, hf, .inl ⟨ha, fun dx n1 n2 => q dx n1 n2⟩⟩
theorem init2_ok {P : Program} {w : World} {K : PySem.W.Frag} {mg : Str → Option Value} {base : Heap} {x qual : Str} {params : Arguments} {scope : Scope} {dvs : List V} {kws : List (Str × V)} {f : Addr} {fd : FuncData} {f1 f2 p1 p2 self : Str} {q1 q2 q3 q4 r1 r2 r3 r4 : Pos}
    (F : FunD K x qual params [.Assign [.Attribute (.Name self q1) f1 q2] (.Name p1 q3) q4, .Assign [.Attribute (.Name self r1) f2 r2] (.Name p2 r3) r4] scope dvs kws f fd) (Sc : FnScope [self, p1, p2] [self, p1, p2] scope)
    (h1 : Vis scope self) (h2 : Vis scope p1) (h3 : Vis scope p2) (hd1 : (self == ("__debug__" : Str)) = false := by decide) (hd2 : (p1 == ("__debug__" : Str)) = false := by decide) (hd3 : (p2 == ("__debug__" : Str)) = false := by decide)
    (hc1 : (self == ("__classdict__" : Str)) = false := by decide) (hc2 : (p1 == ("__classdict__" : Str)) = false := by decide) (hc3 : (p2 == ("__classdict__" : Str)) = false := by decide)
    (hsw : ∀ env : Env, swapsWith (.Name p1 q3) (some (.Attribute (.Name self q1) f1 q2)) q4.line env = pure false := by intro _; rfl) (hsw2 : ∀ env : Env, swapsWith (.Name p2 r3) (some (.Attribute (.Name self r1) f2 r2)) r4.line env = pure false := by intro _; rfl) :
    FnOk P w K mg base (L2N.CX P w) 1 f fd [self, p1, p2] (spInit2 K f1 f2) := by
  refine F.ok Sc (fun vs H Q E h => ?_) (fun cdv A outer s H vs Q E hr h => ⟨_, pss_cons (ps_ost (pe_var (i := 0) rfl h1 hd1 hc1) (pe_var (i := 1) rfl h2 hd2 hc2) (hsw _)) (pss_one (ps_ost (pe_var (i := 0) rfl h1 hd1 hc1) (pe_var (i := 2) rfl h3 hd3 hc3) (hsw2 _))), ?_⟩)
  · obtain ⟨a, C, y, z, rfl, _⟩ := h
    rfl
  · obtain ⟨a, C, y, z, rfl, hC, hf, hf2, ha, q⟩ := h
    refine ⟨y, rfl, .ref a, rfl, a, C, rfl, hC, hf, .inl ⟨ha, fun dx n1 n2 => ?_⟩⟩
    refine ⟨z, rfl, .ref a, rfl, a, C, rfl, hC, hf2, .inr ⟨dx, [(f1, y)], upd_same, ?_, by show 1 ≤ 900; decide, q dx n1 n2⟩⟩
    rw [upd_ne n2, upd_same]
def sRaise (c : Str) (ns : List Str) (ix : List Nat) (g : Dens) : SDen := fun ρ S => match g ρ S with
  | some (.ok ds S1) => if ds.length = ns.length then some (.exc c ns (ix.filterMap fun i => ds[i]?) ρ S1) else none
  | some (.exc c ns xs S1) => some (.exc c ns xs ρ S1)
  | none => none
theorem del_upd {H : Hp} {a : Addr} {o : HO} (h : H a = none) : del (upd H a o) a = H := by
  funext b
  by_cases hb : b = a
  · rw [hb, del_same, h]
  · rw [del_ne hb, upd_ne hb]
theorem exc1_end {H1 : Hp} {a C dx : Addr} {f1 : Str} {y : V} (ha : H1 a = none) (hd : upd H1 a (exo a C none) dx = none) (hne : dx ≠ a) :
    upd (del (upd (upd (upd H1 a (exo a C none)) dx (exd dx [(f1, y)])) a (exo a C (some dx))) a) dx (.xd [(f1, y)]) = upd H1 dx (.xd [(f1, y)]) := by
  funext b
  by_cases h1 : b = dx
  · rw [h1, upd_same, upd_same]
  · rw [upd_ne h1, upd_ne h1]
    by_cases h2 : b = a
    · rw [h2, del_same, ha]
    · rw [del_ne h2, upd_ne h2, upd_ne h1, upd_ne h2]
theorem exc2_end {H1 : Hp} {a C dx : Addr} {f1 f2 : Str} {y z : V} (ha : H1 a = none) (hne : dx ≠ a) :
    upd (del (upd (upd (upd (upd H1 a (exo a C none)) dx (exd dx [(f1, y)])) a (exo a C (some dx))) dx (exd dx [(f2, z), (f1, y)])) a) dx (.xd [(f2, z), (f1, y)]) = upd H1 dx (.xd [(f2, z), (f1, y)]) := by
  funext b
  by_cases h1 : b = dx
  · rw [h1, upd_same, upd_same]
  · rw [upd_ne h1, upd_ne h1]
    by_cases h2 : b = a
    · rw [h2, del_same, ha]
    · rw [del_ne h2, upd_ne h1, upd_ne h2, upd_ne h1, upd_ne h2]
theorem ds_raise1 {c : Str} {C fI : Addr} {k : Nat} {fd : FuncData} {ps : List Str} {f1 : Str} (T : OexC X.K C) (iC : PySem.W.findIn X.K (.ref C) "__init__" = some (some (.ref fI))) (tI : PySem.W.typeIn X.K (.ref fI) = some (.type "function")) (hno : PySem.W.findIn X.K (.ref C) f1 = some none)
    (F1 : FnOk X.prog X.w X.K X.mg X.base (L2N.CX X.prog X.w) k fI fd ps (spInit1 X.K f1)) (hr : Room (k + 1) X.A) (hb : Binds X.K fd ps []) (hc : X.calm = true) (tk : L2N.Takes X W) (hm : X.mg c = some (.ref C)) (ha : DA X W [e] ga) (hg : Gl X c := by rfl) (hdb : (c == ("__debug__" : Str)) = false := by decide)
    (he : starEach [e] X.env = (false, eval e X.env) :: starEach [] X.env := by rfl) : DS X W (.Raise (some (.Call (.Name c p) [e] [] p1)) none pos) (sRaise c [f1] [0] ga) := by
  refine psI (L2N.ps_raise hc tk (pmk_oexF (dvs := []) T iC tI F1 hr hb .nil passLN hg hm ha hdb he (by rfl))) fun D σ H q => ?_
  obtain ⟨mu, S, ρ, r, s, en, hf, q⟩ := q
  unfold sRaise at hf
  have hf2 : (match ga ρ S with | some (.ok d S1) => (if d.length = [f1].length then some (.exc c [f1] ([0].filterMap fun i => d[i]?) ρ S1) else none) | some (.exc c ns xs S1) => some (.exc c ns xs ρ S1) | none => none) = some r := hf
  refine rds_bndS s en hf2 q fun ds S1 vs H1 m1 x s1 en1 rp h1 q1 => ?_
  split at h1
  · rename_i hl
    cases h1
    match ds, hl with
    | [d], _ =>
      obtain ⟨v, rfl, rv⟩ := reps1 rp
      refine ⟨by show 1 ≤ 1000; decide, fun a ha2 => ⟨a, C, v, rfl, T, hno, upd_same, fun dx hd hne => ⟨rfl, dx, [(f1, v)], upd_same, ?_, ?_, ?_⟩⟩⟩
      · exact (upd_ne hne).trans upd_same
      · rw [upd_ne hne] at hd; exact hd
      · have hd1 : H1 dx = none := by rw [upd_ne hne] at hd; exact hd
        rw [exc1_end ha2 hd hne]
        have n := s1.free hd1
        have x2 : Ext H1 m1 (upd H1 dx (.xd [(f1, v)])) m1 := Ext.fresh hd1 n
        exact q1 σ _ m1 x2 (en1.mono x2) C dx [v] _ m1 (Ext.refl _ _) (s1.fresh hd1) hm upd_same n rfl (.single (rv.mono x2))
  · cases h1
theorem ds_raise2 {c : Str} {C fI : Addr} {k : Nat} {fd : FuncData} {ps : List Str} {f1 f2 : Str} (T : OexC X.K C) (iC : PySem.W.findIn X.K (.ref C) "__init__" = some (some (.ref fI))) (tI : PySem.W.typeIn X.K (.ref fI) = some (.type "function")) (hno : PySem.W.findIn X.K (.ref C) f1 = some none) (hno2 : PySem.W.findIn X.K (.ref C) f2 = some none)
    (F1 : FnOk X.prog X.w X.K X.mg X.base (L2N.CX X.prog X.w) k fI fd ps (spInit2 X.K f1 f2)) (hr : Room (k + 1) X.A) (hb : Binds X.K fd ps []) (hc : X.calm = true) (tk : L2N.Takes X W) (hm : X.mg c = some (.ref C)) (ha : DA X W [e, b] ga) (hg : Gl X c := by rfl) (hdb : (c == ("__debug__" : Str)) = false := by decide)
    (he : starEach [e, b] X.env = (false, eval e X.env) :: starEach [b] X.env := by rfl) (hpl : (backTo p1 (starEach [b] X.env)).any (·.1) = false := by rfl) : DS X W (.Raise (some (.Call (.Name c p) [e, b] [] p1)) none pos) (sRaise c [f2, f1] [1, 0] ga) := by
  refine psI (L2N.ps_raise hc tk (pmk_oexF (dvs := []) T iC tI F1 hr hb .nil passLN hg hm ha hdb he hpl)) fun D σ H q => ?_
  obtain ⟨mu, S, ρ, r, s, en, hf, q⟩ := q
  unfold sRaise at hf
  have hf2 : (match ga ρ S with | some (.ok d S1) => (if d.length = [f2, f1].length then some (.exc c [f2, f1] ([1, 0].filterMap fun i => d[i]?) ρ S1) else none) | some (.exc c ns xs S1) => some (.exc c ns xs ρ S1) | none => none) = some r := hf
  refine rds_bndS s en hf2 q fun ds S1 vs H1 m1 x s1 en1 rp h1 q1 => ?_
  split at h1
  · rename_i hl
    cases h1
    match ds, hl with
    | [d, d2], _ =>
      obtain ⟨v, v2, rfl, rv, rv2⟩ := reps2 rp
      refine ⟨by show 2 ≤ 1000; decide, fun a ha2 => ⟨a, C, v, v2, rfl, T, hno, hno2, upd_same, fun dx hd hne => ⟨rfl, dx, [(f2, v2), (f1, v)], ?_, upd_same, ?_, ?_⟩⟩⟩
      · rw [upd_ne (Ne.symm hne)]; exact upd_same
      · rw [upd_ne hne] at hd; exact hd
      · have hd1 : H1 dx = none := by rw [upd_ne hne] at hd; exact hd
        rw [exc2_end ha2 hne]
        have n := s1.free hd1
        have x2 : Ext H1 m1 (upd H1 dx (.xd [(f2, v2), (f1, v)])) m1 := Ext.fresh hd1 n
        exact q1 σ _ m1 x2 (en1.mono x2) C dx [v2, v] _ m1 (Ext.refl _ _) (s1.fresh hd1) hm upd_same n rfl (.cons (rv2.mono x2) (.single (rv.mono x2)))
  · cases h1
end
end PD
set_option Elab.async false
set_option linter.all false
set_option maxRecDepth 100000
set_option maxHeartbeats 4000000
/-! isinstance of an error that has fields, whether held as a value or by an except clause -/
namespace PySem.W
open PySem PySem.Spec PySem.Calls PyProof.Rows
section
variable {prog : Program} {w : World} {A : Around} {E : Value → Shared → Prop} {s : Shared} {K : Frag} {e C : Addr} {oe : Obj} {od : Option Obj}
theorem findObj_getset {nm : Str} {a g : Value} (hc : (clsIn K C).isSome = true) (ha : findIn K (.ref C) nm = some (some a)) (hg : specialIn K a "__get__" = some (some g)) (ht : takesIn K a = some true) : findObj K C od nm = some (.bind g a) := by
  obtain ⟨cd, hc⟩ := Option.isSome_iff_exists.mp hc
  simp [findObj, hc, ha, hg, ht]
/-- its class, asked by name -/
theorem err_class {Q : Option Value → Shared → Prop} (c1 : findIn K (.ref C) "__getattribute__" = some (some (.builtin "BaseException.__getattribute__"))) (c2 : findIn K (.ref C) "__getattr__" = some none) (c3 : subIn K (.ref C) (.type "BaseException") = some true)
    (c4 : hasDictIn K C = true) (c5 : findIn K (.ref C) "__class__" = some (some (.builtin "object.__class__"))) (c6 : specialIn K (.builtin "object.__class__") "__get__" = some (some (.builtin "getset_descriptor.__get__")))
    (c7 : takesIn K (.builtin "object.__class__") = some true) (c8 : mroIn K C (.type "object") = some true) (X : K.In s.heap) (J : InstAt s.heap e oe C od) (q : Q (some (.ref C)) { s with toks := s.toks + 1 }) : wpAny (model prog w) A (getAttr? (.ref e) "__class__") Q E s := by
  have fo : findObj K C od "__class__" = some (.bind (.builtin "getset_descriptor.__get__") (.builtin "object.__class__")) := findObj_getset (by obtain ⟨cd, hcd, _⟩ := any_some c4; simp [hcd]) c5 c6 c7
  obtain ⟨hp, gn, dr, tk, ost⟩ := s
  have la := J.type (M := model prog w)
  have lb := looks_findIn (M := model prog w) X c1
  have lc := looks_findIn (M := model prog w) X c2
  have ld := looks_find (M := model prog w) X J fo
  have ls : Looks (model prog w) hp (isInstance (.ref e) (.type "BaseException")) true := la.andThen (looks_subIn X c3)
  have b0 : (false && onTheHeap (Value.builtin "BaseException.__getattribute__")) = false := rfl
  have b1 : (onTheHeap (Value.ref C) && Value.builtin "BaseException.__getattribute__" == Value.builtin "object.__getattribute__") = false := by
    have z : (Value.builtin "BaseException.__getattribute__" == Value.builtin "object.__getattribute__") = false := by decide +kernel
    rw [z, Bool.and_false]
  unfold getAttr? getAttrBy? getAttrBy
  refine wpAny_bind (wpAny_mkText (wpAny_bind (wpAny_attempt (wpAny_holding (wpAny_bind (la.at (wpAny_bind (lb.at ?_))))))))
  show wpAny _ _ (if (onTheHeap (Value.ref C) && Value.builtin "BaseException.__getattribute__" == Value.builtin "object.__getattribute__") = true then _ else _) _ _ _
  rw [b1, if_neg Bool.false_ne_true]
  unfold getAttrByItsOwn hookBefore
  refine wpAny_bind ?_
  rw [if_pos (show onTheHeap (Value.ref C) = true from rfl)]
  refine lc.at ?_
  refine wpAny_bind (wpAny_attempt (wpAny_holding ?_))
  unfold callGetattribute boundAndCalled
  rw [b0, if_neg Bool.false_ne_true, PySem.F.excAttr_ValueError.ga.bind (.ref e)]
  refine wpAny_bind (wpAny_pure ?_)
  show wpAny _ _ (call (.builtin "BaseException.__getattribute__") [.ref e, .str "__class__" tk]) _ _ _
  refine wpAny_call (codeAny_call_builtin PySem.F.excAttr_ValueError.ga.plain PySem.F.entry_bexc_ga (@check_slot (model prog w) _ _ ⟨hp, gn, dr, tk + 1, ost⟩ "BaseException.__getattribute__" "BaseException" "__getattribute__" (.ref e) [.str "__class__" tk] [] _ (by decide +kernel) (by decide +kernel) ls (PySem.F.args_bexc_ga (.ref e) (.str "__class__" tk)) ?_))
  unfold Builtin.«object.__getattribute__»
  refine wpAny_bind (wpAny_of_eq (a := ((Value.ref e : Value), [Value.str "__class__" tk])) (by first | rfl | (simp only [slotArgs]; rfl)) (wpAny_bind (wpAny_pure (wpAny_bind (la.at (wpAny_bind (ld.at ?_)))))))
  show wpAny _ _ (holding [Value.builtin "object.__class__"] (call (.builtin "getset_descriptor.__get__") [.builtin "object.__class__", .ref e, .ref C]) >>= ret) _ _ _
  refine wpAny_bind (wpAny_holding (wpAny_call (class_get (s := ⟨hp, gn, dr, tk + 1, ost⟩) (ox := oe) (od := od) X J c8 (wpAny_pure ?_))))
  show wpAny _ _ (handedOut (.ref C)) _ _ _
  rw [handedOut_of (v := .ref C) rfl]
  first
    | exact wpAny_pure (wpAny_pure q)
    | exact wpAny_pure q
    | exact wpAny_pure (wpAny_bind (wpAny_pure (wpAny_pure q)))
theorem kit_err (c1 : findIn K (.ref C) "__getattribute__" = some (some (.builtin "BaseException.__getattribute__"))) (c2 : findIn K (.ref C) "__getattr__" = some none) (c3 : subIn K (.ref C) (.type "BaseException") = some true)
    (c4 : hasDictIn K C = true) (c5 : findIn K (.ref C) "__class__" = some (some (.builtin "object.__class__"))) (c6 : specialIn K (.builtin "object.__class__") "__get__" = some (some (.builtin "getset_descriptor.__get__")))
    (c7 : takesIn K (.builtin "object.__class__") = some true) (c8 : mroIn K C (.type "object") = some true) : KitX K (.ref e) (.ref C) (fun h => ∃ oe od, InstAt h e oe C od) := by
  have there : ∃ cd o, clsIn K C = some cd ∧ K.lookup C = some o ∧ o.data = .cls cd := by
    obtain ⟨cd, hcd, _⟩ := any_some c4
    have hcd' := hcd
    unfold clsIn at hcd
    split at hcd
    · rename_i ho
      cases hcd
      exact ⟨_, _, hcd', ho, rfl⟩
    · cases hcd
  obtain ⟨cd, o, hcd, ho, hd⟩ := there
  refine ⟨fun M h _ J => J.elim fun _ J => J.elim fun _ J => J.type, fun M h X _ => fun A' Q' E' s' k q => ?_, fun h tp dd its n sl X htp => ?_, fun X J q => J.elim fun _ J => J.elim fun _ J => err_class c1 c2 c3 c4 c5 c6 c7 c8 X J q⟩
  · unfold isType loadHead
    refine wpAny_bind (wpAny_loadPart (k _ _ (X _ _ ho)) ?_)
    rw [hd]
    exact wpAny_pure q
  · refine Bool.eq_false_iff.mpr fun z => ?_
    have z1 : C = tp := Value.ref.inj (beq_iff_eq.mp z)
    subst z1
    have z2 := (X _ _ ho).symm.trans htp
    have z3 := Option.some.inj z2
    rw [z3] at hd
    cases hd
end
end PySem.W
set_option Elab.async false
set_option linter.all false
set_option maxRecDepth 100000
set_option maxHeartbeats 4000000
namespace PD
open PySem PySem.Spec PyProof.Rows L2
section
variable {X : Cx} {W : WX} {a b c e o i tg iter elt : Expr} {es : List Expr} {fa fb fc : Den} {ga gb : Dens} {pos p p1 p2 : Pos} {st : Stmt} {sts rest : List Stmt} {g h : SDen}

/-! ### the fields of an error -/
theorem lookup_zip {K : PySem.W.Frag} {mg : Str → Option Value} {H : Hp} {mu : List Addr} {f : Str} : ∀ {ns : List Str} {vs : List V} {ds : List D} {d : D}, Reps K mg H mu vs ds → (ns.zip ds).lookup f = some d → ∃ v, (ns.zip vs).lookup f = some v ∧ Rep K mg H mu v d
  | [], _, _, _, _, h => by simp at h
  | n :: ns, _, _, _, .nil, h => by simp at h
  | n :: ns, _, _, d, .cons (v := v) (d := d0) r t, h => by
    rw [List.zip_cons_cons, List.lookup_cons] at h
    rw [List.zip_cons_cons, List.lookup_cons]
    split at h
    · rename_i hh
      cases h
      exact ⟨v, rfl, r⟩
    · exact lookup_zip t h
structure ErrAt (K : PySem.W.Frag) (mg : Str → Option Value) (c f : Str) : Prop where
  is_ : ∀ C, mg c = some (.ref C) → XfC K C ∧ PySem.W.findIn K (.ref C) f = some none
def tXv (K : PySem.W.Frag) (f : Str) (te : TE) : TE := fun σ H Q => te σ H fun x H1 => ∃ (a C d : Addr) (fs : List (Str × V)) (v : V), x = .ref a ∧ H1 a = some (exo a C (some d)) ∧ H1 d = some (exd d fs) ∧ (XfC K C ∧ PySem.W.findIn K (.ref C) f = some none) ∧ fs.lookup f = some v ∧ Q v H1
theorem pe_xv {te : TE} {f : Str} (he : PE X e te) (hb : attributeBase e f X.env (eval e X.env) = eval e X.env := by rfl) : PE X (.Attribute e f pos) (tXv X.K f te) := by
  refine ⟨fun pins s σ H Q I h => ?_⟩
  refine attr_of hb (thn (he.run pins s σ H _ I h) fun u s1 hh => ?_)
  obtain ⟨x, H1, I1, rx, a, C, d, fs, v, rfl, ea, ed, ⟨T, hno⟩, l, q⟩ := hh
  obtain rfl : u = Value.ref a := rx
  obtain ⟨t1, ha⟩ := exo_at I1.hok ea
  obtain ⟨mA, hns, hr⟩ := exd_at I1.hok ed
  obtain ⟨od, ho, hl⟩ := lookIn_ns hns
  obtain ⟨u, hu, ru⟩ := RelO.some_of (v := v) (o := mA f) (by rw [← l]; exact hr f)
  have J : PySem.W.InstAt s1.heap a _ C (some od) := ⟨ha, rfl, by unfold PySem.W.notCls; rfl, ho⟩
  exact HandSPX.exc_get I1.kIn J T.ga T.gg T.exC (PySem.W.findObj_own T.hdC hno rfl (by rw [hl, hu])) (handed_of ru) ⟨v, H1, I1.tok _, ru, q⟩
/-- e.f, e an error as a value -/
def dAttr (cs : List Str) (f : Str) (fe : Den) : Den := fun ρ S => bnd (fe ρ S) fun d S1 => match d with
  | .err c ns xs => if c ∈ cs then ((ns.zip xs).lookup f).map fun d => .ok d S1 else none
  | _ => none
theorem de_attr (cs : List Str) {f : Str} (F : ∀ c ∈ cs, ErrAt X.K X.mg c f) (he : DE X W e fa) (hb : attributeBase e f X.env (eval e X.env) = eval e X.env := by rfl) : DE X W (.Attribute e f pos) (dAttr cs f fa) := by
  refine peI (pe_xv he hb) fun σ H Q h => ?_
  obtain ⟨mu, S, ρ, res, s, en, hf, q⟩ := h
  refine rd_bnd s en hf q fun d S1 v H1 m1 x s1 en1 rp h1 q1 => ?_
  cases rp with
  | @err a C dd c ns vs xs hm he hd n1 n2 l r =>
    simp only at h1
    split at h1
    · rename_i hc
      obtain ⟨d, hl, rfl⟩ := Option.map_eq_some_iff.mp h1
      obtain ⟨v, hv, rv⟩ := lookup_zip r hl
      exact ⟨a, C, dd, _, v, rfl, he, hd, (F c hc).is_ C hm, hv, q1.val s1 rv⟩
    · cases h1
  | _ => cases h1
/-- e.f in the suite that caught it as a, its dict at dd -/
def dAttrC (a dd : Addr) (cs : List Str) (f : Str) (fe : Den) : Den := fun ρ S => bnd (fe ρ S) fun d S1 => match d with
  | .cau a' d' c ns xs => if a' = a ∧ d' = dd ∧ c ∈ cs then ((ns.zip xs).lookup f).map fun d => .ok d S1 else none
  | _ => none
theorem de_attrC {a0 C0 d0 : Addr} {oe : Obj} {pn : List (Addr × Obj)} {f c0 : Str} (F : ErrAt X.K X.mg c0 f) (hm0 : X.mg c0 = some (.ref C0)) (hz : Zc (.ref C0) (some d0) oe) (hf : ∃ vs, oe.data = .fields vs) (he : DE (X.suite a0 ((a0, oe) :: pn)) W e fa)
    (hb : attributeBase e f X.env (eval e X.env) = eval e X.env := by rfl) : DE (X.suite a0 ((a0, oe) :: pn)) W (.Attribute e f pos) (dAttrC a0 d0 [c0] f fa) := by
  obtain ⟨T, hno⟩ := F.is_ C0 hm0
  refine peI (pe_xf T hno hz hf he hb) fun σ H Q h => ?_
  obtain ⟨mu, S, ρ, res, s, en, hf, q⟩ := h
  refine rd_bnd s en hf q fun d S1 v H1 m1 x s1 en1 rp h1 q1 => ?_
  cases rp with
  | @cau a C dd c ns vs xs hm hd n2 l r =>
    simp only at h1
    split at h1
    · rename_i hc
      obtain ⟨rfl, rfl, hc⟩ := hc
      obtain ⟨d, hl, rfl⟩ := Option.map_eq_some_iff.mp h1
      obtain ⟨v, hv, rv⟩ := lookup_zip r hl
      exact ⟨rfl, rfl, _, _, v, rfl, hd, hv, q1.val s1 rv⟩
    · cases h1
  | _ => cases h1

/-! ### isinstance of an error -/
/-- what the written part says of the class c, so that isinstance asks its errors rightly, and what it answers for the class value cv -/
structure ErrIs (K : PySem.W.Frag) (C : Addr) : Prop where
  c1 : PySem.W.findIn K (.ref C) "__getattribute__" = some (some (.builtin "BaseException.__getattribute__"))
  c2 : PySem.W.findIn K (.ref C) "__getattr__" = some none
  c3 : PySem.W.subIn K (.ref C) (.type "BaseException") = some true
  c4 : PySem.W.hasDictIn K C = true
  c5 : PySem.W.findIn K (.ref C) "__class__" = some (some (.builtin "object.__class__"))
  c6 : PySem.W.specialIn K (.builtin "object.__class__") "__get__" = some (some (.builtin "getset_descriptor.__get__"))
  c7 : PySem.W.takesIn K (.builtin "object.__class__") = some true
  c8 : PySem.W.mroIn K C (.type "object") = some true
def IsTab (K : PySem.W.Frag) (mg : Str → Option Value) (cv : Value) (tab : List (Str × Bool)) : Prop := ∀ c b, tab.lookup c = some b → ∀ C, mg c = some (.ref C) → ErrIs K C ∧ PySem.W.kitOne K (.ref C) cv = some b
def rIsX (K : PySem.W.Frag) : List V → Hp → VK → Prop := fun xs H Q => ∃ (a C d : Addr) (fs : List (Str × V)) (c : V) (cv : Value) (b : Bool), xs = [.ref a, c] ∧ (∀ u, RelV c u → u = cv) ∧ H a = some (exo a C (some d)) ∧ H d = some (exd d fs) ∧ ErrIs K C ∧ PySem.W.kitOne K (.ref C) cv = some b ∧ Q (.bl b) H
theorem call_isX {X : Cx} : CallR X (.builtin "isinstance") (rIsX X.K) := by
  intro pins s σ H xs us Q I r h
  obtain ⟨a, C, d, fs, c, cv, b, rfl, hcv, ea, ed, T, e, q⟩ := h
  cases r with
  | cons rx rr =>
    cases rr with
    | cons rt rr =>
      cases rr
      cases rx
      have ec := hcv _ rt
      subst ec
      obtain ⟨t1, ha⟩ := exo_at I.hok ea
      obtain ⟨mA, hns, hr⟩ := exd_at I.hok ed
      obtain ⟨od, ho, hl⟩ := lookIn_ns hns
      have J : PySem.W.InstAt s.heap a _ C (some od) := ⟨ha, rfl, by unfold PySem.W.notCls; rfl, ho⟩
      exact PySem.W.kia_one (PySem.W.kit_err T.c1 T.c2 T.c3 T.c4 T.c5 T.c6 T.c7 T.c8) I.kIn ⟨_, _, J⟩ e (fun z => nomatch z) fun tk => ⟨.bl b, H, I.kept (t' := tk) fun _ _ z => z, rfl, q⟩
def rIsC (K : PySem.W.Frag) (D a d : Addr) : List V → Hp → VK → Prop := fun xs H Q => ∃ (fs : List (Str × V)) (c : V) (cv : Value) (b : Bool), xs = [.ref a, c] ∧ (∀ u, RelV c u → u = cv) ∧ H d = some (.xd fs) ∧ PySem.W.kitOne K (.ref D) cv = some b ∧ Q (.bl b) H
theorem call_isC {X : Cx} {a D d : Addr} {oe : Obj} {pn : List (Addr × Obj)} (T : ErrIs X.K D) (hz : Zc (.ref D) (some d) oe) (hf : ∃ vs, oe.data = .fields vs) : CallR (X.suite a ((a, oe) :: pn)) (.builtin "isinstance") (rIsC X.K D a d) := by
  intro pins s σ H xs us Q I r h
  obtain ⟨fs, c, cv, b, rfl, hcv, ed, e, q⟩ := h
  cases r with
  | cons rx rr =>
    cases rr with
    | cons rt rr =>
      cases rr
      cases rx
      have ec := hcv _ rt
      subst ec
      obtain ⟨hget, _⟩ := I.pin (a, oe) (List.mem_append.mpr (.inl List.mem_cons_self))
      obtain ⟨vs, hv⟩ := hf
      have hx : ObjOk X.prog X.w H s.heap d (.xd fs) := I.hok d _ ed
      obtain ⟨mA, hns, hr⟩ := hx
      obtain ⟨od, ho, hl⟩ := lookIn_ns hns
      have J : PySem.W.InstAt s.heap a oe D (some od) := ⟨hget, hz.1, by unfold PySem.W.notCls; rw [hv] <;> rfl, by rw [hz.2]; exact ho⟩
      exact PySem.W.kia_one (PySem.W.kit_err T.c1 T.c2 T.c3 T.c4 T.c5 T.c6 T.c7 T.c8) I.kIn ⟨_, _, J⟩ e (fun z => nomatch z) fun tk => ⟨.bl b, H, I.kept (t' := tk) fun _ _ z => z, rfl, q⟩

theorem takes0 {X : Cx} : L2N.Takes X W0 := fun u s' ⟨_, _, _, _, _, _, _, _, _, _, _, _, _, _, _, _, w⟩ => w.elim
/-- isinstance(e, T), e an error as a value, T a class by its name -/
def dIsE (tab : List (Str × Bool)) (f : Den) : Den := fun ρ S => bnd (f ρ S) fun d S1 => match d with
  | .err c _ _ => (tab.lookup c).map fun b => .ok (.bl b) S1
  | _ => none
theorem de_isE {T : Str} {cv : Value} {cw : V} {tab : List (Str × Bool)} (ht : IsTab X.K X.mg cv tab) (ha : DE X W a fa) (hc : PE X (.Name T p2) (tC cw)) (hcw : ∀ u, RelV cw u → u = cv) (hm : X.mg "isinstance" = none) (hg : Gl X "isinstance" := by rfl)
    (hs : starEach [a, .Name T p2] X.env = (false, eval a X.env) :: starEach [.Name T p2] X.env := by rfl) :
    DE X W (.Call (.Name "isinstance" p1) [a, .Name T p2] [] pos) (dIsE tab fa) := by
  refine peI (pe_callB call_isX hg hm (by decide +kernel) (pa_cons ha (pa_cons hc pa_nil) hs) (by decide) (by decide) hs (by rfl)) fun σ H Q h => ?_
  obtain ⟨mu, S, ρ, res, s, en, hf, q⟩ := h
  refine rd_bnd s en hf q fun d S1 v H1 m1 x s1 en1 rp h1 q1 => ?_
  cases rp with
  | @err e C dd c ns vs xs hm he hd n1 n2 l r =>
    simp only at h1
    obtain ⟨b, hl, rfl⟩ := Option.map_eq_some_iff.mp h1
    obtain ⟨T1, T2⟩ := ht c b hl C hm
    exact ⟨_, _, _, _, cw, cv, b, rfl, hcw, he, hd, T1, T2, q1.val s1 (.bl b)⟩
  | _ => cases h1
def dIsC (a0 d0 : Addr) (c0 : Str) (b : Bool) (f : Den) : Den := fun ρ S => bnd (f ρ S) fun d S1 => match d with
  | .cau a d c _ _ => if a = a0 ∧ d = d0 ∧ c = c0 then some (.ok (.bl b) S1) else none
  | _ => none
theorem de_isC {a0 C0 d0 : Addr} {oe : Obj} {pn : List (Addr × Obj)} {c0 T : Str} {cv : Value} {cw : V} {tab : List (Str × Bool)} (b : Bool) (ht : IsTab X.K X.mg cv tab) (hm0 : X.mg c0 = some (.ref C0)) (htb : tab.lookup c0 = some b) (hz : Zc (.ref C0) (some d0) oe) (hf : ∃ vs, oe.data = .fields vs)
    (ha : DE (X.suite a0 ((a0, oe) :: pn)) W a fa) (hc : PE (X.suite a0 ((a0, oe) :: pn)) (.Name T p2) (tC cw)) (hcw : ∀ u, RelV cw u → u = cv) (hm : X.mg "isinstance" = none) (hg : Gl X "isinstance" := by rfl)
    (hs : starEach [a, .Name T p2] X.env = (false, eval a X.env) :: starEach [.Name T p2] X.env := by rfl) :
    DE (X.suite a0 ((a0, oe) :: pn)) W (.Call (.Name "isinstance" p1) [a, .Name T p2] [] pos) (dIsC a0 d0 c0 b fa) := by
  obtain ⟨T1, T2⟩ := ht c0 b htb C0 hm0
  refine peI (pe_callB (call_isC T1 hz hf) hg hm (by decide +kernel) (pa_cons ha (pa_cons hc pa_nil) hs) (by decide) (by decide) hs (by rfl)) fun σ H Q h => ?_
  obtain ⟨mu, S, ρ, res, s, en, hf, q⟩ := h
  refine rd_bnd s en hf q fun d S1 v H1 m1 x s1 en1 rp h1 q1 => ?_
  cases rp with
  | @cau e C dd c ns vs xs hm hd n2 l r =>
    simp only at h1
    split at h1
    · rename_i hc
      obtain ⟨rfl, rfl, rfl⟩ := hc
      cases h1
      exact ⟨_, cw, cv, b, rfl, hcw, hd, T2, q1.val s1 (.bl b)⟩
    · cases h1
  | _ => cases h1

/-! ### try: body, except C as e: suite -/
/-- at the end of the suite the name is gone -/
def clr (i : Nat) : Option SRes → Option SRes
  | some (.nx ρ S) => some (.nx (ρ.set i none) S)
  | some (.bk ρ S) => some (.bk (ρ.set i none) S)
  | some (.ct ρ S) => some (.ct (ρ.set i none) S)
  | some (.rt d S) => some (.rt d S)
  | _ => none
open Classical in
noncomputable def unif (f : Nat → Nat → Option SRes) : Option SRes := if h : ∃ r, ∀ a d, f a d = some r then some h.choose else none
theorem unif_of {f : Nat → Nat → Option SRes} {r : SRes} (h : ∀ a d, f a d = some r) : unif f = some r := by
  unfold unif
  have h' : ∃ r, ∀ a d, f a d = some r := ⟨r, h⟩
  rw [dif_pos h']
  exact congrArg some (Option.some.inj ((h'.choose_spec 0 0).symm.trans (h 0 0)))
theorem unif_at {f : Nat → Nat → Option SRes} {r : SRes} (h : unif f = some r) (a d : Nat) : f a d = some r := by
  unfold unif at h
  split at h
  · rename_i h'
    rw [← Option.some.inj h]
    exact h'.choose_spec a d
  · cases h
noncomputable def sTry (tab : List (Str × Bool)) (i : Nat) (g : SDen) (gs : Str → Nat → Nat → SDen) : SDen := fun ρ S => match g ρ S with
  | some (.exc c ns xs ρ1 S1) => match tab.lookup c with
    | some true => unif fun a d => clr i (gs c a d (ρ1.set i (some (.cau a d c ns xs))) S1)
    | some false => some (.exc c ns xs ρ1 S1)
    | none => none
  | r => r
def ExTab (K : PySem.W.Frag) (mg : Str → Option Value) (cv : Value) (tab : List (Str × Bool)) : Prop := ∀ c b, tab.lookup c = some b → ∀ C, mg c = some (.ref C) → PySem.W.exmOne K (.ref C) cv = some b
theorem ds_try {x n : Str} {cv : Value} {body suite : List Stmt} {b₀ : Stmt} {np pos' : Pos} {tab : List (Str × Bool)} {gs : Str → Nat → Nat → SDen} (i : Nat) (ht : ExTab X.K X.mg cv tab) (hs : X.stack = X.env :: X.outer) (hf : X.env.frame = some X.env.locals) (hN : X.N.Nodup) (tk : L2N.Takes X W)
    (hc : Names X x cv)
    (hb : ∀ (W : WX) (pn : List (Addr × Obj)) (xe : Value → Shared → Prop), L2N.Takes (X.tr pn xe) W → PassesOwn (model X.prog X.w) X.A X.env xe → DSs (X.tr pn xe) W body g)
    (hsu : ∀ (a : Addr) (oe : Obj) (c : Str) (C d : Addr) (pn : List (Addr × Obj)), X.mg c = some (.ref C) → tab.lookup c = some true → L2N.Zn (.ref C) (some d) oe → (∃ vs, oe.data = .fields vs) → DSs (X.suite a ((a, oe) :: pn)) W0 (b₀ :: suite) (gs c a d))
    (hi : X.N[i]? = some n := by rfl) (hln : X.env.kindOf n = some .local := by rfl) :
    DS X W (.Try body [.ExceptHandler (some (.Name x np)) (some n) (b₀ :: suite) pos'] [] [] pos) (sTry tab i g gs) := by
  refine psI (L2N.ps_try_as (tb := fun W => rdS X.K X.mg W g) (ts := fun a cls d D σ H => ∃ (c : Str) (C dd : Addr), cls = .ref C ∧ d = some dd ∧ X.mg c = some (.ref C) ∧ tab.lookup c = some true ∧ rdS X.K X.mg W0 (gs c a dd) D σ H) hs hf hN hi hln hc tk hb fun a oe cls d pn hz hf => ⟨fun pins s σ H D I h => ?_⟩) fun D σ H q => ?_
  · obtain ⟨c, C, dd, rfl, rfl, hm, hl, h⟩ := h
    exact (hsu a oe c C dd pn hm hl hz hf).run pins s σ H D I h
  · obtain ⟨mu, S, ρ, r, s, en, hg, q⟩ := q
    unfold sTry at hg
    cases e : g ρ S with
    | none => rw [e] at hg; cases hg
    | some r1 =>
      rw [e] at hg
      refine ⟨mu, S, ρ, r1, s, en, e, ?_⟩
      cases r1 with
      | nx ρ1 S1 => cases hg; exact q
      | bk ρ1 S1 => cases hg; exact q
      | ct ρ1 S1 => cases hg; exact q
      | rt d S1 => cases hg; exact q
      | exc c ns xs ρ1 S1 =>
        simp only at hg
        intro σ1 H1 m1 x1 en1 C dx vs H2 m2 x2 s2 hm hd hn hl rp
        cases hb : tab.lookup c with
        | none => rw [hb] at hg; cases hg
        | some b =>
          rw [hb] at hg
          refine ⟨b, ht c b hb C hm, fun hbt a ha => ?_, fun hbf => ?_⟩
          · subst hbt
            have hu := unif_at hg a dx
            have en2 : EnvOk X.K X.mg H2 m2 (σ1.set i (some (.ref a))) (ρ1.set i (some (.cau a dx c ns xs))) := (en1.mono x2).set (.cau hm hd hn hl rp) i
            have q2 := q.mono (x1.trans x2)
            cases e2 : gs c a dx (ρ1.set i (some (.cau a dx c ns xs))) S1 with
            | none => rw [e2] at hu; cases hu
            | some r2 =>
              rw [e2] at hu
              refine ⟨c, C, dx, rfl, rfl, hm, hb, m2, S1, _, r2, s2, en2, e2, ?_⟩
              cases r2 with
              | nx ρ2 S2 => cases hu; exact fun σ' H' mu' y s' en' => q2 _ H' mu' y s' (en'.forget i none)
              | bk ρ2 S2 => cases hu; exact fun σ' H' mu' y s' en' => q2 _ H' mu' y s' (en'.forget i none)
              | ct ρ2 S2 => cases hu; exact fun σ' H' mu' y s' en' => q2 _ H' mu' y s' (en'.forget i none)
              | rt d S2 => cases hu; exact q2
              | exc c2 ns2 xs2 ρ2 S2 => cases hu
          · subst hbf
            cases hg
            exact q σ1 H1 m1 x1 en1 C dx vs H2 m2 x2 s2 hm hd hn hl rp
end
end PD
set_option Elab.async false
set_option linter.all false
set_option maxRecDepth 100000
set_option maxHeartbeats 4000000
namespace PD
open PySem PySem.Spec PyProof.Rows L2
section
variable {X : Cx} {W : WX} {a b c e o i tg iter elt : Expr} {es : List Expr} {fa fb fc : Den} {ga gb : Dens} {pos p p1 p2 : Pos} {st : Stmt} {sts rest : List Stmt} {g h : SDen}

/-! ### calls of small defs in an except suite -/
abbrev FnDH (P : Program) (w : World) (K : PySem.W.Frag) (mg : Str → Option Value) (base : Heap) (k : Nat) (f : Addr) (fd : FuncData) (ps : List Str) (F : Op) : Prop := L2H.FnH P w K mg base (L2N.CX P w) k f fd ps (spD K mg ps.length F)
theorem fn_denH {P : Program} {w : World} {K : PySem.W.Frag} {mg : Str → Option Value} {base : Heap} {x qual : Str} {params : Arguments} {body : List Stmt} {scope : Scope} {dvs : List V} {kws : List (Str × V)} {f : Addr} {fd : FuncData} {N ps : List Str} {k : Nat} {g : SDen}
    (F : FunD K x qual params body scope dvs kws f fd) (Sc : FnScope N ps scope)
    (hb : ∀ (cdv : Value) (A : Around) (outer : List Env) (s : Shared) (H : Hp) (E : XK) (pn : Addr × Obj), L2H.Hot1 A pn → L2H.RoomH k (A.deeper (envOfC qual scope s.heap.objs.size f cdv)) →
      L2N.Takes (L2H.cxH (L2N.CX P w) P w K mg base N qual scope f cdv A outer s H E pn) (fun cls d _ H => E cls d H) →
      DSs (L2H.cxH (L2N.CX P w) P w K mg base N qual scope f cdv A outer s H E pn) (fun cls d _ H => E cls d H) body g) : FnDH P w K mg base (k + 1) f fd ps (fnOf N g) := by
  obtain ⟨oc, od, dV, kV, doc, pm, an, cdv, ct, osl, rfl, lk, hcd, _, _⟩ := F.ex
  exact L2H.fn_ofH lk hcd Sc (fun vs H Q E h => h.1) fun A outer s H vs Q E pn hot hr h => ⟨_, hb cdv A outer s H E pn hot hr (L2N.takes_of rfl rfl rfl rfl), den_end h⟩
theorem hot_suite {a0 : Addr} {cv : Value} {d : Option Addr} {oe : Obj} {pn : List (Addr × Obj)} (hz : L2N.Zn cv d oe) (hf : ∃ vs, oe.data = .fields vs) : L2H.HotC (X.suite a0 ((a0, oe) :: pn)) := by
  obtain ⟨vs, hv⟩ := hf
  exact ⟨(a0, oe), ⟨rfl, vs, hv, hz.2.2 vs hv⟩, List.mem_cons_self⟩
theorem hot_body {CX : CXT} {P : Program} {w : World} {K : PySem.W.Frag} {mg : Str → Option Value} {base : Heap} {N : List Str} {qual : Str} {scope : Scope} {f : Addr} {cd : Value} {A : Around} {outer : List Env} {s : Shared} {H : Hp} {E : XK} {pn : Addr × Obj} (hot : L2H.Hot1 A pn) :
    L2H.HotC (L2H.cxH CX P w K mg base N qual scope f cd A outer s H E pn) := ⟨pn, hot, List.mem_cons_self⟩
theorem de_callH {k : Nat} {f : Addr} {fd : FuncData} {ps : List Str} {F : Op} {x : Str} (G : FnDH X.prog X.w X.K X.mg X.base k f fd ps F) (hr : L2H.RoomH k X.A) (hc : L2H.HotC X) (tk : L2N.Takes X W) (hm : X.mg x = some (.ref f)) (hk : PySem.W.keepIn X.K (.ref f) = true) (hb : Binds X.K fd ps [])
    (ha : DA X W (e :: es) ga) (hg : Gl X x := by rfl) (hdb : (x == ("__debug__" : Str)) = false := by decide) (he : starEach (e :: es) X.env = (false, eval e X.env) :: starEach es X.env := by rfl) (hpl : (backTo pos (starEach es X.env)).any (·.1) = false := by rfl) :
    DE X W (.Call (.Name x p) (e :: es) [] pos) (dFn ps.length F ga) := by
  refine peI (L2H.pe_callH (E := WE W) G hr hc hg hm hk hb (fun σ => L2N.passAt tk σ) ha hdb he hpl) fun σ H Q h => ?_
  obtain ⟨mu, S, ρ, res, s, en, hf, q⟩ := h
  refine rds_bndl s en hf q fun ds S1 vs H1 m1 x s1 en1 rp h1 q1 => ?_
  split at h1
  · rename_i hl
    exact spD_of s1 rp hl h1 q1
  · cases h1

/-! ### calls by keywords alone -/
def DK (X : Cx) (W : WX) (kws : List Keyword) (g : Dens) : Prop := PK X kws (rds X.K X.mg W g)
theorem pkI {kws : List Keyword} {t t' : TA} (h : PK X kws t) (i : ∀ σ H Q, t' σ H Q → t σ H Q) : PK X kws t' := ⟨fun pos pins s σ H Q I q => h.run pos pins s σ H Q I (i σ H Q q)⟩
theorem dk_nil : DK X W [] dNil := by
  refine pkI pk_nil fun σ H Q h => ?_
  obtain ⟨mu, S, ρ, r, s, en, hf, q⟩ := h
  cases hf
  exact q [] H mu (Ext.refl _ _) s .nil
theorem dk_cons {nm : Option Str} {kpos : Pos} {kws : List Keyword} (ha : DE X W e fa) (hr : DK X W kws ga) : DK X W (⟨nm, e, kpos⟩ :: kws) (dCons fa ga) := by
  refine pkI (pk_cons ha hr) fun σ H Q h => ?_
  obtain ⟨mu, S, ρ, r, s, en, hf, q⟩ := h
  refine rd_bnds s en hf q fun d S1 v H1 m1 x s1 en1 rp h1 q1 => ?_
  refine rds_bndls s1 en1 h1 q1 fun ds S2 vs H2 m2 x2 s2 en2 rp2 h2 q2 => ?_
  cases h2
  exact q2 _ H2 m2 (Ext.refl _ _) s2 (.cons (rp.mono x2) rp2)
/-- the keywords' values ws, named ks, in the parameters' order: ix tells each parameter's place among them -/
structure KwB (K : PySem.W.Frag) (fd : FuncData) (ps ks : List Str) (ix : List Nat) : Prop where
  to : ∀ (s : Shared) (ws : List Value), K.In s.heap → ws.length = ks.length → BindsTo s fd ⟨[], ks.zip ws⟩ (ps.zip (permL ix ws))
theorem perm_vals {ix : List Nat} {vs : List V} {us : List Value} (r : Vals vs us) : Vals (permL ix vs) (permL ix us) := by
  induction ix with
  | nil => exact .nil
  | cons i ix ih =>
    unfold permL at ih ⊢
    rw [List.filterMap_cons, List.filterMap_cons]
    cases e : vs[i]? with
    | none =>
      have : us[i]? = none := List.getElem?_eq_none (by rw [← r.length]; exact List.getElem?_eq_none_iff.mp e)
      rw [this]
      exact ih
    | some v =>
      obtain ⟨u, hu, rv⟩ := r.get e
      rw [hu]
      exact .cons rv ih
theorem perm_reps {K : PySem.W.Frag} {mg : Str → Option Value} {H : Hp} {mu : List Addr} {ix : List Nat} {vs : List V} {ds : List D} (r : Reps K mg H mu vs ds) : Reps K mg H mu (permL ix vs) (permL ix ds) := by
  induction ix with
  | nil => exact .nil
  | cons i ix ih =>
    unfold permL at ih ⊢
    rw [List.filterMap_cons, List.filterMap_cons]
    cases e : ds[i]? with
    | none =>
      have : vs[i]? = none := List.getElem?_eq_none (by rw [r.length]; exact List.getElem?_eq_none_iff.mp e)
      rw [this]
      exact ih
    | some d =>
      obtain ⟨v, hv, rv⟩ := r.get e
      rw [hv]
      exact .cons rv ih
def tCallKw (sp : Sp) (ix : List Nat) (m : Nat) (E : L2.St → XK) (tk : TA) : TE := fun σ H Q => tk σ H fun zs H2 => zs.length = m ∧ sp (permL ix zs) H2 Q (E σ)
theorem pe_callKw {CX : CXT} {k : Nat} {f : Addr} {fd : FuncData} {ps ks : List Str} {sp : Sp} {ix : List Nat} {x : Str} {kws : List Keyword} {tk : TA} {E : L2.St → XK} (F : FnOk X.prog X.w X.K X.mg X.base CX k f fd ps sp) (hr : Room k X.A) (hg : Gl X x) (hm : X.mg x = some (.ref f)) (hk : PySem.W.keepIn X.K (.ref f) = true)
    (hb : KwB X.K fd ps ks ix) (hx : ∀ σ, PassesAt CX X σ (E σ)) (hkw : PK X kws tk) (hall : (backToKw pos (keywordEach kws X.env)).all (·.1.isSome) = true := by rfl) (hks : (backToKw pos (keywordEach kws X.env)).filterMap (·.1) = ks := by rfl)
    (hdb : (x == ("__debug__" : Str)) = false := by decide) (hpl : ((backTo pos (starEach [] X.env)).any (·.1) || (backToKw pos (keywordEach kws X.env)).any (·.1.isNone)) = false := by rfl) :
    PE X (.Call (.Name x p) [] kws pos) (tCallKw sp ix ks.length E tk) := by
  refine ⟨fun pins s σ H Q J h => wpAny_Call_Name_kw (ld_glob J hg hm (PySem.W.callWith_KW0 (h₀ := X.base) J.ok.mod.kin hk hall (thn (hkw.run pos pins s σ H _ J h) fun ws s2 ⟨zs, H2, J2, rz, hl, q2⟩ => ⟨J2.kIn, ?_⟩) hpl) hdb)⟩
  rw [hks]
  refine wpAny_call (codeAny_mono (F.run X.A X.stack s2 H2 ⟨[], ks.zip ws⟩ (permL ix ws) (permL ix zs) Q (E σ) hr J2.env0 (hb.to s2 ws J2.kIn (rz.length.symm.trans hl)) (perm_vals rz) q2) fun r z hc => ?_)
  match r, hc with
  | .error er, hc => exact hx σ pins H2 s2 er z J2 hc
  | .ok (.ret u), hc => exact J2.after hc
  | .ok .next, hc => exact hc.elim
  | .ok .brk, hc => exact hc.elim
  | .ok .cont, hc => exact hc.elim
def dFnK (n m : Nat) (ix : List Nat) (F : Op) (g : Dens) : Den := fun ρ S => bndl (g ρ S) fun ds S1 => if ds.length = m ∧ (permL ix ds).length = n then F (permL ix ds) S1 else none
theorem de_callK {k : Nat} {f : Addr} {fd : FuncData} {ps ks : List Str} {F : Op} {x : Str} {kws : List Keyword} (ix : List Nat) (G : FnD X.prog X.w X.K X.mg X.base k f fd ps F) (hr : Room k X.A) (tk : L2N.Takes X W) (hm : X.mg x = some (.ref f)) (hk : PySem.W.keepIn X.K (.ref f) = true) (hb : KwB X.K fd ps ks ix)
    (ha : DK X W kws ga) (hg : Gl X x := by rfl) (hall : (backToKw pos (keywordEach kws X.env)).all (·.1.isSome) = true := by rfl) (hks : (backToKw pos (keywordEach kws X.env)).filterMap (·.1) = ks := by rfl)
    (hdb : (x == ("__debug__" : Str)) = false := by decide) (hpl : ((backTo pos (starEach [] X.env)).any (·.1) || (backToKw pos (keywordEach kws X.env)).any (·.1.isNone)) = false := by rfl) :
    DE X W (.Call (.Name x p) [] kws pos) (dFnK ps.length ks.length ix F ga) := by
  refine peI (pe_callKw (E := WE W) G hr hg hm hk hb (fun σ => L2N.passAt tk σ) ha hall hks hdb hpl) fun σ H Q h => ?_
  obtain ⟨mu, S, ρ, res, s, en, hf, q⟩ := h
  refine rds_bndl s en hf q fun ds S1 vs H1 m1 x s1 en1 rp h1 q1 => ?_
  split at h1
  · rename_i hl
    exact ⟨rp.length.trans hl.1, spD_of s1 (perm_reps rp) hl.2 h1 q1⟩
  · cases h1
end
end PD
set_option Elab.async false
set_option linter.all false
set_option maxRecDepth 100000
set_option maxHeartbeats 4000000
namespace PySem.W
open PySem PySem.Spec PySem.Calls PyProof.Rows PyProof.V
section
variable {prog : Program} {w : World} {A : Around} {E : Value → Shared → Prop} {s : Shared} {t : Addr}
theorem my_maxG {xs : Array (Int × Tok)} {Q : Value → Shared → Prop} (hh : A.handled = none) (ht : s.heap.IsTuple t (intItems xs)) (hne0 : 0 < xs.size)
    (h : ∀ v h' tk, (intItems xs)[argBest (fun i j => decide (numAt xs i > numAt xs j)) (xs.size - 1)]? = some v → (∀ b o, s.heap.get? b = some o → h'.get? b = some o) → Q v { s with heap := h', toks := tk }) :
    wpAny (model prog w) A (call (.builtin "max") [.ref t]) Q E s := by
  obtain ⟨o, ho, hc, n, hd⟩ := id ht
  have hne : t ≠ s.heap.objs.size := Nat.ne_of_lt (Heap.lt_size ho)
  have hsz : (intItems xs).size = xs.size := by simp [intItems]
  refine call_max_walk (wpAny_pyIter_tuple ht ?_)
  refine ⟨_, [_, t], [_], _, _, _, _, rfl, Walks.tuple (A := A.in1) hh s.heap.objs.size t hne (intItems xs), ⟨⟨_, Heap.get?_push_size _ rfl, rfl, rfl⟩, ht.at fun o e => Heap.get?_push_of_some _ e⟩, fun b hb => ?_, by rw [hsz]; exact hne0, CmpOf.ints_gt (numAt xs) (fun _ _ => intItems_at), fun v h' tk hP hk => ?_⟩
  · rcases List.mem_cons.mp hb with rfl | hb
    · exact Heap.lt_size (Heap.get?_push_size _ rfl)
    · obtain rfl := List.mem_singleton.mp hb
      exact Heap.lt_size (Heap.get?_push_of_some _ ho)
  · exact h v h' tk (by rw [← hsz]; exact hP) fun b o e => hk b o (fun hb => absurd (Heap.lt_size e) ((List.mem_singleton.mp hb) ▸ Nat.lt_irrefl _)) (Heap.get?_push_of_some _ e)
end
end PySem.W
namespace PD
open PySem PySem.Spec PyProof.Rows L2
section
variable {prog : Program} {w : World} {A : Around} {E : Value → Shared → Prop} {s : Shared} {t : Addr}
theorem max_rawT {Q : Value → Shared → Prop} {its : List Value} {ns : List Int} (hh : A.handled = none) (hl : s.heap.IsTuple t its.toArray) (hi : IntsAre its ns) (hne : 0 < ns.length)
    (h : ∀ h' tk M t', (∀ b o, s.heap.get? b = some o → h'.get? b = some o) → M ∈ ns → (∀ a, a ∈ ns → a ≤ M) → Q (.int M t') { s with heap := h', toks := tk }) : wpAny (model prog w) A (call (.builtin "max") [.ref t]) Q E s := by
  obtain ⟨xs, e⟩ := hi.allInts.items
  have hn : numsOf (intItems xs).toList = ns := by rw [← e]; exact hi.numsOf
  rw [nums_intItems] at hn
  subst hn
  rw [e] at hl
  have hsz : 0 < xs.size := by simpa using hne
  refine PySem.W.my_maxG hh hl hsz fun v h' tk hv hk => ?_
  obtain ⟨t, rfl⟩ := intItems_at hv
  obtain ⟨h1, h2⟩ := argBest_gt (numAt xs) (xs.size - 1)
  refine h h' tk _ t hk ?_ fun a ha => ?_
  · rw [numAt_eq]; exact PySem.getD_mem (by rw [List.length_map, Array.length_toList]; omega)
  · obtain ⟨j, hj, rfl⟩ := mem_getD ha
    rw [List.length_map, Array.length_toList] at hj
    rw [← numAt_eq]; exact h2 j (by omega)
end
end PD
namespace PD
open PySem PySem.Spec PyProof.Rows L2
section
variable {X : Cx} {W : WX} {a b c e o i tg iter elt : Expr} {es : List Expr} {fa fb fc : Den} {ga gb : Dens} {pos p p1 p2 : Pos} {st : Stmt} {sts rest : List Stmt} {g h : SDen}

/-! ### sum, abs, lcm, the least and the greatest of a list -/
abbrev rSumA (K : PySem.W.Frag) : List V → Hp → VK → Prop := fun vs H Q => ∃ (a : Addr) (ns : List Int), vs = [V.ref a] ∧ (SqL K H a (ns.map V.int) ∨ SqT K H a (ns.map V.int)) ∧ Q (.int ns.sum) H
theorem call_sumA (hc : X.calm = true) : CallR X (.builtin "sum") (rSumA X.K) := by
  intro pins s σ H vs us Q J r h
  obtain ⟨a, ns, rfl, hs | hs, q⟩ := h
  · exact cr_sum hc pins s σ H _ us Q J r ⟨a, ns, rfl, hs, q⟩
  · obtain ⟨its, rv, hl, _⟩ := J.tuple hs
    rw [Vals.ref1 r]
    have hi := rv.ints
    obtain ⟨xs, e⟩ := hi.allInts.items
    have hn : numsOf (intItems xs).toList = ns := by rw [← e]; exact hi.numsOf
    rw [nums_intItems] at hn
    rw [e] at hl
    refine PySem.W.ktm_sumG (J.ok.hd hc) hl fun h' tk t' hk => ⟨.int ns.sum, H, J.kept hk, ?_, q⟩
    rw [preSum_eq, List.take_of_length_le (by simp), hn]
    exact ⟨_, rfl⟩
def oSum : Op := fun ds S => match ds with
  | [d] => (asSeq S d).bind fun xs => (intsD xs).map fun ns => .ok (.int ns.sum) S
  | _ => none
theorem callD_sum : CallD X (rSumA X.K) oSum := by
  intro H mu S vs ds res W σ Q s r ho q
  match ds, ho with
  | [d], ho =>
    obtain ⟨v, rfl, rv⟩ := reps1 r
    obtain ⟨xs, h1, h2⟩ := bind_two ho
    obtain ⟨ns, h3, rfl⟩ := Option.map_eq_some_iff.mp h2
    obtain ⟨a, ws, rfl, hq, rw_⟩ := rep_seq s rv h1
    have e := ints_ok rw_ h3
    subst e
    exact ⟨a, ns, rfl, hq, q.val s (.int _)⟩
def oAbs : Op := fun ds S => match ds with
  | [.int i] => some (.ok (.int (if i < 0 then -i else i)) S)
  | _ => none
theorem callD_abs : CallD X (fun xs H Q => ∃ i, xs = [.int i] ∧ Q (.int (if i < 0 then -i else i)) H) oAbs := by
  intro H mu S vs ds res W σ Q s r ho q
  unfold oAbs at ho
  split at ho
  · cases ho
    obtain ⟨v, rfl, r1⟩ := reps1 r
    cases r1
    exact ⟨_, rfl, q.val s (.int _)⟩
  · cases ho
abbrev rLcm : List V → Hp → VK → Prop := fun vs H Q => ∃ i j : Int, vs = [.int i, .int j] ∧ i.natAbs < 2 ^ 64 ∧ j.natAbs < 2 ^ 64 ∧ Q (.int ((Nat.lcm i.natAbs j.natAbs : Nat) : Int)) H
theorem call_lcm : CallR X (.builtin "math.lcm") rLcm := by
  intro pins s σ H vs us Q J r h
  obtain ⟨i, j, rfl, h1, h2, q⟩ := h
  obtain ⟨t, u, rfl⟩ := Vals.int2 r
  exact PySem.W.mc_lcm h1 h2 fun _ => ⟨.int _, H, J.tok _, ⟨_, rfl⟩, q⟩
def oLcm : Op := fun ds S => match ds with
  | [.int i, .int j] => if i.natAbs < 2 ^ 64 ∧ j.natAbs < 2 ^ 64 then some (.ok (.int ((Nat.lcm i.natAbs j.natAbs : Nat) : Int)) S) else none
  | _ => none
theorem callD_lcm : CallD X rLcm oLcm := by
  intro H mu S vs ds res W σ Q s r ho q
  unfold oLcm at ho
  split at ho
  · split at ho
    · rename_i hz
      cases ho
      obtain ⟨v, v2, rfl, r1, r2⟩ := reps2 r
      cases r1; cases r2
      exact ⟨_, _, rfl, hz.1, hz.2, q.val s (.int _)⟩
    · cases ho
  · cases ho
def greatest : List Int → Option Int
  | [] => none
  | x :: xs => match greatest xs with
    | none => some x
    | some y => some (if x < y then y else x)
def least : List Int → Option Int
  | [] => none
  | x :: xs => match least xs with
    | none => some x
    | some y => some (if y < x then y else x)
theorem greatest_ok : ∀ {xs : List Int} {m : Int}, greatest xs = some m → m ∈ xs ∧ ∀ y ∈ xs, y ≤ m
  | [], _, h => by cases h
  | x :: xs, m, h => by
    unfold greatest at h
    split at h
    · rename_i hn
      cases h
      have : xs = [] := by
        cases xs with
        | nil => rfl
        | cons z zs => unfold greatest at hn; split at hn <;> cases hn
      subst this
      simp
    · rename_i y hy
      obtain ⟨h1, h2⟩ := greatest_ok hy
      cases h
      split
      · exact ⟨List.mem_cons_of_mem _ h1, fun z hz => by rcases List.mem_cons.mp hz with e | e; (subst e; omega); exact h2 z e⟩
      · exact ⟨List.mem_cons_self, fun z hz => by rcases List.mem_cons.mp hz with e | e; (subst e; omega); (have := h2 z e; omega)⟩
theorem least_ok : ∀ {xs : List Int} {m : Int}, least xs = some m → m ∈ xs ∧ ∀ y ∈ xs, m ≤ y
  | [], _, h => by cases h
  | x :: xs, m, h => by
    unfold least at h
    split at h
    · rename_i hn
      cases h
      have : xs = [] := by
        cases xs with
        | nil => rfl
        | cons z zs => unfold least at hn; split at hn <;> cases hn
      subst this
      simp
    · rename_i y hy
      obtain ⟨h1, h2⟩ := least_ok hy
      cases h
      split
      · exact ⟨List.mem_cons_of_mem _ h1, fun z hz => by rcases List.mem_cons.mp hz with e | e; (subst e; omega); exact h2 z e⟩
      · exact ⟨List.mem_cons_self, fun z hz => by rcases List.mem_cons.mp hz with e | e; (subst e; omega); (have := h2 z e; omega)⟩
abbrev rMaxA (K : PySem.W.Frag) : List V → Hp → VK → Prop := fun vs H Q => ∃ (a : Addr) (ns : List Int), vs = [V.ref a] ∧ (SqL K H a (ns.map V.int) ∨ SqT K H a (ns.map V.int)) ∧ 0 < ns.length ∧ ∀ m, m ∈ ns → (∀ y, y ∈ ns → y ≤ m) → Q (.int m) H
theorem call_maxA (hc : X.calm = true) : CallR X (.builtin "max") (rMaxA X.K) := by
  intro pins s σ H vs us Q J r h
  obtain ⟨a, ns, rfl, hs | hs, hne, q⟩ := h
  · exact cr_max hc pins s σ H _ us Q J r ⟨a, ns, rfl, hs, hne, q⟩
  · obtain ⟨its, rv, hl, _⟩ := J.tuple hs
    rw [Vals.ref1 r]
    exact max_rawT (J.ok.hd hc) hl rv.ints hne fun h' tk m t' hk h1 h2 => ⟨.int m, H, J.kept hk, ⟨_, rfl⟩, q m h1 h2⟩
def oMaxL : Op := fun ds S => match ds with
  | [d] => (asSeq S d).bind fun xs => (intsD xs).bind fun ns => (greatest ns).map fun m => .ok (.int m) S
  | _ => none
def oMinL : Op := fun ds S => match ds with
  | [d] => (asList S d).bind fun xs => (intsD xs).bind fun ns => (least ns).map fun m => .ok (.int m) S
  | _ => none
theorem callD_maxL : CallD X (rMaxA X.K) oMaxL := by
  intro H mu S vs ds res W σ Q s r ho q
  match ds, ho with
  | [d], ho =>
    obtain ⟨v, rfl, rv⟩ := reps1 r
    obtain ⟨xs, h1, h2⟩ := bind_two ho
    obtain ⟨ns, h3, h4⟩ := bind_two h2
    obtain ⟨m, h5, rfl⟩ := Option.map_eq_some_iff.mp h4
    obtain ⟨a, ws, rfl, hq, rw_⟩ := rep_seq s rv h1
    have e := ints_ok rw_ h3
    subst e
    obtain ⟨h6, h7⟩ := greatest_ok h5
    refine ⟨a, ns, rfl, hq, List.length_pos_of_mem h6, fun k hk1 hk2 => ?_⟩
    have : k = m := Int.le_antisymm (h7 k hk1) (hk2 m h6)
    subst this
    exact q.val s (.int _)
theorem callD_minL : CallD X (rMin X.K) oMinL := by
  intro H mu S vs ds res W σ Q s r ho q
  match ds, ho with
  | [d], ho =>
    obtain ⟨v, rfl, rv⟩ := reps1 r
    obtain ⟨xs, h1, h2⟩ := bind_two ho
    obtain ⟨ns, h3, h4⟩ := bind_two h2
    obtain ⟨m, h5, rfl⟩ := Option.map_eq_some_iff.mp h4
    obtain ⟨a, ws, rfl, hq, rw_⟩ := rep_list s rv h1
    have e := ints_ok rw_ h3
    subst e
    obtain ⟨h6, h7⟩ := least_ok h5
    refine ⟨a, ns, rfl, .of hq, List.length_pos_of_mem h6, fun k hk1 hk2 => ?_⟩
    have : k = m := Int.le_antisymm (hk2 m h6) (h7 k hk1)
    subst this
    exact q.val s (.int _)
end
end PD
set_option Elab.async false
set_option linter.all false
set_option maxRecDepth 100000
set_option maxHeartbeats 4000000
namespace PD
open PySem PySem.Spec PyProof.Rows L2 He
/-! ### what the written part says of the own error classes, as Booleans -/
theorem and2 {a b : Bool} (h : (a && b) = true) : a = true ∧ b = true := Bool.and_eq_true_iff.mp h
def oexB (K : PySem.W.Frag) (C : Addr) : Bool := (match K.lookup C with
  | some o => match o.cls, o.data with
    | .type t, .cls cd => t == "type" && (match cd.mro, o.slots.toList with
      | .ref D :: bm, [_, _, _, _, some (.builtin n), _] => D == C && (n == "ValueError.__new__" && (!cd.hasDel && (cd.hasDict && PySem.HandSPX.refsVE bm)))
      | _, _ => false)
    | _, _ => false
  | none => false) && (eqO (PySem.W.findIn K (.ref C) "__setattr__") (some (some (.builtin "object.__setattr__"))) && (decide (PySem.W.subIn K (.ref C) (.type "BaseException") = some true) && (decide (PySem.W.typeIn K (.ref C) = some (.type "type")) && PySem.W.keepIn K (.ref C))))
theorem oexB_ok {K : PySem.W.Frag} {C : Addr} (h : oexB K C = true) : OexC K C := by
  obtain ⟨h1, h⟩ := and2 h
  obtain ⟨h2, h⟩ := and2 h
  obtain ⟨h3, h⟩ := and2 h
  obtain ⟨h4, h5⟩ := and2 h
  refine ⟨?_, eqO_ok h2, of_decide_eq_true h3, of_decide_eq_true h4, h5⟩
  cases e : K.lookup C with
  | none => rw [e] at h1; cases h1
  | some o =>
    rw [e] at h1
    obtain ⟨oc, od, dt, sl⟩ := o
    cases oc with
    | type t =>
      cases dt with
      | cls cd =>
        obtain ⟨g1, g2⟩ := and2 h1
        have et : t = "type" := eq_of_beq g1
        subst et
        obtain ⟨nm, bs, mro, ns, qn, hd, sn, sub, ab, col, del⟩ := cd
        simp only at g2
        split at g2
        · rename_i D bm s1 s2 s3 s4 n s6 hs
          obtain ⟨k1, g2⟩ := and2 g2
          obtain ⟨k2, g2⟩ := and2 g2
          obtain ⟨k3, g2⟩ := and2 g2
          obtain ⟨k4, k5⟩ := and2 g2
          have e1 : D = C := eq_of_beq k1
          have e2 : n = "ValueError.__new__" := eq_of_beq k2
          have e3 : del = false := by cases del with
            | false => rfl
            | true => cases k3
          subst e1 e2 e3
          have e4 : hd = true := k4
          subst e4
          have e5 : sl = #[s1, s2, s3, s4, some (.builtin "ValueError.__new__"), s6] := by
            obtain ⟨l⟩ := sl
            simp only at hs
            rw [hs]
          subst e5
          exact ⟨nm, qn, ns, bs, bm, sn, sub, ab, col, od, s1, s2, s3, s4, s6, rfl, k5⟩
        · cases g2
      | _ => cases h1
    | _ => cases dt <;> cases h1
def erisB (K : PySem.W.Frag) (C : Addr) : Bool := eqO (PySem.W.findIn K (.ref C) "__getattribute__") (some (some (.builtin "BaseException.__getattribute__"))) && (eqO (PySem.W.findIn K (.ref C) "__getattr__") (some none) && (decide (PySem.W.subIn K (.ref C) (.type "BaseException") = some true) && (PySem.W.hasDictIn K C &&
  (eqO (PySem.W.findIn K (.ref C) "__class__") (some (some (.builtin "object.__class__"))) && (eqO (PySem.W.specialIn K (.builtin "object.__class__") "__get__") (some (some (.builtin "getset_descriptor.__get__"))) && (decide (PySem.W.takesIn K (.builtin "object.__class__") = some true) && decide (PySem.W.mroIn K C (.type "object") = some true)))))))
theorem erisB_ok {K : PySem.W.Frag} {C : Addr} (h : erisB K C = true) : ErrIs K C := by
  obtain ⟨h1, h⟩ := and2 h
  obtain ⟨h2, h⟩ := and2 h
  obtain ⟨h3, h⟩ := and2 h
  obtain ⟨h4, h⟩ := and2 h
  obtain ⟨h5, h⟩ := and2 h
  obtain ⟨h6, h⟩ := and2 h
  obtain ⟨h7, h8⟩ := and2 h
  exact ⟨eqO_ok h1, eqO_ok h2, of_decide_eq_true h3, h4, eqO_ok h5, eqO_ok h6, of_decide_eq_true h7, of_decide_eq_true h8⟩
theorem ErrIs.xf {K : PySem.W.Frag} {C : Addr} (h : ErrIs K C) : XfC K C := ⟨h.c1, h.c2, h.c3, h.c4⟩
/-- a class named: an own one of the module, or a built-in type -/
inductive Cn where
  | own (x : Str)
  | bty (T : String)
def Cn.val (K : PySem.W.Frag) : Cn → Value
  | .own x => .ref (ga K x)
  | .bty T => .type T
/-- facts of the classes of errors -/
inductive Fe where
  /-- an own class with an own __init__ -/
  | oex (x : Str)
  | no (x f : Str)
  | is_ (x : Str) (c : Cn) (b : Bool)
  | ex (x : Str) (c : Cn) (b : Bool)
  | con (x id : String)
def Fe.ok (K : PySem.W.Frag) : Fe → Bool
  | .oex x => oexB K (ga K x) && (erisB K (ga K x) && (eqO (PySem.W.findIn K (.ref (ga K x)) "__init__") (some (some (.ref (ma K (ga K x) "__init__")))) && decide (PySem.W.typeIn K (.ref (ma K (ga K x) "__init__")) = some (.type "function"))))
  | .no x f => eqO (PySem.W.findIn K (.ref (ga K x)) f) (some none)
  | .is_ x c b => decide (PySem.W.kitOne K (.ref (ga K x)) (c.val K) = some b)
  | .ex x c b => decide (PySem.W.exmOne K (.ref (ga K x)) (c.val K) = some b)
  | .con x id => eqO (PySem.W.nsIn K mainGlobals (Str.ofString x)) (some (some (.builtin id)))
abbrev AlE : Type := Bool × AlD
def obsE (fa : List Fa) (fn : List DefD) (fe : List Fe) (K : PySem.W.Frag) : AlE := (fe.all fun f => f.ok K, obsD fa fn K)
def valE (fn : List DefD) : AlE := (true, valD fn)
def SaysE (fa : List Fa) (fn : List DefD) (fe : List Fe) (K : PySem.W.Frag) : Prop := obsE fa fn fe K = valE fn
def obsEG (n : Nat) (fa : List Fa) (fn : List DefD) (fe : List Fe) (g : Addr → Option Obj) : AlE := obsE fa fn fe (frG g (asD g n))
def hookE (n : Nat) (fa : List Fa) (fn : List DefD) (fe : List Fe) : PySem.W.Hook where
  α := AlE
  obs := fun s => obsEG n fa fn fe s.heap.get?
  val := fun _ => valE fn
  says := fun _ h => ∃ K : PySem.W.Frag, K.In h ∧ SaysE fa fn fe K
  of := fun _ _ e => ⟨_, frG_in, e⟩
  keeps := fun _ _ _ ⟨K, hK, c⟩ k => ⟨K, PySem.W.Frag.In.keeps hK k, c⟩
theorem obsEG_eq {n : Nat} {fa : List Fa} {fn : List DefD} {fe : List Fe} {g : Addr → Option Obj} {s : Shared} (h : ∀ a, g a = s.heap.get? a) : obsEG n fa fn fe g = (hookE n fa fn fe).obs s := by
  have e : g = s.heap.get? := funext h
  rw [e] <;> rfl
section
variable {fa : List Fa} {fn : List DefD} {fe : List Fe} {K : PySem.W.Frag}
theorem SaysE.d (c : SaysE fa fn fe K) : SaysD fa fn K := congrArg (fun z : AlE => z.2) c
theorem SaysE.err (c : SaysE fa fn fe K) {f : Fe} (h : f ∈ fe) : f.ok K = true := by
  have h1 : (fe.all fun f => f.ok K) = true := congrArg (fun z : AlE => z.1) c
  exact List.all_eq_true.mp h1 f h
end
end PD
set_option Elab.async false
set_option linter.all false
set_option maxRecDepth 100000
set_option maxHeartbeats 4000000
namespace PD
open PySem PySem.Spec PyProof.Rows L2
section
variable {X : Cx} {W : WX} {a b c e o i tg iter elt : Expr} {es : List Expr} {fa fb fc : Den} {ga gb : Dens} {pos p p1 p2 : Pos} {st : Stmt} {sts rest : List Stmt} {g h : SDen}

/-! ### a call that is handed lists which may change: it sees them as they stand, and gives back no list -/
mutual
def plain : D → Bool
  | .tup xs => plains xs
  | .non => true
  | .bl _ => true
  | .int _ => true
  | .str _ => true
  | _ => false
def plains : List D → Bool
  | [] => true
  | x :: xs => plain x && plains xs
end
section
variable {K : PySem.W.Frag} {mg : Str → Option Value} {H H1 : Hp} {mu m1 : List Addr} {S S1 : Store}
theorem no_tup (s : StOk K mg H mu S) {a : Addr} {xs : List V} (h : Rd H a (.tup xs)) : a ∉ mu := fun z => by
  obtain ⟨n, hn⟩ := List.getElem?_of_mem z
  have hl : n < S.length := by rw [← s.len]; exact (List.getElem?_eq_some_iff.mp hn).1
  obtain ⟨vs, hv, _⟩ := s.at_ n a _ hn (List.getElem?_eq_getElem hl)
  rcases h with h | ⟨o, h⟩ <;> rw [hv] at h <;> cases h
mutual
theorem rep_plain (s : StOk K mg H mu S) : ∀ {v : V} {d : D}, plain d = true → Rep K mg H [] v d → Rep K mg H mu v d
  | _, _, _, .non => .non
  | _, _, _, .bl b => .bl b
  | _, _, _, .int i => .int i
  | _, _, _, .str i => .str i
  | _, _, h, .tup hq r => .tup (hq.elim (fun z => .inl ⟨z.1, no_tup s z.1⟩) .inr) (reps_plain s (by simpa [plain] using h) r)
  | _, _, h, .lst .. => by simp [plain] at h
  | _, _, h, .ref .. => by simp [plain] at h
  | _, _, h, .scr .. => by simp [plain] at h
  | _, _, h, .err .. => by simp [plain] at h
  | _, _, h, .rng .. => by simp [plain] at h
  | _, _, h, .cau .. => by simp [plain] at h
theorem reps_plain (s : StOk K mg H mu S) : ∀ {vs : List V} {ds : List D}, plains ds = true → Reps K mg H [] vs ds → Reps K mg H mu vs ds
  | _, _, _, .nil => .nil
  | _, _, h, .cons r t => by
    simp only [plains, Bool.and_eq_true] at h
    exact .cons (rep_plain s h.1 r) (reps_plain s h.2 t)
end
theorem ext_all (x : Ext H [] H1 []) : Ext H mu H1 mu := ⟨List.prefix_refl _, fun a o h _ => x.keep a o h List.not_mem_nil, fun _ h n => absurd h n⟩
theorem st_all (s : StOk K mg H mu S) (x : Ext H [] H1 []) : StOk K mg H1 mu S := ⟨s.nd, s.len, fun n a ds h1 h2 => by
  obtain ⟨vs, hv, hr⟩ := s.at_ n a ds h1 h2
  exact ⟨vs, x.keep a _ hv List.not_mem_nil, hr.mono (ext_all x)⟩⟩
theorem st_none : StOk K mg H [] [] := ⟨.nil, rfl, fun n a ds h => by simp at h⟩
theorem fz_all (s : StOk K mg H mu S) {vs : List V} {ds ds' : List D} (r : Reps K mg H mu vs ds) (h : fzs S 0 ds = some ds') : Reps K mg H [] vs ds' :=
  reps_map (List.nil_prefix) (fzg_ok s List.nil_prefix 3) r h
end
def dFnZ (n : Nat) (F : Op) (g : Dens) : Den := fun ρ S => bndl (g ρ S) fun ds S1 => match fzs S1 0 ds with
  | some ds' => if ds.length = n then (match F ds' [] with
    | some (.ok d _) => if plain d then some (.ok d S1) else none
    | some (.exc c ns xs _) => if plains xs then some (.exc c ns xs S1) else none
    | none => none) else none
  | none => none
theorem de_callZ {k : Nat} {f : Addr} {fd : FuncData} {ps : List Str} {F : Op} {x : Str} (G : FnD X.prog X.w X.K X.mg X.base k f fd ps F) (hr : Room k X.A) (tk : L2N.Takes X W) (hm : X.mg x = some (.ref f)) (hk : PySem.W.keepIn X.K (.ref f) = true) (hb : Binds X.K fd ps [])
    (ha : DA X W (e :: es) ga) (hg : Gl X x := by rfl) (hdb : (x == ("__debug__" : Str)) = false := by decide) (he : starEach (e :: es) X.env = (false, eval e X.env) :: starEach es X.env := by rfl) (hpl : (backTo pos (starEach es X.env)).any (·.1) = false := by rfl) :
    DE X W (.Call (.Name x p) (e :: es) [] pos) (dFnZ ps.length F ga) := by
  refine peI (pe_callSD (E := WE W) (dvs := []) G hr hg hm hk hb .nil (fun σ => L2N.passAt tk σ) ha hdb he hpl) fun σ H Q h => ?_
  obtain ⟨mu, S, ρ, res, s, en, hf, q⟩ := h
  refine rds_bndl s en hf q fun ds S1 vs H1 m1 x s1 en1 rp h1 q1 => ?_
  rw [List.append_nil]
  split at h1
  · rename_i ds' hz
    split at h1
    · rename_i hl
      cases e1 : F ds' [] with
      | none => rw [e1] at h1; cases h1
      | some r1 =>
        rw [e1] at h1
        refine ⟨rp.length.trans hl, [], [], ds', r1, st_none, fz_all s1 rp hz, e1, ?_⟩
        cases r1 with
        | ok d S' =>
          simp only at h1
          split at h1
          · rename_i hp
            cases h1
            exact fun v H2 x2 s2 r2 => q1 v H2 m1 (ext_all x2) (st_all s1 x2) (rep_plain (st_all s1 x2) hp r2)
          · cases h1
        | exc c ns xs S' =>
          simp only at h1
          split at h1
          · rename_i hp
            cases h1
            intro C dx ws H2 x2 s2 hm2 hd hn hl2 r2
            have s3 := st_all s1 x2
            have nd : dx ∉ m1 := fun z => by
              obtain ⟨n, hn'⟩ := List.getElem?_of_mem z
              have hl3 : n < S1.length := by rw [← s3.len]; exact (List.getElem?_eq_some_iff.mp hn').1
              obtain ⟨us, hv, _⟩ := s3.at_ n dx _ hn' (List.getElem?_eq_getElem hl3)
              rw [hv] at hd
              cases hd
            exact q1 C dx ws H2 m1 (ext_all x2) s3 hm2 hd nd hl2 (reps_plain s3 hp r2)
          · cases h1
    · cases h1
  · cases h1
end
end PD
set_option Elab.async false
set_option linter.all false
set_option maxRecDepth 100000
set_option maxHeartbeats 4000000
namespace PD
open PySem PySem.Spec PyProof.Rows L2
section
variable {X : Cx} {W : WX} {a b c e o i tg iter elt : Expr} {es : List Expr} {fa fb fc : Den} {ga gb : Dens} {pos p p1 p2 : Pos} {st : Stmt} {sts rest : List Stmt} {g h : SDen}
theorem de_notT (ha : DE X W a fa) : DE X W (.UnaryOp .Not a pos) (dNotT fa) := by
  refine peI (pe_notT ha) fun σ H Q h => ?_
  obtain ⟨mu, S, ρ, r, s, en, hf, p⟩ := h
  unfold dNotT dNot dTru at hf
  cases e : fa ρ S with
  | none => rw [e] at hf; cases hf
  | some r1 =>
    rw [e] at hf
    cases r1 with
    | exc c ns xs S1 =>
      cases hf
      exact ⟨mu, S, ρ, _, s, en, e, p⟩
    | ok d S1 =>
      refine ⟨mu, S, ρ, _, s, en, e, fun v H1 m1 x s1 rp => ?_⟩
      cases e2 : truth S1 d with
      | none =>
        simp only [bnd_ok, e2, Option.map_none, bndB, bnd_none] at hf
        cases hf
      | some k =>
        simp only [bnd_ok, e2, Option.map_some, bndB] at hf
        cases hf
        exact ⟨k, rep_truth s1 rp e2, (p.mono x).val s1 (.bl _)⟩

/-! ### a def of the text, with what it does -/
/-- the def named x, at rank k, has the denotation F -/
structure Callee (P : Program) (w : World) (K : PySem.W.Frag) (mg : Str → Option Value) (base : Heap) (k : Nat) (x : Str) (st : Stmt) (ps : List Str) (F : Op) : Prop where
  gl : mg x = some (.ref (He.ga K x))
  ex : ∃ fd, FunD K x x (defArgs st) (defBody st) (defScope st) [] [] (He.ga K x) fd ∧ FnD P w K mg base k (He.ga K x) fd ps F
/-- the same in an except suite -/
structure CalleeH (P : Program) (w : World) (K : PySem.W.Frag) (mg : Str → Option Value) (base : Heap) (k : Nat) (x : Str) (st : Stmt) (ps : List Str) (F : Op) : Prop where
  gl : mg x = some (.ref (He.ga K x))
  ex : ∃ fd, FunD K x x (defArgs st) (defBody st) (defScope st) [] [] (He.ga K x) fd ∧ FnDH P w K mg base k (He.ga K x) fd ps F
/-- what is written binds the parameters, one by one -/
def BindsAll (x : Str) (st : Stmt) (ps : List Str) : Prop := ∀ (kV doc pm : Value) (an : Option Addr) (cdv ct : Value) (us : List Value), us.length = ps.length → bindArgs (PySem.W.fnOf x x (defArgs st) (defBody st) (defScope st) .none kV doc pm an cdv ct) ⟨us, []⟩ = pure (ps.zip us)
def BindsKw (x : Str) (st : Stmt) (ps ks : List Str) (ix : List Nat) : Prop := ∀ (kV doc pm : Value) (an : Option Addr) (cdv ct : Value) (ws : List Value), ws.length = ks.length → bindArgs (PySem.W.fnOf x x (defArgs st) (defBody st) (defScope st) .none kV doc pm an cdv ct) ⟨[], ks.zip ws⟩ = pure (ps.zip (permL ix ws))
theorem kwB_of {K : PySem.W.Frag} {x : Str} {st : Stmt} {f : Addr} {fd : FuncData} {ps ks : List Str} {ix : List Nat} (F : FunD K x x (defArgs st) (defBody st) (defScope st) [] [] f fd) (h : BindsKw x st ps ks ix) : KwB K fd ps ks ix := by
  obtain ⟨oc, od, dV, kV, doc, pm, an, cdv, ct, osl, rfl, lk, hcd, hD, hK⟩ := F.ex
  rcases hD with ⟨_, rfl⟩ | ⟨e, _⟩
  · exact ⟨fun s ws X hl => .of_eq (h kV doc pm an cdv ct ws hl)⟩
  · exact absurd rfl e
theorem de_callC {k j : Nat} {ps : List Str} {F : Op} {x : Str} {st : Stmt} (G : Callee X.prog X.w X.K X.mg X.base k x st ps F) (hb : BindsAll x st ps) (hr : Room j X.A) (hk : k ≤ j) (tk : L2N.Takes X W)
    (ha : DA X W (e :: es) ga) (hg : Gl X x := by rfl) (hdb : (x == ("__debug__" : Str)) = false := by decide) (he : starEach (e :: es) X.env = (false, eval e X.env) :: starEach es X.env := by rfl) (hpl : (backTo pos (starEach es X.env)).any (·.1) = false := by rfl) :
    DE X W (.Call (.Name x p) (e :: es) [] pos) (dFn ps.length F ga) := by
  obtain ⟨fd, FD, G2⟩ := G.ex
  exact de_call G2 (hr.mono hk) tk G.gl FD.kp (FD.bindsN hb) ha hg hdb he hpl
theorem de_callZC {k j : Nat} {ps : List Str} {F : Op} {x : Str} {st : Stmt} (G : Callee X.prog X.w X.K X.mg X.base k x st ps F) (hb : BindsAll x st ps) (hr : Room j X.A) (hk : k ≤ j) (tk : L2N.Takes X W)
    (ha : DA X W (e :: es) ga) (hg : Gl X x := by rfl) (hdb : (x == ("__debug__" : Str)) = false := by decide) (he : starEach (e :: es) X.env = (false, eval e X.env) :: starEach es X.env := by rfl) (hpl : (backTo pos (starEach es X.env)).any (·.1) = false := by rfl) :
    DE X W (.Call (.Name x p) (e :: es) [] pos) (dFnZ ps.length F ga) := by
  obtain ⟨fd, FD, G2⟩ := G.ex
  exact de_callZ G2 (hr.mono hk) tk G.gl FD.kp (FD.bindsN hb) ha hg hdb he hpl
theorem de_callHC {k j : Nat} {ps : List Str} {F : Op} {x : Str} {st : Stmt} (G : CalleeH X.prog X.w X.K X.mg X.base k x st ps F) (hb : BindsAll x st ps) (hr : L2H.RoomH j X.A) (hk : k ≤ j) (hc : L2H.HotC X) (tk : L2N.Takes X W)
    (ha : DA X W (e :: es) ga) (hg : Gl X x := by rfl) (hdb : (x == ("__debug__" : Str)) = false := by decide) (he : starEach (e :: es) X.env = (false, eval e X.env) :: starEach es X.env := by rfl) (hpl : (backTo pos (starEach es X.env)).any (·.1) = false := by rfl) :
    DE X W (.Call (.Name x p) (e :: es) [] pos) (dFn ps.length F ga) := by
  obtain ⟨fd, FD, G2⟩ := G.ex
  exact de_callH G2 (hr.mono hk) hc tk G.gl FD.kp (FD.bindsN hb) ha hg hdb he hpl
theorem de_callKC {k j : Nat} {ps ks : List Str} {F : Op} {x : Str} {st : Stmt} {kws : List Keyword} (ix : List Nat) (G : Callee X.prog X.w X.K X.mg X.base k x st ps F) (hb : BindsKw x st ps ks ix) (hr : Room j X.A) (hk : k ≤ j) (tk : L2N.Takes X W)
    (ha : DK X W kws ga) (hg : Gl X x := by rfl) (hall : (backToKw pos (keywordEach kws X.env)).all (·.1.isSome) = true := by rfl) (hks : (backToKw pos (keywordEach kws X.env)).filterMap (·.1) = ks := by rfl)
    (hdb : (x == ("__debug__" : Str)) = false := by decide) (hpl : ((backTo pos (starEach [] X.env)).any (·.1) || (backToKw pos (keywordEach kws X.env)).any (·.1.isNone)) = false := by rfl) :
    DE X W (.Call (.Name x p) [] kws pos) (dFnK ps.length ks.length ix F ga) := by
  obtain ⟨fd, FD, G2⟩ := G.ex
  exact de_callK ix G2 (hr.mono hk) tk G.gl FD.kp (kwB_of FD hb) ha hg hall hks hdb hpl
end
end PD
set_option Elab.async false
set_option linter.all false
set_option maxRecDepth 100000
set_option maxHeartbeats 4000000
namespace PD
open PySem PySem.Spec PyProof.Rows L2
/-- the own error class named c -/
structure OwnErr (K : PySem.W.Frag) (mg : Str → Option Value) (c : Str) : Prop where
  gl : mg c = some (.ref (He.ga K c))
  ox : OexC K (He.ga K c)
  is_ : ErrIs K (He.ga K c)
  ini : PySem.W.findIn K (.ref (He.ga K c)) "__init__" = some (some (.ref (He.ma K (He.ga K c) "__init__")))
  tyi : PySem.W.typeIn K (.ref (He.ma K (He.ga K c) "__init__")) = some (.type "function")
section
variable {K : PySem.W.Frag} {mg : Str → Option Value} {c f : Str} {cv : Value} {b : Bool}
theorem OwnErr.at_ (x : OwnErr K mg c) {C : Addr} (h : mg c = some (.ref C)) : C = He.ga K c := by
  have e := h.symm.trans x.gl
  injection e with e
  injection e
theorem errAt (x : OwnErr K mg c) (h : PySem.W.findIn K (.ref (He.ga K c)) f = some none) : ErrAt K mg c f := ⟨fun C hC => by
  rw [x.at_ hC]
  exact ⟨x.is_.xf, h⟩⟩
theorem isTab1 (x : OwnErr K mg c) (h : PySem.W.kitOne K (.ref (He.ga K c)) cv = some b) : IsTab K mg cv [(c, b)] := fun c' b' hl C hC => by
  rw [List.lookup_cons] at hl
  split at hl
  · rename_i e
    have e' : c' = c := eq_of_beq e
    cases hl
    subst e'
    rw [x.at_ hC]
    exact ⟨x.is_, h⟩
  · cases hl
theorem exTab1 (x : OwnErr K mg c) (h : PySem.W.exmOne K (.ref (He.ga K c)) cv = some b) : ExTab K mg cv [(c, b)] := fun c' b' hl C hC => by
  rw [List.lookup_cons] at hl
  split at hl
  · rename_i e
    have e' : c' = c := eq_of_beq e
    cases hl
    subst e'
    rw [x.at_ hC]
    exact h
  · cases hl
theorem tab1 {c' : Str} {b b' : Bool} (h : List.lookup c' [(c, b)] = some b') : c' = c := by
  rw [List.lookup_cons] at h
  split at h
  · rename_i e
    exact eq_of_beq e
  · cases h
end
/-- a comprehension's block, as a Boolean -/
def blkB (N : List Str) (sc scope : Scope) (own : List (Str × Nat)) : Bool := decide (scope.kind = .function) && (scope.names.all (fun y => decide (scope.names.lookup y.1 = some y.2)) && (own.all (fun p => decide (N[p.2]? = some p.1)) &&
  (scope.names.all (fun y => decide (y.2 ≠ .free) || (decide (sc.names.lookup y.1 = some .cell) || decide (sc.names.lookup y.1 = some .free))) && scope.names.all fun y => (decide (y.2 ≠ .local) && decide (y.2 ≠ .cell)) || (decide (y.1 ∈ own.map (·.1)) || decide (y.1 ∉ N)))))
theorem blkB_ok {N : List Str} {sc scope : Scope} {own : List (Str × Nat)} (h : blkB N sc scope own = true) : BlkOk N sc scope own := by
  unfold blkB at h
  simp only [Bool.and_eq_true, List.all_eq_true, decide_eq_true_eq, Bool.or_eq_true] at h
  obtain ⟨h1, h2, h3, h4, h5⟩ := h
  refine ⟨h1, h2, h3, fun y hy e => ?_, fun y hy e => ?_⟩
  · rcases h4 y hy with z | z
    · exact absurd e z
    · exact z
  · rcases h5 y hy with z | z
    · rcases e with e | e
      · exact absurd e z.1
      · exact absurd e z.2
    · exact z
theorem roomH_units {k : Nat} {A : Around} (r : L2H.RoomH k A) : A.units + 64 < cLine := by have := r.un; omega
theorem roomH_suite {k : Nat} {A : Around} {v : Option Value} (r : Room k A) : L2H.RoomH k (A.mark v) := ⟨r.dp, r.un⟩
/-- an own __init__ of two fields -/
def InitC2 (P : Program) (w : World) (K : PySem.W.Frag) (mg : Str → Option Value) (base : Heap) (f : Addr) (ps : List Str) (f1 f2 : Str) : Prop := ∃ fd, FnOk P w K mg base (L2N.CX P w) 1 f fd ps (spInit2 K f1 f2) ∧ L2.Binds K fd ps []
def InitC1 (P : Program) (w : World) (K : PySem.W.Frag) (mg : Str → Option Value) (base : Heap) (f : Addr) (ps : List Str) (f1 : Str) : Prop := ∃ fd, FnOk P w K mg base (L2N.CX P w) 1 f fd ps (spInit1 K f1) ∧ L2.Binds K fd ps []
section
variable {X : Cx} {W : WX} {e b : Expr} {ga : Dens} {pos p p1 : Pos}
theorem raise2C {c f1 f2 : Str} {j : Nat} {ps : List Str} (x : OwnErr X.K X.mg c) (n1 : PySem.W.findIn X.K (.ref (He.ga X.K c)) f1 = some none) (n2 : PySem.W.findIn X.K (.ref (He.ga X.K c)) f2 = some none)
    (i : InitC2 X.prog X.w X.K X.mg X.base (He.ma X.K (He.ga X.K c) "__init__") ps f1 f2) (hr : Room j X.A) (hj : 2 ≤ j) (hc : X.calm = true) (tk : L2N.Takes X W) (ha : DA X W [e, b] ga) (hg : Gl X c := by rfl) (hdb : (c == ("__debug__" : Str)) = false := by decide)
    (he : starEach [e, b] X.env = (false, eval e X.env) :: starEach [b] X.env := by rfl) (hpl : (backTo p1 (starEach [b] X.env)).any (·.1) = false := by rfl) : DS X W (.Raise (some (.Call (.Name c p) [e, b] [] p1)) none pos) (sRaise c [f2, f1] [1, 0] ga) := by
  obtain ⟨fd, F, hb⟩ := i
  exact ds_raise2 x.ox x.ini x.tyi n1 n2 F (hr.mono hj) hb hc tk x.gl ha hg hdb he hpl
theorem raise1C {c f1 : Str} {j : Nat} {ps : List Str} (x : OwnErr X.K X.mg c) (n1 : PySem.W.findIn X.K (.ref (He.ga X.K c)) f1 = some none)
    (i : InitC1 X.prog X.w X.K X.mg X.base (He.ma X.K (He.ga X.K c) "__init__") ps f1) (hr : Room j X.A) (hj : 2 ≤ j) (hc : X.calm = true) (tk : L2N.Takes X W) (ha : DA X W [e] ga) (hg : Gl X c := by rfl) (hdb : (c == ("__debug__" : Str)) = false := by decide)
    (he : starEach [e] X.env = (false, eval e X.env) :: starEach [] X.env := by rfl) : DS X W (.Raise (some (.Call (.Name c p) [e] [] p1)) none pos) (sRaise c [f1] [0] ga) := by
  obtain ⟨fd, F, hb⟩ := i
  exact ds_raise1 x.ox x.ini x.tyi n1 F (hr.mono hj) hb hc tk x.gl ha hg hdb he
end
theorem SaysE.err_at {fa : List He.Fa} {fn : List He.DefD} {fe : List Fe} {K : PySem.W.Frag} (c : SaysE fa fn fe K) (i : Nat) {f : Fe} (h : fe[i]? = some f := by rfl) : f.ok K = true := c.err (List.mem_of_getElem? h)
theorem ownErr_ok {K : PySem.W.Frag} {mg : Str → Option Value} {c : Str} (g : mg c = some (.ref (He.ga K c))) (h : (Fe.oex c).ok K = true) : OwnErr K mg c := by
  obtain ⟨h1, h⟩ := and2 (show (oexB K (He.ga K c) && (erisB K (He.ga K c) && (He.eqO (PySem.W.findIn K (.ref (He.ga K c)) "__init__") (some (some (.ref (He.ma K (He.ga K c) "__init__")))) && decide (PySem.W.typeIn K (.ref (He.ma K (He.ga K c) "__init__")) = some (.type "function"))))) = true from h)
  obtain ⟨h2, h⟩ := and2 h
  obtain ⟨h3, h4⟩ := and2 h
  exact ⟨g, oexB_ok h1, erisB_ok h2, He.eqO_ok h3, of_decide_eq_true h4⟩
theorem funD_fd {K : PySem.W.Frag} {x q x' q' : Str} {pa pa' : Arguments} {b b' : List Stmt} {sc sc' : Scope} {d d' : List V} {k k' : List (Str × V)} {f : Addr} {fd fd' : FuncData} (a : FunD K x q pa b sc d k f fd) (c : FunD K x' q' pa' b' sc' d' k' f fd') : fd = fd' := by
  obtain ⟨_, _, _, _, _, _, _, _, _, _, _, l1, _⟩ := a.ex
  obtain ⟨_, _, _, _, _, _, _, _, _, _, _, l2, _⟩ := c.ex
  rw [l1] at l2
  injection l2 with e
  injection e with _ _ e
  injection e
end PD
set_option Elab.async false
set_option linter.all false
set_option maxRecDepth 100000
set_option maxHeartbeats 4000000
namespace PD
open PySem PySem.Spec PyProof.Rows L2
/-! ### denotations, evaluated -/
mutual
/-- no list in it may change -/
def closed : D → Bool
  | .tup xs => closeds xs
  | .lst xs => closeds xs
  | .err _ _ xs => closeds xs
  | .non => true
  | .bl _ => true
  | .int _ => true
  | .str _ => true
  | .scr _ => true
  | .rng _ _ => true
  | .ref _ => false
  | .cau .. => false
def closeds : List D → Bool
  | [] => true
  | x :: xs => closed x && closeds xs
end
mutual
theorem map_closed {g : Nat → Option D} : ∀ {d : D}, closed d = true → mapRef g d = some d
  | .tup xs, h => by simp only [closed] at h; simp [mapRef, maps_closed h]
  | .lst xs, h => by simp only [closed] at h; simp [mapRef, maps_closed h]
  | .err c ns xs, h => by simp only [closed] at h; simp [mapRef, maps_closed h]
  | .non, h => by simp [mapRef]
  | .bl _, h => by simp [mapRef]
  | .int _, h => by simp [mapRef]
  | .str _, h => by simp [mapRef]
  | .scr _, h => by simp [mapRef]
  | .rng _ _, h => by simp [mapRef]
  | .ref _, h => by simp [closed] at h
  | .cau .., h => by simp [closed] at h
theorem maps_closed {g : Nat → Option D} : ∀ {ds : List D}, closeds ds = true → mapRefs g ds = some ds
  | [], _ => by simp [mapRefs]
  | x :: xs, h => by
    simp only [closeds, Bool.and_eq_true] at h
    simp [mapRefs, map_closed h.1, maps_closed h.2]
end
theorem closeds_all {xs : List D} : closeds xs = xs.all closed := by
  induction xs with
  | nil => simp [closeds]
  | cons x xs ih => simp [closeds, ih]
@[simp] theorem closeds_map_int (ns : List Int) : closeds (ns.map D.int) = true := by simp [closeds_all, closed]
theorem fz_closed {S : Store} {n : Nat} {d : D} (h : closed d = true) : fz S n d = some d := map_closed h
theorem fzs_closed {S : Store} {n : Nat} {d : List D} (h : closeds d = true) : fzs S n d = some d := maps_closed h
/-- O is what the def with these names and this body does; the kernel can't unfold O -/
class Is (O : Op) (N : outParam (List Str)) (g : outParam SDen) : Prop where
  eq : O = fnOf N g
/-- a def that returns a closed value -/
theorem fn_rt {O : Op} {N : List Str} {g : SDen} [i : Is O N g] {ds : List D} {S S1 : Store} {d : D} (h : g (startD N ds) S = some (.rt d S1)) (hs : S1.take S.length = S) (hc : closed d = true) : O ds S = some (.ok d S) := by
  rw [i.eq]
  unfold fnOf
  rw [h]
  simp [fin, hs, fz_closed hc]
theorem fn_rtS {O : Op} {N : List Str} {g : SDen} [i : Is O N g] {ds : List D} {S : Store} {d : D} (h : g (startD N ds) S = some (.rt d S)) (hc : closed d = true) : O ds S = some (.ok d S) := fn_rt h (by simp) hc
theorem fn_nx {O : Op} {N : List Str} {g : SDen} [i : Is O N g] {ds : List D} {S : Store} {ρ : EnvD} (h : g (startD N ds) S = some (.nx ρ S)) : O ds S = some (.ok .non S) := by
  rw [i.eq]
  unfold fnOf
  rw [h]
  simp [fin]
theorem fn_exc {O : Op} {N : List Str} {g : SDen} [i : Is O N g] {ds : List D} {S : Store} {ρ : EnvD} {c : Str} {ns : List Str} {xs : List D} (h : g (startD N ds) S = some (.exc c ns xs ρ S)) (hc : closeds xs = true) : O ds S = some (.exc c ns xs S) := by
  rw [i.eq]
  unfold fnOf
  rw [h]
  simp [fin, fzs_closed hc]
section
variable {ρ : EnvD} {S : Store}
@[simp] theorem e_seq (g h : SDen) : sSeq g h ρ S = match g ρ S with
    | some (.nx ρ1 S1) => h ρ1 S1
    | r => r := rfl
@[simp] theorem e_nil : sNil ρ S = some (.nx ρ S) := rfl
@[simp] theorem e_ret (f : Den) : sRet f ρ S = bndS (f ρ S) ρ fun d S1 => some (.rt d S1) := rfl
@[simp] theorem e_expr (f : Den) : sExpr f ρ S = bndS (f ρ S) ρ fun _ S1 => some (.nx ρ S1) := rfl
@[simp] theorem e_set (k : Nat) (f : Den) : sSet k f ρ S = bndS (f ρ S) ρ fun d S1 => some (.nx (ρ.set k (some d)) S1) := rfl
@[simp] theorem e_break : sBreak ρ S = some (.bk ρ S) := rfl
@[simp] theorem e_cont : sCont ρ S = some (.ct ρ S) := rfl
@[simp] theorem e_C (d : D) : dC d ρ S = some (.ok d S) := rfl
@[simp] theorem e_nilA : dNil ρ S = some (.ok [] S) := rfl
@[simp] theorem e_consA (f : Den) (g : Dens) : dCons f g ρ S = bnds (f ρ S) fun d S1 => bndls (g ρ S1) fun ds S2 => some (.ok (d :: ds) S2) := rfl
@[simp] theorem e_fn (n : Nat) (F : Op) (g : Dens) : dFn n F g ρ S = bndl (g ρ S) fun ds S1 => if ds.length = n then F ds S1 else none := rfl
@[simp] theorem e_call (F : Op) (g : Dens) : dCall F g ρ S = bndl (g ρ S) F := rfl
@[simp] theorem e_bin (o : Op2) (f g : Den) : dBin o f g ρ S = bnd (f ρ S) fun x S1 => bnd (g ρ S1) fun y S2 => o x y S2 := rfl
@[simp] theorem e_tup (g : Dens) : dTup g ρ S = bndl (g ρ S) fun ds S1 => if fits ds.length then some (.ok (.tup ds) S1) else none := rfl
@[simp] theorem e_lst (g : Dens) : dLst g ρ S = bndl (g ρ S) fun ds S1 => if fits ds.length then some (.ok (.lst ds) S1) else none := rfl
@[simp] theorem e_lstM (g : Dens) : dLstM g ρ S = bndl (g ρ S) fun ds S1 => if fits ds.length then some (.ok (.ref S1.length) (S1 ++ [ds])) else none := rfl
@[simp] theorem e_and (f g : Den) : dAnd f g ρ S = bndB (f ρ S) fun b S1 => if b then g ρ S1 else some (.ok (.bl false) S1) := rfl
@[simp] theorem e_or (f g : Den) : dOr f g ρ S = bndB (f ρ S) fun b S1 => if b then some (.ok (.bl true) S1) else g ρ S1 := rfl
@[simp] theorem e_not (f : Den) : dNot f ρ S = bndB (f ρ S) fun b S1 => some (.ok (.bl (!b)) S1) := rfl
@[simp] theorem e_tru (f : Den) : dTru f ρ S = bnd (f ρ S) fun d S1 => (truth S1 d).map fun k => .ok (.bl k) S1 := rfl
@[simp] theorem e_isi (T : String) (f : Den) : dIsi T f ρ S = bnd (f ρ S) fun d S1 => (tyName d).map fun t => .ok (.bl (isTy t T)) S1 := rfl
@[simp] theorem e_ifx (t f g : Den) : dIf t f g ρ S = bndB (t ρ S) fun b S1 => if b then f ρ S1 else g ρ S1 := rfl
@[simp] theorem bndB_ok (b : Bool) (S1 : Store) (k : Bool → Store → Option Res) : bndB (some (.ok (.bl b) S1)) k = k b S1 := rfl
@[simp] theorem e_var (i : Nat) : dVar i ρ S = match ρ[i]? with
    | some (some d) => some (.ok d S)
    | _ => none := rfl
@[simp] theorem e_if (t : Den) (g h : SDen) : sIf t g h ρ S = match t ρ S with
    | some (.ok (.bl b) S1) => if b then g ρ S1 else h ρ S1
    | some (.exc c ns xs S1) => some (.exc c ns xs ρ S1)
    | _ => none := rfl
@[simp] theorem e_sub (f g : Int → Int → Option D) (i j : Int) : oInt2 g (.int i) (.int j) S = (g i j).map fun d => .ok d S := rfl
@[simp] theorem eqD_int (i j : Int) : eqD S (.int i) (.int j) = some (i == j) := by simp [eqD, toPy, pyr, SeqAt.shaped, PyData.eqv, PyData.canLay0, PyData.depth]
@[simp] theorem eqD_bl (i j : Bool) : eqD S (.bl i) (.bl j) = some (i == j) := by simp [eqD, toPy, pyr, SeqAt.shaped, PyData.eqv, PyData.canLay0, PyData.depth]
theorem eqD_str {i j : Str} (hi : PyData.strOk i = true) (hj : PyData.strOk j = true) : eqD S (.str i) (.str j) = some (i == j) := by simp [eqD, toPy, pyr, SeqAt.shaped, PyData.eqv, PyData.canLay0, PyData.depth, hi, hj]
@[simp] theorem oEq_of {a b : D} {k : Bool} (h : eqD S a b = some k) : oEq a b S = some (.ok (.bl k) S) := by simp [oEq, h]
@[simp] theorem oNe_of {a b : D} {k : Bool} (h : eqD S a b = some k) : oNe a b S = some (.ok (.bl (!k)) S) := by simp [oNe, h]
end
/-- a plain whole number -/
def whole : D → Bool
  | .int _ => true
  | _ => false
/-- of a kind that isinstance tells -/
def told (d : D) : Bool := (tyName d).isSome
end PD
set_option Elab.async false
set_option linter.all false
set_option maxRecDepth 100000
set_option maxHeartbeats 4000000
namespace PD
open PySem PySem.Spec PyProof.Rows L2
/-! ### loops -/
section
variable {ρ : EnvD} {S : Store} {t : TDen} {g : SDen} {all : List D}
@[simp] theorem loop_nil (w : Option Nat) : forLoop w all t g [] ρ S = some (.nx ρ S) := rfl
theorem loop_cons (x : D) (xs : List D) : forLoop none all t g (x :: xs) ρ S = match t x ρ S with
    | none => none
    | some ρ1 => match g ρ1 S with
      | some (.nx ρ2 S2) => forLoop none all t g xs ρ2 S2
      | some (.ct ρ2 S2) => forLoop none all t g xs ρ2 S2
      | some (.bk ρ2 S2) => some (.nx ρ2 S2)
      | r => r := by
  simp only [forLoop, ckOf_none]
  cases t x ρ S with
  | none => rfl
  | some ρ1 =>
    simp only
    cases g ρ1 S with
    | none => rfl
    | some r => cases r <;> simp
theorem for_of {f : Iens} {items : List D} {w : Option Nat} {S1 : Store} (h : f ρ S = some (.ok items w S1)) : sFor f t g ρ S = forLoop w items t g items ρ S1 := by
  unfold sFor
  rw [h]
@[simp] theorem e_tName (k : Nat) (d : D) : tName k d ρ S = some (ρ.set k (some d)) := rfl
@[simp] theorem e_range1 (f : Den) : dRange1 f ρ S = bndi (f ρ S) fun d S1 => match d with
  | .int j => if -(2 ^ 62) ≤ j ∧ j < 2 ^ 62 then some (.ok (rgD 0 j.toNat) none S1) else none
  | _ => none := rfl
@[simp] theorem e_items (f : Den) : dItems f ρ S = bndi (f ρ S) fun d S1 => (asWalk S1 d).map fun q => .ok q.1 q.2 S1 := rfl
@[simp] theorem e_par (k l : Nat) (g : Dens) : sPar k l g ρ S = match g ρ S with
  | some (.ok [d, d2] S1) => some (.nx ((ρ.set k (some d)).set l (some d2)) S1)
  | some (.ok _ _) => none
  | some (.exc c ns xs S1) => some (.exc c ns xs ρ S1)
  | none => none := rfl
end
@[simp] theorem e_int1 (i : Int) (S : Store) : oInt1 [.int i] S = some (.ok (.int i) S) := rfl
@[simp] theorem e_gcd (i j : Int) (S : Store) : oGcd [.int i, .int j] S = some (.ok (.int ((Nat.gcd i.natAbs j.natAbs : Nat) : Int)) S) := rfl
/-! ### Euclid -/
def euc : Nat → Int → Int → Int
  | 0, a, _ => a
  | n + 1, a, b => if b = 0 then a else euc n b (a % b)
theorem euc_zero : ∀ (n : Nat) (a : Int), euc n a 0 = a
  | 0, _ => rfl
  | _ + 1, _ => by simp [euc]
theorem half {a b : Int} (ha : 0 < a) (hb : 0 < b) (h : b < a) : 2 * (a % b) < a := by
  have h1 := Int.emod_add_mul_ediv a b
  have h2 := Int.emod_lt_of_pos a hb
  have h3 := Int.emod_nonneg a (by omega : b ≠ 0)
  have h4 : 1 ≤ a / b := Int.le_ediv_of_mul_le hb (by omega)
  have h5 : b * 1 ≤ b * (a / b) := Int.mul_le_mul_of_nonneg_left h4 (by omega)
  omega
theorem gcd_step (a b : Int) : Int.gcd b (a % b) = Int.gcd a b := by
  rw [Int.emod_def, Int.gcd_sub_mul_left_right, Int.gcd_comm]
theorem euc_gcd : ∀ (k n : Nat) (a b : Int), 0 ≤ b → b < 2 ^ k → 2 * k ≤ n → euc n a b = if b = 0 then a else (Int.gcd a b : Int)
  | 0, n, a, b, h0, h1, _ => by
    have : b = 0 := by have : (2 : Int) ^ 0 = 1 := rfl; omega
    subst this
    simp [euc_zero]
  | k + 1, n, a, b, h0, h1, hn => by
    by_cases hb : b = 0
    · subst hb; simp [euc_zero]
    · match n, hn with
      | n + 2, hn =>
        have hp : 0 < b := by omega
        simp only [euc, hb, if_false]
        by_cases hc : a % b = 0
        · simp only [hc, if_true]
          have : b ∣ a := Int.dvd_of_emod_eq_zero hc
          rw [Int.gcd_eq_right_iff_dvd (by omega) |>.mpr this]
        · simp only [hc, if_false]
          have h3 := Int.emod_nonneg a hb
          have h4 := Int.emod_lt_of_pos a hp
          have h5 : 0 < a % b := by omega
          have h6 := half hp h5 h4
          have h7 : (2 : Int) ^ (k + 1) = 2 * 2 ^ k := by rw [Int.pow_succ]; omega
          have h8 := Int.emod_nonneg b hc
          rw [euc_gcd k n (a % b) (b % (a % b)) h8 (by omega) (by omega)]
          have e1 := gcd_step a b
          have e2 := gcd_step b (a % b)
          split
          · rename_i hz
            have : a % b ∣ b := Int.dvd_of_emod_eq_zero hz
            rw [← e1, Int.gcd_eq_right_iff_dvd (by omega) |>.mpr this]
          · rw [e2, e1]
end PD
set_option Elab.async false
set_option linter.all false
set_option maxRecDepth 100000
set_option maxHeartbeats 4000000
namespace PD
open PySem PySem.Spec PyProof.Rows L2
/-! ### comprehensions -/
section
variable {ρ : EnvD} {S : Store} {own : List Nat} {t : Tg} {cnd elt : Den} {f : Iens} {items : List D}
theorem set_last (S : Store) (a b : List D) : (S ++ [a]).set S.length b = S ++ [b] := by simp
theorem get_last (S : Store) (a : List D) : (S ++ [a])[S.length]? = some a := by simp
theorem lc_loop (all : List D) (h : D → D) (p : D → Bool) (ρ' : D → EnvD) : ∀ (xs : List D) (acc : List D), (∀ x ∈ xs, t.go x (wipeD ρ own) = some (ρ' x)) → (∀ x ∈ xs, ∀ T, cnd (ρ' x) T = some (.ok (.bl (p x)) T)) → (∀ x ∈ xs, p x = true → ∀ T, elt (ρ' x) T = some (.ok (h x) T)) →
    acc.length + xs.length ≤ 16777216 → lcLoop own t cnd elt ρ S.length none all xs (S ++ [acc]) = some (S ++ [acc ++ (xs.filter p).map h])
  | [], acc, _, _, _, _ => by simp [lcLoop]
  | x :: xs, acc, ht, hc, he, hl => by
    have ih := fun a => lc_loop all h p ρ' xs a (fun y hy => ht y (List.mem_cons_of_mem _ hy)) (fun y hy => hc y (List.mem_cons_of_mem _ hy)) (fun y hy => he y (List.mem_cons_of_mem _ hy))
    simp only [List.length_cons] at hl
    simp only [lcLoop, ht x List.mem_cons_self, hc x List.mem_cons_self]
    cases hp : p x with
    | false =>
      simp only [Bool.false_eq_true, if_false, ckOf_none, if_true]
      rw [ih acc (by omega)]
      simp [hp]
    | true =>
      simp only [if_true, he x List.mem_cons_self hp, get_last, ckOf_none, set_last, and_true]
      rw [if_pos (by omega), ih (acc ++ [h x]) (by simp; omega)]
      simp [hp]
theorem lc_filter (h : D → D) (p : D → Bool) (ρ' : D → EnvD) (hf : f ρ S = some (.ok items none S)) (ht : ∀ x ∈ items, t.go x (wipeD ρ own) = some (ρ' x)) (hc : ∀ x ∈ items, ∀ T, cnd (ρ' x) T = some (.ok (.bl (p x)) T)) (he : ∀ x ∈ items, p x = true → ∀ T, elt (ρ' x) T = some (.ok (h x) T))
    (hl : items.length ≤ 16777216) (cl : closeds ((items.filter p).map h) = true) : dLc own f t cnd elt ρ S = some (.ok (.lst ((items.filter p).map h)) S) := by
  have e := lc_loop (S := S) items h p ρ' items [] ht hc he (by simpa using hl)
  unfold dLc
  rw [hf]
  simp only [e, List.nil_append, get_last, List.take_left', fzs_closed cl]
  simp
theorem lc_map (h : D → D) (ρ' : D → EnvD) (hf : f ρ S = some (.ok items none S)) (ht : ∀ x ∈ items, t.go x (wipeD ρ own) = some (ρ' x)) (he : ∀ x ∈ items, ∀ T, elt (ρ' x) T = some (.ok (h x) T))
    (hl : items.length ≤ 16777216) (cl : closeds (items.map h) = true) : dLc own f t dYes elt ρ S = some (.ok (.lst (items.map h)) S) := by
  have k : items.filter (fun _ => true) = items := List.filter_eq_self.mpr fun _ _ => rfl
  have e := lc_filter (cnd := dYes) h (fun _ => true) ρ' hf ht (fun x hx T => rfl) (fun x hx _ => he x hx) hl (by rw [k]; exact cl)
  rwa [k] at e
end
theorem bools_map {α : Type} (p : α → Bool) : ∀ xs : List α, bools (xs.map fun x => D.bl (p x)) = some (xs.map p)
  | [] => rfl
  | x :: xs => by simp [bools, bools_map p xs]
@[simp] theorem e_all {α : Type} (p : α → Bool) (xs : List α) (S : Store) : oAll [.lst (xs.map fun x => D.bl (p x))] S = some (.ok (.bl (xs.all p)) S) := by
  simp [oAll, asList, bools_map, List.all_map]
theorem ints_mapA {α : Type} (p : α → Int) : ∀ xs : List α, intsD (xs.map fun x => D.int (p x)) = some (xs.map p)
  | [] => rfl
  | x :: xs => by simp [intsD, ints_mapA p xs]
end PD
set_option Elab.async false
set_option linter.all false
set_option maxRecDepth 100000
set_option maxHeartbeats 4000000
namespace PD
open PySem PySem.Spec PyProof.Rows L2
section
variable {X : Cx} {W : WX} {a b c e : Expr} {es : List Expr} {fa fb fc : Den} {ga gb : Dens} {pos p p1 p2 : Pos} {tg iter : Expr}
/-! ### range(n) as a value -/
theorem cr_range1 : CallR X (.type "range") (fun vs H Q => ∃ j, vs = [V.int j] ∧ ∀ p, H p = none → Q (.ref p) (upd H p (.rng 0 j))) := by
  intro pins s σ H vs us Q I r h
  obtain ⟨j, rfl, q⟩ := h
  cases r with
  | cons ri rr =>
    cases rr
    obtain ⟨t, rfl⟩ := ri
    refine call_range_1 ⟨.ref s.heap.objs.size, upd H s.heap.objs.size (.rng 0 j), I.laid (t' := _) (fun b o e => Heap.get?_push_of_some _ e) (Nat.le_refl _) ?_, rfl, q _ (I.hok.fresh (Nat.le_refl _))⟩
    exact ⟨_, _, _, Heap.get?_push_size _ rfl⟩
def oRange1 : Op := fun ds S => match ds with
  | [.int j] => some (.ok (.rng 0 j) S)
  | _ => none
theorem callD_range1 : CallD X (fun vs H Q => ∃ j, vs = [V.int j] ∧ ∀ p, H p = none → Q (.ref p) (upd H p (.rng 0 j))) oRange1 := by
  intro H mu S vs ds res W σ Q s r ho q
  unfold oRange1 at ho
  split at ho
  · cases ho
    obtain ⟨v, rfl, r1⟩ := reps1 r
    cases r1
    refine ⟨_, rfl, fun p hp => ?_⟩
    exact q (.ref p) _ mu (Ext.fresh hp (s.free hp)) (s.fresh hp) (.rng upd_same (s.free hp))
  · cases ho
end
/-! ### zip of two tuples, of two lists that stand -/
def zipD : List D → List D → List D
  | x :: xs, y :: ys => .tup [x, y] :: zipD xs ys
  | _, _ => []
theorem zipD_length : ∀ xs ys : List D, (zipD xs ys).length = min xs.length ys.length
  | [], _ => by simp [zipD]
  | _ :: _, [] => by simp [zipD]
  | x :: xs, y :: ys => by simp [zipD, zipD_length xs ys, Nat.succ_min_succ]
theorem zipD_get : ∀ (k : Nat) (xs ys : List D) (d : D), (zipD xs ys)[k]? = some d → ∃ x y, xs[k]? = some x ∧ ys[k]? = some y ∧ d = .tup [x, y]
  | _, [], _, _, h => by simp [zipD] at h
  | _, _ :: _, [], _, h => by simp [zipD] at h
  | 0, x :: xs, y :: ys, d, h => by
    simp only [zipD, List.getElem?_cons_zero] at h
    cases h
    exact ⟨x, y, rfl, rfl, rfl⟩
  | k + 1, x :: xs, y :: ys, d, h => by
    simp only [zipD, List.getElem?_cons_succ] at h
    obtain ⟨x', y', h1, h2, h3⟩ := zipD_get k xs ys d h
    exact ⟨x', y', by simpa using h1, by simpa using h2, h3⟩
section
variable {X : Cx} {W : WX} {a b e e2 : Expr} {fa fb : Den} {p pos tpos : Pos} {elts : List Expr} {kk : Nat}
theorem walks_zipT {a b : Addr} {vs ws : List V} {xs ys : List D} : Walks X.K X.mg (RZ.ItzT X.K a b) (fun H mu _ => (SqTm X.K H mu a vs ∧ Reps X.K X.mg H mu vs xs) ∧ (SqTm X.K H mu b ws ∧ Reps X.K X.mg H mu ws ys)) (ckOf none (zipD xs ys)) (zipD xs ys) where
  mono := fun H mu S H' mu' S' h x _ => ⟨⟨x.sqT h.1.1, h.1.2.mono x⟩, ⟨x.sqT h.2.1, h.2.2.mono x⟩⟩
  has := fun _ _ _ _ => trivial
  go := fun i H mu S h _ hi => by
    rw [zipD_length] at hi
    exact ⟨vs, ws, vs[i]'(by rw [h.1.2.length]; omega), ws[i]'(by rw [h.2.2.length]; omega), h.1.1.sq, h.2.1.sq, List.getElem?_eq_getElem _, List.getElem?_eq_getElem _⟩
  yld := fun i H mu x H' S d h s y hd => by
    obtain ⟨T, u, v, rfl, hT, rfl, hu, hv⟩ := y
    obtain ⟨xd, yd, h1, h2, rfl⟩ := zipD_get i xs ys d hd
    obtain ⟨u', k1, k2⟩ := h.1.2.get h1
    obtain ⟨v', l1, l2⟩ := h.2.2.get h2
    have e1 := hu vs h.1.1.sq
    rw [k1] at e1
    obtain rfl : u' = u := Option.some.inj e1
    have e2 := hv ws h.2.1.sq
    rw [l1] at e2
    obtain rfl : v' = v := Option.some.inj e2
    have n := s.free hT
    have xx : Ext H mu (upd H T (.tup [u', v'])) mu := Ext.fresh hT n
    exact ⟨xx, s.fresh hT, .tup (.inl ⟨.inl upd_same, n⟩) (.cons (k2.mono xx) (.cons (l2.mono xx) .nil))⟩
  stop := fun H mu S h _ => ⟨vs, ws, h.1.1.sq, h.2.1.sq, by rw [zipD_length, h.1.2.length, h.2.2.length]; omega⟩
def dZip (f g : Den) : Iens := fun ρ S => bndi (f ρ S) fun d S1 => bndi (g ρ S1) fun d2 S2 => match d, d2 with
  | .tup xs, .tup ys => some (.ok (zipD xs ys) none S2)
  | _, _ => none
theorem di_zip (hm : X.mg "zip" = none) (ha : DE X W a fa) (hb : DE X W b fb) (hg : Gl X "zip" := by rfl) (hs : starEach [a, b] X.env = (false, eval a X.env) :: starEach [b] X.env := by rfl) (hs2 : starEach [b] X.env = [(false, eval b X.env)] := by rfl) (hpl : (backTo pos (starEach [b] X.env)).any (·.1) = false := by rfl) :
    DI X W (.Tuple elts kk tpos) (.Call (.Name "zip" p) [a, b] [] pos) (dZip fa fb) := by
  refine piI (RZ.pi_zipA hg hm (pa_cons ha (pa_cons hb pa_nil hs2) hs) hs hpl) fun σ H R h => ?_
  obtain ⟨mu, S, ρ, r, s, en, hf, q⟩ := rdI_of h
  refine rd_bndI s en hf q fun d S1 v H1 m1 x s1 en1 rp h1 q1 => ?_
  refine rd_bndI s1 en1 h1 q1 fun d2 S2 v2 H2 m2 x2 s2 en2 rp2 h2 q2 => ?_
  have rp' := rp.mono x2
  split at h2
  · cases h2
    cases rp' with
    | tup hq rv =>
      cases rp2 with
      | tup hq2 rv2 => exact ⟨_, _, _, _, rfl, .inr ⟨hq.sq, hq2.sq, q2 _ _ H2 m2 walks_zipT ⟨⟨hq, rv⟩, ⟨hq2, rv2⟩⟩ (Ext.refl _ _) s2⟩⟩
  · cases h2
end
end PD
set_option Elab.async false
set_option linter.all false
set_option maxRecDepth 100000
set_option maxHeartbeats 4000000
namespace PD
open PySem PySem.Spec PyProof.Rows L2
/-! ### a def that calls itself: by at most n calls, one in the other -/
section
variable {P : Program} {w : World} {K : PySem.W.Frag} {mg : Str → Option Value} {base : Heap} {x qual : Str} {params : Arguments} {body : List Stmt} {scope : Scope} {f : Addr} {fd : FuncData} {dvs : List V} {kws : List (Str × V)}
theorem fn_none {N ps : List Str} {k : Nat} (F : FunD K x qual params body scope dvs kws f fd) (Sc : FnScope N ps scope) : FnD P w K mg base (k + 1) f fd ps (fun _ _ => none) := by
  exact F.ok (sp := spD K mg ps.length fun _ _ => none) Sc (fun vs H Q E h => h.1) fun cdv A outer s H vs Q E hr h => by
    obtain ⟨_, mu, S, ds, r, _, _, e, _⟩ := h
    cases e
end
/-- each level of such a def -/
theorem rec_ex (g : Op → SDen) (N : List Str) : ∃ F : Nat → Op, F 0 = (fun _ _ => none) ∧ ∀ n, F (n + 1) = fnOf N (g (F n)) := ⟨fun n => Nat.rec (fun _ _ => none) (fun _ f => fnOf N (g f)) n, rfl, fun _ => rfl⟩
theorem sWhileN_mono (t : Den) (g : SDen) : ∀ (m n : Nat) (ρ : EnvD) (S : Store) (r : SRes), m ≤ n → sWhileN t g m ρ S = some r → sWhileN t g n ρ S = some r
  | 0, _, _, _, _, _, h => by cases h
  | m + 1, 0, _, _, _, hl, _ => by omega
  | m + 1, n + 1, ρ, S, r, hl, h => by
    unfold sWhileN at h ⊢
    split at h
    · rename_i b S1 e1
      cases b with
      | false => exact h
      | true =>
        simp only [if_true] at h ⊢
        split at h
        · rename_i ρ2 S2 e2
          exact sWhileN_mono t g m n ρ2 S2 r (by omega) h
        · rename_i ρ2 S2 e2
          exact sWhileN_mono t g m n ρ2 S2 r (by omega) h
        · exact h
        · exact h
    · exact h
    · cases h
end PD
set_option Elab.async false
set_option linter.all false
set_option maxRecDepth 100000
set_option maxHeartbeats 4000000
namespace PD
open PySem PySem.Spec PyProof.Rows L2
section
variable {X : Cx} {W : WX} {a b e : Expr} {fa fb : Den} {ga : Dens} {pos p : Pos}
/-! ### a list repeated, that may change later -/
def oMulM : Op2 := fun a b S => match b with
  | .int k => (match asList S a with
    | some xs => if -(2 ^ 63) ≤ k ∧ k < 2 ^ 63 ∧ xs.length * k.toNat ≤ 16777216 then some (.ok (.ref S.length) (S ++ [(List.replicate k.toNat xs).flatten])) else none
    | none => none)
  | _ => none
theorem opD_mulM : OpD X (rMulA X.K) oMulM := by
  intro H mu S x y a b res W σ Q s ra rb ho p
  unfold oMulM at ho
  split at ho
  · rename_i k
    split at ho
    · rename_i xs h1
      split at ho
      · rename_i hz
        cases ho
        cases rb
        obtain ⟨p1, vs, rfl, e1, r1⟩ := rep_list s ra h1
        exact .inr (.inr (.inl ⟨p1, _, vs, rfl, rfl, e1, hz.1, hz.2.1, by rw [r1.length, line_eq]; exact hz.2.2, p.mut s (reps_rep r1 _)⟩))
      · cases ho
    · cases ho
  · cases ho
theorem de_mulM (ha : DE X W a fa) (hb : DE X W b fb) : DE X W (.BinOp a .Mult b pos) (dBin oMulM fa fb) := de_bin op_mulAll opD_mulM ha hb
/-! ### a call without arguments -/
theorem de_call0 {k : Nat} {f : Addr} {fd : FuncData} {F : Op} {x : Str} (G : FnD X.prog X.w X.K X.mg X.base k f fd [] F) (hr : Room k X.A) (tk : L2N.Takes X W) (hm : X.mg x = some (.ref f)) (hk : PySem.W.keepIn X.K (.ref f) = true) (hb : Binds X.K fd [] [])
    (hg : Gl X x := by rfl) (hdb : (x == ("__debug__" : Str)) = false := by decide) : DE X W (.Call (.Name x p) [] [] pos) (dFn 0 F dNil) := by
  refine ⟨fun pins s σ H Q J h => wpAny_Call_Name_kw (ld_glob J hg hm (PySem.W.callWith_K0 J.kIn hk ?_) hdb)⟩
  obtain ⟨mu, S, ρ, res, st, en, hf, q⟩ := h
  have hF : F [] S = some res := hf
  have sp0 : spD X.K X.mg 0 F [] H Q (WE W σ) := spD_of st .nil rfl hF q
  exact run_fnSD (us := []) (vs := []) (dvs := []) (E := WE W) G hr hb .nil (L2N.passAt tk σ) J .nil sp0
theorem de_callC0 {k j : Nat} {F : Op} {x : Str} {st : Stmt} (G : Callee X.prog X.w X.K X.mg X.base k x st [] F) (hb : BindsAll x st []) (hr : Room j X.A) (hk : k ≤ j) (tk : L2N.Takes X W)
    (hg : Gl X x := by rfl) (hdb : (x == ("__debug__" : Str)) = false := by decide) : DE X W (.Call (.Name x p) [] [] pos) (dFn 0 F dNil) := by
  obtain ⟨fd, FD, G2⟩ := G.ex
  exact de_call0 G2 (hr.mono hk) tk G.gl FD.kp (FD.bindsN hb) hg hdb
end
end PD
set_option Elab.async false
set_option linter.all false
set_option maxRecDepth 100000
set_option maxHeartbeats 4000000
namespace My
/-! ### loads as rational vectors: the plain mathematics (core Lean alone) -/
def cd (xs : List Int) : Int := xs.foldl (fun g x => (Int.gcd g x : Int)) 0
theorem cdF_dvd : ∀ (xs : List Int) (g : Int), xs.foldl (fun g x => (Int.gcd g x : Int)) g ∣ g ∧ ∀ x ∈ xs, xs.foldl (fun g x => (Int.gcd g x : Int)) g ∣ x
  | [], g => ⟨Int.dvd_refl g, fun _ h => nomatch h⟩
  | y :: ys, g => by
    obtain ⟨h1, h2⟩ := cdF_dvd ys (Int.gcd g y)
    refine ⟨Int.dvd_trans h1 (Int.gcd_dvd_left ..), fun x hx => ?_⟩
    rcases List.mem_cons.mp hx with rfl | hx
    · exact Int.dvd_trans h1 (Int.gcd_dvd_right ..)
    · exact h2 x hx
theorem cdF_of : ∀ (xs : List Int) (g d : Int), d ∣ g → (∀ x ∈ xs, d ∣ x) → d ∣ xs.foldl (fun g x => (Int.gcd g x : Int)) g
  | [], g, d, h, _ => h
  | y :: ys, g, d, h, hx => cdF_of ys _ d (Int.dvd_coe_gcd h (hx y List.mem_cons_self)) fun x hm => hx x (List.mem_cons_of_mem _ hm)
theorem cdF_nonneg : ∀ (xs : List Int) (g : Int), 0 ≤ g → 0 ≤ xs.foldl (fun g x => (Int.gcd g x : Int)) g
  | [], g, h => h
  | y :: ys, g, _ => cdF_nonneg ys _ (by show 0 ≤ ((Int.gcd g y : Nat) : Int); omega)
theorem cd_dvd {xs : List Int} {x : Int} (h : x ∈ xs) : cd xs ∣ x := (cdF_dvd xs 0).2 x h
theorem cd_of {xs : List Int} {d : Int} (h : ∀ x ∈ xs, d ∣ x) : d ∣ cd xs := cdF_of xs 0 d (Int.dvd_zero d) h
theorem cd_nonneg (xs : List Int) : 0 ≤ cd xs := cdF_nonneg xs 0 (by omega)
theorem cd_pos {xs : List Int} {x : Int} (h : x ∈ xs) (hx : x ≠ 0) : 0 < cd xs := by
  have h1 := cd_nonneg xs
  have h2 := cd_dvd h
  by_cases z : cd xs = 0
  · rw [z] at h2
    exact absurd (Int.zero_dvd.mp h2) hx
  · omega
theorem cd_bot {ts : List Int} {b : Int} (hb : 1 ≤ b) : 0 < cd (ts ++ [b]) ∧ cd (ts ++ [b]) ≤ b := by
  have hm : b ∈ ts ++ [b] := List.mem_append_right _ (List.mem_singleton.mpr rfl)
  exact ⟨cd_pos hm (by omega), Int.le_of_dvd (by omega) (cd_dvd hm)⟩
/-- one greatest divisor is the other -/
theorem cd_eq {xs : List Int} {d : Int} (h0 : 0 ≤ d) (h1 : ∀ x ∈ xs, d ∣ x) (h2 : ∀ e, (∀ x ∈ xs, e ∣ x) → e ∣ d) : cd xs = d :=
  Int.dvd_antisymm (cd_nonneg xs) h0 (h2 _ fun x hx => cd_dvd hx) (cd_of h1)
theorem cd_mul (k : Int) (hk : 0 ≤ k) (xs : List Int) : cd (xs.map (k * ·)) = k * cd xs := by
  by_cases z : k = 0
  · subst z
    rw [Int.zero_mul]
    refine cd_eq (by decide) (fun x hx => ?_) fun e _ => Int.dvd_zero e
    obtain ⟨y, _, rfl⟩ := List.mem_map.mp hx
    simp
  · refine cd_eq (Int.mul_nonneg hk (cd_nonneg xs)) (fun x hx => ?_) fun e he => ?_
    · obtain ⟨y, hy, rfl⟩ := List.mem_map.mp hx
      exact Int.mul_dvd_mul_left k (cd_dvd hy)
    · -- k divides the common divisor of the products
      have kd : k ∣ cd (xs.map (k * ·)) := cd_of fun x hx => by
        obtain ⟨y, _, rfl⟩ := List.mem_map.mp hx
        exact Int.dvd_mul_right ..
      obtain ⟨m, hm⟩ := kd
      have md : m ∣ cd xs := cd_of fun y hy => by
        have := cd_dvd (List.mem_map.mpr ⟨y, hy, rfl⟩ : k * y ∈ xs.map (k * ·))
        rw [hm] at this
        exact Int.dvd_of_mul_dvd_mul_left z this
      have e1 : e ∣ cd (xs.map (k * ·)) := cd_of he
      rw [hm] at e1
      exact Int.dvd_trans e1 (Int.mul_dvd_mul_left k md)
def gt (xs : List Int) (i : Nat) : Int := xs.getD i 0
theorem gt_get {xs : List Int} {i : Nat} (h : i < xs.length) : gt xs i = xs[i] := by simp [gt, List.getD, List.getElem?_eq_getElem h]
theorem gt_mem {xs : List Int} {i : Nat} (h : i < xs.length) : gt xs i ∈ xs := by rw [gt_get h]; exact List.getElem_mem h
theorem gt_map {xs : List Int} {f : Int → Int} {i : Nat} (h : i < xs.length) : gt (xs.map f) i = f (gt xs i) := by
  rw [gt_get (by simpa using h), gt_get h, List.getElem_map]
theorem gt_range {n : Nat} {f : Nat → Int} {i : Nat} (h : i < n) : gt ((List.range n).map f) i = f i := by
  rw [gt_get (by simpa using h)]; simp
theorem gt_ext {xs ys : List Int} (hl : xs.length = ys.length) (h : ∀ i < xs.length, gt xs i = gt ys i) : xs = ys := by
  refine List.ext_getElem hl fun i h1 h2 => ?_
  have := h i h1
  rwa [gt_get h1, gt_get h2] at this
theorem gt_out {xs : List Int} {i : Nat} (h : xs.length ≤ i) : gt xs i = 0 := by simp [gt, List.getD, List.getElem?_eq_none h]
/-- in lowest terms -/
def lowT (ts : List Int) (b : Int) : List Int := ts.map (· / cd (ts ++ [b]))
def lowB (ts : List Int) (b : Int) : Int := b / cd (ts ++ [b])
theorem low_mul (k : Int) (hk : 1 ≤ k) (ts : List Int) (b : Int) (hb : 1 ≤ b) : lowT (ts.map (k * ·)) (k * b) = lowT ts b ∧ lowB (ts.map (k * ·)) (k * b) = lowB ts b := by
  have e : ts.map (k * ·) ++ [k * b] = (ts ++ [b]).map (k * ·) := by simp
  have g := cd_mul k (by omega) (ts ++ [b])
  rw [← e] at g
  unfold lowT lowB
  rw [g]
  refine ⟨?_, Int.mul_ediv_mul_of_pos _ _ (by omega)⟩
  rw [List.map_map]
  refine List.map_congr_left fun x _ => ?_
  exact Int.mul_ediv_mul_of_pos _ _ (by omega)
theorem low_ext {ts us : List Int} {b c : Int} (hb : 1 ≤ b) (hc : 1 ≤ c) (hl : ts.length = us.length) (h : ∀ i < ts.length, gt ts i * c = gt us i * b) : lowT ts b = lowT us c ∧ lowB ts b = lowB us c := by
  have e : ts.map (c * ·) = us.map (b * ·) := by
    refine gt_ext (by simpa using hl) fun i hi => ?_
    have hi1 : i < ts.length := by simpa using hi
    rw [gt_map hi1, gt_map (by omega)]
    have := h i hi1
    rw [Int.mul_comm c, Int.mul_comm b]
    exact this
  have a1 := low_mul c hc ts b hb
  have a2 := low_mul b hb us c hc
  rw [e, Int.mul_comm c b] at a1
  exact ⟨a1.1.symm.trans a2.1, a1.2.symm.trans a2.2⟩
/-- what a load in lowest terms is -/
theorem low_spec (ts : List Int) (b : Int) (hb : 1 ≤ b) (h0 : ∀ t ∈ ts, 0 ≤ t) :
    (lowT ts b).length = ts.length ∧ 1 ≤ lowB ts b ∧ lowB ts b ≤ b ∧ (∀ z ∈ lowT ts b, 0 ≤ z ∧ ∃ t ∈ ts, z ≤ t) ∧ (∀ i < ts.length, gt (lowT ts b) i * b = gt ts i * lowB ts b) ∧ cd (lowT ts b ++ [lowB ts b]) = 1 := by
  obtain ⟨g0, g1⟩ := cd_bot (ts := ts) hb
  have dv : ∀ x ∈ ts ++ [b], cd (ts ++ [b]) ∣ x := fun x hx => cd_dvd hx
  have gr : ∀ d : Int, (∀ x ∈ ts ++ [b], d ∣ x) → d ∣ cd (ts ++ [b]) := fun d hd => cd_of hd
  unfold lowT lowB
  refine ⟨by simp, ?_, ?_, ?_, ?_, ?_⟩
  all_goals generalize hg : cd (ts ++ [b]) = g at *
  · obtain ⟨v, hv⟩ := dv b (List.mem_append_right _ (List.mem_singleton.mpr rfl))
    exact Int.le_ediv_of_mul_le g0 (by omega)
  · exact Int.ediv_le_self _ (by omega)
  · intro z hz
    obtain ⟨t, ht, rfl⟩ := List.mem_map.mp hz
    exact ⟨Int.ediv_nonneg (h0 t ht) (by omega), t, ht, Int.ediv_le_self _ (h0 t ht)⟩
  · intro i hi
    rw [gt_map hi]
    have hm : gt ts i ∈ ts := gt_mem hi
    obtain ⟨u, hu⟩ := dv _ (List.mem_append_left _ hm)
    obtain ⟨v, hv⟩ := dv b (List.mem_append_right _ (List.mem_singleton.mpr rfl))
    have e2 : b / g = v := by rw [hv]; exact Int.mul_ediv_cancel_left _ (by omega)
    have e1 : gt ts i / g = u := by rw [hu]; exact Int.mul_ediv_cancel_left _ (by omega)
    rw [e1, e2, hu]
    conv => lhs; rw [hv]
    rw [← Int.mul_assoc, Int.mul_comm u g]
  · have e : ts.map (· / g) ++ [b / g] = (ts ++ [b]).map (· / g) := by simp
    have e2 : ((ts ++ [b]).map (· / g)).map (g * ·) = ts ++ [b] := by
      rw [List.map_map]
      conv => rhs; rw [← List.map_id (ts ++ [b])]
      refine List.map_congr_left fun x hx => ?_
      obtain ⟨u, hu⟩ := dv x hx
      show g * (x / g) = x
      rw [hu, Int.mul_ediv_cancel_left _ (by omega)]
    have := cd_mul g (by omega) ((ts ++ [b]).map (· / g))
    rw [e2, hg] at this
    rw [e]
    have h1 : g * 1 = g * cd ((ts ++ [b]).map (· / g)) := by rw [Int.mul_one]; exact this
    exact (Int.eq_of_mul_eq_mul_left (by omega) h1).symm
end My
set_option Elab.async false
set_option linter.all false
set_option maxRecDepth 100000
set_option maxHeartbeats 4000000
set_option exponentiation.threshold 20000
namespace My
/-! ### sums -/
def sm : Nat → (Nat → Rat) → Rat
  | 0, _ => 0
  | n + 1, f => sm n f + f n
theorem sm_congr : ∀ {n : Nat} {f g : Nat → Rat}, (∀ i < n, f i = g i) → sm n f = sm n g
  | 0, _, _, _ => rfl
  | n + 1, f, g, h => by
    show sm n f + f n = sm n g + g n
    rw [sm_congr fun i hi => h i (by omega), h n (by omega)]
theorem sm_add : ∀ (n : Nat) (f g : Nat → Rat), sm n (fun i => f i + g i) = sm n f + sm n g
  | 0, _, _ => by simp [sm, Rat.add_zero]
  | n + 1, f, g => by
    show sm n (fun i => f i + g i) + (f n + g n) = (sm n f + f n) + (sm n g + g n)
    rw [sm_add n f g]; grind
theorem sm_sub : ∀ (n : Nat) (f g : Nat → Rat), sm n (fun i => f i - g i) = sm n f - sm n g
  | 0, _, _ => by simp [sm, Rat.sub_self]
  | n + 1, f, g => by
    show sm n (fun i => f i - g i) + (f n - g n) = (sm n f + f n) - (sm n g + g n)
    rw [sm_sub n f g]; grind
theorem sm_mul : ∀ (n : Nat) (c : Rat) (f : Nat → Rat), sm n (fun i => c * f i) = c * sm n f
  | 0, c, _ => by simp [sm, Rat.mul_zero]
  | n + 1, c, f => by
    show sm n (fun i => c * f i) + c * f n = c * (sm n f + f n)
    rw [sm_mul n c f]; grind
theorem sm_le : ∀ {n : Nat} {f g : Nat → Rat}, (∀ i < n, f i ≤ g i) → sm n f ≤ sm n g
  | 0, _, _, _ => Rat.le_refl
  | n + 1, f, g, h => by
    have h1 := sm_le (n := n) (f := f) (g := g) fun i hi => h i (by omega)
    have h2 := h n (by omega)
    show sm n f + f n ≤ sm n g + g n
    grind
theorem sm_zero : ∀ (n : Nat), sm n (fun _ => 0) = 0
  | 0 => rfl
  | n + 1 => by show sm n (fun _ => 0) + 0 = 0; rw [sm_zero n, Rat.add_zero]
theorem sm_nonneg {n : Nat} {f : Nat → Rat} (h : ∀ i < n, 0 ≤ f i) : 0 ≤ sm n f := by
  have := sm_le (n := n) (f := fun _ => 0) (g := f) h
  rwa [sm_zero] at this
/-- a sum of whole numbers -/
def sI (n : Nat) (f : Nat → Int) : Int := ((List.range n).map f).sum
theorem sI_succ (n : Nat) (f : Nat → Int) : sI (n + 1) f = sI n f + f n := by simp [sI, List.range_succ]
theorem sI_cast : ∀ (n : Nat) (f : Nat → Int), ((sI n f : Int) : Rat) = sm n fun i => (f i : Rat)
  | 0, _ => rfl
  | n + 1, f => by
    rw [sI_succ]
    show ((sI n f + f n : Int) : Rat) = sm n (fun i => (f i : Rat)) + (f n : Rat)
    rw [Rat.intCast_add, sI_cast n f]
theorem sI_bound : ∀ (n : Nat) (f : Nat → Int) (M : Int), (∀ i < n, 0 ≤ f i ∧ f i ≤ M) → 0 ≤ sI n f ∧ sI n f ≤ n * M
  | 0, _, M, _ => by simp [sI]
  | n + 1, f, M, h => by
    obtain ⟨a, b⟩ := sI_bound n f M fun i hi => h i (by omega)
    obtain ⟨c, d⟩ := h n (by omega)
    rw [sI_succ]
    have : ((n + 1 : Nat) : Int) * M = n * M + M := by rw [Int.natCast_add, Int.add_mul]; simp
    omega
/-! ### fractions -/
theorem rat_eq {a b c d : Int} (hb : 1 ≤ b) (hd : 1 ≤ d) : ((a : Rat) / (b : Rat) = (c : Rat) / (d : Rat)) ↔ a * d = c * b := by
  have nb : (b : Rat) ≠ 0 := by
    intro h
    have := Rat.intCast_eq_zero_iff.mp h
    omega
  have nd : (d : Rat) ≠ 0 := by
    intro h
    have := Rat.intCast_eq_zero_iff.mp h
    omega
  constructor
  · intro h
    have : (a : Rat) * d = c * b := by grind
    rw [← Rat.intCast_mul, ← Rat.intCast_mul] at this
    exact Rat.intCast_inj.mp this
  · intro h
    have : (a : Rat) * d = c * b := by rw [← Rat.intCast_mul, ← Rat.intCast_mul, h]
    grind
theorem cast_pos {b : Int} (h : 1 ≤ b) : (0 : Rat) < (b : Rat) := Rat.intCast_pos.mpr (by omega)
theorem rat_le {a b c d : Int} (hb : 1 ≤ b) (hd : 1 ≤ d) : ((a : Rat) / (b : Rat) ≤ (c : Rat) / (d : Rat)) ↔ a * d ≤ c * b := by
  have nb := cast_pos hb
  have nd := cast_pos hd
  have e1 : (a : Rat) = (a : Rat) / b * b := by grind
  have e2 : (c : Rat) = (c : Rat) / d * d := by grind
  generalize hx : (a : Rat) / b = x at *
  generalize hy : (c : Rat) / d = y at *
  rw [← Rat.intCast_le_intCast, Rat.intCast_mul, Rat.intCast_mul, e1, e2]
  have p : (0 : Rat) < (b : Rat) * d := Rat.mul_pos nb nd
  constructor
  · intro h
    have := Rat.mul_le_mul_of_nonneg_right h (Rat.le_of_lt p)
    grind
  · intro h
    refine Rat.le_of_mul_le_mul_right (c := (b : Rat) * d) ?_ p
    grind
/-! ### the one load in lowest terms of a rational vector -/
def dn : Nat → (Nat → Rat) → Nat
  | 0, _ => 1
  | n + 1, q => dn n q * (q n).den
theorem dn_pos : ∀ (n : Nat) (q : Nat → Rat), 0 < dn n q
  | 0, _ => Nat.one_pos
  | n + 1, q => Nat.mul_pos (dn_pos n q) (q n).den_pos
theorem dn_dvd : ∀ {n i : Nat} (q : Nat → Rat), i < n → (q i).den ∣ dn n q
  | n + 1, i, q, h => by
    by_cases e : i = n
    · subst e; exact Nat.dvd_mul_left ..
    · exact Nat.dvd_trans (dn_dvd q (by omega)) (Nat.dvd_mul_right ..)
def rpT (n : Nat) (q : Nat → Rat) : List Int := (List.range n).map fun i => (q i).num * ((dn n q / (q i).den : Nat) : Int)
def rpB (n : Nat) (q : Nat → Rat) : Int := (dn n q : Nat)
theorem rpB_pos (n : Nat) (q : Nat → Rat) : 1 ≤ rpB n q := by
  have := dn_pos n q
  show (1 : Int) ≤ ((dn n q : Nat) : Int)
  omega
theorem rpT_len (n : Nat) (q : Nat → Rat) : (rpT n q).length = n := by simp [rpT]
theorem rat_num_den (x : Rat) : x = (x.num : Rat) / (x.den : Nat) := by
  have := Rat.num_divInt_den x
  rw [Rat.divInt_eq_div] at this
  exact this.symm
theorem rpT_get {n i : Nat} (q : Nat → Rat) (h : i < n) : (gt (rpT n q) i : Rat) / (rpB n q : Rat) = q i := by
  unfold rpT rpB
  rw [gt_range h]
  obtain ⟨k, hk⟩ := dn_dvd q h
  have dp := (q i).den_pos
  have kp : 0 < k := Nat.pos_of_ne_zero fun z => by
    have := dn_pos n q
    rw [hk, z] at this
    simp at this
  rw [hk, Nat.mul_div_cancel_left _ dp]
  have e := rat_num_den (q i)
  generalize (q i).num = a at *
  generalize (q i).den = d at *
  rw [e]
  have nd : ((d : Nat) : Rat) ≠ 0 := by
    intro z
    have := Rat.natCast_eq_zero_iff.mp z
    omega
  have nk : ((k : Nat) : Rat) ≠ 0 := by
    intro z
    have := Rat.natCast_eq_zero_iff.mp z
    omega
  rw [Rat.intCast_mul, Rat.intCast_natCast, Rat.intCast_natCast, Rat.natCast_mul]
  grind
theorem low_rp {n : Nat} {ts : List Int} {b : Int} {q : Nat → Rat} (hb : 1 ≤ b) (hl : ts.length = n) (h : ∀ i < n, q i = (gt ts i : Rat) / (b : Rat)) : lowT ts b = lowT (rpT n q) (rpB n q) ∧ lowB ts b = lowB (rpT n q) (rpB n q) := by
  refine low_ext hb (rpB_pos n q) (by rw [hl, rpT_len]) fun i hi => ?_
  rw [hl] at hi
  refine (rat_eq hb (rpB_pos n q)).mp ?_
  rw [rpT_get q hi, h i hi]
theorem rp_congr {n : Nat} {p q : Nat → Rat} (h : ∀ i < n, p i = q i) : lowT (rpT n p) (rpB n p) = lowT (rpT n q) (rpB n q) ∧ lowB (rpT n p) (rpB n p) = lowB (rpT n q) (rpB n q) :=
  low_rp (rpB_pos n p) (rpT_len n p) fun i hi => by rw [rpT_get p hi, h i hi]
/-- the vector is made of small whole numbers over one -/
def FB (B n : Nat) (q : Nat → Rat) : Prop := ∃ (ts : List Int) (b : Int), ts.length = n ∧ 1 ≤ b ∧ b < 2 ^ B ∧ (∀ t ∈ ts, 0 ≤ t ∧ t < 2 ^ B) ∧ ∀ i < n, q i = (gt ts i : Rat) / (b : Rat)
theorem pow_le {A B : Nat} (h : A ≤ B) : (2 : Int) ^ A ≤ 2 ^ B := by
  have := Nat.pow_le_pow_right (n := 2) (by decide) h
  exact_mod_cast this
theorem FB.mono {A B n : Nat} {q : Nat → Rat} (h : FB A n q) (hl : A ≤ B) : FB B n q := by
  obtain ⟨ts, b, h1, h2, h3, h4, h5⟩ := h
  have := pow_le hl
  exact ⟨ts, b, h1, h2, by omega, fun t ht => ⟨(h4 t ht).1, by have := (h4 t ht).2; omega⟩, h5⟩
theorem FB.congr {B n : Nat} {p q : Nat → Rat} (h : FB B n p) (e : ∀ i < n, q i = p i) : FB B n q := by
  obtain ⟨ts, b, h1, h2, h3, h4, h5⟩ := h
  exact ⟨ts, b, h1, h2, h3, h4, fun i hi => by rw [e i hi, h5 i hi]⟩
theorem FB.nonneg {B n : Nat} {q : Nat → Rat} (h : FB B n q) : ∀ i < n, 0 ≤ q i := by
  obtain ⟨ts, b, h1, h2, h3, h4, h5⟩ := h
  intro i hi
  rw [h5 i hi]
  have e : (0 : Rat) = ((0 : Int) : Rat) / ((1 : Int) : Rat) := by rw [Rat.intCast_zero, Rat.intCast_one]; grind
  rw [e]
  refine (rat_le (by decide) h2).mpr ?_
  have := (h4 _ (gt_mem (by omega : i < ts.length))).1
  omega
/-- made of the numbers f i over b -/
theorem FB.mk' {B n : Nat} {q : Nat → Rat} (f : Nat → Int) (b : Int) (h2 : 1 ≤ b) (h3 : b < 2 ^ B) (h4 : ∀ i < n, 0 ≤ f i ∧ f i < 2 ^ B) (h5 : ∀ i < n, q i = (f i : Rat) / (b : Rat)) : FB B n q :=
  ⟨(List.range n).map f, b, by simp, h2, h3, fun t ht => by
    obtain ⟨i, hi, rfl⟩ := List.mem_map.mp ht
    exact h4 i (List.mem_range.mp hi), fun i hi => by rw [gt_range hi]; exact h5 i hi⟩
theorem FB.get {B n : Nat} {q : Nat → Rat} (h : FB B n q) : ∃ (f : Nat → Int) (b : Int), 1 ≤ b ∧ b < 2 ^ B ∧ (∀ i < n, 0 ≤ f i ∧ f i < 2 ^ B) ∧ ∀ i < n, q i = (f i : Rat) / (b : Rat) := by
  obtain ⟨ts, b, h1, h2, h3, h4, h5⟩ := h
  exact ⟨gt ts, b, h2, h3, fun i hi => h4 _ (gt_mem (by omega)), h5⟩
theorem mul_lt_pow {a b : Int} {A B : Nat} (h0 : 0 ≤ a) (h1 : a < 2 ^ A) (h2 : 0 ≤ b) (h3 : b < 2 ^ B) : a * b < 2 ^ (A + B) := by
  have p : (0 : Int) < 2 ^ B := Int.pow_pos (by decide)
  rw [Int.pow_add]
  by_cases z : a = 0
  · subst z
    rw [Int.zero_mul]
    exact Int.mul_pos (Int.pow_pos (by decide)) p
  · calc a * b < a * 2 ^ B := Int.mul_lt_mul_of_pos_left h3 (by omega)
      _ ≤ 2 ^ A * 2 ^ B := Int.mul_le_mul_of_nonneg_right (by omega) (by omega)
theorem mul_pos1 {a b : Int} (ha : 1 ≤ a) (hb : 1 ≤ b) : 1 ≤ a * b := Int.mul_pos (by omega) (by omega)
theorem FB.two {A B n : Nat} {p q r : Nat → Rat} (hp : FB A n p) (hq : FB B n q) (h : ∀ (x y : Int) (b c : Int), 1 ≤ b → 1 ≤ c → ∀ i < n, p i = (x : Rat) / b → q i = (y : Rat) / c → 0 ≤ x → 0 ≤ y → ∃ z : Int, 0 ≤ z ∧ z ≤ x * c + y * b ∧ r i = (z : Rat) / ((b * c : Int) : Rat)) : FB (A + B + 1) n r := by
  obtain ⟨f, b, b1, b2, f1, f2⟩ := hp.get
  obtain ⟨g, c, c1, c2, g1, g2⟩ := hq.get
  have bc := mul_pos1 b1 c1
  have key : ∀ i : Nat, ∃ z : Int, i < n → 0 ≤ z ∧ z < 2 ^ (A + B + 1) ∧ r i = (z : Rat) / ((b * c : Int) : Rat) := fun i => by
    by_cases hi : i < n
    · obtain ⟨z, z0, z1, z2⟩ := h (f i) (g i) b c b1 c1 i hi (f2 i hi) (g2 i hi) (f1 i hi).1 (g1 i hi).1
      have m1 := mul_lt_pow (f1 i hi).1 (f1 i hi).2 (by omega : 0 ≤ c) c2
      have m2 := mul_lt_pow (g1 i hi).1 (g1 i hi).2 (by omega : 0 ≤ b) b2
      rw [Nat.add_comm B A] at m2
      have : (2 : Int) ^ (A + B + 1) = 2 ^ (A + B) * 2 := Int.pow_succ ..
      exact ⟨z, fun _ => ⟨z0, by omega, z2⟩⟩
    · exact ⟨0, fun h => absurd h hi⟩
  have m3 := mul_lt_pow (by omega : 0 ≤ b) b2 (by omega : 0 ≤ c) c2
  have : (2 : Int) ^ (A + B + 1) = 2 ^ (A + B) * 2 := Int.pow_succ ..
  have pp : (0 : Int) < 2 ^ (A + B) := Int.pow_pos (by decide)
  exact FB.mk' (fun i => Classical.choose (key i)) (b * c) bc (by omega) (fun i hi => ⟨(Classical.choose_spec (key i) hi).1, (Classical.choose_spec (key i) hi).2.1⟩) fun i hi => (Classical.choose_spec (key i) hi).2.2
theorem frac_add {x y b c : Int} (hb : 1 ≤ b) (hc : 1 ≤ c) : (x : Rat) / b + (y : Rat) / c = ((x * c + y * b : Int) : Rat) / ((b * c : Int) : Rat) := by
  have nb := cast_pos hb
  have nc := cast_pos hc
  rw [Rat.intCast_add, Rat.intCast_mul, Rat.intCast_mul, Rat.intCast_mul]
  grind
theorem frac_sub {x y b c : Int} (hb : 1 ≤ b) (hc : 1 ≤ c) : (x : Rat) / b - (y : Rat) / c = ((x * c - y * b : Int) : Rat) / ((b * c : Int) : Rat) := by
  have nb := cast_pos hb
  have nc := cast_pos hc
  rw [Rat.intCast_sub, Rat.intCast_mul, Rat.intCast_mul, Rat.intCast_mul]
  grind
theorem frac_l {x b c : Int} (hb : 1 ≤ b) (hc : 1 ≤ c) : (x : Rat) / b = ((x * c : Int) : Rat) / ((b * c : Int) : Rat) := by
  refine (rat_eq hb (mul_pos1 hb hc)).mpr ?_
  rw [Int.mul_assoc, Int.mul_comm c b]
theorem frac_r {y b c : Int} (hb : 1 ≤ b) (hc : 1 ≤ c) : (y : Rat) / c = ((y * b : Int) : Rat) / ((b * c : Int) : Rat) := by
  refine (rat_eq hc (mul_pos1 hb hc)).mpr ?_
  rw [Int.mul_assoc]
theorem FB.add {A B n : Nat} {p q : Nat → Rat} (hp : FB A n p) (hq : FB B n q) : FB (A + B + 1) n (fun i => p i + q i) :=
  hp.two hq fun x y b c hb hc i hi e1 e2 x0 y0 => ⟨x * c + y * b, by
    have := Int.mul_nonneg x0 (by omega : 0 ≤ c)
    have := Int.mul_nonneg y0 (by omega : 0 ≤ b)
    omega, Int.le_refl _, by rw [e1, e2]; exact frac_add hb hc⟩
theorem FB.sub {A B n : Nat} {p q : Nat → Rat} (hp : FB A n p) (hq : FB B n q) (h : ∀ i < n, q i ≤ p i) : FB (A + B + 1) n (fun i => p i - q i) :=
  hp.two hq fun x y b c hb hc i hi e1 e2 x0 y0 => ⟨x * c - y * b, by
    have := h i hi
    rw [e1, e2] at this
    have := (rat_le hc hb).mp this
    omega, by
    have := Int.mul_nonneg y0 (by omega : 0 ≤ b)
    omega, by rw [e1, e2]; exact frac_sub hb hc⟩
theorem FB.pick {A B n : Nat} {p q r : Nat → Rat} (hp : FB A n p) (hq : FB B n q) (h : ∀ i < n, r i = p i ∨ r i = q i) : FB (A + B + 1) n r :=
  hp.two hq fun x y b c hb hc i hi e1 e2 x0 y0 => by
    have h1 := Int.mul_nonneg x0 (by omega : 0 ≤ c)
    have h2 := Int.mul_nonneg y0 (by omega : 0 ≤ b)
    rcases h i hi with e | e
    · exact ⟨x * c, h1, by omega, by rw [e, e1]; exact frac_l hb hc⟩
    · exact ⟨y * b, h2, by omega, by rw [e, e2]; exact frac_r hb hc⟩
/-- a web of small numbers -/
structure Web (n : Nat) (R : List (List Int)) (m : Int) : Prop where
  n1 : 1 ≤ n
  nk : n ≤ 60
  len : R.length = n
  row : ∀ r ∈ R, r.length = n ∧ ∀ x ∈ r, 0 ≤ x ∧ x < 2 ^ 8
  m1 : 1 ≤ m
  m2 : m < 2 ^ 8
def at2 (R : List (List Int)) (i j : Nat) : Int := gt (R.getD i []) j
theorem Web.at {n : Nat} {R : List (List Int)} {m : Int} (h : Web n R m) {i j : Nat} (hi : i < n) (hj : j < n) : 0 ≤ at2 R i j ∧ at2 R i j < 2 ^ 8 := by
  have hl : i < R.length := by rw [h.len]; exact hi
  unfold at2
  rw [List.getD, List.getElem?_eq_getElem hl]
  obtain ⟨h1, h2⟩ := h.row _ (List.getElem_mem hl)
  exact h2 _ (gt_mem (by show j < R[i].length; rw [h1]; exact hj))
/-- what comes by one step -/
def stp (n : Nat) (R : List (List Int)) (m : Int) (q : Nat → Rat) (j : Nat) : Rat := sm n fun i => q i * ((at2 R i j : Rat) / (m : Rat))
section
variable {n : Nat} {R : List (List Int)} {m : Int}
theorem Web.r_nonneg (h : Web n R m) {i j : Nat} (hi : i < n) (hj : j < n) : 0 ≤ (at2 R i j : Rat) / (m : Rat) := by
  have e : (0 : Rat) = ((0 : Int) : Rat) / ((1 : Int) : Rat) := by rw [Rat.intCast_zero, Rat.intCast_one]; grind
  rw [e]
  refine (rat_le (by decide) h.m1).mpr ?_
  have := (h.at hi hj).1
  omega
theorem stp_congr {p q : Nat → Rat} (h : ∀ i < n, p i = q i) (j : Nat) : stp n R m p j = stp n R m q j := sm_congr fun i hi => by rw [h i hi]
theorem stp_add (p q : Nat → Rat) (j : Nat) : stp n R m (fun i => p i + q i) j = stp n R m p j + stp n R m q j := by
  unfold stp
  rw [← sm_add]
  exact sm_congr fun i _ => by grind
theorem stp_sub (p q : Nat → Rat) (j : Nat) : stp n R m (fun i => p i - q i) j = stp n R m p j - stp n R m q j := by
  unfold stp
  rw [← sm_sub]
  exact sm_congr fun i _ => by grind
theorem stp_zero (j : Nat) : stp n R m (fun _ => 0) j = 0 := by
  unfold stp
  rw [sm_congr (g := fun _ => 0) fun i _ => Rat.zero_mul _, sm_zero]
theorem stp_le (w : Web n R m) {p q : Nat → Rat} (h : ∀ i < n, p i ≤ q i) {j : Nat} (hj : j < n) : stp n R m p j ≤ stp n R m q j :=
  sm_le fun i hi => Rat.mul_le_mul_of_nonneg_right (h i hi) (w.r_nonneg hi hj)
theorem stp_nonneg (w : Web n R m) {p : Nat → Rat} (h : ∀ i < n, 0 ≤ p i) {j : Nat} (hj : j < n) : 0 ≤ stp n R m p j := by
  have := stp_le w (p := fun _ => 0) (q := p) h hj
  rwa [stp_zero] at this
/-- a step of whole numbers over a bottom -/
theorem stp_int (w : Web n R m) (f : Nat → Int) (b : Int) (hb : 1 ≤ b) (q : Nat → Rat) (h : ∀ i < n, q i = (f i : Rat) / (b : Rat)) (j : Nat) : stp n R m q j = ((sI n fun i => f i * at2 R i j : Int) : Rat) / ((b * m : Int) : Rat) := by
  have nb := cast_pos hb
  have nm := cast_pos w.m1
  unfold stp
  rw [sI_cast, Rat.intCast_mul]
  have : sm n (fun i => q i * ((at2 R i j : Rat) / (m : Rat))) = sm n fun i => (1 / ((b : Rat) * m)) * ((f i * at2 R i j : Int) : Rat) := sm_congr fun i hi => by
    rw [h i hi, Rat.intCast_mul]
    grind
  rw [this, sm_mul]
  grind
theorem FB.stp {B : Nat} {q : Nat → Rat} (w : Web n R m) (h : FB B n q) : FB (B + 16) n (stp n R m q) := by
  obtain ⟨f, b, b1, b2, f1, f2⟩ := h.get
  have pB : (0 : Int) < 2 ^ B := Int.pow_pos (by decide)
  have p16 : (2 : Int) ^ (B + 16) = 2 ^ B * 65536 := by rw [Int.pow_add]; rfl
  have w1 := w.m1
  have w2 := w.m2
  refine FB.mk' (fun j => sI n fun i => f i * at2 R i j) (b * m) (mul_pos1 b1 w1) ?_ (fun j hj => ?_) fun j _ => stp_int w f b b1 q f2 j
  · have := mul_lt_pow (by omega : 0 ≤ b) b2 (by omega : 0 ≤ m) w2
    have := pow_le (A := B + 8) (B := B + 16) (by omega)
    omega
  · obtain ⟨s0, s1⟩ := sI_bound n (fun i => f i * at2 R i j) (2 ^ (B + 8)) fun i hi => by
      obtain ⟨a0, a1⟩ := w.at hi hj
      refine ⟨Int.mul_nonneg (f1 i hi).1 a0, ?_⟩
      have := mul_lt_pow (f1 i hi).1 (f1 i hi).2 a0 a1
      omega
    refine ⟨s0, ?_⟩
    have p8 : (2 : Int) ^ (B + 8) = 2 ^ B * 256 := by rw [Int.pow_add]; rfl
    have nk := w.nk
    have : (n : Int) * 2 ^ (B + 8) ≤ 60 * 2 ^ (B + 8) := Int.mul_le_mul_of_nonneg_right (by omega) (by omega)
    omega
end
end My
set_option Elab.async false
set_option linter.all false
set_option maxRecDepth 100000
set_option maxHeartbeats 4000000
set_option exponentiation.threshold 20000
namespace My
/-! ### the walk, by fractions -/
def mx (a b : Int) : Int := if b > a then b else a
def mn (a b : Int) : Int := if b < a then b else a
def mxR (a b : Rat) : Rat := if b > a then b else a
def mnR (a b : Rat) : Rat := if b < a then b else a
/-- what stands, what is gone, what is kept, moment by moment, up to T -/
structure Walk (n : Nat) (R : List (List Int)) (m : Int) (v L : Nat → Rat) (stay : Bool) (T : Nat) (S G K Wt : Nat → Nat → Rat) : Prop where
  s0 : ∀ i < n, S 0 i = v i
  g0 : ∀ i < n, G 0 i = 0
  k0 : ∀ i < n, K 0 i = 0
  w0 : ∀ k < T, ∀ i < n, 0 ≤ Wt k i ∧ Wt k i ≤ S k i
  go : ∀ k < T, ∀ i < n, G (k + 1) i = G k i + (if stay then mxR (Wt k i) (S k i + K k i - L i) else mnR (Wt k i) (L i - G k i))
  ke : ∀ k < T, ∀ i < n, K (k + 1) i = K k i + S k i - (G (k + 1) i - G k i)
  st : ∀ k < T, ∀ j < n, S (k + 1) j = stp n R m (fun i => G (k + 1) i - G k i) j
section
variable {n : Nat} {R : List (List Int)} {m : Int} {v L : Nat → Rat} {stay : Bool} {T : Nat} {S G K Wt : Nat → Nat → Rat}
structure Inv (n : Nat) (R : List (List Int)) (m : Int) (v L : Nat → Rat) (stay : Bool) (S G K : Nat → Rat) : Prop where
  s : ∀ i < n, 0 ≤ S i
  g : ∀ i < n, 0 ≤ G i
  k : ∀ i < n, 0 ≤ K i
  e : ∀ i < n, S i + K i + G i = v i + stp n R m G i
  l : ∀ i < n, (if stay then K i else G i) ≤ L i
theorem Walk.inv (W : Walk n R m v L stay T S G K Wt) (w : Web n R m) (hv : ∀ i < n, 0 ≤ v i) (hL : ∀ i < n, 0 ≤ L i) : ∀ k ≤ T, Inv n R m v L stay (S k) (G k) (K k)
  | 0, _ => by
    have z : ∀ j, stp n R m (G 0) j = 0 := fun j => by rw [stp_congr (q := fun _ => 0) (fun i hi => W.g0 i hi), stp_zero]
    refine ⟨fun i hi => ?_, fun i hi => ?_, fun i hi => ?_, fun i hi => ?_, fun i hi => ?_⟩
    · rw [W.s0 i hi]; exact hv i hi
    · rw [W.g0 i hi]; exact Rat.le_refl
    · rw [W.k0 i hi]; exact Rat.le_refl
    · rw [W.s0 i hi, W.g0 i hi, W.k0 i hi, z]; grind
    · have := hL i hi
      cases stay
      · rw [W.g0 i hi]; exact this
      · rw [W.k0 i hi]; exact this
  | k + 1, hk => by
    obtain ⟨a, b, c, e, l⟩ := W.inv w hv hL k (by omega)
    have gg : ∀ i < n, 0 ≤ G (k + 1) i - G k i ∧ G (k + 1) i - G k i ≤ S k i ∧ (if stay then K (k + 1) i else G (k + 1) i) ≤ L i := fun i hi => by
      have h1 := W.go k (by omega) i hi
      have h2 := W.w0 k (by omega) i hi
      have h3 := l i hi
      have h4 := W.ke k (by omega) i hi
      have := c i hi
      have := b i hi
      unfold mxR mnR at h1
      cases stay
      · simp only [Bool.false_eq_true, if_false] at h1 h3 ⊢
        split at h1 <;> grind
      · simp only [if_true] at h1 h3 ⊢
        split at h1 <;> grind
    refine ⟨fun i hi => ?_, fun i hi => ?_, fun i hi => ?_, fun i hi => ?_, fun i hi => (gg i hi).2.2⟩
    · rw [W.st k (by omega) i hi]
      exact stp_nonneg w (fun i hi => (gg i hi).1) hi
    · have := (gg i hi).1
      have := b i hi
      grind
    · rw [W.ke k (by omega) i hi]
      have := (gg i hi).2.1
      have := c i hi
      grind
    · rw [W.st k (by omega) i hi, W.ke k (by omega) i hi, stp_sub]
      have := e i hi
      grind
theorem Walk.goes (W : Walk n R m v L stay T S G K Wt) (w : Web n R m) (hv : ∀ i < n, 0 ≤ v i) (hL : ∀ i < n, 0 ≤ L i) {k : Nat} (hk : k < T) {i : Nat} (hi : i < n) : G k i ≤ G (k + 1) i ∧ G (k + 1) i - G k i ≤ S k i := by
  obtain ⟨a, b, c, e, l⟩ := W.inv w hv hL k (by omega)
  have h1 := W.go k (by omega) i hi
  have h2 := W.w0 k (by omega) i hi
  have h3 := l i hi
  have := c i hi
  have := b i hi
  unfold mxR mnR at h1
  cases stay
  · simp only [Bool.false_eq_true, if_false] at h1 h3
    split at h1 <;> grind
  · simp only [if_true] at h1 h3
    split at h1 <;> grind
/-- kept so far is what has come less what is gone next -/
theorem Walk.kept (W : Walk n R m v L stay T S G K Wt) (w : Web n R m) (hv : ∀ i < n, 0 ≤ v i) (hL : ∀ i < n, 0 ≤ L i) {k : Nat} (hk : k < T) {i : Nat} (hi : i < n) : K (k + 1) i = v i + stp n R m (G k) i - G (k + 1) i := by
  have := (W.inv w hv hL k (by omega)).e i hi
  have := W.ke k hk i hi
  grind
/-! stay-first without wants: it is the course by what comes -/
theorem Walk.stay1 (W : Walk n R m v L true T S G K Wt) (w : Web n R m) (hv : ∀ i < n, 0 ≤ v i) (hL : ∀ i < n, 0 ≤ L i) (hw : ∀ k < T, ∀ i < n, Wt k i = 0) : ∀ k ≤ T, ∀ i < n, 0 < G k i → K k i = L i
  | 0, _, i, hi, h => by rw [W.g0 i hi] at h; grind
  | k + 1, hk, i, hi, h => by
    have ih := W.stay1 w hv hL hw k (by omega) i hi
    obtain ⟨a, b, c, e, l⟩ := W.inv w hv hL k (by omega)
    have h1 := W.go k (by omega) i hi
    have h4 := W.ke k (by omega) i hi
    have h5 := hw k (by omega) i hi
    have := a i hi
    have := b i hi
    have := c i hi
    have := l i hi
    simp only [if_true] at *
    unfold mxR at h1
    split at h1 <;> grind
theorem Walk.stay_eq (W : Walk n R m v L true T S G K Wt) (w : Web n R m) (hv : ∀ i < n, 0 ≤ v i) (hL : ∀ i < n, 0 ≤ L i) (hw : ∀ k < T, ∀ i < n, Wt k i = 0) {k : Nat} (hk : k < T) {i : Nat} (hi : i < n) :
    G (k + 1) i = mxR (v i + stp n R m (G k) i) (L i) - L i := by
  have s1 := W.stay1 w hv hL hw k (by omega) i hi
  obtain ⟨a, b, c, e, l⟩ := W.inv w hv hL k (by omega)
  have h1 := W.go k (by omega) i hi
  have h5 := hw k (by omega) i hi
  have := a i hi
  have := b i hi
  have := c i hi
  have := l i hi
  have := e i hi
  simp only [if_true] at *
  unfold mxR at *
  split at h1 <;> split <;> grind
theorem Walk.go1 (W : Walk n R m v L false T S G K Wt) (w : Web n R m) (hv : ∀ i < n, 0 ≤ v i) (hL : ∀ i < n, 0 ≤ L i) (hw : ∀ k < T, ∀ i < n, Wt k i = S k i) : ∀ k ≤ T, ∀ i < n, 0 < K k i → G k i = L i
  | 0, _, i, hi, h => by rw [W.k0 i hi] at h; grind
  | k + 1, hk, i, hi, h => by
    have ih := W.go1 w hv hL hw k (by omega) i hi
    obtain ⟨a, b, c, e, l⟩ := W.inv w hv hL k (by omega)
    have h1 := W.go k (by omega) i hi
    have h4 := W.ke k (by omega) i hi
    have h5 := hw k (by omega) i hi
    have := a i hi
    have := b i hi
    have := c i hi
    have := l i hi
    simp only [Bool.false_eq_true, if_false] at *
    unfold mnR at h1
    split at h1 <;> grind
theorem Walk.go_eq (W : Walk n R m v L false T S G K Wt) (w : Web n R m) (hv : ∀ i < n, 0 ≤ v i) (hL : ∀ i < n, 0 ≤ L i) (hw : ∀ k < T, ∀ i < n, Wt k i = S k i) {k : Nat} (hk : k < T) {i : Nat} (hi : i < n) :
    G (k + 1) i = mnR (L i) (v i + stp n R m (G k) i) := by
  have s1 := W.go1 w hv hL hw k (by omega) i hi
  obtain ⟨a, b, c, e, l⟩ := W.inv w hv hL k (by omega)
  have h1 := W.go k (by omega) i hi
  have h5 := hw k (by omega) i hi
  have := a i hi
  have := b i hi
  have := c i hi
  have := l i hi
  have := e i hi
  simp only [Bool.false_eq_true, if_false] at *
  unfold mnR at *
  split at h1 <;> split <;> grind
/-- stay-first passes least -/
theorem stay_least {T' : Nat} {S' G' K' Wt' : Nat → Nat → Rat} (W : Walk n R m v L true T S G K Wt) (W' : Walk n R m v L true T' S' G' K' Wt') (w : Web n R m) (hv : ∀ i < n, 0 ≤ v i) (hL : ∀ i < n, 0 ≤ L i) (hw : ∀ k < T, ∀ i < n, Wt k i = 0) :
    ∀ k, k ≤ T → k ≤ T' → ∀ i < n, G k i ≤ G' k i
  | 0, _, _, i, hi => by rw [W.g0 i hi, W'.g0 i hi]; exact Rat.le_refl
  | k + 1, h1, h2, i, hi => by
    have ih := stay_least W W' w hv hL hw k (by omega) (by omega)
    have e1 := W.stay_eq w hv hL hw (by omega : k < T) hi
    have mo := stp_le w ih hi
    have i1 := (W'.inv w hv hL (k + 1) (by omega)).g i hi
    have i2 := (W'.inv w hv hL (k + 1) (by omega)).l i hi
    have i3 := W'.kept w hv hL (by omega : k < T') hi
    simp only [if_true] at *
    rw [e1]
    unfold mxR
    split <;> grind
theorem go_most {T' : Nat} {S' G' K' Wt' : Nat → Nat → Rat} (W : Walk n R m v L false T S G K Wt) (W' : Walk n R m v L false T' S' G' K' Wt') (w : Web n R m) (hv : ∀ i < n, 0 ≤ v i) (hL : ∀ i < n, 0 ≤ L i) (hw : ∀ k < T, ∀ i < n, Wt k i = S k i) :
    ∀ k, k ≤ T → k ≤ T' → ∀ i < n, G' k i ≤ G k i
  | 0, _, _, i, hi => by rw [W.g0 i hi, W'.g0 i hi]; exact Rat.le_refl
  | k + 1, h1, h2, i, hi => by
    have ih := go_most W W' w hv hL hw k (by omega) (by omega)
    have e1 := W.go_eq w hv hL hw (by omega : k < T) hi
    have mo := stp_le w ih hi
    have i1 := (W'.inv w hv hL (k + 1) (by omega)).k i hi
    have i2 := (W'.inv w hv hL (k + 1) (by omega)).l i hi
    have i3 := W'.kept w hv hL (by omega : k < T') hi
    simp only [Bool.false_eq_true, if_false] at *
    rw [e1]
    unfold mnR
    split <;> grind
end
end My
set_option Elab.async false
set_option linter.all false
set_option maxRecDepth 100000
set_option maxHeartbeats 4000000
set_option exponentiation.threshold 20000
namespace My
/-! ### courses -/
def stands (n : Nat) (R : List (List Int)) (m : Int) (v : Nat → Rat) (c : Nat → Nat → Rat) : Nat → Nat → Rat
  | 0 => v
  | k + 1 => stp n R m (fun i => c (k + 1) i - c k i)
structure Course (n : Nat) (R : List (List Int)) (m : Int) (v : Nat → Rat) (c : Nat → Nat → Rat) (T : Nat) : Prop where
  z : ∀ i < n, c 0 i = 0
  up : ∀ k < T, ∀ i < n, c k i ≤ c (k + 1) i
  st : ∀ k < T, ∀ i < n, c (k + 1) i - c k i ≤ stands n R m v c k i
/-- what has stayed of all that came -/
def stayed (n : Nat) (R : List (List Int)) (m : Int) (v : Nat → Rat) (c : Nat → Nat → Rat) : Nat → Nat → Rat
  | 0 => fun _ => 0
  | k + 1 => fun j => v j + stp n R m (c k) j - c (k + 1) j
structure Fits (n : Nat) (R : List (List Int)) (m : Int) (v : Nat → Rat) (c : Nat → Nat → Rat) (T : Nat) : Prop where
  z : ∀ i < n, c 0 i ≤ 0
  up : ∀ k < T, ∀ i < n, c k i ≤ c (k + 1) i
  st : ∀ k < T, ∀ i < n, stayed n R m v c k i ≤ stayed n R m v c (k + 1) i
theorem course_fits {n : Nat} {R : List (List Int)} {m : Int} {v : Nat → Rat} {c : Nat → Nat → Rat} {T : Nat} (h0 : ∀ k ≤ T, ∀ i < n, 0 ≤ c k i) : Course n R m v c T ↔ Fits n R m v c T := by
  have key : (∀ i < n, c 0 i = 0) → ∀ k < T, ∀ i < n, (c (k + 1) i - c k i ≤ stands n R m v c k i ↔ stayed n R m v c k i ≤ stayed n R m v c (k + 1) i) := by
    intro z k hk i hi
    cases k with
    | zero =>
      have e : stp n R m (c 0) i = 0 := by rw [stp_congr (q := fun _ => 0) z, stp_zero]
      have := z i hi
      simp only [stands, stayed]
      constructor <;> intro <;> grind
    | succ k =>
      simp only [stands, stayed]
      rw [stp_sub]
      constructor <;> intro <;> grind
  constructor
  · intro h
    exact ⟨fun i hi => by rw [h.z i hi]; exact Rat.le_refl, h.up, fun k hk i hi => (key h.z k hk i hi).mp (h.st k hk i hi)⟩
  · intro h
    have z : ∀ i < n, c 0 i = 0 := fun i hi => Rat.le_antisymm (h.z i hi) (h0 0 (by omega) i hi)
    exact ⟨z, h.up, fun k hk i hi => (key z k hk i hi).mpr (h.st k hk i hi)⟩
section
variable {n : Nat} {R : List (List Int)} {m : Int} {v L : Nat → Rat} {stay : Bool} {T : Nat} {S G K Wt : Nat → Nat → Rat}
theorem Walk.stands_eq (W : Walk n R m v L stay T S G K Wt) : ∀ k < T + 1, ∀ i < n, stands n R m v G k i = S k i
  | 0, _, i, hi => (W.s0 i hi).symm
  | k + 1, hk, i, hi => (W.st k (by omega) i hi).symm
theorem Walk.course (W : Walk n R m v L stay T S G K Wt) (w : Web n R m) (hv : ∀ i < n, 0 ≤ v i) (hL : ∀ i < n, 0 ≤ L i) : Course n R m v G T where
  z := W.g0
  up := fun k hk i hi => (W.goes w hv hL hk hi).1
  st := fun k hk i hi => by
    rw [W.stands_eq k (by omega) i hi]
    exact (W.goes w hv hL hk hi).2
end
/-! ### the law's own walk, in whole numbers -/
structure St where
  s : List Int
  g : List Int
  k : List Int
  c : Int
def up (f : Int) (x : St) : St := ⟨x.s.map (f * ·), x.g.map (f * ·), x.k.map (f * ·), x.c * f⟩
def goesOf (n : Nat) (lim : List Int) (stay : Bool) (w : List Int) (x : St) : List Int :=
  (List.range n).map fun i => if stay then mx (gt w i) (gt x.s i + gt x.k i - gt lim i * x.c) else mn (gt w i) (gt lim i * x.c - gt x.g i)
def next (n : Nat) (R : List (List Int)) (m : Int) (lim : List Int) (stay : Bool) (w : List Int) (x : St) : St :=
  ⟨(List.range n).map fun j => sI n fun i => gt (goesOf n lim stay w x) i * at2 R i j,
   (List.range n).map fun i => (gt x.g i + gt (goesOf n lim stay w x) i) * m,
   (List.range n).map fun i => (gt x.k i + gt x.s i - gt (goesOf n lim stay w x) i) * m,
   x.c * m⟩
def wantsOf (n : Nat) (sh : List (List Int)) (stay : Bool) (k : Nat) (x : St) : List Int :=
  if 0 < sh.length then (List.range n).map fun i => gt x.s i * at2 sh k i / 4 else if stay then List.replicate n 0 else x.s
def fourOf (sh : List (List Int)) : Int := 1 + 3 * (if 0 < sh.length then 1 else 0)
def raw (n : Nat) (R : List (List Int)) (m : Int) (be lim : List Int) (stay : Bool) (sh : List (List Int)) : Nat → St
  | 0 => ⟨be, List.replicate n 0, List.replicate n 0, 1⟩
  | k + 1 => let x := up (fourOf sh) (raw n R m be lim stay sh k); next n R m lim stay (wantsOf n sh stay k x) x
structure Raw (n : Nat) (B C : Nat) (lim : List Int) (stay : Bool) (x : St) : Prop where
  ls : x.s.length = n
  lg : x.g.length = n
  lk : x.k.length = n
  c1 : 1 ≤ x.c
  c2 : x.c < 2 ^ C
  s : ∀ i < n, 0 ≤ gt x.s i ∧ gt x.s i < 2 ^ B
  g : ∀ i < n, 0 ≤ gt x.g i ∧ gt x.g i < 2 ^ B
  k : ∀ i < n, 0 ≤ gt x.k i ∧ gt x.k i < 2 ^ B
  l : ∀ i < n, (if stay then gt x.k i else gt x.g i) ≤ gt lim i * x.c
theorem gt_rep (n : Nat) (i : Nat) : gt (List.replicate n 0) i = 0 := by
  by_cases h : i < n
  · rw [gt_get (by simpa using h)]; simp
  · exact gt_out (by simp; omega)
theorem four_b (sh : List (List Int)) : 1 ≤ fourOf sh ∧ fourOf sh ≤ 4 := by unfold fourOf; split <;> omega
theorem Raw.up {n B C : Nat} {lim : List Int} {stay : Bool} {x : St} (h : Raw n B C lim stay x) {f : Int} (f1 : 1 ≤ f) (f4 : f ≤ 4) : Raw n (B + 2) (C + 2) lim stay (up f x) := by
  have key : ∀ y : Int, 0 ≤ y ∧ y < 2 ^ B → 0 ≤ f * y ∧ f * y < 2 ^ (B + 2) := fun y hy => by
    have p : (2 : Int) ^ (B + 2) = 2 ^ B * 4 := by rw [Int.pow_add]; rfl
    refine ⟨Int.mul_nonneg (by omega) hy.1, ?_⟩
    have := Int.mul_le_mul_of_nonneg_right f4 hy.1
    omega
  refine ⟨by simp [My.up, h.ls], by simp [My.up, h.lg], by simp [My.up, h.lk], mul_pos1 h.c1 f1, ?_, fun i hi => ?_, fun i hi => ?_, fun i hi => ?_, fun i hi => ?_⟩
  · have p : (2 : Int) ^ (C + 2) = 2 ^ C * 4 := by rw [Int.pow_add]; rfl
    have := Int.mul_le_mul_of_nonneg_left f4 (by have := h.c1; omega : 0 ≤ x.c)
    have := h.c2
    show x.c * f < _
    omega
  · rw [My.up, gt_map (by rw [h.ls]; exact hi)]; exact key _ (h.s i hi)
  · rw [My.up, gt_map (by rw [h.lg]; exact hi)]; exact key _ (h.g i hi)
  · rw [My.up, gt_map (by rw [h.lk]; exact hi)]; exact key _ (h.k i hi)
  · have l := h.l i hi
    have := Int.mul_le_mul_of_nonneg_left l (by omega : 0 ≤ f)
    have e : f * (gt lim i * x.c) = gt lim i * (x.c * f) := by rw [Int.mul_comm f, Int.mul_assoc]
    cases stay
    · simp only [Bool.false_eq_true, if_false] at *
      rw [My.up, gt_map (by rw [h.lg]; exact hi)]
      show f * gt x.g i ≤ gt lim i * (x.c * f)
      omega
    · simp only [if_true] at *
      rw [My.up, gt_map (by rw [h.lk]; exact hi)]
      show f * gt x.k i ≤ gt lim i * (x.c * f)
      omega
structure WantsOk (n : Nat) (w : List Int) (x : St) : Prop where
  len : w.length = n
  ok : ∀ i < n, 0 ≤ gt w i ∧ gt w i ≤ gt x.s i
theorem goes_b {n B C : Nat} {lim : List Int} {stay : Bool} {x : St} (h : Raw n B C lim stay x) {w : List Int} (hw : WantsOk n w x) : ∀ i < n, 0 ≤ gt (goesOf n lim stay w x) i ∧ gt (goesOf n lim stay w x) i ≤ gt x.s i ∧ (stay = true → gt x.k i + gt x.s i - gt (goesOf n lim stay w x) i ≤ gt lim i * x.c) ∧ (stay = false → gt x.g i + gt (goesOf n lim stay w x) i ≤ gt lim i * x.c) := by
  intro i hi
  unfold goesOf
  rw [gt_range hi]
  have := hw.ok i hi
  have := h.l i hi
  have := h.k i hi
  have := h.g i hi
  generalize gt lim i * x.c = z at *
  cases stay
  · rw [if_neg Bool.false_ne_true] at *
    unfold mn
    split <;> refine ⟨by omega, by omega, (fun h => by cases h), (fun _ => by omega)⟩
  · rw [if_pos rfl] at *
    unfold mx
    split <;> refine ⟨by omega, by omega, (fun _ => by omega), (fun h => by cases h)⟩
theorem Raw.next {n B C : Nat} {R : List (List Int)} {m : Int} {lim : List Int} {stay : Bool} {x : St} (h : Raw n B C lim stay x) (w : Web n R m) {wt : List Int} (hw : WantsOk n wt x) : Raw n (B + 16) (C + 8) lim stay (next n R m lim stay wt x) := by
  have gb := goes_b h hw
  have pB : (0 : Int) < 2 ^ B := Int.pow_pos (by decide)
  have p16 : (2 : Int) ^ (B + 16) = 2 ^ B * 65536 := by rw [Int.pow_add]; rfl
  have w1 := w.m1
  have w2 := w.m2
  refine ⟨by simp [My.next], by simp [My.next], by simp [My.next], mul_pos1 h.c1 w1, ?_, fun j hj => ?_, fun i hi => ?_, fun i hi => ?_, fun i hi => ?_⟩
  · exact mul_lt_pow (by have := h.c1; omega) h.c2 (by omega) w2
  · simp only [My.next]
    rw [gt_range hj]
    obtain ⟨s0, s1⟩ := sI_bound n (fun i => gt (goesOf n lim stay wt x) i * at2 R i j) (2 ^ (B + 8)) fun i hi => by
      obtain ⟨a0, a1⟩ := w.at hi hj
      obtain ⟨g0, g1, _⟩ := gb i hi
      refine ⟨Int.mul_nonneg g0 a0, ?_⟩
      have := mul_lt_pow g0 (by have := (h.s i hi).2; omega : _ < (2 : Int) ^ B) a0 a1
      omega
    refine ⟨s0, ?_⟩
    have p8 : (2 : Int) ^ (B + 8) = 2 ^ B * 256 := by rw [Int.pow_add]; rfl
    have nk := w.nk
    have : (n : Int) * 2 ^ (B + 8) ≤ 60 * 2 ^ (B + 8) := Int.mul_le_mul_of_nonneg_right (by omega) (by omega)
    omega
  · simp only [My.next]
    rw [gt_range hi]
    obtain ⟨g0, g1, _⟩ := gb i hi
    have a := h.g i hi
    have b := h.s i hi
    generalize gt (goesOf n lim stay wt x) i = z at *
    have p1 : (2 : Int) ^ (B + 1) = 2 ^ B * 2 := Int.pow_succ ..
    have := mul_lt_pow (a := gt x.g i + z) (A := B + 1) (by omega) (by omega) (by omega : 0 ≤ m) w2
    have := pow_le (A := B + 1 + 8) (B := B + 16) (by omega)
    exact ⟨Int.mul_nonneg (by omega) (by omega), by omega⟩
  · simp only [My.next]
    rw [gt_range hi]
    obtain ⟨g0, g1, _⟩ := gb i hi
    have a := h.k i hi
    have b := h.s i hi
    generalize gt (goesOf n lim stay wt x) i = z at *
    have p1 : (2 : Int) ^ (B + 1) = 2 ^ B * 2 := Int.pow_succ ..
    have := mul_lt_pow (a := gt x.k i + gt x.s i - z) (A := B + 1) (by omega) (by omega) (by omega : 0 ≤ m) w2
    have := pow_le (A := B + 1 + 8) (B := B + 16) (by omega)
    exact ⟨Int.mul_nonneg (by omega) (by omega), by omega⟩
  · obtain ⟨_, _, g2, g3⟩ := gb i hi
    simp only [My.next]
    rw [gt_range hi, gt_range hi, ← Int.mul_assoc]
    cases stay
    · simp only [Bool.false_eq_true, if_false] at *
      exact Int.mul_le_mul_of_nonneg_right (g3 trivial) (by omega)
    · simp only [if_true] at *
      exact Int.mul_le_mul_of_nonneg_right (g2 trivial) (by omega)
/-- shares: fourths from 0 to 4 -/
def SharesOk (n : Nat) (sh : List (List Int)) (T : Nat) : Prop := 0 < sh.length → T ≤ sh.length ∧ ∀ k < T, ∀ i < n, 0 ≤ at2 sh k i ∧ at2 sh k i ≤ 4
theorem wants_ok {n B C : Nat} {lim : List Int} {stay : Bool} {x : St} (h : Raw n B C lim stay x) {sh : List (List Int)} {T k : Nat} (hs : SharesOk n sh T) (hk : k < T) : WantsOk n (wantsOf n sh stay k x) x := by
  unfold wantsOf
  by_cases z : 0 < sh.length
  · rw [if_pos z]
    refine ⟨by simp, fun i hi => ?_⟩
    rw [gt_range hi]
    obtain ⟨a, b⟩ := (hs z).2 k hk i hi
    have := (h.s i hi).1
    have := Int.mul_nonneg this a
    have := Int.mul_le_mul_of_nonneg_left b (h.s i hi).1
    omega
  · rw [if_neg z]
    cases stay
    · exact ⟨h.ls, fun i hi => ⟨(h.s i hi).1, Int.le_refl _⟩⟩
    · refine ⟨by simp, fun i hi => ?_⟩
      rw [if_pos rfl, gt_rep]
      exact ⟨Int.le_refl _, (h.s i hi).1⟩
theorem raw_ok {n : Nat} {R : List (List Int)} {m : Int} {be lim : List Int} {stay : Bool} {sh : List (List Int)} {T : Nat} (w : Web n R m) (hs : SharesOk n sh T) (hb : be.length = n ∧ ∀ i < n, 0 ≤ gt be i ∧ gt be i < 2 ^ 5) (hl : ∀ i < n, 0 ≤ gt lim i) :
    ∀ k ≤ T, Raw n (18 * k + 5) (10 * k + 1) lim stay (raw n R m be lim stay sh k)
  | 0, _ => by
    refine ⟨hb.1, by simp [raw], by simp [raw], Int.le_refl 1, (by show (1 : Int) < 2 ^ 1; decide), hb.2, fun i hi => ?_, fun i hi => ?_, fun i hi => ?_⟩
    · simp only [raw]; rw [gt_rep]; decide
    · simp only [raw]; rw [gt_rep]; decide
    · have := hl i hi
      simp only [raw]
      rw [gt_rep]
      cases stay <;> simp <;> omega
  | k + 1, hk => by
    have ih := (raw_ok (stay := stay) w hs hb hl k (by omega)).up (four_b sh).1 (four_b sh).2
    have := ih.next w (wants_ok ih hs (by omega : k < T))
    have e1 : 18 * (k + 1) + 5 = 18 * k + 5 + 2 + 16 := by omega
    have e2 : 10 * (k + 1) + 1 = 10 * k + 1 + 2 + 8 := by omega
    rw [e1, e2]
    exact this
/-- the vector of such numbers over base and scale -/
def vw (b : Int) (xs : List Int) (i : Nat) : Rat := (gt xs i : Rat) / (b : Rat)
theorem mul_div {x c f b : Int} (hc : 1 ≤ c) (hf : 1 ≤ f) (hb : 1 ≤ b) (e : b = c * f) : ((f * x : Int) : Rat) / (b : Rat) = (x : Rat) / (c : Rat) := by
  refine (rat_eq hb hc).mpr ?_
  rw [e, Int.mul_comm f x, Int.mul_assoc, Int.mul_comm f c]
theorem div_mul' {x c f : Int} (hc : 1 ≤ c) (hf : 1 ≤ f) : ((x * f : Int) : Rat) / ((c * f : Int) : Rat) = (x : Rat) / (c : Rat) := by
  refine (rat_eq (mul_pos1 hc hf) hc).mpr ?_
  rw [Int.mul_assoc, Int.mul_comm f c]
theorem mxR_div {x y b : Int} (hb : 1 ≤ b) : mxR ((x : Rat) / b) ((y : Rat) / b) = ((mx x y : Int) : Rat) / b := by
  have h := rat_le (a := y) (b := b) (c := x) (d := b) hb hb
  have e : (y * b ≤ x * b) ↔ y ≤ x := by
    constructor
    · exact fun h => Int.le_of_mul_le_mul_right h (by omega)
    · exact fun h => Int.mul_le_mul_of_nonneg_right h (by omega)
  rw [e] at h
  unfold mxR mx
  by_cases z : y > x
  · rw [if_pos z, if_pos]
    grind
  · rw [if_neg z, if_neg]
    have := h.mpr (by omega)
    grind
theorem mnR_div {x y b : Int} (hb : 1 ≤ b) : mnR ((x : Rat) / b) ((y : Rat) / b) = ((mn x y : Int) : Rat) / b := by
  have h := rat_le (a := x) (b := b) (c := y) (d := b) hb hb
  have e : (x * b ≤ y * b) ↔ x ≤ y := by
    constructor
    · exact fun h => Int.le_of_mul_le_mul_right h (by omega)
    · exact fun h => Int.mul_le_mul_of_nonneg_right h (by omega)
  rw [e] at h
  unfold mnR mn
  by_cases z : y < x
  · rw [if_pos z, if_pos]
    grind
  · rw [if_neg z, if_neg]
    have := h.mpr (by omega)
    grind
/-- the law's own walk is such a walk -/
theorem raw_walk {n : Nat} {R : List (List Int)} {m : Int} {be lim : List Int} {stay : Bool} {sh : List (List Int)} {T : Nat} {base : Int} (w : Web n R m) (hs : SharesOk n sh T) (hb : be.length = n ∧ ∀ i < n, 0 ≤ gt be i ∧ gt be i < 2 ^ 5) (hl : ∀ i < n, 0 ≤ gt lim i) (hB : 1 ≤ base) :
    Walk n R m (vw base be) (vw base lim) stay T (fun k => vw (base * (raw n R m be lim stay sh k).c) (raw n R m be lim stay sh k).s) (fun k => vw (base * (raw n R m be lim stay sh k).c) (raw n R m be lim stay sh k).g) (fun k => vw (base * (raw n R m be lim stay sh k).c) (raw n R m be lim stay sh k).k)
      (fun k => vw (base * (up (fourOf sh) (raw n R m be lim stay sh k)).c) (wantsOf n sh stay k (up (fourOf sh) (raw n R m be lim stay sh k)))) := by
  have f1 := (four_b sh).1
  have upv : ∀ (x : St) (xs : List Int) (i : Nat), 1 ≤ x.c → i < xs.length → vw (base * (up (fourOf sh) x).c) (xs.map (fourOf sh * ·)) i = vw (base * x.c) xs i := fun x xs i hc hi => by
    unfold vw
    rw [gt_map hi]
    exact mul_div (mul_pos1 hB hc) f1 (mul_pos1 hB (mul_pos1 hc f1)) (by show base * (x.c * fourOf sh) = _; rw [Int.mul_assoc])
  have main : ∀ k < T, ∀ i < n, vw (base * (raw n R m be lim stay sh (k + 1)).c) (raw n R m be lim stay sh (k + 1)).g i = vw (base * (raw n R m be lim stay sh k).c) (raw n R m be lim stay sh k).g i + ((gt (goesOf n lim stay (wantsOf n sh stay k (up (fourOf sh) (raw n R m be lim stay sh k))) (up (fourOf sh) (raw n R m be lim stay sh k))) i : Int) : Rat) / ((base * (up (fourOf sh) (raw n R m be lim stay sh k)).c : Int) : Rat) := by
    intro k hk i hi
    have rk := raw_ok (stay := stay) w hs hb hl k (by omega)
    have u := rk.up (four_b sh).1 (four_b sh).2
    rw [← upv _ _ i rk.c1 (by rw [rk.lg]; exact hi)]
    have eg : ∀ x : St, (up (fourOf sh) x).g = x.g.map (fourOf sh * ·) := fun _ => rfl
    rw [← eg]
    simp only [raw]
    generalize up (fourOf sh) (raw n R m be lim stay sh k) = x at *
    generalize hz : goesOf n lim stay (wantsOf n sh stay k x) x = z at *
    unfold vw
    simp only [next, hz]
    rw [gt_range hi, ← Int.mul_assoc, div_mul' (mul_pos1 hB u.c1) w.m1, Rat.intCast_add]
    have := cast_pos (mul_pos1 hB u.c1)
    show _ = (gt x.g i : Rat) / _ + _
    grind
  refine ⟨fun i hi => ?_, fun i hi => ?_, fun i hi => ?_, fun k hk i hi => ?_, fun k hk i hi => ?_, fun k hk i hi => ?_, fun k hk j hj => ?_⟩
  · simp only [raw, Int.mul_one]
  · simp only [raw, vw]; rw [gt_rep]; grind
  · simp only [raw, vw]; rw [gt_rep]; grind
  · have rk := raw_ok (stay := stay) w hs hb hl k (by omega)
    have u := rk.up (four_b sh).1 (four_b sh).2
    have wo := (wants_ok u hs hk).ok i hi
    have cp := mul_pos1 hB u.c1
    show _ ∧ _ ≤ vw (base * (raw n R m be lim stay sh k).c) (raw n R m be lim stay sh k).s i
    rw [← upv _ _ i rk.c1 (by rw [rk.ls]; exact hi)]
    constructor
    · have e : (0 : Rat) = ((0 : Int) : Rat) / ((1 : Int) : Rat) := by rw [Rat.intCast_zero, Rat.intCast_one]; grind
      rw [e]
      exact (rat_le (by decide) cp).mpr (by omega)
    · exact (rat_le cp cp).mpr (Int.mul_le_mul_of_nonneg_right wo.2 (by omega))
  · have rk := raw_ok (stay := stay) w hs hb hl k (by omega)
    have u := rk.up (four_b sh).1 (four_b sh).2
    have cp := mul_pos1 hB u.c1
    show vw _ _ i = _
    rw [main k hk i hi]
    show _ = vw _ _ i + if stay then mxR _ (vw _ (raw n R m be lim stay sh k).s i + vw _ (raw n R m be lim stay sh k).k i - _) else mnR _ (_ - vw _ (raw n R m be lim stay sh k).g i)
    rw [← upv _ (raw n R m be lim stay sh k).s i rk.c1 (by rw [rk.ls]; exact hi), ← upv _ (raw n R m be lim stay sh k).k i rk.c1 (by rw [rk.lk]; exact hi), ← upv _ (raw n R m be lim stay sh k).g i rk.c1 (by rw [rk.lg]; exact hi)]
    have hlim : vw base lim i = ((gt lim i * (up (fourOf sh) (raw n R m be lim stay sh k)).c : Int) : Rat) / ((base * (up (fourOf sh) (raw n R m be lim stay sh k)).c : Int) : Rat) := by
      rw [div_mul' hB u.c1]; rfl
    rw [hlim]
    have eu : ∀ x : St, (up (fourOf sh) x).s = x.s.map (fourOf sh * ·) := fun _ => rfl
    have eg : ∀ x : St, (up (fourOf sh) x).g = x.g.map (fourOf sh * ·) := fun _ => rfl
    have ek : ∀ x : St, (up (fourOf sh) x).k = x.k.map (fourOf sh * ·) := fun _ => rfl
    rw [← eu, ← eg, ← ek]
    generalize up (fourOf sh) (raw n R m be lim stay sh k) = x at *
    unfold vw goesOf
    rw [gt_range hi]
    cases stay
    · simp only [Bool.false_eq_true, if_false]
      rw [← mnR_div cp, Rat.intCast_sub]
      have : ((gt lim i * x.c : Int) : Rat) / ((base * x.c : Int) : Rat) - (gt x.g i : Rat) / ((base * x.c : Int) : Rat) = (((gt lim i * x.c : Int) : Rat) - (gt x.g i : Rat)) / ((base * x.c : Int) : Rat) := by grind
      rw [this]
    · simp only [if_true]
      rw [← mxR_div cp, Rat.intCast_sub, Rat.intCast_add]
      have : (gt x.s i : Rat) / ((base * x.c : Int) : Rat) + (gt x.k i : Rat) / ((base * x.c : Int) : Rat) - ((gt lim i * x.c : Int) : Rat) / ((base * x.c : Int) : Rat) = ((gt x.s i : Rat) + (gt x.k i : Rat) - ((gt lim i * x.c : Int) : Rat)) / ((base * x.c : Int) : Rat) := by grind
      rw [this]
  · have rk := raw_ok (stay := stay) w hs hb hl k (by omega)
    have u := rk.up (four_b sh).1 (four_b sh).2
    have mk := main k hk i hi
    show vw _ _ i = vw _ _ i + vw _ _ i - (vw _ _ i - vw _ _ i)
    rw [mk, ← upv _ (raw n R m be lim stay sh k).k i rk.c1 (by rw [rk.lk]; exact hi), ← upv _ (raw n R m be lim stay sh k).s i rk.c1 (by rw [rk.ls]; exact hi)]
    simp only [raw]
    have eu : ∀ x : St, (up (fourOf sh) x).s = x.s.map (fourOf sh * ·) := fun _ => rfl
    have ek : ∀ x : St, (up (fourOf sh) x).k = x.k.map (fourOf sh * ·) := fun _ => rfl
    rw [← eu, ← ek]
    generalize up (fourOf sh) (raw n R m be lim stay sh k) = x at *
    generalize hz : goesOf n lim stay (wantsOf n sh stay k x) x = z at *
    unfold vw
    simp only [next, hz]
    rw [gt_range hi, ← Int.mul_assoc, div_mul' (mul_pos1 hB u.c1) w.m1, Rat.intCast_sub, Rat.intCast_add]
    grind
  · have rk := raw_ok (stay := stay) w hs hb hl k (by omega)
    have u := rk.up (four_b sh).1 (four_b sh).2
    have cp := mul_pos1 hB u.c1
    show vw _ _ j = _
    rw [stp_int w (fun i => gt (goesOf n lim stay (wantsOf n sh stay k (up (fourOf sh) (raw n R m be lim stay sh k))) (up (fourOf sh) (raw n R m be lim stay sh k))) i) (base * (up (fourOf sh) (raw n R m be lim stay sh k)).c) cp _ (fun i hi => by
      show vw _ _ i - vw _ _ i = _
      rw [main k hk i hi]
      grind) j]
    simp only [raw]
    unfold vw
    simp only [next]
    rw [gt_range hj, Int.mul_assoc]
end My
set_option Elab.async false
set_option linter.all false
set_option maxRecDepth 100000
set_option maxHeartbeats 4000000
set_option exponentiation.threshold 20000
namespace My
open PySem PySem.Spec PyProof.Rows L2 PD
/-! rules that no law's text is needed for -/
@[simp] theorem e_fnK (n m : Nat) (ix : List Nat) (F : Op) (g : Dens) (ρ : EnvD) (S : Store) : dFnK n m ix F g ρ S = bndl (g ρ S) fun ds S1 => if ds.length = m ∧ (permL ix ds).length = n then F (permL ix ds) S1 else none := rfl
@[simp] theorem e_asg (f : Den) (t : TDen) (ρ : EnvD) (S : Store) : sAsg f t ρ S = bndS (f ρ S) ρ fun d S1 => (t d ρ S1).map fun ρ1 => .nx ρ1 S1 := rfl
@[simp] theorem e_neg (f : Den) (ρ : EnvD) (S : Store) : dUn oNeg f ρ S = bnd (f ρ S) fun x S1 => oNeg x S1 := rfl
@[simp] theorem e_negI (i : Int) (S : Store) : oNeg (.int i) S = some (.ok (.int (-i)) S) := rfl
@[simp] theorem e_ix0 (x : D) (xs : List D) (S : Store) : oIx (.tup (x :: xs)) (.int 0) S = some (.ok x S) := by simp [oIx, asSeq, atI, ixN]
@[simp] theorem e_ix1 (x y : D) (xs : List D) (S : Store) : oIx (.tup (x :: y :: xs)) (.int 1) S = some (.ok y S) := by simp [oIx, asSeq, atI, ixN, show (1 : Int) < (xs.length : Int) + 1 + 1 by omega]
@[simp] theorem e_lenT (xs : List D) (S : Store) : oLen [.tup xs] S = some (.ok (.int xs.length) S) := by simp [oLen, asSeq]
@[simp] theorem e_lenL (xs : List D) (S : Store) : oLen [.lst xs] S = some (.ok (.int xs.length) S) := by simp [oLen, asSeq]
@[simp] theorem fits2 : fits 2 = true := by decide
@[simp] theorem fits1 : fits 1 = true := by decide
def small (a : Int) : Prop := a.natAbs < 2 ^ 2000
theorem log_small {a : Int} (h : small a) : a.natAbs.log2 < 2000 := by
  by_cases h0 : a.natAbs = 0
  · rw [h0]; decide
  · exact (Nat.log2_lt h0).mpr h
theorem fits_small {a b : Int} (ha : small a) (hb : small b) : mulFits a b = true := by
  unfold mulFits
  have h1 := log_small ha
  have h2 := log_small hb
  rw [decide_eq_true (show a.natAbs.log2 + b.natAbs.log2 < 1000000 by omega), Bool.or_true]
@[simp] theorem e_addI (a b : Int) (S : Store) : oPlus (.int a) (.int b) S = some (.ok (.int (a + b)) S) := rfl
theorem e_mulI {a b : Int} (ha : small a) (hb : small b) (S : Store) : oMul (.int a) (.int b) S = some (.ok (.int (a * b)) S) := by
  simp only [oMul, fits_small ha hb, if_true]
theorem natAbs_mul_lt {a b : Int} {m n : Nat} (ha : a.natAbs < 2 ^ m) (hb : b.natAbs < 2 ^ n) : (a * b).natAbs < 2 ^ (m + n) := by
  rw [Int.natAbs_mul, Nat.pow_add]
  exact Nat.mul_lt_mul'' ha hb
theorem fn_rtM {O : Op} {N : List Str} {g : SDen} [i : Is O N g] {ds : List D} {S : Store} {acc : List D} (h : g (startD N ds) S = some (.rt (.ref S.length) (S ++ [acc]))) (hc : closeds acc = true) : O ds S = some (.ok (.lst acc) S) := by
  rw [i.eq]
  unfold fnOf
  rw [h]
  simp [fin, fz, fzg, mapRef, maps_closed hc]
theorem e_mulR {a b : Int} (hb : small64 b = true) (S : Store) : oMul (.int a) (.int b) S = some (.ok (.int (a * b)) S) := by
  simp [oMul, mulFits, hb]
@[simp] theorem e_app (fo fe : Den) (ρ : EnvD) (S : Store) : dApp fo fe ρ S = bnd (fo ρ S) fun o S1 => match o with
  | .ref n => bnd (fe ρ S1) fun d S2 => (match S2[n]? with
    | some xs => if xs.length < 16777216 then some (.ok .non (S2.set n (xs ++ [d]))) else none
    | none => none)
  | _ => none := rfl
theorem small64_of {a m : Int} (h0 : 0 ≤ a) (h1 : a < m) (hm : m ≤ 2 ^ 62) : PD.small64 a = true := by
  unfold PD.small64
  rw [decide_eq_true (by omega), decide_eq_true (by omega)]
  rfl
@[simp] theorem e_lenS (ns : List Int) (S : Store) : oLen [.scr ns] S = some (.ok (.int ns.length) S) := by simp [oLen, asSeq]
theorem ixS {ns : List Int} {i : Int} (h0 : 0 ≤ i) (h1 : i < ns.length) (S : Store) : oIx (.scr ns) (.int i) S = some (.ok (.int (ns.getD i.toNat 0)) S) := by
  have hn : i.toNat < ns.length := by omega
  have h2 : i < ((ns.map D.int).length : Int) := by simpa using h1
  simp only [oIx, asSeq, atI, ixN, h0, h2, if_true, Option.bind_some]
  rw [List.getElem?_map, List.getElem?_eq_getElem hn]
  simp [List.getD, List.getElem?_eq_getElem hn]
theorem flat_rep (k : Nat) (x : D) : (List.replicate k [x]).flatten = List.replicate k x := by
  induction k with
  | zero => rfl
  | succ k ih => rw [List.replicate_succ, List.flatten_cons, ih, List.replicate_succ]; rfl
theorem ixL (xs : List D) (j : Int) (h0 : 0 ≤ j) (h1 : j < xs.length) : ∃ x, x ∈ xs ∧ ∀ S, oIx (.lst xs) (.int j) S = some (.ok x S) := by
  have hn : j.toNat < xs.length := by omega
  refine ⟨xs[j.toNat], List.getElem_mem hn, fun S => ?_⟩
  simp only [oIx, asSeq, atI, ixN, h0, h1, if_true, Option.bind_some]
  rw [List.getElem?_eq_getElem hn]
  rfl
section
variable {ρ : EnvD} {S : Store} {own : List Nat} {t : Tg} {elt cnd : Den} {f : Iens}
theorem range1_of {g : Den} {n : Nat} {S1 : Store} (h : g ρ S = some (.ok (.int (n : Nat)) S1)) (hn : n ≤ 16777216) : dRange1 g ρ S = some (.ok (rgD 0 n) none S1) := by
  have lo : -(2 ^ 62) ≤ ((n : Nat) : Int) := by omega
  have hi : ((n : Nat) : Int) < 2 ^ 62 := by omega
  rw [e_range1, h, bndi_ok]
  simp only [lo, hi, and_self, if_true, Int.toNat_natCast]
def ixOf (h : Nat → D) : D → D
  | .int i => h i.toNat
  | _ => .non
theorem rg_map (n : Nat) (h : Nat → D) : (rgD 0 n).map (ixOf h) = (List.range n).map h := by
  unfold rgD
  rw [List.map_map]
  refine List.map_congr_left fun i _ => ?_
  simp [ixOf]
theorem rg_mem {n : Nat} {x : D} (hx : x ∈ rgD 0 n) : ∃ i : Nat, i < n ∧ x = .int (i : Nat) := by
  unfold rgD at hx
  obtain ⟨i, hi, rfl⟩ := List.mem_map.mp hx
  exact ⟨i, List.mem_range.mp hi, by simp⟩
theorem lc_range (n : Nat) (h : Nat → D) (ρ' : Nat → EnvD) (hf : f ρ S = some (.ok (rgD 0 n) none S)) (ht : ∀ i < n, t.go (.int (i : Nat)) (wipeD ρ own) = some (ρ' i)) (he : ∀ i < n, ∀ T, elt (ρ' i) T = some (.ok (h i) T))
    (hl : n ≤ 16777216) (cl : closeds ((List.range n).map h) = true) : dLc own f t dYes elt ρ S = some (.ok (.lst ((List.range n).map h)) S) := by
  have e := lc_map (elt := elt) (ixOf h) (fun d => match d with | .int i => ρ' i.toNat | _ => ρ) hf (fun x hx => by
    obtain ⟨i, hi, rfl⟩ := rg_mem hx
    simpa using ht i hi) (fun x hx T => by
    obtain ⟨i, hi, rfl⟩ := rg_mem hx
    simpa [ixOf] using he i hi T) (by rw [rgD_length]; exact hl) (by rw [rg_map]; exact cl)
  rwa [rg_map] at e
theorem lc_loopI (all : List D) (F h : Nat → D) (p : Nat → Bool) (ρ' : Nat → EnvD) : ∀ (xs : List Nat) (acc : List D), (∀ x ∈ xs, t.go (F x) (wipeD ρ own) = some (ρ' x)) → (∀ x ∈ xs, ∀ T, cnd (ρ' x) T = some (.ok (.bl (p x)) T)) → (∀ x ∈ xs, p x = true → ∀ T, elt (ρ' x) T = some (.ok (h x) T)) →
    acc.length + xs.length ≤ 16777216 → lcLoop own t cnd elt ρ S.length none all (xs.map F) (S ++ [acc]) = some (S ++ [acc ++ (xs.filter p).map h])
  | [], acc, _, _, _, _ => by simp [lcLoop]
  | x :: xs, acc, ht, hc, he, hl => by
    have ih := fun a => lc_loopI all F h p ρ' xs a (fun y hy => ht y (List.mem_cons_of_mem _ hy)) (fun y hy => hc y (List.mem_cons_of_mem _ hy)) (fun y hy => he y (List.mem_cons_of_mem _ hy))
    simp only [List.length_cons] at hl
    simp only [List.map_cons, lcLoop, ht x List.mem_cons_self, hc x List.mem_cons_self]
    cases hp : p x with
    | false =>
      simp only [Bool.false_eq_true, if_false, ckOf_none, if_true]
      rw [ih acc (by omega)]
      simp [hp]
    | true =>
      simp only [if_true, he x List.mem_cons_self hp, get_last, ckOf_none, set_last, and_true]
      rw [if_pos (by omega), ih (acc ++ [h x]) (by simp; omega)]
      simp [hp]
theorem lc_idxF (xs : List Nat) (F h : Nat → D) (p : Nat → Bool) (ρ' : Nat → EnvD) (hf : f ρ S = some (.ok (xs.map F) none S)) (ht : ∀ x ∈ xs, t.go (F x) (wipeD ρ own) = some (ρ' x)) (hc : ∀ x ∈ xs, ∀ T, cnd (ρ' x) T = some (.ok (.bl (p x)) T)) (he : ∀ x ∈ xs, p x = true → ∀ T, elt (ρ' x) T = some (.ok (h x) T))
    (hl : xs.length ≤ 16777216) (cl : closeds ((xs.filter p).map h) = true) : dLc own f t cnd elt ρ S = some (.ok (.lst ((xs.filter p).map h)) S) := by
  have e := lc_loopI (S := S) (xs.map F) F h p ρ' xs [] ht hc he (by simpa using hl)
  unfold dLc
  rw [hf]
  simp only [e, List.nil_append, get_last, List.take_left', fzs_closed cl]
  simp
theorem lc_idx (xs : List Nat) (F h : Nat → D) (ρ' : Nat → EnvD) (hf : f ρ S = some (.ok (xs.map F) none S)) (ht : ∀ x ∈ xs, t.go (F x) (wipeD ρ own) = some (ρ' x)) (he : ∀ x ∈ xs, ∀ T, elt (ρ' x) T = some (.ok (h x) T))
    (hl : xs.length ≤ 16777216) (cl : closeds (xs.map h) = true) : dLc own f t dYes elt ρ S = some (.ok (.lst (xs.map h)) S) := by
  have k : xs.filter (fun _ => true) = xs := List.filter_eq_self.mpr fun _ _ => rfl
  have e := lc_idxF (cnd := dYes) xs F h (fun _ => true) ρ' hf ht (fun x hx T => rfl) (fun x hx _ => he x hx) hl (by rw [k]; exact cl)
  rwa [k] at e
end
theorem ixT {xs : List Int} {i : Nat} (hi : i < xs.length) (S : Store) : oIx (.tup (xs.map .int)) (.int (i : Nat)) S = some (.ok (.int (gt xs i)) S) := by
  have h2 : ((i : Nat) : Int) < ((xs.map D.int).length : Int) := by simp; omega
  have h3 : (0 : Int) ≤ ((i : Nat) : Int) := by omega
  simp only [oIx, asSeq, atI, ixN, h2, h3, if_true, Option.bind_some, Int.toNat_natCast]
  rw [List.getElem?_map, List.getElem?_eq_getElem hi]
  simp [gt, List.getD, List.getElem?_eq_getElem hi]
theorem e_len2 (ts : List Int) (b : Int) (S : Store) : oLen [.tup (ts.map .int)] S = some (.ok (.int ts.length) S) := by simp [oLen, asSeq]
theorem getD_small {ts : List Int} (h : ∀ x ∈ ts, small x) (i : Nat) : small (gt ts i) := by
  unfold gt
  by_cases hi : i < ts.length
  · rw [List.getD, List.getElem?_eq_getElem hi]
    exact h _ (List.getElem_mem hi)
  · rw [List.getD, List.getElem?_eq_none (by omega)]
    show (0 : Int).natAbs < 2 ^ 2000
    exact Nat.pos_of_ne_zero (by simp)
theorem closeds_ints {α : Type} (xs : List α) (g : α → Int) : closeds (xs.map fun x => D.int (g x)) = true := by simp [closeds_all, closed]
theorem enum_map {α : Type} (F : α → D) : ∀ (xs : List α) (k : Nat), enumD k (xs.map F) = (xs.zipIdx k).map fun q => .tup [.int (q.2 : Nat), F q.1]
  | [], k => rfl
  | x :: xs, k => by simp [enumD, enum_map F xs (k + 1)]
theorem enum_range (n : Nat) (F : Nat → D) : enumD 0 ((List.range n).map F) = (List.range n).map fun i => .tup [.int (i : Nat), F i] := by
  rw [enum_map, List.zipIdx_eq_zip_range']
  have : (List.range n).zip (List.range' 0 (List.range n).length) = (List.range n).map fun i => (i, i) := by
    rw [List.length_range, ← List.range_eq_range']
    generalize List.range n = l
    induction l with
    | nil => rfl
    | cons a l ih => rw [List.zip_cons_cons, ih, List.map_cons]
  rw [this, List.map_map]
  rfl
theorem ixLi {xs : List Int} {i : Nat} (hi : i < xs.length) (S : Store) : oIx (.lst (xs.map .int)) (.int (i : Nat)) S = some (.ok (.int (gt xs i)) S) := by
  have h2 : ((i : Nat) : Int) < ((xs.map D.int).length : Int) := by simp; omega
  have h3 : (0 : Int) ≤ ((i : Nat) : Int) := by omega
  simp only [oIx, asSeq, atI, ixN, h2, h3, if_true, Option.bind_some, Int.toNat_natCast]
  rw [List.getElem?_map, List.getElem?_eq_getElem hi]
  simp [gt, List.getD, List.getElem?_eq_getElem hi]
theorem ixI (xs : List Int) (j : Int) (h0 : 0 ≤ j) (h1 : j < xs.length) : gt xs j.toNat ∈ xs ∧ ∀ S, oIx (.lst (xs.map .int)) (.int j) S = some (.ok (.int (gt xs j.toNat)) S) := by
  have hl : j.toNat < xs.length := by omega
  refine ⟨by simp only [gt, List.getD, List.getElem?_eq_getElem hl, Option.getD_some]; exact List.getElem_mem hl, fun S => ?_⟩
  have := ixLi hl S
  rwa [Int.toNat_of_nonneg h0] at this
section
variable {ρ : EnvD} {S : Store} {own : List Nat} {t : Tg} {elt cnd : Den} {f : Iens} {items all : List D} {td : TDen} {g : SDen}
theorem loop_consW {n : Nat} {x : D} {xs : List D} {ρ1 ρ2 : EnvD} {R : Option SRes} (hk : S[n]? = some all) (ht : td x ρ S = some ρ1) (hg : g ρ1 S = some (.nx ρ2 S)) (hr : forLoop (some n) all td g xs ρ2 S = R) : forLoop (some n) all td g (x :: xs) ρ S = R := by
  simp only [forLoop, ht, hg]
  rw [if_pos (show ckOf (some n) all S from hk)]
  exact hr
theorem lcM_map (h : D → D) (ρ' : D → EnvD) (hf : f ρ S = some (.ok items none S)) (ht : ∀ x ∈ items, t.go x (wipeD ρ own) = some (ρ' x)) (he : ∀ x ∈ items, ∀ T, elt (ρ' x) T = some (.ok (h x) T)) (hl : items.length ≤ 16777216) : dLcM own f t dYes elt ρ S = some (.ok (.ref S.length) (S ++ [items.map h])) := by
  have e := lc_loop (cnd := dYes) (S := S) (own := own) (t := t) (elt := elt) (ρ := ρ) items h (fun _ => true) ρ' items [] ht (fun x hx T => rfl) (fun x hx _ => he x hx) (by simpa using hl)
  have k : items.filter (fun _ => true) = items := List.filter_eq_self.mpr fun _ _ => rfl
  unfold dLcM
  rw [hf]
  simp only [e, List.nil_append, k]
  rfl
theorem lcM_range (n : Nat) (h : Nat → D) (ρ' : Nat → EnvD) (hf : f ρ S = some (.ok (rgD 0 n) none S)) (ht : ∀ i < n, t.go (.int (i : Nat)) (wipeD ρ own) = some (ρ' i)) (he : ∀ i < n, ∀ T, elt (ρ' i) T = some (.ok (h i) T))
    (hl : n ≤ 16777216) : dLcM own f t dYes elt ρ S = some (.ok (.ref S.length) (S ++ [(List.range n).map h])) := by
  have e := lcM_map (elt := elt) (ixOf h) (fun d => match d with | .int i => ρ' i.toNat | _ => ρ) hf (fun x hx => by
    obtain ⟨i, hi, rfl⟩ := rg_mem hx
    simpa using ht i hi) (fun x hx T => by
    obtain ⟨i, hi, rfl⟩ := rg_mem hx
    simpa [ixOf] using he i hi T) (by rw [rgD_length]; exact hl)
  rwa [rg_map] at e
theorem lcW_loop {n : Nat} (hk : S[n]? = some all) (h : D → D) (ρ' : D → EnvD) : ∀ (xs acc : List D), (∀ x ∈ xs, t.go x (wipeD ρ own) = some (ρ' x)) → (∀ x ∈ xs, ∀ T, elt (ρ' x) T = some (.ok (h x) T)) →
    acc.length + xs.length ≤ 16777216 → lcLoop own t dYes elt ρ S.length (some n) all xs (S ++ [acc]) = some (S ++ [acc ++ xs.map h])
  | [], acc, _, _, _ => by simp [lcLoop]
  | x :: xs, acc, ht, he, hl => by
    have hn : n < S.length := (List.getElem?_eq_some_iff.mp hk).1
    have ih := fun a => lcW_loop hk h ρ' xs a (fun y hy => ht y (List.mem_cons_of_mem _ hy)) (fun y hy => he y (List.mem_cons_of_mem _ hy))
    simp only [List.length_cons] at hl
    simp only [lcLoop, ht x List.mem_cons_self, dYes, if_true, he x List.mem_cons_self, get_last, set_last]
    have ck : ckOf (some n) all (S ++ [acc ++ [h x]]) := by
      show (S ++ [acc ++ [h x]])[n]? = some all
      rw [List.getElem?_append_left hn]
      exact hk
    rw [if_pos ⟨by omega, by rw [set_last]; exact ck⟩]
    have := ih (acc ++ [h x]) (by simp; omega)
    rw [this]
    simp
theorem lcW_map {n : Nat} (h : D → D) (ρ' : D → EnvD) (hf : f ρ S = some (.ok items (some n) S)) (hk : S[n]? = some items) (ht : ∀ x ∈ items, t.go x (wipeD ρ own) = some (ρ' x)) (he : ∀ x ∈ items, ∀ T, elt (ρ' x) T = some (.ok (h x) T)) (hl : items.length ≤ 16777216) (cl : closeds (items.map h) = true) : dLc own f t dYes elt ρ S = some (.ok (.lst (items.map h)) S) := by
  have e := lcW_loop (own := own) (t := t) (elt := elt) (ρ := ρ) hk h ρ' items [] ht he (by simpa using hl)
  unfold dLc
  rw [hf]
  simp only [e, List.nil_append, get_last, List.take_left', fzs_closed cl]
  simp
end
theorem s_store {ρ : EnvD} {S : Store} {fe fo fi : Den} {v : D} {n j : Nat} {k : Int} {xs : List D} (h1 : fe ρ S = some (.ok v S)) (h2 : fo ρ S = some (.ok (.ref n) S)) (h3 : fi ρ S = some (.ok (.int k) S)) (hx : S[n]? = some xs) (hj : ixN xs.length k = some j) : sStore fe fo fi ρ S = some (.nx ρ (S.set n (xs.set j v))) := by
  unfold sStore
  simp only [h1, bndS_ok, h2, h3, hx, hj, Option.map_some]
theorem x_items {ρ : EnvD} {S : Store} {f : Den} {d : D} {items : List D} {w : Option Nat} (h : f ρ S = some (.ok d S)) (hw : asWalk S d = some (items, w)) : dItems f ρ S = some (.ok items w S) := by
  rw [e_items, h, bndi_ok, hw]
  rfl
theorem loop_cons_nx {t : TDen} {g : SDen} {all : List D} {x : D} {xs : List D} {ρ ρ1 ρ2 : EnvD} {S : Store} {R : Option SRes} (ht : t x ρ S = some ρ1) (hg : g ρ1 S = some (.nx ρ2 S)) (hr : forLoop none all t g xs ρ2 S = R) : forLoop none all t g (x :: xs) ρ S = R := by
  rw [loop_cons, ht]
  simp only [hg]
  exact hr
end My
namespace PD
open PySem PySem.Spec PyProof.Rows L2 My
/-! ### rules: one expression, one statement at a time -/
section
variable {ρ ρ1 : EnvD} {S S1 : Store} {f g t : Den} {gs : Dens} {a b d : D} {ds : List D} {o : Op2} {F : Op} {r : Option Res} {n k m : Nat}
theorem x_bin {r : Option Res} (h1 : f ρ S = some (.ok a S)) (h2 : g ρ S = some (.ok b S)) (h : o a b S = r) : dBin o f g ρ S = r := by
  rw [e_bin, h1, bnd_ok, h2, bnd_ok, h]
theorem y_nil : dNil ρ S = some (.ok [] S) := rfl
theorem y_cons (h1 : f ρ S = some (.ok d S)) (h2 : gs ρ S = some (.ok ds S)) : dCons f gs ρ S = some (.ok (d :: ds) S) := by
  rw [e_consA, h1, bnds_ok, h2, bndls_ok]
theorem x_call (h : gs ρ S = some (.ok ds S)) (hF : F ds S = r) : dCall F gs ρ S = r := by
  rw [e_call, h, bndl_ok, hF]
theorem x_fn (h : gs ρ S = some (.ok ds S)) (hl : ds.length = n) (hF : F ds S = r) : dFn n F gs ρ S = r := by
  rw [e_fn, h, bndl_ok, if_pos hl, hF]
theorem x_fnK {ix : List Nat} (h : gs ρ S = some (.ok ds S)) (hl : ds.length = m ∧ (permL ix ds).length = n) (hF : F (permL ix ds) S = r) : dFnK n m ix F gs ρ S = r := by
  rw [e_fnK, h, bndl_ok, if_pos hl, hF]
variable {f1 f2 f3 f4 : Den} {d1 d2 d3 d4 : D}
theorem x_c1 (h1 : f1 ρ S = some (.ok d1 S)) (hF : F [d1] S = r) : dCall F (dCons f1 dNil) ρ S = r := x_call (y_cons h1 y_nil) hF
theorem x_c2 (h1 : f1 ρ S = some (.ok d1 S)) (h2 : f2 ρ S = some (.ok d2 S)) (hF : F [d1, d2] S = r) : dCall F (dCons f1 (dCons f2 dNil)) ρ S = r := x_call (y_cons h1 (y_cons h2 y_nil)) hF
theorem x_f1 (h1 : f1 ρ S = some (.ok d1 S)) (hF : F [d1] S = r) : dFn 1 F (dCons f1 dNil) ρ S = r := x_fn (y_cons h1 y_nil) rfl hF
theorem x_f2 (h1 : f1 ρ S = some (.ok d1 S)) (h2 : f2 ρ S = some (.ok d2 S)) (hF : F [d1, d2] S = r) : dFn 2 F (dCons f1 (dCons f2 dNil)) ρ S = r := x_fn (y_cons h1 (y_cons h2 y_nil)) rfl hF
theorem x_f3 (h1 : f1 ρ S = some (.ok d1 S)) (h2 : f2 ρ S = some (.ok d2 S)) (h3 : f3 ρ S = some (.ok d3 S)) (hF : F [d1, d2, d3] S = r) : dFn 3 F (dCons f1 (dCons f2 (dCons f3 dNil))) ρ S = r := x_fn (y_cons h1 (y_cons h2 (y_cons h3 y_nil))) rfl hF
theorem x_f4 (h1 : f1 ρ S = some (.ok d1 S)) (h2 : f2 ρ S = some (.ok d2 S)) (h3 : f3 ρ S = some (.ok d3 S)) (h4 : f4 ρ S = some (.ok d4 S)) (hF : F [d1, d2, d3, d4] S = r) : dFn 4 F (dCons f1 (dCons f2 (dCons f3 (dCons f4 dNil)))) ρ S = r := x_fn (y_cons h1 (y_cons h2 (y_cons h3 (y_cons h4 y_nil)))) rfl hF
theorem x_k1 (h1 : f1 ρ S = some (.ok d1 S)) (hF : F [d1] S = r) : dFnK 1 1 [0] F (dCons f1 dNil) ρ S = r := x_fnK (y_cons h1 y_nil) ⟨rfl, rfl⟩ hF
theorem x_k10 (h1 : f1 ρ S = some (.ok d1 S)) (h2 : f2 ρ S = some (.ok d2 S)) (hF : F [d2, d1] S = r) : dFnK 2 2 [1, 0] F (dCons f1 (dCons f2 dNil)) ρ S = r := x_fnK (y_cons h1 (y_cons h2 y_nil)) ⟨rfl, rfl⟩ hF
theorem x_tup (h : gs ρ S = some (.ok ds S)) (hf : fits ds.length = true) : dTup gs ρ S = some (.ok (.tup ds) S) := by
  rw [e_tup, h, bndl_ok, if_pos hf]
theorem x_lst (h : gs ρ S = some (.ok ds S)) (hf : fits ds.length = true) : dLst gs ρ S = some (.ok (.lst ds) S) := by
  rw [e_lst, h, bndl_ok, if_pos hf]
theorem x_and {p q : Bool} (h1 : f ρ S = some (.ok (.bl p) S)) (h2 : p = true → g ρ S = some (.ok (.bl q) S)) : dAnd f g ρ S = some (.ok (.bl (p && q)) S) := by
  rw [e_and, h1, bndB_ok]
  cases p
  · rfl
  · exact h2 rfl
theorem x_andT (h1 : f ρ S = some (.ok (.bl true) S)) (h2 : g ρ S = r) : dAnd f g ρ S = r := by
  rw [e_and, h1, bndB_ok, if_pos rfl, h2]
theorem x_andF (h1 : f ρ S = some (.ok (.bl false) S)) : dAnd f g ρ S = some (.ok (.bl false) S) := by
  rw [e_and, h1, bndB_ok, if_neg Bool.false_ne_true]
theorem x_orF (h1 : f ρ S = some (.ok (.bl false) S)) (h2 : g ρ S = r) : dOr f g ρ S = r := by
  rw [e_or, h1, bndB_ok, if_neg Bool.false_ne_true, h2]
theorem x_orT (h1 : f ρ S = some (.ok (.bl true) S)) : dOr f g ρ S = some (.ok (.bl true) S) := by
  rw [e_or, h1, bndB_ok, if_pos rfl]
theorem x_not {p : Bool} (h1 : f ρ S = some (.ok (.bl p) S)) : dNot f ρ S = some (.ok (.bl (!p)) S) := by
  rw [e_not, h1, bndB_ok]
theorem x_tru {p : Bool} (h1 : f ρ S = some (.ok d S)) (h : truth S d = some p) : dTru f ρ S = some (.ok (.bl p) S) := by
  rw [e_tru, h1, bnd_ok, h]
  rfl
/-- `if not f(..):` where the call gives True -/
theorem x_notT (h1 : f ρ S = some (.ok (.bl true) S)) : dNot (dTru f) ρ S = some (.ok (.bl false) S) := x_not (p := true) (x_tru h1 rfl)
theorem x_ifT (h1 : t ρ S = some (.ok (.bl true) S)) (h2 : f ρ S = r) : dIf t f g ρ S = r := by
  rw [e_ifx, h1, bndB_ok, if_pos rfl, h2]
theorem x_ifF (h1 : t ρ S = some (.ok (.bl false) S)) (h2 : g ρ S = r) : dIf t f g ρ S = r := by
  rw [e_ifx, h1, bndB_ok, if_neg Bool.false_ne_true, h2]
variable {st sa sb rest : SDen} {R : Option SRes}
theorem q_nx {S1 : Store} (h : st ρ S = some (.nx ρ1 S1)) (k : rest ρ1 S1 = R) : sSeq st rest ρ S = R := by
  rw [e_seq, h]
  exact k
theorem q_rt {S1 : Store} (h : st ρ S = some (.rt d S1)) : sSeq st rest ρ S = some (.rt d S1) := by
  rw [e_seq, h]
theorem s_set {S1 : Store} (h : f ρ S = some (.ok d S1)) : sSet n f ρ S = some (.nx (ρ.set n (some d)) S1) := by
  rw [e_set, h, bndS_ok]
theorem q_set {S1 : Store} (h : f ρ S = some (.ok d S1)) (k : rest (ρ.set n (some d)) S1 = R) : sSeq (sSet n f) rest ρ S = R := q_nx (s_set h) k
theorem q_expr {S1 : Store} (h : f ρ S = some (.ok d S1)) (k : rest ρ S1 = R) : sSeq (sExpr f) rest ρ S = R := q_nx (by rw [e_expr, h, bndS_ok]) k
theorem q_ret {S1 : Store} (h : f ρ S = some (.ok d S1)) : sSeq (sRet f) rest ρ S = some (.rt d S1) := q_rt (by rw [e_ret, h, bndS_ok])
theorem q_ifF (h : t ρ S = some (.ok (.bl false) S)) (k : rest ρ S = R) : sSeq (sIf t sa sNil) rest ρ S = R := q_nx (by rw [e_if, h]; rfl) k
theorem q_ifT {S1 : Store} (h : t ρ S = some (.ok (.bl true) S)) (h2 : sa ρ S = some (.nx ρ1 S1)) (k : rest ρ1 S1 = R) : sSeq (sIf t sa sb) rest ρ S = R := q_nx (by rw [e_if, h]; exact h2) k
theorem q_ifR {S1 : Store} (h : t ρ S = some (.ok (.bl true) S)) (h2 : sa ρ S = some (.rt d S1)) : sSeq (sIf t sa sb) rest ρ S = some (.rt d S1) := q_rt (by rw [e_if, h]; exact h2)
theorem q_for {S1 S2 : Store} {fi : Iens} {td : TDen} {items : List D} {w : Option Nat} (h : fi ρ S = some (.ok items w S1)) (hl : forLoop w items td st items ρ S1 = some (.nx ρ1 S2)) (k : rest ρ1 S2 = R) : sSeq (sFor fi td st) rest ρ S = R := q_nx ((for_of h).trans hl) k
/-- both numbers of a pair -/
theorem q_two {x y : D} {p q : Nat} (h : f ρ S = some (.ok (.tup [x, y]) S)) (k : rest ((ρ.set p (some x)).set q (some y)) S = R) : sSeq (sAsg f (PD.tTup 2 (PD.tCons (tName p) (PD.tCons (tName q) PD.tNil)))) rest ρ S = R := q_nx (by rw [e_asg, h, bndS_ok]; rfl) k
end
theorem o_mod {a b : Int} (hb : 0 < b) (S : Store) : oMod (.int a) (.int b) S = some (.ok (.int (a % b)) S) := by simp [oMod, hb]
theorem o_eqI (a b : Int) (S : Store) : oEq (.int a) (.int b) S = some (.ok (.bl (a == b)) S) := oEq_of (eqD_int a b)
theorem o_neI (a b : Int) (S : Store) : oNe (.int a) (.int b) S = some (.ok (.bl (!(a == b))) S) := oNe_of (eqD_int a b)
theorem o_addI (a b : Int) (S : Store) : oPlus (.int a) (.int b) S = some (.ok (.int (a + b)) S) := rfl
theorem o_subI (a b : Int) (S : Store) : oSub (.int a) (.int b) S = some (.ok (.int (a - b)) S) := rfl
theorem o_mulL {a b : Int} (h : small64 a = true) (S : Store) : oMul (.int a) (.int b) S = some (.ok (.int (a * b)) S) := by simp [oMul, mulFits, h]
theorem o_divI {a b : Int} (h : 0 < b) (h2 : b.natAbs.log2 < 9000) (S : Store) : oDiv (.int a) (.int b) S = some (.ok (.int (a / b)) S) := by simp [oDiv, h, h2]
/-- a list of one, repeated -/
theorem o_rep (x : D) (n : Nat) (hn : n ≤ 1000) (S : Store) : oMul (.lst [x]) (.int (n : Nat)) S = some (.ok (.lst (List.replicate n x)) S) := by
  show lMul (.lst [x]) (.int (n : Nat)) S = _
  simp only [lMul, asList]
  rw [if_pos ⟨by omega, by omega, by simp; omega⟩, Int.toNat_natCast, flat_rep]
end PD
namespace My
open PySem PySem.Spec PyProof.Rows L2 PD
theorem o_rep' (x : Int) (n : Nat) (hn : n ≤ 1000) (S : Store) : oMul (.lst [.int x]) (.int (n : Nat)) S = some (.ok (.lst ((List.replicate n x).map .int)) S) := by
  rw [o_rep _ n hn S, List.map_replicate]
end My
set_option Elab.async false
set_option linter.all false
set_option maxRecDepth 100000
set_option maxHeartbeats 4000000
namespace My
open PySem PySem.Spec PyProof.Rows L2 PD
/-! printed by denprint.py -/
def top (i : Nat) : Stmt := PySem.Challenge.pw_stayorgo_k18_whole_courses_of_both_rules.main.body.getD i (.Pass ⟨0, 0, 0, 0⟩)
def inCls : Stmt → List Stmt
  | .ClassDef (body := b) .. => b
  | _ => []
def meth (i j : Nat) : Stmt := (inCls (top i)).getD j (.Pass ⟨0, 0, 0, 0⟩)
structure Facts (K : PySem.W.Frag) (mg : Str → Option Value) : Prop where
  g_leveled : mg "leveled" = some (.ref (He.ga K "leveled"))
  F_leveled : ∃ fd, FunD K "leveled" "leveled" (defArgs (top 23)) (defBody (top 23)) (defScope (top 23)) [] [] (He.ga K "leveled") fd
  g_common_divisor : mg "common_divisor" = some (.ref (He.ga K "common_divisor"))
  F_common_divisor : ∃ fd, FunD K "common_divisor" "common_divisor" (defArgs (top 2)) (defBody (top 2)) (defScope (top 2)) [] [] (He.ga K "common_divisor") fd
  g_load_from : mg "load_from" = some (.ref (He.ga K "load_from"))
  F_load_from : ∃ fd, FunD K "load_from" "load_from" (defArgs (top 22)) (defBody (top 22)) (defScope (top 22)) [] [] (He.ga K "load_from") fd
  g_is_integer : mg "is_integer" = some (.ref (He.ga K "is_integer"))
  F_is_integer : ∃ fd, FunD K "is_integer" "is_integer" (defArgs (top 3)) (defBody (top 3)) (defScope (top 3)) [] [] (He.ga K "is_integer") fd
  g_is_number : mg "is_number" = some (.ref (He.ga K "is_number"))
  F_is_number : ∃ fd, FunD K "is_number" "is_number" (defArgs (top 4)) (defBody (top 4)) (defScope (top 4)) [] [] (He.ga K "is_number") fd
  g_are_numbers : mg "are_numbers" = some (.ref (He.ga K "are_numbers"))
  F_are_numbers : ∃ fd, FunD K "are_numbers" "are_numbers" (defArgs (top 7)) (defBody (top 7)) (defScope (top 7)) [] [] (He.ga K "are_numbers") fd
  g_is_bottom : mg "is_bottom" = some (.ref (He.ga K "is_bottom"))
  F_is_bottom : ∃ fd, FunD K "is_bottom" "is_bottom" (defArgs (top 5)) (defBody (top 5)) (defScope (top 5)) [] [] (He.ga K "is_bottom") fd
  g_is_pair : mg "is_pair" = some (.ref (He.ga K "is_pair"))
  F_is_pair : ∃ fd, FunD K "is_pair" "is_pair" (defArgs (top 6)) (defBody (top 6)) (defScope (top 6)) [] [] (He.ga K "is_pair") fd
  g_is_load : mg "is_load" = some (.ref (He.ga K "is_load"))
  F_is_load : ∃ fd, FunD K "is_load" "is_load" (defArgs (top 8)) (defBody (top 8)) (defScope (top 8)) [] [] (He.ga K "is_load") fd
  g_require : mg "require" = some (.ref (He.ga K "require"))
  F_require : ∃ fd, FunD K "require" "require" (defArgs (top 15)) (defBody (top 15)) (defScope (top 15)) [] [] (He.ga K "require") fd
  g_require_alike : mg "require_alike" = some (.ref (He.ga K "require_alike"))
  F_require_alike : ∃ fd, FunD K "require_alike" "require_alike" (defArgs (top 20)) (defBody (top 20)) (defScope (top 20)) [] [] (He.ga K "require_alike") fd
  g_added : mg "added" = some (.ref (He.ga K "added"))
  F_added : ∃ fd, FunD K "added" "added" (defArgs (top 25)) (defBody (top 25)) (defScope (top 25)) [] [] (He.ga K "added") fd
  g_size_of : mg "size_of" = some (.ref (He.ga K "size_of"))
  F_size_of : ∃ fd, FunD K "size_of" "size_of" (defArgs (top 16)) (defBody (top 16)) (defScope (top 16)) [] [] (He.ga K "size_of") fd
  g_step_of : mg "step_of" = some (.ref (He.ga K "step_of"))
  F_step_of : ∃ fd, FunD K "step_of" "step_of" (defArgs (top 33)) (defBody (top 33)) (defScope (top 33)) [] [] (He.ga K "step_of") fd
  g_come_to : mg "come_to" = some (.ref (He.ga K "come_to"))
  F_come_to : ∃ fd, FunD K "come_to" "come_to" (defArgs (top 34)) (defBody (top 34)) (defScope (top 34)) [] [] (He.ga K "come_to") fd
  g_lesser_of : mg "lesser_of" = some (.ref (He.ga K "lesser_of"))
  F_lesser_of : ∃ fd, FunD K "lesser_of" "lesser_of" (defArgs (top 30)) (defBody (top 30)) (defScope (top 30)) [] [] (He.ga K "lesser_of") fd
  g_no_load : mg "no_load" = some (.ref (He.ga K "no_load"))
  F_no_load : ∃ fd, FunD K "no_load" "no_load" (defArgs (top 24)) (defBody (top 24)) (defScope (top 24)) [] [] (He.ga K "no_load") fd
  g_go_passes : mg "go_passes" = some (.ref (He.ga K "go_passes"))
  F_go_passes : ∃ fd, FunD K "go_passes" "go_passes" (defArgs (top 40)) (defBody (top 40)) (defScope (top 40)) [] [] (He.ga K "go_passes") fd
  g_require_load : mg "require_load" = some (.ref (He.ga K "require_load"))
  F_require_load : ∃ fd, FunD K "require_load" "require_load" (defArgs (top 18)) (defBody (top 18)) (defScope (top 18)) [] [] (He.ga K "require_load") fd
  g_require_allowance : mg "require_allowance" = some (.ref (He.ga K "require_allowance"))
  F_require_allowance : ∃ fd, FunD K "require_allowance" "require_allowance" (defArgs (top 36)) (defBody (top 36)) (defScope (top 36)) [] [] (He.ga K "require_allowance") fd
  g_require_number : mg "require_number" = some (.ref (He.ga K "require_number"))
  F_require_number : ∃ fd, FunD K "require_number" "require_number" (defArgs (top 17)) (defBody (top 17)) (defScope (top 17)) [] [] (He.ga K "require_number") fd
  g_go_course : mg "go_course" = some (.ref (He.ga K "go_course"))
  F_go_course : ∃ fd, FunD K "go_course" "go_course" (defArgs (top 42)) (defBody (top 42)) (defScope (top 42)) [] [] (He.ga K "go_course") fd
  g_are_loads : mg "are_loads" = some (.ref (He.ga K "are_loads"))
  F_are_loads : ∃ fd, FunD K "are_loads" "are_loads" (defArgs (top 44)) (defBody (top 44)) (defScope (top 44)) [] [] (He.ga K "are_loads") fd
  g_taken : mg "taken" = some (.ref (He.ga K "taken"))
  F_taken : ∃ fd, FunD K "taken" "taken" (defArgs (top 26)) (defBody (top 26)) (defScope (top 26)) [] [] (He.ga K "taken") fd
  g_goes_of : mg "goes_of" = some (.ref (He.ga K "goes_of"))
  F_goes_of : ∃ fd, FunD K "goes_of" "goes_of" (defArgs (top 46)) (defBody (top 46)) (defScope (top 46)) [] [] (He.ga K "goes_of") fd
  g_places_above : mg "places_above" = some (.ref (He.ga K "places_above"))
  F_places_above : ∃ fd, FunD K "places_above" "places_above" (defArgs (top 28)) (defBody (top 28)) (defScope (top 28)) [] [] (He.ga K "places_above") fd
  g_is_within : mg "is_within" = some (.ref (He.ga K "is_within"))
  F_is_within : ∃ fd, FunD K "is_within" "is_within" (defArgs (top 29)) (defBody (top 29)) (defScope (top 29)) [] [] (He.ga K "is_within") fd
  g_is_growing : mg "is_growing" = some (.ref (He.ga K "is_growing"))
  F_is_growing : ∃ fd, FunD K "is_growing" "is_growing" (defArgs (top 45)) (defBody (top 45)) (defScope (top 45)) [] [] (He.ga K "is_growing") fd
  g_stands_of : mg "stands_of" = some (.ref (He.ga K "stands_of"))
  F_stands_of : ∃ fd, FunD K "stands_of" "stands_of" (defArgs (top 47)) (defBody (top 47)) (defScope (top 47)) [] [] (He.ga K "stands_of") fd
  g_is_course_of : mg "is_course_of" = some (.ref (He.ga K "is_course_of"))
  F_is_course_of : ∃ fd, FunD K "is_course_of" "is_course_of" (defArgs (top 48)) (defBody (top 48)) (defScope (top 48)) [] [] (He.ga K "is_course_of") fd
  g_is_course : mg "is_course" = some (.ref (He.ga K "is_course"))
  F_is_course : ∃ fd, FunD K "is_course" "is_course" (defArgs (top 50)) (defBody (top 50)) (defScope (top 50)) [] [] (He.ga K "is_course") fd
  g_require_course : mg "require_course" = some (.ref (He.ga K "require_course"))
  F_require_course : ∃ fd, FunD K "require_course" "require_course" (defArgs (top 49)) (defBody (top 49)) (defScope (top 49)) [] [] (He.ga K "require_course") fd
  g_kept_course : mg "kept_course" = some (.ref (He.ga K "kept_course"))
  F_kept_course : ∃ fd, FunD K "kept_course" "kept_course" (defArgs (top 52)) (defBody (top 52)) (defScope (top 52)) [] [] (He.ga K "kept_course") fd
  g_standing_course : mg "standing_course" = some (.ref (He.ga K "standing_course"))
  F_standing_course : ∃ fd, FunD K "standing_course" "standing_course" (defArgs (top 51)) (defBody (top 51)) (defScope (top 51)) [] [] (He.ga K "standing_course") fd
  g_require_rooms : mg "require_rooms" = some (.ref (He.ga K "require_rooms"))
  F_require_rooms : ∃ fd, FunD K "require_rooms" "require_rooms" (defArgs (top 19)) (defBody (top 19)) (defScope (top 19)) [] [] (He.ga K "require_rooms") fd
  g_greater_of : mg "greater_of" = some (.ref (He.ga K "greater_of"))
  F_greater_of : ∃ fd, FunD K "greater_of" "greater_of" (defArgs (top 31)) (defBody (top 31)) (defScope (top 31)) [] [] (He.ga K "greater_of") fd
  g_over_of : mg "over_of" = some (.ref (He.ga K "over_of"))
  F_over_of : ∃ fd, FunD K "over_of" "over_of" (defArgs (top 38)) (defBody (top 38)) (defScope (top 38)) [] [] (He.ga K "over_of") fd
  g_stay_passes : mg "stay_passes" = some (.ref (He.ga K "stay_passes"))
  F_stay_passes : ∃ fd, FunD K "stay_passes" "stay_passes" (defArgs (top 39)) (defBody (top 39)) (defScope (top 39)) [] [] (He.ga K "stay_passes") fd
  g_stay_course : mg "stay_course" = some (.ref (He.ga K "stay_course"))
  F_stay_course : ∃ fd, FunD K "stay_course" "stay_course" (defArgs (top 41)) (defBody (top 41)) (defScope (top 41)) [] [] (He.ga K "stay_course") fd
  g__law_ask : mg "_law_ask" = some (.ref (He.ga K "_law_ask"))
  F__law_ask : ∃ fd, FunD K "_law_ask" "_law_ask" (defArgs (top 67)) (defBody (top 67)) (defScope (top 67)) [] [] (He.ga K "_law_ask") fd
  g__law_gcd : mg "_law_gcd" = some (.ref (He.ga K "_law_gcd"))
  F__law_gcd : ∃ fd, FunD K "_law_gcd" "_law_gcd" (defArgs (top 55)) (defBody (top 55)) (defScope (top 55)) [] [] (He.ga K "_law_gcd") fd
  g__law_low : mg "_law_low" = some (.ref (He.ga K "_law_low"))
  F__law_low : ∃ fd, FunD K "_law_low" "_law_low" (defArgs (top 56)) (defBody (top 56)) (defScope (top 56)) [] [] (He.ga K "_law_low") fd
  g__law_more : mg "_law_more" = some (.ref (He.ga K "_law_more"))
  F__law_more : ∃ fd, FunD K "_law_more" "_law_more" (defArgs (top 65)) (defBody (top 65)) (defScope (top 65)) [] [] (He.ga K "_law_more") fd
  g__law_bent : mg "_law_bent" = some (.ref (He.ga K "_law_bent"))
  F__law_bent : ∃ fd, FunD K "_law_bent" "_law_bent" (defArgs (top 66)) (defBody (top 66)) (defScope (top 66)) [] [] (He.ga K "_law_bent") fd
  g__law_within : mg "_law_within" = some (.ref (He.ga K "_law_within"))
  F__law_within : ∃ fd, FunD K "_law_within" "_law_within" (defArgs (top 63)) (defBody (top 63)) (defScope (top 63)) [] [] (He.ga K "_law_within") fd
  g__law_fits : mg "_law_fits" = some (.ref (He.ga K "_law_fits"))
  F__law_fits : ∃ fd, FunD K "_law_fits" "_law_fits" (defArgs (top 64)) (defBody (top 64)) (defScope (top 64)) [] [] (He.ga K "_law_fits") fd
  g__law_part : mg "_law_part" = some (.ref (He.ga K "_law_part"))
  F__law_part : ∃ fd, FunD K "_law_part" "_law_part" (defArgs (top 62)) (defBody (top 62)) (defScope (top 62)) [] [] (He.ga K "_law_part") fd
  g__law_same : mg "_law_same" = some (.ref (He.ga K "_law_same"))
  F__law_same : ∃ fd, FunD K "_law_same" "_law_same" (defArgs (top 60)) (defBody (top 60)) (defScope (top 60)) [] [] (He.ga K "_law_same") fd
  g__law_strange : mg "_law_strange" = some (.ref (He.ga K "_law_strange"))
  F__law_strange : ∃ fd, FunD K "_law_strange" "_law_strange" (defArgs (top 69)) (defBody (top 69)) (defScope (top 69)) [] [] (He.ga K "_law_strange") fd
  g__law_walk : mg "_law_walk" = some (.ref (He.ga K "_law_walk"))
  F__law_walk : ∃ fd, FunD K "_law_walk" "_law_walk" (defArgs (top 61)) (defBody (top 61)) (defScope (top 61)) [] [] (He.ga K "_law_walk") fd
  g__law_bends : mg "_law_bends" = some (.ref (He.ga K "_law_bends"))
  F__law_bends : ∃ fd, FunD K "_law_bends" "_law_bends" (defArgs (top 72)) (defBody (top 72)) (defScope (top 72)) [] [] (He.ga K "_law_bends") fd
  g__law_hand : mg "_law_hand" = some (.ref (He.ga K "_law_hand"))
  F__law_hand : ∃ fd, FunD K "_law_hand" "_law_hand" (defArgs (top 74)) (defBody (top 74)) (defScope (top 74)) [] [] (He.ga K "_law_hand") fd
  g__law_span : mg "_law_span" = some (.ref (He.ga K "_law_span"))
  F__law_span : ∃ fd, FunD K "_law_span" "_law_span" (defArgs (top 58)) (defBody (top 58)) (defScope (top 58)) [] [] (He.ga K "_law_span") fd
  g__law_net : mg "_law_net" = some (.ref (He.ga K "_law_net"))
  F__law_net : ∃ fd, FunD K "_law_net" "_law_net" (defArgs (top 59)) (defBody (top 59)) (defScope (top 59)) [] [] (He.ga K "_law_net") fd
  g__law_pool : mg "_law_pool" = some (.ref (He.ga K "_law_pool"))
  F__law_pool : ∃ fd, FunD K "_law_pool" "_law_pool" (defArgs (top 54)) (defBody (top 54)) (defScope (top 54)) [] [] (He.ga K "_law_pool") fd
  g__law_odd : mg "_law_odd" = some (.ref (He.ga K "_law_odd"))
  F__law_odd : ∃ fd, FunD K "_law_odd" "_law_odd" (defArgs (top 68)) (defBody (top 68)) (defScope (top 68)) [] [] (He.ga K "_law_odd") fd
  g__law_refusals : mg "_law_refusals" = some (.ref (He.ga K "_law_refusals"))
  F__law_refusals : ∃ fd, FunD K "_law_refusals" "_law_refusals" (defArgs (top 73)) (defBody (top 73)) (defScope (top 73)) [] [] (He.ga K "_law_refusals") fd
  g__law_one_course : mg "_law_one_course" = some (.ref (He.ga K "_law_one_course"))
  F__law_one_course : ∃ fd, FunD K "_law_one_course" "_law_one_course" (defArgs (top 70)) (defBody (top 70)) (defScope (top 70)) [] [] (He.ga K "_law_one_course") fd
  g__law_rules : mg "_law_rules" = some (.ref (He.ga K "_law_rules"))
  F__law_rules : ∃ fd, FunD K "_law_rules" "_law_rules" (defArgs (top 71)) (defBody (top 71)) (defScope (top 71)) [] [] (He.ga K "_law_rules") fd
  g__law_tops : mg "_law_tops" = some (.ref (He.ga K "_law_tops"))
  F__law_tops : ∃ fd, FunD K "_law_tops" "_law_tops" (defArgs (top 57)) (defBody (top 57)) (defScope (top 57)) [] [] (He.ga K "_law_tops") fd
  g_law : mg "law" = some (.ref (He.ga K "law"))
  F_law : ∃ fd, FunD K "law" "law" (defArgs (top 75)) (defBody (top 75)) (defScope (top 75)) [] [] (He.ga K "law") fd
  g_StayError : mg "StayError" = some (.ref (He.ga K "StayError"))
  g_WebError : mg "WebError" = some (.ref (He.ga K "WebError"))
  g_NotUsable : mg "NotUsable" = some (.ref (He.ga K "NotUsable"))
  g_NoRoom : mg "NoRoom" = some (.ref (He.ga K "NoRoom"))
  n_abs : mg "abs" = none
  n_all : mg "all" = none
  n_bool : mg "bool" = none
  n_enumerate : mg "enumerate" = none
  n_int : mg "int" = none
  n_isinstance : mg "isinstance" = none
  n_len : mg "len" = none
  n_list : mg "list" = none
  n_max : mg "max" = none
  n_min : mg "min" = none
  n_range : mg "range" = none
  n_str : mg "str" = none
  n_sum : mg "sum" = none
  n_tuple : mg "tuple" = none
  n_zip : mg "zip" = none
  k_gcd : mg "gcd" = some (.builtin "math.gcd")
  x_NotUsable : OwnErr K mg "NotUsable"
  I_NotUsable : ∃ fd, FunD K "__init__" "NotUsable.__init__" (defArgs (meth 12 0)) (defBody (meth 12 0)) (defScope (meth 12 0)) [] [] (He.ma K (He.ga K "NotUsable") "__init__") fd
  no_NotUsable_word : PySem.W.findIn K (.ref (He.ga K "NotUsable")) "word" = some none
  no_NotUsable_at : PySem.W.findIn K (.ref (He.ga K "NotUsable")) "at" = some none
  is_NotUsable_StayError : PySem.W.kitOne K (.ref (He.ga K "NotUsable")) (.ref (He.ga K "StayError")) = some true
  is_NotUsable_WebError : PySem.W.kitOne K (.ref (He.ga K "NotUsable")) (.ref (He.ga K "WebError")) = some true
  is_NotUsable_NoRoom : PySem.W.kitOne K (.ref (He.ga K "NotUsable")) (.ref (He.ga K "NoRoom")) = some false
  ex_NotUsable_NotUsable : PySem.W.exmOne K (.ref (He.ga K "NotUsable")) (.ref (He.ga K "NotUsable")) = some true
section
variable {P : Program} {w : World} {K : PySem.W.Frag} {mg : Str → Option Value} {base : Heap}
theorem sci_NotUsable : FnScope ["self", "word", "at"] ["self", "word", "at"] (defScope (meth 12 0)) := ⟨rfl, rfl, rfl, by decide +kernel, rfl, by decide +kernel, by decide +kernel⟩
theorem i_NotUsable (fx : Facts K mg) : InitC2 P w K mg base (He.ma K (He.ga K "NotUsable") "__init__") ["self", "word", "at"] "word" "at" := by
  obtain ⟨fd, F⟩ := fx.I_NotUsable
  exact ⟨fd, init2_ok F sci_NotUsable (.inl rfl) (.inl rfl) (.inl rfl), F.bindsN fun _ _ _ _ _ _ us hl => match us, hl with | [_, _, _], _ => rfl⟩
noncomputable def D_leveled : SDen := sSeq (sRet (dLc [2] (dRange1 (dCall oLen (dCons (dBin oIx (dVar 0) (dC (.int 0))) (dNil)))) (.one 2) (dYes) (dTup (dCons (dBin oMul (dBin oIx (dBin oIx (dVar 0) (dC (.int 0))) (dVar 2)) (dBin oIx (dVar 1) (dC (.int 1)))) (dCons (dBin oMul (dBin oIx (dBin oIx (dVar 1) (dC (.int 0))) (dVar 2)) (dBin oIx (dVar 0) (dC (.int 1)))) (dNil)))))) (sNil)
theorem Q_leveled : ∃ F : Op, F = fnOf ["load", "other", "i"] D_leveled := ⟨_, rfl⟩
noncomputable def O_leveled : Op := Classical.choose Q_leveled
instance is_leveled : Is O_leveled ["load", "other", "i"] D_leveled := ⟨Classical.choose_spec Q_leveled⟩
theorem sc_leveled : FnScope ["load", "other", "i"] ["load", "other"] (defScope (top 23)) := ⟨rfl, rfl, rfl, by decide +kernel, rfl, by decide +kernel, by decide +kernel⟩
theorem b_leveled : BindsAll "leveled" (top 23) ["load", "other"] := fun _ _ _ _ _ _ us hl => match us, hl with | [_, _], _ => rfl
theorem c_leveled (fx : Facts K mg) : Callee P w K mg base 1 "leveled" (top 23) ["load", "other"] O_leveled := by
  obtain ⟨fd, F⟩ := fx.F_leveled
  refine ⟨fx.g_leveled, fd, F, ?_⟩
  rw [is_leveled.eq]
  refine fn_den F sc_leveled fun cdv A outer s H E hr tk => ?_
  have nd := sc_leveled.nd
  exact (dss_cons (ds_ret (de_lc [("i", 2)] (.one 2) rfl nd (by decide) (by exact blkB_ok (by kernel_rfl)) (di_range1 fx.n_range (de_len fx.n_len (da_cons (de_ix (de_var 0) de_int) da_nil))) (fun _ _ _ _ _ => (pg_name nd rfl (by first | exact .inl rfl | exact .inr rfl) (by first | exact .inl rfl | exact .inr rfl))) (fun _ _ _ _ _ => dts_nil) (fun _ _ _ _ _ => (de_tup (da_cons (de_mul (de_ix (de_ix (de_var 0) de_int) (de_var 2)) (de_ix (de_var 1) de_int)) (da_cons (de_mul (de_ix (de_ix (de_var 1) de_int) (de_var 2)) (de_ix (de_var 0) de_int)) da_nil))))))
      dss_nil)
noncomputable def D_common_divisor : SDen := sSeq (sSet 1 (dC (.int 0))) (sSeq (sFor (dItems (dVar 0)) (tName 2) (sSeq (sSet 1 (dCall oGcd (dCons (dVar 1) (dCons (dVar 2) (dNil))))) (sNil))) (sSeq (sRet (dVar 1)) (sNil)))
theorem Q_common_divisor : ∃ F : Op, F = fnOf ["numbers", "found", "number"] D_common_divisor := ⟨_, rfl⟩
noncomputable def O_common_divisor : Op := Classical.choose Q_common_divisor
instance is_common_divisor : Is O_common_divisor ["numbers", "found", "number"] D_common_divisor := ⟨Classical.choose_spec Q_common_divisor⟩
theorem sc_common_divisor : FnScope ["numbers", "found", "number"] ["numbers"] (defScope (top 2)) := ⟨rfl, rfl, rfl, by decide +kernel, rfl, by decide +kernel, by decide +kernel⟩
theorem b_common_divisor : BindsAll "common_divisor" (top 2) ["numbers"] := fun _ _ _ _ _ _ us hl => match us, hl with | [_], _ => rfl
theorem c_common_divisor (fx : Facts K mg) : Callee P w K mg base 1 "common_divisor" (top 2) ["numbers"] O_common_divisor := by
  obtain ⟨fd, F⟩ := fx.F_common_divisor
  refine ⟨fx.g_common_divisor, fd, F, ?_⟩
  rw [is_common_divisor.eq]
  refine fn_den F sc_common_divisor fun cdv A outer s H E hr tk => ?_
  have nd := sc_common_divisor.nd
  exact (dss_cons (ds_set 1 nd de_int)
      (dss_cons (ds_for (L2.passes_of rfl) rfl (di_seq (de_var 0)) (dg_name 2 nd) (dss_cons (ds_set 1 nd (de_callM cr_gcd callD_gcd fx.k_gcd (da_cons (de_var 1) (da_cons (de_var 2) da_nil))))
      dss_nil))
      (dss_cons (ds_ret (de_var 1))
      dss_nil)))
noncomputable def D_load_from : SDen := sSeq (sSet 2 (dFn 1 O_common_divisor (dCons (dLst (dStar (dVar 0) (dCons (dVar 1) (dNil)))) (dNil)))) (sSeq (sRet (dTup (dCons (dCall oTuple1 (dCons (dLc [3] (dItems (dVar 0)) (.one 3) (dYes) (dBin oDiv (dVar 3) (dVar 2))) (dNil))) (dCons (dBin oDiv (dVar 1) (dVar 2)) (dNil))))) (sNil))
theorem Q_load_from : ∃ F : Op, F = fnOf ["tops", "bottom", "common", "top"] D_load_from := ⟨_, rfl⟩
noncomputable def O_load_from : Op := Classical.choose Q_load_from
instance is_load_from : Is O_load_from ["tops", "bottom", "common", "top"] D_load_from := ⟨Classical.choose_spec Q_load_from⟩
theorem sc_load_from : FnScope ["tops", "bottom", "common", "top"] ["tops", "bottom"] (defScope (top 22)) := ⟨rfl, rfl, rfl, by decide +kernel, rfl, by decide +kernel, by decide +kernel⟩
theorem b_load_from : BindsAll "load_from" (top 22) ["tops", "bottom"] := fun _ _ _ _ _ _ us hl => match us, hl with | [_, _], _ => rfl
theorem c_load_from (fx : Facts K mg) : Callee P w K mg base 2 "load_from" (top 22) ["tops", "bottom"] O_load_from := by
  obtain ⟨fd, F⟩ := fx.F_load_from
  refine ⟨fx.g_load_from, fd, F, ?_⟩
  rw [is_load_from.eq]
  refine fn_den F sc_load_from fun cdv A outer s H E hr tk => ?_
  have nd := sc_load_from.nd
  exact (dss_cons (ds_set 2 nd (de_callC (c_common_divisor fx) b_common_divisor hr (by omega) tk (da_cons (de_lst (da_star (de_var 0) (da_cons (de_var 1) da_nil))) da_nil)))
      (dss_cons (ds_ret (de_tup (da_cons (de_callTy call_tuple_of callD_tuple1 (by decide +kernel) fx.n_tuple (da_cons (de_lc [("top", 3)] (.one 3) rfl nd (by decide) (by exact blkB_ok (by kernel_rfl)) (di_seq (de_var 0)) (fun _ _ _ _ _ => (pg_name nd rfl (by first | exact .inl rfl | exact .inr rfl) (by first | exact .inl rfl | exact .inr rfl))) (fun _ _ _ _ _ => dts_nil) (fun _ _ _ _ _ => (de_div (de_var 3) (de_var 2)))) da_nil)) (da_cons (de_div (de_var 1) (de_var 2)) da_nil))))
      dss_nil))
noncomputable def D_is_integer : SDen := sSeq (sRet (dAnd (dIsi "int" (dVar 0)) (dNot (dIsi "bool" (dVar 0))))) (sNil)
theorem Q_is_integer : ∃ F : Op, F = fnOf ["thing"] D_is_integer := ⟨_, rfl⟩
noncomputable def O_is_integer : Op := Classical.choose Q_is_integer
instance is_is_integer : Is O_is_integer ["thing"] D_is_integer := ⟨Classical.choose_spec Q_is_integer⟩
theorem sc_is_integer : FnScope ["thing"] ["thing"] (defScope (top 3)) := ⟨rfl, rfl, rfl, by decide +kernel, rfl, by decide +kernel, by decide +kernel⟩
theorem b_is_integer : BindsAll "is_integer" (top 3) ["thing"] := fun _ _ _ _ _ _ us hl => match us, hl with | [_], _ => rfl
theorem c_is_integer (fx : Facts K mg) : Callee P w K mg base 1 "is_integer" (top 3) ["thing"] O_is_integer := by
  obtain ⟨fd, F⟩ := fx.F_is_integer
  refine ⟨fx.g_is_integer, fd, F, ?_⟩
  rw [is_is_integer.eq]
  refine fn_den F sc_is_integer fun cdv A outer s H E hr tk => ?_
  have nd := sc_is_integer.nd
  exact (dss_cons (ds_ret (de_and (de_isi (de_var 0) fx.n_isinstance fx.n_int (by decide +kernel) (by decide)) (de_one (de_not (de_isi (de_var 0) fx.n_isinstance fx.n_bool (by decide +kernel) (by decide))))))
      dss_nil)
noncomputable def D_is_number : SDen := sSeq (sRet (dAnd (dFn 1 O_is_integer (dCons (dVar 0) (dNil))) (dBin oGe (dVar 0) (dC (.int 0))))) (sNil)
theorem Q_is_number : ∃ F : Op, F = fnOf ["thing"] D_is_number := ⟨_, rfl⟩
noncomputable def O_is_number : Op := Classical.choose Q_is_number
instance is_is_number : Is O_is_number ["thing"] D_is_number := ⟨Classical.choose_spec Q_is_number⟩
theorem sc_is_number : FnScope ["thing"] ["thing"] (defScope (top 4)) := ⟨rfl, rfl, rfl, by decide +kernel, rfl, by decide +kernel, by decide +kernel⟩
theorem b_is_number : BindsAll "is_number" (top 4) ["thing"] := fun _ _ _ _ _ _ us hl => match us, hl with | [_], _ => rfl
theorem c_is_number (fx : Facts K mg) : Callee P w K mg base 2 "is_number" (top 4) ["thing"] O_is_number := by
  obtain ⟨fd, F⟩ := fx.F_is_number
  refine ⟨fx.g_is_number, fd, F, ?_⟩
  rw [is_is_number.eq]
  refine fn_den F sc_is_number fun cdv A outer s H E hr tk => ?_
  have nd := sc_is_number.nd
  exact (dss_cons (ds_ret (de_and (de_callC (c_is_integer fx) b_is_integer hr (by omega) tk (da_cons (de_var 0) da_nil)) (de_one (de_ge (de_var 0) de_int))))
      dss_nil)
noncomputable def D_are_numbers : SDen := sSeq (sRet (dAnd (dIsi "tuple" (dVar 1)) (dAnd (dBin oEq (dCall oLen (dCons (dVar 1) (dNil))) (dVar 0)) (dCall oAll (dCons (dLc [2] (dItems (dVar 1)) (.one 2) (dYes) (dFn 1 O_is_number (dCons (dVar 2) (dNil)))) (dNil)))))) (sNil)
theorem Q_are_numbers : ∃ F : Op, F = fnOf ["many", "thing", "number"] D_are_numbers := ⟨_, rfl⟩
noncomputable def O_are_numbers : Op := Classical.choose Q_are_numbers
instance is_are_numbers : Is O_are_numbers ["many", "thing", "number"] D_are_numbers := ⟨Classical.choose_spec Q_are_numbers⟩
theorem sc_are_numbers : FnScope ["many", "thing", "number"] ["many", "thing"] (defScope (top 7)) := ⟨rfl, rfl, rfl, by decide +kernel, rfl, by decide +kernel, by decide +kernel⟩
theorem b_are_numbers : BindsAll "are_numbers" (top 7) ["many", "thing"] := fun _ _ _ _ _ _ us hl => match us, hl with | [_, _], _ => rfl
theorem c_are_numbers (fx : Facts K mg) : Callee P w K mg base 3 "are_numbers" (top 7) ["many", "thing"] O_are_numbers := by
  obtain ⟨fd, F⟩ := fx.F_are_numbers
  refine ⟨fx.g_are_numbers, fd, F, ?_⟩
  rw [is_are_numbers.eq]
  refine fn_den F sc_are_numbers fun cdv A outer s H E hr tk => ?_
  have nd := sc_are_numbers.nd
  exact (dss_cons (ds_ret (de_and (de_isi (de_var 1) fx.n_isinstance fx.n_tuple (by decide +kernel) (by decide)) (de_and (de_eq hr.units (de_len fx.n_len (da_cons (de_var 1) da_nil)) (de_var 0)) (de_one (de_callB (cr_all rfl) callD_all (by decide +kernel) fx.n_all (da_cons (de_lc [("number", 2)] (.one 2) rfl nd (by decide) (by exact blkB_ok (by kernel_rfl)) (di_seq (de_var 1)) (fun _ _ _ _ _ => (pg_name nd rfl (by first | exact .inl rfl | exact .inr rfl) (by first | exact .inl rfl | exact .inr rfl))) (fun _ _ _ _ _ => dts_nil) (fun _ _ _ _ _ => (de_callC (c_is_number fx) b_is_number hr (by omega) takes0 (da_cons (de_var 2) da_nil)))) da_nil))))))
      dss_nil)
noncomputable def D_is_bottom : SDen := sSeq (sRet (dAnd (dFn 1 O_is_integer (dCons (dVar 0) (dNil))) (dBin oGe (dVar 0) (dC (.int 1))))) (sNil)
theorem Q_is_bottom : ∃ F : Op, F = fnOf ["thing"] D_is_bottom := ⟨_, rfl⟩
noncomputable def O_is_bottom : Op := Classical.choose Q_is_bottom
instance is_is_bottom : Is O_is_bottom ["thing"] D_is_bottom := ⟨Classical.choose_spec Q_is_bottom⟩
theorem sc_is_bottom : FnScope ["thing"] ["thing"] (defScope (top 5)) := ⟨rfl, rfl, rfl, by decide +kernel, rfl, by decide +kernel, by decide +kernel⟩
theorem b_is_bottom : BindsAll "is_bottom" (top 5) ["thing"] := fun _ _ _ _ _ _ us hl => match us, hl with | [_], _ => rfl
theorem c_is_bottom (fx : Facts K mg) : Callee P w K mg base 2 "is_bottom" (top 5) ["thing"] O_is_bottom := by
  obtain ⟨fd, F⟩ := fx.F_is_bottom
  refine ⟨fx.g_is_bottom, fd, F, ?_⟩
  rw [is_is_bottom.eq]
  refine fn_den F sc_is_bottom fun cdv A outer s H E hr tk => ?_
  have nd := sc_is_bottom.nd
  exact (dss_cons (ds_ret (de_and (de_callC (c_is_integer fx) b_is_integer hr (by omega) tk (da_cons (de_var 0) da_nil)) (de_one (de_ge (de_var 0) de_int))))
      dss_nil)
noncomputable def D_is_pair : SDen := sSeq (sRet (dAnd (dIsi "tuple" (dVar 0)) (dBin oEq (dCall oLen (dCons (dVar 0) (dNil))) (dC (.int 2))))) (sNil)
theorem Q_is_pair : ∃ F : Op, F = fnOf ["thing"] D_is_pair := ⟨_, rfl⟩
noncomputable def O_is_pair : Op := Classical.choose Q_is_pair
instance is_is_pair : Is O_is_pair ["thing"] D_is_pair := ⟨Classical.choose_spec Q_is_pair⟩
theorem sc_is_pair : FnScope ["thing"] ["thing"] (defScope (top 6)) := ⟨rfl, rfl, rfl, by decide +kernel, rfl, by decide +kernel, by decide +kernel⟩
theorem b_is_pair : BindsAll "is_pair" (top 6) ["thing"] := fun _ _ _ _ _ _ us hl => match us, hl with | [_], _ => rfl
theorem c_is_pair (fx : Facts K mg) : Callee P w K mg base 1 "is_pair" (top 6) ["thing"] O_is_pair := by
  obtain ⟨fd, F⟩ := fx.F_is_pair
  refine ⟨fx.g_is_pair, fd, F, ?_⟩
  rw [is_is_pair.eq]
  refine fn_den F sc_is_pair fun cdv A outer s H E hr tk => ?_
  have nd := sc_is_pair.nd
  exact (dss_cons (ds_ret (de_and (de_isi (de_var 0) fx.n_isinstance fx.n_tuple (by decide +kernel) (by decide)) (de_one (de_eq hr.units (de_len fx.n_len (da_cons (de_var 0) da_nil)) de_int))))
      dss_nil)
noncomputable def D_is_load : SDen := sSeq (sIf (dNot (dAnd (dTru (dFn 1 O_is_pair (dCons (dVar 1) (dNil)))) (dAnd (dTru (dFn 2 O_are_numbers (dCons (dVar 0) (dCons (dBin oIx (dVar 1) (dC (.int 0))) (dNil))))) (dTru (dFn 1 O_is_bottom (dCons (dBin oIx (dVar 1) (dC (.int 1))) (dNil))))))) (sSeq (sRet (dC (.bl false))) (sNil)) (sNil)) (sSeq (sRet (dBin oEq (dFn 1 O_common_divisor (dCons (dLst (dStar (dBin oIx (dVar 1) (dC (.int 0))) (dCons (dBin oIx (dVar 1) (dC (.int 1))) (dNil)))) (dNil))) (dC (.int 1)))) (sNil))
theorem Q_is_load : ∃ F : Op, F = fnOf ["size", "thing"] D_is_load := ⟨_, rfl⟩
noncomputable def O_is_load : Op := Classical.choose Q_is_load
instance is_is_load : Is O_is_load ["size", "thing"] D_is_load := ⟨Classical.choose_spec Q_is_load⟩
theorem sc_is_load : FnScope ["size", "thing"] ["size", "thing"] (defScope (top 8)) := ⟨rfl, rfl, rfl, by decide +kernel, rfl, by decide +kernel, by decide +kernel⟩
theorem b_is_load : BindsAll "is_load" (top 8) ["size", "thing"] := fun _ _ _ _ _ _ us hl => match us, hl with | [_, _], _ => rfl
theorem c_is_load (fx : Facts K mg) : Callee P w K mg base 4 "is_load" (top 8) ["size", "thing"] O_is_load := by
  obtain ⟨fd, F⟩ := fx.F_is_load
  refine ⟨fx.g_is_load, fd, F, ?_⟩
  rw [is_is_load.eq]
  refine fn_den F sc_is_load fun cdv A outer s H E hr tk => ?_
  have nd := sc_is_load.nd
  exact (dss_cons (ds_if (dt_not (DW.dt (dw_and (dt_truth (de_callC (c_is_pair fx) b_is_pair hr (by omega) tk (da_cons (de_var 1) da_nil))) (dw_and (dt_truth (de_callC (c_are_numbers fx) b_are_numbers hr (by omega) tk (da_cons (de_var 0) (da_cons (de_ix (de_var 1) de_int) da_nil)))) (dw_and1 (dt_truth (de_callC (c_is_bottom fx) b_is_bottom hr (by omega) tk (da_cons (de_ix (de_var 1) de_int) da_nil)))))))) (dss_cons (ds_ret de_bl)
      dss_nil) dss_nil)
      (dss_cons (ds_ret (de_eq hr.units (de_callC (c_common_divisor fx) b_common_divisor hr (by omega) tk (da_cons (de_lst (da_star (de_ix (de_var 1) de_int) (da_cons (de_ix (de_var 1) de_int) da_nil))) da_nil)) de_int))
      dss_nil))
noncomputable def D_require : SDen := sSeq (sIf (dNot (dTru (dVar 0))) (sSeq (sRaise "NotUsable" ["at", "word"] [1, 0] (dCons (dVar 1) (dCons (dUn oNeg (dC (.int 1))) (dNil)))) (sNil)) (sNil)) (sNil)
theorem Q_require : ∃ F : Op, F = fnOf ["holds", "name"] D_require := ⟨_, rfl⟩
noncomputable def O_require : Op := Classical.choose Q_require
instance is_require : Is O_require ["holds", "name"] D_require := ⟨Classical.choose_spec Q_require⟩
theorem sc_require : FnScope ["holds", "name"] ["holds", "name"] (defScope (top 15)) := ⟨rfl, rfl, rfl, by decide +kernel, rfl, by decide +kernel, by decide +kernel⟩
theorem b_require : BindsAll "require" (top 15) ["holds", "name"] := fun _ _ _ _ _ _ us hl => match us, hl with | [_, _], _ => rfl
theorem c_require (fx : Facts K mg) : Callee P w K mg base 3 "require" (top 15) ["holds", "name"] O_require := by
  obtain ⟨fd, F⟩ := fx.F_require
  refine ⟨fx.g_require, fd, F, ?_⟩
  rw [is_require.eq]
  refine fn_den F sc_require fun cdv A outer s H E hr tk => ?_
  have nd := sc_require.nd
  exact (dss_cons (ds_if (dt_not (dt_truth (de_var 0))) (dss_cons (raise2C fx.x_NotUsable fx.no_NotUsable_word fx.no_NotUsable_at (i_NotUsable fx) hr (by omega) rfl tk (da_cons (de_var 1) (da_cons (de_neg de_int) da_nil)))
      dss_nil) dss_nil)
      dss_nil)
noncomputable def D_require_alike : SDen := sSeq (sExpr (dFn 2 O_require (dCons (dFn 2 O_is_load (dCons (dCall oLen (dCons (dBin oIx (dVar 0) (dC (.int 0))) (dNil))) (dCons (dVar 1) (dNil)))) (dCons (dC (.str "other")) (dNil))))) (sNil)
theorem Q_require_alike : ∃ F : Op, F = fnOf ["load", "other"] D_require_alike := ⟨_, rfl⟩
noncomputable def O_require_alike : Op := Classical.choose Q_require_alike
instance is_require_alike : Is O_require_alike ["load", "other"] D_require_alike := ⟨Classical.choose_spec Q_require_alike⟩
theorem sc_require_alike : FnScope ["load", "other"] ["load", "other"] (defScope (top 20)) := ⟨rfl, rfl, rfl, by decide +kernel, rfl, by decide +kernel, by decide +kernel⟩
theorem b_require_alike : BindsAll "require_alike" (top 20) ["load", "other"] := fun _ _ _ _ _ _ us hl => match us, hl with | [_, _], _ => rfl
theorem c_require_alike (fx : Facts K mg) : Callee P w K mg base 5 "require_alike" (top 20) ["load", "other"] O_require_alike := by
  obtain ⟨fd, F⟩ := fx.F_require_alike
  refine ⟨fx.g_require_alike, fd, F, ?_⟩
  rw [is_require_alike.eq]
  refine fn_den F sc_require_alike fun cdv A outer s H E hr tk => ?_
  have nd := sc_require_alike.nd
  exact (dss_cons (ds_expr (de_callC (c_require fx) b_require hr (by omega) tk (da_cons (de_callC (c_is_load fx) b_is_load hr (by omega) tk (da_cons (de_len fx.n_len (da_cons (de_ix (de_var 0) de_int) da_nil)) (da_cons (de_var 1) da_nil))) (da_cons de_str da_nil))))
      dss_nil)
noncomputable def D_added : SDen := sSeq (sExpr (dFn 2 O_require_alike (dCons (dVar 0) (dCons (dVar 1) (dNil))))) (sSeq (sRet (dFn 2 O_load_from (dCons (dLc [2, 3] (dItems (dFn 2 O_leveled (dCons (dVar 0) (dCons (dVar 1) (dNil))))) (.tup (.cons (.one 2) (.cons (.one 3) .nil))) (dYes) (dBin oPlus (dVar 2) (dVar 3))) (dCons (dBin oMul (dBin oIx (dVar 0) (dC (.int 1))) (dBin oIx (dVar 1) (dC (.int 1)))) (dNil))))) (sNil))
theorem Q_added : ∃ F : Op, F = fnOf ["load", "other", "top", "more"] D_added := ⟨_, rfl⟩
noncomputable def O_added : Op := Classical.choose Q_added
instance is_added : Is O_added ["load", "other", "top", "more"] D_added := ⟨Classical.choose_spec Q_added⟩
theorem sc_added : FnScope ["load", "other", "top", "more"] ["load", "other"] (defScope (top 25)) := ⟨rfl, rfl, rfl, by decide +kernel, rfl, by decide +kernel, by decide +kernel⟩
theorem b_added : BindsAll "added" (top 25) ["load", "other"] := fun _ _ _ _ _ _ us hl => match us, hl with | [_, _], _ => rfl
theorem c_added (fx : Facts K mg) : Callee P w K mg base 6 "added" (top 25) ["load", "other"] O_added := by
  obtain ⟨fd, F⟩ := fx.F_added
  refine ⟨fx.g_added, fd, F, ?_⟩
  rw [is_added.eq]
  refine fn_den F sc_added fun cdv A outer s H E hr tk => ?_
  have nd := sc_added.nd
  exact (dss_cons (ds_expr (de_callC (c_require_alike fx) b_require_alike hr (by omega) tk (da_cons (de_var 0) (da_cons (de_var 1) da_nil))))
      (dss_cons (ds_ret (de_callC (c_load_from fx) b_load_from hr (by omega) tk (da_cons (de_lc [("top", 2), ("more", 3)] (.tup (.cons (.one 2) (.cons (.one 3) .nil))) rfl nd (by decide) (by exact blkB_ok (by kernel_rfl)) (di_seq (de_callC (c_leveled fx) b_leveled hr (by omega) tk (da_cons (de_var 0) (da_cons (de_var 1) da_nil)))) (fun _ _ _ _ _ => (pg_tup rfl (pgs_cons (pg_name nd rfl (by first | exact .inl rfl | exact .inr rfl) (by first | exact .inl rfl | exact .inr rfl)) (pgs_cons (pg_name nd rfl (by first | exact .inl rfl | exact .inr rfl) (by first | exact .inl rfl | exact .inr rfl)) pgs_nil)))) (fun _ _ _ _ _ => dts_nil) (fun _ _ _ _ _ => (de_add (de_var 2) (de_var 3)))) (da_cons (de_mul (de_ix (de_var 0) de_int) (de_ix (de_var 1) de_int)) da_nil))))
      dss_nil))
noncomputable def D_size_of : SDen := sSeq (sRet (dCall oLen (dCons (dBin oIx (dVar 0) (dC (.int 0))) (dNil)))) (sNil)
theorem Q_size_of : ∃ F : Op, F = fnOf ["web"] D_size_of := ⟨_, rfl⟩
noncomputable def O_size_of : Op := Classical.choose Q_size_of
instance is_size_of : Is O_size_of ["web"] D_size_of := ⟨Classical.choose_spec Q_size_of⟩
theorem sc_size_of : FnScope ["web"] ["web"] (defScope (top 16)) := ⟨rfl, rfl, rfl, by decide +kernel, rfl, by decide +kernel, by decide +kernel⟩
theorem b_size_of : BindsAll "size_of" (top 16) ["web"] := fun _ _ _ _ _ _ us hl => match us, hl with | [_], _ => rfl
theorem c_size_of (fx : Facts K mg) : Callee P w K mg base 1 "size_of" (top 16) ["web"] O_size_of := by
  obtain ⟨fd, F⟩ := fx.F_size_of
  refine ⟨fx.g_size_of, fd, F, ?_⟩
  rw [is_size_of.eq]
  refine fn_den F sc_size_of fun cdv A outer s H E hr tk => ?_
  have nd := sc_size_of.nd
  exact (dss_cons (ds_ret (de_len fx.n_len (da_cons (de_ix (de_var 0) de_int) da_nil)))
      dss_nil)
noncomputable def D_step_of : SDen := sSeq (sAsg (dVar 0) (PD.tTup 2 (PD.tCons (tName 2) (PD.tCons (tName 3) (PD.tNil))))) (sSeq (sSet 4 (dCall oRange1 (dCons (dFn 1 O_size_of (dCons (dVar 0) (dNil))) (dNil)))) (sSeq (sRet (dFn 2 O_load_from (dCons (dLc [5] (dItems (dVar 4)) (.one 5) (dYes) (dCall oSum (dCons (dLc [6] (dItems (dVar 4)) (.one 6) (dYes) (dBin oMul (dBin oIx (dBin oIx (dVar 1) (dC (.int 0))) (dVar 6)) (dBin oIx (dBin oIx (dVar 2) (dVar 6)) (dVar 5)))) (dNil)))) (dCons (dBin oMul (dBin oIx (dVar 1) (dC (.int 1))) (dVar 3)) (dNil))))) (sNil)))
theorem Q_step_of : ∃ F : Op, F = fnOf ["web", "load", "rows", "bottom", "places", "j", "i"] D_step_of := ⟨_, rfl⟩
noncomputable def O_step_of : Op := Classical.choose Q_step_of
instance is_step_of : Is O_step_of ["web", "load", "rows", "bottom", "places", "j", "i"] D_step_of := ⟨Classical.choose_spec Q_step_of⟩
theorem sc_step_of : FnScope ["web", "load", "rows", "bottom", "places", "j", "i"] ["web", "load"] (defScope (top 33)) := ⟨rfl, rfl, rfl, by decide +kernel, rfl, by decide +kernel, by decide +kernel⟩
theorem b_step_of : BindsAll "step_of" (top 33) ["web", "load"] := fun _ _ _ _ _ _ us hl => match us, hl with | [_, _], _ => rfl
theorem c_step_of (fx : Facts K mg) : Callee P w K mg base 3 "step_of" (top 33) ["web", "load"] O_step_of := by
  obtain ⟨fd, F⟩ := fx.F_step_of
  refine ⟨fx.g_step_of, fd, F, ?_⟩
  rw [is_step_of.eq]
  refine fn_den F sc_step_of fun cdv A outer s H E hr tk => ?_
  have nd := sc_step_of.nd
  exact (dss_cons (ds_asg (de_var 0) (dg_tup rfl (dgs_cons (dg_name 2 nd) (dgs_cons (dg_name 3 nd) dgs_nil))))
      (dss_cons (ds_set 4 nd (de_callTy cr_range1 callD_range1 (by decide +kernel) fx.n_range (da_cons (de_callC (c_size_of fx) b_size_of hr (by omega) tk (da_cons (de_var 0) da_nil)) da_nil)))
      (dss_cons (ds_ret (de_callC (c_load_from fx) b_load_from hr (by omega) tk (da_cons (de_lc [("j", 5)] (.one 5) rfl nd (by decide) (by exact blkB_ok (by kernel_rfl)) (di_seq (de_var 4)) (fun _ _ _ _ _ => (pg_name nd rfl (by first | exact .inl rfl | exact .inr rfl) (by first | exact .inl rfl | exact .inr rfl))) (fun _ _ _ _ _ => dts_nil) (fun _ _ _ _ _ => (de_callB (call_sumA rfl) callD_sum (by decide +kernel) fx.n_sum (da_cons (de_lc [("i", 6)] (.one 6) rfl nd (by decide) (by exact blkB_ok (by kernel_rfl)) (di_seq (de_var 4)) (fun _ _ _ _ _ => (pg_name nd rfl (by first | exact .inl rfl | exact .inr rfl) (by first | exact .inl rfl | exact .inr rfl))) (fun _ _ _ _ _ => dts_nil) (fun _ _ _ _ _ => (de_mul (de_ix (de_ix (de_var 1) de_int) (de_var 6)) (de_ix (de_ix (de_var 2) (de_var 6)) (de_var 5))))) da_nil)))) (da_cons (de_mul (de_ix (de_var 1) de_int) (de_var 3)) da_nil))))
      dss_nil)))
noncomputable def D_come_to : SDen := sSeq (sRet (dFn 2 O_added (dCons (dVar 1) (dCons (dFn 2 O_step_of (dCons (dVar 0) (dCons (dVar 2) (dNil)))) (dNil))))) (sNil)
theorem Q_come_to : ∃ F : Op, F = fnOf ["web", "start", "passes"] D_come_to := ⟨_, rfl⟩
noncomputable def O_come_to : Op := Classical.choose Q_come_to
instance is_come_to : Is O_come_to ["web", "start", "passes"] D_come_to := ⟨Classical.choose_spec Q_come_to⟩
theorem sc_come_to : FnScope ["web", "start", "passes"] ["web", "start", "passes"] (defScope (top 34)) := ⟨rfl, rfl, rfl, by decide +kernel, rfl, by decide +kernel, by decide +kernel⟩
theorem b_come_to : BindsAll "come_to" (top 34) ["web", "start", "passes"] := fun _ _ _ _ _ _ us hl => match us, hl with | [_, _, _], _ => rfl
theorem c_come_to (fx : Facts K mg) : Callee P w K mg base 7 "come_to" (top 34) ["web", "start", "passes"] O_come_to := by
  obtain ⟨fd, F⟩ := fx.F_come_to
  refine ⟨fx.g_come_to, fd, F, ?_⟩
  rw [is_come_to.eq]
  refine fn_den F sc_come_to fun cdv A outer s H E hr tk => ?_
  have nd := sc_come_to.nd
  exact (dss_cons (ds_ret (de_callC (c_added fx) b_added hr (by omega) tk (da_cons (de_var 1) (da_cons (de_callC (c_step_of fx) b_step_of hr (by omega) tk (da_cons (de_var 0) (da_cons (de_var 2) da_nil))) da_nil))))
      dss_nil)
noncomputable def D_lesser_of : SDen := sSeq (sExpr (dFn 2 O_require_alike (dCons (dVar 0) (dCons (dVar 1) (dNil))))) (sSeq (sRet (dFn 2 O_load_from (dCons (dLc [2, 3] (dItems (dFn 2 O_leveled (dCons (dVar 0) (dCons (dVar 1) (dNil))))) (.tup (.cons (.one 2) (.cons (.one 3) .nil))) (dYes) (dCall oMin2 (dCons (dVar 2) (dCons (dVar 3) (dNil))))) (dCons (dBin oMul (dBin oIx (dVar 0) (dC (.int 1))) (dBin oIx (dVar 1) (dC (.int 1)))) (dNil))))) (sNil))
theorem Q_lesser_of : ∃ F : Op, F = fnOf ["load", "other", "top", "limit"] D_lesser_of := ⟨_, rfl⟩
noncomputable def O_lesser_of : Op := Classical.choose Q_lesser_of
instance is_lesser_of : Is O_lesser_of ["load", "other", "top", "limit"] D_lesser_of := ⟨Classical.choose_spec Q_lesser_of⟩
theorem sc_lesser_of : FnScope ["load", "other", "top", "limit"] ["load", "other"] (defScope (top 30)) := ⟨rfl, rfl, rfl, by decide +kernel, rfl, by decide +kernel, by decide +kernel⟩
theorem b_lesser_of : BindsAll "lesser_of" (top 30) ["load", "other"] := fun _ _ _ _ _ _ us hl => match us, hl with | [_, _], _ => rfl
theorem c_lesser_of (fx : Facts K mg) : Callee P w K mg base 6 "lesser_of" (top 30) ["load", "other"] O_lesser_of := by
  obtain ⟨fd, F⟩ := fx.F_lesser_of
  refine ⟨fx.g_lesser_of, fd, F, ?_⟩
  rw [is_lesser_of.eq]
  refine fn_den F sc_lesser_of fun cdv A outer s H E hr tk => ?_
  have nd := sc_lesser_of.nd
  exact (dss_cons (ds_expr (de_callC (c_require_alike fx) b_require_alike hr (by omega) tk (da_cons (de_var 0) (da_cons (de_var 1) da_nil))))
      (dss_cons (ds_ret (de_callC (c_load_from fx) b_load_from hr (by omega) tk (da_cons (de_lc [("top", 2), ("limit", 3)] (.tup (.cons (.one 2) (.cons (.one 3) .nil))) rfl nd (by decide) (by exact blkB_ok (by kernel_rfl)) (di_seq (de_callC (c_leveled fx) b_leveled hr (by omega) tk (da_cons (de_var 0) (da_cons (de_var 1) da_nil)))) (fun _ _ _ _ _ => (pg_tup rfl (pgs_cons (pg_name nd rfl (by first | exact .inl rfl | exact .inr rfl) (by first | exact .inl rfl | exact .inr rfl)) (pgs_cons (pg_name nd rfl (by first | exact .inl rfl | exact .inr rfl) (by first | exact .inl rfl | exact .inr rfl)) pgs_nil)))) (fun _ _ _ _ _ => dts_nil) (fun _ _ _ _ _ => (de_callB (call_min2 rfl) callD_min2 (by decide +kernel) fx.n_min (da_cons (de_var 2) (da_cons (de_var 3) da_nil))))) (da_cons (de_mul (de_ix (de_var 0) de_int) (de_ix (de_var 1) de_int)) da_nil))))
      dss_nil))
noncomputable def D_no_load : SDen := sSeq (sRet (dTup (dCons (dBin oMul (dTup (dCons (dC (.int 0)) (dNil))) (dVar 0)) (dCons (dC (.int 1)) (dNil))))) (sNil)
theorem Q_no_load : ∃ F : Op, F = fnOf ["size"] D_no_load := ⟨_, rfl⟩
noncomputable def O_no_load : Op := Classical.choose Q_no_load
instance is_no_load : Is O_no_load ["size"] D_no_load := ⟨Classical.choose_spec Q_no_load⟩
theorem sc_no_load : FnScope ["size"] ["size"] (defScope (top 24)) := ⟨rfl, rfl, rfl, by decide +kernel, rfl, by decide +kernel, by decide +kernel⟩
theorem b_no_load : BindsAll "no_load" (top 24) ["size"] := fun _ _ _ _ _ _ us hl => match us, hl with | [_], _ => rfl
theorem c_no_load (fx : Facts K mg) : Callee P w K mg base 1 "no_load" (top 24) ["size"] O_no_load := by
  obtain ⟨fd, F⟩ := fx.F_no_load
  refine ⟨fx.g_no_load, fd, F, ?_⟩
  rw [is_no_load.eq]
  refine fn_den F sc_no_load fun cdv A outer s H E hr tk => ?_
  have nd := sc_no_load.nd
  exact (dss_cons (ds_ret (de_tup (da_cons (de_mul (de_tup (da_cons de_int da_nil)) (de_var 0)) (da_cons de_int da_nil))))
      dss_nil)
noncomputable def D_go_passes : SDen := sSeq (sSet 4 (dLstM (dCons (dFn 1 O_no_load (dCons (dFn 1 O_size_of (dCons (dVar 0) (dNil))) (dNil))) (dNil)))) (sSeq (sFor (dRange1 (dVar 3)) (tName 5) (sSeq (sExpr (dApp (dVar 4) (dFn 2 O_lesser_of (dCons (dVar 2) (dCons (dFn 3 O_come_to (dCons (dVar 0) (dCons (dVar 1) (dCons (dBin oIx (dVar 4) (dUn oNeg (dC (.int 1)))) (dNil))))) (dNil)))))) (sNil))) (sSeq (sRet (dVar 4)) (sNil)))
theorem Q_go_passes : ∃ F : Op, F = fnOf ["web", "start", "allowance", "many", "course", "_"] D_go_passes := ⟨_, rfl⟩
noncomputable def O_go_passes : Op := Classical.choose Q_go_passes
instance is_go_passes : Is O_go_passes ["web", "start", "allowance", "many", "course", "_"] D_go_passes := ⟨Classical.choose_spec Q_go_passes⟩
theorem sc_go_passes : FnScope ["web", "start", "allowance", "many", "course", "_"] ["web", "start", "allowance", "many"] (defScope (top 40)) := ⟨rfl, rfl, rfl, by decide +kernel, rfl, by decide +kernel, by decide +kernel⟩
theorem b_go_passes : BindsAll "go_passes" (top 40) ["web", "start", "allowance", "many"] := fun _ _ _ _ _ _ us hl => match us, hl with | [_, _, _, _], _ => rfl
theorem c_go_passes (fx : Facts K mg) : Callee P w K mg base 8 "go_passes" (top 40) ["web", "start", "allowance", "many"] O_go_passes := by
  obtain ⟨fd, F⟩ := fx.F_go_passes
  refine ⟨fx.g_go_passes, fd, F, ?_⟩
  rw [is_go_passes.eq]
  refine fn_den F sc_go_passes fun cdv A outer s H E hr tk => ?_
  have nd := sc_go_passes.nd
  exact (dss_cons (ds_set 4 nd (de_lstM (da_cons (de_callC (c_no_load fx) b_no_load hr (by omega) tk (da_cons (de_callC (c_size_of fx) b_size_of hr (by omega) tk (da_cons (de_var 0) da_nil)) da_nil)) da_nil)))
      (dss_cons (ds_for (L2.passes_of rfl) rfl (di_range1 fx.n_range (de_var 3)) (dg_name 5 nd) (dss_cons (ds_expr (de_app (de_var 4) (de_callC (c_lesser_of fx) b_lesser_of hr (by omega) tk (da_cons (de_var 2) (da_cons (de_callC (c_come_to fx) b_come_to hr (by omega) tk (da_cons (de_var 0) (da_cons (de_var 1) (da_cons (de_ix (de_var 4) (de_neg de_int)) da_nil)))) da_nil)))))
      dss_nil))
      (dss_cons (ds_ret (de_var 4))
      dss_nil)))
noncomputable def D_require_load : SDen := sSeq (sExpr (dFn 2 O_require (dCons (dFn 2 O_is_load (dCons (dFn 1 O_size_of (dCons (dVar 0) (dNil))) (dCons (dVar 1) (dNil)))) (dCons (dVar 2) (dNil))))) (sNil)
theorem Q_require_load : ∃ F : Op, F = fnOf ["web", "thing", "name"] D_require_load := ⟨_, rfl⟩
noncomputable def O_require_load : Op := Classical.choose Q_require_load
instance is_require_load : Is O_require_load ["web", "thing", "name"] D_require_load := ⟨Classical.choose_spec Q_require_load⟩
theorem sc_require_load : FnScope ["web", "thing", "name"] ["web", "thing", "name"] (defScope (top 18)) := ⟨rfl, rfl, rfl, by decide +kernel, rfl, by decide +kernel, by decide +kernel⟩
theorem b_require_load : BindsAll "require_load" (top 18) ["web", "thing", "name"] := fun _ _ _ _ _ _ us hl => match us, hl with | [_, _, _], _ => rfl
theorem c_require_load (fx : Facts K mg) : Callee P w K mg base 5 "require_load" (top 18) ["web", "thing", "name"] O_require_load := by
  obtain ⟨fd, F⟩ := fx.F_require_load
  refine ⟨fx.g_require_load, fd, F, ?_⟩
  rw [is_require_load.eq]
  refine fn_den F sc_require_load fun cdv A outer s H E hr tk => ?_
  have nd := sc_require_load.nd
  exact (dss_cons (ds_expr (de_callC (c_require fx) b_require hr (by omega) tk (da_cons (de_callC (c_is_load fx) b_is_load hr (by omega) tk (da_cons (de_callC (c_size_of fx) b_size_of hr (by omega) tk (da_cons (de_var 0) da_nil)) (da_cons (de_var 1) da_nil))) (da_cons (de_var 2) da_nil))))
      dss_nil)
noncomputable def D_require_allowance : SDen := sSeq (sExpr (dFn 3 O_require_load (dCons (dVar 0) (dCons (dVar 1) (dCons (dC (.str "start")) (dNil)))))) (sSeq (sExpr (dFn 3 O_require_load (dCons (dVar 0) (dCons (dVar 2) (dCons (dC (.str "allowance")) (dNil)))))) (sNil))
theorem Q_require_allowance : ∃ F : Op, F = fnOf ["web", "start", "allowance"] D_require_allowance := ⟨_, rfl⟩
noncomputable def O_require_allowance : Op := Classical.choose Q_require_allowance
instance is_require_allowance : Is O_require_allowance ["web", "start", "allowance"] D_require_allowance := ⟨Classical.choose_spec Q_require_allowance⟩
theorem sc_require_allowance : FnScope ["web", "start", "allowance"] ["web", "start", "allowance"] (defScope (top 36)) := ⟨rfl, rfl, rfl, by decide +kernel, rfl, by decide +kernel, by decide +kernel⟩
theorem b_require_allowance : BindsAll "require_allowance" (top 36) ["web", "start", "allowance"] := fun _ _ _ _ _ _ us hl => match us, hl with | [_, _, _], _ => rfl
theorem c_require_allowance (fx : Facts K mg) : Callee P w K mg base 6 "require_allowance" (top 36) ["web", "start", "allowance"] O_require_allowance := by
  obtain ⟨fd, F⟩ := fx.F_require_allowance
  refine ⟨fx.g_require_allowance, fd, F, ?_⟩
  rw [is_require_allowance.eq]
  refine fn_den F sc_require_allowance fun cdv A outer s H E hr tk => ?_
  have nd := sc_require_allowance.nd
  exact (dss_cons (ds_expr (de_callC (c_require_load fx) b_require_load hr (by omega) tk (da_cons (de_var 0) (da_cons (de_var 1) (da_cons de_str da_nil)))))
      (dss_cons (ds_expr (de_callC (c_require_load fx) b_require_load hr (by omega) tk (da_cons (de_var 0) (da_cons (de_var 2) (da_cons de_str da_nil)))))
      dss_nil))
noncomputable def D_require_number : SDen := sSeq (sExpr (dFn 2 O_require (dCons (dFn 1 O_is_number (dCons (dVar 0) (dNil))) (dCons (dVar 1) (dNil))))) (sNil)
theorem Q_require_number : ∃ F : Op, F = fnOf ["thing", "name"] D_require_number := ⟨_, rfl⟩
noncomputable def O_require_number : Op := Classical.choose Q_require_number
instance is_require_number : Is O_require_number ["thing", "name"] D_require_number := ⟨Classical.choose_spec Q_require_number⟩
theorem sc_require_number : FnScope ["thing", "name"] ["thing", "name"] (defScope (top 17)) := ⟨rfl, rfl, rfl, by decide +kernel, rfl, by decide +kernel, by decide +kernel⟩
theorem b_require_number : BindsAll "require_number" (top 17) ["thing", "name"] := fun _ _ _ _ _ _ us hl => match us, hl with | [_, _], _ => rfl
theorem c_require_number (fx : Facts K mg) : Callee P w K mg base 4 "require_number" (top 17) ["thing", "name"] O_require_number := by
  obtain ⟨fd, F⟩ := fx.F_require_number
  refine ⟨fx.g_require_number, fd, F, ?_⟩
  rw [is_require_number.eq]
  refine fn_den F sc_require_number fun cdv A outer s H E hr tk => ?_
  have nd := sc_require_number.nd
  exact (dss_cons (ds_expr (de_callC (c_require fx) b_require hr (by omega) tk (da_cons (de_callC (c_is_number fx) b_is_number hr (by omega) tk (da_cons (de_var 0) da_nil)) (da_cons (de_var 1) da_nil))))
      dss_nil)
noncomputable def D_go_course : SDen := sSeq (sExpr (dFn 3 O_require_allowance (dCons (dVar 0) (dCons (dVar 1) (dCons (dVar 2) (dNil)))))) (sSeq (sExpr (dFn 2 O_require_number (dCons (dVar 3) (dCons (dC (.str "many")) (dNil))))) (sSeq (sRet (dCall oTuple1 (dCons (dFn 4 O_go_passes (dCons (dVar 0) (dCons (dVar 1) (dCons (dVar 2) (dCons (dVar 3) (dNil)))))) (dNil)))) (sNil)))
theorem Q_go_course : ∃ F : Op, F = fnOf ["web", "start", "allowance", "many"] D_go_course := ⟨_, rfl⟩
noncomputable def O_go_course : Op := Classical.choose Q_go_course
instance is_go_course : Is O_go_course ["web", "start", "allowance", "many"] D_go_course := ⟨Classical.choose_spec Q_go_course⟩
theorem sc_go_course : FnScope ["web", "start", "allowance", "many"] ["web", "start", "allowance", "many"] (defScope (top 42)) := ⟨rfl, rfl, rfl, by decide +kernel, rfl, by decide +kernel, by decide +kernel⟩
theorem b_go_course : BindsAll "go_course" (top 42) ["web", "start", "allowance", "many"] := fun _ _ _ _ _ _ us hl => match us, hl with | [_, _, _, _], _ => rfl
theorem bk_go_course_many_allowance_start_web : BindsKw "go_course" (top 42) ["web", "start", "allowance", "many"] ["many", "allowance", "start", "web"] [3, 2, 1, 0] := fun _ _ _ _ _ _ us hl => match us, hl with | [_, _, _, _], _ => rfl
theorem c_go_course (fx : Facts K mg) : Callee P w K mg base 9 "go_course" (top 42) ["web", "start", "allowance", "many"] O_go_course := by
  obtain ⟨fd, F⟩ := fx.F_go_course
  refine ⟨fx.g_go_course, fd, F, ?_⟩
  rw [is_go_course.eq]
  refine fn_den F sc_go_course fun cdv A outer s H E hr tk => ?_
  have nd := sc_go_course.nd
  exact (dss_cons (ds_expr (de_callC (c_require_allowance fx) b_require_allowance hr (by omega) tk (da_cons (de_var 0) (da_cons (de_var 1) (da_cons (de_var 2) da_nil)))))
      (dss_cons (ds_expr (de_callC (c_require_number fx) b_require_number hr (by omega) tk (da_cons (de_var 3) (da_cons de_str da_nil))))
      (dss_cons (ds_ret (de_callTy call_tuple_of callD_tuple1 (by decide +kernel) fx.n_tuple (da_cons (de_callC (c_go_passes fx) b_go_passes hr (by omega) tk (da_cons (de_var 0) (da_cons (de_var 1) (da_cons (de_var 2) (da_cons (de_var 3) da_nil))))) da_nil)))
      dss_nil)))
noncomputable def D_are_loads : SDen := sSeq (sRet (dAnd (dIsi "tuple" (dVar 1)) (dAnd (dBin oGt (dCall oLen (dCons (dVar 1) (dNil))) (dC (.int 0))) (dCall oAll (dCons (dLc [2] (dItems (dVar 1)) (.one 2) (dYes) (dFn 2 O_is_load (dCons (dVar 0) (dCons (dVar 2) (dNil))))) (dNil)))))) (sNil)
theorem Q_are_loads : ∃ F : Op, F = fnOf ["size", "thing", "load"] D_are_loads := ⟨_, rfl⟩
noncomputable def O_are_loads : Op := Classical.choose Q_are_loads
instance is_are_loads : Is O_are_loads ["size", "thing", "load"] D_are_loads := ⟨Classical.choose_spec Q_are_loads⟩
theorem sc_are_loads : FnScope ["size", "thing", "load"] ["size", "thing"] (defScope (top 44)) := ⟨rfl, rfl, rfl, by decide +kernel, rfl, by decide +kernel, by decide +kernel⟩
theorem b_are_loads : BindsAll "are_loads" (top 44) ["size", "thing"] := fun _ _ _ _ _ _ us hl => match us, hl with | [_, _], _ => rfl
theorem c_are_loads (fx : Facts K mg) : Callee P w K mg base 5 "are_loads" (top 44) ["size", "thing"] O_are_loads := by
  obtain ⟨fd, F⟩ := fx.F_are_loads
  refine ⟨fx.g_are_loads, fd, F, ?_⟩
  rw [is_are_loads.eq]
  refine fn_den F sc_are_loads fun cdv A outer s H E hr tk => ?_
  have nd := sc_are_loads.nd
  exact (dss_cons (ds_ret (de_and (de_isi (de_var 1) fx.n_isinstance fx.n_tuple (by decide +kernel) (by decide)) (de_and (de_gt (de_len fx.n_len (da_cons (de_var 1) da_nil)) de_int) (de_one (de_callB (cr_all rfl) callD_all (by decide +kernel) fx.n_all (da_cons (de_lc [("load", 2)] (.one 2) rfl nd (by decide) (by exact blkB_ok (by kernel_rfl)) (di_seq (de_var 1)) (fun _ _ _ _ _ => (pg_name nd rfl (by first | exact .inl rfl | exact .inr rfl) (by first | exact .inl rfl | exact .inr rfl))) (fun _ _ _ _ _ => dts_nil) (fun _ _ _ _ _ => (de_callC (c_is_load fx) b_is_load hr (by omega) takes0 (da_cons (de_var 0) (da_cons (de_var 2) da_nil))))) da_nil))))))
      dss_nil)
noncomputable def D_taken : SDen := sSeq (sExpr (dFn 2 O_require (dCons (dAnd (dFn 2 O_is_load (dCons (dCall oLen (dCons (dBin oIx (dVar 0) (dC (.int 0))) (dNil))) (dCons (dVar 1) (dNil)))) (dCall oAll (dCons (dLc [2, 3] (dItems (dFn 2 O_leveled (dCons (dVar 0) (dCons (dVar 1) (dNil))))) (.tup (.cons (.one 2) (.cons (.one 3) .nil))) (dYes) (dBin oGe (dVar 2) (dVar 3))) (dNil)))) (dCons (dC (.str "other")) (dNil))))) (sSeq (sRet (dFn 2 O_load_from (dCons (dLc [2, 3] (dItems (dFn 2 O_leveled (dCons (dVar 0) (dCons (dVar 1) (dNil))))) (.tup (.cons (.one 2) (.cons (.one 3) .nil))) (dYes) (dBin oSub (dVar 2) (dVar 3))) (dCons (dBin oMul (dBin oIx (dVar 0) (dC (.int 1))) (dBin oIx (dVar 1) (dC (.int 1)))) (dNil))))) (sNil))
theorem Q_taken : ∃ F : Op, F = fnOf ["load", "other", "top", "less"] D_taken := ⟨_, rfl⟩
noncomputable def O_taken : Op := Classical.choose Q_taken
instance is_taken : Is O_taken ["load", "other", "top", "less"] D_taken := ⟨Classical.choose_spec Q_taken⟩
theorem sc_taken : FnScope ["load", "other", "top", "less"] ["load", "other"] (defScope (top 26)) := ⟨rfl, rfl, rfl, by decide +kernel, rfl, by decide +kernel, by decide +kernel⟩
theorem b_taken : BindsAll "taken" (top 26) ["load", "other"] := fun _ _ _ _ _ _ us hl => match us, hl with | [_, _], _ => rfl
theorem c_taken (fx : Facts K mg) : Callee P w K mg base 5 "taken" (top 26) ["load", "other"] O_taken := by
  obtain ⟨fd, F⟩ := fx.F_taken
  refine ⟨fx.g_taken, fd, F, ?_⟩
  rw [is_taken.eq]
  refine fn_den F sc_taken fun cdv A outer s H E hr tk => ?_
  have nd := sc_taken.nd
  exact (dss_cons (ds_expr (de_callC (c_require fx) b_require hr (by omega) tk (da_cons (de_and (de_callC (c_is_load fx) b_is_load hr (by omega) tk (da_cons (de_len fx.n_len (da_cons (de_ix (de_var 0) de_int) da_nil)) (da_cons (de_var 1) da_nil))) (de_one (de_callB (cr_all rfl) callD_all (by decide +kernel) fx.n_all (da_cons (de_lc [("top", 2), ("less", 3)] (.tup (.cons (.one 2) (.cons (.one 3) .nil))) rfl nd (by decide) (by exact blkB_ok (by kernel_rfl)) (di_seq (de_callC (c_leveled fx) b_leveled hr (by omega) tk (da_cons (de_var 0) (da_cons (de_var 1) da_nil)))) (fun _ _ _ _ _ => (pg_tup rfl (pgs_cons (pg_name nd rfl (by first | exact .inl rfl | exact .inr rfl) (by first | exact .inl rfl | exact .inr rfl)) (pgs_cons (pg_name nd rfl (by first | exact .inl rfl | exact .inr rfl) (by first | exact .inl rfl | exact .inr rfl)) pgs_nil)))) (fun _ _ _ _ _ => dts_nil) (fun _ _ _ _ _ => (de_ge (de_var 2) (de_var 3)))) da_nil)))) (da_cons de_str da_nil))))
      (dss_cons (ds_ret (de_callC (c_load_from fx) b_load_from hr (by omega) tk (da_cons (de_lc [("top", 2), ("less", 3)] (.tup (.cons (.one 2) (.cons (.one 3) .nil))) rfl nd (by decide) (by exact blkB_ok (by kernel_rfl)) (di_seq (de_callC (c_leveled fx) b_leveled hr (by omega) tk (da_cons (de_var 0) (da_cons (de_var 1) da_nil)))) (fun _ _ _ _ _ => (pg_tup rfl (pgs_cons (pg_name nd rfl (by first | exact .inl rfl | exact .inr rfl) (by first | exact .inl rfl | exact .inr rfl)) (pgs_cons (pg_name nd rfl (by first | exact .inl rfl | exact .inr rfl) (by first | exact .inl rfl | exact .inr rfl)) pgs_nil)))) (fun _ _ _ _ _ => dts_nil) (fun _ _ _ _ _ => (de_sub (de_var 2) (de_var 3)))) (da_cons (de_mul (de_ix (de_var 0) de_int) (de_ix (de_var 1) de_int)) da_nil))))
      dss_nil))
noncomputable def D_goes_of : SDen := sSeq (sRet (dLc [1] (dRange1 (dBin oSub (dCall oLen (dCons (dVar 0) (dNil))) (dC (.int 1)))) (.one 1) (dYes) (dFn 2 O_taken (dCons (dBin oIx (dVar 0) (dBin oPlus (dVar 1) (dC (.int 1)))) (dCons (dBin oIx (dVar 0) (dVar 1)) (dNil)))))) (sNil)
theorem Q_goes_of : ∃ F : Op, F = fnOf ["course", "t"] D_goes_of := ⟨_, rfl⟩
noncomputable def O_goes_of : Op := Classical.choose Q_goes_of
instance is_goes_of : Is O_goes_of ["course", "t"] D_goes_of := ⟨Classical.choose_spec Q_goes_of⟩
theorem sc_goes_of : FnScope ["course", "t"] ["course"] (defScope (top 46)) := ⟨rfl, rfl, rfl, by decide +kernel, rfl, by decide +kernel, by decide +kernel⟩
theorem b_goes_of : BindsAll "goes_of" (top 46) ["course"] := fun _ _ _ _ _ _ us hl => match us, hl with | [_], _ => rfl
theorem c_goes_of (fx : Facts K mg) : Callee P w K mg base 6 "goes_of" (top 46) ["course"] O_goes_of := by
  obtain ⟨fd, F⟩ := fx.F_goes_of
  refine ⟨fx.g_goes_of, fd, F, ?_⟩
  rw [is_goes_of.eq]
  refine fn_den F sc_goes_of fun cdv A outer s H E hr tk => ?_
  have nd := sc_goes_of.nd
  exact (dss_cons (ds_ret (de_lc [("t", 1)] (.one 1) rfl nd (by decide) (by exact blkB_ok (by kernel_rfl)) (di_range1 fx.n_range (de_sub (de_len fx.n_len (da_cons (de_var 0) da_nil)) de_int)) (fun _ _ _ _ _ => (pg_name nd rfl (by first | exact .inl rfl | exact .inr rfl) (by first | exact .inl rfl | exact .inr rfl))) (fun _ _ _ _ _ => dts_nil) (fun _ _ _ _ _ => (de_callC (c_taken fx) b_taken hr (by omega) takes0 (da_cons (de_ix (de_var 0) (de_add (de_var 1) de_int)) (da_cons (de_ix (de_var 0) (de_var 1)) da_nil))))))
      dss_nil)
noncomputable def D_places_above : SDen := sSeq (sRet (dCall oTuple1 (dCons (dLc [2, 3, 4] (dEnum (dFn 2 O_leveled (dCons (dVar 0) (dCons (dVar 1) (dNil))))) (.tup (.cons (.one 2) (.cons (.tup (.cons (.one 3) (.cons (.one 4) .nil))) .nil))) (dBin oGt (dVar 3) (dVar 4)) (dVar 2)) (dNil)))) (sNil)
theorem Q_places_above : ∃ F : Op, F = fnOf ["load", "other", "i", "top", "limit"] D_places_above := ⟨_, rfl⟩
noncomputable def O_places_above : Op := Classical.choose Q_places_above
instance is_places_above : Is O_places_above ["load", "other", "i", "top", "limit"] D_places_above := ⟨Classical.choose_spec Q_places_above⟩
theorem sc_places_above : FnScope ["load", "other", "i", "top", "limit"] ["load", "other"] (defScope (top 28)) := ⟨rfl, rfl, rfl, by decide +kernel, rfl, by decide +kernel, by decide +kernel⟩
theorem b_places_above : BindsAll "places_above" (top 28) ["load", "other"] := fun _ _ _ _ _ _ us hl => match us, hl with | [_, _], _ => rfl
theorem c_places_above (fx : Facts K mg) : Callee P w K mg base 2 "places_above" (top 28) ["load", "other"] O_places_above := by
  obtain ⟨fd, F⟩ := fx.F_places_above
  refine ⟨fx.g_places_above, fd, F, ?_⟩
  rw [is_places_above.eq]
  refine fn_den F sc_places_above fun cdv A outer s H E hr tk => ?_
  have nd := sc_places_above.nd
  exact (dss_cons (ds_ret (de_callTy call_tuple_of callD_tuple1 (by decide +kernel) fx.n_tuple (da_cons (de_lc [("i", 2), ("top", 3), ("limit", 4)] (.tup (.cons (.one 2) (.cons (.tup (.cons (.one 3) (.cons (.one 4) .nil))) .nil))) rfl nd (by decide) (by exact blkB_ok (by kernel_rfl)) (di_enum fx.n_enumerate (de_callC (c_leveled fx) b_leveled hr (by omega) tk (da_cons (de_var 0) (da_cons (de_var 1) da_nil)))) (fun _ _ _ _ _ => (pg_tup rfl (pgs_cons (pg_name nd rfl (by first | exact .inl rfl | exact .inr rfl) (by first | exact .inl rfl | exact .inr rfl)) (pgs_cons (pg_tup rfl (pgs_cons (pg_name nd rfl (by first | exact .inl rfl | exact .inr rfl) (by first | exact .inl rfl | exact .inr rfl)) (pgs_cons (pg_name nd rfl (by first | exact .inl rfl | exact .inr rfl) (by first | exact .inl rfl | exact .inr rfl)) pgs_nil))) pgs_nil)))) (fun _ _ _ _ _ => (dts_one (dt_gt (de_var 3) (de_var 4)))) (fun _ _ _ _ _ => (de_var 2))) da_nil)))
      dss_nil)
noncomputable def D_is_within : SDen := sSeq (sExpr (dFn 2 O_require_alike (dCons (dVar 0) (dCons (dVar 1) (dNil))))) (sSeq (sRet (dNotT (dFn 2 O_places_above (dCons (dVar 0) (dCons (dVar 1) (dNil)))))) (sNil))
theorem Q_is_within : ∃ F : Op, F = fnOf ["load", "other"] D_is_within := ⟨_, rfl⟩
noncomputable def O_is_within : Op := Classical.choose Q_is_within
instance is_is_within : Is O_is_within ["load", "other"] D_is_within := ⟨Classical.choose_spec Q_is_within⟩
theorem sc_is_within : FnScope ["load", "other"] ["load", "other"] (defScope (top 29)) := ⟨rfl, rfl, rfl, by decide +kernel, rfl, by decide +kernel, by decide +kernel⟩
theorem b_is_within : BindsAll "is_within" (top 29) ["load", "other"] := fun _ _ _ _ _ _ us hl => match us, hl with | [_, _], _ => rfl
theorem c_is_within (fx : Facts K mg) : Callee P w K mg base 6 "is_within" (top 29) ["load", "other"] O_is_within := by
  obtain ⟨fd, F⟩ := fx.F_is_within
  refine ⟨fx.g_is_within, fd, F, ?_⟩
  rw [is_is_within.eq]
  refine fn_den F sc_is_within fun cdv A outer s H E hr tk => ?_
  have nd := sc_is_within.nd
  exact (dss_cons (ds_expr (de_callC (c_require_alike fx) b_require_alike hr (by omega) tk (da_cons (de_var 0) (da_cons (de_var 1) da_nil))))
      (dss_cons (ds_ret (de_notT (de_callC (c_places_above fx) b_places_above hr (by omega) tk (da_cons (de_var 0) (da_cons (de_var 1) da_nil)))))
      dss_nil))
noncomputable def D_is_growing : SDen := sSeq (sIf (dBin oNe (dBin oIx (dVar 0) (dC (.int 0))) (dFn 1 O_no_load (dCons (dCall oLen (dCons (dBin oIx (dBin oIx (dVar 0) (dC (.int 0))) (dC (.int 0))) (dNil))) (dNil)))) (sSeq (sRet (dC (.bl false))) (sNil)) (sNil)) (sSeq (sRet (dCall oAll (dCons (dLc [1] (dRange1 (dBin oSub (dCall oLen (dCons (dVar 0) (dNil))) (dC (.int 1)))) (.one 1) (dYes) (dFn 2 O_is_within (dCons (dBin oIx (dVar 0) (dVar 1)) (dCons (dBin oIx (dVar 0) (dBin oPlus (dVar 1) (dC (.int 1)))) (dNil))))) (dNil)))) (sNil))
theorem Q_is_growing : ∃ F : Op, F = fnOf ["thing", "t"] D_is_growing := ⟨_, rfl⟩
noncomputable def O_is_growing : Op := Classical.choose Q_is_growing
instance is_is_growing : Is O_is_growing ["thing", "t"] D_is_growing := ⟨Classical.choose_spec Q_is_growing⟩
theorem sc_is_growing : FnScope ["thing", "t"] ["thing"] (defScope (top 45)) := ⟨rfl, rfl, rfl, by decide +kernel, rfl, by decide +kernel, by decide +kernel⟩
theorem b_is_growing : BindsAll "is_growing" (top 45) ["thing"] := fun _ _ _ _ _ _ us hl => match us, hl with | [_], _ => rfl
theorem c_is_growing (fx : Facts K mg) : Callee P w K mg base 7 "is_growing" (top 45) ["thing"] O_is_growing := by
  obtain ⟨fd, F⟩ := fx.F_is_growing
  refine ⟨fx.g_is_growing, fd, F, ?_⟩
  rw [is_is_growing.eq]
  refine fn_den F sc_is_growing fun cdv A outer s H E hr tk => ?_
  have nd := sc_is_growing.nd
  exact (dss_cons (ds_if (dt_ne hr.units (de_ix (de_var 0) de_int) (de_callC (c_no_load fx) b_no_load hr (by omega) tk (da_cons (de_len fx.n_len (da_cons (de_ix (de_ix (de_var 0) de_int) de_int) da_nil)) da_nil))) (dss_cons (ds_ret de_bl)
      dss_nil) dss_nil)
      (dss_cons (ds_ret (de_callB (cr_all rfl) callD_all (by decide +kernel) fx.n_all (da_cons (de_lc [("t", 1)] (.one 1) rfl nd (by decide) (by exact blkB_ok (by kernel_rfl)) (di_range1 fx.n_range (de_sub (de_len fx.n_len (da_cons (de_var 0) da_nil)) de_int)) (fun _ _ _ _ _ => (pg_name nd rfl (by first | exact .inl rfl | exact .inr rfl) (by first | exact .inl rfl | exact .inr rfl))) (fun _ _ _ _ _ => dts_nil) (fun _ _ _ _ _ => (de_callC (c_is_within fx) b_is_within hr (by omega) takes0 (da_cons (de_ix (de_var 0) (de_var 1)) (da_cons (de_ix (de_var 0) (de_add (de_var 1) de_int)) da_nil))))) da_nil)))
      dss_nil))
noncomputable def D_stands_of : SDen := sSeq (sRet (dCut (dBin oPlus (dLst (dCons (dVar 1) (dNil))) (dLc [3] (dItems (dVar 2)) (.one 3) (dYes) (dFn 2 O_step_of (dCons (dVar 0) (dCons (dVar 3) (dNil)))))) none (some (dCall oLen (dCons (dVar 2) (dNil)))))) (sNil)
theorem Q_stands_of : ∃ F : Op, F = fnOf ["web", "start", "goes", "load"] D_stands_of := ⟨_, rfl⟩
noncomputable def O_stands_of : Op := Classical.choose Q_stands_of
instance is_stands_of : Is O_stands_of ["web", "start", "goes", "load"] D_stands_of := ⟨Classical.choose_spec Q_stands_of⟩
theorem sc_stands_of : FnScope ["web", "start", "goes", "load"] ["web", "start", "goes"] (defScope (top 47)) := ⟨rfl, rfl, rfl, by decide +kernel, rfl, by decide +kernel, by decide +kernel⟩
theorem b_stands_of : BindsAll "stands_of" (top 47) ["web", "start", "goes"] := fun _ _ _ _ _ _ us hl => match us, hl with | [_, _, _], _ => rfl
theorem c_stands_of (fx : Facts K mg) : Callee P w K mg base 4 "stands_of" (top 47) ["web", "start", "goes"] O_stands_of := by
  obtain ⟨fd, F⟩ := fx.F_stands_of
  refine ⟨fx.g_stands_of, fd, F, ?_⟩
  rw [is_stands_of.eq]
  refine fn_den F sc_stands_of fun cdv A outer s H E hr tk => ?_
  have nd := sc_stands_of.nd
  exact (dss_cons (ds_ret (de_cut (de_add (de_lst (da_cons (de_var 1) da_nil)) (de_lc [("load", 3)] (.one 3) rfl nd (by decide) (by exact blkB_ok (by kernel_rfl)) (di_seq (de_var 2)) (fun _ _ _ _ _ => (pg_name nd rfl (by first | exact .inl rfl | exact .inr rfl) (by first | exact .inl rfl | exact .inr rfl))) (fun _ _ _ _ _ => dts_nil) (fun _ _ _ _ _ => (de_callC (c_step_of fx) b_step_of hr (by omega) takes0 (da_cons (de_var 0) (da_cons (de_var 3) da_nil)))))) trivial (de_len fx.n_len (da_cons (de_var 2) da_nil))))
      dss_nil)
noncomputable def D_is_course_of : SDen := sSeq (sIf (dNot (dAnd (dTru (dFn 2 O_are_loads (dCons (dFn 1 O_size_of (dCons (dVar 0) (dNil))) (dCons (dVar 2) (dNil))))) (dTru (dFn 1 O_is_growing (dCons (dVar 2) (dNil)))))) (sSeq (sRet (dC (.bl false))) (sNil)) (sNil)) (sSeq (sSet 3 (dFn 1 O_goes_of (dCons (dVar 2) (dNil)))) (sSeq (sSet 4 (dFn 3 O_stands_of (dCons (dVar 0) (dCons (dVar 1) (dCons (dVar 3) (dNil)))))) (sSeq (sRet (dCall oAll (dCons (dLc [5] (dRange1 (dCall oLen (dCons (dVar 3) (dNil)))) (.one 5) (dYes) (dFn 2 O_is_within (dCons (dBin oIx (dVar 3) (dVar 5)) (dCons (dBin oIx (dVar 4) (dVar 5)) (dNil))))) (dNil)))) (sNil))))
theorem Q_is_course_of : ∃ F : Op, F = fnOf ["web", "start", "thing", "goes", "stands", "t"] D_is_course_of := ⟨_, rfl⟩
noncomputable def O_is_course_of : Op := Classical.choose Q_is_course_of
instance is_is_course_of : Is O_is_course_of ["web", "start", "thing", "goes", "stands", "t"] D_is_course_of := ⟨Classical.choose_spec Q_is_course_of⟩
theorem sc_is_course_of : FnScope ["web", "start", "thing", "goes", "stands", "t"] ["web", "start", "thing"] (defScope (top 48)) := ⟨rfl, rfl, rfl, by decide +kernel, rfl, by decide +kernel, by decide +kernel⟩
theorem b_is_course_of : BindsAll "is_course_of" (top 48) ["web", "start", "thing"] := fun _ _ _ _ _ _ us hl => match us, hl with | [_, _, _], _ => rfl
theorem c_is_course_of (fx : Facts K mg) : Callee P w K mg base 8 "is_course_of" (top 48) ["web", "start", "thing"] O_is_course_of := by
  obtain ⟨fd, F⟩ := fx.F_is_course_of
  refine ⟨fx.g_is_course_of, fd, F, ?_⟩
  rw [is_is_course_of.eq]
  refine fn_den F sc_is_course_of fun cdv A outer s H E hr tk => ?_
  have nd := sc_is_course_of.nd
  exact (dss_cons (ds_if (dt_not (DW.dt (dw_and (dt_truth (de_callC (c_are_loads fx) b_are_loads hr (by omega) tk (da_cons (de_callC (c_size_of fx) b_size_of hr (by omega) tk (da_cons (de_var 0) da_nil)) (da_cons (de_var 2) da_nil)))) (dw_and1 (dt_truth (de_callC (c_is_growing fx) b_is_growing hr (by omega) tk (da_cons (de_var 2) da_nil))))))) (dss_cons (ds_ret de_bl)
      dss_nil) dss_nil)
      (dss_cons (ds_set 3 nd (de_callC (c_goes_of fx) b_goes_of hr (by omega) tk (da_cons (de_var 2) da_nil)))
      (dss_cons (ds_set 4 nd (de_callC (c_stands_of fx) b_stands_of hr (by omega) tk (da_cons (de_var 0) (da_cons (de_var 1) (da_cons (de_var 3) da_nil)))))
      (dss_cons (ds_ret (de_callB (cr_all rfl) callD_all (by decide +kernel) fx.n_all (da_cons (de_lc [("t", 5)] (.one 5) rfl nd (by decide) (by exact blkB_ok (by kernel_rfl)) (di_range1 fx.n_range (de_len fx.n_len (da_cons (de_var 3) da_nil))) (fun _ _ _ _ _ => (pg_name nd rfl (by first | exact .inl rfl | exact .inr rfl) (by first | exact .inl rfl | exact .inr rfl))) (fun _ _ _ _ _ => dts_nil) (fun _ _ _ _ _ => (de_callC (c_is_within fx) b_is_within hr (by omega) takes0 (da_cons (de_ix (de_var 3) (de_var 5)) (da_cons (de_ix (de_var 4) (de_var 5)) da_nil))))) da_nil)))
      dss_nil))))
noncomputable def D_is_course : SDen := sSeq (sExpr (dFn 3 O_require_load (dCons (dVar 0) (dCons (dVar 1) (dCons (dC (.str "start")) (dNil)))))) (sSeq (sRet (dFn 3 O_is_course_of (dCons (dVar 0) (dCons (dVar 1) (dCons (dVar 2) (dNil)))))) (sNil))
theorem Q_is_course : ∃ F : Op, F = fnOf ["web", "start", "thing"] D_is_course := ⟨_, rfl⟩
noncomputable def O_is_course : Op := Classical.choose Q_is_course
instance is_is_course : Is O_is_course ["web", "start", "thing"] D_is_course := ⟨Classical.choose_spec Q_is_course⟩
theorem sc_is_course : FnScope ["web", "start", "thing"] ["web", "start", "thing"] (defScope (top 50)) := ⟨rfl, rfl, rfl, by decide +kernel, rfl, by decide +kernel, by decide +kernel⟩
theorem b_is_course : BindsAll "is_course" (top 50) ["web", "start", "thing"] := fun _ _ _ _ _ _ us hl => match us, hl with | [_, _, _], _ => rfl
theorem bk_is_course_thing_start_web : BindsKw "is_course" (top 50) ["web", "start", "thing"] ["thing", "start", "web"] [2, 1, 0] := fun _ _ _ _ _ _ us hl => match us, hl with | [_, _, _], _ => rfl
theorem c_is_course (fx : Facts K mg) : Callee P w K mg base 9 "is_course" (top 50) ["web", "start", "thing"] O_is_course := by
  obtain ⟨fd, F⟩ := fx.F_is_course
  refine ⟨fx.g_is_course, fd, F, ?_⟩
  rw [is_is_course.eq]
  refine fn_den F sc_is_course fun cdv A outer s H E hr tk => ?_
  have nd := sc_is_course.nd
  exact (dss_cons (ds_expr (de_callC (c_require_load fx) b_require_load hr (by omega) tk (da_cons (de_var 0) (da_cons (de_var 1) (da_cons de_str da_nil)))))
      (dss_cons (ds_ret (de_callC (c_is_course_of fx) b_is_course_of hr (by omega) tk (da_cons (de_var 0) (da_cons (de_var 1) (da_cons (de_var 2) da_nil)))))
      dss_nil))
noncomputable def D_require_course : SDen := sSeq (sExpr (dFn 3 O_require_load (dCons (dVar 0) (dCons (dVar 1) (dCons (dC (.str "start")) (dNil)))))) (sSeq (sExpr (dFn 2 O_require (dCons (dFn 3 O_is_course_of (dCons (dVar 0) (dCons (dVar 1) (dCons (dVar 2) (dNil))))) (dCons (dC (.str "course")) (dNil))))) (sNil))
theorem Q_require_course : ∃ F : Op, F = fnOf ["web", "start", "course"] D_require_course := ⟨_, rfl⟩
noncomputable def O_require_course : Op := Classical.choose Q_require_course
instance is_require_course : Is O_require_course ["web", "start", "course"] D_require_course := ⟨Classical.choose_spec Q_require_course⟩
theorem sc_require_course : FnScope ["web", "start", "course"] ["web", "start", "course"] (defScope (top 49)) := ⟨rfl, rfl, rfl, by decide +kernel, rfl, by decide +kernel, by decide +kernel⟩
theorem b_require_course : BindsAll "require_course" (top 49) ["web", "start", "course"] := fun _ _ _ _ _ _ us hl => match us, hl with | [_, _, _], _ => rfl
theorem c_require_course (fx : Facts K mg) : Callee P w K mg base 9 "require_course" (top 49) ["web", "start", "course"] O_require_course := by
  obtain ⟨fd, F⟩ := fx.F_require_course
  refine ⟨fx.g_require_course, fd, F, ?_⟩
  rw [is_require_course.eq]
  refine fn_den F sc_require_course fun cdv A outer s H E hr tk => ?_
  have nd := sc_require_course.nd
  exact (dss_cons (ds_expr (de_callC (c_require_load fx) b_require_load hr (by omega) tk (da_cons (de_var 0) (da_cons (de_var 1) (da_cons de_str da_nil)))))
      (dss_cons (ds_expr (de_callC (c_require fx) b_require hr (by omega) tk (da_cons (de_callC (c_is_course_of fx) b_is_course_of hr (by omega) tk (da_cons (de_var 0) (da_cons (de_var 1) (da_cons (de_var 2) da_nil)))) (da_cons de_str da_nil))))
      dss_nil))
noncomputable def D_kept_course : SDen := sSeq (sExpr (dFn 3 O_require_course (dCons (dVar 0) (dCons (dVar 1) (dCons (dVar 2) (dNil)))))) (sSeq (sRet (dCall oTuple1 (dCons (dLc [3] (dRange1 (dBin oSub (dCall oLen (dCons (dVar 2) (dNil))) (dC (.int 1)))) (.one 3) (dYes) (dFn 2 O_taken (dCons (dFn 3 O_come_to (dCons (dVar 0) (dCons (dVar 1) (dCons (dBin oIx (dVar 2) (dVar 3)) (dNil))))) (dCons (dBin oIx (dVar 2) (dBin oPlus (dVar 3) (dC (.int 1)))) (dNil))))) (dNil)))) (sNil))
theorem Q_kept_course : ∃ F : Op, F = fnOf ["web", "start", "course", "t"] D_kept_course := ⟨_, rfl⟩
noncomputable def O_kept_course : Op := Classical.choose Q_kept_course
instance is_kept_course : Is O_kept_course ["web", "start", "course", "t"] D_kept_course := ⟨Classical.choose_spec Q_kept_course⟩
theorem sc_kept_course : FnScope ["web", "start", "course", "t"] ["web", "start", "course"] (defScope (top 52)) := ⟨rfl, rfl, rfl, by decide +kernel, rfl, by decide +kernel, by decide +kernel⟩
theorem b_kept_course : BindsAll "kept_course" (top 52) ["web", "start", "course"] := fun _ _ _ _ _ _ us hl => match us, hl with | [_, _, _], _ => rfl
theorem bk_kept_course_course_start_web : BindsKw "kept_course" (top 52) ["web", "start", "course"] ["course", "start", "web"] [2, 1, 0] := fun _ _ _ _ _ _ us hl => match us, hl with | [_, _, _], _ => rfl
theorem c_kept_course (fx : Facts K mg) : Callee P w K mg base 10 "kept_course" (top 52) ["web", "start", "course"] O_kept_course := by
  obtain ⟨fd, F⟩ := fx.F_kept_course
  refine ⟨fx.g_kept_course, fd, F, ?_⟩
  rw [is_kept_course.eq]
  refine fn_den F sc_kept_course fun cdv A outer s H E hr tk => ?_
  have nd := sc_kept_course.nd
  exact (dss_cons (ds_expr (de_callC (c_require_course fx) b_require_course hr (by omega) tk (da_cons (de_var 0) (da_cons (de_var 1) (da_cons (de_var 2) da_nil)))))
      (dss_cons (ds_ret (de_callTy call_tuple_of callD_tuple1 (by decide +kernel) fx.n_tuple (da_cons (de_lc [("t", 3)] (.one 3) rfl nd (by decide) (by exact blkB_ok (by kernel_rfl)) (di_range1 fx.n_range (de_sub (de_len fx.n_len (da_cons (de_var 2) da_nil)) de_int)) (fun _ _ _ _ _ => (pg_name nd rfl (by first | exact .inl rfl | exact .inr rfl) (by first | exact .inl rfl | exact .inr rfl))) (fun _ _ _ _ _ => dts_nil) (fun _ _ _ _ _ => (de_callC (c_taken fx) b_taken hr (by omega) takes0 (da_cons (de_callC (c_come_to fx) b_come_to hr (by omega) takes0 (da_cons (de_var 0) (da_cons (de_var 1) (da_cons (de_ix (de_var 2) (de_var 3)) da_nil)))) (da_cons (de_ix (de_var 2) (de_add (de_var 3) de_int)) da_nil))))) da_nil)))
      dss_nil))
noncomputable def D_standing_course : SDen := sSeq (sExpr (dFn 3 O_require_course (dCons (dVar 0) (dCons (dVar 1) (dCons (dVar 2) (dNil)))))) (sSeq (sRet (dCall oTuple1 (dCons (dFn 3 O_stands_of (dCons (dVar 0) (dCons (dVar 1) (dCons (dFn 1 O_goes_of (dCons (dVar 2) (dNil))) (dNil))))) (dNil)))) (sNil))
theorem Q_standing_course : ∃ F : Op, F = fnOf ["web", "start", "course"] D_standing_course := ⟨_, rfl⟩
noncomputable def O_standing_course : Op := Classical.choose Q_standing_course
instance is_standing_course : Is O_standing_course ["web", "start", "course"] D_standing_course := ⟨Classical.choose_spec Q_standing_course⟩
theorem sc_standing_course : FnScope ["web", "start", "course"] ["web", "start", "course"] (defScope (top 51)) := ⟨rfl, rfl, rfl, by decide +kernel, rfl, by decide +kernel, by decide +kernel⟩
theorem b_standing_course : BindsAll "standing_course" (top 51) ["web", "start", "course"] := fun _ _ _ _ _ _ us hl => match us, hl with | [_, _, _], _ => rfl
theorem bk_standing_course_course_start_web : BindsKw "standing_course" (top 51) ["web", "start", "course"] ["course", "start", "web"] [2, 1, 0] := fun _ _ _ _ _ _ us hl => match us, hl with | [_, _, _], _ => rfl
theorem c_standing_course (fx : Facts K mg) : Callee P w K mg base 10 "standing_course" (top 51) ["web", "start", "course"] O_standing_course := by
  obtain ⟨fd, F⟩ := fx.F_standing_course
  refine ⟨fx.g_standing_course, fd, F, ?_⟩
  rw [is_standing_course.eq]
  refine fn_den F sc_standing_course fun cdv A outer s H E hr tk => ?_
  have nd := sc_standing_course.nd
  exact (dss_cons (ds_expr (de_callC (c_require_course fx) b_require_course hr (by omega) tk (da_cons (de_var 0) (da_cons (de_var 1) (da_cons (de_var 2) da_nil)))))
      (dss_cons (ds_ret (de_callTy call_tuple_of callD_tuple1 (by decide +kernel) fx.n_tuple (da_cons (de_callC (c_stands_of fx) b_stands_of hr (by omega) tk (da_cons (de_var 0) (da_cons (de_var 1) (da_cons (de_callC (c_goes_of fx) b_goes_of hr (by omega) tk (da_cons (de_var 2) da_nil)) da_nil)))) da_nil)))
      dss_nil))
noncomputable def D_require_rooms : SDen := sSeq (sExpr (dFn 3 O_require_load (dCons (dVar 0) (dCons (dVar 1) (dCons (dC (.str "start")) (dNil)))))) (sSeq (sExpr (dFn 3 O_require_load (dCons (dVar 0) (dCons (dVar 2) (dCons (dC (.str "rooms")) (dNil)))))) (sNil))
theorem Q_require_rooms : ∃ F : Op, F = fnOf ["web", "start", "rooms"] D_require_rooms := ⟨_, rfl⟩
noncomputable def O_require_rooms : Op := Classical.choose Q_require_rooms
instance is_require_rooms : Is O_require_rooms ["web", "start", "rooms"] D_require_rooms := ⟨Classical.choose_spec Q_require_rooms⟩
theorem sc_require_rooms : FnScope ["web", "start", "rooms"] ["web", "start", "rooms"] (defScope (top 19)) := ⟨rfl, rfl, rfl, by decide +kernel, rfl, by decide +kernel, by decide +kernel⟩
theorem b_require_rooms : BindsAll "require_rooms" (top 19) ["web", "start", "rooms"] := fun _ _ _ _ _ _ us hl => match us, hl with | [_, _, _], _ => rfl
theorem c_require_rooms (fx : Facts K mg) : Callee P w K mg base 6 "require_rooms" (top 19) ["web", "start", "rooms"] O_require_rooms := by
  obtain ⟨fd, F⟩ := fx.F_require_rooms
  refine ⟨fx.g_require_rooms, fd, F, ?_⟩
  rw [is_require_rooms.eq]
  refine fn_den F sc_require_rooms fun cdv A outer s H E hr tk => ?_
  have nd := sc_require_rooms.nd
  exact (dss_cons (ds_expr (de_callC (c_require_load fx) b_require_load hr (by omega) tk (da_cons (de_var 0) (da_cons (de_var 1) (da_cons de_str da_nil)))))
      (dss_cons (ds_expr (de_callC (c_require_load fx) b_require_load hr (by omega) tk (da_cons (de_var 0) (da_cons (de_var 2) (da_cons de_str da_nil)))))
      dss_nil))
noncomputable def D_greater_of : SDen := sSeq (sExpr (dFn 2 O_require_alike (dCons (dVar 0) (dCons (dVar 1) (dNil))))) (sSeq (sRet (dFn 2 O_load_from (dCons (dLc [2, 3] (dItems (dFn 2 O_leveled (dCons (dVar 0) (dCons (dVar 1) (dNil))))) (.tup (.cons (.one 2) (.cons (.one 3) .nil))) (dYes) (dCall oMax2 (dCons (dVar 2) (dCons (dVar 3) (dNil))))) (dCons (dBin oMul (dBin oIx (dVar 0) (dC (.int 1))) (dBin oIx (dVar 1) (dC (.int 1)))) (dNil))))) (sNil))
theorem Q_greater_of : ∃ F : Op, F = fnOf ["load", "other", "top", "limit"] D_greater_of := ⟨_, rfl⟩
noncomputable def O_greater_of : Op := Classical.choose Q_greater_of
instance is_greater_of : Is O_greater_of ["load", "other", "top", "limit"] D_greater_of := ⟨Classical.choose_spec Q_greater_of⟩
theorem sc_greater_of : FnScope ["load", "other", "top", "limit"] ["load", "other"] (defScope (top 31)) := ⟨rfl, rfl, rfl, by decide +kernel, rfl, by decide +kernel, by decide +kernel⟩
theorem b_greater_of : BindsAll "greater_of" (top 31) ["load", "other"] := fun _ _ _ _ _ _ us hl => match us, hl with | [_, _], _ => rfl
theorem c_greater_of (fx : Facts K mg) : Callee P w K mg base 6 "greater_of" (top 31) ["load", "other"] O_greater_of := by
  obtain ⟨fd, F⟩ := fx.F_greater_of
  refine ⟨fx.g_greater_of, fd, F, ?_⟩
  rw [is_greater_of.eq]
  refine fn_den F sc_greater_of fun cdv A outer s H E hr tk => ?_
  have nd := sc_greater_of.nd
  exact (dss_cons (ds_expr (de_callC (c_require_alike fx) b_require_alike hr (by omega) tk (da_cons (de_var 0) (da_cons (de_var 1) da_nil))))
      (dss_cons (ds_ret (de_callC (c_load_from fx) b_load_from hr (by omega) tk (da_cons (de_lc [("top", 2), ("limit", 3)] (.tup (.cons (.one 2) (.cons (.one 3) .nil))) rfl nd (by decide) (by exact blkB_ok (by kernel_rfl)) (di_seq (de_callC (c_leveled fx) b_leveled hr (by omega) tk (da_cons (de_var 0) (da_cons (de_var 1) da_nil)))) (fun _ _ _ _ _ => (pg_tup rfl (pgs_cons (pg_name nd rfl (by first | exact .inl rfl | exact .inr rfl) (by first | exact .inl rfl | exact .inr rfl)) (pgs_cons (pg_name nd rfl (by first | exact .inl rfl | exact .inr rfl) (by first | exact .inl rfl | exact .inr rfl)) pgs_nil)))) (fun _ _ _ _ _ => dts_nil) (fun _ _ _ _ _ => (de_callB (call_max2 rfl) callD_max2 (by decide +kernel) fx.n_max (da_cons (de_var 2) (da_cons (de_var 3) da_nil))))) (da_cons (de_mul (de_ix (de_var 0) de_int) (de_ix (de_var 1) de_int)) da_nil))))
      dss_nil))
noncomputable def D_over_of : SDen := sSeq (sRet (dFn 2 O_taken (dCons (dFn 2 O_greater_of (dCons (dVar 0) (dCons (dVar 1) (dNil)))) (dCons (dVar 1) (dNil))))) (sNil)
theorem Q_over_of : ∃ F : Op, F = fnOf ["load", "other"] D_over_of := ⟨_, rfl⟩
noncomputable def O_over_of : Op := Classical.choose Q_over_of
instance is_over_of : Is O_over_of ["load", "other"] D_over_of := ⟨Classical.choose_spec Q_over_of⟩
theorem sc_over_of : FnScope ["load", "other"] ["load", "other"] (defScope (top 38)) := ⟨rfl, rfl, rfl, by decide +kernel, rfl, by decide +kernel, by decide +kernel⟩
theorem b_over_of : BindsAll "over_of" (top 38) ["load", "other"] := fun _ _ _ _ _ _ us hl => match us, hl with | [_, _], _ => rfl
theorem c_over_of (fx : Facts K mg) : Callee P w K mg base 7 "over_of" (top 38) ["load", "other"] O_over_of := by
  obtain ⟨fd, F⟩ := fx.F_over_of
  refine ⟨fx.g_over_of, fd, F, ?_⟩
  rw [is_over_of.eq]
  refine fn_den F sc_over_of fun cdv A outer s H E hr tk => ?_
  have nd := sc_over_of.nd
  exact (dss_cons (ds_ret (de_callC (c_taken fx) b_taken hr (by omega) tk (da_cons (de_callC (c_greater_of fx) b_greater_of hr (by omega) tk (da_cons (de_var 0) (da_cons (de_var 1) da_nil))) (da_cons (de_var 1) da_nil))))
      dss_nil)
noncomputable def D_stay_passes : SDen := sSeq (sSet 4 (dLstM (dCons (dFn 1 O_no_load (dCons (dFn 1 O_size_of (dCons (dVar 0) (dNil))) (dNil))) (dNil)))) (sSeq (sFor (dRange1 (dVar 3)) (tName 5) (sSeq (sExpr (dApp (dVar 4) (dFn 2 O_over_of (dCons (dFn 3 O_come_to (dCons (dVar 0) (dCons (dVar 1) (dCons (dBin oIx (dVar 4) (dUn oNeg (dC (.int 1)))) (dNil))))) (dCons (dVar 2) (dNil)))))) (sNil))) (sSeq (sRet (dVar 4)) (sNil)))
theorem Q_stay_passes : ∃ F : Op, F = fnOf ["web", "start", "rooms", "many", "course", "_"] D_stay_passes := ⟨_, rfl⟩
noncomputable def O_stay_passes : Op := Classical.choose Q_stay_passes
instance is_stay_passes : Is O_stay_passes ["web", "start", "rooms", "many", "course", "_"] D_stay_passes := ⟨Classical.choose_spec Q_stay_passes⟩
theorem sc_stay_passes : FnScope ["web", "start", "rooms", "many", "course", "_"] ["web", "start", "rooms", "many"] (defScope (top 39)) := ⟨rfl, rfl, rfl, by decide +kernel, rfl, by decide +kernel, by decide +kernel⟩
theorem b_stay_passes : BindsAll "stay_passes" (top 39) ["web", "start", "rooms", "many"] := fun _ _ _ _ _ _ us hl => match us, hl with | [_, _, _, _], _ => rfl
theorem c_stay_passes (fx : Facts K mg) : Callee P w K mg base 8 "stay_passes" (top 39) ["web", "start", "rooms", "many"] O_stay_passes := by
  obtain ⟨fd, F⟩ := fx.F_stay_passes
  refine ⟨fx.g_stay_passes, fd, F, ?_⟩
  rw [is_stay_passes.eq]
  refine fn_den F sc_stay_passes fun cdv A outer s H E hr tk => ?_
  have nd := sc_stay_passes.nd
  exact (dss_cons (ds_set 4 nd (de_lstM (da_cons (de_callC (c_no_load fx) b_no_load hr (by omega) tk (da_cons (de_callC (c_size_of fx) b_size_of hr (by omega) tk (da_cons (de_var 0) da_nil)) da_nil)) da_nil)))
      (dss_cons (ds_for (L2.passes_of rfl) rfl (di_range1 fx.n_range (de_var 3)) (dg_name 5 nd) (dss_cons (ds_expr (de_app (de_var 4) (de_callC (c_over_of fx) b_over_of hr (by omega) tk (da_cons (de_callC (c_come_to fx) b_come_to hr (by omega) tk (da_cons (de_var 0) (da_cons (de_var 1) (da_cons (de_ix (de_var 4) (de_neg de_int)) da_nil)))) (da_cons (de_var 2) da_nil)))))
      dss_nil))
      (dss_cons (ds_ret (de_var 4))
      dss_nil)))
noncomputable def D_stay_course : SDen := sSeq (sExpr (dFn 3 O_require_rooms (dCons (dVar 0) (dCons (dVar 1) (dCons (dVar 2) (dNil)))))) (sSeq (sExpr (dFn 2 O_require_number (dCons (dVar 3) (dCons (dC (.str "many")) (dNil))))) (sSeq (sRet (dCall oTuple1 (dCons (dFn 4 O_stay_passes (dCons (dVar 0) (dCons (dVar 1) (dCons (dVar 2) (dCons (dVar 3) (dNil)))))) (dNil)))) (sNil)))
theorem Q_stay_course : ∃ F : Op, F = fnOf ["web", "start", "rooms", "many"] D_stay_course := ⟨_, rfl⟩
noncomputable def O_stay_course : Op := Classical.choose Q_stay_course
instance is_stay_course : Is O_stay_course ["web", "start", "rooms", "many"] D_stay_course := ⟨Classical.choose_spec Q_stay_course⟩
theorem sc_stay_course : FnScope ["web", "start", "rooms", "many"] ["web", "start", "rooms", "many"] (defScope (top 41)) := ⟨rfl, rfl, rfl, by decide +kernel, rfl, by decide +kernel, by decide +kernel⟩
theorem b_stay_course : BindsAll "stay_course" (top 41) ["web", "start", "rooms", "many"] := fun _ _ _ _ _ _ us hl => match us, hl with | [_, _, _, _], _ => rfl
theorem bk_stay_course_many_rooms_start_web : BindsKw "stay_course" (top 41) ["web", "start", "rooms", "many"] ["many", "rooms", "start", "web"] [3, 2, 1, 0] := fun _ _ _ _ _ _ us hl => match us, hl with | [_, _, _, _], _ => rfl
theorem c_stay_course (fx : Facts K mg) : Callee P w K mg base 9 "stay_course" (top 41) ["web", "start", "rooms", "many"] O_stay_course := by
  obtain ⟨fd, F⟩ := fx.F_stay_course
  refine ⟨fx.g_stay_course, fd, F, ?_⟩
  rw [is_stay_course.eq]
  refine fn_den F sc_stay_course fun cdv A outer s H E hr tk => ?_
  have nd := sc_stay_course.nd
  exact (dss_cons (ds_expr (de_callC (c_require_rooms fx) b_require_rooms hr (by omega) tk (da_cons (de_var 0) (da_cons (de_var 1) (da_cons (de_var 2) da_nil)))))
      (dss_cons (ds_expr (de_callC (c_require_number fx) b_require_number hr (by omega) tk (da_cons (de_var 3) (da_cons de_str da_nil))))
      (dss_cons (ds_ret (de_callTy call_tuple_of callD_tuple1 (by decide +kernel) fx.n_tuple (da_cons (de_callC (c_stay_passes fx) b_stay_passes hr (by omega) tk (da_cons (de_var 0) (da_cons (de_var 1) (da_cons (de_var 2) (da_cons (de_var 3) da_nil))))) da_nil)))
      dss_nil)))
noncomputable def D__law_ask_suite (a0 d0 : Nat) : SDen := sSeq (sIf (dOr (dTru (dIsC a0 d0 "NotUsable" false (dVar 5))) (dOr (dNot (dTru (dIsC a0 d0 "NotUsable" true (dVar 5)))) (dNot (dTru (dIsC a0 d0 "NotUsable" true (dVar 5)))))) (sSeq (sRet (dTup (dCons (dC (.str "refused")) (dCons (dC .non) (dCons (dC .non) (dNil)))))) (sNil)) (sNil)) (sSeq (sRet (dTup (dCons (dC (.str "refused")) (dCons (dAttrC a0 d0 ["NotUsable"] "word" (dVar 5)) (dCons (dAttrC a0 d0 ["NotUsable"] "at" (dVar 5)) (dNil)))))) (sNil))
noncomputable def D__law_ask : SDen := sSeq (sTry [("NotUsable", true)] 5 (sSeq (sIf (dBin oEq (dVar 0) (dC (.str "rooms"))) (sSeq (sSet 6 (dFn 4 O_stay_course (dCons (dVar 1) (dCons (dVar 2) (dCons (dVar 3) (dCons (dVar 4) (dNil))))))) (sNil)) (sSeq (sIf (dBin oEq (dVar 0) (dC (.str "allowance"))) (sSeq (sSet 6 (dFn 4 O_go_course (dCons (dVar 1) (dCons (dVar 2) (dCons (dVar 3) (dCons (dVar 4) (dNil))))))) (sNil)) (sSeq (sIf (dBin oEq (dVar 0) (dC (.str "stand"))) (sSeq (sSet 6 (dFn 3 O_standing_course (dCons (dVar 1) (dCons (dVar 2) (dCons (dVar 3) (dNil)))))) (sNil)) (sSeq (sIf (dBin oEq (dVar 0) (dC (.str "kept"))) (sSeq (sSet 6 (dFn 3 O_kept_course (dCons (dVar 1) (dCons (dVar 2) (dCons (dVar 3) (dNil)))))) (sNil)) (sSeq (sSet 6 (dFn 3 O_is_course (dCons (dVar 1) (dCons (dVar 2) (dCons (dVar 3) (dNil)))))) (sNil))) (sNil))) (sNil))) (sNil))) (sNil)) (fun _ => D__law_ask_suite)) (sSeq (sRet (dTup (dCons (dC (.str "told")) (dCons (dVar 6) (dNil))))) (sNil))
theorem Q__law_ask : ∃ F : Op, F = fnOf ["_law_which", "_law_net_here", "_law_begin", "_law_item", "_law_upto", "e", "_law_told"] D__law_ask := ⟨_, rfl⟩
noncomputable def O__law_ask : Op := Classical.choose Q__law_ask
instance is__law_ask : Is O__law_ask ["_law_which", "_law_net_here", "_law_begin", "_law_item", "_law_upto", "e", "_law_told"] D__law_ask := ⟨Classical.choose_spec Q__law_ask⟩
theorem sc__law_ask : FnScope ["_law_which", "_law_net_here", "_law_begin", "_law_item", "_law_upto", "e", "_law_told"] ["_law_which", "_law_net_here", "_law_begin", "_law_item", "_law_upto"] (defScope (top 67)) := ⟨rfl, rfl, rfl, by decide +kernel, rfl, by decide +kernel, by decide +kernel⟩
theorem b__law_ask : BindsAll "_law_ask" (top 67) ["_law_which", "_law_net_here", "_law_begin", "_law_item", "_law_upto"] := fun _ _ _ _ _ _ us hl => match us, hl with | [_, _, _, _, _], _ => rfl
theorem c__law_ask (fx : Facts K mg) : Callee P w K mg base 11 "_law_ask" (top 67) ["_law_which", "_law_net_here", "_law_begin", "_law_item", "_law_upto"] O__law_ask := by
  obtain ⟨fd, F⟩ := fx.F__law_ask
  refine ⟨fx.g__law_ask, fd, F, ?_⟩
  rw [is__law_ask.eq]
  refine fn_den F sc__law_ask fun cdv A outer s H E hr tk => ?_
  have nd := sc__law_ask.nd
  exact (dss_cons (ds_try 5 (exTab1 fx.x_NotUsable fx.ex_NotUsable_NotUsable) rfl rfl nd tk ⟨rfl, by decide, .inl fx.g_NotUsable⟩ (fun W pn xe tkx hpx => (dss_cons (ds_if (dt_eq hr.units (de_var 0) de_str) (dss_cons (ds_set 6 nd (de_callC (c_stay_course fx) b_stay_course hr (by omega) tkx (da_cons (de_var 1) (da_cons (de_var 2) (da_cons (de_var 3) (da_cons (de_var 4) da_nil))))))
      dss_nil) (dss_cons (ds_if (dt_eq hr.units (de_var 0) de_str) (dss_cons (ds_set 6 nd (de_callC (c_go_course fx) b_go_course hr (by omega) tkx (da_cons (de_var 1) (da_cons (de_var 2) (da_cons (de_var 3) (da_cons (de_var 4) da_nil))))))
      dss_nil) (dss_cons (ds_if (dt_eq hr.units (de_var 0) de_str) (dss_cons (ds_set 6 nd (de_callC (c_standing_course fx) b_standing_course hr (by omega) tkx (da_cons (de_var 1) (da_cons (de_var 2) (da_cons (de_var 3) da_nil)))))
      dss_nil) (dss_cons (ds_if (dt_eq hr.units (de_var 0) de_str) (dss_cons (ds_set 6 nd (de_callC (c_kept_course fx) b_kept_course hr (by omega) tkx (da_cons (de_var 1) (da_cons (de_var 2) (da_cons (de_var 3) da_nil)))))
      dss_nil) (dss_cons (ds_set 6 nd (de_callC (c_is_course fx) b_is_course hr (by omega) tkx (da_cons (de_var 1) (da_cons (de_var 2) (da_cons (de_var 3) da_nil)))))
      dss_nil))
      dss_nil))
      dss_nil))
      dss_nil))
      dss_nil)) (fun a0 oe c C0 d0 pn hm0 htb hz hf => by
      obtain rfl := tab1 htb
      have hot := hot_suite (X := cxOf (L2N.CX P w) P w K mg base ["_law_which", "_law_net_here", "_law_begin", "_law_item", "_law_upto", "e", "_law_told"] "_law_ask" (defScope (top 67)) (He.ga K "_law_ask") cdv A outer s H E) (a0 := a0) (pn := pn) hz hf
      exact (dss_cons (ds_if (DW.dt (dw_or (dt_truth (de_isC (cw := .ref (He.ga K "NoRoom")) false (isTab1 fx.x_NotUsable fx.is_NotUsable_NoRoom) hm0 rfl hz.zc hf (de_var 5) (pe_glob rfl fx.g_NoRoom rfl) (fun _ h => h) fx.n_isinstance)) (dw_or (dt_not (dt_truth (de_isC (cw := .ref (He.ga K "WebError")) true (isTab1 fx.x_NotUsable fx.is_NotUsable_WebError) hm0 rfl hz.zc hf (de_var 5) (pe_glob rfl fx.g_WebError rfl) (fun _ h => h) fx.n_isinstance))) (dw_or1 (dt_not (dt_truth (de_isC (cw := .ref (He.ga K "StayError")) true (isTab1 fx.x_NotUsable fx.is_NotUsable_StayError) hm0 rfl hz.zc hf (de_var 5) (pe_glob rfl fx.g_StayError rfl) (fun _ h => h) fx.n_isinstance))))))) (dss_cons (ds_ret (de_tup (da_cons de_str (da_cons de_non (da_cons de_non da_nil)))))
      dss_nil) dss_nil)
      (dss_cons (ds_ret (de_tup (da_cons de_str (da_cons (de_attrC (errAt fx.x_NotUsable fx.no_NotUsable_word) hm0 hz.zc hf (de_var 5)) (da_cons (de_attrC (errAt fx.x_NotUsable fx.no_NotUsable_at) hm0 hz.zc hf (de_var 5)) da_nil)))))
      dss_nil))))
      (dss_cons (ds_ret (de_tup (da_cons de_str (da_cons (de_var 6) da_nil))))
      dss_nil))
noncomputable def D__law_gcd : SDen := sSeq (sWhile 1000000 (dBin oNe (dVar 1) (dC (.int 0))) (sSeq (sSet 2 (dBin oMod (dCall oInt1 (dCons (dVar 0) (dNil))) (dVar 1))) (sSeq (sSet 0 (dVar 1)) (sSeq (sSet 1 (dVar 2)) (sNil))))) (sSeq (sRet (dCall oAbs (dCons (dVar 0) (dNil)))) (sNil))
theorem Q__law_gcd : ∃ F : Op, F = fnOf ["_law_one", "_law_other", "_law_spare"] D__law_gcd := ⟨_, rfl⟩
noncomputable def O__law_gcd : Op := Classical.choose Q__law_gcd
instance is__law_gcd : Is O__law_gcd ["_law_one", "_law_other", "_law_spare"] D__law_gcd := ⟨Classical.choose_spec Q__law_gcd⟩
theorem sc__law_gcd : FnScope ["_law_one", "_law_other", "_law_spare"] ["_law_one", "_law_other"] (defScope (top 55)) := ⟨rfl, rfl, rfl, by decide +kernel, rfl, by decide +kernel, by decide +kernel⟩
theorem b__law_gcd : BindsAll "_law_gcd" (top 55) ["_law_one", "_law_other"] := fun _ _ _ _ _ _ us hl => match us, hl with | [_, _], _ => rfl
theorem c__law_gcd (fx : Facts K mg) : Callee P w K mg base 1 "_law_gcd" (top 55) ["_law_one", "_law_other"] O__law_gcd := by
  obtain ⟨fd, F⟩ := fx.F__law_gcd
  refine ⟨fx.g__law_gcd, fd, F, ?_⟩
  rw [is__law_gcd.eq]
  refine fn_den F sc__law_gcd fun cdv A outer s H E hr tk => ?_
  have nd := sc__law_gcd.nd
  exact (dss_cons (ds_while 1000000 (L2.passes_of rfl) (dt_ne hr.units (de_var 1) de_int) (dss_cons (ds_set 2 nd (de_mod (de_callTy call_int1 callD_int1 (by decide +kernel) fx.n_int (da_cons (de_var 0) da_nil)) (de_var 1)))
      (dss_cons (ds_set 0 nd (de_var 1))
      (dss_cons (ds_set 1 nd (de_var 2))
      dss_nil))))
      (dss_cons (ds_ret (de_callB call_abs callD_abs (by decide +kernel) fx.n_abs (da_cons (de_var 0) da_nil)))
      dss_nil))
noncomputable def D__law_low : SDen := sSeq (sSet 2 (dVar 1)) (sSeq (sFor (dItems (dVar 0)) (tName 3) (sSeq (sSet 2 (dFn 2 O__law_gcd (dCons (dVar 2) (dCons (dVar 3) (dNil))))) (sNil))) (sSeq (sRet (dTup (dCons (dCall oTuple1 (dCons (dLc [3] (dItems (dVar 0)) (.one 3) (dYes) (dBin oDiv (dVar 3) (dVar 2))) (dNil))) (dCons (dBin oDiv (dVar 1) (dVar 2)) (dNil))))) (sNil)))
theorem Q__law_low : ∃ F : Op, F = fnOf ["_law_tops_here", "_law_bottom", "_law_big", "_law_top"] D__law_low := ⟨_, rfl⟩
noncomputable def O__law_low : Op := Classical.choose Q__law_low
instance is__law_low : Is O__law_low ["_law_tops_here", "_law_bottom", "_law_big", "_law_top"] D__law_low := ⟨Classical.choose_spec Q__law_low⟩
theorem sc__law_low : FnScope ["_law_tops_here", "_law_bottom", "_law_big", "_law_top"] ["_law_tops_here", "_law_bottom"] (defScope (top 56)) := ⟨rfl, rfl, rfl, by decide +kernel, rfl, by decide +kernel, by decide +kernel⟩
theorem b__law_low : BindsAll "_law_low" (top 56) ["_law_tops_here", "_law_bottom"] := fun _ _ _ _ _ _ us hl => match us, hl with | [_, _], _ => rfl
theorem c__law_low (fx : Facts K mg) : Callee P w K mg base 2 "_law_low" (top 56) ["_law_tops_here", "_law_bottom"] O__law_low := by
  obtain ⟨fd, F⟩ := fx.F__law_low
  refine ⟨fx.g__law_low, fd, F, ?_⟩
  rw [is__law_low.eq]
  refine fn_den F sc__law_low fun cdv A outer s H E hr tk => ?_
  have nd := sc__law_low.nd
  exact (dss_cons (ds_set 2 nd (de_var 1))
      (dss_cons (ds_for (L2.passes_of rfl) rfl (di_seq (de_var 0)) (dg_name 3 nd) (dss_cons (ds_set 2 nd (de_callC (c__law_gcd fx) b__law_gcd hr (by omega) tk (da_cons (de_var 2) (da_cons (de_var 3) da_nil))))
      dss_nil))
      (dss_cons (ds_ret (de_tup (da_cons (de_callTy call_tuple_of callD_tuple1 (by decide +kernel) fx.n_tuple (da_cons (de_lc [("_law_top", 3)] (.one 3) rfl nd (by decide) (by exact blkB_ok (by kernel_rfl)) (di_seq (de_var 0)) (fun _ _ _ _ _ => (pg_name nd rfl (by first | exact .inl rfl | exact .inr rfl) (by first | exact .inl rfl | exact .inr rfl))) (fun _ _ _ _ _ => dts_nil) (fun _ _ _ _ _ => (de_div (de_var 3) (de_var 2)))) da_nil)) (da_cons (de_div (de_var 1) (de_var 2)) da_nil))))
      dss_nil)))
noncomputable def D__law_more : SDen := sSeq (sSet 4 (dLcM [5] (dItems (dBin oIx (dVar 0) (dC (.int 0)))) (.one 5) (dYes) (dBin oMul (dVar 5) (dVar 3)))) (sSeq (sStore (dCall oMax2 (dCons (dC (.int 0)) (dCons (dBin oPlus (dBin oIx (dVar 4) (dVar 1)) (dBin oMul (dVar 2) (dBin oIx (dVar 0) (dC (.int 1))))) (dNil)))) (dVar 4) (dVar 1)) (sSeq (sRet (dFnZ 2 O__law_low (dCons (dVar 4) (dCons (dBin oMul (dBin oIx (dVar 0) (dC (.int 1))) (dVar 3)) (dNil))))) (sNil)))
theorem Q__law_more : ∃ F : Op, F = fnOf ["_law_load", "_law_j", "_law_top", "_law_bottom", "_law_tops_here", "_law_one"] D__law_more := ⟨_, rfl⟩
noncomputable def O__law_more : Op := Classical.choose Q__law_more
instance is__law_more : Is O__law_more ["_law_load", "_law_j", "_law_top", "_law_bottom", "_law_tops_here", "_law_one"] D__law_more := ⟨Classical.choose_spec Q__law_more⟩
theorem sc__law_more : FnScope ["_law_load", "_law_j", "_law_top", "_law_bottom", "_law_tops_here", "_law_one"] ["_law_load", "_law_j", "_law_top", "_law_bottom"] (defScope (top 65)) := ⟨rfl, rfl, rfl, by decide +kernel, rfl, by decide +kernel, by decide +kernel⟩
theorem b__law_more : BindsAll "_law_more" (top 65) ["_law_load", "_law_j", "_law_top", "_law_bottom"] := fun _ _ _ _ _ _ us hl => match us, hl with | [_, _, _, _], _ => rfl
theorem c__law_more (fx : Facts K mg) : Callee P w K mg base 3 "_law_more" (top 65) ["_law_load", "_law_j", "_law_top", "_law_bottom"] O__law_more := by
  obtain ⟨fd, F⟩ := fx.F__law_more
  refine ⟨fx.g__law_more, fd, F, ?_⟩
  rw [is__law_more.eq]
  refine fn_den F sc__law_more fun cdv A outer s H E hr tk => ?_
  have nd := sc__law_more.nd
  exact (dss_cons (ds_setLcM 4 [("_law_one", 5)] (.one 5) rfl nd (by decide) (by exact blkB_ok (by kernel_rfl)) (di_seq (de_ix (de_var 0) de_int)) (fun _ _ _ _ _ => (pg_name nd rfl (by first | exact .inl rfl | exact .inr rfl) (by first | exact .inl rfl | exact .inr rfl))) (fun _ _ _ _ _ => dts_nil) (fun _ _ _ _ _ => (de_mul (de_var 5) (de_var 3))) (by rfl))
      (dss_cons (ds_store (de_callB (call_max2 rfl) callD_max2 (by decide +kernel) fx.n_max (da_cons de_int (da_cons (de_add (de_ix (de_var 4) (de_var 1)) (de_mul (de_var 2) (de_ix (de_var 0) de_int))) da_nil))) (de_var 4) (de_var 1))
      (dss_cons (ds_ret (de_callZC (c__law_low fx) b__law_low hr (by omega) tk (da_cons (de_var 4) (da_cons (de_mul (de_ix (de_var 0) de_int) (de_var 3)) da_nil))))
      dss_nil)))
noncomputable def D__law_bent : SDen := sSeq (sIf (dBin oEq (dVar 1) (dC (.int 0))) (sSeq (sRet (dCut (dVar 0) none (some (dBin oPlus (dVar 2) (dC (.int 1)))))) (sNil)) (sNil)) (sSeq (sIf (dBin oEq (dVar 1) (dC (.int 1))) (sSeq (sRet (dBin oPlus (dBin oPlus (dCut (dVar 0) none (some (dVar 2))) (dTup (dCons (dFn 4 O__law_more (dCons (dBin oIx (dVar 0) (dVar 2)) (dCons (dVar 3) (dCons (dC (.int 1)) (dCons (dVar 4) (dNil)))))) (dNil)))) (dCut (dVar 0) (some (dBin oPlus (dVar 2) (dC (.int 1)))) none))) (sNil)) (sNil)) (sSeq (sIf (dBin oEq (dVar 1) (dC (.int 2))) (sSeq (sRet (dBin oPlus (dCut (dVar 0) none (some (dVar 2))) (dCall oTuple1 (dCons (dLc [5] (dItems (dCut (dVar 0) (some (dVar 2)) none)) (.one 5) (dYes) (dFn 4 O__law_more (dCons (dVar 5) (dCons (dVar 3) (dCons (dC (.int 1)) (dCons (dVar 4) (dNil))))))) (dNil))))) (sNil)) (sNil)) (sSeq (sIf (dBin oEq (dVar 1) (dC (.int 3))) (sSeq (sRet (dBin oPlus (dCut (dVar 0) none (some (dVar 2))) (dCut (dVar 0) (some (dBin oPlus (dVar 2) (dC (.int 1)))) none))) (sNil)) (sNil)) (sSeq (sIf (dBin oEq (dVar 1) (dC (.int 4))) (sSeq (sRet (dBin oPlus (dCut (dVar 0) none (some (dBin oPlus (dVar 2) (dC (.int 1))))) (dCut (dVar 0) (some (dVar 2)) none))) (sNil)) (sNil)) (sSeq (sIf (dBin oEq (dVar 1) (dC (.int 5))) (sSeq (sRet (dBin oPlus (dBin oPlus (dCut (dVar 0) none (some (dVar 2))) (dTup (dCons (dFn 4 O__law_more (dCons (dBin oIx (dVar 0) (dVar 2)) (dCons (dVar 3) (dCons (dBin oSub (dC (.int 0)) (dC (.int 1))) (dCons (dVar 4) (dNil)))))) (dNil)))) (dCut (dVar 0) (some (dBin oPlus (dVar 2) (dC (.int 1)))) none))) (sNil)) (sNil)) (sSeq (sIf (dBin oEq (dVar 1) (dC (.int 6))) (sSeq (sRet (dBin oPlus (dBin oPlus (dBin oPlus (dCut (dVar 0) none (some (dVar 2))) (dCut (dVar 0) (some (dBin oPlus (dVar 2) (dC (.int 1)))) (some (dBin oPlus (dVar 2) (dC (.int 2)))))) (dCut (dVar 0) (some (dVar 2)) (some (dBin oPlus (dVar 2) (dC (.int 1)))))) (dCut (dVar 0) (some (dBin oPlus (dVar 2) (dC (.int 2)))) none))) (sNil)) (sNil)) (sSeq (sRet (dBin oPlus (dCut (dVar 0) none (some (dVar 2))) (dCall oTuple1 (dCons (dLc [5] (dItems (dCut (dVar 0) (some (dVar 2)) none)) (.one 5) (dYes) (dBin oIx (dVar 0) (dVar 2))) (dNil))))) (sNil))))))))
theorem Q__law_bent : ∃ F : Op, F = fnOf ["_law_flow", "_law_kind", "_law_k", "_law_j", "_law_bottom", "_law_load"] D__law_bent := ⟨_, rfl⟩
noncomputable def O__law_bent : Op := Classical.choose Q__law_bent
instance is__law_bent : Is O__law_bent ["_law_flow", "_law_kind", "_law_k", "_law_j", "_law_bottom", "_law_load"] D__law_bent := ⟨Classical.choose_spec Q__law_bent⟩
theorem sc__law_bent : FnScope ["_law_flow", "_law_kind", "_law_k", "_law_j", "_law_bottom", "_law_load"] ["_law_flow", "_law_kind", "_law_k", "_law_j", "_law_bottom"] (defScope (top 66)) := ⟨rfl, rfl, rfl, by decide +kernel, rfl, by decide +kernel, by decide +kernel⟩
theorem b__law_bent : BindsAll "_law_bent" (top 66) ["_law_flow", "_law_kind", "_law_k", "_law_j", "_law_bottom"] := fun _ _ _ _ _ _ us hl => match us, hl with | [_, _, _, _, _], _ => rfl
theorem c__law_bent (fx : Facts K mg) : Callee P w K mg base 4 "_law_bent" (top 66) ["_law_flow", "_law_kind", "_law_k", "_law_j", "_law_bottom"] O__law_bent := by
  obtain ⟨fd, F⟩ := fx.F__law_bent
  refine ⟨fx.g__law_bent, fd, F, ?_⟩
  rw [is__law_bent.eq]
  refine fn_den F sc__law_bent fun cdv A outer s H E hr tk => ?_
  have nd := sc__law_bent.nd
  exact (dss_cons (ds_if (dt_eq hr.units (de_var 1) de_int) (dss_cons (ds_ret (de_cut (de_var 0) trivial (de_add (de_var 2) de_int)))
      dss_nil) dss_nil)
      (dss_cons (ds_if (dt_eq hr.units (de_var 1) de_int) (dss_cons (ds_ret (de_add (de_add (de_cut (de_var 0) trivial (de_var 2)) (de_tup (da_cons (de_callC (c__law_more fx) b__law_more hr (by omega) tk (da_cons (de_ix (de_var 0) (de_var 2)) (da_cons (de_var 3) (da_cons de_int (da_cons (de_var 4) da_nil))))) da_nil))) (de_cut (de_var 0) (de_add (de_var 2) de_int) trivial)))
      dss_nil) dss_nil)
      (dss_cons (ds_if (dt_eq hr.units (de_var 1) de_int) (dss_cons (ds_ret (de_add (de_cut (de_var 0) trivial (de_var 2)) (de_callTy call_tuple_of callD_tuple1 (by decide +kernel) fx.n_tuple (da_cons (de_lc [("_law_load", 5)] (.one 5) rfl nd (by decide) (by exact blkB_ok (by kernel_rfl)) (di_seq (de_cut (de_var 0) (de_var 2) trivial)) (fun _ _ _ _ _ => (pg_name nd rfl (by first | exact .inl rfl | exact .inr rfl) (by first | exact .inl rfl | exact .inr rfl))) (fun _ _ _ _ _ => dts_nil) (fun _ _ _ _ _ => (de_callC (c__law_more fx) b__law_more hr (by omega) takes0 (da_cons (de_var 5) (da_cons (de_var 3) (da_cons de_int (da_cons (de_var 4) da_nil))))))) da_nil))))
      dss_nil) dss_nil)
      (dss_cons (ds_if (dt_eq hr.units (de_var 1) de_int) (dss_cons (ds_ret (de_add (de_cut (de_var 0) trivial (de_var 2)) (de_cut (de_var 0) (de_add (de_var 2) de_int) trivial)))
      dss_nil) dss_nil)
      (dss_cons (ds_if (dt_eq hr.units (de_var 1) de_int) (dss_cons (ds_ret (de_add (de_cut (de_var 0) trivial (de_add (de_var 2) de_int)) (de_cut (de_var 0) (de_var 2) trivial)))
      dss_nil) dss_nil)
      (dss_cons (ds_if (dt_eq hr.units (de_var 1) de_int) (dss_cons (ds_ret (de_add (de_add (de_cut (de_var 0) trivial (de_var 2)) (de_tup (da_cons (de_callC (c__law_more fx) b__law_more hr (by omega) tk (da_cons (de_ix (de_var 0) (de_var 2)) (da_cons (de_var 3) (da_cons (de_sub de_int de_int) (da_cons (de_var 4) da_nil))))) da_nil))) (de_cut (de_var 0) (de_add (de_var 2) de_int) trivial)))
      dss_nil) dss_nil)
      (dss_cons (ds_if (dt_eq hr.units (de_var 1) de_int) (dss_cons (ds_ret (de_add (de_add (de_add (de_cut (de_var 0) trivial (de_var 2)) (de_cut (de_var 0) (de_add (de_var 2) de_int) (de_add (de_var 2) de_int))) (de_cut (de_var 0) (de_var 2) (de_add (de_var 2) de_int))) (de_cut (de_var 0) (de_add (de_var 2) de_int) trivial)))
      dss_nil) dss_nil)
      (dss_cons (ds_ret (de_add (de_cut (de_var 0) trivial (de_var 2)) (de_callTy call_tuple_of callD_tuple1 (by decide +kernel) fx.n_tuple (da_cons (de_lc [("_law_load", 5)] (.one 5) rfl nd (by decide) (by exact blkB_ok (by kernel_rfl)) (di_seq (de_cut (de_var 0) (de_var 2) trivial)) (fun _ _ _ _ _ => (pg_name nd rfl (by first | exact .inl rfl | exact .inr rfl) (by first | exact .inl rfl | exact .inr rfl))) (fun _ _ _ _ _ => dts_nil) (fun _ _ _ _ _ => (de_ix (de_var 0) (de_var 2)))) da_nil))))
      dss_nil))))))))
noncomputable def D__law_within : SDen := sSeq (sFor (dZip (dBin oIx (dVar 0) (dC (.int 0))) (dBin oIx (dVar 1) (dC (.int 0)))) (PD.tTup 2 (PD.tCons (tName 2) (PD.tCons (tName 3) (PD.tNil)))) (sSeq (sIf (dBin oGt (dBin oMul (dVar 2) (dBin oIx (dVar 1) (dC (.int 1)))) (dBin oMul (dVar 3) (dBin oIx (dVar 0) (dC (.int 1))))) (sSeq (sRet (dC (.bl false))) (sNil)) (sNil)) (sNil))) (sSeq (sRet (dC (.bl true))) (sNil))
theorem Q__law_within : ∃ F : Op, F = fnOf ["_law_load", "_law_other", "_law_one", "_law_two"] D__law_within := ⟨_, rfl⟩
noncomputable def O__law_within : Op := Classical.choose Q__law_within
instance is__law_within : Is O__law_within ["_law_load", "_law_other", "_law_one", "_law_two"] D__law_within := ⟨Classical.choose_spec Q__law_within⟩
theorem sc__law_within : FnScope ["_law_load", "_law_other", "_law_one", "_law_two"] ["_law_load", "_law_other"] (defScope (top 63)) := ⟨rfl, rfl, rfl, by decide +kernel, rfl, by decide +kernel, by decide +kernel⟩
theorem b__law_within : BindsAll "_law_within" (top 63) ["_law_load", "_law_other"] := fun _ _ _ _ _ _ us hl => match us, hl with | [_, _], _ => rfl
theorem c__law_within (fx : Facts K mg) : Callee P w K mg base 1 "_law_within" (top 63) ["_law_load", "_law_other"] O__law_within := by
  obtain ⟨fd, F⟩ := fx.F__law_within
  refine ⟨fx.g__law_within, fd, F, ?_⟩
  rw [is__law_within.eq]
  refine fn_den F sc__law_within fun cdv A outer s H E hr tk => ?_
  have nd := sc__law_within.nd
  exact (dss_cons (ds_for (L2.passes_of rfl) rfl (di_zip fx.n_zip (de_ix (de_var 0) de_int) (de_ix (de_var 1) de_int)) (dg_tup rfl (dgs_cons (dg_name 2 nd) (dgs_cons (dg_name 3 nd) dgs_nil))) (dss_cons (ds_if (dt_gt (de_mul (de_var 2) (de_ix (de_var 1) de_int)) (de_mul (de_var 3) (de_ix (de_var 0) de_int))) (dss_cons (ds_ret de_bl)
      dss_nil) dss_nil)
      dss_nil))
      (dss_cons (ds_ret de_bl)
      dss_nil))
noncomputable def D__law_fits : SDen := sSeq (sIf (dBin oGt (dCall oMaxL (dCons (dBin oIx (dBin oIx (dVar 2) (dC (.int 0))) (dC (.int 0))) (dNil))) (dC (.int 0))) (sSeq (sRet (dC (.bl false))) (sNil)) (sNil)) (sSeq (sSet 3 (dCall oLen (dCons (dBin oIx (dVar 0) (dC (.int 0))) (dNil)))) (sSeq (sSet 4 (dTup (dCons (dBin oMul (dLst (dCons (dC (.int 0)) (dNil))) (dVar 3)) (dCons (dC (.int 1)) (dNil))))) (sSeq (sFor (dRange1 (dBin oSub (dCall oLen (dCons (dVar 2) (dNil))) (dC (.int 1)))) (tName 5) (sSeq (sSet 6 (dBin oIx (dVar 2) (dVar 5))) (sSeq (sSet 7 (dBin oIx (dVar 2) (dBin oPlus (dVar 5) (dC (.int 1))))) (sSeq (sIf (dNot (dTru (dFn 2 O__law_within (dCons (dVar 6) (dCons (dVar 7) (dNil)))))) (sSeq (sRet (dC (.bl false))) (sNil)) (sNil)) (sSeq (sSet 8 (dBin oMul (dBin oMul (dBin oMul (dBin oIx (dVar 1) (dC (.int 1))) (dBin oIx (dVar 0) (dC (.int 1)))) (dBin oIx (dVar 6) (dC (.int 1)))) (dBin oIx (dVar 7) (dC (.int 1))))) (sSeq (sSet 9 (dLstM (dNil))) (sSeq (sFor (dRange1 (dVar 3)) (tName 10) (sSeq (sSet 11 (dCall oSum (dCons (dLc [13] (dRange1 (dVar 3)) (.one 13) (dYes) (dBin oMul (dBin oIx (dBin oIx (dVar 6) (dC (.int 0))) (dVar 13)) (dBin oIx (dBin oIx (dBin oIx (dVar 0) (dC (.int 0))) (dVar 13)) (dVar 10)))) (dNil)))) (sSeq (sSet 12 (dBin oPlus (dBin oMul (dBin oMul (dBin oMul (dBin oIx (dBin oIx (dVar 1) (dC (.int 0))) (dVar 10)) (dBin oIx (dVar 0) (dC (.int 1)))) (dBin oIx (dVar 6) (dC (.int 1)))) (dBin oIx (dVar 7) (dC (.int 1)))) (dBin oMul (dBin oMul (dVar 11) (dBin oIx (dVar 1) (dC (.int 1)))) (dBin oIx (dVar 7) (dC (.int 1)))))) (sSeq (sExpr (dApp (dVar 9) (dBin oSub (dVar 12) (dBin oMul (dBin oMul (dBin oMul (dBin oIx (dBin oIx (dVar 7) (dC (.int 0))) (dVar 10)) (dBin oIx (dVar 1) (dC (.int 1)))) (dBin oIx (dVar 0) (dC (.int 1)))) (dBin oIx (dVar 6) (dC (.int 1))))))) (sSeq (sIf (dBin oLt (dBin oMul (dBin oIx (dVar 9) (dVar 10)) (dBin oIx (dVar 4) (dC (.int 1)))) (dBin oMul (dBin oIx (dBin oIx (dVar 4) (dC (.int 0))) (dVar 10)) (dVar 8))) (sSeq (sRet (dC (.bl false))) (sNil)) (sNil)) (sNil)))))) (sSeq (sSet 4 (dTup (dCons (dVar 9) (dCons (dVar 8) (dNil))))) (sNil))))))))) (sSeq (sRet (dC (.bl true))) (sNil)))))
theorem Q__law_fits : ∃ F : Op, F = fnOf ["_law_net_here", "_law_begin", "_law_flow", "_law_size", "_law_before", "_law_k", "_law_one", "_law_two", "_law_big", "_law_stayed", "_law_j", "_law_comes", "_law_top", "_law_i"] D__law_fits := ⟨_, rfl⟩
noncomputable def O__law_fits : Op := Classical.choose Q__law_fits
instance is__law_fits : Is O__law_fits ["_law_net_here", "_law_begin", "_law_flow", "_law_size", "_law_before", "_law_k", "_law_one", "_law_two", "_law_big", "_law_stayed", "_law_j", "_law_comes", "_law_top", "_law_i"] D__law_fits := ⟨Classical.choose_spec Q__law_fits⟩
theorem sc__law_fits : FnScope ["_law_net_here", "_law_begin", "_law_flow", "_law_size", "_law_before", "_law_k", "_law_one", "_law_two", "_law_big", "_law_stayed", "_law_j", "_law_comes", "_law_top", "_law_i"] ["_law_net_here", "_law_begin", "_law_flow"] (defScope (top 64)) := ⟨rfl, rfl, rfl, by decide +kernel, rfl, by decide +kernel, by decide +kernel⟩
theorem b__law_fits : BindsAll "_law_fits" (top 64) ["_law_net_here", "_law_begin", "_law_flow"] := fun _ _ _ _ _ _ us hl => match us, hl with | [_, _, _], _ => rfl
theorem c__law_fits (fx : Facts K mg) : Callee P w K mg base 2 "_law_fits" (top 64) ["_law_net_here", "_law_begin", "_law_flow"] O__law_fits := by
  obtain ⟨fd, F⟩ := fx.F__law_fits
  refine ⟨fx.g__law_fits, fd, F, ?_⟩
  rw [is__law_fits.eq]
  refine fn_den F sc__law_fits fun cdv A outer s H E hr tk => ?_
  have nd := sc__law_fits.nd
  exact (dss_cons (ds_if (dt_gt (de_callB (call_maxA rfl) callD_maxL (by decide +kernel) fx.n_max (da_cons (de_ix (de_ix (de_var 2) de_int) de_int) da_nil)) de_int) (dss_cons (ds_ret de_bl)
      dss_nil) dss_nil)
      (dss_cons (ds_set 3 nd (de_len fx.n_len (da_cons (de_ix (de_var 0) de_int) da_nil)))
      (dss_cons (ds_set 4 nd (de_tup (da_cons (de_mul (de_lst (da_cons de_int da_nil)) (de_var 3)) (da_cons de_int da_nil))))
      (dss_cons (ds_for (L2.passes_of rfl) rfl (di_range1 fx.n_range (de_sub (de_len fx.n_len (da_cons (de_var 2) da_nil)) de_int)) (dg_name 5 nd) (dss_cons (ds_set 6 nd (de_ix (de_var 2) (de_var 5)))
      (dss_cons (ds_set 7 nd (de_ix (de_var 2) (de_add (de_var 5) de_int)))
      (dss_cons (ds_if (dt_not (dt_truth (de_callC (c__law_within fx) b__law_within hr (by omega) tk (da_cons (de_var 6) (da_cons (de_var 7) da_nil))))) (dss_cons (ds_ret de_bl)
      dss_nil) dss_nil)
      (dss_cons (ds_set 8 nd (de_mul (de_mul (de_mul (de_ix (de_var 1) de_int) (de_ix (de_var 0) de_int)) (de_ix (de_var 6) de_int)) (de_ix (de_var 7) de_int)))
      (dss_cons (ds_set 9 nd (de_lstM da_nil))
      (dss_cons (ds_for (L2.passes_of rfl) rfl (di_range1 fx.n_range (de_var 3)) (dg_name 10 nd) (dss_cons (ds_set 11 nd (de_callB (call_sumA rfl) callD_sum (by decide +kernel) fx.n_sum (da_cons (de_lc [("_law_i", 13)] (.one 13) rfl nd (by decide) (by exact blkB_ok (by kernel_rfl)) (di_range1 fx.n_range (de_var 3)) (fun _ _ _ _ _ => (pg_name nd rfl (by first | exact .inl rfl | exact .inr rfl) (by first | exact .inl rfl | exact .inr rfl))) (fun _ _ _ _ _ => dts_nil) (fun _ _ _ _ _ => (de_mul (de_ix (de_ix (de_var 6) de_int) (de_var 13)) (de_ix (de_ix (de_ix (de_var 0) de_int) (de_var 13)) (de_var 10))))) da_nil)))
      (dss_cons (ds_set 12 nd (de_add (de_mul (de_mul (de_mul (de_ix (de_ix (de_var 1) de_int) (de_var 10)) (de_ix (de_var 0) de_int)) (de_ix (de_var 6) de_int)) (de_ix (de_var 7) de_int)) (de_mul (de_mul (de_var 11) (de_ix (de_var 1) de_int)) (de_ix (de_var 7) de_int))))
      (dss_cons (ds_expr (de_app (de_var 9) (de_sub (de_var 12) (de_mul (de_mul (de_mul (de_ix (de_ix (de_var 7) de_int) (de_var 10)) (de_ix (de_var 1) de_int)) (de_ix (de_var 0) de_int)) (de_ix (de_var 6) de_int)))))
      (dss_cons (ds_if (dt_lt (de_mul (de_ix (de_var 9) (de_var 10)) (de_ix (de_var 4) de_int)) (de_mul (de_ix (de_ix (de_var 4) de_int) (de_var 10)) (de_var 8))) (dss_cons (ds_ret de_bl)
      dss_nil) dss_nil)
      dss_nil)))))
      (dss_cons (ds_set 4 nd (de_tup (da_cons (de_var 9) (da_cons (de_var 8) da_nil))))
      dss_nil))))))))
      (dss_cons (ds_ret de_bl)
      dss_nil)))))
noncomputable def D__law_part : SDen := sSeq (sRet (dCall oTuple1 (dCons (dLc [3] (dItems (dVar 0)) (.one 3) (dYes) (dFn 2 O__law_low (dCons (dBin oIx (dVar 3) (dVar 1)) (dCons (dBin oMul (dVar 2) (dBin oIx (dVar 3) (dC (.int 3)))) (dNil))))) (dNil)))) (sNil)
theorem Q__law_part : ∃ F : Op, F = fnOf ["_law_walk_here", "_law_which", "_law_base", "_law_entry"] D__law_part := ⟨_, rfl⟩
noncomputable def O__law_part : Op := Classical.choose Q__law_part
instance is__law_part : Is O__law_part ["_law_walk_here", "_law_which", "_law_base", "_law_entry"] D__law_part := ⟨Classical.choose_spec Q__law_part⟩
theorem sc__law_part : FnScope ["_law_walk_here", "_law_which", "_law_base", "_law_entry"] ["_law_walk_here", "_law_which", "_law_base"] (defScope (top 62)) := ⟨rfl, rfl, rfl, by decide +kernel, rfl, by decide +kernel, by decide +kernel⟩
theorem b__law_part : BindsAll "_law_part" (top 62) ["_law_walk_here", "_law_which", "_law_base"] := fun _ _ _ _ _ _ us hl => match us, hl with | [_, _, _], _ => rfl
theorem c__law_part (fx : Facts K mg) : Callee P w K mg base 3 "_law_part" (top 62) ["_law_walk_here", "_law_which", "_law_base"] O__law_part := by
  obtain ⟨fd, F⟩ := fx.F__law_part
  refine ⟨fx.g__law_part, fd, F, ?_⟩
  rw [is__law_part.eq]
  refine fn_den F sc__law_part fun cdv A outer s H E hr tk => ?_
  have nd := sc__law_part.nd
  exact (dss_cons (ds_ret (de_callTy call_tuple_of callD_tuple1 (by decide +kernel) fx.n_tuple (da_cons (de_lc [("_law_entry", 3)] (.one 3) rfl nd (by decide) (by exact blkB_ok (by kernel_rfl)) (di_seq (de_var 0)) (fun _ _ _ _ _ => (pg_name nd rfl (by first | exact .inl rfl | exact .inr rfl) (by first | exact .inl rfl | exact .inr rfl))) (fun _ _ _ _ _ => dts_nil) (fun _ _ _ _ _ => (de_callC (c__law_low fx) b__law_low hr (by omega) takes0 (da_cons (de_ix (de_var 3) (de_var 1)) (da_cons (de_mul (de_var 2) (de_ix (de_var 3) de_int)) da_nil))))) da_nil)))
      dss_nil)
noncomputable def D__law_same (R : Op) : SDen := sSeq (sIf (dTru (dIsi "tuple" (dVar 1))) (sSeq (sIf (dOr (dNot (dTru (dIsi "tuple" (dVar 0)))) (dBin oNe (dCall oLen (dCons (dVar 0) (dNil))) (dCall oLen (dCons (dVar 1) (dNil))))) (sSeq (sRet (dC (.bl false))) (sNil)) (sNil)) (sSeq (sFor (dRange1 (dCall oLen (dCons (dVar 1) (dNil)))) (tName 2) (sSeq (sIf (dNot (dTru (dFn 2 R (dCons (dBin oIx (dVar 0) (dVar 2)) (dCons (dBin oIx (dVar 1) (dVar 2)) (dNil)))))) (sSeq (sRet (dC (.bl false))) (sNil)) (sNil)) (sNil))) (sSeq (sRet (dC (.bl true))) (sNil)))) (sNil)) (sSeq (sIf (dIsN (dVar 1)) (sSeq (sRet (dIsN (dVar 0))) (sNil)) (sNil)) (sSeq (sIf (dTru (dIsi "bool" (dVar 1))) (sSeq (sRet (dAnd (dIsi "bool" (dVar 0)) (dBin oEq (dVar 0) (dVar 1)))) (sNil)) (sNil)) (sSeq (sIf (dTru (dIsi "str" (dVar 1))) (sSeq (sRet (dAnd (dIsi "str" (dVar 0)) (dBin oEq (dVar 0) (dVar 1)))) (sNil)) (sNil)) (sSeq (sRet (dAnd (dIsi "int" (dVar 0)) (dAnd (dNot (dIsi "bool" (dVar 0))) (dBin oEq (dVar 0) (dVar 1))))) (sNil)))))
theorem Q__law_same : ∃ F : Nat → Op, F 0 = (fun _ _ => none) ∧ ∀ n, F (n + 1) = fnOf ["_law_told", "_law_due", "_law_k"] (D__law_same (F n)) := rec_ex _ _
noncomputable def OR__law_same : Nat → Op := Classical.choose Q__law_same
instance is__law_same (n : Nat) : Is (OR__law_same (n + 1)) ["_law_told", "_law_due", "_law_k"] (D__law_same (OR__law_same n)) := ⟨(Classical.choose_spec Q__law_same).2 n⟩
noncomputable abbrev O__law_same : Op := OR__law_same 12
theorem sc__law_same : FnScope ["_law_told", "_law_due", "_law_k"] ["_law_told", "_law_due"] (defScope (top 60)) := ⟨rfl, rfl, rfl, by decide +kernel, rfl, by decide +kernel, by decide +kernel⟩
theorem b__law_same : BindsAll "_law_same" (top 60) ["_law_told", "_law_due"] := fun _ _ _ _ _ _ us hl => match us, hl with | [_, _], _ => rfl
theorem cn__law_same (fx : Facts K mg) : ∀ n, Callee P w K mg base (n + 1) "_law_same" (top 60) ["_law_told", "_law_due"] (OR__law_same n)
  | 0 => by
    obtain ⟨fd, F⟩ := fx.F__law_same
    refine ⟨fx.g__law_same, fd, F, ?_⟩
    rw [show OR__law_same 0 = fun _ _ => none from (Classical.choose_spec Q__law_same).1]
    exact fn_none F sc__law_same
  | n + 1 => by
    have cR := cn__law_same fx n
    obtain ⟨fd, F⟩ := fx.F__law_same
    refine ⟨fx.g__law_same, fd, F, ?_⟩
    rw [(is__law_same n).eq]
    refine fn_den F sc__law_same fun cdv A outer s H E hr tk => ?_
    have nd := sc__law_same.nd
    exact (dss_cons (ds_if (dt_truth (de_isi (de_var 1) fx.n_isinstance fx.n_tuple (by decide +kernel) (by decide))) (dss_cons (ds_if (DW.dt (dw_or (dt_not (dt_truth (de_isi (de_var 0) fx.n_isinstance fx.n_tuple (by decide +kernel) (by decide)))) (dw_or1 (dt_ne hr.units (de_len fx.n_len (da_cons (de_var 0) da_nil)) (de_len fx.n_len (da_cons (de_var 1) da_nil)))))) (dss_cons (ds_ret de_bl)
      dss_nil) dss_nil)
      (dss_cons (ds_for (L2.passes_of rfl) rfl (di_range1 fx.n_range (de_len fx.n_len (da_cons (de_var 1) da_nil))) (dg_name 2 nd) (dss_cons (ds_if (dt_not (dt_truth (de_callC cR b__law_same hr (by omega) tk (da_cons (de_ix (de_var 0) (de_var 2)) (da_cons (de_ix (de_var 1) (de_var 2)) da_nil))))) (dss_cons (ds_ret de_bl)
      dss_nil) dss_nil)
      dss_nil))
      (dss_cons (ds_ret de_bl)
      dss_nil))) dss_nil)
      (dss_cons (ds_if (dt_isN (de_var 1)) (dss_cons (ds_ret (de_isN (de_var 0)))
      dss_nil) dss_nil)
      (dss_cons (ds_if (dt_truth (de_isi (de_var 1) fx.n_isinstance fx.n_bool (by decide +kernel) (by decide))) (dss_cons (ds_ret (de_and (de_isi (de_var 0) fx.n_isinstance fx.n_bool (by decide +kernel) (by decide)) (de_one (de_eq hr.units (de_var 0) (de_var 1)))))
      dss_nil) dss_nil)
      (dss_cons (ds_if (dt_truth (de_isi (de_var 1) fx.n_isinstance fx.n_str (by decide +kernel) (by decide))) (dss_cons (ds_ret (de_and (de_isi (de_var 0) fx.n_isinstance fx.n_str (by decide +kernel) (by decide)) (de_one (de_eq hr.units (de_var 0) (de_var 1)))))
      dss_nil) dss_nil)
      (dss_cons (ds_ret (de_and (de_isi (de_var 0) fx.n_isinstance fx.n_int (by decide +kernel) (by decide)) (de_and (de_not (de_isi (de_var 0) fx.n_isinstance fx.n_bool (by decide +kernel) (by decide))) (de_one (de_eq hr.units (de_var 0) (de_var 1))))))
      dss_nil)))))
theorem c__law_same (fx : Facts K mg) : Callee P w K mg base 13 "_law_same" (top 60) ["_law_told", "_law_due"] O__law_same := cn__law_same fx 12
noncomputable def D__law_strange : SDen := sSeq (sSet 3 (dTup (dCons (dBin oMul (dTup (dCons (dC (.int 0)) (dNil))) (dVar 1)) (dCons (dC (.int 1)) (dNil))))) (sSeq (sSet 4 (dLst (dCons (dCall oList1 (dCons (dVar 2) (dNil))) (dCons (dTup (dNil)) (dCons (dC .non) (dCons (dVar 3) (dCons (dBin oPlus (dVar 2) (dTup (dCons (dC .non) (dNil)))) (dCons (dTup (dCons (dTup (dCons (dBin oMul (dTup (dCons (dC (.int 0)) (dNil))) (dBin oPlus (dVar 1) (dC (.int 1)))) (dCons (dC (.int 1)) (dNil)))) (dNil))) (dCons (dTup (dCons (dTup (dCons (dBin oMul (dTup (dCons (dC (.int 0)) (dNil))) (dVar 1)) (dCons (dC (.int 2)) (dNil)))) (dNil))) (dNil)))))))))) (sSeq (sSet 4 (dBin oPlus (dVar 4) (dLst (dCons (dTup (dCons (dTup (dCons (dBin oPlus (dTup (dCons (dC (.bl false)) (dNil))) (dBin oMul (dTup (dCons (dC (.int 0)) (dNil))) (dBin oSub (dVar 1) (dC (.int 1))))) (dCons (dC (.int 1)) (dNil)))) (dNil))) (dCons (dTup (dCons (dLst (dCons (dBin oMul (dTup (dCons (dC (.int 0)) (dNil))) (dVar 1)) (dCons (dC (.int 1)) (dNil)))) (dNil))) (dCons (dC (.str "course")) (dCons (dC (.int 0)) (dCons (dTup (dCons (dVar 3) (dCons (dCall oList1 (dCons (dVar 3) (dNil))) (dNil)))) (dNil))))))))) (sSeq (sRet (dBin oIx (dVar 4) (dBin oMod (dCall oInt1 (dCons (dVar 0) (dNil))) (dC (.int 12))))) (sNil))))
theorem Q__law_strange : ∃ F : Op, F = fnOf ["_law_kind", "_law_size", "_law_flow", "_law_none", "_law_odd_here"] D__law_strange := ⟨_, rfl⟩
noncomputable def O__law_strange : Op := Classical.choose Q__law_strange
instance is__law_strange : Is O__law_strange ["_law_kind", "_law_size", "_law_flow", "_law_none", "_law_odd_here"] D__law_strange := ⟨Classical.choose_spec Q__law_strange⟩
theorem sc__law_strange : FnScope ["_law_kind", "_law_size", "_law_flow", "_law_none", "_law_odd_here"] ["_law_kind", "_law_size", "_law_flow"] (defScope (top 69)) := ⟨rfl, rfl, rfl, by decide +kernel, rfl, by decide +kernel, by decide +kernel⟩
theorem b__law_strange : BindsAll "_law_strange" (top 69) ["_law_kind", "_law_size", "_law_flow"] := fun _ _ _ _ _ _ us hl => match us, hl with | [_, _, _], _ => rfl
theorem c__law_strange (fx : Facts K mg) : Callee P w K mg base 1 "_law_strange" (top 69) ["_law_kind", "_law_size", "_law_flow"] O__law_strange := by
  obtain ⟨fd, F⟩ := fx.F__law_strange
  refine ⟨fx.g__law_strange, fd, F, ?_⟩
  rw [is__law_strange.eq]
  refine fn_den F sc__law_strange fun cdv A outer s H E hr tk => ?_
  have nd := sc__law_strange.nd
  exact (dss_cons (ds_set 3 nd (de_tup (da_cons (de_mul (de_tup (da_cons de_int da_nil)) (de_var 1)) (da_cons de_int da_nil))))
      (dss_cons (ds_set 4 nd (de_lst (da_cons (de_callTy call_list_of callD_list1 (by decide +kernel) fx.n_list (da_cons (de_var 2) da_nil)) (da_cons (de_tup da_nil) (da_cons de_non (da_cons (de_var 3) (da_cons (de_add (de_var 2) (de_tup (da_cons de_non da_nil))) (da_cons (de_tup (da_cons (de_tup (da_cons (de_mul (de_tup (da_cons de_int da_nil)) (de_add (de_var 1) de_int)) (da_cons de_int da_nil))) da_nil)) (da_cons (de_tup (da_cons (de_tup (da_cons (de_mul (de_tup (da_cons de_int da_nil)) (de_var 1)) (da_cons de_int da_nil))) da_nil)) da_nil)))))))))
      (dss_cons (ds_set 4 nd (de_add (de_var 4) (de_lst (da_cons (de_tup (da_cons (de_tup (da_cons (de_add (de_tup (da_cons de_bl da_nil)) (de_mul (de_tup (da_cons de_int da_nil)) (de_sub (de_var 1) de_int))) (da_cons de_int da_nil))) da_nil)) (da_cons (de_tup (da_cons (de_lst (da_cons (de_mul (de_tup (da_cons de_int da_nil)) (de_var 1)) (da_cons de_int da_nil))) da_nil)) (da_cons de_str (da_cons de_int (da_cons (de_tup (da_cons (de_var 3) (da_cons (de_callTy call_list_of callD_list1 (by decide +kernel) fx.n_list (da_cons (de_var 3) da_nil)) da_nil))) da_nil))))))))
      (dss_cons (ds_ret (de_ix (de_var 4) (de_mod (de_callTy call_int1 callD_int1 (by decide +kernel) fx.n_int (da_cons (de_var 0) da_nil)) de_int)))
      dss_nil))))
noncomputable def D__law_walk : SDen := sSeq (sSet 6 (dCall oLen (dCons (dVar 1) (dNil)))) (sSeq (sSet 7 (dBin oPlus (dC (.int 1)) (dBin oMul (dC (.int 3)) (dCall oInt1 (dCons (dBin oGt (dCall oLen (dCons (dVar 4) (dNil))) (dC (.int 0))) (dNil)))))) (sSeq (sSet 8 (dLc [9] (dItems (dVar 1)) (.one 9) (dYes) (dVar 9))) (sSeq (sSet 10 (dBin oMul (dLst (dCons (dC (.int 0)) (dNil))) (dVar 6))) (sSeq (sSet 11 (dBin oMul (dLst (dCons (dC (.int 0)) (dNil))) (dVar 6))) (sSeq (sSet 12 (dC (.int 1))) (sSeq (sSet 13 (dLstM (dNil))) (sSeq (sFor (dRange1 (dVar 5)) (tName 14) (sSeq (sSet 8 (dLc [9] (dItems (dVar 8)) (.one 9) (dYes) (dBin oMul (dVar 7) (dVar 9)))) (sSeq (sSet 10 (dLc [9] (dItems (dVar 10)) (.one 9) (dYes) (dBin oMul (dVar 7) (dVar 9)))) (sSeq (sSet 11 (dLc [9] (dItems (dVar 11)) (.one 9) (dYes) (dBin oMul (dVar 7) (dVar 9)))) (sSeq (sSet 12 (dBin oMul (dVar 12) (dVar 7))) (sSeq (sSet 15 (dBin oMul (dLst (dCons (dC (.int 0)) (dNil))) (dVar 6))) (sSeq (sIf (dBin oGt (dCall oLen (dCons (dVar 4) (dNil))) (dC (.int 0))) (sSeq (sSet 15 (dLc [17] (dRange1 (dVar 6)) (.one 17) (dYes) (dBin oDiv (dBin oMul (dBin oIx (dVar 8) (dVar 17)) (dBin oIx (dBin oIx (dVar 4) (dVar 14)) (dVar 17))) (dC (.int 4))))) (sNil)) (sSeq (sIf (dBin oEq (dVar 3) (dC (.str "go"))) (sSeq (sSet 15 (dLc [9] (dItems (dVar 8)) (.one 9) (dYes) (dVar 9))) (sNil)) (sNil)) (sNil))) (sSeq (sIf (dBin oEq (dVar 3) (dC (.str "stay"))) (sSeq (sSet 16 (dLc [17] (dRange1 (dVar 6)) (.one 17) (dYes) (dCall oMax2 (dCons (dBin oIx (dVar 15) (dVar 17)) (dCons (dBin oSub (dBin oPlus (dBin oIx (dVar 8) (dVar 17)) (dBin oIx (dVar 11) (dVar 17))) (dBin oMul (dBin oIx (dVar 2) (dVar 17)) (dVar 12))) (dNil)))))) (sNil)) (sSeq (sSet 16 (dLc [17] (dRange1 (dVar 6)) (.one 17) (dYes) (dCall oMin2 (dCons (dBin oIx (dVar 15) (dVar 17)) (dCons (dBin oSub (dBin oMul (dBin oIx (dVar 2) (dVar 17)) (dVar 12)) (dBin oIx (dVar 10) (dVar 17))) (dNil)))))) (sNil))) (sSeq (sExpr (dApp (dVar 13) (dTup (dCons (dVar 8) (dCons (dVar 10) (dCons (dVar 11) (dCons (dVar 12) (dNil)))))))) (sSeq (sSet 11 (dLc [17] (dRange1 (dVar 6)) (.one 17) (dYes) (dBin oMul (dBin oSub (dBin oPlus (dBin oIx (dVar 11) (dVar 17)) (dBin oIx (dVar 8) (dVar 17))) (dBin oIx (dVar 16) (dVar 17))) (dBin oIx (dVar 0) (dC (.int 1)))))) (sSeq (sSet 10 (dLc [17] (dRange1 (dVar 6)) (.one 17) (dYes) (dBin oMul (dBin oPlus (dBin oIx (dVar 10) (dVar 17)) (dBin oIx (dVar 16) (dVar 17))) (dBin oIx (dVar 0) (dC (.int 1)))))) (sSeq (sSet 8 (dLc [18] (dRange1 (dVar 6)) (.one 18) (dYes) (dCall oSum (dCons (dLc [17] (dRange1 (dVar 6)) (.one 17) (dYes) (dBin oMul (dBin oIx (dVar 16) (dVar 17)) (dBin oIx (dBin oIx (dBin oIx (dVar 0) (dC (.int 0))) (dVar 17)) (dVar 18)))) (dNil))))) (sSeq (sSet 12 (dBin oMul (dVar 12) (dBin oIx (dVar 0) (dC (.int 1))))) (sNil)))))))))))))) (sSeq (sExpr (dApp (dVar 13) (dTup (dCons (dVar 8) (dCons (dVar 10) (dCons (dVar 11) (dCons (dVar 12) (dNil)))))))) (sSeq (sRet (dVar 13)) (sNil))))))))))
theorem Q__law_walk : ∃ F : Op, F = fnOf ["_law_net_here", "_law_begin", "_law_limit", "_law_manner", "_law_shares", "_law_upto", "_law_size", "_law_four", "_law_stand", "_law_top", "_law_gone", "_law_kept", "_law_scale", "_law_told", "_law_k", "_law_wants", "_law_goes", "_law_i", "_law_j"] D__law_walk := ⟨_, rfl⟩
noncomputable def O__law_walk : Op := Classical.choose Q__law_walk
instance is__law_walk : Is O__law_walk ["_law_net_here", "_law_begin", "_law_limit", "_law_manner", "_law_shares", "_law_upto", "_law_size", "_law_four", "_law_stand", "_law_top", "_law_gone", "_law_kept", "_law_scale", "_law_told", "_law_k", "_law_wants", "_law_goes", "_law_i", "_law_j"] D__law_walk := ⟨Classical.choose_spec Q__law_walk⟩
theorem sc__law_walk : FnScope ["_law_net_here", "_law_begin", "_law_limit", "_law_manner", "_law_shares", "_law_upto", "_law_size", "_law_four", "_law_stand", "_law_top", "_law_gone", "_law_kept", "_law_scale", "_law_told", "_law_k", "_law_wants", "_law_goes", "_law_i", "_law_j"] ["_law_net_here", "_law_begin", "_law_limit", "_law_manner", "_law_shares", "_law_upto"] (defScope (top 61)) := ⟨rfl, rfl, rfl, by decide +kernel, rfl, by decide +kernel, by decide +kernel⟩
theorem b__law_walk : BindsAll "_law_walk" (top 61) ["_law_net_here", "_law_begin", "_law_limit", "_law_manner", "_law_shares", "_law_upto"] := fun _ _ _ _ _ _ us hl => match us, hl with | [_, _, _, _, _, _], _ => rfl
theorem c__law_walk (fx : Facts K mg) : Callee P w K mg base 1 "_law_walk" (top 61) ["_law_net_here", "_law_begin", "_law_limit", "_law_manner", "_law_shares", "_law_upto"] O__law_walk := by
  obtain ⟨fd, F⟩ := fx.F__law_walk
  refine ⟨fx.g__law_walk, fd, F, ?_⟩
  rw [is__law_walk.eq]
  refine fn_den F sc__law_walk fun cdv A outer s H E hr tk => ?_
  have nd := sc__law_walk.nd
  exact (dss_cons (ds_set 6 nd (de_len fx.n_len (da_cons (de_var 1) da_nil)))
      (dss_cons (ds_set 7 nd (de_add de_int (de_mul de_int (de_callTy call_int1 callD_int1 (by decide +kernel) fx.n_int (da_cons (de_gt (de_len fx.n_len (da_cons (de_var 4) da_nil)) de_int) da_nil)))))
      (dss_cons (ds_set 8 nd (de_lc [("_law_top", 9)] (.one 9) rfl nd (by decide) (by exact blkB_ok (by kernel_rfl)) (di_seq (de_var 1)) (fun _ _ _ _ _ => (pg_name nd rfl (by first | exact .inl rfl | exact .inr rfl) (by first | exact .inl rfl | exact .inr rfl))) (fun _ _ _ _ _ => dts_nil) (fun _ _ _ _ _ => (de_var 9))))
      (dss_cons (ds_set 10 nd (de_mul (de_lst (da_cons de_int da_nil)) (de_var 6)))
      (dss_cons (ds_set 11 nd (de_mul (de_lst (da_cons de_int da_nil)) (de_var 6)))
      (dss_cons (ds_set 12 nd de_int)
      (dss_cons (ds_set 13 nd (de_lstM da_nil))
      (dss_cons (ds_for (L2.passes_of rfl) rfl (di_range1 fx.n_range (de_var 5)) (dg_name 14 nd) (dss_cons (ds_set 8 nd (de_lc [("_law_top", 9)] (.one 9) rfl nd (by decide) (by exact blkB_ok (by kernel_rfl)) (di_seq (de_var 8)) (fun _ _ _ _ _ => (pg_name nd rfl (by first | exact .inl rfl | exact .inr rfl) (by first | exact .inl rfl | exact .inr rfl))) (fun _ _ _ _ _ => dts_nil) (fun _ _ _ _ _ => (de_mul (de_var 7) (de_var 9)))))
      (dss_cons (ds_set 10 nd (de_lc [("_law_top", 9)] (.one 9) rfl nd (by decide) (by exact blkB_ok (by kernel_rfl)) (di_seq (de_var 10)) (fun _ _ _ _ _ => (pg_name nd rfl (by first | exact .inl rfl | exact .inr rfl) (by first | exact .inl rfl | exact .inr rfl))) (fun _ _ _ _ _ => dts_nil) (fun _ _ _ _ _ => (de_mul (de_var 7) (de_var 9)))))
      (dss_cons (ds_set 11 nd (de_lc [("_law_top", 9)] (.one 9) rfl nd (by decide) (by exact blkB_ok (by kernel_rfl)) (di_seq (de_var 11)) (fun _ _ _ _ _ => (pg_name nd rfl (by first | exact .inl rfl | exact .inr rfl) (by first | exact .inl rfl | exact .inr rfl))) (fun _ _ _ _ _ => dts_nil) (fun _ _ _ _ _ => (de_mul (de_var 7) (de_var 9)))))
      (dss_cons (ds_set 12 nd (de_mul (de_var 12) (de_var 7)))
      (dss_cons (ds_set 15 nd (de_mul (de_lst (da_cons de_int da_nil)) (de_var 6)))
      (dss_cons (ds_if (dt_gt (de_len fx.n_len (da_cons (de_var 4) da_nil)) de_int) (dss_cons (ds_set 15 nd (de_lc [("_law_i", 17)] (.one 17) rfl nd (by decide) (by exact blkB_ok (by kernel_rfl)) (di_range1 fx.n_range (de_var 6)) (fun _ _ _ _ _ => (pg_name nd rfl (by first | exact .inl rfl | exact .inr rfl) (by first | exact .inl rfl | exact .inr rfl))) (fun _ _ _ _ _ => dts_nil) (fun _ _ _ _ _ => (de_div (de_mul (de_ix (de_var 8) (de_var 17)) (de_ix (de_ix (de_var 4) (de_var 14)) (de_var 17))) de_int))))
      dss_nil) (dss_cons (ds_if (dt_eq hr.units (de_var 3) de_str) (dss_cons (ds_set 15 nd (de_lc [("_law_top", 9)] (.one 9) rfl nd (by decide) (by exact blkB_ok (by kernel_rfl)) (di_seq (de_var 8)) (fun _ _ _ _ _ => (pg_name nd rfl (by first | exact .inl rfl | exact .inr rfl) (by first | exact .inl rfl | exact .inr rfl))) (fun _ _ _ _ _ => dts_nil) (fun _ _ _ _ _ => (de_var 9))))
      dss_nil) dss_nil)
      dss_nil))
      (dss_cons (ds_if (dt_eq hr.units (de_var 3) de_str) (dss_cons (ds_set 16 nd (de_lc [("_law_i", 17)] (.one 17) rfl nd (by decide) (by exact blkB_ok (by kernel_rfl)) (di_range1 fx.n_range (de_var 6)) (fun _ _ _ _ _ => (pg_name nd rfl (by first | exact .inl rfl | exact .inr rfl) (by first | exact .inl rfl | exact .inr rfl))) (fun _ _ _ _ _ => dts_nil) (fun _ _ _ _ _ => (de_callB (call_max2 rfl) callD_max2 (by decide +kernel) fx.n_max (da_cons (de_ix (de_var 15) (de_var 17)) (da_cons (de_sub (de_add (de_ix (de_var 8) (de_var 17)) (de_ix (de_var 11) (de_var 17))) (de_mul (de_ix (de_var 2) (de_var 17)) (de_var 12))) da_nil))))))
      dss_nil) (dss_cons (ds_set 16 nd (de_lc [("_law_i", 17)] (.one 17) rfl nd (by decide) (by exact blkB_ok (by kernel_rfl)) (di_range1 fx.n_range (de_var 6)) (fun _ _ _ _ _ => (pg_name nd rfl (by first | exact .inl rfl | exact .inr rfl) (by first | exact .inl rfl | exact .inr rfl))) (fun _ _ _ _ _ => dts_nil) (fun _ _ _ _ _ => (de_callB (call_min2 rfl) callD_min2 (by decide +kernel) fx.n_min (da_cons (de_ix (de_var 15) (de_var 17)) (da_cons (de_sub (de_mul (de_ix (de_var 2) (de_var 17)) (de_var 12)) (de_ix (de_var 10) (de_var 17))) da_nil))))))
      dss_nil))
      (dss_cons (ds_expr (de_app (de_var 13) (de_tup (da_cons (de_var 8) (da_cons (de_var 10) (da_cons (de_var 11) (da_cons (de_var 12) da_nil)))))))
      (dss_cons (ds_set 11 nd (de_lc [("_law_i", 17)] (.one 17) rfl nd (by decide) (by exact blkB_ok (by kernel_rfl)) (di_range1 fx.n_range (de_var 6)) (fun _ _ _ _ _ => (pg_name nd rfl (by first | exact .inl rfl | exact .inr rfl) (by first | exact .inl rfl | exact .inr rfl))) (fun _ _ _ _ _ => dts_nil) (fun _ _ _ _ _ => (de_mul (de_sub (de_add (de_ix (de_var 11) (de_var 17)) (de_ix (de_var 8) (de_var 17))) (de_ix (de_var 16) (de_var 17))) (de_ix (de_var 0) de_int)))))
      (dss_cons (ds_set 10 nd (de_lc [("_law_i", 17)] (.one 17) rfl nd (by decide) (by exact blkB_ok (by kernel_rfl)) (di_range1 fx.n_range (de_var 6)) (fun _ _ _ _ _ => (pg_name nd rfl (by first | exact .inl rfl | exact .inr rfl) (by first | exact .inl rfl | exact .inr rfl))) (fun _ _ _ _ _ => dts_nil) (fun _ _ _ _ _ => (de_mul (de_add (de_ix (de_var 10) (de_var 17)) (de_ix (de_var 16) (de_var 17))) (de_ix (de_var 0) de_int)))))
      (dss_cons (ds_set 8 nd (de_lc [("_law_j", 18)] (.one 18) rfl nd (by decide) (by exact blkB_ok (by kernel_rfl)) (di_range1 fx.n_range (de_var 6)) (fun _ _ _ _ _ => (pg_name nd rfl (by first | exact .inl rfl | exact .inr rfl) (by first | exact .inl rfl | exact .inr rfl))) (fun _ _ _ _ _ => dts_nil) (fun _ _ _ _ _ => (de_callB (call_sumA rfl) callD_sum (by decide +kernel) fx.n_sum (da_cons (de_lc [("_law_i", 17)] (.one 17) rfl nd (by decide) (by exact blkB_ok (by kernel_rfl)) (di_range1 fx.n_range (de_var 6)) (fun _ _ _ _ _ => (pg_name nd rfl (by first | exact .inl rfl | exact .inr rfl) (by first | exact .inl rfl | exact .inr rfl))) (fun _ _ _ _ _ => dts_nil) (fun _ _ _ _ _ => (de_mul (de_ix (de_var 16) (de_var 17)) (de_ix (de_ix (de_ix (de_var 0) de_int) (de_var 17)) (de_var 18))))) da_nil)))))
      (dss_cons (ds_set 12 nd (de_mul (de_var 12) (de_ix (de_var 0) de_int)))
      dss_nil)))))))))))))
      (dss_cons (ds_expr (de_app (de_var 13) (de_tup (da_cons (de_var 8) (da_cons (de_var 10) (da_cons (de_var 11) (da_cons (de_var 12) da_nil)))))))
      (dss_cons (ds_ret (de_var 13))
      dss_nil))))))))))
noncomputable def D__law_bends : SDen := sSeq (sSet 6 (dFn 2 O__law_low (dCons (dVar 1) (dCons (dVar 4) (dNil))))) (sSeq (sSet 7 (dFn 3 O__law_part (dCons (dFn 6 O__law_walk (dCons (dVar 0) (dCons (dVar 1) (dCons (dVar 2) (dCons (dC (.str "stay")) (dCons (dVar 3) (dCons (dC (.int 5)) (dNil)))))))) (dCons (dC (.int 1)) (dCons (dVar 4) (dNil)))))) (sSeq (sSet 8 (dFn 5 O__law_bent (dCons (dVar 7) (dCons (dBin oMod (dCall oInt1 (dCons (dBin oIx (dVar 5) (dC (.int 0))) (dNil))) (dC (.int 8))) (dCons (dBin oMod (dCall oInt1 (dCons (dBin oIx (dVar 5) (dC (.int 1))) (dNil))) (dC (.int 6))) (dCons (dBin oMod (dCall oInt1 (dCons (dBin oIx (dVar 5) (dC (.int 2))) (dNil))) (dCall oLen (dCons (dVar 1) (dNil)))) (dCons (dBin oIx (dTup (dCons (dC (.int 12)) (dCons (dC (.int 2)) (dCons (dC (.int 3)) (dCons (dC (.int 1)) (dNil)))))) (dBin oMod (dCall oInt1 (dCons (dBin oIx (dVar 5) (dC (.int 3))) (dNil))) (dC (.int 4)))) (dNil)))))))) (sSeq (sSet 9 (dFn 3 O__law_fits (dCons (dVar 0) (dCons (dVar 6) (dCons (dVar 8) (dNil)))))) (sSeq (sIf (dNot (dTru (dFn 2 O__law_same (dCons (dFnK 3 3 [2, 1, 0] O_is_course (dCons (dVar 8) (dCons (dVar 6) (dCons (dVar 0) (dNil))))) (dCons (dVar 9) (dNil)))))) (sSeq (sRet (dC (.bl false))) (sNil)) (sNil)) (sSeq (sFor (dItems (dLst (dCons (dC (.str "stand")) (dCons (dC (.str "kept")) (dNil))))) (tName 10) (sSeq (sSet 11 (dFn 5 O__law_ask (dCons (dVar 10) (dCons (dVar 0) (dCons (dVar 6) (dCons (dVar 8) (dCons (dC (.int 0)) (dNil)))))))) (sSeq (sIf (dAnd (dTru (dVar 9)) (dOr (dBin oNe (dBin oIx (dVar 11) (dC (.int 0))) (dC (.str "told"))) (dOr (dNot (dTru (dIsi "tuple" (dBin oIx (dVar 11) (dC (.int 1)))))) (dBin oNe (dCall oLen (dCons (dBin oIx (dVar 11) (dC (.int 1))) (dNil))) (dBin oSub (dCall oLen (dCons (dVar 8) (dNil))) (dC (.int 1))))))) (sSeq (sRet (dC (.bl false))) (sNil)) (sNil)) (sSeq (sIf (dAnd (dNot (dTru (dVar 9))) (dNot (dTru (dFn 2 O__law_same (dCons (dVar 11) (dCons (dTup (dCons (dC (.str "refused")) (dCons (dC (.str "course")) (dCons (dBin oSub (dC (.int 0)) (dC (.int 1))) (dNil))))) (dNil))))))) (sSeq (sRet (dC (.bl false))) (sNil)) (sNil)) (sNil))))) (sSeq (sSet 12 (dFn 3 O__law_strange (dCons (dBin oIx (dVar 5) (dC (.int 4))) (dCons (dCall oLen (dCons (dVar 1) (dNil))) (dCons (dVar 7) (dNil)))))) (sSeq (sIf (dNot (dTru (dFn 2 O__law_same (dCons (dFn 3 O_is_course (dCons (dVar 0) (dCons (dVar 6) (dCons (dVar 12) (dNil))))) (dCons (dC (.bl false)) (dNil)))))) (sSeq (sRet (dC (.bl false))) (sNil)) (sNil)) (sSeq (sIf (dNot (dTru (dFn 2 O__law_same (dCons (dFn 5 O__law_ask (dCons (dC (.str "stand")) (dCons (dVar 0) (dCons (dVar 6) (dCons (dVar 12) (dCons (dC (.int 0)) (dNil))))))) (dCons (dTup (dCons (dC (.str "refused")) (dCons (dC (.str "course")) (dCons (dBin oSub (dC (.int 0)) (dC (.int 1))) (dNil))))) (dNil)))))) (sSeq (sRet (dC (.bl false))) (sNil)) (sNil)) (sSeq (sRet (dFn 2 O__law_same (dCons (dFn 5 O__law_ask (dCons (dC (.str "kept")) (dCons (dVar 0) (dCons (dVar 6) (dCons (dVar 12) (dCons (dC (.int 0)) (dNil))))))) (dCons (dTup (dCons (dC (.str "refused")) (dCons (dC (.str "course")) (dCons (dBin oSub (dC (.int 0)) (dC (.int 1))) (dNil))))) (dNil))))) (sNil))))))))))
theorem Q__law_bends : ∃ F : Op, F = fnOf ["_law_net_here", "_law_begin", "_law_limit", "_law_shares", "_law_base", "_law_row", "_law_load", "_law_flow", "_law_bent_here", "_law_due", "_law_which", "_law_told", "_law_odd_here"] D__law_bends := ⟨_, rfl⟩
noncomputable def O__law_bends : Op := Classical.choose Q__law_bends
instance is__law_bends : Is O__law_bends ["_law_net_here", "_law_begin", "_law_limit", "_law_shares", "_law_base", "_law_row", "_law_load", "_law_flow", "_law_bent_here", "_law_due", "_law_which", "_law_told", "_law_odd_here"] D__law_bends := ⟨Classical.choose_spec Q__law_bends⟩
theorem sc__law_bends : FnScope ["_law_net_here", "_law_begin", "_law_limit", "_law_shares", "_law_base", "_law_row", "_law_load", "_law_flow", "_law_bent_here", "_law_due", "_law_which", "_law_told", "_law_odd_here"] ["_law_net_here", "_law_begin", "_law_limit", "_law_shares", "_law_base", "_law_row"] (defScope (top 72)) := ⟨rfl, rfl, rfl, by decide +kernel, rfl, by decide +kernel, by decide +kernel⟩
theorem b__law_bends : BindsAll "_law_bends" (top 72) ["_law_net_here", "_law_begin", "_law_limit", "_law_shares", "_law_base", "_law_row"] := fun _ _ _ _ _ _ us hl => match us, hl with | [_, _, _, _, _, _], _ => rfl
theorem c__law_bends (fx : Facts K mg) : Callee P w K mg base 14 "_law_bends" (top 72) ["_law_net_here", "_law_begin", "_law_limit", "_law_shares", "_law_base", "_law_row"] O__law_bends := by
  obtain ⟨fd, F⟩ := fx.F__law_bends
  refine ⟨fx.g__law_bends, fd, F, ?_⟩
  rw [is__law_bends.eq]
  refine fn_den F sc__law_bends fun cdv A outer s H E hr tk => ?_
  have nd := sc__law_bends.nd
  exact (dss_cons (ds_set 6 nd (de_callC (c__law_low fx) b__law_low hr (by omega) tk (da_cons (de_var 1) (da_cons (de_var 4) da_nil))))
      (dss_cons (ds_set 7 nd (de_callC (c__law_part fx) b__law_part hr (by omega) tk (da_cons (de_callC (c__law_walk fx) b__law_walk hr (by omega) tk (da_cons (de_var 0) (da_cons (de_var 1) (da_cons (de_var 2) (da_cons de_str (da_cons (de_var 3) (da_cons de_int da_nil))))))) (da_cons de_int (da_cons (de_var 4) da_nil)))))
      (dss_cons (ds_set 8 nd (de_callC (c__law_bent fx) b__law_bent hr (by omega) tk (da_cons (de_var 7) (da_cons (de_mod (de_callTy call_int1 callD_int1 (by decide +kernel) fx.n_int (da_cons (de_ix (de_var 5) de_int) da_nil)) de_int) (da_cons (de_mod (de_callTy call_int1 callD_int1 (by decide +kernel) fx.n_int (da_cons (de_ix (de_var 5) de_int) da_nil)) de_int) (da_cons (de_mod (de_callTy call_int1 callD_int1 (by decide +kernel) fx.n_int (da_cons (de_ix (de_var 5) de_int) da_nil)) (de_len fx.n_len (da_cons (de_var 1) da_nil))) (da_cons (de_ix (de_tup (da_cons de_int (da_cons de_int (da_cons de_int (da_cons de_int da_nil))))) (de_mod (de_callTy call_int1 callD_int1 (by decide +kernel) fx.n_int (da_cons (de_ix (de_var 5) de_int) da_nil)) de_int)) da_nil)))))))
      (dss_cons (ds_set 9 nd (de_callC (c__law_fits fx) b__law_fits hr (by omega) tk (da_cons (de_var 0) (da_cons (de_var 6) (da_cons (de_var 8) da_nil)))))
      (dss_cons (ds_if (dt_not (dt_truth (de_callC (c__law_same fx) b__law_same hr (by omega) tk (da_cons (de_callKC [2, 1, 0] (c_is_course fx) bk_is_course_thing_start_web hr (by omega) tk (dk_cons (de_var 8) (dk_cons (de_var 6) (dk_cons (de_var 0) dk_nil)))) (da_cons (de_var 9) da_nil))))) (dss_cons (ds_ret de_bl)
      dss_nil) dss_nil)
      (dss_cons (ds_for (L2.passes_of rfl) rfl (di_seq (de_lst (da_cons de_str (da_cons de_str da_nil)))) (dg_name 10 nd) (dss_cons (ds_set 11 nd (de_callC (c__law_ask fx) b__law_ask hr (by omega) tk (da_cons (de_var 10) (da_cons (de_var 0) (da_cons (de_var 6) (da_cons (de_var 8) (da_cons de_int da_nil)))))))
      (dss_cons (ds_if (DW.dt (dw_and (dt_truth (de_var 9)) (dw_and1 (DW.dt (dw_or (dt_ne hr.units (de_ix (de_var 11) de_int) de_str) (dw_or (dt_not (dt_truth (de_isi (de_ix (de_var 11) de_int) fx.n_isinstance fx.n_tuple (by decide +kernel) (by decide)))) (dw_or1 (dt_ne hr.units (de_len fx.n_len (da_cons (de_ix (de_var 11) de_int) da_nil)) (de_sub (de_len fx.n_len (da_cons (de_var 8) da_nil)) de_int))))))))) (dss_cons (ds_ret de_bl)
      dss_nil) dss_nil)
      (dss_cons (ds_if (DW.dt (dw_and (dt_not (dt_truth (de_var 9))) (dw_and1 (dt_not (dt_truth (de_callC (c__law_same fx) b__law_same hr (by omega) tk (da_cons (de_var 11) (da_cons (de_tup (da_cons de_str (da_cons de_str (da_cons (de_sub de_int de_int) da_nil)))) da_nil)))))))) (dss_cons (ds_ret de_bl)
      dss_nil) dss_nil)
      dss_nil))))
      (dss_cons (ds_set 12 nd (de_callC (c__law_strange fx) b__law_strange hr (by omega) tk (da_cons (de_ix (de_var 5) de_int) (da_cons (de_len fx.n_len (da_cons (de_var 1) da_nil)) (da_cons (de_var 7) da_nil)))))
      (dss_cons (ds_if (dt_not (dt_truth (de_callC (c__law_same fx) b__law_same hr (by omega) tk (da_cons (de_callC (c_is_course fx) b_is_course hr (by omega) tk (da_cons (de_var 0) (da_cons (de_var 6) (da_cons (de_var 12) da_nil)))) (da_cons de_bl da_nil))))) (dss_cons (ds_ret de_bl)
      dss_nil) dss_nil)
      (dss_cons (ds_if (dt_not (dt_truth (de_callC (c__law_same fx) b__law_same hr (by omega) tk (da_cons (de_callC (c__law_ask fx) b__law_ask hr (by omega) tk (da_cons de_str (da_cons (de_var 0) (da_cons (de_var 6) (da_cons (de_var 12) (da_cons de_int da_nil)))))) (da_cons (de_tup (da_cons de_str (da_cons de_str (da_cons (de_sub de_int de_int) da_nil)))) da_nil))))) (dss_cons (ds_ret de_bl)
      dss_nil) dss_nil)
      (dss_cons (ds_ret (de_callC (c__law_same fx) b__law_same hr (by omega) tk (da_cons (de_callC (c__law_ask fx) b__law_ask hr (by omega) tk (da_cons de_str (da_cons (de_var 0) (da_cons (de_var 6) (da_cons (de_var 12) (da_cons de_int da_nil)))))) (da_cons (de_tup (da_cons de_str (da_cons de_str (da_cons (de_sub de_int de_int) da_nil)))) da_nil))))
      dss_nil))))))))))
noncomputable def D__law_hand : SDen := sSeq (sSet 0 (dTup (dCons (dTup (dCons (dTup (dCons (dC (.int 1)) (dCons (dC (.int 1)) (dNil)))) (dCons (dTup (dCons (dC (.int 1)) (dCons (dC (.int 1)) (dNil)))) (dNil)))) (dCons (dC (.int 2)) (dNil))))) (sSeq (sSet 1 (dTup (dCons (dTup (dCons (dC (.int 1)) (dCons (dC (.int 0)) (dNil)))) (dCons (dC (.int 1)) (dNil))))) (sSeq (sSet 2 (dTup (dCons (dTup (dCons (dTup (dCons (dC (.int 0)) (dCons (dC (.int 0)) (dNil)))) (dCons (dC (.int 1)) (dNil)))) (dCons (dTup (dCons (dTup (dCons (dC (.int 1)) (dCons (dC (.int 0)) (dNil)))) (dCons (dC (.int 2)) (dNil)))) (dCons (dTup (dCons (dTup (dCons (dC (.int 3)) (dCons (dC (.int 0)) (dNil)))) (dCons (dC (.int 4)) (dNil)))) (dNil)))))) (sSeq (sIf (dNot (dTru (dFn 2 O__law_same (dCons (dFnK 3 3 [2, 1, 0] O_standing_course (dCons (dVar 2) (dCons (dVar 1) (dCons (dVar 0) (dNil))))) (dCons (dTup (dCons (dTup (dCons (dTup (dCons (dC (.int 1)) (dCons (dC (.int 0)) (dNil)))) (dCons (dC (.int 1)) (dNil)))) (dCons (dTup (dCons (dTup (dCons (dC (.int 1)) (dCons (dC (.int 1)) (dNil)))) (dCons (dC (.int 4)) (dNil)))) (dNil)))) (dNil)))))) (sSeq (sRet (dC (.bl false))) (sNil)) (sNil)) (sSeq (sIf (dNot (dTru (dFn 2 O__law_same (dCons (dFnK 3 3 [2, 1, 0] O_kept_course (dCons (dVar 2) (dCons (dVar 1) (dCons (dVar 0) (dNil))))) (dCons (dTup (dCons (dTup (dCons (dTup (dCons (dC (.int 1)) (dCons (dC (.int 0)) (dNil)))) (dCons (dC (.int 2)) (dNil)))) (dCons (dTup (dCons (dTup (dCons (dC (.int 2)) (dCons (dC (.int 1)) (dNil)))) (dCons (dC (.int 4)) (dNil)))) (dNil)))) (dNil)))))) (sSeq (sRet (dC (.bl false))) (sNil)) (sNil)) (sSeq (sRet (dFn 2 O__law_same (dCons (dFn 4 O_go_course (dCons (dVar 0) (dCons (dVar 1) (dCons (dVar 1) (dCons (dC (.int 1)) (dNil)))))) (dCons (dTup (dCons (dTup (dCons (dTup (dCons (dC (.int 0)) (dCons (dC (.int 0)) (dNil)))) (dCons (dC (.int 1)) (dNil)))) (dCons (dTup (dCons (dTup (dCons (dC (.int 1)) (dCons (dC (.int 0)) (dNil)))) (dCons (dC (.int 1)) (dNil)))) (dNil)))) (dNil))))) (sNil))))))
theorem Q__law_hand : ∃ F : Op, F = fnOf ["_law_net_here", "_law_left", "_law_gone"] D__law_hand := ⟨_, rfl⟩
noncomputable def O__law_hand : Op := Classical.choose Q__law_hand
instance is__law_hand : Is O__law_hand ["_law_net_here", "_law_left", "_law_gone"] D__law_hand := ⟨Classical.choose_spec Q__law_hand⟩
theorem sc__law_hand : FnScope ["_law_net_here", "_law_left", "_law_gone"] [] (defScope (top 74)) := ⟨rfl, rfl, rfl, by decide +kernel, rfl, by decide +kernel, by decide +kernel⟩
theorem b__law_hand : BindsAll "_law_hand" (top 74) [] := fun _ _ _ _ _ _ us hl => match us, hl with | [], _ => rfl
theorem c__law_hand (fx : Facts K mg) : Callee P w K mg base 14 "_law_hand" (top 74) [] O__law_hand := by
  obtain ⟨fd, F⟩ := fx.F__law_hand
  refine ⟨fx.g__law_hand, fd, F, ?_⟩
  rw [is__law_hand.eq]
  refine fn_den F sc__law_hand fun cdv A outer s H E hr tk => ?_
  have nd := sc__law_hand.nd
  exact (dss_cons (ds_set 0 nd (de_tup (da_cons (de_tup (da_cons (de_tup (da_cons de_int (da_cons de_int da_nil))) (da_cons (de_tup (da_cons de_int (da_cons de_int da_nil))) da_nil))) (da_cons de_int da_nil))))
      (dss_cons (ds_set 1 nd (de_tup (da_cons (de_tup (da_cons de_int (da_cons de_int da_nil))) (da_cons de_int da_nil))))
      (dss_cons (ds_set 2 nd (de_tup (da_cons (de_tup (da_cons (de_tup (da_cons de_int (da_cons de_int da_nil))) (da_cons de_int da_nil))) (da_cons (de_tup (da_cons (de_tup (da_cons de_int (da_cons de_int da_nil))) (da_cons de_int da_nil))) (da_cons (de_tup (da_cons (de_tup (da_cons de_int (da_cons de_int da_nil))) (da_cons de_int da_nil))) da_nil)))))
      (dss_cons (ds_if (dt_not (dt_truth (de_callC (c__law_same fx) b__law_same hr (by omega) tk (da_cons (de_callKC [2, 1, 0] (c_standing_course fx) bk_standing_course_course_start_web hr (by omega) tk (dk_cons (de_var 2) (dk_cons (de_var 1) (dk_cons (de_var 0) dk_nil)))) (da_cons (de_tup (da_cons (de_tup (da_cons (de_tup (da_cons de_int (da_cons de_int da_nil))) (da_cons de_int da_nil))) (da_cons (de_tup (da_cons (de_tup (da_cons de_int (da_cons de_int da_nil))) (da_cons de_int da_nil))) da_nil))) da_nil))))) (dss_cons (ds_ret de_bl)
      dss_nil) dss_nil)
      (dss_cons (ds_if (dt_not (dt_truth (de_callC (c__law_same fx) b__law_same hr (by omega) tk (da_cons (de_callKC [2, 1, 0] (c_kept_course fx) bk_kept_course_course_start_web hr (by omega) tk (dk_cons (de_var 2) (dk_cons (de_var 1) (dk_cons (de_var 0) dk_nil)))) (da_cons (de_tup (da_cons (de_tup (da_cons (de_tup (da_cons de_int (da_cons de_int da_nil))) (da_cons de_int da_nil))) (da_cons (de_tup (da_cons (de_tup (da_cons de_int (da_cons de_int da_nil))) (da_cons de_int da_nil))) da_nil))) da_nil))))) (dss_cons (ds_ret de_bl)
      dss_nil) dss_nil)
      (dss_cons (ds_ret (de_callC (c__law_same fx) b__law_same hr (by omega) tk (da_cons (de_callC (c_go_course fx) b_go_course hr (by omega) tk (da_cons (de_var 0) (da_cons (de_var 1) (da_cons (de_var 1) (da_cons de_int da_nil))))) (da_cons (de_tup (da_cons (de_tup (da_cons (de_tup (da_cons de_int (da_cons de_int da_nil))) (da_cons de_int da_nil))) (da_cons (de_tup (da_cons (de_tup (da_cons de_int (da_cons de_int da_nil))) (da_cons de_int da_nil))) da_nil))) da_nil))))
      dss_nil))))))
noncomputable def D__law_span : SDen := sSeq (sSet 3 (dBin oDiv (dVar 1) (dC (.int 2)))) (sSeq (sIf (dAnd (dBin oEq (dVar 0) (dC (.int 0))) (dBin oLt (dVar 2) (dVar 3))) (sSeq (sRet (dTup (dCons (dC (.int 0)) (dCons (dVar 1) (dCons (dBin oPlus (dVar 2) (dC (.int 1))) (dNil)))))) (sNil)) (sNil)) (sSeq (sIf (dBin oEq (dVar 0) (dC (.int 0))) (sSeq (sRet (dTup (dCons (dVar 3) (dCons (dVar 1) (dCons (dBin oPlus (dVar 3) (dBin oMod (dCall oInt1 (dCons (dBin oSub (dBin oPlus (dVar 2) (dC (.int 1))) (dVar 3)) (dNil))) (dBin oSub (dVar 1) (dVar 3)))) (dNil)))))) (sNil)) (sNil)) (sSeq (sIf (dAnd (dBin oEq (dVar 0) (dC (.int 2))) (dOr (dBin oEq (dVar 2) (dC (.int 0))) (dBin oEq (dVar 2) (dBin oSub (dVar 1) (dC (.int 1)))))) (sSeq (sRet (dTup (dCons (dVar 2) (dCons (dBin oPlus (dVar 2) (dC (.int 1))) (dCons (dVar 2) (dNil)))))) (sNil)) (sNil)) (sSeq (sIf (dBin oEq (dVar 0) (dC (.int 2))) (sSeq (sRet (dTup (dCons (dC (.int 0)) (dCons (dVar 1) (dCons (dBin oPlus (dVar 2) (dC (.int 1))) (dNil)))))) (sNil)) (sNil)) (sSeq (sIf (dBin oEq (dVar 0) (dC (.int 5))) (sSeq (sRet (dTup (dCons (dVar 2) (dCons (dVar 1) (dCons (dVar 2) (dNil)))))) (sNil)) (sNil)) (sSeq (sIf (dAnd (dBin oEq (dVar 0) (dC (.int 6))) (dAnd (dBin oGt (dVar 1) (dC (.int 3))) (dBin oLt (dVar 2) (dC (.int 2))))) (sSeq (sRet (dTup (dCons (dC (.int 0)) (dCons (dC (.int 2)) (dCons (dBin oSub (dC (.int 1)) (dVar 2)) (dNil)))))) (sNil)) (sNil)) (sSeq (sIf (dAnd (dBin oEq (dVar 0) (dC (.int 6))) (dAnd (dBin oGt (dVar 1) (dC (.int 3))) (dBin oGt (dVar 2) (dBin oSub (dVar 1) (dC (.int 3)))))) (sSeq (sRet (dTup (dCons (dBin oSub (dVar 1) (dC (.int 2))) (dCons (dVar 1) (dCons (dBin oSub (dBin oSub (dBin oMul (dC (.int 2)) (dVar 1)) (dC (.int 3))) (dVar 2)) (dNil)))))) (sNil)) (sNil)) (sSeq (sIf (dOr (dBin oEq (dVar 0) (dC (.int 3))) (dBin oEq (dVar 0) (dC (.int 4)))) (sSeq (sRet (dTup (dCons (dC (.int 0)) (dCons (dVar 1) (dCons (dUn oNeg (dC (.int 1))) (dNil)))))) (sNil)) (sNil)) (sSeq (sRet (dTup (dCons (dC (.int 0)) (dCons (dVar 1) (dCons (dBin oMod (dCall oInt1 (dCons (dBin oPlus (dVar 2) (dC (.int 1))) (dNil))) (dVar 1)) (dNil)))))) (sNil))))))))))
theorem Q__law_span : ∃ F : Op, F = fnOf ["_law_shape", "_law_size", "_law_k", "_law_cut"] D__law_span := ⟨_, rfl⟩
noncomputable def O__law_span : Op := Classical.choose Q__law_span
instance is__law_span : Is O__law_span ["_law_shape", "_law_size", "_law_k", "_law_cut"] D__law_span := ⟨Classical.choose_spec Q__law_span⟩
theorem sc__law_span : FnScope ["_law_shape", "_law_size", "_law_k", "_law_cut"] ["_law_shape", "_law_size", "_law_k"] (defScope (top 58)) := ⟨rfl, rfl, rfl, by decide +kernel, rfl, by decide +kernel, by decide +kernel⟩
theorem b__law_span : BindsAll "_law_span" (top 58) ["_law_shape", "_law_size", "_law_k"] := fun _ _ _ _ _ _ us hl => match us, hl with | [_, _, _], _ => rfl
theorem c__law_span (fx : Facts K mg) : Callee P w K mg base 1 "_law_span" (top 58) ["_law_shape", "_law_size", "_law_k"] O__law_span := by
  obtain ⟨fd, F⟩ := fx.F__law_span
  refine ⟨fx.g__law_span, fd, F, ?_⟩
  rw [is__law_span.eq]
  refine fn_den F sc__law_span fun cdv A outer s H E hr tk => ?_
  have nd := sc__law_span.nd
  exact (dss_cons (ds_set 3 nd (de_div (de_var 1) de_int))
      (dss_cons (ds_if (DW.dt (dw_and (dt_eq hr.units (de_var 0) de_int) (dw_and1 (dt_lt (de_var 2) (de_var 3))))) (dss_cons (ds_ret (de_tup (da_cons de_int (da_cons (de_var 1) (da_cons (de_add (de_var 2) de_int) da_nil)))))
      dss_nil) dss_nil)
      (dss_cons (ds_if (dt_eq hr.units (de_var 0) de_int) (dss_cons (ds_ret (de_tup (da_cons (de_var 3) (da_cons (de_var 1) (da_cons (de_add (de_var 3) (de_mod (de_callTy call_int1 callD_int1 (by decide +kernel) fx.n_int (da_cons (de_sub (de_add (de_var 2) de_int) (de_var 3)) da_nil)) (de_sub (de_var 1) (de_var 3)))) da_nil)))))
      dss_nil) dss_nil)
      (dss_cons (ds_if (DW.dt (dw_and (dt_eq hr.units (de_var 0) de_int) (dw_and1 (DW.dt (dw_or (dt_eq hr.units (de_var 2) de_int) (dw_or1 (dt_eq hr.units (de_var 2) (de_sub (de_var 1) de_int)))))))) (dss_cons (ds_ret (de_tup (da_cons (de_var 2) (da_cons (de_add (de_var 2) de_int) (da_cons (de_var 2) da_nil)))))
      dss_nil) dss_nil)
      (dss_cons (ds_if (dt_eq hr.units (de_var 0) de_int) (dss_cons (ds_ret (de_tup (da_cons de_int (da_cons (de_var 1) (da_cons (de_add (de_var 2) de_int) da_nil)))))
      dss_nil) dss_nil)
      (dss_cons (ds_if (dt_eq hr.units (de_var 0) de_int) (dss_cons (ds_ret (de_tup (da_cons (de_var 2) (da_cons (de_var 1) (da_cons (de_var 2) da_nil)))))
      dss_nil) dss_nil)
      (dss_cons (ds_if (DW.dt (dw_and (dt_eq hr.units (de_var 0) de_int) (dw_and (dt_gt (de_var 1) de_int) (dw_and1 (dt_lt (de_var 2) de_int))))) (dss_cons (ds_ret (de_tup (da_cons de_int (da_cons de_int (da_cons (de_sub de_int (de_var 2)) da_nil)))))
      dss_nil) dss_nil)
      (dss_cons (ds_if (DW.dt (dw_and (dt_eq hr.units (de_var 0) de_int) (dw_and (dt_gt (de_var 1) de_int) (dw_and1 (dt_gt (de_var 2) (de_sub (de_var 1) de_int)))))) (dss_cons (ds_ret (de_tup (da_cons (de_sub (de_var 1) de_int) (da_cons (de_var 1) (da_cons (de_sub (de_sub (de_mul de_int (de_var 1)) de_int) (de_var 2)) da_nil)))))
      dss_nil) dss_nil)
      (dss_cons (ds_if (DW.dt (dw_or (dt_eq hr.units (de_var 0) de_int) (dw_or1 (dt_eq hr.units (de_var 0) de_int)))) (dss_cons (ds_ret (de_tup (da_cons de_int (da_cons (de_var 1) (da_cons (de_neg de_int) da_nil)))))
      dss_nil) dss_nil)
      (dss_cons (ds_ret (de_tup (da_cons de_int (da_cons (de_var 1) (da_cons (de_mod (de_callTy call_int1 callD_int1 (by decide +kernel) fx.n_int (da_cons (de_add (de_var 2) de_int) da_nil)) (de_var 1)) da_nil)))))
      dss_nil))))))))))
noncomputable def D__law_net : SDen := sSeq (sSet 1 (dBin oIx (dTup (dCons (dC (.int 3)) (dCons (dC (.int 4)) (dCons (dC (.int 2)) (dCons (dC (.int 5)) (dCons (dC (.int 3)) (dCons (dC (.int 1)) (dCons (dC (.int 4)) (dCons (dC (.int 3)) (dNil)))))))))) (dBin oMod (dCall oInt1 (dCons (dBin oIx (dVar 0) (dC (.int 0))) (dNil))) (dC (.int 8))))) (sSeq (sSet 2 (dBin oMod (dCall oInt1 (dCons (dBin oDiv (dBin oIx (dVar 0) (dC (.int 0))) (dC (.int 8))) (dNil))) (dC (.int 8)))) (sSeq (sSet 3 (dBin oIx (dTup (dCons (dC (.int 2)) (dCons (dC (.int 3)) (dCons (dC (.int 4)) (dCons (dC (.int 6)) (dCons (dC (.int 12)) (dCons (dC (.int 1)) (dNil)))))))) (dBin oMod (dCall oInt1 (dCons (dBin oDiv (dBin oIx (dVar 0) (dC (.int 0))) (dC (.int 64))) (dNil))) (dC (.int 6))))) (sSeq (sIf (dBin oEq (dBin oMod (dCall oInt1 (dCons (dBin oDiv (dBin oIx (dVar 0) (dC (.int 0))) (dC (.int 512))) (dNil))) (dC (.int 16))) (dC (.int 5))) (sSeq (sSet 1 (dBin oPlus (dC (.int 6)) (dBin oMod (dCall oInt1 (dCons (dBin oDiv (dBin oIx (dVar 0) (dC (.int 0))) (dC (.int 8192))) (dNil))) (dC (.int 3))))) (sSeq (sSet 2 (dBin oIx (dTup (dCons (dC (.int 0)) (dCons (dC (.int 2)) (dCons (dC (.int 3)) (dCons (dC (.int 5)) (dCons (dC (.int 6)) (dCons (dC (.int 3)) (dCons (dC (.int 0)) (dCons (dC (.int 2)) (dNil)))))))))) (dVar 2))) (sNil))) (sNil)) (sSeq (sIf (dBin oEq (dVar 2) (dC (.int 3))) (sSeq (sSet 3 (dC (.int 1))) (sNil)) (sNil)) (sSeq (sSet 4 (dLstM (dNil))) (sSeq (sSet 5 (dVar 3)) (sSeq (sFor (dRange1 (dVar 1)) (tName 6) (sSeq (sAsg (dFn 3 O__law_span (dCons (dVar 2) (dCons (dVar 1) (dCons (dVar 6) (dNil))))) (PD.tTup 3 (PD.tCons (tName 14) (PD.tCons (tName 15) (PD.tCons (tName 16) (PD.tNil)))))) (sSeq (sSet 7 (dBin oIx (dVar 0) (dBin oPlus (dBin oPlus (dC (.int 1)) (dVar 6)) (dBin oMul (dC (.int 30)) (dCall oInt1 (dCons (dBin oGt (dVar 6) (dC (.int 4))) (dNil))))))) (sSeq (sSet 8 (dBin oMulM (dLst (dCons (dC (.int 0)) (dNil))) (dVar 1))) (sSeq (sSet 9 (dVar 3)) (sSeq (sIf (dBin oGe (dVar 16) (dC (.int 0))) (sSeq (sStore (dC (.int 1)) (dVar 8) (dVar 16)) (sSeq (sSet 9 (dBin oSub (dVar 3) (dC (.int 1)))) (sNil))) (sNil)) (sSeq (sSet 10 (dBin oMod (dCall oInt1 (dCons (dBin oDiv (dVar 7) (dC (.int 25))) (dNil))) (dBin oPlus (dVar 9) (dC (.int 1))))) (sSeq (sSet 11 (dBin oPlus (dVar 14) (dBin oMod (dCall oInt1 (dCons (dVar 7) (dNil))) (dBin oSub (dVar 15) (dVar 14))))) (sSeq (sSet 12 (dBin oPlus (dVar 14) (dBin oMod (dCall oInt1 (dCons (dBin oDiv (dVar 7) (dC (.int 5))) (dNil))) (dBin oSub (dVar 15) (dVar 14))))) (sSeq (sStore (dBin oPlus (dBin oIx (dVar 8) (dVar 11)) (dVar 10)) (dVar 8) (dVar 11)) (sSeq (sStore (dBin oSub (dBin oPlus (dBin oIx (dVar 8) (dVar 12)) (dVar 9)) (dVar 10)) (dVar 8) (dVar 12)) (sSeq (sFor (dItems (dVar 8)) (tName 13) (sSeq (sSet 5 (dFn 2 O__law_gcd (dCons (dVar 5) (dCons (dVar 13) (dNil))))) (sNil))) (sSeq (sExpr (dApp (dVar 4) (dVar 8))) (sNil)))))))))))))) (sSeq (sRet (dTup (dCons (dCall oTuple1 (dCons (dLc [8] (dItems (dVar 4)) (.one 8) (dYes) (dCall oTuple1 (dCons (dLc [13] (dItems (dVar 8)) (.one 13) (dYes) (dBin oDiv (dVar 13) (dVar 5))) (dNil)))) (dNil))) (dCons (dBin oDiv (dVar 3) (dVar 5)) (dNil))))) (sNil)))))))))
theorem Q__law_net : ∃ F : Op, F = fnOf ["_law_row", "_law_size", "_law_shape", "_law_bot", "_law_rows", "_law_big", "_law_k", "_law_part_here", "_law_nums", "_law_left", "_law_some", "_law_one", "_law_other", "_law_top", "_law_low_here", "_law_high", "_law_ahead"] D__law_net := ⟨_, rfl⟩
noncomputable def O__law_net : Op := Classical.choose Q__law_net
instance is__law_net : Is O__law_net ["_law_row", "_law_size", "_law_shape", "_law_bot", "_law_rows", "_law_big", "_law_k", "_law_part_here", "_law_nums", "_law_left", "_law_some", "_law_one", "_law_other", "_law_top", "_law_low_here", "_law_high", "_law_ahead"] D__law_net := ⟨Classical.choose_spec Q__law_net⟩
theorem sc__law_net : FnScope ["_law_row", "_law_size", "_law_shape", "_law_bot", "_law_rows", "_law_big", "_law_k", "_law_part_here", "_law_nums", "_law_left", "_law_some", "_law_one", "_law_other", "_law_top", "_law_low_here", "_law_high", "_law_ahead"] ["_law_row"] (defScope (top 59)) := ⟨rfl, rfl, rfl, by decide +kernel, rfl, by decide +kernel, by decide +kernel⟩
theorem b__law_net : BindsAll "_law_net" (top 59) ["_law_row"] := fun _ _ _ _ _ _ us hl => match us, hl with | [_], _ => rfl
theorem c__law_net (fx : Facts K mg) : Callee P w K mg base 2 "_law_net" (top 59) ["_law_row"] O__law_net := by
  obtain ⟨fd, F⟩ := fx.F__law_net
  refine ⟨fx.g__law_net, fd, F, ?_⟩
  rw [is__law_net.eq]
  refine fn_den F sc__law_net fun cdv A outer s H E hr tk => ?_
  have nd := sc__law_net.nd
  exact (dss_cons (ds_set 1 nd (de_ix (de_tup (da_cons de_int (da_cons de_int (da_cons de_int (da_cons de_int (da_cons de_int (da_cons de_int (da_cons de_int (da_cons de_int da_nil))))))))) (de_mod (de_callTy call_int1 callD_int1 (by decide +kernel) fx.n_int (da_cons (de_ix (de_var 0) de_int) da_nil)) de_int)))
      (dss_cons (ds_set 2 nd (de_mod (de_callTy call_int1 callD_int1 (by decide +kernel) fx.n_int (da_cons (de_div (de_ix (de_var 0) de_int) de_int) da_nil)) de_int))
      (dss_cons (ds_set 3 nd (de_ix (de_tup (da_cons de_int (da_cons de_int (da_cons de_int (da_cons de_int (da_cons de_int (da_cons de_int da_nil))))))) (de_mod (de_callTy call_int1 callD_int1 (by decide +kernel) fx.n_int (da_cons (de_div (de_ix (de_var 0) de_int) de_int) da_nil)) de_int)))
      (dss_cons (ds_if (dt_eq hr.units (de_mod (de_callTy call_int1 callD_int1 (by decide +kernel) fx.n_int (da_cons (de_div (de_ix (de_var 0) de_int) de_int) da_nil)) de_int) de_int) (dss_cons (ds_set 1 nd (de_add de_int (de_mod (de_callTy call_int1 callD_int1 (by decide +kernel) fx.n_int (da_cons (de_div (de_ix (de_var 0) de_int) de_int) da_nil)) de_int)))
      (dss_cons (ds_set 2 nd (de_ix (de_tup (da_cons de_int (da_cons de_int (da_cons de_int (da_cons de_int (da_cons de_int (da_cons de_int (da_cons de_int (da_cons de_int da_nil))))))))) (de_var 2)))
      dss_nil)) dss_nil)
      (dss_cons (ds_if (dt_eq hr.units (de_var 2) de_int) (dss_cons (ds_set 3 nd de_int)
      dss_nil) dss_nil)
      (dss_cons (ds_set 4 nd (de_lstM da_nil))
      (dss_cons (ds_set 5 nd (de_var 3))
      (dss_cons (ds_for (L2.passes_of rfl) rfl (di_range1 fx.n_range (de_var 1)) (dg_name 6 nd) (dss_cons (ds_asg (de_callC (c__law_span fx) b__law_span hr (by omega) tk (da_cons (de_var 2) (da_cons (de_var 1) (da_cons (de_var 6) da_nil)))) (dg_tup rfl (dgs_cons (dg_name 14 nd) (dgs_cons (dg_name 15 nd) (dgs_cons (dg_name 16 nd) dgs_nil)))))
      (dss_cons (ds_set 7 nd (de_ix (de_var 0) (de_add (de_add de_int (de_var 6)) (de_mul de_int (de_callTy call_int1 callD_int1 (by decide +kernel) fx.n_int (da_cons (de_gt (de_var 6) de_int) da_nil))))))
      (dss_cons (ds_set 8 nd (de_mulM (de_lst (da_cons de_int da_nil)) (de_var 1)))
      (dss_cons (ds_set 9 nd (de_var 3))
      (dss_cons (ds_if (dt_ge (de_var 16) de_int) (dss_cons (ds_store de_int (de_var 8) (de_var 16))
      (dss_cons (ds_set 9 nd (de_sub (de_var 3) de_int))
      dss_nil)) dss_nil)
      (dss_cons (ds_set 10 nd (de_mod (de_callTy call_int1 callD_int1 (by decide +kernel) fx.n_int (da_cons (de_div (de_var 7) de_int) da_nil)) (de_add (de_var 9) de_int)))
      (dss_cons (ds_set 11 nd (de_add (de_var 14) (de_mod (de_callTy call_int1 callD_int1 (by decide +kernel) fx.n_int (da_cons (de_var 7) da_nil)) (de_sub (de_var 15) (de_var 14)))))
      (dss_cons (ds_set 12 nd (de_add (de_var 14) (de_mod (de_callTy call_int1 callD_int1 (by decide +kernel) fx.n_int (da_cons (de_div (de_var 7) de_int) da_nil)) (de_sub (de_var 15) (de_var 14)))))
      (dss_cons (ds_store (de_add (de_ix (de_var 8) (de_var 11)) (de_var 10)) (de_var 8) (de_var 11))
      (dss_cons (ds_store (de_sub (de_add (de_ix (de_var 8) (de_var 12)) (de_var 9)) (de_var 10)) (de_var 8) (de_var 12))
      (dss_cons (ds_for (L2.passes_of rfl) rfl (di_seq (de_var 8)) (dg_name 13 nd) (dss_cons (ds_set 5 nd (de_callC (c__law_gcd fx) b__law_gcd hr (by omega) tk (da_cons (de_var 5) (da_cons (de_var 13) da_nil))))
      dss_nil))
      (dss_cons (ds_expr (de_app (de_var 4) (de_var 8)))
      dss_nil)))))))))))))
      (dss_cons (ds_ret (de_tup (da_cons (de_callTy call_tuple_of callD_tuple1 (by decide +kernel) fx.n_tuple (da_cons (de_lc [("_law_nums", 8)] (.one 8) rfl nd (by decide) (by exact blkB_ok (by kernel_rfl)) (di_seq (de_var 4)) (fun _ _ _ _ _ => (pg_name nd rfl (by first | exact .inl rfl | exact .inr rfl) (by first | exact .inl rfl | exact .inr rfl))) (fun _ _ _ _ _ => dts_nil) (fun _ _ _ _ _ => (de_callTy call_tuple_of callD_tuple1 (by decide +kernel) fx.n_tuple (da_cons (de_lc [("_law_top", 13)] (.one 13) rfl nd (by decide) (by exact blkB_ok (by kernel_rfl)) (di_seq (de_var 8)) (fun _ _ _ _ _ => (pg_name nd rfl (by first | exact .inl rfl | exact .inr rfl) (by first | exact .inl rfl | exact .inr rfl))) (fun _ _ _ _ _ => dts_nil) (fun _ _ _ _ _ => (de_div (de_var 13) (de_var 5)))) da_nil)))) da_nil)) (da_cons (de_div (de_var 3) (de_var 5)) da_nil))))
      dss_nil)))))))))
noncomputable def D__law_pool : SDen := sSeq (sSet 1 (dLstM (dNil))) (sSeq (sSet 2 (dC (.int 0))) (sSeq (sFor (dItems (dVar 0)) (tName 3) (sSeq (sSet 4 (dCall oAbs (dCons (dVar 3) (dNil)))) (sSeq (sSet 2 (dBin oMod (dCall oInt1 (dCons (dBin oPlus (dBin oPlus (dBin oMul (dVar 2) (dC (.int 69))) (dBin oMod (dCall oInt1 (dCons (dVar 3) (dNil))) (dC (.int 1000033)))) (dC (.int 7))) (dNil))) (dC (.int 2147483629)))) (sSeq (sIf (dBin oGe (dVar 4) (dC (.int 1000000000000000000))) (sSeq (sFor (dRange1 (dC (.int 60))) (tName 5) (sSeq (sIf (dAnd (dBin oGt (dVar 4) (dC (.int 0))) (dBin oLt (dCall oLen (dCons (dVar 1) (dNil))) (dC (.int 60)))) (sSeq (sExpr (dApp (dVar 1) (dBin oMod (dCall oInt1 (dCons (dVar 4) (dNil))) (dC (.int 1000000))))) (sSeq (sSet 4 (dBin oDiv (dVar 4) (dC (.int 1000000)))) (sNil))) (sNil)) (sNil))) (sNil)) (sSeq (sSet 6 (dBin oMod (dCall oInt1 (dCons (dBin oPlus (dBin oMul (dVar 4) (dC (.int 48271))) (dVar 2)) (dNil))) (dC (.int 2147483629)))) (sSeq (sFor (dRange1 (dC (.int 3))) (tName 5) (sSeq (sSet 6 (dBin oMod (dCall oInt1 (dCons (dBin oPlus (dBin oPlus (dBin oMul (dVar 6) (dVar 6)) (dVar 2)) (dVar 5)) (dNil))) (dC (.int 2147483629)))) (sSeq (sExpr (dApp (dVar 1) (dBin oMod (dCall oInt1 (dCons (dBin oDiv (dVar 6) (dC (.int 128))) (dNil))) (dC (.int 1000000))))) (sNil)))) (sNil)))) (sNil))))) (sSeq (sFor (dRange1 (dC (.int 60))) (tName 5) (sSeq (sSet 2 (dBin oMod (dCall oInt1 (dCons (dBin oMul (dVar 2) (dC (.int 48271))) (dNil))) (dC (.int 2147483629)))) (sSeq (sExpr (dApp (dVar 1) (dBin oMod (dCall oInt1 (dCons (dBin oDiv (dVar 2) (dC (.int 512))) (dNil))) (dC (.int 1000000))))) (sNil)))) (sSeq (sRet (dVar 1)) (sNil)))))
theorem Q__law_pool : ∃ F : Op, F = fnOf ["_law_script", "_law_row", "_law_mix", "_law_cell", "_law_much", "_law_k", "_law_twist"] D__law_pool := ⟨_, rfl⟩
noncomputable def O__law_pool : Op := Classical.choose Q__law_pool
instance is__law_pool : Is O__law_pool ["_law_script", "_law_row", "_law_mix", "_law_cell", "_law_much", "_law_k", "_law_twist"] D__law_pool := ⟨Classical.choose_spec Q__law_pool⟩
theorem sc__law_pool : FnScope ["_law_script", "_law_row", "_law_mix", "_law_cell", "_law_much", "_law_k", "_law_twist"] ["_law_script"] (defScope (top 54)) := ⟨rfl, rfl, rfl, by decide +kernel, rfl, by decide +kernel, by decide +kernel⟩
theorem b__law_pool : BindsAll "_law_pool" (top 54) ["_law_script"] := fun _ _ _ _ _ _ us hl => match us, hl with | [_], _ => rfl
theorem c__law_pool (fx : Facts K mg) : Callee P w K mg base 1 "_law_pool" (top 54) ["_law_script"] O__law_pool := by
  obtain ⟨fd, F⟩ := fx.F__law_pool
  refine ⟨fx.g__law_pool, fd, F, ?_⟩
  rw [is__law_pool.eq]
  refine fn_den F sc__law_pool fun cdv A outer s H E hr tk => ?_
  have nd := sc__law_pool.nd
  exact (dss_cons (ds_set 1 nd (de_lstM da_nil))
      (dss_cons (ds_set 2 nd de_int)
      (dss_cons (ds_for (L2.passes_of rfl) rfl (di_seq (de_var 0)) (dg_name 3 nd) (dss_cons (ds_set 4 nd (de_callB call_abs callD_abs (by decide +kernel) fx.n_abs (da_cons (de_var 3) da_nil)))
      (dss_cons (ds_set 2 nd (de_mod (de_callTy call_int1 callD_int1 (by decide +kernel) fx.n_int (da_cons (de_add (de_add (de_mul (de_var 2) de_int) (de_mod (de_callTy call_int1 callD_int1 (by decide +kernel) fx.n_int (da_cons (de_var 3) da_nil)) de_int)) de_int) da_nil)) de_int))
      (dss_cons (ds_if (dt_ge (de_var 4) de_int) (dss_cons (ds_for (L2.passes_of rfl) rfl (di_range1 fx.n_range de_int) (dg_name 5 nd) (dss_cons (ds_if (DW.dt (dw_and (dt_gt (de_var 4) de_int) (dw_and1 (dt_lt (de_len fx.n_len (da_cons (de_var 1) da_nil)) de_int)))) (dss_cons (ds_expr (de_app (de_var 1) (de_mod (de_callTy call_int1 callD_int1 (by decide +kernel) fx.n_int (da_cons (de_var 4) da_nil)) de_int)))
      (dss_cons (ds_set 4 nd (de_div (de_var 4) de_int))
      dss_nil)) dss_nil)
      dss_nil))
      dss_nil) (dss_cons (ds_set 6 nd (de_mod (de_callTy call_int1 callD_int1 (by decide +kernel) fx.n_int (da_cons (de_add (de_mul (de_var 4) de_int) (de_var 2)) da_nil)) de_int))
      (dss_cons (ds_for (L2.passes_of rfl) rfl (di_range1 fx.n_range de_int) (dg_name 5 nd) (dss_cons (ds_set 6 nd (de_mod (de_callTy call_int1 callD_int1 (by decide +kernel) fx.n_int (da_cons (de_add (de_add (de_mul (de_var 6) (de_var 6)) (de_var 2)) (de_var 5)) da_nil)) de_int))
      (dss_cons (ds_expr (de_app (de_var 1) (de_mod (de_callTy call_int1 callD_int1 (by decide +kernel) fx.n_int (da_cons (de_div (de_var 6) de_int) da_nil)) de_int)))
      dss_nil)))
      dss_nil)))
      dss_nil))))
      (dss_cons (ds_for (L2.passes_of rfl) rfl (di_range1 fx.n_range de_int) (dg_name 5 nd) (dss_cons (ds_set 2 nd (de_mod (de_callTy call_int1 callD_int1 (by decide +kernel) fx.n_int (da_cons (de_mul (de_var 2) de_int) da_nil)) de_int))
      (dss_cons (ds_expr (de_app (de_var 1) (de_mod (de_callTy call_int1 callD_int1 (by decide +kernel) fx.n_int (da_cons (de_div (de_var 2) de_int) da_nil)) de_int)))
      dss_nil)))
      (dss_cons (ds_ret (de_var 1))
      dss_nil)))))
noncomputable def D__law_odd : SDen := sSeq (sSet 2 (dBin oMul (dTup (dCons (dC (.int 0)) (dNil))) (dVar 1))) (sSeq (sSet 3 (dLst (dCons (dC .non) (dCons (dLst (dCons (dVar 2) (dCons (dC (.int 1)) (dNil)))) (dCons (dTup (dCons (dVar 2) (dNil))) (dCons (dTup (dCons (dBin oMul (dTup (dCons (dC (.int 0)) (dNil))) (dBin oPlus (dVar 1) (dC (.int 1)))) (dCons (dC (.int 1)) (dNil)))) (dCons (dTup (dCons (dBin oPlus (dTup (dCons (dC (.bl true)) (dNil))) (dBin oMul (dTup (dCons (dC (.int 0)) (dNil))) (dBin oSub (dVar 1) (dC (.int 1))))) (dCons (dC (.int 1)) (dNil)))) (dCons (dTup (dCons (dBin oMul (dTup (dCons (dC (.int 2)) (dNil))) (dVar 1)) (dCons (dC (.int 2)) (dNil)))) (dNil))))))))) (sSeq (sSet 3 (dBin oPlus (dVar 3) (dLst (dCons (dTup (dCons (dVar 2) (dCons (dC (.int 2)) (dNil)))) (dCons (dTup (dCons (dBin oPlus (dTup (dCons (dBin oSub (dC (.int 0)) (dC (.int 1))) (dNil))) (dBin oMul (dTup (dCons (dC (.int 0)) (dNil))) (dBin oSub (dVar 1) (dC (.int 1))))) (dCons (dC (.int 1)) (dNil)))) (dCons (dTup (dCons (dBin oMul (dLst (dCons (dC (.int 1)) (dNil))) (dVar 1)) (dCons (dC (.int 1)) (dNil)))) (dCons (dTup (dCons (dBin oMul (dTup (dCons (dC (.int 1)) (dNil))) (dVar 1)) (dCons (dC (.int 0)) (dNil)))) (dCons (dTup (dCons (dBin oMul (dTup (dCons (dC (.int 1)) (dNil))) (dVar 1)) (dCons (dC (.bl true)) (dNil)))) (dNil))))))))) (sSeq (sSet 3 (dBin oPlus (dVar 3) (dLst (dCons (dC (.str "load")) (dCons (dC (.int 1)) (dCons (dTup (dNil)) (dCons (dTup (dCons (dVar 2) (dCons (dC (.int 1)) (dCons (dC (.int 1)) (dNil))))) (dCons (dTup (dCons (dBin oMul (dTup (dCons (dC .non) (dNil))) (dVar 1)) (dCons (dC (.int 1)) (dNil)))) (dNil))))))))) (sSeq (sRet (dBin oIx (dVar 3) (dBin oMod (dCall oInt1 (dCons (dVar 0) (dNil))) (dC (.int 16))))) (sNil)))))
theorem Q__law_odd : ∃ F : Op, F = fnOf ["_law_kind", "_law_size", "_law_flat", "_law_odd_here"] D__law_odd := ⟨_, rfl⟩
noncomputable def O__law_odd : Op := Classical.choose Q__law_odd
instance is__law_odd : Is O__law_odd ["_law_kind", "_law_size", "_law_flat", "_law_odd_here"] D__law_odd := ⟨Classical.choose_spec Q__law_odd⟩
theorem sc__law_odd : FnScope ["_law_kind", "_law_size", "_law_flat", "_law_odd_here"] ["_law_kind", "_law_size"] (defScope (top 68)) := ⟨rfl, rfl, rfl, by decide +kernel, rfl, by decide +kernel, by decide +kernel⟩
theorem b__law_odd : BindsAll "_law_odd" (top 68) ["_law_kind", "_law_size"] := fun _ _ _ _ _ _ us hl => match us, hl with | [_, _], _ => rfl
theorem c__law_odd (fx : Facts K mg) : Callee P w K mg base 1 "_law_odd" (top 68) ["_law_kind", "_law_size"] O__law_odd := by
  obtain ⟨fd, F⟩ := fx.F__law_odd
  refine ⟨fx.g__law_odd, fd, F, ?_⟩
  rw [is__law_odd.eq]
  refine fn_den F sc__law_odd fun cdv A outer s H E hr tk => ?_
  have nd := sc__law_odd.nd
  exact (dss_cons (ds_set 2 nd (de_mul (de_tup (da_cons de_int da_nil)) (de_var 1)))
      (dss_cons (ds_set 3 nd (de_lst (da_cons de_non (da_cons (de_lst (da_cons (de_var 2) (da_cons de_int da_nil))) (da_cons (de_tup (da_cons (de_var 2) da_nil)) (da_cons (de_tup (da_cons (de_mul (de_tup (da_cons de_int da_nil)) (de_add (de_var 1) de_int)) (da_cons de_int da_nil))) (da_cons (de_tup (da_cons (de_add (de_tup (da_cons de_bl da_nil)) (de_mul (de_tup (da_cons de_int da_nil)) (de_sub (de_var 1) de_int))) (da_cons de_int da_nil))) (da_cons (de_tup (da_cons (de_mul (de_tup (da_cons de_int da_nil)) (de_var 1)) (da_cons de_int da_nil))) da_nil))))))))
      (dss_cons (ds_set 3 nd (de_add (de_var 3) (de_lst (da_cons (de_tup (da_cons (de_var 2) (da_cons de_int da_nil))) (da_cons (de_tup (da_cons (de_add (de_tup (da_cons (de_sub de_int de_int) da_nil)) (de_mul (de_tup (da_cons de_int da_nil)) (de_sub (de_var 1) de_int))) (da_cons de_int da_nil))) (da_cons (de_tup (da_cons (de_mul (de_lst (da_cons de_int da_nil)) (de_var 1)) (da_cons de_int da_nil))) (da_cons (de_tup (da_cons (de_mul (de_tup (da_cons de_int da_nil)) (de_var 1)) (da_cons de_int da_nil))) (da_cons (de_tup (da_cons (de_mul (de_tup (da_cons de_int da_nil)) (de_var 1)) (da_cons de_bl da_nil))) da_nil))))))))
      (dss_cons (ds_set 3 nd (de_add (de_var 3) (de_lst (da_cons de_str (da_cons de_int (da_cons (de_tup da_nil) (da_cons (de_tup (da_cons (de_var 2) (da_cons de_int (da_cons de_int da_nil)))) (da_cons (de_tup (da_cons (de_mul (de_tup (da_cons de_non da_nil)) (de_var 1)) (da_cons de_int da_nil))) da_nil))))))))
      (dss_cons (ds_ret (de_ix (de_var 3) (de_mod (de_callTy call_int1 callD_int1 (by decide +kernel) fx.n_int (da_cons (de_var 0) da_nil)) de_int)))
      dss_nil)))))
noncomputable def D__law_refusals : SDen := sSeq (sSet 3 (dCall oLen (dCons (dBin oIx (dVar 0) (dC (.int 0))) (dNil)))) (sSeq (sSet 4 (dFn 2 O__law_odd (dCons (dBin oIx (dVar 2) (dC (.int 0))) (dCons (dVar 3) (dNil))))) (sSeq (sSet 5 (dBin oIx (dLst (dCons (dBin oSub (dC (.int 0)) (dC (.int 1))) (dCons (dC (.bl true)) (dCons (dC .non) (dCons (dC (.str "2")) (dCons (dTup (dCons (dC (.int 2)) (dNil))) (dCons (dLst (dCons (dC (.int 2)) (dNil))) (dNil)))))))) (dBin oMod (dCall oInt1 (dCons (dBin oIx (dVar 2) (dC (.int 1))) (dNil))) (dC (.int 6))))) (sSeq (sFor (dItems (dLst (dCons (dC (.str "rooms")) (dCons (dC (.str "allowance")) (dNil))))) (tName 6) (sSeq (sIf (dNot (dTru (dFn 2 O__law_same (dCons (dFn 5 O__law_ask (dCons (dVar 6) (dCons (dVar 0) (dCons (dVar 4) (dCons (dVar 4) (dCons (dVar 5) (dNil))))))) (dCons (dTup (dCons (dC (.str "refused")) (dCons (dC (.str "start")) (dCons (dBin oSub (dC (.int 0)) (dC (.int 1))) (dNil))))) (dNil)))))) (sSeq (sRet (dC (.bl false))) (sNil)) (sNil)) (sSeq (sIf (dNot (dTru (dFn 2 O__law_same (dCons (dFn 5 O__law_ask (dCons (dVar 6) (dCons (dVar 0) (dCons (dVar 1) (dCons (dVar 4) (dCons (dVar 5) (dNil))))))) (dCons (dTup (dCons (dC (.str "refused")) (dCons (dVar 6) (dCons (dBin oSub (dC (.int 0)) (dC (.int 1))) (dNil))))) (dNil)))))) (sSeq (sRet (dC (.bl false))) (sNil)) (sNil)) (sSeq (sIf (dNot (dTru (dFn 2 O__law_same (dCons (dFn 5 O__law_ask (dCons (dVar 6) (dCons (dVar 0) (dCons (dVar 1) (dCons (dVar 1) (dCons (dVar 5) (dNil))))))) (dCons (dTup (dCons (dC (.str "refused")) (dCons (dC (.str "many")) (dCons (dBin oSub (dC (.int 0)) (dC (.int 1))) (dNil))))) (dNil)))))) (sSeq (sRet (dC (.bl false))) (sNil)) (sNil)) (sSeq (sIf (dNot (dTru (dFn 2 O__law_same (dCons (dFn 5 O__law_ask (dCons (dVar 6) (dCons (dVar 0) (dCons (dVar 1) (dCons (dVar 1) (dCons (dC (.int 0)) (dNil))))))) (dCons (dTup (dCons (dC (.str "told")) (dCons (dTup (dCons (dTup (dCons (dBin oMul (dTup (dCons (dC (.int 0)) (dNil))) (dVar 3)) (dCons (dC (.int 1)) (dNil)))) (dNil))) (dNil)))) (dNil)))))) (sSeq (sRet (dC (.bl false))) (sNil)) (sNil)) (sNil)))))) (sSeq (sFor (dItems (dLst (dCons (dC (.str "stand")) (dCons (dC (.str "kept")) (dCons (dC (.str "is")) (dNil)))))) (tName 6) (sSeq (sIf (dNot (dTru (dFn 2 O__law_same (dCons (dFn 5 O__law_ask (dCons (dVar 6) (dCons (dVar 0) (dCons (dVar 4) (dCons (dC .non) (dCons (dC (.int 0)) (dNil))))))) (dCons (dTup (dCons (dC (.str "refused")) (dCons (dC (.str "start")) (dCons (dBin oSub (dC (.int 0)) (dC (.int 1))) (dNil))))) (dNil)))))) (sSeq (sRet (dC (.bl false))) (sNil)) (sNil)) (sNil))) (sSeq (sFor (dItems (dLst (dCons (dC (.str "stand")) (dCons (dC (.str "kept")) (dNil))))) (tName 6) (sSeq (sIf (dNot (dTru (dFn 2 O__law_same (dCons (dFn 5 O__law_ask (dCons (dVar 6) (dCons (dVar 0) (dCons (dVar 1) (dCons (dTup (dCons (dTup (dCons (dBin oMul (dTup (dCons (dC (.int 0)) (dNil))) (dVar 3)) (dCons (dC (.int 1)) (dNil)))) (dNil))) (dCons (dC (.int 0)) (dNil))))))) (dCons (dTup (dCons (dC (.str "told")) (dCons (dTup (dNil)) (dNil)))) (dNil)))))) (sSeq (sRet (dC (.bl false))) (sNil)) (sNil)) (sNil))) (sSeq (sRet (dC (.bl true))) (sNil)))))))
theorem Q__law_refusals : ∃ F : Op, F = fnOf ["_law_net_here", "_law_begin", "_law_row", "_law_size", "_law_odd_here", "_law_late", "_law_which"] D__law_refusals := ⟨_, rfl⟩
noncomputable def O__law_refusals : Op := Classical.choose Q__law_refusals
instance is__law_refusals : Is O__law_refusals ["_law_net_here", "_law_begin", "_law_row", "_law_size", "_law_odd_here", "_law_late", "_law_which"] D__law_refusals := ⟨Classical.choose_spec Q__law_refusals⟩
theorem sc__law_refusals : FnScope ["_law_net_here", "_law_begin", "_law_row", "_law_size", "_law_odd_here", "_law_late", "_law_which"] ["_law_net_here", "_law_begin", "_law_row"] (defScope (top 73)) := ⟨rfl, rfl, rfl, by decide +kernel, rfl, by decide +kernel, by decide +kernel⟩
theorem b__law_refusals : BindsAll "_law_refusals" (top 73) ["_law_net_here", "_law_begin", "_law_row"] := fun _ _ _ _ _ _ us hl => match us, hl with | [_, _, _], _ => rfl
theorem c__law_refusals (fx : Facts K mg) : Callee P w K mg base 14 "_law_refusals" (top 73) ["_law_net_here", "_law_begin", "_law_row"] O__law_refusals := by
  obtain ⟨fd, F⟩ := fx.F__law_refusals
  refine ⟨fx.g__law_refusals, fd, F, ?_⟩
  rw [is__law_refusals.eq]
  refine fn_den F sc__law_refusals fun cdv A outer s H E hr tk => ?_
  have nd := sc__law_refusals.nd
  exact (dss_cons (ds_set 3 nd (de_len fx.n_len (da_cons (de_ix (de_var 0) de_int) da_nil)))
      (dss_cons (ds_set 4 nd (de_callC (c__law_odd fx) b__law_odd hr (by omega) tk (da_cons (de_ix (de_var 2) de_int) (da_cons (de_var 3) da_nil))))
      (dss_cons (ds_set 5 nd (de_ix (de_lst (da_cons (de_sub de_int de_int) (da_cons de_bl (da_cons de_non (da_cons de_str (da_cons (de_tup (da_cons de_int da_nil)) (da_cons (de_lst (da_cons de_int da_nil)) da_nil))))))) (de_mod (de_callTy call_int1 callD_int1 (by decide +kernel) fx.n_int (da_cons (de_ix (de_var 2) de_int) da_nil)) de_int)))
      (dss_cons (ds_for (L2.passes_of rfl) rfl (di_seq (de_lst (da_cons de_str (da_cons de_str da_nil)))) (dg_name 6 nd) (dss_cons (ds_if (dt_not (dt_truth (de_callC (c__law_same fx) b__law_same hr (by omega) tk (da_cons (de_callC (c__law_ask fx) b__law_ask hr (by omega) tk (da_cons (de_var 6) (da_cons (de_var 0) (da_cons (de_var 4) (da_cons (de_var 4) (da_cons (de_var 5) da_nil)))))) (da_cons (de_tup (da_cons de_str (da_cons de_str (da_cons (de_sub de_int de_int) da_nil)))) da_nil))))) (dss_cons (ds_ret de_bl)
      dss_nil) dss_nil)
      (dss_cons (ds_if (dt_not (dt_truth (de_callC (c__law_same fx) b__law_same hr (by omega) tk (da_cons (de_callC (c__law_ask fx) b__law_ask hr (by omega) tk (da_cons (de_var 6) (da_cons (de_var 0) (da_cons (de_var 1) (da_cons (de_var 4) (da_cons (de_var 5) da_nil)))))) (da_cons (de_tup (da_cons de_str (da_cons (de_var 6) (da_cons (de_sub de_int de_int) da_nil)))) da_nil))))) (dss_cons (ds_ret de_bl)
      dss_nil) dss_nil)
      (dss_cons (ds_if (dt_not (dt_truth (de_callC (c__law_same fx) b__law_same hr (by omega) tk (da_cons (de_callC (c__law_ask fx) b__law_ask hr (by omega) tk (da_cons (de_var 6) (da_cons (de_var 0) (da_cons (de_var 1) (da_cons (de_var 1) (da_cons (de_var 5) da_nil)))))) (da_cons (de_tup (da_cons de_str (da_cons de_str (da_cons (de_sub de_int de_int) da_nil)))) da_nil))))) (dss_cons (ds_ret de_bl)
      dss_nil) dss_nil)
      (dss_cons (ds_if (dt_not (dt_truth (de_callC (c__law_same fx) b__law_same hr (by omega) tk (da_cons (de_callC (c__law_ask fx) b__law_ask hr (by omega) tk (da_cons (de_var 6) (da_cons (de_var 0) (da_cons (de_var 1) (da_cons (de_var 1) (da_cons de_int da_nil)))))) (da_cons (de_tup (da_cons de_str (da_cons (de_tup (da_cons (de_tup (da_cons (de_mul (de_tup (da_cons de_int da_nil)) (de_var 3)) (da_cons de_int da_nil))) da_nil)) da_nil))) da_nil))))) (dss_cons (ds_ret de_bl)
      dss_nil) dss_nil)
      dss_nil)))))
      (dss_cons (ds_for (L2.passes_of rfl) rfl (di_seq (de_lst (da_cons de_str (da_cons de_str (da_cons de_str da_nil))))) (dg_name 6 nd) (dss_cons (ds_if (dt_not (dt_truth (de_callC (c__law_same fx) b__law_same hr (by omega) tk (da_cons (de_callC (c__law_ask fx) b__law_ask hr (by omega) tk (da_cons (de_var 6) (da_cons (de_var 0) (da_cons (de_var 4) (da_cons de_non (da_cons de_int da_nil)))))) (da_cons (de_tup (da_cons de_str (da_cons de_str (da_cons (de_sub de_int de_int) da_nil)))) da_nil))))) (dss_cons (ds_ret de_bl)
      dss_nil) dss_nil)
      dss_nil))
      (dss_cons (ds_for (L2.passes_of rfl) rfl (di_seq (de_lst (da_cons de_str (da_cons de_str da_nil)))) (dg_name 6 nd) (dss_cons (ds_if (dt_not (dt_truth (de_callC (c__law_same fx) b__law_same hr (by omega) tk (da_cons (de_callC (c__law_ask fx) b__law_ask hr (by omega) tk (da_cons (de_var 6) (da_cons (de_var 0) (da_cons (de_var 1) (da_cons (de_tup (da_cons (de_tup (da_cons (de_mul (de_tup (da_cons de_int da_nil)) (de_var 3)) (da_cons de_int da_nil))) da_nil)) (da_cons de_int da_nil)))))) (da_cons (de_tup (da_cons de_str (da_cons (de_tup da_nil) da_nil))) da_nil))))) (dss_cons (ds_ret de_bl)
      dss_nil) dss_nil)
      dss_nil))
      (dss_cons (ds_ret de_bl)
      dss_nil)))))))
noncomputable def D__law_one_course : SDen := sSeq (sIf (dNot (dTru (dFn 2 O__law_same (dCons (dFn 5 O__law_ask (dCons (dC (.str "is")) (dCons (dVar 0) (dCons (dVar 1) (dCons (dVar 2) (dCons (dC (.int 0)) (dNil))))))) (dCons (dTup (dCons (dC (.str "told")) (dCons (dC (.bl true)) (dNil)))) (dNil)))))) (sSeq (sRet (dC (.bl false))) (sNil)) (sNil)) (sSeq (sIf (dNot (dTru (dFn 2 O__law_same (dCons (dFn 5 O__law_ask (dCons (dC (.str "stand")) (dCons (dVar 0) (dCons (dVar 1) (dCons (dVar 2) (dCons (dC (.int 0)) (dNil))))))) (dCons (dTup (dCons (dC (.str "told")) (dCons (dVar 3) (dNil)))) (dNil)))))) (sSeq (sRet (dC (.bl false))) (sNil)) (sNil)) (sSeq (sRet (dFn 2 O__law_same (dCons (dFn 5 O__law_ask (dCons (dC (.str "kept")) (dCons (dVar 0) (dCons (dVar 1) (dCons (dVar 2) (dCons (dC (.int 0)) (dNil))))))) (dCons (dTup (dCons (dC (.str "told")) (dCons (dVar 4) (dNil)))) (dNil))))) (sNil)))
theorem Q__law_one_course : ∃ F : Op, F = fnOf ["_law_net_here", "_law_begin", "_law_flow", "_law_stands", "_law_kepts"] D__law_one_course := ⟨_, rfl⟩
noncomputable def O__law_one_course : Op := Classical.choose Q__law_one_course
instance is__law_one_course : Is O__law_one_course ["_law_net_here", "_law_begin", "_law_flow", "_law_stands", "_law_kepts"] D__law_one_course := ⟨Classical.choose_spec Q__law_one_course⟩
theorem sc__law_one_course : FnScope ["_law_net_here", "_law_begin", "_law_flow", "_law_stands", "_law_kepts"] ["_law_net_here", "_law_begin", "_law_flow", "_law_stands", "_law_kepts"] (defScope (top 70)) := ⟨rfl, rfl, rfl, by decide +kernel, rfl, by decide +kernel, by decide +kernel⟩
theorem b__law_one_course : BindsAll "_law_one_course" (top 70) ["_law_net_here", "_law_begin", "_law_flow", "_law_stands", "_law_kepts"] := fun _ _ _ _ _ _ us hl => match us, hl with | [_, _, _, _, _], _ => rfl
theorem c__law_one_course (fx : Facts K mg) : Callee P w K mg base 14 "_law_one_course" (top 70) ["_law_net_here", "_law_begin", "_law_flow", "_law_stands", "_law_kepts"] O__law_one_course := by
  obtain ⟨fd, F⟩ := fx.F__law_one_course
  refine ⟨fx.g__law_one_course, fd, F, ?_⟩
  rw [is__law_one_course.eq]
  refine fn_den F sc__law_one_course fun cdv A outer s H E hr tk => ?_
  have nd := sc__law_one_course.nd
  exact (dss_cons (ds_if (dt_not (dt_truth (de_callC (c__law_same fx) b__law_same hr (by omega) tk (da_cons (de_callC (c__law_ask fx) b__law_ask hr (by omega) tk (da_cons de_str (da_cons (de_var 0) (da_cons (de_var 1) (da_cons (de_var 2) (da_cons de_int da_nil)))))) (da_cons (de_tup (da_cons de_str (da_cons de_bl da_nil))) da_nil))))) (dss_cons (ds_ret de_bl)
      dss_nil) dss_nil)
      (dss_cons (ds_if (dt_not (dt_truth (de_callC (c__law_same fx) b__law_same hr (by omega) tk (da_cons (de_callC (c__law_ask fx) b__law_ask hr (by omega) tk (da_cons de_str (da_cons (de_var 0) (da_cons (de_var 1) (da_cons (de_var 2) (da_cons de_int da_nil)))))) (da_cons (de_tup (da_cons de_str (da_cons (de_var 3) da_nil))) da_nil))))) (dss_cons (ds_ret de_bl)
      dss_nil) dss_nil)
      (dss_cons (ds_ret (de_callC (c__law_same fx) b__law_same hr (by omega) tk (da_cons (de_callC (c__law_ask fx) b__law_ask hr (by omega) tk (da_cons de_str (da_cons (de_var 0) (da_cons (de_var 1) (da_cons (de_var 2) (da_cons de_int da_nil)))))) (da_cons (de_tup (da_cons de_str (da_cons (de_var 4) da_nil))) da_nil))))
      dss_nil)))
noncomputable def D__law_rules : SDen := sSeq (sSet 7 (dFn 2 O__law_low (dCons (dVar 1) (dCons (dVar 6) (dNil))))) (sSeq (sSet 8 (dFn 2 O__law_low (dCons (dVar 2) (dCons (dVar 6) (dNil))))) (sSeq (sSet 9 (dFn 6 O__law_walk (dCons (dVar 0) (dCons (dVar 1) (dCons (dVar 2) (dCons (dVar 3) (dCons (dLst (dNil)) (dCons (dVar 5) (dNil))))))))) (sSeq (sSet 10 (dFn 3 O__law_part (dCons (dVar 9) (dCons (dC (.int 1)) (dCons (dVar 6) (dNil)))))) (sSeq (sIf (dBin oEq (dVar 3) (dC (.str "stay"))) (sSeq (sSet 11 (dFn 4 O_stay_course (dCons (dVar 0) (dCons (dVar 7) (dCons (dVar 8) (dCons (dVar 5) (dNil))))))) (sSeq (sSet 12 (dFnK 4 4 [3, 2, 1, 0] O_stay_course (dCons (dVar 5) (dCons (dVar 8) (dCons (dVar 7) (dCons (dVar 0) (dNil))))))) (sNil))) (sSeq (sSet 11 (dFn 4 O_go_course (dCons (dVar 0) (dCons (dVar 7) (dCons (dVar 8) (dCons (dVar 5) (dNil))))))) (sSeq (sSet 12 (dFnK 4 4 [3, 2, 1, 0] O_go_course (dCons (dVar 5) (dCons (dVar 8) (dCons (dVar 7) (dCons (dVar 0) (dNil))))))) (sNil)))) (sSeq (sIf (dOr (dNot (dTru (dFn 2 O__law_same (dCons (dVar 11) (dCons (dVar 10) (dNil)))))) (dNot (dTru (dFn 2 O__law_same (dCons (dVar 12) (dCons (dVar 10) (dNil))))))) (sSeq (sRet (dC (.bl false))) (sNil)) (sNil)) (sSeq (sSet 13 (dFn 3 O__law_part (dCons (dCut (dVar 9) none (some (dVar 5))) (dCons (dC (.int 0)) (dCons (dVar 6) (dNil)))))) (sSeq (sIf (dNot (dTru (dFn 5 O__law_one_course (dCons (dVar 0) (dCons (dVar 7) (dCons (dVar 11) (dCons (dVar 13) (dCons (dFn 3 O__law_part (dCons (dCut (dVar 9) (some (dC (.int 1))) none) (dCons (dC (.int 2)) (dCons (dVar 6) (dNil))))) (dNil))))))))) (sSeq (sRet (dC (.bl false))) (sNil)) (sNil)) (sSeq (sSet 14 (dFn 6 O__law_walk (dCons (dVar 0) (dCons (dVar 1) (dCons (dVar 2) (dCons (dVar 3) (dCons (dVar 4) (dCons (dC (.int 5)) (dNil))))))))) (sSeq (sSet 15 (dFn 3 O__law_part (dCons (dVar 14) (dCons (dC (.int 1)) (dCons (dVar 6) (dNil)))))) (sSeq (sFor (dRange1 (dBin oPlus (dCall oMin2 (dCons (dVar 5) (dCons (dC (.int 5)) (dNil)))) (dC (.int 1)))) (tName 16) (sSeq (sSet 17 (dBin oIx (dVar 11) (dVar 16))) (sSeq (sSet 18 (dBin oIx (dVar 15) (dVar 16))) (sSeq (sIf (dBin oEq (dVar 3) (dC (.str "go"))) (sSeq (sSet 17 (dBin oIx (dVar 15) (dVar 16))) (sSeq (sSet 18 (dBin oIx (dVar 11) (dVar 16))) (sNil))) (sNil)) (sSeq (sIf (dNot (dTru (dFn 2 O__law_within (dCons (dVar 17) (dCons (dVar 18) (dNil)))))) (sSeq (sRet (dC (.bl false))) (sNil)) (sNil)) (sNil)))))) (sSeq (sRet (dFn 5 O__law_one_course (dCons (dVar 0) (dCons (dVar 7) (dCons (dVar 15) (dCons (dFn 3 O__law_part (dCons (dCut (dVar 14) none (some (dC (.int 5)))) (dCons (dC (.int 0)) (dCons (dVar 6) (dNil))))) (dCons (dFn 3 O__law_part (dCons (dCut (dVar 14) (some (dC (.int 1))) none) (dCons (dC (.int 2)) (dCons (dVar 6) (dNil))))) (dNil)))))))) (sNil))))))))))))
theorem Q__law_rules : ∃ F : Op, F = fnOf ["_law_net_here", "_law_begin", "_law_limit", "_law_manner", "_law_shares", "_law_upto", "_law_base", "_law_load", "_law_most", "_law_walk_here", "_law_due", "_law_told", "_law_again", "_law_stands", "_law_drawn", "_law_flow", "_law_k", "_law_low_here", "_law_high"] D__law_rules := ⟨_, rfl⟩
noncomputable def O__law_rules : Op := Classical.choose Q__law_rules
instance is__law_rules : Is O__law_rules ["_law_net_here", "_law_begin", "_law_limit", "_law_manner", "_law_shares", "_law_upto", "_law_base", "_law_load", "_law_most", "_law_walk_here", "_law_due", "_law_told", "_law_again", "_law_stands", "_law_drawn", "_law_flow", "_law_k", "_law_low_here", "_law_high"] D__law_rules := ⟨Classical.choose_spec Q__law_rules⟩
theorem sc__law_rules : FnScope ["_law_net_here", "_law_begin", "_law_limit", "_law_manner", "_law_shares", "_law_upto", "_law_base", "_law_load", "_law_most", "_law_walk_here", "_law_due", "_law_told", "_law_again", "_law_stands", "_law_drawn", "_law_flow", "_law_k", "_law_low_here", "_law_high"] ["_law_net_here", "_law_begin", "_law_limit", "_law_manner", "_law_shares", "_law_upto", "_law_base"] (defScope (top 71)) := ⟨rfl, rfl, rfl, by decide +kernel, rfl, by decide +kernel, by decide +kernel⟩
theorem b__law_rules : BindsAll "_law_rules" (top 71) ["_law_net_here", "_law_begin", "_law_limit", "_law_manner", "_law_shares", "_law_upto", "_law_base"] := fun _ _ _ _ _ _ us hl => match us, hl with | [_, _, _, _, _, _, _], _ => rfl
theorem c__law_rules (fx : Facts K mg) : Callee P w K mg base 15 "_law_rules" (top 71) ["_law_net_here", "_law_begin", "_law_limit", "_law_manner", "_law_shares", "_law_upto", "_law_base"] O__law_rules := by
  obtain ⟨fd, F⟩ := fx.F__law_rules
  refine ⟨fx.g__law_rules, fd, F, ?_⟩
  rw [is__law_rules.eq]
  refine fn_den F sc__law_rules fun cdv A outer s H E hr tk => ?_
  have nd := sc__law_rules.nd
  exact (dss_cons (ds_set 7 nd (de_callC (c__law_low fx) b__law_low hr (by omega) tk (da_cons (de_var 1) (da_cons (de_var 6) da_nil))))
      (dss_cons (ds_set 8 nd (de_callC (c__law_low fx) b__law_low hr (by omega) tk (da_cons (de_var 2) (da_cons (de_var 6) da_nil))))
      (dss_cons (ds_set 9 nd (de_callC (c__law_walk fx) b__law_walk hr (by omega) tk (da_cons (de_var 0) (da_cons (de_var 1) (da_cons (de_var 2) (da_cons (de_var 3) (da_cons (de_lst da_nil) (da_cons (de_var 5) da_nil))))))))
      (dss_cons (ds_set 10 nd (de_callC (c__law_part fx) b__law_part hr (by omega) tk (da_cons (de_var 9) (da_cons de_int (da_cons (de_var 6) da_nil)))))
      (dss_cons (ds_if (dt_eq hr.units (de_var 3) de_str) (dss_cons (ds_set 11 nd (de_callC (c_stay_course fx) b_stay_course hr (by omega) tk (da_cons (de_var 0) (da_cons (de_var 7) (da_cons (de_var 8) (da_cons (de_var 5) da_nil))))))
      (dss_cons (ds_set 12 nd (de_callKC [3, 2, 1, 0] (c_stay_course fx) bk_stay_course_many_rooms_start_web hr (by omega) tk (dk_cons (de_var 5) (dk_cons (de_var 8) (dk_cons (de_var 7) (dk_cons (de_var 0) dk_nil))))))
      dss_nil)) (dss_cons (ds_set 11 nd (de_callC (c_go_course fx) b_go_course hr (by omega) tk (da_cons (de_var 0) (da_cons (de_var 7) (da_cons (de_var 8) (da_cons (de_var 5) da_nil))))))
      (dss_cons (ds_set 12 nd (de_callKC [3, 2, 1, 0] (c_go_course fx) bk_go_course_many_allowance_start_web hr (by omega) tk (dk_cons (de_var 5) (dk_cons (de_var 8) (dk_cons (de_var 7) (dk_cons (de_var 0) dk_nil))))))
      dss_nil)))
      (dss_cons (ds_if (DW.dt (dw_or (dt_not (dt_truth (de_callC (c__law_same fx) b__law_same hr (by omega) tk (da_cons (de_var 11) (da_cons (de_var 10) da_nil))))) (dw_or1 (dt_not (dt_truth (de_callC (c__law_same fx) b__law_same hr (by omega) tk (da_cons (de_var 12) (da_cons (de_var 10) da_nil)))))))) (dss_cons (ds_ret de_bl)
      dss_nil) dss_nil)
      (dss_cons (ds_set 13 nd (de_callC (c__law_part fx) b__law_part hr (by omega) tk (da_cons (de_cut (de_var 9) trivial (de_var 5)) (da_cons de_int (da_cons (de_var 6) da_nil)))))
      (dss_cons (ds_if (dt_not (dt_truth (de_callC (c__law_one_course fx) b__law_one_course hr (by omega) tk (da_cons (de_var 0) (da_cons (de_var 7) (da_cons (de_var 11) (da_cons (de_var 13) (da_cons (de_callC (c__law_part fx) b__law_part hr (by omega) tk (da_cons (de_cut (de_var 9) de_int trivial) (da_cons de_int (da_cons (de_var 6) da_nil)))) da_nil)))))))) (dss_cons (ds_ret de_bl)
      dss_nil) dss_nil)
      (dss_cons (ds_set 14 nd (de_callC (c__law_walk fx) b__law_walk hr (by omega) tk (da_cons (de_var 0) (da_cons (de_var 1) (da_cons (de_var 2) (da_cons (de_var 3) (da_cons (de_var 4) (da_cons de_int da_nil))))))))
      (dss_cons (ds_set 15 nd (de_callC (c__law_part fx) b__law_part hr (by omega) tk (da_cons (de_var 14) (da_cons de_int (da_cons (de_var 6) da_nil)))))
      (dss_cons (ds_for (L2.passes_of rfl) rfl (di_range1 fx.n_range (de_add (de_callB (call_min2 rfl) callD_min2 (by decide +kernel) fx.n_min (da_cons (de_var 5) (da_cons de_int da_nil))) de_int)) (dg_name 16 nd) (dss_cons (ds_set 17 nd (de_ix (de_var 11) (de_var 16)))
      (dss_cons (ds_set 18 nd (de_ix (de_var 15) (de_var 16)))
      (dss_cons (ds_if (dt_eq hr.units (de_var 3) de_str) (dss_cons (ds_set 17 nd (de_ix (de_var 15) (de_var 16)))
      (dss_cons (ds_set 18 nd (de_ix (de_var 11) (de_var 16)))
      dss_nil)) dss_nil)
      (dss_cons (ds_if (dt_not (dt_truth (de_callC (c__law_within fx) b__law_within hr (by omega) tk (da_cons (de_var 17) (da_cons (de_var 18) da_nil))))) (dss_cons (ds_ret de_bl)
      dss_nil) dss_nil)
      dss_nil)))))
      (dss_cons (ds_ret (de_callC (c__law_one_course fx) b__law_one_course hr (by omega) tk (da_cons (de_var 0) (da_cons (de_var 7) (da_cons (de_var 15) (da_cons (de_callC (c__law_part fx) b__law_part hr (by omega) tk (da_cons (de_cut (de_var 14) trivial de_int) (da_cons de_int (da_cons (de_var 6) da_nil)))) (da_cons (de_callC (c__law_part fx) b__law_part hr (by omega) tk (da_cons (de_cut (de_var 14) de_int trivial) (da_cons de_int (da_cons (de_var 6) da_nil)))) da_nil)))))))
      dss_nil))))))))))))
noncomputable def D__law_tops : SDen := sSeq (sSet 3 (dLstM (dNil))) (sSeq (sIf (dBin oGt (dVar 1) (dC (.int 5))) (sSeq (sSet 0 (dBin oMul (dVar 0) (dC (.int 1000001)))) (sNil)) (sNil)) (sSeq (sFor (dRange1 (dVar 1)) (tName 4) (sSeq (sExpr (dApp (dVar 3) (dBin oIx (dVar 2) (dBin oMod (dCall oInt1 (dCons (dVar 0) (dNil))) (dCall oLen (dCons (dVar 2) (dNil))))))) (sSeq (sSet 0 (dBin oDiv (dVar 0) (dCall oLen (dCons (dVar 2) (dNil))))) (sNil)))) (sSeq (sRet (dVar 3)) (sNil))))
theorem Q__law_tops : ∃ F : Op, F = fnOf ["_law_number", "_law_size", "_law_menu", "_law_tops_here", "_law_k"] D__law_tops := ⟨_, rfl⟩
noncomputable def O__law_tops : Op := Classical.choose Q__law_tops
instance is__law_tops : Is O__law_tops ["_law_number", "_law_size", "_law_menu", "_law_tops_here", "_law_k"] D__law_tops := ⟨Classical.choose_spec Q__law_tops⟩
theorem sc__law_tops : FnScope ["_law_number", "_law_size", "_law_menu", "_law_tops_here", "_law_k"] ["_law_number", "_law_size", "_law_menu"] (defScope (top 57)) := ⟨rfl, rfl, rfl, by decide +kernel, rfl, by decide +kernel, by decide +kernel⟩
theorem b__law_tops : BindsAll "_law_tops" (top 57) ["_law_number", "_law_size", "_law_menu"] := fun _ _ _ _ _ _ us hl => match us, hl with | [_, _, _], _ => rfl
theorem c__law_tops (fx : Facts K mg) : Callee P w K mg base 1 "_law_tops" (top 57) ["_law_number", "_law_size", "_law_menu"] O__law_tops := by
  obtain ⟨fd, F⟩ := fx.F__law_tops
  refine ⟨fx.g__law_tops, fd, F, ?_⟩
  rw [is__law_tops.eq]
  refine fn_den F sc__law_tops fun cdv A outer s H E hr tk => ?_
  have nd := sc__law_tops.nd
  exact (dss_cons (ds_set 3 nd (de_lstM da_nil))
      (dss_cons (ds_if (dt_gt (de_var 1) de_int) (dss_cons (ds_set 0 nd (de_mul (de_var 0) de_int))
      dss_nil) dss_nil)
      (dss_cons (ds_for (L2.passes_of rfl) rfl (di_range1 fx.n_range (de_var 1)) (dg_name 4 nd) (dss_cons (ds_expr (de_app (de_var 3) (de_ix (de_var 2) (de_mod (de_callTy call_int1 callD_int1 (by decide +kernel) fx.n_int (da_cons (de_var 0) da_nil)) (de_len fx.n_len (da_cons (de_var 2) da_nil))))))
      (dss_cons (ds_set 0 nd (de_div (de_var 0) (de_len fx.n_len (da_cons (de_var 2) da_nil))))
      dss_nil)))
      (dss_cons (ds_ret (de_var 3))
      dss_nil))))
noncomputable def D_law : SDen := sSeq (sSet 1 (dFn 1 O__law_pool (dCons (dVar 0) (dNil)))) (sSeq (sSet 2 (dFn 1 O__law_net (dCons (dVar 1) (dNil)))) (sSeq (sSet 3 (dCall oLen (dCons (dBin oIx (dVar 2) (dC (.int 0))) (dNil)))) (sSeq (sSet 4 (dBin oIx (dTup (dCons (dC (.int 1)) (dCons (dC (.int 2)) (dCons (dC (.int 3)) (dCons (dC (.int 4)) (dCons (dC (.int 6)) (dCons (dC (.int 12)) (dNil)))))))) (dBin oMod (dCall oInt1 (dCons (dBin oIx (dVar 1) (dC (.int 6))) (dNil))) (dC (.int 6))))) (sSeq (sSet 5 (dFn 3 O__law_tops (dCons (dBin oIx (dVar 1) (dC (.int 7))) (dCons (dVar 3) (dCons (dTup (dCons (dC (.int 2)) (dCons (dC (.int 0)) (dCons (dC (.int 1)) (dCons (dC (.int 3)) (dCons (dC (.int 0)) (dCons (dC (.int 6)) (dCons (dC (.int 1)) (dCons (dC (.int 4)) (dNil)))))))))) (dNil)))))) (sSeq (sSet 6 (dFn 3 O__law_tops (dCons (dBin oIx (dVar 1) (dC (.int 8))) (dCons (dVar 3) (dCons (dTup (dCons (dC (.int 1)) (dCons (dC (.int 0)) (dCons (dC (.int 3)) (dCons (dC (.int 2)) (dCons (dC (.int 0)) (dCons (dC (.int 5)) (dCons (dC (.int 8)) (dCons (dC (.int 1)) (dNil)))))))))) (dNil)))))) (sSeq (sSet 7 (dFn 3 O__law_tops (dCons (dBin oIx (dVar 1) (dC (.int 9))) (dCons (dVar 3) (dCons (dTup (dCons (dC (.int 3)) (dCons (dC (.int 2)) (dCons (dC (.int 0)) (dCons (dC (.int 1)) (dCons (dC (.int 9)) (dCons (dC (.int 4)) (dCons (dC (.int 0)) (dCons (dC (.int 16)) (dNil)))))))))) (dNil)))))) (sSeq (sSet 8 (dLc [9] (dRange1 (dC (.int 5))) (.one 9) (dYes) (dFn 3 O__law_tops (dCons (dBin oIx (dVar 1) (dBin oPlus (dC (.int 10)) (dVar 9))) (dCons (dVar 3) (dCons (dTup (dCons (dC (.int 2)) (dCons (dC (.int 0)) (dCons (dC (.int 4)) (dCons (dC (.int 1)) (dCons (dC (.int 3)) (dNil))))))) (dNil))))))) (sSeq (sSet 10 (dBin oIx (dTup (dCons (dC (.int 5)) (dCons (dC (.int 2)) (dCons (dC (.int 6)) (dCons (dC (.int 0)) (dCons (dC (.int 5)) (dCons (dC (.int 1)) (dCons (dC (.int 16)) (dCons (dC (.int 7)) (dNil)))))))))) (dBin oMod (dCall oInt1 (dCons (dBin oIx (dVar 1) (dC (.int 15))) (dNil))) (dC (.int 8))))) (sSeq (sIf (dNot (dTru (dFn 0 O__law_hand dNil))) (sSeq (sRet (dC (.bl false))) (sNil)) (sNil)) (sSeq (sIf (dNot (dTru (dFn 7 O__law_rules (dCons (dVar 2) (dCons (dVar 5) (dCons (dVar 6) (dCons (dC (.str "stay")) (dCons (dVar 8) (dCons (dVar 10) (dCons (dVar 4) (dNil))))))))))) (sSeq (sRet (dC (.bl false))) (sNil)) (sNil)) (sSeq (sIf (dNot (dTru (dFn 7 O__law_rules (dCons (dVar 2) (dCons (dVar 5) (dCons (dVar 7) (dCons (dC (.str "go")) (dCons (dVar 8) (dCons (dVar 10) (dCons (dVar 4) (dNil))))))))))) (sSeq (sRet (dC (.bl false))) (sNil)) (sNil)) (sSeq (sIf (dNot (dTru (dFn 6 O__law_bends (dCons (dVar 2) (dCons (dVar 5) (dCons (dVar 6) (dCons (dVar 8) (dCons (dVar 4) (dCons (dCut (dVar 1) (some (dC (.int 16))) (some (dC (.int 21)))) (dNil)))))))))) (sSeq (sRet (dC (.bl false))) (sNil)) (sNil)) (sSeq (sRet (dFn 3 O__law_refusals (dCons (dVar 2) (dCons (dFn 2 O__law_low (dCons (dVar 5) (dCons (dVar 4) (dNil)))) (dCons (dCut (dVar 1) (some (dC (.int 21))) (some (dC (.int 23)))) (dNil)))))) (sNil))))))))))))))
theorem Q_law : ∃ F : Op, F = fnOf ["_law_script", "_law_row", "_law_net_here", "_law_size", "_law_base", "_law_begin", "_law_room", "_law_allow", "_law_shares", "_law_k", "_law_upto"] D_law := ⟨_, rfl⟩
noncomputable def O_law : Op := Classical.choose Q_law
instance is_law : Is O_law ["_law_script", "_law_row", "_law_net_here", "_law_size", "_law_base", "_law_begin", "_law_room", "_law_allow", "_law_shares", "_law_k", "_law_upto"] D_law := ⟨Classical.choose_spec Q_law⟩
theorem sc_law : FnScope ["_law_script", "_law_row", "_law_net_here", "_law_size", "_law_base", "_law_begin", "_law_room", "_law_allow", "_law_shares", "_law_k", "_law_upto"] ["_law_script"] (defScope (top 75)) := ⟨rfl, rfl, rfl, by decide +kernel, rfl, by decide +kernel, by decide +kernel⟩
theorem b_law : BindsAll "law" (top 75) ["_law_script"] := fun _ _ _ _ _ _ us hl => match us, hl with | [_], _ => rfl
theorem c_law (fx : Facts K mg) : Callee P w K mg base 16 "law" (top 75) ["_law_script"] O_law := by
  obtain ⟨fd, F⟩ := fx.F_law
  refine ⟨fx.g_law, fd, F, ?_⟩
  rw [is_law.eq]
  refine fn_den F sc_law fun cdv A outer s H E hr tk => ?_
  have nd := sc_law.nd
  exact (dss_cons (ds_set 1 nd (de_callC (c__law_pool fx) b__law_pool hr (by omega) tk (da_cons (de_var 0) da_nil)))
      (dss_cons (ds_set 2 nd (de_callC (c__law_net fx) b__law_net hr (by omega) tk (da_cons (de_var 1) da_nil)))
      (dss_cons (ds_set 3 nd (de_len fx.n_len (da_cons (de_ix (de_var 2) de_int) da_nil)))
      (dss_cons (ds_set 4 nd (de_ix (de_tup (da_cons de_int (da_cons de_int (da_cons de_int (da_cons de_int (da_cons de_int (da_cons de_int da_nil))))))) (de_mod (de_callTy call_int1 callD_int1 (by decide +kernel) fx.n_int (da_cons (de_ix (de_var 1) de_int) da_nil)) de_int)))
      (dss_cons (ds_set 5 nd (de_callC (c__law_tops fx) b__law_tops hr (by omega) tk (da_cons (de_ix (de_var 1) de_int) (da_cons (de_var 3) (da_cons (de_tup (da_cons de_int (da_cons de_int (da_cons de_int (da_cons de_int (da_cons de_int (da_cons de_int (da_cons de_int (da_cons de_int da_nil))))))))) da_nil)))))
      (dss_cons (ds_set 6 nd (de_callC (c__law_tops fx) b__law_tops hr (by omega) tk (da_cons (de_ix (de_var 1) de_int) (da_cons (de_var 3) (da_cons (de_tup (da_cons de_int (da_cons de_int (da_cons de_int (da_cons de_int (da_cons de_int (da_cons de_int (da_cons de_int (da_cons de_int da_nil))))))))) da_nil)))))
      (dss_cons (ds_set 7 nd (de_callC (c__law_tops fx) b__law_tops hr (by omega) tk (da_cons (de_ix (de_var 1) de_int) (da_cons (de_var 3) (da_cons (de_tup (da_cons de_int (da_cons de_int (da_cons de_int (da_cons de_int (da_cons de_int (da_cons de_int (da_cons de_int (da_cons de_int da_nil))))))))) da_nil)))))
      (dss_cons (ds_setLc 8 [("_law_k", 9)] (.one 9) rfl nd (by decide) (by exact blkB_ok (by kernel_rfl)) (di_range1 fx.n_range de_int) (fun _ _ _ _ _ => (pg_name nd rfl (by first | exact .inl rfl | exact .inr rfl) (by first | exact .inl rfl | exact .inr rfl))) (fun _ _ _ _ _ => dts_nil) (fun _ _ _ _ _ => (de_callC (c__law_tops fx) b__law_tops hr (by omega) takes0 (da_cons (de_ix (de_var 1) (de_add de_int (de_var 9))) (da_cons (de_var 3) (da_cons (de_tup (da_cons de_int (da_cons de_int (da_cons de_int (da_cons de_int (da_cons de_int da_nil)))))) da_nil))))) (by rfl))
      (dss_cons (ds_set 10 nd (de_ix (de_tup (da_cons de_int (da_cons de_int (da_cons de_int (da_cons de_int (da_cons de_int (da_cons de_int (da_cons de_int (da_cons de_int da_nil))))))))) (de_mod (de_callTy call_int1 callD_int1 (by decide +kernel) fx.n_int (da_cons (de_ix (de_var 1) de_int) da_nil)) de_int)))
      (dss_cons (ds_if (dt_not (dt_truth (de_callC0 (c__law_hand fx) b__law_hand hr (by omega) tk))) (dss_cons (ds_ret de_bl)
      dss_nil) dss_nil)
      (dss_cons (ds_if (dt_not (dt_truth (de_callC (c__law_rules fx) b__law_rules hr (by omega) tk (da_cons (de_var 2) (da_cons (de_var 5) (da_cons (de_var 6) (da_cons de_str (da_cons (de_var 8) (da_cons (de_var 10) (da_cons (de_var 4) da_nil)))))))))) (dss_cons (ds_ret de_bl)
      dss_nil) dss_nil)
      (dss_cons (ds_if (dt_not (dt_truth (de_callC (c__law_rules fx) b__law_rules hr (by omega) tk (da_cons (de_var 2) (da_cons (de_var 5) (da_cons (de_var 7) (da_cons de_str (da_cons (de_var 8) (da_cons (de_var 10) (da_cons (de_var 4) da_nil)))))))))) (dss_cons (ds_ret de_bl)
      dss_nil) dss_nil)
      (dss_cons (ds_if (dt_not (dt_truth (de_callC (c__law_bends fx) b__law_bends hr (by omega) tk (da_cons (de_var 2) (da_cons (de_var 5) (da_cons (de_var 6) (da_cons (de_var 8) (da_cons (de_var 4) (da_cons (de_cut (de_var 1) de_int de_int) da_nil))))))))) (dss_cons (ds_ret de_bl)
      dss_nil) dss_nil)
      (dss_cons (ds_ret (de_callC (c__law_refusals fx) b__law_refusals hr (by omega) tk (da_cons (de_var 2) (da_cons (de_callC (c__law_low fx) b__law_low hr (by omega) tk (da_cons (de_var 5) (da_cons (de_var 4) da_nil))) (da_cons (de_cut (de_var 1) de_int de_int) da_nil)))))
      dss_nil))))))))))))))
end
end My
set_option Elab.async false
set_option linter.all false
set_option maxRecDepth 100000
set_option maxHeartbeats 4000000
set_option exponentiation.threshold 20000
namespace My
open PySem PySem.Spec PyProof.Rows L2 PD
/-! the package's loads: the functions of each law that has them -/
theorem v_is_integer (S : Store) (d : D) (h : told d = true) : O_is_integer [d] S = some (.ok (.bl (whole d)) S) := by
  refine fn_rtS ?_ rfl
  cases d <;> simp [told, tyName] at h <;> simp [D_is_integer, startD, tyName, isTy, whole]
def numb : D → Bool
  | .int i => decide (0 ≤ i)
  | _ => false
def isPair : D → Bool
  | .tup xs => ((xs.length : Int) == 2)
  | _ => false
theorem v_is_pair (S : Store) (d : D) (h : told d = true) : O_is_pair [d] S = some (.ok (.bl (isPair d)) S) := by
  refine fn_rtS ?_ rfl
  cases d <;> simp [told, tyName] at h <;> simp [D_is_pair, startD, tyName, isTy, isPair]
theorem v_is_number (S : Store) (d : D) (h : told d = true) : O_is_number [d] S = some (.ok (.bl (numb d)) S) := by
  refine fn_rtS ?_ rfl
  simp [D_is_number, startD, v_is_integer S d h]
  cases d <;> simp [whole, numb, oGe]
def bott : D → Bool
  | .int i => decide (1 ≤ i)
  | _ => false
theorem v_is_bottom (S : Store) (d : D) (h : told d = true) : O_is_bottom [d] S = some (.ok (.bl (bott d)) S) := by
  refine fn_rtS ?_ rfl
  simp [D_is_bottom, startD, v_is_integer S d h]
  cases d <;> simp [whole, bott, oGe]
def tell : D → Bool
  | .tup xs => xs.all told
  | d => told d
theorem tell_told {d : D} (h : tell d = true) : told d = true := by
  cases d <;> simp_all [tell, told, tyName]
theorem v_require_yes (S : Store) (x : Str) : O_require [.bl true, .str x] S = some (.ok .non S) := by
  refine fn_nx (ρ := [some (.bl true), some (.str x)]) ?_
  simp [D_require, startD, truth]
theorem v_require_no (S : Store) (x : Str) : O_require [.bl false, .str x] S = some (.exc "NotUsable" ["at", "word"] [.int (-1), .str x] S) := by
  refine fn_exc (ρ := [some (.bl false), some (.str x)]) ?_ rfl
  simp [D_require, startD, truth, sRaise]
theorem gcd_nat (a b : Int) : ((Nat.gcd a.natAbs b.natAbs : Nat) : Int) = (Int.gcd a b : Int) := rfl
theorem v_common_divisor (S : Store) (xs : List Int) : O_common_divisor [.lst (xs.map .int)] S = some (.ok (.int (cd xs)) S) := by
  refine fn_rtS ?_ rfl
  have key : ∀ (ys : List Int) (all : List D) (g : Int) (c : Option D), ∃ c', forLoop none all (tName 2) (sSeq (sSet 1 (dCall oGcd (dCons (dVar 1) (dCons (dVar 2) (dNil))))) (sNil)) (ys.map .int) [some (.lst (xs.map .int)), some (.int g), c] S = some (.nx [some (.lst (xs.map .int)), some (.int (ys.foldl (fun g x => (Int.gcd g x : Int)) g)), c'] S) := by
    intro ys
    induction ys with
    | nil => exact fun all g c => ⟨c, by simp⟩
    | cons y ys ih =>
      intro all g c
      obtain ⟨c', e⟩ := ih all (Int.gcd g y) (some (.int y))
      refine ⟨c', ?_⟩
      rw [List.map_cons, loop_cons]
      simp [gcd_nat, e]
  obtain ⟨c', e⟩ := key xs (xs.map .int) 0 none
  have hf : sFor (dItems (dVar 0)) (tName 2) (sSeq (sSet 1 (dCall oGcd (dCons (dVar 1) (dCons (dVar 2) (dNil))))) (sNil)) [some (.lst (xs.map .int)), some (.int 0), none] S = _ := (for_of (w := none) (items := xs.map .int) (S1 := S) (by simp [asWalk])).trans e
  simp only [D_common_divisor, startD, e_seq]
  simp [hf, cd]
abbrev ld (ts : List Int) (b : Int) : D := .tup [.tup (ts.map .int), .int b]
def ival : D → Int
  | .int i => i
  | _ => 0
def numsB (n : Int) : D → Bool
  | .tup xs => ((xs.length : Int) == n) && xs.all numb
  | _ => false
abbrev pr (a b : Int) : D := .tup [.int a, .int b]
theorem v_are_numbers (S : Store) (n : Int) (d : D) (h : tell d = true) (hz : ∀ xs, d = .tup xs → xs.length ≤ 1000) : O_are_numbers [.int n, d] S = some (.ok (.bl (numsB n d)) S) := by
  refine fn_rtS ?_ rfl
  simp only [D_are_numbers, startD]
  match d, h with
  | .tup xs, h =>
    simp only [tell, List.all_eq_true] at h
    have e := lc_map (own := [2]) (t := .one 2) (elt := dFn 1 O_is_number (dCons (dVar 2) (dNil))) (f := dItems (dVar 1)) (ρ := [some (.int n), some (.tup xs), none]) (S := S) (items := xs) (fun x => .bl (numb x)) (fun x => [some (.int n), some (.tup xs), some x]) (by simp [asWalk])
      (fun x _ => rfl) (fun x hx T => by simp [v_is_number T x (h x hx)]) (by have := hz xs rfl; omega) (by simp [closeds_all, closed])
    by_cases hn : (xs.length : Int) = n
    · have k : ((xs.length : Int) == n) = true := by rw [hn]; exact beq_self_eq_true n
      simp [tyName, isTy, e, numsB, k]
    · have k : ((xs.length : Int) == n) = false := beq_eq_false_iff_ne.mpr hn
      simp [tyName, isTy, numsB, k]
  | .non, _ => simp [tyName, isTy, numsB]
  | .bl _, _ => simp [tyName, isTy, numsB]
  | .int _, _ => simp [tyName, isTy, numsB]
  | .str _, _ => simp [tyName, isTy, numsB]
  | .lst _, _ => simp [tyName, isTy, numsB]
  | .scr _, _ => simp [tyName, isTy, numsB]
  | .ref _, _ => simp [tyName, isTy, numsB]
  | .rng .., h => simp [tell, told, tyName] at h
  | .err .., h => simp [tell, told, tyName] at h
  | .cau .., h => simp [tell, told, tyName] at h
theorem numb_ints : ∀ {xs : List D}, xs.all numb = true → xs = (xs.map ival).map .int
  | [], _ => rfl
  | x :: xs, h => by
    simp only [List.all_cons, Bool.and_eq_true] at h
    have h1 := numb_ints h.2
    rw [List.map_cons, List.map_cons, ← h1]
    cases x <;> simp [numb] at h <;> rfl
def loadB (n : Int) : D → Bool
  | .tup [x, y] => numsB n x && bott y && (match x, y with
    | .tup xs, .int b => cd (xs.map ival ++ [b]) == 1
    | _, _ => false)
  | _ => false
def tellL : D → Bool
  | .tup xs => xs.all fun x => tell x && (match x with
    | .tup ys => decide (ys.length ≤ 1000)
    | _ => true)
  | d => told d
theorem v_is_load (S : Store) (n : Int) (d : D) (h : tellL d = true) : O_is_load [.int n, d] S = some (.ok (.bl (loadB n d)) S) := by
  refine fn_rtS ?_ rfl
  simp only [D_is_load, startD]
  have ht : told d = true := by cases d <;> simp_all [tellL, told, tyName]
  by_cases hp : isPair d = true
  · match d, hp with
    | .tup [x, y], _ =>
      simp only [tellL, List.all_cons, List.all_nil, Bool.and_true, Bool.and_eq_true] at h
      obtain ⟨⟨hx, hx2⟩, hy, _⟩ := h
      have hz : ∀ xs, x = .tup xs → xs.length ≤ 1000 := fun xs e => by subst e; simpa using hx2
      have t2 : told (.tup [x, y]) = true := rfl
      have a1 := v_are_numbers S n x hx hz
      have a2 := v_is_bottom S y (tell_told hy)
      by_cases c1 : numsB n x = true
      · by_cases c2 : bott y = true
        · match x, c1 with
          | .tup xs, c1 =>
            match y, c2 with
            | .int b, c2 =>
              simp only [numsB, Bool.and_eq_true] at c1
              have hi := numb_ints c1.2
              have e : xs ++ [.int b] = (xs.map ival ++ [b]).map .int := by
                rw [List.map_append, ← hi]; rfl
              have v := v_common_divisor S (xs.map ival ++ [b])
              rw [← e] at v
              have c1' : numsB n (.tup xs) = true := by simp [numsB, c1.1, c1.2]
              have hz' := hz xs rfl
              have ft : fits (xs.length + 1) = true := by unfold fits; exact decide_eq_true (by omega)
              simp [v_is_pair S _ t2, isPair, a1, a2, c1', c2, truth, dStar, asSeq, ft, v, loadB]
        · simp only [Bool.not_eq_true] at c2
          simp [v_is_pair S _ t2, isPair, a1, a2, c1, c2, truth, loadB]
      · simp only [Bool.not_eq_true] at c1
        simp [v_is_pair S _ t2, isPair, a1, c1, truth, loadB]
    | .tup [], hp => simp [isPair] at hp
    | .tup [_], hp => simp [isPair] at hp
    | .tup (_ :: _ :: _ :: _), hp => simp [isPair] at hp; omega
  · have hl : loadB n d = false := by
      unfold loadB
      split
      · exact absurd rfl hp
      · rfl
    simp only [Bool.not_eq_true] at hp
    simp [v_is_pair S d ht, hp, truth, hl]
/-- a load in lowest terms from tops and a bottom -/
def lf (ts : List Int) (b : Int) : D := ld (lowT ts b) (lowB ts b)
theorem closed_ld (ts : List Int) (b : Int) : closed (ld ts b) = true := by
  simp only [closed, closeds, closeds_map_int, Bool.and_self]
theorem v_load_from (S : Store) (ts : List Int) (b : Int) (hb : 1 ≤ b) (h9 : b.natAbs < 2 ^ 9000) (hn : ts.length ≤ 1000) : O_load_from [.lst (ts.map .int), .int b] S = some (.ok (lf ts b) S) := by
  refine fn_rtS ?_ (closed_ld _ _)
  obtain ⟨g0, g1⟩ := cd_bot (ts := ts) hb
  generalize hg : cd (ts ++ [b]) = g at *
  have lg : g.natAbs.log2 < 9000 := (Nat.log2_lt (by omega)).mpr (by omega)
  have ft : fits (ts.length + 1) = true := by unfold fits; exact decide_eq_true (by omega)
  have e : ts.map D.int ++ [.int b] = (ts ++ [b]).map .int := by simp
  have v := v_common_divisor S (ts ++ [b])
  rw [← e, hg] at v
  have c := lc_map (own := [3]) (t := .one 3) (elt := dBin oDiv (dVar 3) (dVar 2)) (f := dItems (dVar 0)) (ρ := [some (.lst (ts.map .int)), some (.int b), some (.int g), none]) (S := S) (items := ts.map .int) (fun x => .int (ival x / g)) (fun x => [some (.lst (ts.map .int)), some (.int b), some (.int g), some x]) (by simp [asWalk])
    (fun x _ => rfl) (fun x hx T => by
      obtain ⟨i, _, rfl⟩ := List.mem_map.mp hx
      simp [oDiv, g0, lg, ival]) (by simp; omega) (by simp [closeds_all, closed])
  have m : (ts.map D.int).map (fun x => D.int (ival x / g)) = (ts.map (· / g)).map .int := by
    rw [List.map_map, List.map_map]; rfl
  rw [m] at c
  simp only [D_load_from, startD]
  simp [dStar, asSeq, ft, v, c, oTuple1, asList, oDiv, g0, lg, lf, lowT, lowB, hg]
def lvl (ts us : List Int) (b c : Int) (i : Nat) : D := pr (gt ts i * c) (gt us i * b)
theorem v_leveled (S : Store) (ts us : List Int) (b c : Int) (hl : us.length = ts.length) (hn : ts.length ≤ 1000) (h1 : ∀ x ∈ ts, small x) (h2 : ∀ x ∈ us, small x) (hb : small b) (hc : small c) : O_leveled [ld ts b, ld us c] S = some (.ok (.lst ((List.range ts.length).map (lvl ts us b c))) S) := by
  have cl : closeds ((List.range ts.length).map (lvl ts us b c)) = true := by simp [closeds_all, lvl, closed, closeds]
  refine fn_rtS ?_ (by simp only [closed]; exact cl)
  have e := lc_range (own := [2]) (t := .one 2) (elt := dTup (dCons (dBin oMul (dBin oIx (dBin oIx (dVar 0) (dC (.int 0))) (dVar 2)) (dBin oIx (dVar 1) (dC (.int 1)))) (dCons (dBin oMul (dBin oIx (dBin oIx (dVar 1) (dC (.int 0))) (dVar 2)) (dBin oIx (dVar 0) (dC (.int 1)))) (dNil)))) (f := dRange1 (dCall oLen (dCons (dBin oIx (dVar 0) (dC (.int 0))) (dNil)))) (ρ := [some (ld ts b), some (ld us c), none]) (S := S) ts.length (lvl ts us b c) (fun i => [some (ld ts b), some (ld us c), some (.int (i : Nat))])
    (range1_of (by simp [e_len2]) (by omega)) (fun i _ => rfl) (fun i hi T => by
      have i2 : i < us.length := by omega
      simp [ixT hi, ixT i2, e_mulI (getD_small h1 i) hc, e_mulI (getD_small h2 i) hb, lvl]) (by omega) cl
  have st : startD ["load", "other", "i"] [ld ts b, ld us c] = [some (ld ts b), some (ld us c), none] := rfl
  simp only [D_leveled]
  rw [st, e_seq, e_ret, e]
  rfl
theorem v_require_alike_yes (S : Store) (ts : List Int) (b : Int) (d : D) (h : tellL d = true) (hl : loadB ts.length d = true) : O_require_alike [ld ts b, d] S = some (.ok .non S) := by
  refine fn_nx (ρ := [some (ld ts b), some d]) ?_
  have v := v_is_load S ts.length d h
  rw [hl] at v
  have st : startD ["load", "other"] [ld ts b, d] = [some (ld ts b), some d] := rfl
  simp only [D_require_alike]
  rw [st]
  simp [e_len2, v, v_require_yes]
theorem v_require_alike_no (S : Store) (ts : List Int) (b : Int) (d : D) (h : tellL d = true) (hl : loadB ts.length d = false) : O_require_alike [ld ts b, d] S = some (.exc "NotUsable" ["at", "word"] [.int (-1), .str "other"] S) := by
  refine fn_exc (ρ := [some (ld ts b), some d]) ?_ rfl
  have v := v_is_load S ts.length d h
  rw [hl] at v
  have st : startD ["load", "other"] [ld ts b, d] = [some (ld ts b), some d] := rfl
  simp only [D_require_alike]
  rw [st]
  simp [e_len2, v, v_require_no]
structure Two (ts us : List Int) (b c : Int) : Prop where
  len : us.length = ts.length
  few : ts.length ≤ 1000
  ts_ : ∀ x ∈ ts, small x
  us_ : ∀ x ∈ us, small x
  b1 : 1 ≤ b
  c1 : 1 ≤ c
  b_ : small b
  c_ : small c
  tl : tellL (ld us c) = true
  lo : loadB ts.length (ld us c) = true
theorem Two.bc {ts us : List Int} {b c : Int} (h : Two ts us b c) : 1 ≤ b * c ∧ (b * c).natAbs < 2 ^ 9000 := by
  refine ⟨?_, Nat.lt_of_lt_of_le (natAbs_mul_lt h.b_ h.c_) (Nat.pow_le_pow_right (by decide) (by decide))⟩
  have := Int.mul_pos (a := b) (b := c) (by have := h.b1; omega) (by have := h.c1; omega)
  omega
theorem Two.lev {ts us : List Int} {b c : Int} (h : Two ts us b c) (S : Store) : O_leveled [ld ts b, ld us c] S = some (.ok (.lst ((List.range ts.length).map (lvl ts us b c))) S) :=
  v_leveled S ts us b c h.len h.few h.ts_ h.us_ h.b_ h.c_
def by2 (g : Int → Int → Int) (ts us : List Int) (b c : Int) : List Int := (List.range ts.length).map fun i => g (gt ts i * c) (gt us i * b)
theorem by2_map (g : Int → Int → Int) (ts us : List Int) (b c : Int) : ((List.range ts.length).map fun i => D.int (g (gt ts i * c) (gt us i * b))) = (by2 g ts us b c).map .int := by
  unfold by2; rw [List.map_map]; rfl
theorem by2_len (g : Int → Int → Int) (ts us : List Int) (b c : Int) : (by2 g ts us b c).length = ts.length := by simp [by2]
theorem lc_by2 {ts us : List Int} {b c : Int} (h : Two ts us b c) (S : Store) (g : Int → Int → Int) (elt : Den) (he : ∀ (x y : Int) (T : Store), elt [some (ld ts b), some (ld us c), some (.int x), some (.int y)] T = some (.ok (.int (g x y)) T)) :
    dLc [2, 3] (dItems (dFn 2 O_leveled (dCons (dVar 0) (dCons (dVar 1) (dNil))))) (.tup (.cons (.one 2) (.cons (.one 3) .nil))) dYes elt [some (ld ts b), some (ld us c), none, none] S = some (.ok (.lst ((by2 g ts us b c).map .int)) S) := by
  rw [← by2_map]
  have hf : dItems (dFn 2 O_leveled (dCons (dVar 0) (dCons (dVar 1) (dNil)))) [some (ld ts b), some (ld us c), none, none] S = some (.ok ((List.range ts.length).map (lvl ts us b c)) none S) := by
    have a : dCons (dVar 0) (dCons (dVar 1) (dNil)) [some (ld ts b), some (ld us c), none, none] S = some (.ok [ld ts b, ld us c] S) := rfl
    have k : dFn 2 O_leveled (dCons (dVar 0) (dCons (dVar 1) (dNil))) [some (ld ts b), some (ld us c), none, none] S = some (.ok (.lst ((List.range ts.length).map (lvl ts us b c))) S) := by
      rw [e_fn, a, bndl_ok]
      exact (if_pos rfl).trans (h.lev S)
    rw [e_items, k]
    rfl
  have few : (List.range ts.length).length ≤ 16777216 := by
    rw [List.length_range]
    exact Nat.le_trans h.few (by decide)
  exact lc_idx (List.range ts.length) (lvl ts us b c) (fun i => .int (g (gt ts i * c) (gt us i * b))) (fun i => [some (ld ts b), some (ld us c), some (.int (gt ts i * c)), some (.int (gt us i * b))]) hf (fun i _ => rfl) (fun i _ T => he _ _ T)
    few (closeds_ints _ _)
theorem two_end {ts us : List Int} {b c : Int} (h : Two ts us b c) (S : Store) (g : Int → Int → Int) (elt : Den) (he : ∀ (x y : Int) (T : Store), elt [some (ld ts b), some (ld us c), some (.int x), some (.int y)] T = some (.ok (.int (g x y)) T)) :
    sSeq (sExpr (dFn 2 O_require_alike (dCons (dVar 0) (dCons (dVar 1) (dNil))))) (sSeq (sRet (dFn 2 O_load_from (dCons (dLc [2, 3] (dItems (dFn 2 O_leveled (dCons (dVar 0) (dCons (dVar 1) (dNil))))) (.tup (.cons (.one 2) (.cons (.one 3) .nil))) (dYes) elt) (dCons (dBin oMul (dBin oIx (dVar 0) (dC (.int 1))) (dBin oIx (dVar 1) (dC (.int 1)))) (dNil))))) (sNil))
      [some (ld ts b), some (ld us c), none, none] S = some (.rt (lf (by2 g ts us b c) (b * c)) S) := by
  have l := lc_by2 h S g elt he
  have v := v_load_from S (by2 g ts us b c) (b * c) h.bc.1 h.bc.2 (by rw [by2_len]; exact h.few)
  generalize by2 g ts us b c = zs at *
  have a0 : dCons (dVar 0) (dCons (dVar 1) (dNil)) [some (ld ts b), some (ld us c), none, none] S = some (.ok [ld ts b, ld us c] S) := rfl
  have r1 : sExpr (dFn 2 O_require_alike (dCons (dVar 0) (dCons (dVar 1) (dNil)))) [some (ld ts b), some (ld us c), none, none] S = some (.nx [some (ld ts b), some (ld us c), none, none] S) := by
    rw [e_expr, e_fn, a0, bndl_ok, if_pos (show [ld ts b, ld us c].length = 2 from rfl), v_require_alike_yes S ts b (ld us c) h.tl h.lo]
    rfl
  have m : dBin oMul (dBin oIx (dVar 0) (dC (.int 1))) (dBin oIx (dVar 1) (dC (.int 1))) [some (ld ts b), some (ld us c), none, none] S = some (.ok (.int (b * c)) S) := by
    have x1 : dBin oIx (dVar 0) (dC (.int 1)) [some (ld ts b), some (ld us c), none, none] S = some (.ok (.int b) S) := e_ix1 (.tup (ts.map .int)) (.int b) [] S
    have x2 : dBin oIx (dVar 1) (dC (.int 1)) [some (ld ts b), some (ld us c), none, none] S = some (.ok (.int c) S) := e_ix1 (.tup (us.map .int)) (.int c) [] S
    rw [e_bin, x1, bnd_ok, x2, bnd_ok]
    exact e_mulI h.b_ h.c_ S
  have a1 : dCons (dLc [2, 3] (dItems (dFn 2 O_leveled (dCons (dVar 0) (dCons (dVar 1) (dNil))))) (.tup (.cons (.one 2) (.cons (.one 3) .nil))) (dYes) elt) (dCons (dBin oMul (dBin oIx (dVar 0) (dC (.int 1))) (dBin oIx (dVar 1) (dC (.int 1)))) (dNil)) [some (ld ts b), some (ld us c), none, none] S = some (.ok [.lst (zs.map .int), .int (b * c)] S) := by
    rw [e_consA, l, bnds_ok, e_consA, m, bnds_ok]
    rfl
  rw [e_seq, r1]
  show sSeq _ _ _ _ = _
  rw [e_seq, e_ret, e_fn, a1, bndl_ok, if_pos (show [D.lst (zs.map .int), D.int (b * c)].length = 2 from rfl), v]
  rfl
theorem v_added {ts us : List Int} {b c : Int} (h : Two ts us b c) (S : Store) : O_added [ld ts b, ld us c] S = some (.ok (lf (by2 (fun x y => x + y) ts us b c) (b * c)) S) :=
  fn_rtS (two_end h S (fun x y => x + y) (dBin oPlus (dVar 2) (dVar 3)) fun x y T => rfl) (closed_ld _ _)
theorem v_lesser_of {ts us : List Int} {b c : Int} (h : Two ts us b c) (S : Store) : O_lesser_of [ld ts b, ld us c] S = some (.ok (lf (by2 (fun x y => if y < x then y else x) ts us b c) (b * c)) S) :=
  fn_rtS (two_end h S (fun x y => if y < x then y else x) (dCall oMin2 (dCons (dVar 2) (dCons (dVar 3) (dNil)))) fun x y T => rfl) (closed_ld _ _)
theorem v_greater_of {ts us : List Int} {b c : Int} (h : Two ts us b c) (S : Store) : O_greater_of [ld ts b, ld us c] S = some (.ok (lf (by2 (fun x y => if y > x then y else x) ts us b c) (b * c)) S) :=
  fn_rtS (two_end h S (fun x y => if y > x then y else x) (dCall oMax2 (dCons (dVar 2) (dCons (dVar 3) (dNil)))) fun x y T => rfl) (closed_ld _ _)
def above (ts us : List Int) (b c : Int) : List Nat := (List.range ts.length).filter fun i => decide (gt ts i * c > gt us i * b)
theorem v_places_above {ts us : List Int} {b c : Int} (h : Two ts us b c) (S : Store) : O_places_above [ld ts b, ld us c] S = some (.ok (.tup ((above ts us b c).map fun i => .int (i : Nat))) S) := by
  have cl : closeds ((above ts us b c).map fun i => D.int (i : Nat)) = true := closeds_ints _ _
  refine fn_rtS ?_ (by simp only [closed]; exact cl)
  have hf : dEnum (dFn 2 O_leveled (dCons (dVar 0) (dCons (dVar 1) (dNil)))) [some (ld ts b), some (ld us c), none, none, none] S = some (.ok ((List.range ts.length).map fun i => .tup [.int (i : Nat), lvl ts us b c i]) none S) := by
    have a : dCons (dVar 0) (dCons (dVar 1) (dNil)) [some (ld ts b), some (ld us c), none, none, none] S = some (.ok [ld ts b, ld us c] S) := rfl
    have k : dFn 2 O_leveled (dCons (dVar 0) (dCons (dVar 1) (dNil))) [some (ld ts b), some (ld us c), none, none, none] S = some (.ok (.lst ((List.range ts.length).map (lvl ts us b c))) S) := by
      rw [e_fn, a, bndl_ok]
      exact (if_pos rfl).trans (h.lev S)
    rw [← enum_range]
    unfold dEnum
    rw [k]
    rfl
  have few : (List.range ts.length).length ≤ 16777216 := by
    rw [List.length_range]
    exact Nat.le_trans h.few (by decide)
  have l := lc_idxF (own := [2, 3, 4]) (t := .tup (.cons (.one 2) (.cons (.tup (.cons (.one 3) (.cons (.one 4) .nil))) .nil))) (cnd := dBin oGt (dVar 3) (dVar 4)) (elt := dVar 2) (List.range ts.length) (fun i => .tup [.int (i : Nat), lvl ts us b c i]) (fun i => .int (i : Nat)) (fun i => decide (gt ts i * c > gt us i * b))
    (fun i => [some (ld ts b), some (ld us c), some (.int (i : Nat)), some (.int (gt ts i * c)), some (.int (gt us i * b))]) hf (fun i _ => rfl) (fun i _ T => rfl) (fun i _ _ T => rfl) few cl
  have st : startD ["load", "other", "i", "top", "limit"] [ld ts b, ld us c] = [some (ld ts b), some (ld us c), none, none, none] := rfl
  simp only [D_places_above]
  rw [st, e_seq, e_ret, e_call, e_consA, l]
  rfl
theorem req2 {ts us : List Int} {b c : Int} (h : Two ts us b c) (S : Store) (rest : EnvD) : sExpr (dFn 2 O_require_alike (dCons (dVar 0) (dCons (dVar 1) (dNil)))) (some (ld ts b) :: some (ld us c) :: rest) S = some (.nx (some (ld ts b) :: some (ld us c) :: rest) S) := by
  have a0 : dCons (dVar 0) (dCons (dVar 1) (dNil)) (some (ld ts b) :: some (ld us c) :: rest) S = some (.ok [ld ts b, ld us c] S) := rfl
  rw [e_expr, e_fn, a0, bndl_ok, if_pos (show [ld ts b, ld us c].length = 2 from rfl), v_require_alike_yes S ts b (ld us c) h.tl h.lo]
  rfl
theorem pla2 {ts us : List Int} {b c : Int} (h : Two ts us b c) (S : Store) (rest : EnvD) : dFn 2 O_places_above (dCons (dVar 0) (dCons (dVar 1) (dNil))) (some (ld ts b) :: some (ld us c) :: rest) S = some (.ok (.tup ((above ts us b c).map fun i => .int (i : Nat))) S) := by
  have a0 : dCons (dVar 0) (dCons (dVar 1) (dNil)) (some (ld ts b) :: some (ld us c) :: rest) S = some (.ok [ld ts b, ld us c] S) := rfl
  rw [e_fn, a0, bndl_ok, if_pos (show [ld ts b, ld us c].length = 2 from rfl), v_places_above h]
theorem v_is_within {ts us : List Int} {b c : Int} (h : Two ts us b c) (S : Store) : O_is_within [ld ts b, ld us c] S = some (.ok (.bl (above ts us b c).isEmpty) S) := by
  refine fn_rtS ?_ rfl
  have st : startD ["load", "other"] [ld ts b, ld us c] = [some (ld ts b), some (ld us c)] := rfl
  simp only [D_is_within]
  rw [st, e_seq, req2 h]
  show sSeq _ _ _ _ = _
  rw [e_seq, e_ret]
  unfold dNotT
  rw [e_not, e_tru, pla2 h]
  cases above ts us b c <;> rfl
def enough (ts us : List Int) (b c : Int) : Bool := (List.range ts.length).all fun i => decide (gt ts i * c ≥ gt us i * b)
theorem all_enough {ts us : List Int} {b c : Int} (h : Two ts us b c) (S : Store) : dCall oAll (dCons (dLc [2, 3] (dItems (dFn 2 O_leveled (dCons (dVar 0) (dCons (dVar 1) (dNil))))) (.tup (.cons (.one 2) (.cons (.one 3) .nil))) (dYes) (dBin oGe (dVar 2) (dVar 3))) (dNil)) [some (ld ts b), some (ld us c), none, none] S = some (.ok (.bl (enough ts us b c)) S) := by
  have hf : dItems (dFn 2 O_leveled (dCons (dVar 0) (dCons (dVar 1) (dNil)))) [some (ld ts b), some (ld us c), none, none] S = some (.ok ((List.range ts.length).map (lvl ts us b c)) none S) := by
    have a : dCons (dVar 0) (dCons (dVar 1) (dNil)) [some (ld ts b), some (ld us c), none, none] S = some (.ok [ld ts b, ld us c] S) := rfl
    have k : dFn 2 O_leveled (dCons (dVar 0) (dCons (dVar 1) (dNil))) [some (ld ts b), some (ld us c), none, none] S = some (.ok (.lst ((List.range ts.length).map (lvl ts us b c))) S) := by
      rw [e_fn, a, bndl_ok]
      exact (if_pos rfl).trans (h.lev S)
    rw [e_items, k]
    rfl
  have few : (List.range ts.length).length ≤ 16777216 := by
    rw [List.length_range]
    exact Nat.le_trans h.few (by decide)
  have l := lc_idx (own := [2, 3]) (t := .tup (.cons (.one 2) (.cons (.one 3) .nil))) (elt := dBin oGe (dVar 2) (dVar 3)) (List.range ts.length) (lvl ts us b c) (fun i => .bl (decide (gt ts i * c ≥ gt us i * b))) (fun i => [some (ld ts b), some (ld us c), some (.int (gt ts i * c)), some (.int (gt us i * b))]) hf (fun i _ => rfl) (fun i _ T => rfl) few (by simp [closeds_all, closed])
  rw [e_call, e_consA, l, bnds_ok, e_nilA, bndls_ok, bndl_ok]
  exact e_all _ _ S
section
variable {ts us : List Int} {b c : Int}
theorem req_taken (h : Two ts us b c) (S : Store) : dAnd (dFn 2 O_is_load (dCons (dCall oLen (dCons (dBin oIx (dVar 0) (dC (.int 0))) (dNil))) (dCons (dVar 1) (dNil)))) (dCall oAll (dCons (dLc [2, 3] (dItems (dFn 2 O_leveled (dCons (dVar 0) (dCons (dVar 1) (dNil))))) (.tup (.cons (.one 2) (.cons (.one 3) .nil))) (dYes) (dBin oGe (dVar 2) (dVar 3))) (dNil))) [some (ld ts b), some (ld us c), none, none] S = some (.ok (.bl (enough ts us b c)) S) := by
  have v := v_is_load S ts.length (ld us c) h.tl
  rw [h.lo] at v
  have il : dFn 2 O_is_load (dCons (dCall oLen (dCons (dBin oIx (dVar 0) (dC (.int 0))) (dNil))) (dCons (dVar 1) (dNil))) [some (ld ts b), some (ld us c), none, none] S = some (.ok (.bl true) S) := by
    simp [e_len2, v]
  rw [e_and, il, bndB_ok, if_pos rfl]
  exact all_enough h S
theorem n_taken_more (h : Two ts us b c) (he : enough ts us b c = false) (S : Store) : O_taken [ld ts b, ld us c] S = some (.exc "NotUsable" ["at", "word"] [.int (-1), .str "other"] S) := by
  refine fn_exc (ρ := [some (ld ts b), some (ld us c), none, none]) ?_ rfl
  have r := req_taken h S
  rw [he] at r
  have st : startD ["load", "other", "top", "less"] [ld ts b, ld us c] = [some (ld ts b), some (ld us c), none, none] := rfl
  simp only [D_taken]
  rw [st, e_seq, e_expr, e_fn, e_consA, r]
  simp [v_require_no]
theorem v_taken (h : Two ts us b c) (he : enough ts us b c = true) (S : Store) : O_taken [ld ts b, ld us c] S = some (.ok (lf (by2 (fun x y => x - y) ts us b c) (b * c)) S) := by
  refine fn_rtS ?_ (closed_ld _ _)
  have r := req_taken h S
  rw [he] at r
  have st : startD ["load", "other", "top", "less"] [ld ts b, ld us c] = [some (ld ts b), some (ld us c), none, none] := rfl
  have q : sExpr (dFn 2 O_require (dCons (dAnd (dFn 2 O_is_load (dCons (dCall oLen (dCons (dBin oIx (dVar 0) (dC (.int 0))) (dNil))) (dCons (dVar 1) (dNil)))) (dCall oAll (dCons (dLc [2, 3] (dItems (dFn 2 O_leveled (dCons (dVar 0) (dCons (dVar 1) (dNil))))) (.tup (.cons (.one 2) (.cons (.one 3) .nil))) (dYes) (dBin oGe (dVar 2) (dVar 3))) (dNil)))) (dCons (dC (.str "other")) (dNil)))) [some (ld ts b), some (ld us c), none, none] S = some (.nx [some (ld ts b), some (ld us c), none, none] S) := by
    rw [e_expr, e_fn, e_consA, r]
    simp [v_require_yes]
  have l := lc_by2 h S (fun x y => x - y) (dBin oSub (dVar 2) (dVar 3)) (fun x y T => rfl)
  have v := v_load_from S (by2 (fun x y => x - y) ts us b c) (b * c) h.bc.1 h.bc.2 (by rw [by2_len]; exact h.few)
  generalize by2 (fun x y => x - y) ts us b c = zs at *
  have m : dBin oMul (dBin oIx (dVar 0) (dC (.int 1))) (dBin oIx (dVar 1) (dC (.int 1))) [some (ld ts b), some (ld us c), none, none] S = some (.ok (.int (b * c)) S) := by
    have x1 : dBin oIx (dVar 0) (dC (.int 1)) [some (ld ts b), some (ld us c), none, none] S = some (.ok (.int b) S) := e_ix1 (.tup (ts.map .int)) (.int b) [] S
    have x2 : dBin oIx (dVar 1) (dC (.int 1)) [some (ld ts b), some (ld us c), none, none] S = some (.ok (.int c) S) := e_ix1 (.tup (us.map .int)) (.int c) [] S
    rw [e_bin, x1, bnd_ok, x2, bnd_ok]
    exact e_mulI h.b_ h.c_ S
  simp only [D_taken]
  rw [st, e_seq, q]
  show sSeq _ _ _ _ = _
  rw [e_seq, e_ret, e_fn, e_consA, l, bnds_ok, e_consA, m, bnds_ok, e_nilA, bndls_ok, bndls_ok, bndl_ok, if_pos (show [D.lst (zs.map .int), D.int (b * c)].length = 2 from rfl), v]
  rfl
end
end My
set_option Elab.async false
set_option linter.all false
set_option maxRecDepth 100000
set_option maxHeartbeats 4000000
set_option exponentiation.threshold 20000
namespace My
open PySem PySem.Spec PyProof.Rows L2 PD
/-! ### the package's functions of loads, as functions of rational vectors -/
/-- the load of a rational vector -/
def rp (n : Nat) (q : Nat → Rat) : D := lf (rpT n q) (rpB n q)
theorem lf_rp {n : Nat} {ts : List Int} {b : Int} {q : Nat → Rat} (hb : 1 ≤ b) (hl : ts.length = n) (h : ∀ i < n, q i = (gt ts i : Rat) / (b : Rat)) : lf ts b = rp n q := by
  obtain ⟨h1, h2⟩ := low_rp hb hl h
  unfold rp lf
  rw [h1, h2]
theorem rp_eq {n : Nat} {p q : Nat → Rat} (h : ∀ i < n, p i = q i) : rp n p = rp n q := by
  obtain ⟨h1, h2⟩ := rp_congr h
  unfold rp lf
  rw [h1, h2]
theorem small_lt {a : Int} {B : Nat} (h0 : 0 ≤ a) (h1 : a < 2 ^ B) (hB : B ≤ 2000) : small a := by
  unfold small
  have h2 : a < 2 ^ 2000 := by have := pow_le hB; omega
  have h3 : ((a.natAbs : Nat) : Int) < ((2 ^ 2000 : Nat) : Int) := by
    rw [Int.natAbs_of_nonneg h0]
    exact_mod_cast h2
  exact Int.ofNat_lt.mp h3
/-- a load of n places in lowest terms, small -/
structure Lo (n : Nat) (ts : List Int) (b : Int) : Prop where
  len : ts.length = n
  n1 : 1 ≤ n
  nk : n ≤ 60
  nn : ∀ t ∈ ts, 0 ≤ t
  ss : ∀ t ∈ ts, small t
  b1 : 1 ≤ b
  bs : small b
  lo : cd (ts ++ [b]) = 1
theorem numb_all (ts : List Int) (h : ∀ t ∈ ts, 0 ≤ t) : (ts.map D.int).all numb = true := List.all_eq_true.mpr fun x hx => by
  obtain ⟨i, hi, rfl⟩ := List.mem_map.mp hx
  exact decide_eq_true (h i hi)
theorem ival_int (ts : List Int) : (ts.map D.int).map ival = ts := by
  rw [List.map_map]
  exact List.map_id _
theorem tellL_ld (ts : List Int) (b : Int) (h : ts.length ≤ 1000) : tellL (ld ts b) = true := by
  have a : (ts.map D.int).all told = true := List.all_eq_true.mpr fun x hx => by
    obtain ⟨i, _, rfl⟩ := List.mem_map.mp hx
    rfl
  simp [tellL, tell, a, h, told, tyName]
theorem Lo.load {n : Nat} {ts : List Int} {b : Int} (h : Lo n ts b) : loadB n (ld ts b) = true := by
  have nb : numsB n (.tup (ts.map .int)) = true := by
    simp only [numsB, numb_all ts h.nn, Bool.and_true, List.length_map, h.len, beq_self_eq_true]
  have bo : bott (.int b) = true := decide_eq_true h.b1
  simp only [loadB, nb, bo, Bool.and_self, Bool.true_and]
  rw [ival_int, h.lo]
  rfl
theorem Lo.two {n : Nat} {ts us : List Int} {b c : Int} (h : Lo n ts b) (k : Lo n us c) : Two ts us b c where
  len := by rw [h.len, k.len]
  few := by rw [h.len]; exact Nat.le_trans h.nk (by decide)
  ts_ := h.ss
  us_ := k.ss
  b1 := h.b1
  c1 := k.b1
  b_ := h.bs
  c_ := k.bs
  tl := tellL_ld us c (by rw [k.len]; exact Nat.le_trans k.nk (by decide))
  lo := by rw [h.len]; exact k.load
/-- what the load of a small vector is -/
theorem FB.lo {B n : Nat} {q : Nat → Rat} (h : FB B n q) (hB : B ≤ 2000) (n1 : 1 ≤ n) (nk : n ≤ 60) : ∃ ts b, rp n q = ld ts b ∧ Lo n ts b ∧ ∀ i < n, q i = (gt ts i : Rat) / (b : Rat) := by
  obtain ⟨us, c, h1, h2, h3, h4, h5⟩ := h
  obtain ⟨l1, l2, l3, l4, l5, l6⟩ := low_spec us c h2 fun t ht => (h4 t ht).1
  refine ⟨lowT us c, lowB us c, (lf_rp h2 h1 h5).symm, ⟨by rw [l1, h1], n1, nk, fun t ht => (l4 t ht).1, fun t ht => ?_, l2, small_lt (by omega) (by omega : lowB us c < 2 ^ B) hB, l6⟩, fun i hi => ?_⟩
  · obtain ⟨z0, u, hu, hle⟩ := l4 t ht
    have := (h4 u hu).2
    exact small_lt z0 (by omega : t < 2 ^ B) hB
  · rw [h5 i hi]
    exact (rat_eq h2 l2).mpr (l5 i (by rw [h1]; exact hi)).symm
theorem closed_rp (n : Nat) (q : Nat → Rat) : closed (rp n q) = true := closed_ld _ _
section
variable {n A B : Nat} {p q : Nat → Rat}
theorem gt_by2 (g : Int → Int → Int) (ts us : List Int) (b c : Int) {i : Nat} (hi : i < ts.length) : gt (by2 g ts us b c) i = g (gt ts i * c) (gt us i * b) := by
  unfold by2
  rw [gt_range hi]
theorem two_rp {ts us : List Int} {b c : Int} (h : Two ts us b c) (hl : ts.length = n) (g : Int → Int → Int) (r : Nat → Rat) (hr : ∀ i < n, r i = ((g (gt ts i * c) (gt us i * b) : Int) : Rat) / ((b * c : Int) : Rat)) : lf (by2 g ts us b c) (b * c) = rp n r :=
  lf_rp h.bc.1 (by rw [by2_len, hl]) fun i hi => by rw [gt_by2 g ts us b c (by omega), hr i hi]
theorem r_added (hp : FB A n p) (hq : FB B n q) (hA : A ≤ 2000) (hB : B ≤ 2000) (n1 : 1 ≤ n) (nk : n ≤ 60) (S : Store) : O_added [rp n p, rp n q] S = some (.ok (rp n fun i => p i + q i) S) := by
  obtain ⟨ts, b, e1, l1, v1⟩ := hp.lo hA n1 nk
  obtain ⟨us, c, e2, l2, v2⟩ := hq.lo hB n1 nk
  have t := l1.two l2
  rw [e1, e2, v_added t S, two_rp t l1.len _ (fun i => p i + q i) fun i hi => by rw [v1 i hi, v2 i hi]; exact frac_add l1.b1 l2.b1]
theorem r_lesser_of (hp : FB A n p) (hq : FB B n q) (hA : A ≤ 2000) (hB : B ≤ 2000) (n1 : 1 ≤ n) (nk : n ≤ 60) (S : Store) : O_lesser_of [rp n p, rp n q] S = some (.ok (rp n fun i => mnR (p i) (q i)) S) := by
  obtain ⟨ts, b, e1, l1, v1⟩ := hp.lo hA n1 nk
  obtain ⟨us, c, e2, l2, v2⟩ := hq.lo hB n1 nk
  have t := l1.two l2
  rw [e1, e2, v_lesser_of t S, two_rp t l1.len _ (fun i => mnR (p i) (q i)) fun i hi => by rw [v1 i hi, v2 i hi, frac_l l1.b1 l2.b1, frac_r l1.b1 l2.b1, mnR_div (mul_pos1 l1.b1 l2.b1)]; rfl]
theorem r_greater_of (hp : FB A n p) (hq : FB B n q) (hA : A ≤ 2000) (hB : B ≤ 2000) (n1 : 1 ≤ n) (nk : n ≤ 60) (S : Store) : O_greater_of [rp n p, rp n q] S = some (.ok (rp n fun i => mxR (p i) (q i)) S) := by
  obtain ⟨ts, b, e1, l1, v1⟩ := hp.lo hA n1 nk
  obtain ⟨us, c, e2, l2, v2⟩ := hq.lo hB n1 nk
  have t := l1.two l2
  rw [e1, e2, v_greater_of t S, two_rp t l1.len _ (fun i => mxR (p i) (q i)) fun i hi => by rw [v1 i hi, v2 i hi, frac_l l1.b1 l2.b1, frac_r l1.b1 l2.b1, mxR_div (mul_pos1 l1.b1 l2.b1)]; rfl]
theorem r_taken (hp : FB A n p) (hq : FB B n q) (hA : A ≤ 2000) (hB : B ≤ 2000) (n1 : 1 ≤ n) (nk : n ≤ 60) (h : ∀ i < n, q i ≤ p i) (S : Store) : O_taken [rp n p, rp n q] S = some (.ok (rp n fun i => p i - q i) S) := by
  obtain ⟨ts, b, e1, l1, v1⟩ := hp.lo hA n1 nk
  obtain ⟨us, c, e2, l2, v2⟩ := hq.lo hB n1 nk
  have t := l1.two l2
  have en : enough ts us b c = true := by
    unfold enough
    refine List.all_eq_true.mpr fun i hi => decide_eq_true ?_
    have hn : i < n := by have := List.mem_range.mp hi; rw [l1.len] at this; exact this
    have := h i hn
    rw [v1 i hn, v2 i hn] at this
    exact (rat_le l2.b1 l1.b1).mp this
  rw [e1, e2, v_taken t en S, two_rp t l1.len _ (fun i => p i - q i) fun i hi => by rw [v1 i hi, v2 i hi]; exact frac_sub l1.b1 l2.b1]
/-- within, place by place -/
def leB (n : Nat) (p q : Nat → Rat) : Bool := (List.range n).all fun i => decide (p i ≤ q i)
theorem leB_iff {n : Nat} {p q : Nat → Rat} : leB n p q = true ↔ ∀ i < n, p i ≤ q i := by
  unfold leB
  rw [List.all_eq_true]
  exact ⟨fun h i hi => of_decide_eq_true (h i (List.mem_range.mpr hi)), fun h i hi => decide_eq_true (h i (List.mem_range.mp hi))⟩
theorem r_is_within (hp : FB A n p) (hq : FB B n q) (hA : A ≤ 2000) (hB : B ≤ 2000) (n1 : 1 ≤ n) (nk : n ≤ 60) (S : Store) : O_is_within [rp n p, rp n q] S = some (.ok (.bl (leB n p q)) S) := by
  obtain ⟨ts, b, e1, l1, v1⟩ := hp.lo hA n1 nk
  obtain ⟨us, c, e2, l2, v2⟩ := hq.lo hB n1 nk
  have t := l1.two l2
  rw [e1, e2, v_is_within t S]
  have : (above ts us b c).isEmpty = leB n p q := by
    rw [Bool.eq_iff_iff, leB_iff, List.isEmpty_iff]
    unfold above
    rw [List.filter_eq_nil_iff, l1.len]
    constructor
    · intro h i hi
      have := h i (List.mem_range.mpr hi)
      rw [v1 i hi, v2 i hi]
      refine (rat_le l1.b1 l2.b1).mpr ?_
      simp only [decide_eq_true_eq] at this
      omega
    · intro h i hi
      have hn := List.mem_range.mp hi
      have := h i hn
      rw [v1 i hn, v2 i hn] at this
      have := (rat_le l1.b1 l2.b1).mp this
      simp only [decide_eq_true_eq]
      omega
  rw [this]
theorem r_is_load (hp : FB A n p) (hA : A ≤ 2000) (n1 : 1 ≤ n) (nk : n ≤ 60) (S : Store) : O_is_load [.int (n : Nat), rp n p] S = some (.ok (.bl true) S) := by
  obtain ⟨ts, b, e1, l1, v1⟩ := hp.lo hA n1 nk
  rw [e1, v_is_load S n _ (tellL_ld ts b (by rw [l1.len]; omega)), l1.load]
end
theorem lf_zero (n : Nat) : lf (List.replicate n 0) 1 = ld (List.replicate n 0) 1 := by
  have e : cd (List.replicate n 0 ++ [1]) = 1 := cd_eq (by decide) (fun x _ => Int.one_dvd x) fun e he => he 1 (List.mem_append_right _ (List.mem_singleton.mpr rfl))
  unfold lf lowT lowB
  rw [e, List.map_replicate]
  rfl
theorem rp_zero (n : Nat) : rp n (fun _ => 0) = ld (List.replicate n 0) 1 := by
  rw [← lf_zero]
  refine (lf_rp (by decide) (by simp) fun i _ => ?_).symm
  rw [gt_rep]
  grind
theorem FB.zero (n : Nat) : FB 1 n fun _ => 0 := FB.mk' (fun _ => 0) 1 (by decide) (by decide) (fun _ _ => by decide) fun i _ => by grind
theorem o_repT (x : Int) (n : Nat) (n1 : 1 ≤ n) (hn : n ≤ 1000) (S : Store) : oMul (.tup [.int x]) (.int (n : Nat)) S = some (.ok (.tup ((List.replicate n x).map .int)) S) := by
  simp only [oMul]
  by_cases h : (n : Int) = 1
  · have : n = 1 := by omega
    subst this
    rfl
  · rw [if_neg h, if_neg (by omega), if_pos ⟨by omega, by omega, by simp, by simp⟩, Int.toNat_natCast, flat_rep, List.map_replicate]
theorem v_no_load (S : Store) (n : Nat) (n1 : 1 ≤ n) (hn : n ≤ 1000) : O_no_load [.int (n : Nat)] S = some (.ok (rp n fun _ => 0) S) := by
  rw [rp_zero]
  refine fn_rtS ?_ (closed_ld _ _)
  simp only [D_no_load]
  exact q_ret (x_tup (y_cons (x_bin (x_tup (y_cons rfl y_nil) rfl) rfl (o_repT 0 n n1 hn S)) (y_cons rfl y_nil)) rfl)
/-! ### webs -/
abbrev wb (R : List (List Int)) (m : Int) : D := .tup [.tup (R.map fun r => .tup (r.map .int)), .int m]
theorem closed_wb (R : List (List Int)) (m : Int) : closed (wb R m) = true := by
  have : ∀ R : List (List Int), closeds (R.map fun r => D.tup (r.map .int)) = true := fun R => by
    rw [closeds_all]
    refine List.all_eq_true.mpr fun x hx => ?_
    obtain ⟨r, _, rfl⟩ := List.mem_map.mp hx
    simp only [closed, closeds_map_int]
  simp only [closed, closeds, this, Bool.and_self]
section
variable {n : Nat} {R : List (List Int)} {m : Int}
theorem v_size_of (w : Web n R m) (S : Store) : O_size_of [wb R m] S = some (.ok (.int (n : Nat)) S) := by
  refine fn_rtS ?_ rfl
  simp only [D_size_of]
  have : oLen [.tup (R.map fun r => D.tup (r.map .int))] S = some (.ok (.int (n : Nat)) S) := by
    rw [e_lenT, List.length_map, w.len]
  exact q_ret (x_c1 (x_bin rfl rfl (e_ix0 _ _ S)) this)
theorem ixR (w : Web n R m) {i : Nat} (hi : i < n) (S : Store) : oIx (.tup (R.map fun r => D.tup (r.map .int))) (.int (i : Nat)) S = some (.ok (.tup ((R.getD i []).map .int)) S) := by
  have hl : i < R.length := by rw [w.len]; exact hi
  have h2 : ((i : Nat) : Int) < ((R.map fun r => D.tup (r.map .int)).length : Int) := by simp; omega
  have h3 : (0 : Int) ≤ ((i : Nat) : Int) := by omega
  simp only [oIx, asSeq, atI, ixN, h2, h3, if_true, Option.bind_some, Int.toNat_natCast]
  rw [List.getElem?_map, List.getElem?_eq_getElem hl]
  simp [List.getD, List.getElem?_eq_getElem hl]
theorem row_len (w : Web n R m) {i : Nat} (hi : i < n) : (R.getD i []).length = n := by
  have hl : i < R.length := by rw [w.len]; exact hi
  rw [List.getD, List.getElem?_eq_getElem hl]
  exact (w.row _ (List.getElem_mem hl)).1
theorem ixR2 (w : Web n R m) {i j : Nat} (hi : i < n) (hj : j < n) (S : Store) : oIx (.tup ((R.getD i []).map .int)) (.int (j : Nat)) S = some (.ok (.int (at2 R i j)) S) := ixT (by rw [row_len w hi]; exact hj) S
theorem small_web (w : Web n R m) : small m := small_lt (by have := w.m1; omega) w.m2 (by decide)
theorem small_at (w : Web n R m) {i j : Nat} (hi : i < n) (hj : j < n) : small (at2 R i j) := small_lt (w.at hi hj).1 (w.at hi hj).2 (by decide)
theorem o_sumL (f : Nat → Int) (n : Nat) (S : Store) : oSum [.lst ((List.range n).map fun i => D.int (f i))] S = some (.ok (.int (sI n f)) S) := by
  simp only [oSum, asSeq, Option.bind_some, ints_mapA, Option.map_some]
  rfl
theorem r_step_of {B : Nat} {q : Nat → Rat} (w : Web n R m) (hq : FB B n q) (hB : B ≤ 1980) (S : Store) : O_step_of [wb R m, rp n q] S = some (.ok (rp n (stp n R m q)) S) := by
  have n1 := w.n1
  have nk := w.nk
  obtain ⟨ts, b, e1, l1, v1⟩ := hq.lo (by omega) n1 nk
  have fs := hq.stp w
  have bm := mul_pos1 l1.b1 w.m1
  have hbs : small b := l1.bs
  have hms := small_web w
  have lr : lf ((List.range n).map fun j => sI n fun i => gt ts i * at2 R i j) (b * m) = rp n (stp n R m q) :=
    lf_rp bm (by simp) fun j hj => by rw [gt_range hj]; exact stp_int w (gt ts) b l1.b1 q v1 j
  rw [e1, ← lr]
  refine fn_rtS ?_ (closed_ld _ _)
  have rt : D.rng 0 ((n : Nat) : Int) = .rng 0 (n : Int) := rfl
  have walk : ∀ (ρ : EnvD) (T : Store), ρ[4]? = some (some (D.rng 0 (n : Int))) → dItems (dVar 4) ρ T = some (.ok (rgD 0 n) none T) := fun ρ T h => by
    refine x_items (d := .rng 0 (n : Int)) (by rw [e_var, h]) ?_
    simp only [asWalk]
    rw [if_pos (by omega)]
    simp
  have cl : closeds ((List.range n).map fun j => D.int (sI n fun i => gt ts i * at2 R i j)) = true := closeds_ints _ _
  have l := lc_range (own := [5]) (t := .one 5) (elt := dCall oSum (dCons (dLc [6] (dItems (dVar 4)) (.one 6) (dYes) (dBin oMul (dBin oIx (dBin oIx (dVar 1) (dC (.int 0))) (dVar 6)) (dBin oIx (dBin oIx (dVar 2) (dVar 6)) (dVar 5)))) (dNil))) (f := dItems (dVar 4)) (ρ := [some (wb R m), some (ld ts b), some (.tup (R.map fun r => .tup (r.map .int))), some (.int m), some (.rng 0 (n : Int)), none, none]) (S := S) n (fun j => .int (sI n fun i => gt ts i * at2 R i j))
    (fun j => [some (wb R m), some (ld ts b), some (.tup (R.map fun r => .tup (r.map .int))), some (.int m), some (.rng 0 (n : Int)), some (.int (j : Nat)), none]) (walk _ S rfl) (fun _ _ => rfl) (fun j hj T => by
      have li := lc_range (own := [6]) (t := .one 6) (elt := dBin oMul (dBin oIx (dBin oIx (dVar 1) (dC (.int 0))) (dVar 6)) (dBin oIx (dBin oIx (dVar 2) (dVar 6)) (dVar 5))) (f := dItems (dVar 4)) (ρ := [some (wb R m), some (ld ts b), some (.tup (R.map fun r => .tup (r.map .int))), some (.int m), some (.rng 0 (n : Int)), some (.int (j : Nat)), none]) (S := T) n (fun i => .int (gt ts i * at2 R i j))
        (fun i => [some (wb R m), some (ld ts b), some (.tup (R.map fun r => .tup (r.map .int))), some (.int m), some (.rng 0 (n : Int)), some (.int (j : Nat)), some (.int (i : Nat))]) (walk _ T rfl) (fun _ _ => rfl) (fun i hi U => by
          exact x_bin (x_bin (x_bin rfl rfl (e_ix0 _ _ U)) rfl (ixT (by rw [l1.len]; exact hi) U)) (x_bin (x_bin rfl rfl (ixR w hi U)) rfl (ixR2 w hi hj U)) (e_mulI (getD_small l1.ss i) (small_at w hi hj) U)) (by omega) (closeds_ints _ _)
      exact x_c1 li (o_sumL _ n T)) (by omega) cl
  have mi : ((List.range n).map fun j => D.int (sI n fun i => gt ts i * at2 R i j)) = ((List.range n).map fun j => sI n fun i => gt ts i * at2 R i j).map .int := by rw [List.map_map]; rfl
  rw [mi] at l
  have v := v_load_from S ((List.range n).map fun j => sI n fun i => gt ts i * at2 R i j) (b * m) bm (Nat.lt_of_lt_of_le (natAbs_mul_lt hbs hms) (Nat.pow_le_pow_right (by decide) (by decide))) (by simp; omega)
  have st : startD ["web", "load", "rows", "bottom", "places", "j", "i"] [wb R m, ld ts b] = [some (wb R m), some (ld ts b), none, none, none, none, none] := rfl
  simp only [D_step_of]
  rw [st]
  refine q_two rfl (q_set (d := .rng 0 (n : Int)) (x_c1 (x_f1 rfl (v_size_of w S)) rfl) (q_ret (x_f2 l (x_bin (x_bin rfl rfl (e_ix1 _ _ _ S)) rfl (e_mulI hbs hms S)) v)))
theorem r_come_to {A B : Nat} {p q : Nat → Rat} (w : Web n R m) (hp : FB A n p) (hq : FB B n q) (hA : A ≤ 1980) (hB : B ≤ 1980) (S : Store) : O_come_to [wb R m, rp n p, rp n q] S = some (.ok (rp n fun i => p i + stp n R m q i) S) := by
  refine fn_rtS ?_ (closed_rp _ _)
  simp only [D_come_to]
  exact q_ret (x_f2 rfl (x_f2 rfl rfl (r_step_of w hq hB S)) (r_added hp (hq.stp w) (by omega) (by omega) w.n1 w.nk S))
end
theorem r_over_of {n A B : Nat} {p q : Nat → Rat} (hp : FB A n p) (hq : FB B n q) (hA : A ≤ 900) (hB : B ≤ 900) (n1 : 1 ≤ n) (nk : n ≤ 60) (S : Store) : O_over_of [rp n p, rp n q] S = some (.ok (rp n fun i => mxR (p i) (q i) - q i) S) := by
  refine fn_rtS ?_ (closed_rp _ _)
  simp only [D_over_of]
  have pk : FB (A + B + 1) n fun i => mxR (p i) (q i) := hp.pick hq fun i _ => by
    unfold mxR
    split
    · exact .inr rfl
    · exact .inl rfl
  refine q_ret (x_f2 (x_f2 rfl rfl (r_greater_of hp hq (by omega) (by omega) n1 nk S)) rfl (r_taken pk hq (by omega) (by omega) n1 nk (fun i _ => ?_) S))
  unfold mxR
  split <;> grind
end My
set_option Elab.async false
set_option linter.all false
set_option maxRecDepth 100000
set_option maxHeartbeats 4000000
set_option exponentiation.threshold 20000
namespace My
open PySem PySem.Spec PyProof.Rows L2 PD
/-! ### more rules -/
section
variable {ρ ρ1 ρ2 : EnvD} {S S1 S2 : Store} {f g t : Den} {gs : Dens} {st sa sb rest : SDen} {R : Option SRes} {c : Str} {ns : List Str} {xs : List D} {d : D} {n : Nat}
theorem loop_cons_nxS {w : Option Nat} {td : TDen} {gb : SDen} {all : List D} {x : D} {ys : List D} (hw : w = none) (ht : td x ρ S = some ρ1) (hg : gb ρ1 S = some (.nx ρ2 S2)) (hr : forLoop none all td gb ys ρ2 S2 = R) : forLoop w all td gb (x :: ys) ρ S = R := by
  subst hw
  rw [loop_cons, ht]
  simp only [hg]
  exact hr
theorem loop_cons_rt {td : TDen} {gb : SDen} {all : List D} {x : D} {ys : List D} (ht : td x ρ S = some ρ1) (hg : gb ρ1 S = some (.rt d S2)) : forLoop none all td gb (x :: ys) ρ S = some (.rt d S2) := by
  rw [loop_cons, ht]
  simp only [hg]
theorem q_exc (h : f ρ S = some (.exc c ns xs S1)) : sSeq (sExpr f) rest ρ S = some (.exc c ns xs ρ S1) := by
  rw [e_seq, e_expr, h]
  rfl
theorem q_excSt (h : st ρ S = some (.exc c ns xs ρ1 S1)) : sSeq st rest ρ S = some (.exc c ns xs ρ1 S1) := by
  rw [e_seq, h]
theorem x_app {fo fe : Den} {ys : List D} (ho : fo ρ S = some (.ok (.ref n) S)) (he : fe ρ S = some (.ok d S)) (hn : S[n]? = some ys) (hl : ys.length < 16777216) : dApp fo fe ρ S = some (.ok .non (S.set n (ys ++ [d]))) := by
  rw [e_app, ho, bnd_ok]
  simp only [he, bnd_ok, hn, hl, if_true]
theorem x_cut {fa : Den} {lo hi : Option Den} {a : D} {i j : Option Int} (ha : fa ρ S = some (.ok a S)) (hlo : match lo, i with | none, none => True | some fl, some k => fl ρ S = some (.ok (.int k) S) | _, _ => False) (hhi : match hi, j with | none, none => True | some fl, some k => fl ρ S = some (.ok (.int k) S) | _, _ => False) :
    dCut fa lo hi ρ S = oCut a i j S := by
  unfold dCut
  rw [ha, bnd_ok]
  cases lo <;> cases i <;> simp only [dPart] at hlo ⊢ <;> cases hi <;> cases j <;> simp only [dPart] at hhi ⊢
  · rw [hhi, bnd_ok]
  · rw [hlo, bnd_ok]
  · rw [hlo, bnd_ok]
    show bnd _ _ = _
    rw [hhi, bnd_ok]
theorem x_c0 {F : Op} {r : Option Res} (hF : F [] S = r) : dFn 0 F dNil ρ S = r := by
  rw [e_fn, e_nilA, bndl_ok]
  exact (if_pos rfl).trans hF
end
theorem q_forR {ρ : EnvD} {S S1 S2 : Store} {fi : Iens} {td : TDen} {st rest : SDen} {items : List D} {w : Option Nat} {d : D} (h : fi ρ S = some (.ok items w S1)) (hl : forLoop w items td st items ρ S1 = some (.rt d S2)) : sSeq (sFor fi td st) rest ρ S = some (.rt d S2) := q_rt ((for_of h).trans hl)
theorem x_notF {ρ : EnvD} {S : Store} {f : Den} (h1 : f ρ S = some (.ok (.bl false) S)) : dNot (dTru f) ρ S = some (.ok (.bl true) S) := x_not (p := false) (x_tru h1 rfl)
theorem ixLst {xs : List D} {i : Nat} {d : D} (h : xs[i]? = some d) (S : Store) : oIx (.lst xs) (.int (i : Nat)) S = some (.ok d S) := by
  have hl := (List.getElem?_eq_some_iff.mp h).1
  have h2 : ((i : Nat) : Int) < (xs.length : Int) := by omega
  have h3 : (0 : Int) ≤ ((i : Nat) : Int) := by omega
  simp only [oIx, asSeq, atI, ixN, h2, h3, if_true, Option.bind_some, Int.toNat_natCast, h, Option.map_some]
theorem ixTup {xs : List D} {i : Nat} {d : D} (h : xs[i]? = some d) (S : Store) : oIx (.tup xs) (.int (i : Nat)) S = some (.ok d S) := by
  have hl := (List.getElem?_eq_some_iff.mp h).1
  have h2 : ((i : Nat) : Int) < (xs.length : Int) := by omega
  have h3 : (0 : Int) ≤ ((i : Nat) : Int) := by omega
  simp only [oIx, asSeq, atI, ixN, h2, h3, if_true, Option.bind_some, Int.toNat_natCast, h, Option.map_some]
theorem ixRef {S : Store} {n : Nat} {xs : List D} {i : Nat} {d : D} (hn : S[n]? = some xs) (h : xs[i]? = some d) : oIx (.ref n) (.int (i : Nat)) S = some (.ok d S) := by
  have hl := (List.getElem?_eq_some_iff.mp h).1
  have h2 : ((i : Nat) : Int) < (xs.length : Int) := by omega
  have h3 : (0 : Int) ≤ ((i : Nat) : Int) := by omega
  simp only [oIx, asSeq, hn, atI, ixN, h2, h3, if_true, Option.bind_some, Int.toNat_natCast, h, Option.map_some]
theorem ixRefLast {S : Store} {n k : Nat} {xs : List D} {d : D} (hn : S[n]? = some xs) (hk : xs.length = k + 1) (h : xs[k]? = some d) : oIx (.ref n) (.int (-1)) S = some (.ok d S) := by
  have h1 : ¬ (0 : Int) ≤ -1 := by decide
  have h2 : -(xs.length : Int) ≤ -1 := by omega
  have h3 : (-1 + (xs.length : Int)).toNat = k := by omega
  simp only [oIx, asSeq, hn, atI, ixN, h1, h2, if_true, if_false, Option.bind_some, h3, h, Option.map_some]
/-! ### vectors in a row -/
def cl (n : Nat) (c : Nat → Nat → Rat) (T : Nat) : List D := (List.range T).map fun k => rp n (c k)
theorem cl_len (n : Nat) (c : Nat → Nat → Rat) (T : Nat) : (cl n c T).length = T := by simp [cl]
theorem cl_get {n : Nat} {c : Nat → Nat → Rat} {T k : Nat} (h : k < T) : (cl n c T)[k]? = some (rp n (c k)) := by
  unfold cl
  rw [List.getElem?_map, List.getElem?_range h]
  rfl
theorem cl_succ (n : Nat) (c : Nat → Nat → Rat) (T : Nat) : cl n c (T + 1) = cl n c T ++ [rp n (c T)] := by
  unfold cl
  rw [List.range_succ, List.map_append]
  rfl
theorem cl_closed (n : Nat) (c : Nat → Nat → Rat) (T : Nat) : closeds (cl n c T) = true := by
  rw [closeds_all]
  refine List.all_eq_true.mpr fun x hx => ?_
  obtain ⟨k, _, rfl⟩ := List.mem_map.mp hx
  exact closed_rp _ _
theorem cl_congr {n : Nat} {c e : Nat → Nat → Rat} {T : Nat} (h : ∀ k < T, ∀ i < n, c k i = e k i) : cl n c T = cl n e T := by
  unfold cl
  exact List.map_congr_left fun k hk => rp_eq (h k (List.mem_range.mp hk))
section
variable {n : Nat} {R : List (List Int)} {m : Int} {v L : Nat → Rat} {c : Nat → Nat → Rat} {T : Nat}
theorem nums0 (w : Web n R m) : n ≤ 1000 := by have := w.nk; omega
noncomputable abbrev bodyStay : SDen := sSeq (sExpr (dApp (dVar 4) (dFn 2 O_over_of (dCons (dFn 3 O_come_to (dCons (dVar 0) (dCons (dVar 1) (dCons (dBin oIx (dVar 4) (dUn oNeg (dC (.int 1)))) (dNil))))) (dCons (dVar 2) (dNil)))))) (sNil)
noncomputable abbrev bodyGo : SDen := sSeq (sExpr (dApp (dVar 4) (dFn 2 O_lesser_of (dCons (dVar 2) (dCons (dFn 3 O_come_to (dCons (dVar 0) (dCons (dVar 1) (dCons (dBin oIx (dVar 4) (dUn oNeg (dC (.int 1)))) (dNil))))) (dNil)))))) (sNil)
theorem lastOf (S : Store) (k : Nat) (a0 a1 a2 a3 a5 : Option D) : dBin oIx (dVar 4) (dUn oNeg (dC (.int 1))) [a0, a1, a2, a3, some (.ref S.length), a5] (S ++ [cl n c (k + 1)]) = some (.ok (rp n (c k)) (S ++ [cl n c (k + 1)])) :=
  x_bin rfl (by rw [e_neg]; rfl) (ixRefLast (get_last _ _) (cl_len _ _ _) (cl_get (by omega)))
theorem loop_stay (w : Web n R m) {A B : Nat} (fv : FB A n v) (fL : FB B n L) (hA : A ≤ 100) (hB : B ≤ 100) (fc : ∀ k ≤ T, FB 400 n (c k)) (hT : T ≤ 100) (hc : ∀ k < T, ∀ i < n, c (k + 1) i = mxR (v i + stp n R m (c k) i) (L i) - L i) (S : Store) (a3 : Option D) (all : List D) : ∀ (xs : List D) (k : Nat) (a5 : Option D), k + xs.length ≤ T → ∃ a5', forLoop none all (tName 5) bodyStay xs [some (wb R m), some (rp n v), some (rp n L), a3, some (.ref S.length), a5] (S ++ [cl n c (k + 1)]) = some (.nx [some (wb R m), some (rp n v), some (rp n L), a3, some (.ref S.length), a5'] (S ++ [cl n c (k + xs.length + 1)]))
  | [], k, a5, _ => ⟨a5, rfl⟩
  | x :: xs, k, a5, hk => by
    simp only [List.length_cons] at hk
    obtain ⟨a5', ih⟩ := loop_stay w fv fL hA hB fc hT hc S a3 all xs (k + 1) (some x) (by omega)
    have fk := fc k (by omega)
    have co := r_come_to w fv fk (by omega) (by omega) (S ++ [cl n c (k + 1)])
    have ov := r_over_of (fv.add (fk.stp w)) fL (by omega) (by omega) w.n1 w.nk (S ++ [cl n c (k + 1)])
    have e : rp n (fun i => mxR (v i + stp n R m (c k) i) (L i) - L i) = rp n (c (k + 1)) := rp_eq fun i hi => (hc k (by omega) i hi).symm
    rw [e] at ov
    refine ⟨a5', loop_cons_nxS (S2 := S ++ [cl n c (k + 1 + 1)]) rfl rfl (q_expr (d := .non) (S1 := S ++ [cl n c (k + 1 + 1)]) ?_ rfl) (by rw [List.length_cons, show k + (xs.length + 1) + 1 = k + 1 + xs.length + 1 by omega]; exact ih)⟩
    have := x_app (ρ := [some (wb R m), some (rp n v), some (rp n L), a3, some (.ref S.length), some x]) (S := S ++ [cl n c (k + 1)]) (fo := dVar 4) (fe := dFn 2 O_over_of (dCons (dFn 3 O_come_to (dCons (dVar 0) (dCons (dVar 1) (dCons (dBin oIx (dVar 4) (dUn oNeg (dC (.int 1)))) (dNil))))) (dCons (dVar 2) (dNil)))) (n := S.length) rfl (x_f2 (x_f3 rfl rfl (lastOf S k _ _ _ _ _) co) rfl ov) (get_last _ _) (by rw [cl_len]; omega)
    rw [set_last, ← cl_succ] at this
    exact this
theorem loop_go (w : Web n R m) {A B : Nat} (fv : FB A n v) (fL : FB B n L) (hA : A ≤ 100) (hB : B ≤ 100) (fc : ∀ k ≤ T, FB 400 n (c k)) (hT : T ≤ 100) (hc : ∀ k < T, ∀ i < n, c (k + 1) i = mnR (L i) (v i + stp n R m (c k) i)) (S : Store) (a3 : Option D) (all : List D) : ∀ (xs : List D) (k : Nat) (a5 : Option D), k + xs.length ≤ T → ∃ a5', forLoop none all (tName 5) bodyGo xs [some (wb R m), some (rp n v), some (rp n L), a3, some (.ref S.length), a5] (S ++ [cl n c (k + 1)]) = some (.nx [some (wb R m), some (rp n v), some (rp n L), a3, some (.ref S.length), a5'] (S ++ [cl n c (k + xs.length + 1)]))
  | [], k, a5, _ => ⟨a5, rfl⟩
  | x :: xs, k, a5, hk => by
    simp only [List.length_cons] at hk
    obtain ⟨a5', ih⟩ := loop_go w fv fL hA hB fc hT hc S a3 all xs (k + 1) (some x) (by omega)
    have fk := fc k (by omega)
    have co := r_come_to w fv fk (by omega) (by omega) (S ++ [cl n c (k + 1)])
    have ov := r_lesser_of fL (fv.add (fk.stp w)) (by omega) (by omega) w.n1 w.nk (S ++ [cl n c (k + 1)])
    have e : rp n (fun i => mnR (L i) (v i + stp n R m (c k) i)) = rp n (c (k + 1)) := rp_eq fun i hi => (hc k (by omega) i hi).symm
    rw [e] at ov
    refine ⟨a5', loop_cons_nxS (S2 := S ++ [cl n c (k + 1 + 1)]) rfl rfl (q_expr (d := .non) (S1 := S ++ [cl n c (k + 1 + 1)]) ?_ rfl) (by rw [List.length_cons, show k + (xs.length + 1) + 1 = k + 1 + xs.length + 1 by omega]; exact ih)⟩
    have := x_app (ρ := [some (wb R m), some (rp n v), some (rp n L), a3, some (.ref S.length), some x]) (S := S ++ [cl n c (k + 1)]) (fo := dVar 4) (fe := dFn 2 O_lesser_of (dCons (dVar 2) (dCons (dFn 3 O_come_to (dCons (dVar 0) (dCons (dVar 1) (dCons (dBin oIx (dVar 4) (dUn oNeg (dC (.int 1)))) (dNil))))) (dNil)))) (n := S.length) rfl (x_f2 rfl (x_f3 rfl rfl (lastOf S k _ _ _ _ _) co) ov) (get_last _ _) (by rw [cl_len]; omega)
    rw [set_last, ← cl_succ] at this
    exact this
theorem rng_ok (T : Nat) (hT : T ≤ 16777216) (ρ : EnvD) (S : Store) (j : Nat) (h : ρ[j]? = some (some (.int (T : Nat)))) : dRange1 (dVar j) ρ S = some (.ok (rgD 0 T) none S) := range1_of (by rw [e_var, h]) hT
theorem start_row (w : Web n R m) (hz : ∀ i < n, c 0 i = 0) (S : Store) (a1 a2 a3 a5 : Option D) : dLstM (dCons (dFn 1 O_no_load (dCons (dFn 1 O_size_of (dCons (dVar 0) (dNil))) (dNil))) (dNil)) [some (wb R m), a1, a2, a3, none, a5] S = some (.ok (.ref S.length) (S ++ [cl n c 1])) := by
  have nl := v_no_load S n w.n1 (nums0 w)
  have e : rp n (fun _ => 0) = rp n (c 0) := rp_eq fun i hi => (hz i hi).symm
  rw [e] at nl
  have a : dCons (dFn 1 O_no_load (dCons (dFn 1 O_size_of (dCons (dVar 0) (dNil))) (dNil))) (dNil) [some (wb R m), a1, a2, a3, none, a5] S = some (.ok [rp n (c 0)] S) := y_cons (x_f1 (x_f1 rfl (v_size_of w S)) nl) y_nil
  rw [e_lstM, a, bndl_ok]
  rfl
theorem r_stay_passes (w : Web n R m) {A B : Nat} (fv : FB A n v) (fL : FB B n L) (hA : A ≤ 100) (hB : B ≤ 100) (fc : ∀ k ≤ T, FB 400 n (c k)) (hT : T ≤ 100) (hz : ∀ i < n, c 0 i = 0) (hc : ∀ k < T, ∀ i < n, c (k + 1) i = mxR (v i + stp n R m (c k) i) (L i) - L i) (S : Store) : O_stay_passes [wb R m, rp n v, rp n L, .int (T : Nat)] S = some (.ok (.lst (cl n c (T + 1))) S) := by
  refine fn_rtM ?_ (cl_closed _ _ _)
  have st : startD ["web", "start", "rooms", "many", "course", "_"] [wb R m, rp n v, rp n L, .int (T : Nat)] = [some (wb R m), some (rp n v), some (rp n L), some (.int (T : Nat)), none, none] := rfl
  obtain ⟨a5, l⟩ := loop_stay w fv fL hA hB fc hT hc S (some (.int (T : Nat))) (rgD 0 T) (rgD 0 T) 0 none (by rw [rgD_length]; omega)
  rw [rgD_length, Nat.zero_add, Nat.zero_add] at l
  simp only [D_stay_passes]
  rw [st]
  exact q_set (start_row w hz S _ _ _ _) (q_for (rng_ok T (by omega) _ _ 3 rfl) l (q_ret rfl))
theorem r_go_passes (w : Web n R m) {A B : Nat} (fv : FB A n v) (fL : FB B n L) (hA : A ≤ 100) (hB : B ≤ 100) (fc : ∀ k ≤ T, FB 400 n (c k)) (hT : T ≤ 100) (hz : ∀ i < n, c 0 i = 0) (hc : ∀ k < T, ∀ i < n, c (k + 1) i = mnR (L i) (v i + stp n R m (c k) i)) (S : Store) : O_go_passes [wb R m, rp n v, rp n L, .int (T : Nat)] S = some (.ok (.lst (cl n c (T + 1))) S) := by
  refine fn_rtM ?_ (cl_closed _ _ _)
  have st : startD ["web", "start", "allowance", "many", "course", "_"] [wb R m, rp n v, rp n L, .int (T : Nat)] = [some (wb R m), some (rp n v), some (rp n L), some (.int (T : Nat)), none, none] := rfl
  obtain ⟨a5, l⟩ := loop_go w fv fL hA hB fc hT hc S (some (.int (T : Nat))) (rgD 0 T) (rgD 0 T) 0 none (by rw [rgD_length]; omega)
  rw [rgD_length, Nat.zero_add, Nat.zero_add] at l
  simp only [D_go_passes]
  rw [st]
  exact q_set (start_row w hz S _ _ _ _) (q_for (rng_ok T (by omega) _ _ 3 rfl) l (q_ret rfl))
/-! ### refusals -/
theorem v_require_load_yes (w : Web n R m) (d : D) (x : Str) (S : Store) (h : O_is_load [.int (n : Nat), d] S = some (.ok (.bl true) S)) : O_require_load [wb R m, d, .str x] S = some (.ok .non S) := by
  refine fn_nx (ρ := [some (wb R m), some d, some (.str x)]) ?_
  have st : startD ["web", "thing", "name"] [wb R m, d, .str x] = [some (wb R m), some d, some (.str x)] := rfl
  simp only [D_require_load]
  rw [st]
  exact q_expr (x_f2 (x_f2 (x_f1 rfl (v_size_of w S)) rfl h) rfl (v_require_yes S x)) rfl
theorem v_require_load_no (w : Web n R m) (d : D) (x : Str) (S : Store) (h : O_is_load [.int (n : Nat), d] S = some (.ok (.bl false) S)) : O_require_load [wb R m, d, .str x] S = some (.exc "NotUsable" ["at", "word"] [.int (-1), .str x] S) := by
  refine fn_exc (ρ := [some (wb R m), some d, some (.str x)]) ?_ rfl
  have st : startD ["web", "thing", "name"] [wb R m, d, .str x] = [some (wb R m), some d, some (.str x)] := rfl
  simp only [D_require_load]
  rw [st]
  exact q_exc (x_f2 (x_f2 (x_f1 rfl (v_size_of w S)) rfl h) rfl (v_require_no S x))
theorem v_require_number_yes (d : D) (x : Str) (S : Store) (h : O_is_number [d] S = some (.ok (.bl true) S)) : O_require_number [d, .str x] S = some (.ok .non S) := by
  refine fn_nx (ρ := [some d, some (.str x)]) ?_
  have st : startD ["thing", "name"] [d, .str x] = [some d, some (.str x)] := rfl
  simp only [D_require_number]
  rw [st]
  exact q_expr (x_f2 (x_f1 rfl h) rfl (v_require_yes S x)) rfl
theorem v_require_number_no (d : D) (x : Str) (S : Store) (h : O_is_number [d] S = some (.ok (.bl false) S)) : O_require_number [d, .str x] S = some (.exc "NotUsable" ["at", "word"] [.int (-1), .str x] S) := by
  refine fn_exc (ρ := [some d, some (.str x)]) ?_ rfl
  have st : startD ["thing", "name"] [d, .str x] = [some d, some (.str x)] := rfl
  simp only [D_require_number]
  rw [st]
  exact q_exc (x_f2 (x_f1 rfl h) rfl (v_require_no S x))
def IsL (n : Nat) (d : D) (b : Bool) : Prop := ∀ S, O_is_load [.int (n : Nat), d] S = some (.ok (.bl b) S)
theorem v_require_rooms (w : Web n R m) (d e : D) (hd : IsL n d true) (he : IsL n e true) (S : Store) : O_require_rooms [wb R m, d, e] S = some (.ok .non S) := by
  refine fn_nx (ρ := [some (wb R m), some d, some e]) ?_
  have st : startD ["web", "start", "rooms"] [wb R m, d, e] = [some (wb R m), some d, some e] := rfl
  simp only [D_require_rooms]
  rw [st]
  exact q_expr (x_f3 rfl rfl rfl (v_require_load_yes w d "start" S (hd S))) (q_expr (x_f3 rfl rfl rfl (v_require_load_yes w e "rooms" S (he S))) rfl)
theorem v_require_rooms_s (w : Web n R m) (d e : D) (hd : IsL n d false) (S : Store) : O_require_rooms [wb R m, d, e] S = some (.exc "NotUsable" ["at", "word"] [.int (-1), .str "start"] S) := by
  refine fn_exc (ρ := [some (wb R m), some d, some e]) ?_ rfl
  have st : startD ["web", "start", "rooms"] [wb R m, d, e] = [some (wb R m), some d, some e] := rfl
  simp only [D_require_rooms]
  rw [st]
  exact q_exc (x_f3 rfl rfl rfl (v_require_load_no w d "start" S (hd S)))
theorem v_require_rooms_r (w : Web n R m) (d e : D) (hd : IsL n d true) (he : IsL n e false) (S : Store) : O_require_rooms [wb R m, d, e] S = some (.exc "NotUsable" ["at", "word"] [.int (-1), .str "rooms"] S) := by
  refine fn_exc (ρ := [some (wb R m), some d, some e]) ?_ rfl
  have st : startD ["web", "start", "rooms"] [wb R m, d, e] = [some (wb R m), some d, some e] := rfl
  simp only [D_require_rooms]
  rw [st]
  exact q_expr (x_f3 rfl rfl rfl (v_require_load_yes w d "start" S (hd S))) (q_exc (x_f3 rfl rfl rfl (v_require_load_no w e "rooms" S (he S))))
theorem v_require_allowance (w : Web n R m) (d e : D) (hd : IsL n d true) (he : IsL n e true) (S : Store) : O_require_allowance [wb R m, d, e] S = some (.ok .non S) := by
  refine fn_nx (ρ := [some (wb R m), some d, some e]) ?_
  have st : startD ["web", "start", "allowance"] [wb R m, d, e] = [some (wb R m), some d, some e] := rfl
  simp only [D_require_allowance]
  rw [st]
  exact q_expr (x_f3 rfl rfl rfl (v_require_load_yes w d "start" S (hd S))) (q_expr (x_f3 rfl rfl rfl (v_require_load_yes w e "allowance" S (he S))) rfl)
theorem v_require_allowance_s (w : Web n R m) (d e : D) (hd : IsL n d false) (S : Store) : O_require_allowance [wb R m, d, e] S = some (.exc "NotUsable" ["at", "word"] [.int (-1), .str "start"] S) := by
  refine fn_exc (ρ := [some (wb R m), some d, some e]) ?_ rfl
  have st : startD ["web", "start", "allowance"] [wb R m, d, e] = [some (wb R m), some d, some e] := rfl
  simp only [D_require_allowance]
  rw [st]
  exact q_exc (x_f3 rfl rfl rfl (v_require_load_no w d "start" S (hd S)))
theorem v_require_allowance_r (w : Web n R m) (d e : D) (hd : IsL n d true) (he : IsL n e false) (S : Store) : O_require_allowance [wb R m, d, e] S = some (.exc "NotUsable" ["at", "word"] [.int (-1), .str "allowance"] S) := by
  refine fn_exc (ρ := [some (wb R m), some d, some e]) ?_ rfl
  have st : startD ["web", "start", "allowance"] [wb R m, d, e] = [some (wb R m), some d, some e] := rfl
  simp only [D_require_allowance]
  rw [st]
  exact q_expr (x_f3 rfl rfl rfl (v_require_load_yes w d "start" S (hd S))) (q_exc (x_f3 rfl rfl rfl (v_require_load_no w e "allowance" S (he S))))
theorem is_num (T : Nat) (S : Store) : O_is_number [.int (T : Nat)] S = some (.ok (.bl true) S) := by
  rw [v_is_number S (.int (T : Nat)) rfl]
  have : numb (.int (T : Nat)) = true := by simp [numb]
  rw [this]
theorem r_stay_course (w : Web n R m) {A B : Nat} (fv : FB A n v) (fL : FB B n L) (hA : A ≤ 100) (hB : B ≤ 100) (fc : ∀ k ≤ T, FB 400 n (c k)) (hT : T ≤ 100) (hz : ∀ i < n, c 0 i = 0) (hc : ∀ k < T, ∀ i < n, c (k + 1) i = mxR (v i + stp n R m (c k) i) (L i) - L i) (S : Store) : O_stay_course [wb R m, rp n v, rp n L, .int (T : Nat)] S = some (.ok (.tup (cl n c (T + 1))) S) := by
  refine fn_rtS ?_ (by simp only [closed]; exact cl_closed _ _ _)
  have rr := v_require_rooms w (rp n v) (rp n L) (fun S => r_is_load fv (by omega) w.n1 w.nk S) (fun S => r_is_load fL (by omega) w.n1 w.nk S) S
  have st : startD ["web", "start", "rooms", "many"] [wb R m, rp n v, rp n L, .int (T : Nat)] = [some (wb R m), some (rp n v), some (rp n L), some (.int (T : Nat))] := rfl
  simp only [D_stay_course]
  rw [st]
  exact q_expr (x_f3 rfl rfl rfl rr) (q_expr (x_f2 rfl rfl (v_require_number_yes _ "many" S (is_num T S))) (q_ret (x_c1 (x_f4 rfl rfl rfl rfl (r_stay_passes w fv fL hA hB fc hT hz hc S)) rfl)))
theorem r_go_course (w : Web n R m) {A B : Nat} (fv : FB A n v) (fL : FB B n L) (hA : A ≤ 100) (hB : B ≤ 100) (fc : ∀ k ≤ T, FB 400 n (c k)) (hT : T ≤ 100) (hz : ∀ i < n, c 0 i = 0) (hc : ∀ k < T, ∀ i < n, c (k + 1) i = mnR (L i) (v i + stp n R m (c k) i)) (S : Store) : O_go_course [wb R m, rp n v, rp n L, .int (T : Nat)] S = some (.ok (.tup (cl n c (T + 1))) S) := by
  refine fn_rtS ?_ (by simp only [closed]; exact cl_closed _ _ _)
  have rr := v_require_allowance w (rp n v) (rp n L) (fun S => r_is_load fv (by omega) w.n1 w.nk S) (fun S => r_is_load fL (by omega) w.n1 w.nk S) S
  have st : startD ["web", "start", "allowance", "many"] [wb R m, rp n v, rp n L, .int (T : Nat)] = [some (wb R m), some (rp n v), some (rp n L), some (.int (T : Nat))] := rfl
  simp only [D_go_course]
  rw [st]
  exact q_expr (x_f3 rfl rfl rfl rr) (q_expr (x_f2 rfl rfl (v_require_number_yes _ "many" S (is_num T S))) (q_ret (x_c1 (x_f4 rfl rfl rfl rfl (r_go_passes w fv fL hA hB fc hT hz hc S)) rfl)))
end
end My
set_option Elab.async false
set_option linter.all false
set_option maxRecDepth 100000
set_option maxHeartbeats 4000000
set_option exponentiation.threshold 20000
namespace My
open PySem PySem.Spec PyProof.Rows L2 PD
/-! ### loads beside loads -/
theorem pyrs_ints (g : Nat → Option PyData) : ∀ ts : List Int, pyrs g (ts.map D.int) = some (ts.map PyData.int)
  | [] => rfl
  | t :: ts => by simp only [List.map_cons, pyrs, pyr, pyrs_ints g ts]
theorem lay_ints : ∀ ts : List Int, PyData.canLayAll0 (ts.map PyData.int) = true
  | [] => rfl
  | t :: ts => by simp only [List.map_cons, PyData.canLayAll0, PyData.canLay0, lay_ints ts, Bool.and_self]
theorem depth_ints : ∀ ts : List Int, PyData.depthAll (ts.map PyData.int) = 0
  | [] => rfl
  | t :: ts => by simp only [List.map_cons, PyData.depthAll, PyData.depth, depth_ints ts, Nat.max_self]
theorem eqv_ints : ∀ ts us : List Int, PyData.eqvAll (ts.map PyData.int) (us.map PyData.int) = decide (ts = us)
  | [], [] => rfl
  | [], _ :: _ => rfl
  | _ :: _, [] => rfl
  | t :: ts, u :: us => by
    simp only [List.map_cons, PyData.eqvAll, PyData.eqv, eqv_ints ts us]
    by_cases h : t = u <;> simp [h]
theorem eqD_ld (S : Store) (ts us : List Int) (b c : Int) : eqD S (ld ts b) (ld us c) = some (decide (ts = us) && decide (b = c)) := by
  have t1 : ∀ (ts : List Int) (b : Int), toPy S (ld ts b) = some (.tuple [.tuple (ts.map .int), .int b]) := fun ts b => by
    unfold toPy
    simp only [pyr, pyrs, pyrs_ints, Option.map_some]
  have sh : ∀ (ts : List Int) (b : Int), SeqAt.shaped (.tuple [.tuple (ts.map .int), .int b]) = true := fun ts b => by
    simp [SeqAt.shaped, PyData.canLay0, PyData.canLayAll0, lay_ints, PyData.depth, PyData.depthAll, depth_ints]
  unfold eqD
  rw [t1, t1]
  simp only [sh, Bool.and_self, if_true, PyData.eqv, PyData.eqvAll, eqv_ints, Bool.and_true]
  by_cases h : b = c <;> simp [h]
theorem r_ne_none {n B : Nat} {q : Nat → Rat} (h : FB B n q) (hB : B ≤ 2000) (n1 : 1 ≤ n) (nk : n ≤ 60) (S : Store) : oNe (rp n q) (rp n fun _ => 0) S = some (.ok (.bl (!((List.range n).all fun i => decide (q i = 0)))) S) := by
  obtain ⟨ts, b, e1, l1, v1⟩ := h.lo hB n1 nk
  refine oNe_of ?_
  rw [rp_zero, e1, eqD_ld]
  congr 1
  rw [Bool.eq_iff_iff, Bool.and_eq_true, decide_eq_true_eq, decide_eq_true_eq, List.all_eq_true]
  constructor
  · rintro ⟨h1, h2⟩ i hi
    refine decide_eq_true ?_
    rw [v1 i (List.mem_range.mp hi), h1, gt_rep]
    grind
  · intro hz
    have : rp n q = rp n fun _ => 0 := rp_eq fun i hi => of_decide_eq_true (hz i (List.mem_range.mpr hi))
    rw [e1, rp_zero] at this
    simp only [ld, D.tup.injEq, List.cons.injEq, D.int.injEq, and_true] at this
    obtain ⟨h1, h2⟩ := this
    refine ⟨?_, h2⟩
    have := congrArg (List.map ival) h1
    rwa [ival_int, ival_int] at this
/-! ### what is a row of loads -/
def tellC : D → Bool
  | .tup xs => decide (xs.length ≤ 1000) && xs.all tellL
  | d => told d
def areB (n : Int) : D → Bool
  | .tup xs => decide (0 < xs.length) && xs.all (loadB n)
  | _ => false
theorem v_are_loads (S : Store) (n : Int) (d : D) (h : tellC d = true) : O_are_loads [.int n, d] S = some (.ok (.bl (areB n d)) S) := by
  refine fn_rtS ?_ rfl
  have st : startD ["size", "thing", "load"] [.int n, d] = [some (.int n), some d, none] := rfl
  simp only [D_are_loads]
  rw [st]
  match d, h with
  | .tup xs, h =>
    simp only [tellC, Bool.and_eq_true, decide_eq_true_eq, List.all_eq_true] at h
    have l := lc_map (own := [2]) (t := .one 2) (elt := dFn 2 O_is_load (dCons (dVar 0) (dCons (dVar 2) (dNil)))) (f := dItems (dVar 1)) (ρ := [some (.int n), some (.tup xs), none]) (S := S) (items := xs) (fun x => .bl (loadB n x)) (fun x => [some (.int n), some (.tup xs), some x]) rfl
      (fun _ _ => rfl) (fun x hx T => x_f2 rfl rfl (v_is_load T n x (h.2 x hx))) (by have := h.1; omega) (by simp [closeds_all, closed])
    have g : dBin oGt (dCall oLen (dCons (dVar 1) (dNil))) (dC (.int 0)) [some (.int n), some (.tup xs), none] S = some (.ok (.bl (decide (0 < xs.length))) S) := by
      refine (x_bin (x_c1 rfl (e_lenT xs S)) rfl rfl).trans ?_
      simp [oGt]
    by_cases hl : 0 < xs.length
    · rw [decide_eq_true hl] at g
      have e : areB n (.tup xs) = xs.all (loadB n) := by simp only [areB, decide_eq_true hl, Bool.true_and]
      rw [e]
      exact q_ret (x_andT (by rfl) (x_andT g (x_c1 l (e_all _ _ _))))
    · rw [decide_eq_false hl] at g
      have e : areB n (.tup xs) = false := by simp only [areB, decide_eq_false hl, Bool.false_and]
      rw [e]
      exact q_ret (x_andT (by rfl) (x_andF g))
  | .non, _ => rfl
  | .bl _, _ => rfl
  | .int _, _ => rfl
  | .str _, _ => rfl
  | .lst _, _ => rfl
  | .scr _, _ => rfl
  | .ref _, _ => rfl
  | .rng .., h => simp [tellC, told, tyName] at h
  | .err .., h => simp [tellC, told, tyName] at h
  | .cau .., h => simp [tellC, told, tyName] at h
def zB (n : Nat) (c : Nat → Nat → Rat) : Bool := (List.range n).all fun i => decide (c 0 i = 0)
def upB (n : Nat) (c : Nat → Nat → Rat) (T : Nat) : Bool := (List.range T).all fun t => leB n (c t) (c (t + 1))
def gs (c : Nat → Nat → Rat) (t : Nat) (i : Nat) : Rat := c (t + 1) i - c t i
def stB (n : Nat) (R : List (List Int)) (m : Int) (v : Nat → Rat) (c : Nat → Nat → Rat) (T : Nat) : Bool := (List.range T).all fun t => leB n (gs c t) (stands n R m v c t)
def courseB (n : Nat) (R : List (List Int)) (m : Int) (v : Nat → Rat) (c : Nat → Nat → Rat) (T : Nat) : Bool := zB n c && upB n c T && stB n R m v c T
theorem course_iff {n : Nat} {R : List (List Int)} {m : Int} {v : Nat → Rat} {c : Nat → Nat → Rat} {T : Nat} : courseB n R m v c T = true ↔ Course n R m v c T := by
  unfold courseB zB upB stB
  rw [Bool.and_eq_true, Bool.and_eq_true, List.all_eq_true, List.all_eq_true, List.all_eq_true]
  constructor
  · rintro ⟨⟨h1, h2⟩, h3⟩
    exact ⟨fun i hi => of_decide_eq_true (h1 i (List.mem_range.mpr hi)), fun k hk => leB_iff.mp (h2 k (List.mem_range.mpr hk)), fun k hk => leB_iff.mp (h3 k (List.mem_range.mpr hk))⟩
  · intro h
    exact ⟨⟨fun i hi => decide_eq_true (h.z i (List.mem_range.mp hi)), fun k hk => leB_iff.mpr (h.up k (List.mem_range.mp hk))⟩, fun k hk => leB_iff.mpr (h.st k (List.mem_range.mp hk))⟩
section
variable {n : Nat} {R : List (List Int)} {m : Int} {v L : Nat → Rat} {c : Nat → Nat → Rat} {T B : Nat}
theorem len_cl (n : Nat) (c : Nat → Nat → Rat) (T : Nat) (S : Store) : oLen [.tup (cl n c T)] S = some (.ok (.int (T : Nat)) S) := by rw [e_lenT, cl_len]
theorem len_clL (n : Nat) (c : Nat → Nat → Rat) (T : Nat) (S : Store) : oLen [.lst (cl n c T)] S = some (.ok (.int (T : Nat)) S) := by rw [e_lenL, cl_len]
/-- range(len(x) - 1) -/
theorem rng_len (n : Nat) (c : Nat → Nat → Rat) (T : Nat) (hT : T ≤ 1000) (ρ : EnvD) (S : Store) (j : Nat) (h : ρ[j]? = some (some (.tup (cl n c (T + 1))))) : dRange1 (dBin oSub (dCall oLen (dCons (dVar j) (dNil))) (dC (.int 1))) ρ S = some (.ok (rgD 0 T) none S) := by
  refine range1_of (x_bin (x_c1 (by rw [e_var, h]) (len_cl n c (T + 1) S)) rfl ?_) (by omega)
  show some (Res.ok (D.int (((T + 1 : Nat) : Int) - 1)) S) = _
  rw [show ((T + 1 : Nat) : Int) - 1 = (T : Nat) by omega]
theorem ix_cl {k T : Nat} (h : k < T) (S : Store) : oIx (.tup (cl n c T)) (.int (k : Nat)) S = some (.ok (rp n (c k)) S) := ixTup (cl_get h) S
theorem ix_clL {k T : Nat} (h : k < T) (S : Store) : oIx (.lst (cl n c T)) (.int (k : Nat)) S = some (.ok (rp n (c k)) S) := ixLst (cl_get h) S
theorem all_bl {α : Type} (p : α → Bool) (xs : List α) : closeds (xs.map fun x => D.bl (p x)) = true := by simp [closeds_all, closed]
theorem rp_shape {q : Nat → Rat} (h : FB B n q) (hB : B ≤ 2000) (w : Web n R m) (S : Store) : ∃ x, oIx (rp n q) (.int 0) S = some (.ok x S) ∧ oLen [x] S = some (.ok (.int (n : Nat)) S) := by
  obtain ⟨ts, b, e1, l1, v1⟩ := h.lo hB w.n1 w.nk
  rw [e1]
  exact ⟨.tup (ts.map .int), e_ix0 _ _ S, by rw [e_lenT, List.length_map, l1.len]⟩
theorem r_is_growing (w : Web n R m) (fc : ∀ k ≤ T, FB B n (c k)) (hB : B ≤ 2000) (hT : T ≤ 1000) (S : Store) : O_is_growing [.tup (cl n c (T + 1))] S = some (.ok (.bl (zB n c && upB n c T)) S) := by
  refine fn_rtS ?_ rfl
  have st : startD ["thing", "t"] [.tup (cl n c (T + 1))] = [some (.tup (cl n c (T + 1))), none] := rfl
  simp only [D_is_growing]
  rw [st]
  obtain ⟨x, x1, x2⟩ := rp_shape (fc 0 (by omega)) hB w S
  have i0 : dBin oIx (dVar 0) (dC (.int 0)) [some (.tup (cl n c (T + 1))), none] S = some (.ok (rp n (c 0)) S) := x_bin rfl rfl (ix_cl (k := 0) (by omega) S)
  have ne : dBin oNe (dBin oIx (dVar 0) (dC (.int 0))) (dFn 1 O_no_load (dCons (dCall oLen (dCons (dBin oIx (dBin oIx (dVar 0) (dC (.int 0))) (dC (.int 0))) (dNil))) (dNil))) [some (.tup (cl n c (T + 1))), none] S = some (.ok (.bl (!zB n c)) S) :=
    x_bin i0 (x_f1 (x_c1 (x_bin i0 rfl x1) x2) (v_no_load S n w.n1 (nums0 w))) (r_ne_none (fc 0 (by omega)) hB w.n1 w.nk S)
  cases hz : zB n c
  · rw [hz] at ne
    exact q_ifR ne (q_ret rfl)
  · rw [hz] at ne
    refine q_ifF ne (q_ret ?_)
    have l := lc_range (own := [1]) (t := .one 1) (elt := dFn 2 O_is_within (dCons (dBin oIx (dVar 0) (dVar 1)) (dCons (dBin oIx (dVar 0) (dBin oPlus (dVar 1) (dC (.int 1)))) (dNil)))) (f := dRange1 (dBin oSub (dCall oLen (dCons (dVar 0) (dNil))) (dC (.int 1)))) (ρ := [some (.tup (cl n c (T + 1))), none]) (S := S) T (fun t => .bl (leB n (c t) (c (t + 1)))) (fun t => [some (.tup (cl n c (T + 1))), some (.int (t : Nat))])
      (rng_len n c T hT _ S 0 rfl) (fun _ _ => rfl) (fun t ht U => x_f2 (x_bin rfl rfl (ix_cl (by omega) U)) (x_bin rfl (x_bin rfl rfl rfl) (ix_cl (k := t + 1) (by omega) U)) (r_is_within (fc t (by omega)) (fc (t + 1) (by omega)) hB hB w.n1 w.nk U)) (by omega) (all_bl _ _)
    rw [Bool.true_and]
    exact x_c1 l (e_all (fun t => leB n (c t) (c (t + 1))) (List.range T) S)
theorem r_goes_of (w : Web n R m) (fc : ∀ k ≤ T, FB B n (c k)) (hB : B ≤ 2000) (hT : T ≤ 1000) (hu : ∀ k < T, ∀ i < n, c k i ≤ c (k + 1) i) (S : Store) : O_goes_of [.tup (cl n c (T + 1))] S = some (.ok (.lst (cl n (gs c) T)) S) := by
  refine fn_rtS ?_ (by simp only [closed]; exact cl_closed _ _ _)
  have st : startD ["course", "t"] [.tup (cl n c (T + 1))] = [some (.tup (cl n c (T + 1))), none] := rfl
  simp only [D_goes_of]
  rw [st]
  have l := lc_range (own := [1]) (t := .one 1) (elt := dFn 2 O_taken (dCons (dBin oIx (dVar 0) (dBin oPlus (dVar 1) (dC (.int 1)))) (dCons (dBin oIx (dVar 0) (dVar 1)) (dNil)))) (f := dRange1 (dBin oSub (dCall oLen (dCons (dVar 0) (dNil))) (dC (.int 1)))) (ρ := [some (.tup (cl n c (T + 1))), none]) (S := S) T (fun t => rp n (gs c t)) (fun t => [some (.tup (cl n c (T + 1))), some (.int (t : Nat))])
    (rng_len n c T hT _ S 0 rfl) (fun _ _ => rfl) (fun t ht U => x_f2 (x_bin rfl (x_bin rfl rfl rfl) (ix_cl (k := t + 1) (by omega) U)) (x_bin rfl rfl (ix_cl (by omega) U)) (r_taken (fc (t + 1) (by omega)) (fc t (by omega)) hB hB w.n1 w.nk (hu t ht) U)) (by omega) (cl_closed n (gs c) T)
  exact q_ret l
/-- what stands by what goes -/
def stG (n : Nat) (R : List (List Int)) (m : Int) (v : Nat → Rat) (g : Nat → Nat → Rat) : Nat → Nat → Rat
  | 0 => v
  | k + 1 => stp n R m (g k)
theorem stG_gs (k : Nat) : stG n R m v (gs c) k = stands n R m v c k := by cases k <;> rfl
theorem cl_cons (n : Nat) (c : Nat → Nat → Rat) (T : Nat) : cl n c (T + 1) = rp n (c 0) :: (List.range T).map fun k => rp n (c (k + 1)) := by
  unfold cl
  rw [List.range_succ_eq_map, List.map_cons, List.map_map]
  rfl
theorem cl_take (n : Nat) (c : Nat → Nat → Rat) (T : Nat) : (cl n c (T + 1)).take T = cl n c T := by
  rw [cl_succ, List.take_left' (cl_len n c T)]
theorem r_stands_of {g : Nat → Nat → Rat} (w : Web n R m) (fg : ∀ k < T, FB B n (g k)) (hB : B ≤ 1980) (hT : T ≤ 1000) (S : Store) : O_stands_of [wb R m, rp n v, .lst (cl n g T)] S = some (.ok (.lst (cl n (stG n R m v g) T)) S) := by
  refine fn_rtS ?_ (by simp only [closed]; exact cl_closed _ _ _)
  have st : startD ["web", "start", "goes", "load"] [wb R m, rp n v, .lst (cl n g T)] = [some (wb R m), some (rp n v), some (.lst (cl n g T)), none] := rfl
  simp only [D_stands_of]
  rw [st]
  have cl1 : closeds ((cl n g T).map fun x => x) = true := by rw [List.map_id']; exact cl_closed _ _ _
  have l := lc_idx (own := [3]) (t := .one 3) (elt := dFn 2 O_step_of (dCons (dVar 0) (dCons (dVar 3) (dNil)))) (f := dItems (dVar 2)) (ρ := [some (wb R m), some (rp n v), some (.lst (cl n g T)), none]) (S := S) (List.range T) (fun k => rp n (g k)) (fun k => rp n (stp n R m (g k))) (fun k => [some (wb R m), some (rp n v), some (.lst (cl n g T)), some (rp n (g k))])
    rfl (fun _ _ => rfl) (fun k hk U => x_f2 rfl rfl (r_step_of w (fg k (List.mem_range.mp hk)) hB U)) (by rw [List.length_range]; omega) (by
      rw [closeds_all]
      refine List.all_eq_true.mpr fun x hx => ?_
      obtain ⟨k, _, rfl⟩ := List.mem_map.mp hx
      exact closed_rp _ _)
  have pl : oPlus (.lst [rp n v]) (.lst ((List.range T).map fun k => rp n (stp n R m (g k)))) S = some (.ok (.lst (cl n (stG n R m v g) (T + 1))) S) := by
    rw [cl_cons]
    simp only [oPlus, lPlus, asList]
    rw [if_pos (by simp; omega)]
    rfl
  have ct : oCut (.lst (cl n (stG n R m v g) (T + 1))) none (some (T : Nat)) S = some (.ok (.lst (cl n (stG n R m v g) T)) S) := by
    have e : PD.cutD (cl n (stG n R m v g) (T + 1)) none (some ((T : Nat) : Int)) = cl n (stG n R m v g) T := by
      have e1 : HT.sIx (T + 1) (T + 1) (some ((T : Nat) : Int)) = T := by simp [HT.sIx]; omega
      unfold PD.cutD
      rw [cl_len, HT.sIx_none, e1, List.drop_zero, Nat.sub_zero, cl_take]
    simp only [oCut, asList, e]
  exact q_ret ((x_cut (i := none) (j := some ((T : Nat) : Int)) (x_bin (x_lst (y_cons rfl y_nil) rfl) l pl) trivial (x_c1 rfl (len_clL n g T S))).trans ct)
theorem fb_gs (fc : ∀ k ≤ T, FB 400 n (c k)) (hu : ∀ k < T, ∀ i < n, c k i ≤ c (k + 1) i) : ∀ k < T, FB 801 n (gs c k) := fun k hk => (fc (k + 1) (by omega)).sub (fc k (by omega)) (hu k hk)
theorem fb_st {A : Nat} (w : Web n R m) (fv : FB A n v) (hA : A ≤ 800) (fc : ∀ k ≤ T, FB 400 n (c k)) (hu : ∀ k < T, ∀ i < n, c k i ≤ c (k + 1) i) : ∀ k < T + 1, FB 817 n (stands n R m v c k)
  | 0, _ => fv.mono (by omega)
  | k + 1, hk => (fb_gs fc hu k (by omega)).stp w
theorem tellC_cl (w : Web n R m) (fc : ∀ k < T, FB B n (c k)) (hB : B ≤ 2000) (hT : T ≤ 1000) : tellC (.tup (cl n c T)) = true := by
  simp only [tellC, cl_len, decide_eq_true hT, Bool.true_and]
  refine List.all_eq_true.mpr fun x hx => ?_
  obtain ⟨k, hk, rfl⟩ := List.mem_map.mp hx
  obtain ⟨ts, b, e1, l1, v1⟩ := (fc k (List.mem_range.mp hk)).lo hB w.n1 w.nk
  rw [e1]
  exact tellL_ld ts b (by have := l1.len; have := w.nk; omega)
theorem areB_cl (w : Web n R m) (fc : ∀ k < T + 1, FB B n (c k)) (hB : B ≤ 2000) : areB n (.tup (cl n c (T + 1))) = true := by
  simp only [areB, cl_len, decide_eq_true (Nat.succ_pos T), Bool.true_and]
  refine List.all_eq_true.mpr fun x hx => ?_
  obtain ⟨k, hk, rfl⟩ := List.mem_map.mp hx
  obtain ⟨ts, b, e1, l1, v1⟩ := (fc k (List.mem_range.mp hk)).lo hB w.n1 w.nk
  rw [e1]
  exact l1.load
theorem r_is_course_of {A : Nat} (w : Web n R m) (fv : FB A n v) (hA : A ≤ 800) (fc : ∀ k ≤ T, FB 400 n (c k)) (hT : T ≤ 900) (S : Store) : O_is_course_of [wb R m, rp n v, .tup (cl n c (T + 1))] S = some (.ok (.bl (courseB n R m v c T)) S) := by
  refine fn_rtS ?_ rfl
  have st : startD ["web", "start", "thing", "goes", "stands", "t"] [wb R m, rp n v, .tup (cl n c (T + 1))] = [some (wb R m), some (rp n v), some (.tup (cl n c (T + 1))), none, none, none] := rfl
  simp only [D_is_course_of]
  rw [st]
  have ar := v_are_loads S n (.tup (cl n c (T + 1))) (tellC_cl w (fun k hk => fc k (by omega)) (by decide) (by omega))
  rw [areB_cl w (fun k hk => fc k (by omega)) (by decide)] at ar
  have gr := r_is_growing w fc (by decide) (by omega) S
  have cond : dNot (dAnd (dTru (dFn 2 O_are_loads (dCons (dFn 1 O_size_of (dCons (dVar 0) (dNil))) (dCons (dVar 2) (dNil))))) (dTru (dFn 1 O_is_growing (dCons (dVar 2) (dNil))))) [some (wb R m), some (rp n v), some (.tup (cl n c (T + 1))), none, none, none] S = some (.ok (.bl (!(zB n c && upB n c T))) S) :=
    x_not (x_andT (x_tru (x_f2 (x_f1 rfl (v_size_of w S)) rfl ar) rfl) (x_tru (x_f1 rfl gr) rfl))
  unfold courseB
  cases hg : zB n c && upB n c T
  · rw [hg] at cond
    exact q_ifR cond (q_ret rfl)
  · rw [hg] at cond
    have hu : ∀ k < T, ∀ i < n, c k i ≤ c (k + 1) i := by
      have := (Bool.and_eq_true .. ▸ hg : zB n c = true ∧ upB n c T = true).2
      unfold upB at this
      rw [List.all_eq_true] at this
      exact fun k hk => leB_iff.mp (this k (List.mem_range.mpr hk))
    have go := r_goes_of w fc (by decide) (by omega) hu S
    have sd := r_stands_of (v := v) w (fb_gs fc hu) (by decide) (by omega) S
    have es : cl n (stG n R m v (gs c)) T = cl n (stands n R m v c) T := cl_congr fun k _ i _ => by rw [stG_gs]
    rw [es] at sd
    refine q_ifF cond (q_set (x_f1 rfl go) (q_set (x_f3 rfl rfl rfl sd) (q_ret ?_)))
    have l := lc_range (own := [5]) (t := .one 5) (elt := dFn 2 O_is_within (dCons (dBin oIx (dVar 3) (dVar 5)) (dCons (dBin oIx (dVar 4) (dVar 5)) (dNil)))) (f := dRange1 (dCall oLen (dCons (dVar 3) (dNil)))) (ρ := [some (wb R m), some (rp n v), some (.tup (cl n c (T + 1))), some (.lst (cl n (gs c) T)), some (.lst (cl n (stands n R m v c) T)), none]) (S := S) T (fun t => .bl (leB n (gs c t) (stands n R m v c t)))
      (fun t => [some (wb R m), some (rp n v), some (.tup (cl n c (T + 1))), some (.lst (cl n (gs c) T)), some (.lst (cl n (stands n R m v c) T)), some (.int (t : Nat))])
      (range1_of (x_c1 rfl (len_clL _ _ _ S)) (by omega)) (fun _ _ => rfl) (fun t ht U => x_f2 (x_bin rfl rfl (ix_clL ht U)) (x_bin rfl rfl (ix_clL ht U)) (r_is_within (fb_gs fc hu t ht) (fb_st w fv hA fc hu t (by omega)) (by decide) (by decide) w.n1 w.nk U)) (by omega) (all_bl _ _)
    rw [Bool.true_and]
    exact x_c1 l (e_all (fun t => leB n (gs c t) (stands n R m v c t)) (List.range T) S)
/-- what is no row of loads is no course -/
theorem n_is_course_of (w : Web n R m) (s d : D) (ht : tellC d = true) (ha : areB n d = false) (S : Store) : O_is_course_of [wb R m, s, d] S = some (.ok (.bl false) S) := by
  refine fn_rtS ?_ rfl
  have st : startD ["web", "start", "thing", "goes", "stands", "t"] [wb R m, s, d] = [some (wb R m), some s, some d, none, none, none] := rfl
  simp only [D_is_course_of]
  rw [st]
  have ar := v_are_loads S n d ht
  rw [ha] at ar
  exact q_ifR (x_not (p := false) (x_andF (x_tru (x_f2 (x_f1 rfl (v_size_of w S)) rfl ar) rfl))) (q_ret rfl)
end
end My
set_option Elab.async false
set_option linter.all false
set_option maxRecDepth 100000
set_option maxHeartbeats 4000000
set_option exponentiation.threshold 20000
namespace My
open PySem PySem.Spec PyProof.Rows L2 PD
section
variable {n : Nat} {R : List (List Int)} {m : Int} {v L : Nat → Rat} {c : Nat → Nat → Rat} {T B A : Nat}
theorem r_is_course (w : Web n R m) (fv : FB A n v) (hA : A ≤ 800) (fc : ∀ k ≤ T, FB 400 n (c k)) (hT : T ≤ 900) (S : Store) : O_is_course [wb R m, rp n v, .tup (cl n c (T + 1))] S = some (.ok (.bl (courseB n R m v c T)) S) := by
  refine fn_rtS ?_ rfl
  have st : startD ["web", "start", "thing"] [wb R m, rp n v, .tup (cl n c (T + 1))] = [some (wb R m), some (rp n v), some (.tup (cl n c (T + 1)))] := rfl
  simp only [D_is_course]
  rw [st]
  exact q_expr (x_f3 rfl rfl rfl (v_require_load_yes w _ "start" S (r_is_load fv (by omega) w.n1 w.nk S))) (q_ret (x_f3 rfl rfl rfl (r_is_course_of w fv hA fc hT S)))
theorem n_is_course (w : Web n R m) (s d : D) (hs : IsL n s true) (ht : tellC d = true) (ha : areB n d = false) (S : Store) : O_is_course [wb R m, s, d] S = some (.ok (.bl false) S) := by
  refine fn_rtS ?_ rfl
  have st : startD ["web", "start", "thing"] [wb R m, s, d] = [some (wb R m), some s, some d] := rfl
  simp only [D_is_course]
  rw [st]
  exact q_expr (x_f3 rfl rfl rfl (v_require_load_yes w _ "start" S (hs S))) (q_ret (x_f3 rfl rfl rfl (n_is_course_of w s d ht ha S)))
theorem s_is_course (w : Web n R m) (s d : D) (hs : IsL n s false) (S : Store) : O_is_course [wb R m, s, d] S = some (.exc "NotUsable" ["at", "word"] [.int (-1), .str "start"] S) := by
  refine fn_exc (ρ := [some (wb R m), some s, some d]) ?_ rfl
  have st : startD ["web", "start", "thing"] [wb R m, s, d] = [some (wb R m), some s, some d] := rfl
  simp only [D_is_course]
  rw [st]
  exact q_exc (x_f3 rfl rfl rfl (v_require_load_no w _ "start" S (hs S)))
theorem v_require_course_yes (w : Web n R m) (s d : D) (hs : IsL n s true) (S : Store) (h : O_is_course_of [wb R m, s, d] S = some (.ok (.bl true) S)) : O_require_course [wb R m, s, d] S = some (.ok .non S) := by
  refine fn_nx (ρ := [some (wb R m), some s, some d]) ?_
  have st : startD ["web", "start", "course"] [wb R m, s, d] = [some (wb R m), some s, some d] := rfl
  simp only [D_require_course]
  rw [st]
  exact q_expr (x_f3 rfl rfl rfl (v_require_load_yes w _ "start" S (hs S))) (q_expr (x_f2 (x_f3 rfl rfl rfl h) rfl (v_require_yes S "course")) rfl)
theorem v_require_course_no (w : Web n R m) (s d : D) (hs : IsL n s true) (S : Store) (h : O_is_course_of [wb R m, s, d] S = some (.ok (.bl false) S)) : O_require_course [wb R m, s, d] S = some (.exc "NotUsable" ["at", "word"] [.int (-1), .str "course"] S) := by
  refine fn_exc (ρ := [some (wb R m), some s, some d]) ?_ rfl
  have st : startD ["web", "start", "course"] [wb R m, s, d] = [some (wb R m), some s, some d] := rfl
  simp only [D_require_course]
  rw [st]
  exact q_expr (x_f3 rfl rfl rfl (v_require_load_yes w _ "start" S (hs S))) (q_exc (x_f2 (x_f3 rfl rfl rfl h) rfl (v_require_no S "course")))
theorem v_require_course_s (w : Web n R m) (s d : D) (hs : IsL n s false) (S : Store) : O_require_course [wb R m, s, d] S = some (.exc "NotUsable" ["at", "word"] [.int (-1), .str "start"] S) := by
  refine fn_exc (ρ := [some (wb R m), some s, some d]) ?_ rfl
  have st : startD ["web", "start", "course"] [wb R m, s, d] = [some (wb R m), some s, some d] := rfl
  simp only [D_require_course]
  rw [st]
  exact q_exc (x_f3 rfl rfl rfl (v_require_load_no w _ "start" S (hs S)))
theorem isL_rp (w : Web n R m) (fv : FB A n v) (hA : A ≤ 2000) : IsL n (rp n v) true := fun S => r_is_load fv hA w.n1 w.nk S
theorem r_standing_course (w : Web n R m) (fv : FB A n v) (hA : A ≤ 800) (fc : ∀ k ≤ T, FB 400 n (c k)) (hT : T ≤ 900) (hc : Course n R m v c T) (S : Store) : O_standing_course [wb R m, rp n v, .tup (cl n c (T + 1))] S = some (.ok (.tup (cl n (stands n R m v c) T)) S) := by
  refine fn_rtS ?_ (by simp only [closed]; exact cl_closed _ _ _)
  have st : startD ["web", "start", "course"] [wb R m, rp n v, .tup (cl n c (T + 1))] = [some (wb R m), some (rp n v), some (.tup (cl n c (T + 1)))] := rfl
  have ic := r_is_course_of w fv hA fc hT S
  rw [course_iff.mpr hc] at ic
  have sd := r_stands_of (v := v) w (fb_gs fc hc.up) (by decide) (by omega) S
  have es : cl n (stG n R m v (gs c)) T = cl n (stands n R m v c) T := cl_congr fun k _ i _ => by rw [stG_gs]
  rw [es] at sd
  simp only [D_standing_course]
  rw [st]
  exact q_expr (x_f3 rfl rfl rfl (v_require_course_yes w _ _ (isL_rp w fv (by omega)) S ic)) (q_ret (x_c1 (x_f3 rfl rfl (x_f1 rfl (r_goes_of w fc (by decide) (by omega) hc.up S)) sd) rfl))
theorem fb_keep (w : Web n R m) (fv : FB A n v) (fc : ∀ k ≤ T, FB 400 n (c k)) (k : Nat) (hk : k ≤ T) : FB (A + 417) n (fun i => v i + stp n R m (c k) i) := fv.add ((fc k hk).stp w)
theorem course_le (w : Web n R m) (fc : ∀ k ≤ T, FB B n (c k)) (hc : Course n R m v c T) : ∀ k < T, ∀ i < n, c (k + 1) i ≤ v i + stp n R m (c k) i := by
  have hf := (course_fits (v := v) (R := R) (m := m) fun k hk i hi => (fc k hk).nonneg i hi).mp hc
  have key : ∀ k ≤ T, ∀ i < n, 0 ≤ stayed n R m v c k i := by
    intro k
    induction k with
    | zero => intro _ i hi; exact Rat.le_refl
    | succ k ih => intro hk i hi; exact Rat.le_trans (ih (by omega) i hi) (hf.st k (by omega) i hi)
  intro k hk i hi
  have := key (k + 1) (by omega) i hi
  simp only [stayed] at this
  grind
theorem r_kept_course (w : Web n R m) (fv : FB A n v) (hA : A ≤ 800) (fc : ∀ k ≤ T, FB 400 n (c k)) (hT : T ≤ 900) (hc : Course n R m v c T) (S : Store) : O_kept_course [wb R m, rp n v, .tup (cl n c (T + 1))] S = some (.ok (.tup (cl n (fun k => stayed n R m v c (k + 1)) T)) S) := by
  refine fn_rtS ?_ (by simp only [closed]; exact cl_closed _ _ _)
  have st : startD ["web", "start", "course", "t"] [wb R m, rp n v, .tup (cl n c (T + 1))] = [some (wb R m), some (rp n v), some (.tup (cl n c (T + 1))), none] := rfl
  have ic := r_is_course_of w fv hA fc hT S
  rw [course_iff.mpr hc] at ic
  simp only [D_kept_course]
  rw [st]
  have l := lc_range (own := [3]) (t := .one 3) (elt := dFn 2 O_taken (dCons (dFn 3 O_come_to (dCons (dVar 0) (dCons (dVar 1) (dCons (dBin oIx (dVar 2) (dVar 3)) (dNil))))) (dCons (dBin oIx (dVar 2) (dBin oPlus (dVar 3) (dC (.int 1)))) (dNil)))) (f := dRange1 (dBin oSub (dCall oLen (dCons (dVar 2) (dNil))) (dC (.int 1)))) (ρ := [some (wb R m), some (rp n v), some (.tup (cl n c (T + 1))), none]) (S := S) T (fun t => rp n (stayed n R m v c (t + 1)))
    (fun t => [some (wb R m), some (rp n v), some (.tup (cl n c (T + 1))), some (.int (t : Nat))])
    (rng_len n c T (by omega) _ S 2 rfl) (fun _ _ => rfl) (fun t ht U => x_f2 (x_f3 rfl rfl (x_bin rfl rfl (ix_cl (by omega) U)) (r_come_to w fv (fc t (by omega)) (by omega) (by decide) U)) (x_bin rfl (x_bin rfl rfl rfl) (ix_cl (k := t + 1) (by omega) U)) (r_taken (fb_keep w fv fc t (by omega)) (fc (t + 1) (by omega)) (by omega) (by decide) w.n1 w.nk (course_le w fc hc t ht) U)) (by omega) (cl_closed n (fun k => stayed n R m v c (k + 1)) T)
  exact q_expr (x_f3 rfl rfl rfl (v_require_course_yes w _ _ (isL_rp w fv (by omega)) S ic)) (q_ret (x_c1 l rfl))
/-! both refuse what is no course -/
theorem n_standing_course (w : Web n R m) (s d : D) (x : Str) (S : Store) (h : O_require_course [wb R m, s, d] S = some (.exc "NotUsable" ["at", "word"] [.int (-1), .str x] S)) : O_standing_course [wb R m, s, d] S = some (.exc "NotUsable" ["at", "word"] [.int (-1), .str x] S) := by
  refine fn_exc (ρ := [some (wb R m), some s, some d]) ?_ rfl
  have st : startD ["web", "start", "course"] [wb R m, s, d] = [some (wb R m), some s, some d] := rfl
  simp only [D_standing_course]
  rw [st]
  exact q_exc (x_f3 rfl rfl rfl h)
theorem n_kept_course (w : Web n R m) (s d : D) (x : Str) (S : Store) (h : O_require_course [wb R m, s, d] S = some (.exc "NotUsable" ["at", "word"] [.int (-1), .str x] S)) : O_kept_course [wb R m, s, d] S = some (.exc "NotUsable" ["at", "word"] [.int (-1), .str x] S) := by
  refine fn_exc (ρ := [some (wb R m), some s, some d, none]) ?_ rfl
  have st : startD ["web", "start", "course", "t"] [wb R m, s, d] = [some (wb R m), some s, some d, none] := rfl
  simp only [D_kept_course]
  rw [st]
  exact q_exc (x_f3 rfl rfl rfl h)
theorem n_stay_course (w : Web n R m) (s d k : D) (x : Str) (S : Store) (h : O_require_rooms [wb R m, s, d] S = some (.exc "NotUsable" ["at", "word"] [.int (-1), .str x] S)) : O_stay_course [wb R m, s, d, k] S = some (.exc "NotUsable" ["at", "word"] [.int (-1), .str x] S) := by
  refine fn_exc (ρ := [some (wb R m), some s, some d, some k]) ?_ rfl
  have st : startD ["web", "start", "rooms", "many"] [wb R m, s, d, k] = [some (wb R m), some s, some d, some k] := rfl
  simp only [D_stay_course]
  rw [st]
  exact q_exc (x_f3 rfl rfl rfl h)
theorem k_stay_course (w : Web n R m) (s d k : D) (S : Store) (hs : IsL n s true) (hd : IsL n d true) (hk : O_is_number [k] S = some (.ok (.bl false) S)) : O_stay_course [wb R m, s, d, k] S = some (.exc "NotUsable" ["at", "word"] [.int (-1), .str "many"] S) := by
  refine fn_exc (ρ := [some (wb R m), some s, some d, some k]) ?_ rfl
  have st : startD ["web", "start", "rooms", "many"] [wb R m, s, d, k] = [some (wb R m), some s, some d, some k] := rfl
  simp only [D_stay_course]
  rw [st]
  exact q_expr (x_f3 rfl rfl rfl (v_require_rooms w s d hs hd S)) (q_exc (x_f2 rfl rfl (v_require_number_no k "many" S hk)))
theorem n_go_course (w : Web n R m) (s d k : D) (x : Str) (S : Store) (h : O_require_allowance [wb R m, s, d] S = some (.exc "NotUsable" ["at", "word"] [.int (-1), .str x] S)) : O_go_course [wb R m, s, d, k] S = some (.exc "NotUsable" ["at", "word"] [.int (-1), .str x] S) := by
  refine fn_exc (ρ := [some (wb R m), some s, some d, some k]) ?_ rfl
  have st : startD ["web", "start", "allowance", "many"] [wb R m, s, d, k] = [some (wb R m), some s, some d, some k] := rfl
  simp only [D_go_course]
  rw [st]
  exact q_exc (x_f3 rfl rfl rfl h)
theorem k_go_course (w : Web n R m) (s d k : D) (S : Store) (hs : IsL n s true) (hd : IsL n d true) (hk : O_is_number [k] S = some (.ok (.bl false) S)) : O_go_course [wb R m, s, d, k] S = some (.exc "NotUsable" ["at", "word"] [.int (-1), .str "many"] S) := by
  refine fn_exc (ρ := [some (wb R m), some s, some d, some k]) ?_ rfl
  have st : startD ["web", "start", "allowance", "many"] [wb R m, s, d, k] = [some (wb R m), some s, some d, some k] := rfl
  simp only [D_go_course]
  rw [st]
  exact q_expr (x_f3 rfl rfl rfl (v_require_allowance w s d hs hd S)) (q_exc (x_f2 rfl rfl (v_require_number_no k "many" S hk)))
end
/-! ### the law's asking -/
@[simp] theorem e_attrC (a dd : Addr) (cs : List Str) (f : Str) (fe : Den) (ρ : EnvD) (S : Store) : dAttrC a dd cs f fe ρ S = bnd (fe ρ S) fun d S1 => match d with
  | .cau a' d' c ns xs => if a' = a ∧ d' = dd ∧ c ∈ cs then ((ns.zip xs).lookup f).map fun d => .ok d S1 else none
  | _ => none := rfl
@[simp] theorem e_isC (a0 d0 : Addr) (c0 : Str) (b : Bool) (f : Den) (ρ : EnvD) (S : Store) : dIsC a0 d0 c0 b f ρ S = bnd (f ρ S) fun d S1 => match d with
  | .cau a d c _ _ => if a = a0 ∧ d = d0 ∧ c = c0 then some (.ok (.bl b) S1) else none
  | _ => none := rfl
/-- the try's end where the body raises what is caught -/
theorem e_try {tab : List (Str × Bool)} {i : Nat} {g : SDen} {gs : Str → Nat → Nat → SDen} {ρ ρ1 : EnvD} {S S1 : Store} {c : Str} {ns : List Str} {xs : List D} {r : SRes} (h : g ρ S = some (.exc c ns xs ρ1 S1)) (ht : tab.lookup c = some true)
    (hs : ∀ a d, clr i (gs c a d (ρ1.set i (some (.cau a d c ns xs))) S1) = some r) : sTry tab i g gs ρ S = some r := by
  unfold sTry
  rw [h]
  simp only [ht]
  exact unif_of hs
theorem e_tryN {tab : List (Str × Bool)} {i : Nat} {g : SDen} {gs : Str → Nat → Nat → SDen} {ρ ρ1 : EnvD} {S S1 : Store} (h : g ρ S = some (.nx ρ1 S1)) : sTry tab i g gs ρ S = some (.nx ρ1 S1) := by
  unfold sTry
  rw [h]
theorem s_exc {ρ : EnvD} {S S1 : Store} {k : Nat} {f : Den} {c : Str} {ns : List Str} {xs : List D} (h : f ρ S = some (.exc c ns xs S1)) : sSet k f ρ S = some (.exc c ns xs ρ S1) := by
  rw [e_set, h]
  rfl
theorem strRooms : PyData.strOk "rooms" = true := by decide +kernel
theorem strAllow : PyData.strOk "allowance" = true := by decide +kernel
theorem strStand : PyData.strOk "stand" = true := by decide +kernel
theorem strKept : PyData.strOk "kept" = true := by decide +kernel
theorem strIs : PyData.strOk "is" = true := by decide +kernel
theorem o_eqS {x y : Str} (hx : PyData.strOk x = true) (hy : PyData.strOk y = true) (S : Store) : oEq (.str x) (.str y) S = some (.ok (.bl (x == y)) S) := oEq_of (eqD_str hx hy)
theorem o_neS {x y : Str} (hx : PyData.strOk x = true) (hy : PyData.strOk y = true) (S : Store) : oNe (.str x) (.str y) S = some (.ok (.bl (!(x == y))) S) := oNe_of (eqD_str hx hy)
noncomputable abbrev askBody : SDen := sSeq (sIf (dBin oEq (dVar 0) (dC (.str "rooms"))) (sSeq (sSet 6 (dFn 4 O_stay_course (dCons (dVar 1) (dCons (dVar 2) (dCons (dVar 3) (dCons (dVar 4) (dNil))))))) (sNil)) (sSeq (sIf (dBin oEq (dVar 0) (dC (.str "allowance"))) (sSeq (sSet 6 (dFn 4 O_go_course (dCons (dVar 1) (dCons (dVar 2) (dCons (dVar 3) (dCons (dVar 4) (dNil))))))) (sNil)) (sSeq (sIf (dBin oEq (dVar 0) (dC (.str "stand"))) (sSeq (sSet 6 (dFn 3 O_standing_course (dCons (dVar 1) (dCons (dVar 2) (dCons (dVar 3) (dNil)))))) (sNil)) (sSeq (sIf (dBin oEq (dVar 0) (dC (.str "kept"))) (sSeq (sSet 6 (dFn 3 O_kept_course (dCons (dVar 1) (dCons (dVar 2) (dCons (dVar 3) (dNil)))))) (sNil)) (sSeq (sSet 6 (dFn 3 O_is_course (dCons (dVar 1) (dCons (dVar 2) (dCons (dVar 3) (dNil)))))) (sNil))) (sNil))) (sNil))) (sNil))) (sNil)
/-- what is asked -/
noncomputable def asked (x : Str) (a b c k : D) (S : Store) : Option Res :=
  if x = "rooms" then O_stay_course [a, b, c, k] S else if x = "allowance" then O_go_course [a, b, c, k] S else if x = "stand" then O_standing_course [a, b, c] S else if x = "kept" then O_kept_course [a, b, c] S else O_is_course [a, b, c] S
def five5 (x : Str) : Prop := x = "rooms" ∨ x = "allowance" ∨ x = "stand" ∨ x = "kept" ∨ x = "is"
theorem strFive {x : Str} (h : five5 x) : PyData.strOk x = true := by
  rcases h with rfl | rfl | rfl | rfl | rfl
  · exact strRooms
  · exact strAllow
  · exact strStand
  · exact strKept
  · exact strIs
theorem s_if {t : Den} {sa sb : SDen} {ρ : EnvD} {S : Store} {b : Bool} {R : Option SRes} (h : t ρ S = some (.ok (.bl b) S)) (h2 : (if b then sa ρ S else sb ρ S) = R) : sIf t sa sb ρ S = R := by
  rw [e_if, h]
  exact h2
theorem q_one {s : SDen} {ρ : EnvD} {S : Store} {R : Option SRes} (h : s ρ S = R) (hR : ∃ r, R = some r ∧ (∀ ρ1 S1, r = .nx ρ1 S1 → True)) : sSeq s sNil ρ S = R := by
  obtain ⟨r, hr, _⟩ := hR
  rw [e_seq, h, hr]
  cases r <;> rfl
theorem ask_body_ok (x : Str) (hx : five5 x) (a b c k d : D) (S : Store) (h : asked x a b c k S = some (.ok d S)) : askBody [some (.str x), some a, some b, some c, some k, none, none] S = some (.nx [some (.str x), some a, some b, some c, some k, none, some d] S) := by
  have e : ∀ y : Str, PyData.strOk y = true → dBin oEq (dVar 0) (dC (.str y)) [some (.str x), some a, some b, some c, some k, none, none] S = some (.ok (.bl (x == y)) S) := fun y hy => x_bin rfl rfl (o_eqS (strFive hx) hy S)
  have e1 := e "rooms" strRooms
  have e2 := e "allowance" strAllow
  have e3 := e "stand" strStand
  have e4 := e "kept" strKept
  unfold asked at h
  rcases hx with rfl | rfl | rfl | rfl | rfl
  · exact q_one (s_if e1 (q_set (x_f4 rfl rfl rfl rfl h) rfl)) ⟨_, rfl, fun _ _ _ => trivial⟩
  · exact q_one (s_if e1 (q_one (s_if e2 (q_set (x_f4 rfl rfl rfl rfl h) rfl)) ⟨_, rfl, fun _ _ _ => trivial⟩)) ⟨_, rfl, fun _ _ _ => trivial⟩
  · exact q_one (s_if e1 (q_one (s_if e2 (q_one (s_if e3 (q_set (x_f3 rfl rfl rfl h) rfl)) ⟨_, rfl, fun _ _ _ => trivial⟩)) ⟨_, rfl, fun _ _ _ => trivial⟩)) ⟨_, rfl, fun _ _ _ => trivial⟩
  · exact q_one (s_if e1 (q_one (s_if e2 (q_one (s_if e3 (q_one (s_if e4 (q_set (x_f3 rfl rfl rfl h) rfl)) ⟨_, rfl, fun _ _ _ => trivial⟩)) ⟨_, rfl, fun _ _ _ => trivial⟩)) ⟨_, rfl, fun _ _ _ => trivial⟩)) ⟨_, rfl, fun _ _ _ => trivial⟩
  · exact q_one (s_if e1 (q_one (s_if e2 (q_one (s_if e3 (q_one (s_if e4 (q_set (x_f3 rfl rfl rfl h) rfl)) ⟨_, rfl, fun _ _ _ => trivial⟩)) ⟨_, rfl, fun _ _ _ => trivial⟩)) ⟨_, rfl, fun _ _ _ => trivial⟩)) ⟨_, rfl, fun _ _ _ => trivial⟩
theorem q_setE {k : Nat} {f : Den} {rest : SDen} {ρ : EnvD} {S S1 : Store} {c : Str} {ns : List Str} {xs : List D} (h : f ρ S = some (.exc c ns xs S1)) : sSeq (sSet k f) rest ρ S = some (.exc c ns xs ρ S1) := q_excSt (s_exc h)
theorem ask_body_exc (x : Str) (hx : five5 x) (a b c k : D) (S : Store) (cn : Str) (ns : List Str) (xs : List D) (h : asked x a b c k S = some (.exc cn ns xs S)) : askBody [some (.str x), some a, some b, some c, some k, none, none] S = some (.exc cn ns xs [some (.str x), some a, some b, some c, some k, none, none] S) := by
  have e : ∀ y : Str, PyData.strOk y = true → dBin oEq (dVar 0) (dC (.str y)) [some (.str x), some a, some b, some c, some k, none, none] S = some (.ok (.bl (x == y)) S) := fun y hy => x_bin rfl rfl (o_eqS (strFive hx) hy S)
  have e1 := e "rooms" strRooms
  have e2 := e "allowance" strAllow
  have e3 := e "stand" strStand
  have e4 := e "kept" strKept
  unfold asked at h
  rcases hx with rfl | rfl | rfl | rfl | rfl
  · exact q_one (s_if e1 (q_setE (x_f4 rfl rfl rfl rfl h))) ⟨_, rfl, fun _ _ _ => trivial⟩
  · exact q_one (s_if e1 (q_one (s_if e2 (q_setE (x_f4 rfl rfl rfl rfl h))) ⟨_, rfl, fun _ _ _ => trivial⟩)) ⟨_, rfl, fun _ _ _ => trivial⟩
  · exact q_one (s_if e1 (q_one (s_if e2 (q_one (s_if e3 (q_setE (x_f3 rfl rfl rfl h))) ⟨_, rfl, fun _ _ _ => trivial⟩)) ⟨_, rfl, fun _ _ _ => trivial⟩)) ⟨_, rfl, fun _ _ _ => trivial⟩
  · exact q_one (s_if e1 (q_one (s_if e2 (q_one (s_if e3 (q_one (s_if e4 (q_setE (x_f3 rfl rfl rfl h))) ⟨_, rfl, fun _ _ _ => trivial⟩)) ⟨_, rfl, fun _ _ _ => trivial⟩)) ⟨_, rfl, fun _ _ _ => trivial⟩)) ⟨_, rfl, fun _ _ _ => trivial⟩
  · exact q_one (s_if e1 (q_one (s_if e2 (q_one (s_if e3 (q_one (s_if e4 (q_setE (x_f3 rfl rfl rfl h))) ⟨_, rfl, fun _ _ _ => trivial⟩)) ⟨_, rfl, fun _ _ _ => trivial⟩)) ⟨_, rfl, fun _ _ _ => trivial⟩)) ⟨_, rfl, fun _ _ _ => trivial⟩
theorem v_ask (x : Str) (hx : five5 x) (a b c k d : D) (S : Store) (hd : closed d = true) (h : asked x a b c k S = some (.ok d S)) : O__law_ask [.str x, a, b, c, k] S = some (.ok (.tup [.str "told", d]) S) := by
  refine fn_rtS ?_ (by simp only [closed, closeds, hd, Bool.and_self])
  have st : startD ["_law_which", "_law_net_here", "_law_begin", "_law_item", "_law_upto", "e", "_law_told"] [.str x, a, b, c, k] = [some (.str x), some a, some b, some c, some k, none, none] := rfl
  simp only [D__law_ask]
  rw [st]
  exact q_nx (e_tryN (ask_body_ok x hx a b c k d S h)) (q_ret (x_tup (y_cons rfl (y_cons rfl y_nil)) rfl))
theorem n_ask (x : Str) (hx : five5 x) (a b c k : D) (S : Store) (y : Str) (h : asked x a b c k S = some (.exc "NotUsable" ["at", "word"] [.int (-1), .str y] S)) : O__law_ask [.str x, a, b, c, k] S = some (.ok (.tup [.str "refused", .str y, .int (-1)]) S) := by
  refine fn_rtS ?_ rfl
  have st : startD ["_law_which", "_law_net_here", "_law_begin", "_law_item", "_law_upto", "e", "_law_told"] [.str x, a, b, c, k] = [some (.str x), some a, some b, some c, some k, none, none] := rfl
  simp only [D__law_ask]
  rw [st]
  refine q_rt (e_try (r := .rt (.tup [.str "refused", .str y, .int (-1)]) S) (ask_body_exc x hx a b c k S _ _ _ h) (by decide) fun a0 d0 => ?_)
  simp only [D__law_ask_suite]
  have lw : List.lookup ("word" : Str) [(("at" : Str), D.int (-1)), (("word" : Str), D.str y)] = some (D.str y) := by
    rw [List.lookup_cons, show (("word" : Str) == ("at" : Str)) = false by decide]
    rfl
  have la : List.lookup ("at" : Str) [(("at" : Str), D.int (-1)), (("word" : Str), D.str y)] = some (D.int (-1)) := rfl
  have f3 : fits 3 = true := by decide
  simp [lw, la, truth, clr, f3]
end My
set_option Elab.async false
set_option linter.all false
set_option maxRecDepth 100000
set_option maxHeartbeats 4000000
set_option exponentiation.threshold 20000
namespace My
open PySem PySem.Spec PyProof.Rows L2 PD
/-! ### the law's common divisor, by a loop -/
theorem wh_step {t : Den} {g : SDen} {n : Nat} {ρ ρ1 : EnvD} {S : Store} {R : Option SRes} (h : t ρ S = some (.ok (.bl true) S)) (hg : g ρ S = some (.nx ρ1 S)) (k : sWhileN t g n ρ1 S = R) : sWhileN t g (n + 1) ρ S = R := by
  simp only [sWhileN, h, if_true, hg]
  exact k
theorem wh_stop {t : Den} {g : SDen} {n : Nat} {ρ : EnvD} {S : Store} (h : t ρ S = some (.ok (.bl false) S)) : sWhileN t g (n + 1) ρ S = some (.nx ρ S) := by
  simp only [sWhileN, h, Bool.false_eq_true, if_false]
noncomputable abbrev gcdC : Den := dBin oNe (dVar 1) (dC (.int 0))
noncomputable abbrev gcdB : SDen := sSeq (sSet 2 (dBin oMod (dCall oInt1 (dCons (dVar 0) (dNil))) (dVar 1))) (sSeq (sSet 0 (dVar 1)) (sSeq (sSet 1 (dVar 2)) (sNil)))
theorem gcd_c (a b : Int) (r : Option D) (S : Store) : gcdC [some (.int a), some (.int b), r] S = some (.ok (.bl (!(b == 0))) S) := x_bin rfl rfl (o_neI _ _ S)
theorem gcd_b (a b : Int) (hb : 0 < b) (r : Option D) (S : Store) : gcdB [some (.int a), some (.int b), r] S = some (.nx [some (.int b), some (.int (a % b)), some (.int (a % b))] S) :=
  q_set (x_bin (x_c1 rfl rfl) rfl (o_mod hb S)) (q_set rfl (q_set rfl rfl))
theorem gcd_loop (S : Store) : ∀ (k : Nat) (a b : Int) (r : Option D), 0 ≤ b → b < 2 ^ k → ∃ r', sWhileN gcdC gcdB (2 * k + 1) [some (.int a), some (.int b), r] S = some (.nx [some (.int (if b = 0 then a else (Int.gcd a b : Int))), some (.int 0), r'] S)
  | 0, a, b, r, h0, h1 => by
    have : b = 0 := by have : (2 : Int) ^ 0 = 1 := rfl; omega
    subst this
    exact ⟨r, wh_stop (gcd_c a 0 r S)⟩
  | k + 1, a, b, r, h0, h1 => by
    by_cases hb : b = 0
    · subst hb
      exact ⟨r, wh_stop (gcd_c a 0 r S)⟩
    · have hp : 0 < b := by omega
      have c1 := gcd_c a b r S
      rw [show (!(b == 0)) = true by simp [hb]] at c1
      have h3 := Int.emod_nonneg a hb
      have h4 := Int.emod_lt_of_pos a hp
      have e : 2 * (k + 1) + 1 = (2 * k + 1) + 1 + 1 := by omega
      rw [e]
      by_cases hc : a % b = 0
      · refine ⟨some (.int (a % b)), wh_step c1 (gcd_b a b hp r S) ?_⟩
        have c2 := gcd_c b (a % b) (some (.int (a % b))) S
        rw [hc] at c2 ⊢
        rw [if_neg hb]
        have : b ∣ a := Int.dvd_of_emod_eq_zero hc
        have g := (Int.gcd_eq_right_iff_dvd (by omega)).mpr this
        rw [g]
        exact wh_stop c2
      · have h5 : 0 < a % b := by omega
        have h6 := PD.half hp h5 h4
        have h7 : (2 : Int) ^ (k + 1) = 2 * 2 ^ k := by rw [Int.pow_succ]; omega
        have h8 := Int.emod_nonneg b hc
        obtain ⟨r', ih⟩ := gcd_loop S k (a % b) (b % (a % b)) (some (.int (b % (a % b)))) h8 (by omega)
        have c2 := gcd_c b (a % b) (some (.int (a % b))) S
        rw [show (!(a % b == 0)) = true by simp [hc]] at c2
        refine ⟨r', wh_step c1 (gcd_b a b hp r S) (wh_step c2 (gcd_b b (a % b) h5 _ S) ?_)⟩
        rw [ih, if_neg hb]
        have e1 := PD.gcd_step a b
        have e2 := PD.gcd_step b (a % b)
        have : (if b % (a % b) = 0 then a % b else ((Int.gcd (a % b) (b % (a % b)) : Nat) : Int)) = ((Int.gcd a b : Nat) : Int) := by
          split
          · rename_i hz
            have : a % b ∣ b := Int.dvd_of_emod_eq_zero hz
            rw [← e1, (Int.gcd_eq_right_iff_dvd (by omega)).mpr this]
          · rw [e2, e1]
        rw [this]
theorem v_gcd (S : Store) (a b : Int) (ha : 0 ≤ a) (h0 : 0 ≤ b) (h1 : b < 2 ^ 2000) : O__law_gcd [.int a, .int b] S = some (.ok (.int (Int.gcd a b : Int)) S) := by
  refine fn_rtS ?_ rfl
  obtain ⟨r', l⟩ := gcd_loop S 2000 a b none h0 h1
  have w : sWhile 1000000 gcdC gcdB [some (.int a), some (.int b), none] S = _ := sWhileN_mono gcdC gcdB _ 1000000 _ S _ (by decide) l
  have e : (if b = 0 then a else ((Int.gcd a b : Nat) : Int)) = ((Int.gcd a b : Nat) : Int) := by
    split
    · rename_i hz
      subst hz
      rw [Int.gcd_zero_right]
      omega
    · rfl
  rw [e] at w
  have st : startD ["_law_one", "_law_other", "_law_spare"] [.int a, .int b] = [some (.int a), some (.int b), none] := rfl
  simp only [D__law_gcd]
  rw [st]
  refine q_nx w (q_ret (x_c1 rfl ?_))
  show some (Res.ok (D.int (if ((Int.gcd a b : Nat) : Int) < 0 then _ else _)) S) = _
  rw [if_neg (by omega)]
/-! ### in lowest terms, by the law -/
theorem fold_cd (ts : List Int) (b : Int) (hb : 1 ≤ b) : ts.foldl (fun g x => (Int.gcd g x : Int)) b = cd (ts ++ [b]) := by
  obtain ⟨d1, d2⟩ := cdF_dvd ts b
  refine (cd_eq (cdF_nonneg ts b (by omega)) (fun x hx => ?_) fun e he => cdF_of ts b e (he b (List.mem_append_right _ (List.mem_singleton.mpr rfl))) fun x hx => he x (List.mem_append_left _ hx)).symm
  rcases List.mem_append.mp hx with h | h
  · exact d2 x h
  · rw [List.mem_singleton.mp h]; exact d1
theorem low_loop (S : Store) (a0 a1 : Option D) (all : List D) : ∀ (xs : List Int) (g : Int) (r : Option D), 0 ≤ g → (∀ x ∈ xs, 0 ≤ x ∧ x < 2 ^ 2000) → ∃ r', forLoop none all (tName 3) (sSeq (sSet 2 (dFn 2 O__law_gcd (dCons (dVar 2) (dCons (dVar 3) (dNil))))) (sNil)) (xs.map .int) [a0, a1, some (.int g), r] S = some (.nx [a0, a1, some (.int (xs.foldl (fun g x => (Int.gcd g x : Int)) g)), r'] S)
  | [], g, r, _, _ => ⟨r, rfl⟩
  | x :: xs, g, r, hg, hx => by
    obtain ⟨x0, x1⟩ := hx x List.mem_cons_self
    obtain ⟨r', ih⟩ := low_loop S a0 a1 all xs (Int.gcd g x) (some (.int x)) (by omega) fun y hy => hx y (List.mem_cons_of_mem _ hy)
    exact ⟨r', loop_cons_nx rfl (q_set (x_f2 rfl rfl (v_gcd S g x hg x0 x1)) rfl) ih⟩
theorem map_div (ts : List Int) (g : Int) : ((ts.map D.int).map fun x => D.int (ival x / g)) = (ts.map (· / g)).map .int := by
  rw [List.map_map, List.map_map]; rfl
theorem v_low (S : Store) (ts : List Int) (b : Int) (hb : 1 ≤ b) (hb2 : b < 2 ^ 2000) (ht : ∀ t ∈ ts, 0 ≤ t ∧ t < 2 ^ 2000) (hn : ts.length ≤ 1000) : O__law_low [.lst (ts.map .int), .int b] S = some (.ok (lf ts b) S) := by
  refine fn_rtS ?_ (closed_ld _ _)
  have st : startD ["_law_tops_here", "_law_bottom", "_law_big", "_law_top"] [.lst (ts.map .int), .int b] = [some (.lst (ts.map .int)), some (.int b), none, none] := rfl
  obtain ⟨r', l⟩ := low_loop S (some (.lst (ts.map .int))) (some (.int b)) (ts.map .int) ts b none (by omega) ht
  rw [fold_cd ts b hb] at l
  obtain ⟨g0, g1⟩ := cd_bot (ts := ts) hb
  have e : lf ts b = ld (ts.map (· / cd (ts ++ [b]))) (b / cd (ts ++ [b])) := rfl
  rw [e]
  generalize cd (ts ++ [b]) = g at *
  have lg : g.natAbs.log2 < 9000 := by
    have : small g := small_lt (by omega) (by omega : g < 2 ^ 2000) (by decide)
    have := log_small this
    omega
  have lc := lc_map (own := [3]) (t := .one 3) (elt := dBin oDiv (dVar 3) (dVar 2)) (f := dItems (dVar 0)) (ρ := [some (.lst (ts.map .int)), some (.int b), some (.int g), r']) (S := S) (items := ts.map .int) (fun x => .int (ival x / g)) (fun x => [some (.lst (ts.map .int)), some (.int b), some (.int g), some x]) rfl (fun _ _ => rfl)
    (fun x hx T => by
      obtain ⟨i, _, rfl⟩ := List.mem_map.mp hx
      exact x_bin rfl rfl (o_divI g0 lg T)) (by rw [List.length_map]; omega) (by rw [map_div]; exact closeds_map_int _)
  rw [map_div] at lc
  simp only [D__law_low]
  rw [st]
  exact q_set rfl (q_for (w := none) (items := ts.map .int) (S1 := S) rfl l (q_ret (x_tup (y_cons (x_c1 lc rfl) (y_cons (x_bin rfl rfl (o_divI g0 lg S)) y_nil)) rfl)))
/-! ### the law's comparing of one thing with itself -/
def okS : Nat → D → Bool
  | 0, _ => false
  | n + 1, d => match d with
    | .tup xs => decide (xs.length ≤ 1000) && xs.all (okS n)
    | .non => true
    | .bl _ => true
    | .int _ => true
    | .str s => PyData.strOk s
    | _ => false
theorem okS_mono : ∀ (n : Nat) (d : D), okS n d = true → okS (n + 1) d = true
  | 0, _, h => by simp [okS] at h
  | n + 1, d, h => by
    cases d with
    | tup xs =>
      simp only [okS, Bool.and_eq_true, List.all_eq_true] at h ⊢
      exact ⟨h.1, fun x hx => okS_mono n x (h.2 x hx)⟩
    | _ => simpa [okS] using h
theorem okS_le {n k : Nat} (hk : n ≤ k) {d : D} (h : okS n d = true) : okS k d = true := by
  induction hk with
  | refl => exact h
  | step _ ih => exact okS_mono _ _ ih
noncomputable abbrev sameB (R : Op) : SDen := sSeq (sIf (dNot (dTru (dFn 2 R (dCons (dBin oIx (dVar 0) (dVar 2)) (dCons (dBin oIx (dVar 1) (dVar 2)) (dNil)))))) (sSeq (sRet (dC (.bl false))) (sNil)) (sNil)) (sNil)
theorem same_loop (R : Op) (S : Store) (xs : List D) (hR : ∀ x ∈ xs, R [x, x] S = some (.ok (.bl true) S)) (all : List D) : ∀ (ks : List Nat) (r : Option D), (∀ k ∈ ks, k < xs.length) → ∃ r', forLoop none all (tName 2) (sameB R) (ks.map fun k => D.int (k : Nat)) [some (.tup xs), some (.tup xs), r] S = some (.nx [some (.tup xs), some (.tup xs), r'] S)
  | [], r, _ => ⟨r, rfl⟩
  | k :: ks, r, hk => by
    obtain ⟨r', ih⟩ := same_loop R S xs hR all ks (some (.int (k : Nat))) fun y hy => hk y (List.mem_cons_of_mem _ hy)
    have hl := hk k List.mem_cons_self
    have e : xs[k]? = some xs[k] := List.getElem?_eq_getElem hl
    exact ⟨r', loop_cons_nx rfl (q_ifF (x_notT (x_f2 (x_bin rfl rfl (ixTup e S)) (x_bin rfl rfl (ixTup e S)) (hR _ (List.getElem_mem hl)))) rfl) ih⟩
theorem rgD_map (n : Nat) : rgD 0 n = (List.range n).map fun k => D.int (k : Nat) := by
  unfold rgD
  exact List.map_congr_left fun i _ => by simp
theorem v_same : ∀ (n : Nat) (d : D) (S : Store), okS n d = true → OR__law_same n [d, d] S = some (.ok (.bl true) S)
  | 0, _, _, h => by simp [okS] at h
  | n + 1, d, S, h => by
    refine fn_rtS ?_ rfl
    have st : startD ["_law_told", "_law_due", "_law_k"] [d, d] = [some d, some d, none] := rfl
    simp only [D__law_same]
    rw [st]
    cases d with
    | tup xs =>
      simp only [okS, Bool.and_eq_true, decide_eq_true_eq, List.all_eq_true] at h
      obtain ⟨r', l⟩ := same_loop (OR__law_same n) S xs (fun x hx => v_same n x S (h.2 x hx)) (rgD 0 xs.length) (List.range xs.length) none fun k hk => List.mem_range.mp hk
      rw [← rgD_map] at l
      have ln : dCall oLen (dCons (dVar 1) (dNil)) [some (.tup xs), some (.tup xs), none] S = some (.ok (.int (xs.length : Nat)) S) := x_c1 rfl (e_lenT xs S)
      have c : dOr (dNot (dTru (dIsi "tuple" (dVar 0)))) (dBin oNe (dCall oLen (dCons (dVar 0) (dNil))) (dCall oLen (dCons (dVar 1) (dNil)))) [some (.tup xs), some (.tup xs), none] S = some (.ok (.bl false) S) := by
        refine x_orF rfl ((x_bin (x_c1 rfl (e_lenT xs S)) ln (o_neI _ _ S)).trans ?_)
        rw [beq_self_eq_true]; rfl
      exact q_rt (s_if (b := true) rfl (q_ifF c (q_for (w := none) (range1_of ln (by omega)) l (q_ret rfl))))
    | non => rfl
    | bl b =>
      have : oEq (.bl b) (.bl b) S = some (.ok (.bl true) S) := oEq_of (by rw [eqD_bl, beq_self_eq_true])
      exact q_ifF rfl (q_ifF rfl (q_ifR rfl (q_ret (x_andT rfl (x_bin rfl rfl this)))))
    | int i =>
      have : oEq (.int i) (.int i) S = some (.ok (.bl true) S) := by rw [o_eqI, beq_self_eq_true]
      exact q_ifF rfl (q_ifF rfl (q_ifF rfl (q_ifF rfl (q_ret (x_andT rfl (x_andT rfl (x_bin rfl rfl this)))))))
    | str s =>
      have hs : PyData.strOk s = true := by simpa [okS] using h
      have : oEq (.str s) (.str s) S = some (.ok (.bl true) S) := by rw [o_eqS hs hs, beq_self_eq_true]
      exact q_ifF rfl (q_ifF rfl (q_ifF rfl (q_ifR rfl (q_ret (x_andT rfl (x_bin rfl rfl this))))))
    | lst _ => simp [okS] at h
    | ref _ => simp [okS] at h
    | scr _ => simp [okS] at h
    | err _ _ _ => simp [okS] at h
    | rng _ _ => simp [okS] at h
    | cau _ _ _ _ _ => simp [okS] at h
theorem v_same12 (d : D) (S : Store) {n : Nat} (hn : n ≤ 12) (h : okS n d = true) : O__law_same [d, d] S = some (.ok (.bl true) S) := v_same 12 d S (okS_le hn h)
theorem okS_ld (n : Nat) (ts : List Int) (b : Int) (h : ts.length ≤ 1000) : okS (n + 3) (ld ts b) = true := by
  have : (ts.map D.int).all (okS (n + 1)) = true := List.all_eq_true.mpr fun x hx => by
    obtain ⟨i, _, rfl⟩ := List.mem_map.mp hx
    rfl
  simp [okS, h]
theorem rp_len (n : Nat) (q : Nat → Rat) : ∃ ts b, rp n q = ld ts b ∧ ts.length = n := ⟨_, _, rfl, by simp [lowT, rpT]⟩
theorem okS_rp (k n : Nat) (hn : n ≤ 1000) (q : Nat → Rat) : okS (k + 3) (rp n q) = true := by
  obtain ⟨ts, b, e, l⟩ := rp_len n q
  rw [e]
  exact okS_ld k ts b (by omega)
theorem okS_cl (k n : Nat) (hn : n ≤ 1000) (c : Nat → Nat → Rat) (T : Nat) (hT : T ≤ 1000) : okS (k + 4) (.tup (cl n c T)) = true := by
  simp only [okS, cl_len, decide_eq_true hT, Bool.true_and]
  refine List.all_eq_true.mpr fun x hx => ?_
  obtain ⟨t, _, rfl⟩ := List.mem_map.mp hx
  exact okS_rp k n hn _
/-! ### within, by the law -/
noncomputable abbrev witB : SDen := sSeq (sIf (dBin oGt (dBin oMul (dVar 2) (dBin oIx (dVar 1) (dC (.int 1)))) (dBin oMul (dVar 3) (dBin oIx (dVar 0) (dC (.int 1))))) (sSeq (sRet (dC (.bl false))) (sNil)) (sNil)) (sNil)
theorem within_loop (S : Store) (ts us : List Int) (b c : Int) (hb : small b) (hc : small c) (all : List D) : ∀ (xs ys : List Int) (r2 r3 : Option D), (∀ x ∈ xs, small x) → (∀ y ∈ ys, small y) → (∃ r2' r3', forLoop none all (PD.tTup 2 (PD.tCons (tName 2) (PD.tCons (tName 3) (PD.tNil)))) witB (zipD (xs.map .int) (ys.map .int)) [some (ld ts b), some (ld us c), r2, r3] S = some (.nx [some (ld ts b), some (ld us c), r2', r3'] S) ∧ ∀ i < min xs.length ys.length, gt xs i * c ≤ gt ys i * b) ∨
    (forLoop none all (PD.tTup 2 (PD.tCons (tName 2) (PD.tCons (tName 3) (PD.tNil)))) witB (zipD (xs.map .int) (ys.map .int)) [some (ld ts b), some (ld us c), r2, r3] S = some (.rt (.bl false) S) ∧ ∃ i < min xs.length ys.length, gt ys i * b < gt xs i * c)
  | [], ys, r2, r3, _, _ => .inl ⟨r2, r3, rfl, fun i hi => by simp at hi⟩
  | _ :: _, [], r2, r3, _, _ => .inl ⟨r2, r3, rfl, fun i hi => by simp at hi⟩
  | x :: xs, y :: ys, r2, r3, hx, hy => by
    have sx := hx x List.mem_cons_self
    have sy := hy y List.mem_cons_self
    have cond : dBin oGt (dBin oMul (dVar 2) (dBin oIx (dVar 1) (dC (.int 1)))) (dBin oMul (dVar 3) (dBin oIx (dVar 0) (dC (.int 1)))) [some (ld ts b), some (ld us c), some (.int x), some (.int y)] S = some (.ok (.bl (decide (x * c > y * b))) S) :=
      x_bin (x_bin rfl (x_bin rfl rfl (e_ix1 _ _ _ S)) (e_mulI sx hc S)) (x_bin rfl (x_bin rfl rfl (e_ix1 _ _ _ S)) (e_mulI sy hb S)) rfl
    by_cases h : x * c > y * b
    · rw [decide_eq_true h] at cond
      exact .inr ⟨loop_cons_rt rfl (q_ifR cond (q_ret rfl)), 0, by simp, h⟩
    · rw [decide_eq_false h] at cond
      rcases within_loop S ts us b c hb hc all xs ys (some (.int x)) (some (.int y)) (fun z hz => hx z (List.mem_cons_of_mem _ hz)) (fun z hz => hy z (List.mem_cons_of_mem _ hz)) with ⟨r2', r3', e, k⟩ | ⟨e, i, hi, k⟩
      · refine .inl ⟨r2', r3', loop_cons_nx rfl (q_ifF cond rfl) e, fun i hi => ?_⟩
        cases i with
        | zero => show x * c ≤ y * b; omega
        | succ i => exact k i (by simp at hi ⊢; omega)
      · exact .inr ⟨loop_cons_nx rfl (q_ifF cond rfl) e, i + 1, by simp at hi ⊢; omega, k⟩
theorem r_within {n A B : Nat} {p q : Nat → Rat} (hp : FB A n p) (hq : FB B n q) (hA : A ≤ 2000) (hB : B ≤ 2000) (n1 : 1 ≤ n) (nk : n ≤ 60) (S : Store) : O__law_within [rp n p, rp n q] S = some (.ok (.bl (leB n p q)) S) := by
  obtain ⟨ts, b, e1, l1, v1⟩ := hp.lo hA n1 nk
  obtain ⟨us, c, e2, l2, v2⟩ := hq.lo hB n1 nk
  rw [e1, e2]
  refine fn_rtS ?_ rfl
  have st : startD ["_law_load", "_law_other", "_law_one", "_law_two"] [ld ts b, ld us c] = [some (ld ts b), some (ld us c), none, none] := rfl
  simp only [D__law_within]
  rw [st]
  have z : dZip (dBin oIx (dVar 0) (dC (.int 0))) (dBin oIx (dVar 1) (dC (.int 0))) [some (ld ts b), some (ld us c), none, none] S = some (.ok (zipD (ts.map .int) (us.map .int)) none S) := by
    have a : dBin oIx (dVar 0) (dC (.int 0)) [some (ld ts b), some (ld us c), none, none] S = some (.ok (.tup (ts.map .int)) S) := x_bin rfl rfl (e_ix0 _ _ S)
    have b' : dBin oIx (dVar 1) (dC (.int 0)) [some (ld ts b), some (ld us c), none, none] S = some (.ok (.tup (us.map .int)) S) := x_bin rfl rfl (e_ix0 _ _ S)
    unfold dZip
    rw [a, bndi_ok, b', bndi_ok]
  have mi : min ts.length us.length = n := by rw [l1.len, l2.len, Nat.min_self]
  rcases within_loop S ts us b c l1.bs l2.bs (zipD (ts.map .int) (us.map .int)) ts us none none l1.ss l2.ss with ⟨r2, r3, e, k⟩ | ⟨e, i, hi, k⟩
  · have : leB n p q = true := leB_iff.mpr fun i hi => by
      rw [v1 i hi, v2 i hi]
      exact (rat_le l1.b1 l2.b1).mpr (k i (by omega))
    rw [this]
    exact q_for (w := none) z e (q_ret rfl)
  · have : leB n p q = false := by
      rw [Bool.eq_false_iff]
      intro h
      have := leB_iff.mp h i (by omega)
      rw [v1 i (by omega), v2 i (by omega)] at this
      have := (rat_le l1.b1 l2.b1).mp this
      omega
    rw [this]
    exact q_forR z e
/-! ### parts of a walk -/
def entD (x : St) : D := .tup [.lst (x.s.map .int), .lst (x.g.map .int), .lst (x.k.map .int), .int x.c]
def fld : Nat → St → List Int
  | 0, x => x.s
  | 1, x => x.g
  | _, x => x.k
def el (e : Nat → St) (T : Nat) : List D := (List.range T).map fun k => entD (e k)
theorem el_closed (e : Nat → St) (T : Nat) : closeds (el e T) = true := by
  rw [closeds_all]
  refine List.all_eq_true.mpr fun x hx => ?_
  obtain ⟨k, _, rfl⟩ := List.mem_map.mp hx
  simp [entD, closed, closeds]
theorem v_part {n : Nat} (S : Store) (e : Nat → St) (T : Nat) (j : Nat) (hj : j ≤ 2) (base : Int) (b1 : 1 ≤ base) (b2 : base < 2 ^ 10) (hn : n ≤ 60) (hT : T ≤ 1000) (B C : Nat) (hB : B ≤ 1000) (hC : C ≤ 1000) (lim : List Int) (stay : Bool) (he : ∀ k < T, Raw n B C lim stay (e k)) :
    O__law_part [.lst (el e T), .int (j : Nat), .int base] S = some (.ok (.tup (cl n (fun k => vw (base * (e k).c) (fld j (e k))) T)) S) := by
  have low : ∀ k < T, ∀ U, O__law_low [.lst ((fld j (e k)).map .int), .int (base * (e k).c)] U = some (.ok (rp n (vw (base * (e k).c) (fld j (e k)))) U) := fun k hk U => by
    have h := he k hk
    have hl : (fld j (e k)).length = n := by
      match j with
      | 0 => exact h.ls
      | 1 => exact h.lg
      | j + 2 => exact h.lk
    have hv : ∀ t ∈ fld j (e k), 0 ≤ t ∧ t < 2 ^ 2000 := fun t ht => by
      obtain ⟨i, hi, rfl⟩ := List.getElem_of_mem ht
      rw [← gt_get hi]
      have : 0 ≤ gt (fld j (e k)) i ∧ gt (fld j (e k)) i < 2 ^ B := by
        match j, hl with
        | 0, _ => exact h.s i (by omega)
        | 1, _ => exact h.g i (by omega)
        | j + 2, _ => exact h.k i (by omega)
      have := pow_le (A := B) (B := 2000) (by omega)
      omega
    have bc := mul_pos1 b1 h.c1
    have bl := mul_lt_pow (by omega : 0 ≤ base) b2 (by have := h.c1; omega : 0 ≤ (e k).c) h.c2
    have := pow_le (A := 10 + C) (B := 2000) (by omega)
    rw [v_low U (fld j (e k)) (base * (e k).c) bc (by omega) hv (by omega), lf_rp (q := vw (base * (e k).c) (fld j (e k))) bc hl fun i _ => rfl]
  refine fn_rtS ?_ (by simp only [closed]; exact cl_closed _ _ _)
  have st : startD ["_law_walk_here", "_law_which", "_law_base", "_law_entry"] [.lst (el e T), .int (j : Nat), .int base] = [some (.lst (el e T)), some (.int (j : Nat)), some (.int base), none] := rfl
  simp only [D__law_part]
  rw [st]
  have l := lc_idx (own := [3]) (t := .one 3) (elt := dFn 2 O__law_low (dCons (dBin oIx (dVar 3) (dVar 1)) (dCons (dBin oMul (dVar 2) (dBin oIx (dVar 3) (dC (.int 3)))) (dNil)))) (f := dItems (dVar 0)) (ρ := [some (.lst (el e T)), some (.int (j : Nat)), some (.int base), none]) (S := S) (List.range T) (fun k => entD (e k)) (fun k => rp n (vw (base * (e k).c) (fld j (e k)))) (fun k => [some (.lst (el e T)), some (.int (j : Nat)), some (.int base), some (entD (e k))])
    rfl (fun _ _ => rfl) (fun k hk U => by
      have hk := List.mem_range.mp hk
      have i1 : dBin oIx (dVar 3) (dVar 1) [some (.lst (el e T)), some (.int (j : Nat)), some (.int base), some (entD (e k))] U = some (.ok (.lst ((fld j (e k)).map .int)) U) := x_bin rfl rfl (ixTup (by
        match j, hj with
        | 0, _ => rfl
        | 1, _ => rfl
        | 2, _ => rfl) U)
      have i3 : dBin oIx (dVar 3) (dC (.int 3)) [some (.lst (el e T)), some (.int (j : Nat)), some (.int base), some (entD (e k))] U = some (.ok (.int (e k).c) U) := x_bin rfl rfl (ixTup (i := 3) rfl U)
      exact x_f2 i1 (x_bin rfl i3 (e_mulI (small_lt (by omega) b2 (by decide)) (small_lt (by have := (he k hk).c1; omega) (he k hk).c2 (by omega)) U)) (low k hk U)) (by rw [List.length_range]; omega) (cl_closed n (fun k => vw (base * (e k).c) (fld j (e k))) T)
  exact q_ret (x_c1 l rfl)
end My
set_option Elab.async false
set_option linter.all false
set_option maxRecDepth 100000
set_option maxHeartbeats 4000000
set_option exponentiation.threshold 20000
namespace My
open PySem PySem.Spec PyProof.Rows L2 PD
section
variable {ρ : EnvD} {S : Store} {fi : Iens} {elt : Den}
theorem lcI_range1 (j n : Nat) (f : Nat → Int) (hf : fi ρ S = some (.ok (rgD 0 n) none S)) (he : ∀ i < n, ∀ T, elt ((wipeD ρ [j]).set j (some (.int (i : Nat)))) T = some (.ok (.int (f i)) T)) (hn : n ≤ 16777216) : dLc [j] fi (.one j) dYes elt ρ S = some (.ok (.lst (((List.range n).map f).map .int)) S) := by
  have l := lc_range (own := [j]) (t := .one j) (elt := elt) n (fun i => .int (f i)) (fun i => (wipeD ρ [j]).set j (some (.int (i : Nat)))) hf (fun _ _ => rfl) he hn (closeds_ints _ _)
  rw [l, List.map_map]
  rfl
theorem lcI_map1 (j : Nat) (xs : List Int) (f : Int → Int) (hf : fi ρ S = some (.ok (xs.map .int) none S)) (he : ∀ x ∈ xs, ∀ T, elt ((wipeD ρ [j]).set j (some (.int x))) T = some (.ok (.int (f x)) T)) (hn : xs.length ≤ 16777216) : dLc [j] fi (.one j) dYes elt ρ S = some (.ok (.lst ((xs.map f).map .int)) S) := by
  have l := lc_map (own := [j]) (t := .one j) (elt := elt) (items := xs.map .int) (fun d => .int (f (ival d))) (fun d => (wipeD ρ [j]).set j (some d)) hf (fun _ _ => rfl) (fun d hd T => by
    obtain ⟨x, hx, rfl⟩ := List.mem_map.mp hd
    exact he x hx T) (by rw [List.length_map]; exact hn) (by simp [closeds_all, closed])
  rw [l, List.map_map, List.map_map]
  rfl
end
theorem s_ifT {t : Den} {sa sb : SDen} {ρ : EnvD} {S : Store} {R : Option SRes} (h : t ρ S = some (.ok (.bl true) S)) (h2 : sa ρ S = R) : sIf t sa sb ρ S = R := by
  rw [e_if, h]
  exact h2
theorem s_ifF {t : Den} {sa sb : SDen} {ρ : EnvD} {S : Store} {R : Option SRes} (h : t ρ S = some (.ok (.bl false) S)) (h2 : sb ρ S = R) : sIf t sa sb ρ S = R := by
  rw [e_if, h]
  exact h2
theorem o_sumLI (f : Nat → Int) (n : Nat) (S : Store) : oSum [.lst (((List.range n).map f).map .int)] S = some (.ok (.int (sI n f)) S) := by
  rw [List.map_map]
  exact o_sumL f n S
abbrev shD (sh : List (List Int)) : D := .lst (sh.map fun r => .lst (r.map .int))
theorem ixSh {sh : List (List Int)} {k : Nat} (hk : k < sh.length) (S : Store) : oIx (shD sh) (.int (k : Nat)) S = some (.ok (.lst ((sh.getD k []).map .int)) S) := by
  refine ixLst ?_ S
  rw [List.getElem?_map, List.getElem?_eq_getElem hk, List.getD, List.getElem?_eq_getElem hk]
  rfl
theorem strStay : PyData.strOk "stay" = true := by decide +kernel
theorem strGo : PyData.strOk "go" = true := by decide +kernel
def man (stay : Bool) : Str := if stay then "stay" else "go"
theorem strMan (stay : Bool) : PyData.strOk (man stay) = true := by cases stay; exact strGo; exact strStay
noncomputable abbrev bodyW : SDen := sSeq (sSet 8 (dLc [9] (dItems (dVar 8)) (.one 9) (dYes) (dBin oMul (dVar 7) (dVar 9)))) (sSeq (sSet 10 (dLc [9] (dItems (dVar 10)) (.one 9) (dYes) (dBin oMul (dVar 7) (dVar 9)))) (sSeq (sSet 11 (dLc [9] (dItems (dVar 11)) (.one 9) (dYes) (dBin oMul (dVar 7) (dVar 9)))) (sSeq (sSet 12 (dBin oMul (dVar 12) (dVar 7))) (sSeq (sSet 15 (dBin oMul (dLst (dCons (dC (.int 0)) (dNil))) (dVar 6))) (sSeq (sIf (dBin oGt (dCall oLen (dCons (dVar 4) (dNil))) (dC (.int 0))) (sSeq (sSet 15 (dLc [17] (dRange1 (dVar 6)) (.one 17) (dYes) (dBin oDiv (dBin oMul (dBin oIx (dVar 8) (dVar 17)) (dBin oIx (dBin oIx (dVar 4) (dVar 14)) (dVar 17))) (dC (.int 4))))) (sNil)) (sSeq (sIf (dBin oEq (dVar 3) (dC (.str "go"))) (sSeq (sSet 15 (dLc [9] (dItems (dVar 8)) (.one 9) (dYes) (dVar 9))) (sNil)) (sNil)) (sNil))) (sSeq (sIf (dBin oEq (dVar 3) (dC (.str "stay"))) (sSeq (sSet 16 (dLc [17] (dRange1 (dVar 6)) (.one 17) (dYes) (dCall oMax2 (dCons (dBin oIx (dVar 15) (dVar 17)) (dCons (dBin oSub (dBin oPlus (dBin oIx (dVar 8) (dVar 17)) (dBin oIx (dVar 11) (dVar 17))) (dBin oMul (dBin oIx (dVar 2) (dVar 17)) (dVar 12))) (dNil)))))) (sNil)) (sSeq (sSet 16 (dLc [17] (dRange1 (dVar 6)) (.one 17) (dYes) (dCall oMin2 (dCons (dBin oIx (dVar 15) (dVar 17)) (dCons (dBin oSub (dBin oMul (dBin oIx (dVar 2) (dVar 17)) (dVar 12)) (dBin oIx (dVar 10) (dVar 17))) (dNil)))))) (sNil))) (sSeq (sExpr (dApp (dVar 13) (dTup (dCons (dVar 8) (dCons (dVar 10) (dCons (dVar 11) (dCons (dVar 12) (dNil)))))))) (sSeq (sSet 11 (dLc [17] (dRange1 (dVar 6)) (.one 17) (dYes) (dBin oMul (dBin oSub (dBin oPlus (dBin oIx (dVar 11) (dVar 17)) (dBin oIx (dVar 8) (dVar 17))) (dBin oIx (dVar 16) (dVar 17))) (dBin oIx (dVar 0) (dC (.int 1)))))) (sSeq (sSet 10 (dLc [17] (dRange1 (dVar 6)) (.one 17) (dYes) (dBin oMul (dBin oPlus (dBin oIx (dVar 10) (dVar 17)) (dBin oIx (dVar 16) (dVar 17))) (dBin oIx (dVar 0) (dC (.int 1)))))) (sSeq (sSet 8 (dLc [18] (dRange1 (dVar 6)) (.one 18) (dYes) (dCall oSum (dCons (dLc [17] (dRange1 (dVar 6)) (.one 17) (dYes) (dBin oMul (dBin oIx (dVar 16) (dVar 17)) (dBin oIx (dBin oIx (dBin oIx (dVar 0) (dC (.int 0))) (dVar 17)) (dVar 18)))) (dNil))))) (sSeq (sSet 12 (dBin oMul (dVar 12) (dBin oIx (dVar 0) (dC (.int 1))))) (sNil))))))))))))
section
variable {n : Nat} {R : List (List Int)} {m : Int} {be lim : List Int} {stay : Bool} {sh : List (List Int)} {T : Nat}
/-- the slots at a turn -/
abbrev envW (R : List (List Int)) (m : Int) (be lim : List Int) (stay : Bool) (sh : List (List Int)) (T n : Nat) (S : Store) (x : St) (r14 r15 r16 : Option D) : EnvD :=
  [some (wb R m), some (.lst (be.map .int)), some (.lst (lim.map .int)), some (.str (man stay)), some (shD sh), some (.int (T : Nat)), some (.int (n : Nat)), some (.int (fourOf sh)), some (.lst (x.s.map .int)), none, some (.lst (x.g.map .int)), some (.lst (x.k.map .int)), some (.int x.c), some (.ref S.length), r14, r15, r16, none, none]
structure SmallSt (n : Nat) (x : St) : Prop where
  ls : x.s.length = n
  lg : x.g.length = n
  lk : x.k.length = n
  s : ∀ t ∈ x.s, small t
  g : ∀ t ∈ x.g, small t
  k : ∀ t ∈ x.k, small t
  c : small x.c
theorem all_small {xs : List Int} {n B : Nat} (hl : xs.length = n) (hB : B ≤ 2000) (h : ∀ i < n, 0 ≤ gt xs i ∧ gt xs i < 2 ^ B) : ∀ t ∈ xs, small t := fun t ht => by
  obtain ⟨i, hi, rfl⟩ := List.getElem_of_mem ht
  rw [← gt_get hi]
  exact small_lt (h i (by omega)).1 (h i (by omega)).2 hB
theorem Raw.sm {B C : Nat} {x : St} (h : Raw n B C lim stay x) (hB : B ≤ 2000) (hC : C ≤ 2000) : SmallSt n x where
  ls := h.ls
  lg := h.lg
  lk := h.lk
  s := all_small h.ls hB h.s
  g := all_small h.lg hB h.g
  k := all_small h.lk hB h.k
  c := small_lt (by have := h.c1; omega) h.c2 hC
theorem small_four (sh : List (List Int)) : small (fourOf sh) := small_lt (by have := four_b sh; omega) (B := 3) (by have := four_b sh; omega) (by decide)
theorem mx_op (a b : Int) (S : Store) : oMax2 [.int a, .int b] S = some (.ok (.int (mx a b)) S) := rfl
theorem mn_op (a b : Int) (S : Store) : oMin2 [.int a, .int b] S = some (.ok (.int (mn a b)) S) := rfl
theorem sub_small {a b : Int} {A : Nat} (ha : a.natAbs < 2 ^ A) (hb : b.natAbs < 2 ^ A) : (a - b).natAbs < 2 ^ (A + 1) := by
  have : (2 : Nat) ^ (A + 1) = 2 ^ A * 2 := Nat.pow_succ ..
  omega
theorem nat_lt {a : Int} {B : Nat} (h0 : 0 ≤ a) (h1 : a < 2 ^ B) : a.natAbs < 2 ^ B := by
  have h3 : ((a.natAbs : Nat) : Int) < ((2 ^ B : Nat) : Int) := by
    rw [Int.natAbs_of_nonneg h0]
    exact_mod_cast h1
  exact Int.ofNat_lt.mp h3
/-- the shares as lists -/
def ShL (n : Nat) (sh : List (List Int)) (T : Nat) : Prop := 0 < sh.length → T ≤ sh.length ∧ ∀ k < T, (sh.getD k []).length = n
theorem turnW (w : Web n R m) (hbl : be.length = n) (hll : lim.length = n) (hls : ∀ t ∈ lim, small t) {B C : Nat} (hB : B ≤ 900) (hC : C ≤ 900) (x : St) (hx : Raw n B C lim stay x) (hs : SharesOk n sh T) (hsl : ShL n sh T) (k : Nat) (hk : k < T) (S : Store) (acc : List D) (ha : acc.length < 16777216) (r14 r15 r16 : Option D) :
    ∃ r15' r16', bodyW ((envW R m be lim stay sh T n S x r14 r15 r16).set 14 (some (.int (k : Nat)))) (S ++ [acc]) = some (.nx (envW R m be lim stay sh T n S (next n R m lim stay (wantsOf n sh stay k (up (fourOf sh) x)) (up (fourOf sh) x)) (some (.int (k : Nat))) r15' r16') (S ++ [acc ++ [entD (up (fourOf sh) x)]])) := by
  have u := hx.up (four_b sh).1 (four_b sh).2
  have sx := hx.sm (by omega) (by omega)
  have su := u.sm (by omega) (by omega)
  have wo := wants_ok u hs hk
  have gb := goes_b u wo
  have nk := w.nk
  have ls0 : x.s.length = n := hx.ls
  have f4 := small_four sh
  have hm := small_web w
  have z0 : ∀ T', oMul (.lst [.int 0]) (.int (n : Nat)) T' = some (.ok (.lst ((List.replicate n 0).map .int)) T') := fun T' => o_rep' 0 n (by omega) T'
  -- the wants
  have wants : ∀ r16 : Option D, ∃ W : List Int, sIf (dBin oGt (dCall oLen (dCons (dVar 4) (dNil))) (dC (.int 0))) (sSeq (sSet 15 (dLc [17] (dRange1 (dVar 6)) (.one 17) (dYes) (dBin oDiv (dBin oMul (dBin oIx (dVar 8) (dVar 17)) (dBin oIx (dBin oIx (dVar 4) (dVar 14)) (dVar 17))) (dC (.int 4))))) (sNil)) (sSeq (sIf (dBin oEq (dVar 3) (dC (.str "go"))) (sSeq (sSet 15 (dLc [9] (dItems (dVar 8)) (.one 9) (dYes) (dVar 9))) (sNil)) (sNil)) (sNil)) (envW R m be lim stay sh T n S (up (fourOf sh) x) (some (.int (k : Nat))) (some (.lst ((List.replicate n 0).map .int))) r16) (S ++ [acc]) = some (.nx (envW R m be lim stay sh T n S (up (fourOf sh) x) (some (.int (k : Nat))) (some (.lst (W.map .int))) r16) (S ++ [acc])) ∧ W = wantsOf n sh stay k (up (fourOf sh) x) := by
    intro r16
    refine ⟨_, ?_, rfl⟩
    have cnd : dBin oGt (dCall oLen (dCons (dVar 4) (dNil))) (dC (.int 0)) (envW R m be lim stay sh T n S (up (fourOf sh) x) (some (.int (k : Nat))) (some (.lst ((List.replicate n 0).map .int))) r16) (S ++ [acc]) = some (.ok (.bl (decide (0 < sh.length))) (S ++ [acc])) := by
      refine (x_bin (x_c1 rfl (e_lenL _ _)) rfl rfl).trans ?_
      simp [oGt]
    unfold wantsOf
    by_cases hl : 0 < sh.length
    · rw [decide_eq_true hl] at cnd
      rw [if_pos hl]
      have hkl : k < sh.length := by have := (hsl hl).1; omega
      have c1 := lcI_range1 (ρ := envW R m be lim stay sh T n S (up (fourOf sh) x) (some (.int (k : Nat))) (some (.lst ((List.replicate n 0).map .int))) r16) (S := S ++ [acc]) (fi := dRange1 (dVar 6)) (elt := dBin oDiv (dBin oMul (dBin oIx (dVar 8) (dVar 17)) (dBin oIx (dBin oIx (dVar 4) (dVar 14)) (dVar 17))) (dC (.int 4))) 17 n (fun i => gt (up (fourOf sh) x).s i * at2 sh k i / 4)
        (range1_of rfl (by omega)) (fun i hi U => by
          have i1 : oIx (.lst ((up (fourOf sh) x).s.map .int)) (.int (i : Nat)) U = some (.ok (.int (gt (up (fourOf sh) x).s i)) U) := ixLi (by rw [u.ls]; exact hi) U
          have i2 : oIx (.lst ((sh.getD k []).map .int)) (.int (i : Nat)) U = some (.ok (.int (at2 sh k i)) U) := ixLi (by rw [(hsl hl).2 k hk]; exact hi) U
          have sm4 : small (at2 sh k i) := by
            obtain ⟨a, b⟩ := (hs hl).2 k hk i hi
            exact small_lt (B := 3) a (by omega) (by decide)
          exact x_bin (x_bin (x_bin rfl rfl i1) (x_bin (x_bin rfl rfl (ixSh hkl U)) rfl i2) (e_mulI (getD_small su.s i) sm4 U)) rfl (o_divI (by decide) (by decide) U)) (by omega)
      exact s_ifT cnd (q_set c1 rfl)
    · rw [decide_eq_false hl] at cnd
      rw [if_neg hl]
      have eg : dBin oEq (dVar 3) (dC (.str "go")) (envW R m be lim stay sh T n S (up (fourOf sh) x) (some (.int (k : Nat))) (some (.lst ((List.replicate n 0).map .int))) r16) (S ++ [acc]) = some (.ok (.bl (man stay == "go")) (S ++ [acc])) := x_bin rfl rfl (o_eqS (strMan stay) strGo _)
      cases stay
      · rw [show (man false == ("go" : Str)) = true by decide] at eg
        have c1 := lcI_map1 (ρ := envW R m be lim false sh T n S (up (fourOf sh) x) (some (.int (k : Nat))) (some (.lst ((List.replicate n 0).map .int))) r16) (S := S ++ [acc]) (fi := dItems (dVar 8)) (elt := dVar 9) 9 (up (fourOf sh) x).s (fun z => z) rfl (fun _ _ _ => rfl) (by rw [u.ls]; omega)
        rw [List.map_id'] at c1
        exact s_ifF cnd (q_nx (s_ifT eg (q_set c1 rfl)) rfl)
      · rw [show (man true == ("go" : Str)) = false by decide] at eg
        exact s_ifF cnd (q_nx (s_ifF eg rfl) rfl)
  have lw := wo.len
  have gl : (goesOf n lim stay (wantsOf n sh stay k (up (fourOf sh) x)) (up (fourOf sh) x)).length = n := by simp [goesOf]
  obtain ⟨W, hW, eW⟩ := wants r16
  rw [← eW] at lw wo gb gl ⊢
  have sW : ∀ t ∈ W, small t := all_small (B := B + 2) lw (by omega) fun i hi => by
    have := wo.ok i hi
    have := (u.s i hi).2
    exact ⟨by omega, by omega⟩
  -- what goes
  have goes : ∀ r16 : Option D, sIf (dBin oEq (dVar 3) (dC (.str "stay"))) (sSeq (sSet 16 (dLc [17] (dRange1 (dVar 6)) (.one 17) (dYes) (dCall oMax2 (dCons (dBin oIx (dVar 15) (dVar 17)) (dCons (dBin oSub (dBin oPlus (dBin oIx (dVar 8) (dVar 17)) (dBin oIx (dVar 11) (dVar 17))) (dBin oMul (dBin oIx (dVar 2) (dVar 17)) (dVar 12))) (dNil)))))) (sNil)) (sSeq (sSet 16 (dLc [17] (dRange1 (dVar 6)) (.one 17) (dYes) (dCall oMin2 (dCons (dBin oIx (dVar 15) (dVar 17)) (dCons (dBin oSub (dBin oMul (dBin oIx (dVar 2) (dVar 17)) (dVar 12)) (dBin oIx (dVar 10) (dVar 17))) (dNil)))))) (sNil)) (envW R m be lim stay sh T n S (up (fourOf sh) x) (some (.int (k : Nat))) (some (.lst (W.map .int))) r16) (S ++ [acc]) = some (.nx (envW R m be lim stay sh T n S (up (fourOf sh) x) (some (.int (k : Nat))) (some (.lst (W.map .int))) (some (.lst ((goesOf n lim stay W (up (fourOf sh) x)).map .int)))) (S ++ [acc])) := by
    intro r16
    have eg : dBin oEq (dVar 3) (dC (.str "stay")) (envW R m be lim stay sh T n S (up (fourOf sh) x) (some (.int (k : Nat))) (some (.lst (W.map .int))) r16) (S ++ [acc]) = some (.ok (.bl (man stay == "stay")) (S ++ [acc])) := x_bin rfl rfl (o_eqS (strMan stay) strStay _)
    have i1 : ∀ i < n, ∀ U, oIx (.lst (W.map .int)) (.int (i : Nat)) U = some (.ok (.int (gt W i)) U) := fun i hi U => ixLi (by omega) U
    have i2 : ∀ i < n, ∀ U, oIx (.lst ((up (fourOf sh) x).s.map .int)) (.int (i : Nat)) U = some (.ok (.int (gt (up (fourOf sh) x).s i)) U) := fun i hi U => ixLi (by rw [u.ls]; exact hi) U
    have i3 : ∀ i < n, ∀ U, oIx (.lst ((up (fourOf sh) x).k.map .int)) (.int (i : Nat)) U = some (.ok (.int (gt (up (fourOf sh) x).k i)) U) := fun i hi U => ixLi (by rw [u.lk]; exact hi) U
    have i4 : ∀ i < n, ∀ U, oIx (.lst ((up (fourOf sh) x).g.map .int)) (.int (i : Nat)) U = some (.ok (.int (gt (up (fourOf sh) x).g i)) U) := fun i hi U => ixLi (by rw [u.lg]; exact hi) U
    have i5 : ∀ i < n, ∀ U, oIx (.lst (lim.map .int)) (.int (i : Nat)) U = some (.ok (.int (gt lim i)) U) := fun i hi U => ixLi (by omega) U
    have mm : ∀ (i : Nat) (U : Store), oMul (.int (gt lim i)) (.int (up (fourOf sh) x).c) U = some (.ok (.int (gt lim i * (up (fourOf sh) x).c)) U) := fun i U => e_mulI (getD_small hls i) su.c U
    unfold goesOf
    cases stay
    · rw [show (man false == ("stay" : Str)) = false by decide] at eg
      have c1 := lcI_range1 (ρ := envW R m be lim false sh T n S (up (fourOf sh) x) (some (.int (k : Nat))) (some (.lst (W.map .int))) r16) (S := S ++ [acc]) (fi := dRange1 (dVar 6)) (elt := dCall oMin2 (dCons (dBin oIx (dVar 15) (dVar 17)) (dCons (dBin oSub (dBin oMul (dBin oIx (dVar 2) (dVar 17)) (dVar 12)) (dBin oIx (dVar 10) (dVar 17))) (dNil)))) 17 n (fun i => if false = true then mx (gt W i) (gt (up (fourOf sh) x).s i + gt (up (fourOf sh) x).k i - gt lim i * (up (fourOf sh) x).c) else mn (gt W i) (gt lim i * (up (fourOf sh) x).c - gt (up (fourOf sh) x).g i))
        (range1_of rfl (by omega)) (fun i hi U => x_c2 (x_bin rfl rfl (i1 i hi U)) (x_bin (x_bin (x_bin rfl rfl (i5 i hi U)) rfl (mm i U)) (x_bin rfl rfl (i4 i hi U)) rfl) rfl) (by omega)
      exact s_ifF eg (q_set c1 rfl)
    · rw [show (man true == ("stay" : Str)) = true by decide] at eg
      have c1 := lcI_range1 (ρ := envW R m be lim true sh T n S (up (fourOf sh) x) (some (.int (k : Nat))) (some (.lst (W.map .int))) r16) (S := S ++ [acc]) (fi := dRange1 (dVar 6)) (elt := dCall oMax2 (dCons (dBin oIx (dVar 15) (dVar 17)) (dCons (dBin oSub (dBin oPlus (dBin oIx (dVar 8) (dVar 17)) (dBin oIx (dVar 11) (dVar 17))) (dBin oMul (dBin oIx (dVar 2) (dVar 17)) (dVar 12))) (dNil)))) 17 n (fun i => if true = true then mx (gt W i) (gt (up (fourOf sh) x).s i + gt (up (fourOf sh) x).k i - gt lim i * (up (fourOf sh) x).c) else mn (gt W i) (gt lim i * (up (fourOf sh) x).c - gt (up (fourOf sh) x).g i))
        (range1_of rfl (by omega)) (fun i hi U => x_c2 (x_bin rfl rfl (i1 i hi U)) (x_bin (x_bin (x_bin rfl rfl (i2 i hi U)) (x_bin rfl rfl (i3 i hi U)) rfl) (x_bin (x_bin rfl rfl (i5 i hi U)) rfl (mm i U)) rfl) rfl) (by omega)
      exact s_ifT eg (q_set c1 rfl)
  -- scaled
  have mf : ∀ xs : List Int, (∀ t ∈ xs, small t) → ∀ t ∈ xs, ∀ U, oMul (.int (fourOf sh)) (.int t) U = some (.ok (.int (fourOf sh * t)) U) := fun xs hxs t ht U => e_mulI f4 (hxs t ht) U
  have s8 := lcI_map1 (ρ := (envW R m be lim stay sh T n S x r14 r15 r16).set 14 (some (.int (k : Nat)))) (S := S ++ [acc]) (fi := dItems (dVar 8)) (elt := dBin oMul (dVar 7) (dVar 9)) 9 x.s (fourOf sh * ·) rfl (fun t ht U => x_bin rfl rfl (mf x.s sx.s t ht U)) (by rw [hx.ls]; omega)
  have s10 := lcI_map1 (ρ := ((envW R m be lim stay sh T n S x r14 r15 r16).set 14 (some (.int (k : Nat)))).set 8 (some (.lst ((x.s.map (fourOf sh * ·)).map .int)))) (S := S ++ [acc]) (fi := dItems (dVar 10)) (elt := dBin oMul (dVar 7) (dVar 9)) 9 x.g (fourOf sh * ·) rfl (fun t ht U => x_bin rfl rfl (mf x.g sx.g t ht U)) (by rw [hx.lg]; omega)
  have s11 := lcI_map1 (ρ := (((envW R m be lim stay sh T n S x r14 r15 r16).set 14 (some (.int (k : Nat)))).set 8 (some (.lst ((x.s.map (fourOf sh * ·)).map .int)))).set 10 (some (.lst ((x.g.map (fourOf sh * ·)).map .int)))) (S := S ++ [acc]) (fi := dItems (dVar 11)) (elt := dBin oMul (dVar 7) (dVar 9)) 9 x.k (fourOf sh * ·) rfl (fun t ht U => x_bin rfl rfl (mf x.k sx.k t ht U)) (by rw [hx.lk]; omega)
  have hG : goesOf n lim stay W (up (fourOf sh) x) = goesOf n lim stay W (up (fourOf sh) x) := rfl
  generalize hGo : goesOf n lim stay W (up (fourOf sh) x) = Go at *
  have sG : ∀ t ∈ Go, small t := all_small (B := B + 2) gl (by omega) fun i hi => by
    have q1 := gb i hi
    have q2 := (u.s i hi).2
    exact ⟨q1.1, by omega⟩
  have eU : up (fourOf sh) x = ⟨x.s.map (fourOf sh * ·), x.g.map (fourOf sh * ·), x.k.map (fourOf sh * ·), x.c * fourOf sh⟩ := rfl
  have app := x_app (ρ := envW R m be lim stay sh T n S (up (fourOf sh) x) (some (.int (k : Nat))) (some (.lst (W.map .int))) (some (.lst (Go.map .int)))) (S := S ++ [acc]) (fo := dVar 13) (fe := dTup (dCons (dVar 8) (dCons (dVar 10) (dCons (dVar 11) (dCons (dVar 12) (dNil)))))) (n := S.length) (d := entD (up (fourOf sh) x)) rfl (x_tup (y_cons rfl (y_cons rfl (y_cons rfl (y_cons rfl y_nil)))) rfl) (get_last _ _) ha
  rw [set_last] at app
  generalize hS2 : S ++ [acc ++ [entD (up (fourOf sh) x)]] = S2 at *
  generalize hu : up (fourOf sh) x = y at *
  have j1 : ∀ i < n, ∀ U, oIx (.lst (y.s.map .int)) (.int (i : Nat)) U = some (.ok (.int (gt y.s i)) U) := fun i hi U => ixLi (by rw [su.ls]; exact hi) U
  have j2 : ∀ i < n, ∀ U, oIx (.lst (y.g.map .int)) (.int (i : Nat)) U = some (.ok (.int (gt y.g i)) U) := fun i hi U => ixLi (by rw [su.lg]; exact hi) U
  have j3 : ∀ i < n, ∀ U, oIx (.lst (y.k.map .int)) (.int (i : Nat)) U = some (.ok (.int (gt y.k i)) U) := fun i hi U => ixLi (by rw [su.lk]; exact hi) U
  have j4 : ∀ i < n, ∀ U, oIx (.lst (Go.map .int)) (.int (i : Nat)) U = some (.ok (.int (gt Go i)) U) := fun i hi U => ixLi (by rw [gl]; exact hi) U
  have jm : ∀ U, oIx (wb R m) (.int 1) U = some (.ok (.int m) U) := fun U => e_ix1 _ _ _ U
  have j0 : ∀ U, oIx (wb R m) (.int 0) U = some (.ok (.tup (R.map fun r => .tup (r.map .int))) U) := fun U => e_ix0 _ _ U
  have bb : ∀ i < n, (gt y.k i + gt y.s i - gt Go i).natAbs < 2 ^ (B + 4) ∧ (gt y.g i + gt Go i).natAbs < 2 ^ (B + 4) := fun i hi => by
    have a := u.s i hi
    have b := u.g i hi
    have c := u.k i hi
    have d := gb i hi
    have p : (2 : Int) ^ (B + 4) = 2 ^ (B + 2) * 4 := by rw [Int.pow_add _ (B + 2) 2]; rfl
    exact ⟨nat_lt (by omega) (by omega), nat_lt (by omega) (by omega)⟩
  have up2 : ∀ a : Int, a.natAbs < 2 ^ (B + 4) → small a := fun a ha => Nat.lt_of_lt_of_le ha (Nat.pow_le_pow_right (by decide) (by omega))
  have n11 := lcI_range1 (ρ := envW R m be lim stay sh T n S y (some (.int (k : Nat))) (some (.lst (W.map .int))) (some (.lst (Go.map .int)))) (S := S2) (fi := dRange1 (dVar 6)) (elt := dBin oMul (dBin oSub (dBin oPlus (dBin oIx (dVar 11) (dVar 17)) (dBin oIx (dVar 8) (dVar 17))) (dBin oIx (dVar 16) (dVar 17))) (dBin oIx (dVar 0) (dC (.int 1)))) 17 n (fun i => (gt y.k i + gt y.s i - gt Go i) * m)
    (range1_of rfl (by omega)) (fun i hi U => x_bin (x_bin (x_bin (x_bin rfl rfl (j3 i hi U)) (x_bin rfl rfl (j1 i hi U)) rfl) (x_bin rfl rfl (j4 i hi U)) rfl) (x_bin rfl rfl (jm U)) (e_mulI (up2 _ (bb i hi).1) hm U)) (by omega)
  have n10 := lcI_range1 (ρ := (envW R m be lim stay sh T n S y (some (.int (k : Nat))) (some (.lst (W.map .int))) (some (.lst (Go.map .int)))).set 11 (some (.lst (((List.range n).map fun i => (gt y.k i + gt y.s i - gt Go i) * m).map .int)))) (S := S2) (fi := dRange1 (dVar 6)) (elt := dBin oMul (dBin oPlus (dBin oIx (dVar 10) (dVar 17)) (dBin oIx (dVar 16) (dVar 17))) (dBin oIx (dVar 0) (dC (.int 1)))) 17 n (fun i => (gt y.g i + gt Go i) * m)
    (range1_of rfl (by omega)) (fun i hi U => x_bin (x_bin (x_bin rfl rfl (j2 i hi U)) (x_bin rfl rfl (j4 i hi U)) rfl) (x_bin rfl rfl (jm U)) (e_mulI (up2 _ (bb i hi).2) hm U)) (by omega)
  have n8 := lcI_range1 (ρ := ((envW R m be lim stay sh T n S y (some (.int (k : Nat))) (some (.lst (W.map .int))) (some (.lst (Go.map .int)))).set 11 (some (.lst (((List.range n).map fun i => (gt y.k i + gt y.s i - gt Go i) * m).map .int)))).set 10 (some (.lst (((List.range n).map fun i => (gt y.g i + gt Go i) * m).map .int)))) (S := S2) (fi := dRange1 (dVar 6)) (elt := dCall oSum (dCons (dLc [17] (dRange1 (dVar 6)) (.one 17) (dYes) (dBin oMul (dBin oIx (dVar 16) (dVar 17)) (dBin oIx (dBin oIx (dBin oIx (dVar 0) (dC (.int 0))) (dVar 17)) (dVar 18)))) (dNil))) 18 n (fun j => sI n fun i => gt Go i * at2 R i j)
    (range1_of rfl (by omega)) (fun j hj U => by
      refine x_c1 (lcI_range1 17 n (fun i => gt Go i * at2 R i j) (range1_of rfl (by omega)) (fun i hi V => ?_) (by omega)) (o_sumLI _ n U)
      exact x_bin (x_bin rfl rfl (j4 i hi V)) (x_bin (x_bin (x_bin rfl rfl (j0 V)) rfl (ixR w hi V)) rfl (ixR2 w hi hj V)) (e_mulI (getD_small sG i) (small_at w hi hj) V)) (by omega)
  have ny : next n R m lim stay W y = ⟨(List.range n).map fun j => sI n fun i => gt Go i * at2 R i j, (List.range n).map fun i => (gt y.g i + gt Go i) * m, (List.range n).map fun i => (gt y.k i + gt y.s i - gt Go i) * m, y.c * m⟩ := by
    unfold next
    rw [hGo]
  rw [ny]
  refine ⟨some (.lst (W.map .int)), some (.lst (Go.map .int)), ?_⟩
  refine q_set s8 (q_set s10 (q_set s11 (q_set (x_bin rfl rfl (e_mulI sx.c f4 _)) (q_set (x_bin rfl rfl (z0 _)) ?_))))
  subst eU
  refine q_nx hW (q_nx (goes _) (q_expr app ?_))
  exact q_set n11 (q_set n10 (q_set n8 (q_set (x_bin rfl (x_bin rfl rfl (jm _)) (e_mulI su.c hm _)) rfl)))
end
end My
set_option Elab.async false
set_option linter.all false
set_option maxRecDepth 100000
set_option maxHeartbeats 4000000
set_option exponentiation.threshold 20000
namespace My
open PySem PySem.Spec PyProof.Rows L2 PD
section
variable {n : Nat} {R : List (List Int)} {m : Int} {be lim : List Int} {stay : Bool} {sh : List (List Int)} {T : Nat}
/-- what the law tells of each moment -/
def ent (n : Nat) (R : List (List Int)) (m : Int) (be lim : List Int) (stay : Bool) (sh : List (List Int)) (T : Nat) (k : Nat) : St :=
  if k < T then up (fourOf sh) (raw n R m be lim stay sh k) else raw n R m be lim stay sh k
theorem el_succ (e : Nat → St) (T : Nat) : el e (T + 1) = el e T ++ [entD (e T)] := by
  unfold el
  rw [List.range_succ, List.map_append]
  rfl
theorem el_len (e : Nat → St) (T : Nat) : (el e T).length = T := by simp [el]
theorem loopW (w : Web n R m) (hb : be.length = n ∧ ∀ i < n, 0 ≤ gt be i ∧ gt be i < 2 ^ 5) (hl : lim.length = n ∧ ∀ i < n, 0 ≤ gt lim i ∧ gt lim i < 2 ^ 5) (hs : SharesOk n sh T) (hsl : ShL n sh T) (hT : T ≤ 16) (S : Store) (all : List D) : ∀ (j k : Nat) (r14 r15 r16 : Option D), k + j ≤ T → ∃ r14' r15' r16', forLoop none all (tName 14) bodyW ((List.range' k j).map fun i => D.int (i : Nat)) (envW R m be lim stay sh T n S (raw n R m be lim stay sh k) r14 r15 r16) (S ++ [el (ent n R m be lim stay sh T) k]) = some (.nx (envW R m be lim stay sh T n S (raw n R m be lim stay sh (k + j)) r14' r15' r16') (S ++ [el (ent n R m be lim stay sh T) (k + j)]))
  | 0, k, r14, r15, r16, _ => ⟨r14, r15, r16, rfl⟩
  | j + 1, k, r14, r15, r16, h => by
    have rk := raw_ok (stay := stay) w hs hb (fun i hi => (hl.2 i hi).1) k (by omega)
    have hls : ∀ t ∈ lim, small t := all_small hl.1 (by decide : 5 ≤ 2000) hl.2
    obtain ⟨r15', r16', t⟩ := turnW w hb.1 hl.1 hls (by omega) (by omega) (raw n R m be lim stay sh k) rk hs hsl k (by omega) S (el (ent n R m be lim stay sh T) k) (by rw [el_len]; omega) r14 r15 r16
    obtain ⟨q14, q15, q16, ih⟩ := loopW w hb hl hs hsl hT S all j (k + 1) (some (.int (k : Nat))) r15' r16' (by omega)
    have e1 : entD (up (fourOf sh) (raw n R m be lim stay sh k)) = entD (ent n R m be lim stay sh T k) := by
      unfold ent
      rw [if_pos (by omega)]
    rw [e1, ← el_succ] at t
    refine ⟨q14, q15, q16, ?_⟩
    rw [List.range'_succ, List.map_cons]
    have := loop_cons_nxS (w := none) (all := all) rfl rfl t ih
    rw [show k + (j + 1) = k + 1 + j by omega]
    exact this
theorem v_walk (w : Web n R m) (hb : be.length = n ∧ ∀ i < n, 0 ≤ gt be i ∧ gt be i < 2 ^ 5) (hl : lim.length = n ∧ ∀ i < n, 0 ≤ gt lim i ∧ gt lim i < 2 ^ 5) (hs : SharesOk n sh T) (hsl : ShL n sh T) (hT : T ≤ 16) (S : Store) : O__law_walk [wb R m, .lst (be.map .int), .lst (lim.map .int), .str (man stay), shD sh, .int (T : Nat)] S = some (.ok (.lst (el (ent n R m be lim stay sh T) (T + 1))) S) := by
  refine fn_rtM ?_ (el_closed _ _)
  have st : startD ["_law_net_here", "_law_begin", "_law_limit", "_law_manner", "_law_shares", "_law_upto", "_law_size", "_law_four", "_law_stand", "_law_top", "_law_gone", "_law_kept", "_law_scale", "_law_told", "_law_k", "_law_wants", "_law_goes", "_law_i", "_law_j"] [wb R m, .lst (be.map .int), .lst (lim.map .int), .str (man stay), shD sh, .int (T : Nat)] = [some (wb R m), some (.lst (be.map .int)), some (.lst (lim.map .int)), some (.str (man stay)), some (shD sh), some (.int (T : Nat)), none, none, none, none, none, none, none, none, none, none, none, none, none] := rfl
  have nk := w.nk
  simp only [D__law_walk]
  rw [st]
  obtain ⟨q14, q15, q16, l⟩ := loopW w hb hl hs hsl hT S (rgD 0 T) T 0 none none none (by omega)
  rw [← List.range_eq_range', ← rgD_map, Nat.zero_add] at l
  have z0 : ∀ T', oMul (.lst [.int 0]) (.int (n : Nat)) T' = some (.ok (.lst ((List.replicate n 0).map .int)) T') := fun T' => o_rep' 0 n (by omega) T'
  have c6 : dCall oLen (dCons (dVar 1) (dNil)) [some (wb R m), some (.lst (be.map .int)), some (.lst (lim.map .int)), some (.str (man stay)), some (shD sh), some (.int (T : Nat)), none, none, none, none, none, none, none, none, none, none, none, none, none] S = some (.ok (.int (n : Nat)) S) := by
    refine x_c1 rfl ?_
    rw [e_lenL, List.length_map, hb.1]
  have c7 : ∀ a6, dBin oPlus (dC (.int 1)) (dBin oMul (dC (.int 3)) (dCall oInt1 (dCons (dBin oGt (dCall oLen (dCons (dVar 4) (dNil))) (dC (.int 0))) (dNil)))) [some (wb R m), some (.lst (be.map .int)), some (.lst (lim.map .int)), some (.str (man stay)), some (shD sh), some (.int (T : Nat)), a6, none, none, none, none, none, none, none, none, none, none, none, none] S = some (.ok (.int (fourOf sh)) S) := fun a6 => by
    have g : dBin oGt (dCall oLen (dCons (dVar 4) (dNil))) (dC (.int 0)) [some (wb R m), some (.lst (be.map .int)), some (.lst (lim.map .int)), some (.str (man stay)), some (shD sh), some (.int (T : Nat)), a6, none, none, none, none, none, none, none, none, none, none, none, none] S = some (.ok (.bl (decide (0 < sh.length))) S) := by
      refine (x_bin (x_c1 rfl (e_lenL _ _)) rfl rfl).trans ?_
      simp [oGt]
    have i1 : oInt1 [.bl (decide (0 < sh.length))] S = some (.ok (.int (if 0 < sh.length then 1 else 0)) S) := by
      show some (Res.ok (D.int (if decide (0 < sh.length) then 1 else 0)) S) = _
      simp only [decide_eq_true_eq]
    have m1 : oMul (.int 3) (.int (if 0 < sh.length then 1 else 0)) S = some (.ok (.int (3 * (if 0 < sh.length then 1 else 0))) S) := o_mulL (by decide) S
    exact x_bin rfl (x_bin rfl (x_c1 g i1) m1) rfl
  have c8 := lcI_map1 (ρ := [some (wb R m), some (.lst (be.map .int)), some (.lst (lim.map .int)), some (.str (man stay)), some (shD sh), some (.int (T : Nat)), some (.int (n : Nat)), some (.int (fourOf sh)), none, none, none, none, none, none, none, none, none, none, none]) (S := S) (fi := dItems (dVar 1)) (elt := dVar 9) 9 be (fun z => z) rfl (fun _ _ _ => rfl) (by rw [hb.1]; omega)
  rw [List.map_id'] at c8
  refine q_set c6 (q_set (c7 _) (q_set c8 (q_set (x_bin rfl rfl (z0 S)) (q_set (x_bin rfl rfl (z0 S)) (q_set rfl (q_set (d := .ref S.length) (S1 := S ++ [[]]) rfl ?_))))))
  refine q_for (w := none) (items := rgD 0 T) (S1 := S ++ [[]]) (range1_of rfl (by omega)) l ?_
  have e1 : entD (raw n R m be lim stay sh T) = entD (ent n R m be lim stay sh T T) := by
    unfold ent
    rw [if_neg (by omega)]
  have app := x_app (ρ := envW R m be lim stay sh T n S (raw n R m be lim stay sh T) q14 q15 q16) (S := S ++ [el (ent n R m be lim stay sh T) T]) (fo := dVar 13) (fe := dTup (dCons (dVar 8) (dCons (dVar 10) (dCons (dVar 11) (dCons (dVar 12) (dNil)))))) (n := S.length) (d := entD (raw n R m be lim stay sh T)) rfl (x_tup (y_cons rfl (y_cons rfl (y_cons rfl (y_cons rfl y_nil)))) rfl) (get_last _ _) (by rw [el_len]; omega)
  rw [set_last, e1, ← el_succ] at app
  exact q_expr app (q_ret rfl)
/-- the walk's moments in rational vectors -/
theorem ent_vw (w : Web n R m) (hb : be.length = n ∧ ∀ i < n, 0 ≤ gt be i ∧ gt be i < 2 ^ 5) (hl : ∀ i < n, 0 ≤ gt lim i) (hs : SharesOk n sh T) {base : Int} (hB : 1 ≤ base) (k : Nat) (hk : k ≤ T) (j : Nat) (hj : j ≤ 2) : ∀ i < n, vw (base * (ent n R m be lim stay sh T k).c) (fld j (ent n R m be lim stay sh T k)) i = vw (base * (raw n R m be lim stay sh k).c) (fld j (raw n R m be lim stay sh k)) i := by
  intro i hi
  unfold ent
  by_cases h : k < T
  · rw [if_pos h]
    have rk := raw_ok (stay := stay) w hs hb hl k hk
    have f1 := (four_b sh).1
    have key : ∀ xs : List Int, i < xs.length → vw (base * (up (fourOf sh) (raw n R m be lim stay sh k)).c) (xs.map (fourOf sh * ·)) i = vw (base * (raw n R m be lim stay sh k).c) xs i := fun xs hx => by
      unfold vw
      rw [gt_map hx]
      exact mul_div (mul_pos1 hB rk.c1) f1 (mul_pos1 hB (mul_pos1 rk.c1 f1)) (by show base * ((raw n R m be lim stay sh k).c * fourOf sh) = _; rw [Int.mul_assoc])
    match j, hj with
    | 0, _ => exact key _ (by rw [rk.ls]; exact hi)
    | 1, _ => exact key _ (by rw [rk.lg]; exact hi)
    | 2, _ => exact key _ (by rw [rk.lk]; exact hi)
  · rw [if_neg h]
theorem ent_raw (w : Web n R m) (hb : be.length = n ∧ ∀ i < n, 0 ≤ gt be i ∧ gt be i < 2 ^ 5) (hl : ∀ i < n, 0 ≤ gt lim i) (hs : SharesOk n sh T) (hT : T ≤ 16) (k : Nat) (hk : k ≤ T) : Raw n 400 200 lim stay (ent n R m be lim stay sh T k) := by
  have rk := raw_ok (stay := stay) w hs hb hl k hk
  have mono : ∀ {B C B' C' : Nat} {x : St}, Raw n B C lim stay x → B ≤ B' → C ≤ C' → Raw n B' C' lim stay x := fun h h1 h2 => by
    have p1 := pow_le h1
    have p2 := pow_le h2
    exact ⟨h.ls, h.lg, h.lk, h.c1, by have := h.c2; omega, fun i hi => by have := h.s i hi; omega, fun i hi => by have := h.g i hi; omega, fun i hi => by have := h.k i hi; omega, h.l⟩
  unfold ent
  split
  · exact mono (rk.up (four_b sh).1 (four_b sh).2) (by omega) (by omega)
  · exact mono rk (by omega) (by omega)
/-- a field as a small vector -/
theorem raw_FB {B C : Nat} {x : St} (h : Raw n B C lim stay x) {base : Int} (b1 : 1 ≤ base) (b2 : base < 2 ^ 10) (j : Nat) (A : Nat) (hA : B ≤ A) (hA2 : C + 10 ≤ A) : FB A n (vw (base * x.c) (fld j x)) := by
  have p1 := pow_le hA
  have bc := mul_pos1 b1 h.c1
  have bl := mul_lt_pow (by omega : 0 ≤ base) b2 (by have := h.c1; omega : 0 ≤ x.c) h.c2
  have p2 := pow_le (A := 10 + C) (B := A) (by omega)
  refine FB.mk' (gt (fld j x)) (base * x.c) bc (by omega) (fun i hi => ?_) fun i _ => rfl
  match j with
  | 0 => have := h.s i hi; exact ⟨this.1, by show gt x.s i < _; omega⟩
  | 1 => have := h.g i hi; exact ⟨this.1, by show gt x.g i < _; omega⟩
  | j + 2 => have := h.k i hi; exact ⟨this.1, by show gt x.k i < _; omega⟩
/-- the part of the walk that the law takes: a row of loads -/
theorem v_part_walk (w : Web n R m) (hb : be.length = n ∧ ∀ i < n, 0 ≤ gt be i ∧ gt be i < 2 ^ 5) (hl : ∀ i < n, 0 ≤ gt lim i) (hs : SharesOk n sh T) (hT : T ≤ 16) {base : Int} (b1 : 1 ≤ base) (b2 : base < 2 ^ 10) (j : Nat) (hj : j ≤ 2) (a N : Nat) (hN : a + N ≤ T + 1) (S : Store) : O__law_part [.lst ((List.range N).map fun k => entD (ent n R m be lim stay sh T (a + k))), .int (j : Nat), .int base] S = some (.ok (.tup (cl n (fun k => vw (base * (raw n R m be lim stay sh (a + k)).c) (fld j (raw n R m be lim stay sh (a + k)))) N)) S) := by
  have := v_part (n := n) S (fun k => ent n R m be lim stay sh T (a + k)) N j hj base b1 b2 w.nk (by omega) 400 200 (by decide) (by decide) lim stay fun k hk => ent_raw w hb hl hs hT (a + k) (by omega)
  have e : cl n (fun k => vw (base * (ent n R m be lim stay sh T (a + k)).c) (fld j (ent n R m be lim stay sh T (a + k)))) N = cl n (fun k => vw (base * (raw n R m be lim stay sh (a + k)).c) (fld j (raw n R m be lim stay sh (a + k)))) N := cl_congr fun k hk i hi => ent_vw w hb hl hs b1 (a + k) (by omega) j hj i hi
  rw [e] at this
  exact this
end
end My
set_option Elab.async false
set_option linter.all false
set_option maxRecDepth 100000
set_option maxHeartbeats 4000000
set_option exponentiation.threshold 20000
namespace My
open PySem PySem.Spec PyProof.Rows L2 PD
/-! ### sizes -/
def bd (k : Nat) (a : Int) : Prop := a.natAbs < 2 ^ k
theorem bd.mul {i j : Nat} {a b : Int} (ha : bd i a) (hb : bd j b) : bd (i + j) (a * b) := natAbs_mul_lt ha hb
theorem bd.mono {i j : Nat} {a : Int} (ha : bd i a) (h : i ≤ j) : bd j a := Nat.lt_of_lt_of_le ha (Nat.pow_le_pow_right (by decide) h)
theorem bd.add {k : Nat} {a b : Int} (ha : bd k a) (hb : bd k b) : bd (k + 1) (a + b) := by
  unfold bd at *
  have : (2 : Nat) ^ (k + 1) = 2 ^ k * 2 := Nat.pow_succ ..
  omega
theorem bd.sub {k : Nat} {a b : Int} (ha : bd k a) (hb : bd k b) : bd (k + 1) (a - b) := by
  unfold bd at *
  have : (2 : Nat) ^ (k + 1) = 2 ^ k * 2 := Nat.pow_succ ..
  omega
theorem bd.small {k : Nat} {a : Int} (ha : bd k a) (h : k ≤ 2000) : My.small a := ha.mono h
theorem bd_lt {k : Nat} {a : Int} (h0 : 0 ≤ a) (h1 : a < 2 ^ k) : bd k a := nat_lt h0 h1
theorem FB.lob {B n : Nat} {q : Nat → Rat} (h : FB B n q) (hB : B ≤ 2000) (n1 : 1 ≤ n) (nk : n ≤ 60) : ∃ ts b, rp n q = ld ts b ∧ Lo n ts b ∧ (∀ i < n, q i = (gt ts i : Rat) / (b : Rat)) ∧ (∀ i < n, 0 ≤ gt ts i ∧ gt ts i < 2 ^ B) ∧ b < 2 ^ B := by
  obtain ⟨us, c, h1, h2, h3, h4, h5⟩ := h
  obtain ⟨l1, l2, l3, l4, l5, l6⟩ := low_spec us c h2 fun t ht => (h4 t ht).1
  have bt : ∀ t ∈ lowT us c, 0 ≤ t ∧ t < 2 ^ B := fun t ht => by
    obtain ⟨z0, u, hu, hle⟩ := l4 t ht
    have := (h4 u hu).2
    exact ⟨z0, by omega⟩
  refine ⟨lowT us c, lowB us c, (lf_rp h2 h1 h5).symm, ⟨by rw [l1, h1], n1, nk, fun t ht => (l4 t ht).1, fun t ht => small_lt (bt t ht).1 (bt t ht).2 hB, l2, small_lt (by omega) (by omega : lowB us c < 2 ^ B) hB, l6⟩, fun i hi => ?_, fun i hi => bt _ (gt_mem (by rw [l1, h1]; exact hi)), by omega⟩
  rw [h5 i hi]
  exact (rat_eq h2 l2).mpr (l5 i (by rw [h1]; exact hi)).symm
/-! ### whether a row of loads fits, by the law -/
noncomputable abbrev fitI : SDen := sSeq (sSet 11 (dCall oSum (dCons (dLc [13] (dRange1 (dVar 3)) (.one 13) (dYes) (dBin oMul (dBin oIx (dBin oIx (dVar 6) (dC (.int 0))) (dVar 13)) (dBin oIx (dBin oIx (dBin oIx (dVar 0) (dC (.int 0))) (dVar 13)) (dVar 10)))) (dNil)))) (sSeq (sSet 12 (dBin oPlus (dBin oMul (dBin oMul (dBin oMul (dBin oIx (dBin oIx (dVar 1) (dC (.int 0))) (dVar 10)) (dBin oIx (dVar 0) (dC (.int 1)))) (dBin oIx (dVar 6) (dC (.int 1)))) (dBin oIx (dVar 7) (dC (.int 1)))) (dBin oMul (dBin oMul (dVar 11) (dBin oIx (dVar 1) (dC (.int 1)))) (dBin oIx (dVar 7) (dC (.int 1)))))) (sSeq (sExpr (dApp (dVar 9) (dBin oSub (dVar 12) (dBin oMul (dBin oMul (dBin oMul (dBin oIx (dBin oIx (dVar 7) (dC (.int 0))) (dVar 10)) (dBin oIx (dVar 1) (dC (.int 1)))) (dBin oIx (dVar 0) (dC (.int 1)))) (dBin oIx (dVar 6) (dC (.int 1))))))) (sSeq (sIf (dBin oLt (dBin oMul (dBin oIx (dVar 9) (dVar 10)) (dBin oIx (dVar 4) (dC (.int 1)))) (dBin oMul (dBin oIx (dBin oIx (dVar 4) (dC (.int 0))) (dVar 10)) (dVar 8))) (sSeq (sRet (dC (.bl false))) (sNil)) (sNil)) (sNil))))
noncomputable abbrev fitO : SDen := sSeq (sSet 6 (dBin oIx (dVar 2) (dVar 5))) (sSeq (sSet 7 (dBin oIx (dVar 2) (dBin oPlus (dVar 5) (dC (.int 1))))) (sSeq (sIf (dNot (dTru (dFn 2 O__law_within (dCons (dVar 6) (dCons (dVar 7) (dNil)))))) (sSeq (sRet (dC (.bl false))) (sNil)) (sNil)) (sSeq (sSet 8 (dBin oMul (dBin oMul (dBin oMul (dBin oIx (dVar 1) (dC (.int 1))) (dBin oIx (dVar 0) (dC (.int 1)))) (dBin oIx (dVar 6) (dC (.int 1)))) (dBin oIx (dVar 7) (dC (.int 1))))) (sSeq (sSet 9 (dLstM (dNil))) (sSeq (sFor (dRange1 (dVar 3)) (tName 10) (sSeq (sSet 11 (dCall oSum (dCons (dLc [13] (dRange1 (dVar 3)) (.one 13) (dYes) (dBin oMul (dBin oIx (dBin oIx (dVar 6) (dC (.int 0))) (dVar 13)) (dBin oIx (dBin oIx (dBin oIx (dVar 0) (dC (.int 0))) (dVar 13)) (dVar 10)))) (dNil)))) (sSeq (sSet 12 (dBin oPlus (dBin oMul (dBin oMul (dBin oMul (dBin oIx (dBin oIx (dVar 1) (dC (.int 0))) (dVar 10)) (dBin oIx (dVar 0) (dC (.int 1)))) (dBin oIx (dVar 6) (dC (.int 1)))) (dBin oIx (dVar 7) (dC (.int 1)))) (dBin oMul (dBin oMul (dVar 11) (dBin oIx (dVar 1) (dC (.int 1)))) (dBin oIx (dVar 7) (dC (.int 1)))))) (sSeq (sExpr (dApp (dVar 9) (dBin oSub (dVar 12) (dBin oMul (dBin oMul (dBin oMul (dBin oIx (dBin oIx (dVar 7) (dC (.int 0))) (dVar 10)) (dBin oIx (dVar 1) (dC (.int 1)))) (dBin oIx (dVar 0) (dC (.int 1)))) (dBin oIx (dVar 6) (dC (.int 1))))))) (sSeq (sIf (dBin oLt (dBin oMul (dBin oIx (dVar 9) (dVar 10)) (dBin oIx (dVar 4) (dC (.int 1)))) (dBin oMul (dBin oIx (dBin oIx (dVar 4) (dC (.int 0))) (dVar 10)) (dVar 8))) (sSeq (sRet (dC (.bl false))) (sNil)) (sNil)) (sNil)))))) (sSeq (sSet 4 (dTup (dCons (dVar 9) (dCons (dVar 8) (dNil))))) (sNil)))))))
/-- what has stayed, over the product of the bottoms -/
def sj (n : Nat) (R : List (List Int)) (m : Int) (vs : List Int) (d : Int) (ts : List Int) (b : Int) (us : List Int) (e : Int) (j : Nat) : Int :=
  gt vs j * m * b * e + (sI n fun i => gt ts i * at2 R i j) * d * e - gt us j * d * m * b
/-- the list stands, whatever comes behind it -/
def Hold (S : Store) (x : D) (xs : List Int) : Prop := ∀ E : Store, asSeq (S ++ E) x = some (xs.map .int)
theorem Hold.lst (S : Store) (xs : List Int) : Hold S (.lst (xs.map .int)) xs := fun _ => rfl
theorem Hold.ref {S S2 : Store} {xs : List Int} (h : S2 = S ++ [xs.map .int]) : Hold S2 (.ref S.length) xs := fun E => by
  subst h
  show ((S ++ [xs.map .int]) ++ E)[S.length]? = _
  rw [List.append_assoc, List.getElem?_append_right (Nat.le_refl _), Nat.sub_self]
  rfl
theorem ixAny {S : Store} {x : D} {xs : List Int} (h : asSeq S x = some (xs.map .int)) {j : Nat} (hj : j < xs.length) : oIx x (.int (j : Nat)) S = some (.ok (.int (gt xs j)) S) := by
  have e : (xs.map D.int)[j]? = some (.int (gt xs j)) := by
    rw [List.getElem?_map, List.getElem?_eq_getElem hj, gt_get hj]
    rfl
  have h2 : ((j : Nat) : Int) < ((xs.map D.int).length : Int) := by simp; omega
  have h3 : (0 : Int) ≤ ((j : Nat) : Int) := by omega
  have key : (match asSeq S x with | some ys => (atI ys ((j : Nat) : Int)).map fun d => Res.ok d S | none => none) = some (.ok (.int (gt xs j)) S) := by
    rw [h]
    simp only [atI, ixN, h2, h3, if_true, Option.bind_some, Int.toNat_natCast, e, Option.map_some]
  cases x with
  | str z => simp [asSeq] at h
  | _ => exact key
section
variable {n : Nat} {R : List (List Int)} {m : Int}
structure FitP (n : Nat) (R : List (List Int)) (m : Int) (vs : List Int) (d : Int) (ts : List Int) (b : Int) (us : List Int) (e : Int) : Prop where
  w : Web n R m
  v : Lo n vs d
  t : Lo n ts b
  u : Lo n us e
  vb : ∀ i < n, 0 ≤ gt vs i ∧ gt vs i < 2 ^ 400
  tb : ∀ i < n, 0 ≤ gt ts i ∧ gt ts i < 2 ^ 400
  ub : ∀ i < n, 0 ≤ gt us i ∧ gt us i < 2 ^ 400
  d4 : d < 2 ^ 400
  b4 : b < 2 ^ 400
  e4 : e < 2 ^ 400
variable {vs ts us : List Int} {d b e : Int}
theorem FitP.dd (h : FitP n R m vs d ts b us e) : bd 400 d ∧ bd 400 b ∧ bd 400 e ∧ bd 8 m :=
  ⟨bd_lt (by have := h.v.b1; omega) h.d4, bd_lt (by have := h.t.b1; omega) h.b4, bd_lt (by have := h.u.b1; omega) h.e4, bd_lt (by have := h.w.m1; omega) h.w.m2⟩
theorem FitP.comes (h : FitP n R m vs d ts b us e) {j : Nat} (hj : j < n) : bd 414 (sI n fun i => gt ts i * at2 R i j) := by
  obtain ⟨s0, s1⟩ := sI_bound n (fun i => gt ts i * at2 R i j) (2 ^ 408) fun i hi => by
    obtain ⟨a0, a1⟩ := h.w.at hi hj
    refine ⟨Int.mul_nonneg (h.tb i hi).1 a0, ?_⟩
    have := mul_lt_pow (h.tb i hi).1 (h.tb i hi).2 a0 a1
    omega
  refine bd_lt s0 ?_
  have nk := h.w.nk
  have : (n : Int) * 2 ^ 408 ≤ 60 * 2 ^ 408 := Int.mul_le_mul_of_nonneg_right (by omega) (by decide)
  have e2 : (60 : Int) * 2 ^ 408 < 2 ^ 414 := by decide
  omega
theorem FitP.sb (h : FitP n R m vs d ts b us e) {j : Nat} (hj : j < n) : bd 1222 (sj n R m vs d ts b us e j) := by
  obtain ⟨hd, hb, he, hm⟩ := h.dd
  have a1 : bd 1208 (gt vs j * m * b * e) := (((bd_lt (h.vb j hj).1 (h.vb j hj).2).mul hm).mul hb).mul he
  have a2 : bd 1214 ((sI n fun i => gt ts i * at2 R i j) * d * e) := ((h.comes hj).mul hd).mul he
  have a3 : bd 1208 (gt us j * d * m * b) := (((bd_lt (h.ub j hj).1 (h.ub j hj).2).mul hd).mul hm).mul hb
  exact (((a1.mono (by decide)).add a2).sub (a3.mono (by decide))).mono (by decide)
theorem sj_rat (h : FitP n R m vs d ts b us e) (j : Nat) : ((sj n R m vs d ts b us e j : Int) : Rat) / ((d * m * b * e : Int) : Rat) = (gt vs j : Rat) / d + ((sI n fun i => gt ts i * at2 R i j : Int) : Rat) / ((b * m : Int) : Rat) - (gt us j : Rat) / e := by
  have pd := cast_pos h.v.b1
  have pb := cast_pos h.t.b1
  have pe := cast_pos h.u.b1
  have pm := cast_pos h.w.m1
  unfold sj
  generalize (sI n fun i => gt ts i * at2 R i j) = z
  simp only [Rat.intCast_add, Rat.intCast_sub, Rat.intCast_mul]
  have n1 := Rat.mul_pos pb pm
  have n2 := Rat.mul_pos (Rat.mul_pos (Rat.mul_pos pd pm) pb) pe
  grind
/-- the slots in the inner loop -/
abbrev envI (R : List (List Int)) (m : Int) (vs : List Int) (d : Int) (r2 : Option D) (n : Nat) (x : D) (B0 : Int) (r5 : Option D) (ts : List Int) (b : Int) (us : List Int) (e : Int) (P : Nat) (r10 r11 r12 : Option D) : EnvD :=
  [some (wb R m), some (ld vs d), r2, some (.int (n : Nat)), some (.tup [x, .int B0]), r5, some (ld ts b), some (ld us e), some (.int (d * m * b * e)), some (.ref P), r10, r11, r12, none]
theorem fit_turn (h : FitP n R m vs d ts b us e) (x : D) (xs : List Int) (B0 : Int) (S : Store) (hx : Hold S x xs) (hxl : xs.length = n) (sx : ∀ t ∈ xs, small t) (sB : small B0) (r2 r5 r10 r11 r12 : Option D) (j : Nat) (hj : j < n) :
    ∃ r11' r12', fitI ((envI R m vs d r2 n x B0 r5 ts b us e S.length r10 r11 r12).set 10 (some (.int (j : Nat)))) (S ++ [((List.range j).map (sj n R m vs d ts b us e)).map .int]) =
      (if sj n R m vs d ts b us e j * B0 < gt xs j * (d * m * b * e) then some (.rt (.bl false) (S ++ [((List.range (j + 1)).map (sj n R m vs d ts b us e)).map .int]))
       else some (.nx (envI R m vs d r2 n x B0 r5 ts b us e S.length (some (.int (j : Nat))) r11' r12') (S ++ [((List.range (j + 1)).map (sj n R m vs d ts b us e)).map .int]))) := by
  obtain ⟨hd, hb, he, hm⟩ := h.dd
  have nk := h.w.nk
  have bv := bd_lt (h.vb j hj).1 (h.vb j hj).2
  have bu := bd_lt (h.ub j hj).1 (h.ub j hj).2
  have hc := h.comes hj
  have hs := h.sb hj
  have hbig : bd 1208 (d * m * b * e) := ((hd.mul hm).mul hb).mul he
  refine ⟨some (.int (sI n fun i => gt ts i * at2 R i j)), some (.int (gt vs j * m * b * e + (sI n fun i => gt ts i * at2 R i j) * d * e)), ?_⟩
  generalize hS1 : S ++ [((List.range j).map (sj n R m vs d ts b us e)).map .int] = S1
  have ct : ∀ (zs : List Int) (z : Int) (U : Store), oIx (ld zs z) (.int 0) U = some (.ok (.tup (zs.map .int)) U) := fun zs z U => e_ix0 _ _ U
  have cb : ∀ (zs : List Int) (z : Int) (U : Store), oIx (ld zs z) (.int 1) U = some (.ok (.int z) U) := fun zs z U => e_ix1 _ _ _ U
  have jm : ∀ U, oIx (wb R m) (.int 1) U = some (.ok (.int m) U) := fun U => e_ix1 _ _ _ U
  have j0 : ∀ U, oIx (wb R m) (.int 0) U = some (.ok (.tup (R.map fun r => .tup (r.map .int))) U) := fun U => e_ix0 _ _ U
  have c1 := lcI_range1 (ρ := (envI R m vs d r2 n x B0 r5 ts b us e S.length r10 r11 r12).set 10 (some (.int (j : Nat)))) (S := S1) (fi := dRange1 (dVar 3)) (elt := dBin oMul (dBin oIx (dBin oIx (dVar 6) (dC (.int 0))) (dVar 13)) (dBin oIx (dBin oIx (dBin oIx (dVar 0) (dC (.int 0))) (dVar 13)) (dVar 10))) 13 n (fun i => gt ts i * at2 R i j)
    (range1_of rfl (by omega)) (fun i hi U => x_bin (x_bin (x_bin rfl rfl (ct ts b U)) rfl (ixT (by rw [h.t.len]; exact hi) U)) (x_bin (x_bin (x_bin rfl rfl (j0 U)) rfl (ixR h.w hi U)) rfl (ixR2 h.w hi hj U)) (e_mulI (getD_small h.t.ss i) (small_at h.w hi hj) U)) (by omega)
  refine q_set (x_c1 c1 (o_sumLI _ n S1)) ?_
  have v1 : oIx (.tup (vs.map .int)) (.int (j : Nat)) S1 = some (.ok (.int (gt vs j)) S1) := ixT (by rw [h.v.len]; exact hj) S1
  have u1 : oIx (.tup (us.map .int)) (.int (j : Nat)) S1 = some (.ok (.int (gt us j)) S1) := ixT (by rw [h.u.len]; exact hj) S1
  have p1 : ∀ {i k : Nat} {a c : Int}, bd i a → bd k c → i ≤ 2000 → k ≤ 2000 → oMul (.int a) (.int c) S1 = some (.ok (.int (a * c)) S1) := fun ha hc h1 h2 => e_mulI (ha.small h1) (hc.small h2) S1
  refine q_set (x_bin (x_bin (x_bin (x_bin (x_bin (x_bin rfl rfl (ct vs d S1)) rfl v1) (x_bin rfl rfl (jm S1)) (p1 bv hm (by decide) (by decide))) (x_bin rfl rfl (cb ts b S1)) (p1 (bv.mul hm) hb (by decide) (by decide))) (x_bin rfl rfl (cb us e S1)) (p1 ((bv.mul hm).mul hb) he (by decide) (by decide)))
    (x_bin (x_bin rfl (x_bin rfl rfl (cb vs d S1)) (p1 hc hd (by decide) (by decide))) (x_bin rfl rfl (cb us e S1)) (p1 (hc.mul hd) he (by decide) (by decide))) rfl) ?_
  have app := x_app (ρ := envI R m vs d r2 n x B0 r5 ts b us e S.length (some (.int (j : Nat))) (some (.int (sI n fun i => gt ts i * at2 R i j))) (some (.int (gt vs j * m * b * e + (sI n fun i => gt ts i * at2 R i j) * d * e)))) (S := S1) (fo := dVar 9) (fe := dBin oSub (dVar 12) (dBin oMul (dBin oMul (dBin oMul (dBin oIx (dBin oIx (dVar 7) (dC (.int 0))) (dVar 10)) (dBin oIx (dVar 1) (dC (.int 1)))) (dBin oIx (dVar 0) (dC (.int 1)))) (dBin oIx (dVar 6) (dC (.int 1))))) (n := S.length) (d := .int (sj n R m vs d ts b us e j)) rfl
    (x_bin rfl (x_bin (x_bin (x_bin (x_bin (x_bin rfl rfl (ct us e S1)) rfl u1) (x_bin rfl rfl (cb vs d S1)) (p1 bu hd (by decide) (by decide))) (x_bin rfl rfl (jm S1)) (p1 (bu.mul hd) hm (by decide) (by decide))) (x_bin rfl rfl (cb ts b S1)) (p1 ((bu.mul hd).mul hm) hb (by decide) (by decide))) rfl) (by rw [← hS1]; exact get_last _ _) (by simp; omega)
  have e2 : S1.set S.length (((List.range j).map (sj n R m vs d ts b us e)).map D.int ++ [.int (sj n R m vs d ts b us e j)]) = S ++ [((List.range (j + 1)).map (sj n R m vs d ts b us e)).map .int] := by
    rw [← hS1, set_last, List.range_succ, List.map_append, List.map_append]
    rfl
  rw [e2] at app
  refine q_expr app ?_
  generalize hS2 : S ++ [((List.range (j + 1)).map (sj n R m vs d ts b us e)).map .int] = S2
  have y9 : oIx (.ref S.length) (.int (j : Nat)) S2 = some (.ok (.int (sj n R m vs d ts b us e j)) S2) := by
    have := ixAny (S := S2) (x := .ref S.length) (xs := (List.range (j + 1)).map (sj n R m vs d ts b us e)) (by rw [← hS2]; exact get_last _ _) (j := j) (by simp)
    rwa [gt_range (by omega)] at this
  have y4 : oIx x (.int (j : Nat)) S2 = some (.ok (.int (gt xs j)) S2) := ixAny (by rw [← hS2]; exact hx _) (by omega)
  have cnd : dBin oLt (dBin oMul (dBin oIx (dVar 9) (dVar 10)) (dBin oIx (dVar 4) (dC (.int 1)))) (dBin oMul (dBin oIx (dBin oIx (dVar 4) (dC (.int 0))) (dVar 10)) (dVar 8)) (envI R m vs d r2 n x B0 r5 ts b us e S.length (some (.int (j : Nat))) (some (.int (sI n fun i => gt ts i * at2 R i j))) (some (.int (gt vs j * m * b * e + (sI n fun i => gt ts i * at2 R i j) * d * e)))) S2 = some (.ok (.bl (decide (sj n R m vs d ts b us e j * B0 < gt xs j * (d * m * b * e)))) S2) :=
    x_bin (x_bin (x_bin rfl rfl y9) (x_bin rfl rfl (e_ix1 _ _ _ S2)) (e_mulI (hs.small (by decide)) sB S2)) (x_bin (x_bin (x_bin rfl rfl (e_ix0 _ _ S2)) rfl y4) rfl (e_mulI (getD_small sx j) (hbig.small (by decide)) S2)) rfl
  by_cases hlt : sj n R m vs d ts b us e j * B0 < gt xs j * (d * m * b * e)
  · rw [decide_eq_true hlt] at cnd
    rw [if_pos hlt]
    exact q_ifR cnd (q_ret rfl)
  · rw [decide_eq_false hlt] at cnd
    rw [if_neg hlt]
    exact q_ifF cnd rfl
theorem fit_inner (h : FitP n R m vs d ts b us e) (x : D) (xs : List Int) (B0 : Int) (S : Store) (hx : Hold S x xs) (hxl : xs.length = n) (sx : ∀ t ∈ xs, small t) (sB : small B0) (r2 r5 : Option D) (all : List D) : ∀ (l j : Nat) (r10 r11 r12 : Option D), j + l ≤ n →
    (∃ r10' r11' r12', forLoop none all (tName 10) fitI ((List.range' j l).map fun i => D.int (i : Nat)) (envI R m vs d r2 n x B0 r5 ts b us e S.length r10 r11 r12) (S ++ [((List.range j).map (sj n R m vs d ts b us e)).map .int]) = some (.nx (envI R m vs d r2 n x B0 r5 ts b us e S.length r10' r11' r12') (S ++ [((List.range (j + l)).map (sj n R m vs d ts b us e)).map .int])) ∧ ∀ i, j ≤ i → i < j + l → gt xs i * (d * m * b * e) ≤ sj n R m vs d ts b us e i * B0) ∨
    (∃ E, forLoop none all (tName 10) fitI ((List.range' j l).map fun i => D.int (i : Nat)) (envI R m vs d r2 n x B0 r5 ts b us e S.length r10 r11 r12) (S ++ [((List.range j).map (sj n R m vs d ts b us e)).map .int]) = some (.rt (.bl false) (S ++ E)) ∧ ∃ i, j ≤ i ∧ i < j + l ∧ sj n R m vs d ts b us e i * B0 < gt xs i * (d * m * b * e))
  | 0, j, r10, r11, r12, _ => .inl ⟨r10, r11, r12, rfl, fun i h1 h2 => by omega⟩
  | l + 1, j, r10, r11, r12, hl => by
    obtain ⟨r11', r12', t⟩ := fit_turn h x xs B0 S hx hxl sx sB r2 r5 r10 r11 r12 j (by omega)
    rw [List.range'_succ, List.map_cons]
    by_cases hlt : sj n R m vs d ts b us e j * B0 < gt xs j * (d * m * b * e)
    · rw [if_pos hlt] at t
      exact .inr ⟨_, loop_cons_rt rfl t, j, Nat.le_refl _, by omega, hlt⟩
    · rw [if_neg hlt] at t
      rcases fit_inner h x xs B0 S hx hxl sx sB r2 r5 all l (j + 1) (some (.int (j : Nat))) r11' r12' (by omega) with ⟨q1, q2, q3, ih, k⟩ | ⟨E, ih, i, i1, i2, i3⟩
      · rw [show j + 1 + l = j + (l + 1) by omega] at ih
        refine .inl ⟨q1, q2, q3, loop_cons_nxS rfl rfl t ih, fun i h1 h2 => ?_⟩
        by_cases hi : i = j
        · subst hi; omega
        · exact k i (by omega) (by omega)
      · exact .inr ⟨E, loop_cons_nxS rfl rfl t ih, i, by omega, by omega, i3⟩
end
end My
set_option Elab.async false
set_option linter.all false
set_option maxRecDepth 100000
set_option maxHeartbeats 4000000
set_option exponentiation.threshold 20000
namespace My
open PySem PySem.Spec PyProof.Rows L2 PD
theorem greatest_some : ∀ (xs : List Int), xs ≠ [] → ∃ M, greatest xs = some M
  | [], h => absurd rfl h
  | x :: xs, _ => by
    unfold greatest
    split
    · exact ⟨_, rfl⟩
    · exact ⟨_, rfl⟩
section
variable {n : Nat} {R : List (List Int)} {m : Int} {v : Nat → Rat} {c : Nat → Nat → Rat} {T : Nat}
def Good (n : Nat) (R : List (List Int)) (m : Int) (v : Nat → Rat) (c : Nat → Nat → Rat) (t : Nat) : Prop := (∀ i < n, c t i ≤ c (t + 1) i) ∧ ∀ i < n, stayed n R m v c t i ≤ stayed n R m v c (t + 1) i
abbrev envO (R : List (List Int)) (m : Int) (n : Nat) (v : Nat → Rat) (c : Nat → Nat → Rat) (T : Nat) (x : D) (B0 : Int) (r5 r6 r7 r8 r9 r10 r11 r12 : Option D) : EnvD :=
  [some (wb R m), some (rp n v), some (.tup (cl n c (T + 1))), some (.int (n : Nat)), some (.tup [x, .int B0]), r5, r6, r7, r8, r9, r10, r11, r12, none]
theorem take_app {S S1 E : Store} (h : S1.take S.length = S) (hl : S.length ≤ S1.length) : (S1 ++ E).take S.length = S := by
  rw [List.take_append_of_le_length hl, h]
theorem fit_outer (w : Web n R m) (fv : FB 400 n v) (fc : ∀ k ≤ T, FB 400 n (c k)) (hT : T ≤ 900) (S : Store) (all : List D) : ∀ (l k : Nat) (S1 : Store) (x : D) (B0 : Int) (xs : List Int) (r5 r6 r7 r8 r9 r10 r11 r12 : Option D), k + l ≤ T → S1.take S.length = S → S.length ≤ S1.length → Hold S1 x xs → xs.length = n → (∀ t ∈ xs, small t) → small B0 → 1 ≤ B0 → (∀ j < n, stayed n R m v c k j = (gt xs j : Rat) / (B0 : Rat)) →
    (∃ x' B0' q5 q6 q7 q8 q9 q10 q11 q12 S2, forLoop none all (tName 5) fitO ((List.range' k l).map fun i => D.int (i : Nat)) (envO R m n v c T x B0 r5 r6 r7 r8 r9 r10 r11 r12) S1 = some (.nx (envO R m n v c T x' B0' q5 q6 q7 q8 q9 q10 q11 q12) S2) ∧ S2.take S.length = S ∧ ∀ t, k ≤ t → t < k + l → Good n R m v c t) ∨
    (∃ S2, forLoop none all (tName 5) fitO ((List.range' k l).map fun i => D.int (i : Nat)) (envO R m n v c T x B0 r5 r6 r7 r8 r9 r10 r11 r12) S1 = some (.rt (.bl false) S2) ∧ S2.take S.length = S ∧ ∃ t, k ≤ t ∧ t < k + l ∧ ¬ Good n R m v c t)
  | 0, k, S1, x, B0, xs, r5, r6, r7, r8, r9, r10, r11, r12, _, hS, _, _, _, _, _, _, _ => .inl ⟨x, B0, r5, r6, r7, r8, r9, r10, r11, r12, S1, rfl, hS, fun t h1 h2 => by omega⟩
  | l + 1, k, S1, x, B0, xs, r5, r6, r7, r8, r9, r10, r11, r12, hl, hS, hS2, hx, hxl, sx, sB, B1, hst => by
    obtain ⟨vs, d, ev, lv, vv, bv, dv⟩ := fv.lob (by decide) w.n1 w.nk
    obtain ⟨ts, b, et, lt, vt, bt, db⟩ := (fc k (by omega)).lob (by decide) w.n1 w.nk
    obtain ⟨us, e, eu, lu, vu, bu, de⟩ := (fc (k + 1) (by omega)).lob (by decide) w.n1 w.nk
    have P : FitP n R m vs d ts b us e := ⟨w, lv, lt, lu, bv, bt, bu, dv, db, de⟩
    obtain ⟨hd, hb, he, hm⟩ := P.dd
    have hbig : bd 1208 (d * m * b * e) := ((hd.mul hm).mul hb).mul he
    have big1 : 1 ≤ d * m * b * e := mul_pos1 (mul_pos1 (mul_pos1 lv.b1 w.m1) lt.b1) lu.b1
    have sjv : ∀ j < n, ((sj n R m vs d ts b us e j : Int) : Rat) / ((d * m * b * e : Int) : Rat) = stayed n R m v c (k + 1) j := fun j hj => by
      rw [sj_rat P j, ← stp_int w (gt ts) b lt.b1 (c k) vt j]
      simp only [stayed]
      rw [vv j hj, vu j hj]
    rw [List.range'_succ, List.map_cons]
    have cb : ∀ (zs : List Int) (z : Int) (U : Store), oIx (ld zs z) (.int 1) U = some (.ok (.int z) U) := fun zs z U => e_ix1 _ _ _ U
    have jm : ∀ U, oIx (wb R m) (.int 1) U = some (.ok (.int m) U) := fun U => e_ix1 _ _ _ U
    have p1 : ∀ {i k : Nat} {a c : Int}, bd i a → bd k c → i ≤ 2000 → k ≤ 2000 → oMul (.int a) (.int c) S1 = some (.ok (.int (a * c)) S1) := fun ha hc h1 h2 => e_mulI (ha.small h1) (hc.small h2) S1
    have wi := r_within (fc k (by omega)) (fc (k + 1) (by omega)) (by decide) (by decide) w.n1 w.nk S1
    have i6 : ∀ U, oIx (.tup (cl n c (T + 1))) (.int (k : Nat)) U = some (.ok (rp n (c k)) U) := fun U => ix_cl (by omega) U
    have i7 : ∀ U, oIx (.tup (cl n c (T + 1))) (.int ((k : Nat) + 1)) U = some (.ok (rp n (c (k + 1))) U) := fun U => ix_cl (k := k + 1) (by omega) U
    by_cases hw : leB n (c k) (c (k + 1)) = true
    · rw [hw] at wi
      -- the inner loop
      have inner := fit_inner P x xs B0 S1 hx hxl sx sB (some (.tup (cl n c (T + 1)))) (some (.int (k : Nat))) (rgD 0 n) n 0 r10 r11 r12 (by omega)
      rw [← List.range_eq_range', ← rgD_map, Nat.zero_add] at inner
      have head : ∀ (st : SDen) (r : Option SRes), st (envI R m vs d (some (.tup (cl n c (T + 1)))) n x B0 (some (.int (k : Nat))) ts b us e S1.length r10 r11 r12) (S1 ++ [[]]) = r → sSeq (sSet 6 (dBin oIx (dVar 2) (dVar 5))) (sSeq (sSet 7 (dBin oIx (dVar 2) (dBin oPlus (dVar 5) (dC (.int 1))))) (sSeq (sIf (dNot (dTru (dFn 2 O__law_within (dCons (dVar 6) (dCons (dVar 7) (dNil)))))) (sSeq (sRet (dC (.bl false))) (sNil)) (sNil)) (sSeq (sSet 8 (dBin oMul (dBin oMul (dBin oMul (dBin oIx (dVar 1) (dC (.int 1))) (dBin oIx (dVar 0) (dC (.int 1)))) (dBin oIx (dVar 6) (dC (.int 1)))) (dBin oIx (dVar 7) (dC (.int 1))))) (sSeq (sSet 9 (dLstM (dNil))) st)))) ((envO R m n v c T x B0 r5 r6 r7 r8 r9 r10 r11 r12).set 5 (some (.int (k : Nat)))) S1 = r := fun st r hst => by
        refine q_set (x_bin rfl rfl (i6 S1)) (q_set (x_bin rfl (x_bin rfl rfl rfl) (i7 S1)) (q_ifF (x_notT (x_f2 rfl rfl wi)) ?_))
        show sSeq (sSet 8 _) _ [some (wb R m), some (rp n v), some (.tup (cl n c (T + 1))), some (.int (n : Nat)), some (.tup [x, .int B0]), some (.int (k : Nat)), some (rp n (c k)), some (rp n (c (k + 1))), r8, r9, r10, r11, r12, none] S1 = r
        rw [ev, et, eu]
        refine q_set (x_bin (x_bin (x_bin (x_bin rfl rfl (cb vs d S1)) (x_bin rfl rfl (jm S1)) (p1 hd hm (by decide) (by decide))) (x_bin rfl rfl (cb ts b S1)) (p1 (hd.mul hm) hb (by decide) (by decide))) (x_bin rfl rfl (cb us e S1)) (p1 ((hd.mul hm).mul hb) he (by decide) (by decide))) (q_set (d := .ref S1.length) (S1 := S1 ++ [[]]) rfl hst)
      rcases inner with ⟨q10, q11, q12, li, ki⟩ | ⟨E, li, i, i1, i2, i3⟩
      · have turn0 := head _ _ (q_for (fi := dRange1 (dVar 3)) (td := tName 10) (st := fitI) (w := none) (items := rgD 0 n) (S1 := S1 ++ [[]]) (range1_of rfl (by have := w.nk; omega)) li (q_set (n := 4) (f := dTup (dCons (dVar 9) (dCons (dVar 8) (dNil)))) (d := .tup [.ref S1.length, .int (d * m * b * e)]) (S1 := S1 ++ [((List.range n).map (sj n R m vs d ts b us e)).map .int]) (rest := sNil) rfl rfl))
        have turn : fitO ((envO R m n v c T x B0 r5 r6 r7 r8 r9 r10 r11 r12).set 5 (some (.int (k : Nat)))) S1 = some (.nx (envO R m n v c T (.ref S1.length) (d * m * b * e) (some (.int (k : Nat))) (some (ld ts b)) (some (ld us e)) (some (.int (d * m * b * e))) (some (.ref S1.length)) q10 q11 q12) (S1 ++ [((List.range n).map (sj n R m vs d ts b us e)).map .int])) := by
          refine turn0.trans ?_
          show some (SRes.nx [some (wb R m), some (ld vs d), some (.tup (cl n c (T + 1))), some (.int (n : Nat)), some (.tup [.ref S1.length, .int (d * m * b * e)]), some (.int (k : Nat)), some (ld ts b), some (ld us e), some (.int (d * m * b * e)), some (.ref S1.length), q10, q11, q12, none] _) = _
          rw [← ev]
        have good : Good n R m v c k := ⟨leB_iff.mp hw, fun j hj => by
          rw [hst j hj, ← sjv j hj]
          exact (rat_le B1 big1).mpr (ki j (by omega) (by omega))⟩
        have ih := fit_outer w fv fc hT S all l (k + 1) (S1 ++ [((List.range n).map (sj n R m vs d ts b us e)).map .int]) (.ref S1.length) (d * m * b * e) ((List.range n).map (sj n R m vs d ts b us e)) (some (.int (k : Nat))) (some (ld ts b)) (some (ld us e)) (some (.int (d * m * b * e))) (some (.ref S1.length)) q10 q11 q12 (by omega) (take_app hS hS2) (by simp; omega) (Hold.ref rfl) (by simp) (fun t ht => by
          obtain ⟨j, hj, rfl⟩ := List.mem_map.mp ht
          exact (P.sb (List.mem_range.mp hj)).small (by decide)) (hbig.small (by decide)) big1 (fun j hj => by rw [gt_range hj]; exact (sjv j hj).symm)
        rcases ih with ⟨x', B0', a5, a6, a7, a8, a9, a10, a11, a12, S2, f, h1, h2⟩ | ⟨S2, f, h1, t, h2, h3, h4⟩
        · refine .inl ⟨x', B0', a5, a6, a7, a8, a9, a10, a11, a12, S2, loop_cons_nxS rfl rfl turn f, h1, fun t t1 t2 => ?_⟩
          by_cases ht : t = k
          · subst ht; exact good
          · exact h2 t (by omega) (by omega)
        · exact .inr ⟨S2, loop_cons_nxS rfl rfl turn f, h1, t, by omega, by omega, h4⟩
      · have turn := head _ _ (q_forR (rest := sSeq (sSet 4 (dTup (dCons (dVar 9) (dCons (dVar 8) (dNil))))) (sNil)) (fi := dRange1 (dVar 3)) (td := tName 10) (st := fitI) (w := none) (items := rgD 0 n) (S1 := S1 ++ [[]]) (range1_of rfl (by have := w.nk; omega)) li)
        refine .inr ⟨_, loop_cons_rt rfl turn, take_app hS hS2, k, Nat.le_refl _, by omega, fun g => ?_⟩
        have := g.2 i (by omega)
        rw [hst i (by omega), ← sjv i (by omega)] at this
        have := (rat_le B1 big1).mp this
        omega
    · have hf : leB n (c k) (c (k + 1)) = false := Bool.eq_false_iff.mpr hw
      rw [hf] at wi
      have turn : fitO ((envO R m n v c T x B0 r5 r6 r7 r8 r9 r10 r11 r12).set 5 (some (.int (k : Nat)))) S1 = some (.rt (.bl false) S1) :=
        q_set (x_bin rfl rfl (i6 S1)) (q_set (x_bin rfl (x_bin rfl rfl rfl) (i7 S1)) (q_ifR (x_notF (x_f2 rfl rfl wi)) (q_ret rfl)))
      refine .inr ⟨S1, loop_cons_rt rfl turn, hS, k, Nat.le_refl _, by omega, fun g => hw (leB_iff.mpr g.1)⟩
theorem v_fits (w : Web n R m) (fv : FB 400 n v) (fc : ∀ k ≤ T, FB 400 n (c k)) (hT : T ≤ 900) (S : Store) : O__law_fits [wb R m, rp n v, .tup (cl n c (T + 1))] S = some (.ok (.bl (courseB n R m v c T)) S) := by
  have st : startD ["_law_net_here", "_law_begin", "_law_flow", "_law_size", "_law_before", "_law_k", "_law_one", "_law_two", "_law_big", "_law_stayed", "_law_j", "_law_comes", "_law_top", "_law_i"] [wb R m, rp n v, .tup (cl n c (T + 1))] = [some (wb R m), some (rp n v), some (.tup (cl n c (T + 1))), none, none, none, none, none, none, none, none, none, none, none] := rfl
  have cf := course_fits (n := n) (R := R) (m := m) (v := v) (c := c) (T := T) fun k hk i hi => (fc k hk).nonneg i hi
  have n1 := w.n1
  obtain ⟨ts, b, et, lt, vt⟩ := (fc 0 (by omega)).lo (by decide) w.n1 w.nk
  obtain ⟨M, hM⟩ := greatest_some ts fun h => by have := lt.len; rw [h] at this; simp at this; omega
  obtain ⟨M1, M2⟩ := greatest_ok hM
  have i0 : dBin oIx (dVar 2) (dC (.int 0)) [some (wb R m), some (rp n v), some (.tup (cl n c (T + 1))), none, none, none, none, none, none, none, none, none, none, none] S = some (.ok (rp n (c 0)) S) := x_bin rfl rfl (ix_cl (k := 0) (by omega) S)
  rw [et] at i0
  have mx0 : oMaxL [.tup (ts.map .int)] S = some (.ok (.int M) S) := by
    simp only [oMaxL, asSeq, Option.bind_some, PD.ints_map, hM, Option.map_some]
  have cnd : dBin oGt (dCall oMaxL (dCons (dBin oIx (dBin oIx (dVar 2) (dC (.int 0))) (dC (.int 0))) (dNil))) (dC (.int 0)) [some (wb R m), some (rp n v), some (.tup (cl n c (T + 1))), none, none, none, none, none, none, none, none, none, none, none] S = some (.ok (.bl (decide (M > 0))) S) := x_bin (x_c1 (x_bin i0 rfl (e_ix0 _ _ S)) mx0) rfl rfl
  by_cases hp : M > 0
  · rw [decide_eq_true hp] at cnd
    have hf : courseB n R m v c T = false := by
      rw [Bool.eq_false_iff]
      intro h
      have z := (course_iff.mp h).z
      obtain ⟨i, hi, e⟩ := List.getElem_of_mem M1
      rw [← gt_get hi] at e
      have hin : i < n := by have := lt.len; omega
      have := z i hin
      rw [vt i hin, e] at this
      have pb := cast_pos lt.b1
      have pm := cast_pos (b := M) (by omega)
      grind
    rw [hf]
    refine fn_rtS ?_ rfl
    simp only [D__law_fits]
    rw [st]
    exact q_ifR cnd (q_ret rfl)
  · rw [decide_eq_false hp] at cnd
    have z0 : ∀ i < n, c 0 i ≤ 0 := fun i hi => by
      rw [vt i hi]
      have : gt ts i ≤ 0 := by
        have := M2 (gt ts i) (gt_mem (by rw [lt.len]; exact hi))
        omega
      have e : (0 : Rat) = ((0 : Int) : Rat) / ((1 : Int) : Rat) := by rw [Rat.intCast_zero, Rat.intCast_one]; grind
      rw [e]
      exact (rat_le lt.b1 (by decide)).mpr (by omega)
    have rep := o_rep' 0 n (by have := w.nk; omega) S
    have lo := fit_outer w fv fc hT S (rgD 0 T) T 0 S (.lst ((List.replicate n 0).map .int)) 1 (List.replicate n 0) none none none none none none none none (by omega) (List.take_length) (Nat.le_refl _) (Hold.lst _ _) (by simp) (fun t ht => by rw [List.eq_of_mem_replicate ht]; exact small_lt (B := 1) (by decide) (by decide) (by decide)) (small_lt (B := 1) (by decide) (by decide) (by decide)) (by decide) (fun j hj => by
      simp only [stayed]
      rw [gt_rep]
      grind)
    rw [← List.range_eq_range', ← rgD_map, Nat.zero_add] at lo
    have sz : dCall oLen (dCons (dBin oIx (dVar 0) (dC (.int 0))) (dNil)) [some (wb R m), some (rp n v), some (.tup (cl n c (T + 1))), none, none, none, none, none, none, none, none, none, none, none] S = some (.ok (.int (n : Nat)) S) := x_c1 (x_bin rfl rfl (e_ix0 _ _ S)) (by rw [e_lenT, List.length_map, w.len])
    have b4 : dTup (dCons (dBin oMul (dLst (dCons (dC (.int 0)) (dNil))) (dVar 3)) (dCons (dC (.int 1)) (dNil))) [some (wb R m), some (rp n v), some (.tup (cl n c (T + 1))), some (.int (n : Nat)), none, none, none, none, none, none, none, none, none, none] S = some (.ok (.tup [.lst ((List.replicate n 0).map .int), .int 1]) S) := x_tup (y_cons (x_bin rfl rfl rep) (y_cons rfl y_nil)) rfl
    rcases lo with ⟨x', B0', a5, a6, a7, a8, a9, a10, a11, a12, S2, f, h1, h2⟩ | ⟨S2, f, h1, t, h2, h3, h4⟩
    · have ht : courseB n R m v c T = true := course_iff.mpr (cf.mpr ⟨z0, fun k hk => (h2 k (by omega) (by omega)).1, fun k hk => (h2 k (by omega) (by omega)).2⟩)
      rw [ht]
      refine fn_rt (S1 := S2) ?_ h1 rfl
      simp only [D__law_fits]
      rw [st]
      exact q_ifF cnd (q_set sz (q_set b4 (q_for (w := none) (rng_len n c T (by omega) _ S 2 rfl) f (q_ret rfl))))
    · have hf : courseB n R m v c T = false := by
        rw [Bool.eq_false_iff]
        intro h
        have g := cf.mp (course_iff.mp h)
        exact h4 ⟨g.up t (by omega), g.st t (by omega)⟩
      rw [hf]
      refine fn_rt (S1 := S2) ?_ h1 rfl
      simp only [D__law_fits]
      rw [st]
      exact q_ifF cnd (q_set sz (q_set b4 (q_forR (w := none) (rng_len n c T (by omega) _ S 2 rfl) f)))
end
end My
set_option Elab.async false
set_option linter.all false
set_option maxRecDepth 100000
set_option maxHeartbeats 4000000
set_option exponentiation.threshold 20000
namespace My
open PySem PySem.Spec PyProof.Rows L2 PD
theorem plains_ints : ∀ ts : List Int, plains (ts.map D.int) = true
  | [] => rfl
  | t :: ts => by simp only [List.map_cons, plains, PD.plain, plains_ints ts, Bool.and_self]
theorem plain_ld (ts : List Int) (b : Int) : PD.plain (ld ts b) = true := by
  simp only [PD.plain, plains, plains_ints, Bool.and_self]
theorem fzs_ref {S : Store} {k : Nat} {xs : List Int} (h : S[k]? = some (xs.map .int)) (z : Int) : fzs S 0 [.ref k, .int z] = some [.lst (xs.map .int), .int z] := by
  have e : fzg S 0 3 k = some (.lst (xs.map .int)) := by
    simp only [fzg, Nat.not_lt_zero, if_false, h, maps_closed (closeds_map_int xs), Option.map_some]
  simp only [fzs, mapRefs, mapRef, e]
theorem x_fnZ2 {F : Op} {f1 f2 : Den} {ρ : EnvD} {S : Store} {k : Nat} {xs : List Int} {z : Int} {d : D} (h1 : f1 ρ S = some (.ok (.ref k) S)) (h2 : f2 ρ S = some (.ok (.int z) S)) (hk : S[k]? = some (xs.map .int)) (hF : F [.lst (xs.map .int), .int z] [] = some (.ok d [])) (hp : PD.plain d = true) : dFnZ 2 F (dCons f1 (dCons f2 dNil)) ρ S = some (.ok d S) := by
  unfold dFnZ
  rw [y_cons h1 (y_cons h2 y_nil), bndl_ok]
  simp only [fzs_ref hk, List.length_cons, List.length_nil, if_true, hF, hp]
section
variable {n : Nat}
/-- a load, small -/
def PL (B n : Nat) (x : D) : Prop := ∃ q, x = rp n q ∧ FB B n q
theorem v_more {B : Nat} (hB : B ≤ 380) (n1 : 1 ≤ n) (nk : n ≤ 60) {x : D} (hx : PL B n x) (j : Nat) (hj : j < n) (t : Int) (ht : t = 1 ∨ t = -1) (bt : Int) (b1 : 1 ≤ bt) (b2 : bt ≤ 12) : ∃ y, PL (B + 10) n y ∧ ∀ S, O__law_more [x, .int (j : Nat), .int t, .int bt] S = some (.ok y S) := by
  obtain ⟨q, rfl, fq⟩ := hx
  obtain ⟨ts, b, e, lo, vt, tb, bb⟩ := fq.lob (by omega) n1 nk
  have lb := lo.b1
  have hbd : bd B b := bd_lt (by omega) bb
  have hbt : bd 4 bt := bd_lt (by omega) (by omega)
  have htt : bd 1 t := by
    rcases ht with rfl | rfl
    · exact (by decide : (1 : Int).natAbs < 2 ^ 1)
    · exact (by decide : (-1 : Int).natAbs < 2 ^ 1)
  let us : List Int := (ts.map (· * bt)).set j (mx 0 (gt ts j * bt + t * b))
  have ul : us.length = n := by simp [us, lo.len]
  have jl : j < (ts.map (· * bt)).length := by rw [List.length_map, lo.len]; exact hj
  have bds : ∀ i < n, 0 ≤ gt us i ∧ gt us i < 2 ^ (B + 5) := fun i hi => by
    have pw : (2 : Int) ^ (B + 5) = 2 ^ B * 32 := by rw [Int.pow_add]; rfl
    have pB : (0 : Int) < 2 ^ B := Int.pow_pos (by decide)
    by_cases hij : i = j
    · subst hij
      have : gt us i = mx 0 (gt ts i * bt + t * b) := by
        rw [gt_get (by omega)]
        exact List.getElem_set_self ..
      rw [this]
      have h1 := tb i hi
      have h2 : gt ts i * bt ≤ 2 ^ B * 12 := Int.mul_le_mul (by omega) b2 (by omega) (by omega)
      have h3 : t * b ≤ 2 ^ B := by rcases ht with rfl | rfl <;> omega
      unfold mx
      split <;> omega
    · have : gt us i = gt ts i * bt := by
        rw [gt_get (by omega)]
        show ((ts.map (· * bt)).set j _)[i] = _
        rw [List.getElem_set_ne (fun z => hij z.symm), List.getElem_map]
        exact congrArg (· * bt) (gt_get (by rw [lo.len]; exact hi)).symm
      rw [this]
      have h1 := tb i hi
      have h2 : gt ts i * bt ≤ 2 ^ B * 12 := Int.mul_le_mul (by omega) b2 (by omega) (by omega)
      exact ⟨Int.mul_nonneg h1.1 (by omega), by omega⟩
  have bbt := mul_pos1 lb b1
  have bbl : b * bt < 2 ^ (B + 4) := mul_lt_pow (by omega) bb (by omega) (by omega : bt < 2 ^ 4)
  have pp := pow_le (A := B + 5) (B := B + 10) (by omega)
  have pp2 := pow_le (A := B + 4) (B := B + 10) (by omega)
  have pq := pow_le (A := B + 10) (B := 2000) (by omega)
  refine ⟨lf us (b * bt), ⟨vw (b * bt) us, lf_rp bbt ul fun i _ => rfl, FB.mk' (gt us) (b * bt) bbt (by omega) (fun i hi => by have := bds i hi; omega) fun i _ => rfl⟩, fun S => ?_⟩
  rw [e]
  have low := v_low [] us (b * bt) bbt (by omega) (fun u hu => by
    obtain ⟨i, hi, rfl⟩ := List.getElem_of_mem hu
    rw [← gt_get hi]
    have := bds i (by omega)
    omega) (by omega)
  have st : startD ["_law_load", "_law_j", "_law_top", "_law_bottom", "_law_tops_here", "_law_one"] [ld ts b, .int (j : Nat), .int t, .int bt] = [some (ld ts b), some (.int (j : Nat)), some (.int t), some (.int bt), none, none] := rfl
  have l := lcM_map (own := [5]) (t := .one 5) (elt := dBin oMul (dVar 5) (dVar 3)) (f := dItems (dBin oIx (dVar 0) (dC (.int 0)))) (ρ := [some (ld ts b), some (.int (j : Nat)), some (.int t), some (.int bt), none, none]) (S := S) (items := ts.map .int) (fun d => .int (ival d * bt)) (fun d => [some (ld ts b), some (.int (j : Nat)), some (.int t), some (.int bt), none, some d])
    (x_items (x_bin rfl rfl (e_ix0 _ _ S)) rfl) (fun _ _ => rfl) (fun d hd T => by
      obtain ⟨z, hz, rfl⟩ := List.mem_map.mp hd
      exact x_bin rfl rfl (e_mulI (lo.ss z hz) (hbt.small (by decide)) T)) (by rw [List.length_map, lo.len]; omega)
  have me : ((ts.map D.int).map fun d => D.int (ival d * bt)) = (ts.map (· * bt)).map .int := by rw [List.map_map, List.map_map]; rfl
  rw [me] at l
  generalize hS1 : S ++ [(ts.map (· * bt)).map D.int] = S1 at *
  have hk : S1[S.length]? = some ((ts.map (· * bt)).map D.int) := by rw [← hS1]; exact get_last _ _
  have i4 : oIx (.ref S.length) (.int (j : Nat)) S1 = some (.ok (.int (gt ts j * bt)) S1) := by
    have := ixAny (S := S1) (x := .ref S.length) (xs := ts.map (· * bt)) hk jl
    rwa [gt_map (by rw [lo.len]; exact hj)] at this
  have val : dCall oMax2 (dCons (dC (.int 0)) (dCons (dBin oPlus (dBin oIx (dVar 4) (dVar 1)) (dBin oMul (dVar 2) (dBin oIx (dVar 0) (dC (.int 1))))) (dNil))) [some (ld ts b), some (.int (j : Nat)), some (.int t), some (.int bt), some (.ref S.length), none] S1 = some (.ok (.int (mx 0 (gt ts j * bt + t * b))) S1) :=
    x_c2 rfl (x_bin (x_bin rfl rfl i4) (x_bin rfl (x_bin rfl rfl (e_ix1 _ _ _ S1)) (e_mulI (htt.small (by decide)) (hbd.small (by omega)) S1)) rfl) (mx_op _ _ S1)
  have sto := s_store (ρ := [some (ld ts b), some (.int (j : Nat)), some (.int t), some (.int bt), some (.ref S.length), none]) (fo := dVar 4) (fi := dVar 1) val rfl rfl hk (j := j) (by
    simp only [ixN]
    rw [if_pos (by omega), if_pos (by rw [List.length_map]; omega), Int.toNat_natCast])
  have e2 : S1.set S.length (((ts.map (· * bt)).map D.int).set j (.int (mx 0 (gt ts j * bt + t * b)))) = S ++ [us.map .int] := by
    rw [← hS1, set_last]
    show S ++ [((ts.map (· * bt)).map D.int).set j _] = S ++ [((ts.map (· * bt)).set j _).map D.int]
    rw [List.map_set]
  rw [e2] at sto
  refine fn_rt (S1 := S ++ [us.map .int]) ?_ (by simp) (closed_ld _ _)
  simp only [D__law_more]
  rw [st]
  refine q_set l (q_nx sto (q_ret (x_fnZ2 rfl (x_bin (x_bin rfl rfl (e_ix1 _ _ _ _)) rfl (e_mulI lo.bs (hbt.small (by decide)) _)) (get_last _ _) low (plain_ld _ _))))
/-! ### bent rows -/
theorem cut_mem {xs : List D} {lo hi : Option Int} {x : D} (h : x ∈ PD.cutD xs lo hi) : x ∈ xs := List.mem_of_mem_drop (List.mem_of_mem_take h)
theorem cut_len (xs : List D) (lo hi : Option Int) : (PD.cutD xs lo hi).length ≤ xs.length := by
  unfold PD.cutD
  rw [List.length_take, List.length_drop]
  omega
theorem exists_cl (B : Nat) (xs : List D) (h : ∀ x ∈ xs, PL B n x) : ∃ c : Nat → Nat → Rat, xs = cl n c xs.length ∧ ∀ k < xs.length, FB B n (c k) := by
  have key : ∀ k : Nat, ∃ q : Nat → Rat, k < xs.length → xs[k]? = some (rp n q) ∧ FB B n q := fun k => by
    by_cases hk : k < xs.length
    · obtain ⟨q, e, f⟩ := h xs[k] (List.getElem_mem hk)
      exact ⟨q, fun _ => ⟨by rw [List.getElem?_eq_getElem hk, e], f⟩⟩
    · exact ⟨fun _ => 0, fun z => absurd z hk⟩
  refine ⟨fun k => Classical.choose (key k), ?_, fun k hk => (Classical.choose_spec (key k) hk).2⟩
  refine List.ext_getElem? fun k => ?_
  by_cases hk : k < xs.length
  · rw [(Classical.choose_spec (key k) hk).1, cl_get hk]
  · rw [List.getElem?_eq_none (by omega), List.getElem?_eq_none (by rw [cl_len]; omega)]
theorem oPlusT (xs ys : List D) (h : xs.length + ys.length ≤ 16777216) (S : Store) : oPlus (.tup xs) (.tup ys) S = some (.ok (.tup (xs ++ ys)) S) := by
  show (if _ then _ else _) = _
  rw [if_pos h]
theorem PL.mono {A B : Nat} {x : D} (h : PL A n x) (hl : A ≤ B) : PL B n x := by
  obtain ⟨q, e, f⟩ := h
  exact ⟨q, e, f.mono hl⟩
theorem PL.closed {B : Nat} {x : D} (h : PL B n x) : closed x = true := by
  obtain ⟨q, e, f⟩ := h
  rw [e]
  exact closed_rp _ _
theorem closeds_PL {B : Nat} {xs : List D} (h : ∀ x ∈ xs, PL B n x) : closeds xs = true := by
  rw [closeds_all]
  exact List.all_eq_true.mpr fun x hx => (h x hx).closed
theorem v_bent (n1 : 1 ≤ n) (nk : n ≤ 60) (xs : List D) (h6 : xs.length = 6) (hx : ∀ x ∈ xs, PL 380 n x) (kind : Int) (k : Nat) (hk : k < 6) (j : Nat) (hj : j < n) (bt : Int) (b1 : 1 ≤ bt) (b2 : bt ≤ 12) :
    ∃ ys : List D, ys ≠ [] ∧ ys.length ≤ 30 ∧ (∀ y ∈ ys, PL 390 n y) ∧ ∀ S, O__law_bent [.tup xs, .int kind, .int (k : Nat), .int (j : Nat), .int bt] S = some (.ok (.tup ys) S) := by
  have st : startD ["_law_flow", "_law_kind", "_law_k", "_law_j", "_law_bottom", "_law_load"] [.tup xs, .int kind, .int (k : Nat), .int (j : Nat), .int bt] = [some (.tup xs), some (.int kind), some (.int (k : Nat)), some (.int (j : Nat)), some (.int bt), none] := rfl
  have tst : ∀ (z : Int) (S : Store), dBin oEq (dVar 1) (dC (.int z)) [some (.tup xs), some (.int kind), some (.int (k : Nat)), some (.int (j : Nat)), some (.int bt), none] S = some (.ok (.bl (kind == z)) S) := fun z S => x_bin rfl rfl (o_eqI _ _ S)
  have tF : ∀ (z : Int), kind ≠ z → ∀ S : Store, dBin oEq (dVar 1) (dC (.int z)) [some (.tup xs), some (.int kind), some (.int (k : Nat)), some (.int (j : Nat)), some (.int bt), none] S = some (.ok (.bl false) S) := fun z hz S => by
    rw [tst, beq_eq_false_iff_ne.mpr hz]
  have tT : ∀ (z : Int), kind = z → ∀ S : Store, dBin oEq (dVar 1) (dC (.int z)) [some (.tup xs), some (.int kind), some (.int (k : Nat)), some (.int (j : Nat)), some (.int bt), none] S = some (.ok (.bl true) S) := fun z hz S => by
    rw [tst, hz, beq_self_eq_true]
  have ek : xs[k]? = some xs[k] := List.getElem?_eq_getElem (by omega)
  have xk := hx xs[k] (List.getElem_mem (by omega))
  obtain ⟨yp, py, hyp⟩ := v_more (by decide) n1 nk xk j hj 1 (.inl rfl) bt b1 b2
  obtain ⟨ym, pm, hym⟩ := v_more (by decide) n1 nk xk j hj (-1) (.inr rfl) bt b1 b2
  have c1 : ∀ S, dCut (dVar 0) none (some (dVar 2)) [some (.tup xs), some (.int kind), some (.int (k : Nat)), some (.int (j : Nat)), some (.int bt), none] S = some (.ok (.tup (PD.cutD xs none (some (k : Nat)))) S) := fun S => x_cut (a := .tup xs) (i := none) (j := some ((k : Nat) : Int)) rfl trivial rfl
  have c2 : ∀ S, dCut (dVar 0) none (some (dBin oPlus (dVar 2) (dC (.int 1)))) [some (.tup xs), some (.int kind), some (.int (k : Nat)), some (.int (j : Nat)), some (.int bt), none] S = some (.ok (.tup (PD.cutD xs none (some ((k : Int) + 1)))) S) := fun S => x_cut (a := .tup xs) (i := none) (j := some ((k : Int) + 1)) rfl trivial (x_bin rfl rfl rfl)
  have c3 : ∀ S, dCut (dVar 0) (some (dBin oPlus (dVar 2) (dC (.int 1)))) none [some (.tup xs), some (.int kind), some (.int (k : Nat)), some (.int (j : Nat)), some (.int bt), none] S = some (.ok (.tup (PD.cutD xs (some ((k : Int) + 1)) none)) S) := fun S => x_cut (a := .tup xs) (i := some ((k : Int) + 1)) (j := none) rfl (x_bin rfl rfl rfl) trivial
  have c4 : ∀ S, dCut (dVar 0) (some (dVar 2)) none [some (.tup xs), some (.int kind), some (.int (k : Nat)), some (.int (j : Nat)), some (.int bt), none] S = some (.ok (.tup (PD.cutD xs (some (k : Nat)) none)) S) := fun S => x_cut (a := .tup xs) (i := some ((k : Nat) : Int)) (j := none) rfl rfl trivial
  have c5 : ∀ S, dCut (dVar 0) (some (dBin oPlus (dVar 2) (dC (.int 1)))) (some (dBin oPlus (dVar 2) (dC (.int 2)))) [some (.tup xs), some (.int kind), some (.int (k : Nat)), some (.int (j : Nat)), some (.int bt), none] S = some (.ok (.tup (PD.cutD xs (some ((k : Int) + 1)) (some ((k : Int) + 2)))) S) := fun S => x_cut (a := .tup xs) (i := some ((k : Int) + 1)) (j := some ((k : Int) + 2)) rfl (x_bin rfl rfl rfl) (x_bin rfl rfl rfl)
  have c6 : ∀ S, dCut (dVar 0) (some (dVar 2)) (some (dBin oPlus (dVar 2) (dC (.int 1)))) [some (.tup xs), some (.int kind), some (.int (k : Nat)), some (.int (j : Nat)), some (.int bt), none] S = some (.ok (.tup (PD.cutD xs (some (k : Nat)) (some ((k : Int) + 1)))) S) := fun S => x_cut (a := .tup xs) (i := some ((k : Nat) : Int)) (j := some ((k : Int) + 1)) rfl rfl (x_bin rfl rfl rfl)
  have c7 : ∀ S, dCut (dVar 0) (some (dBin oPlus (dVar 2) (dC (.int 2)))) none [some (.tup xs), some (.int kind), some (.int (k : Nat)), some (.int (j : Nat)), some (.int bt), none] S = some (.ok (.tup (PD.cutD xs (some ((k : Int) + 2)) none)) S) := fun S => x_cut (a := .tup xs) (i := some ((k : Int) + 2)) (j := none) rfl (x_bin rfl rfl rfl) trivial
  have L : ∀ lo hi, (PD.cutD xs lo hi).length ≤ 6 := fun lo hi => by have := cut_len xs lo hi; omega
  have M : ∀ lo hi, ∀ x ∈ PD.cutD xs lo hi, PL 390 n x := fun lo hi x h => (hx x (cut_mem h)).mono (by decide)
  have ne4 : (PD.cutD xs (some (k : Nat)) none).length = 6 - k := by
    unfold PD.cutD
    rw [HT.sIx_nat, HT.sIx_none, h6, List.length_take, List.length_drop, h6]
    omega
  have ne2 : 0 < (PD.cutD xs none (some ((k : Int) + 1))).length := by
    have e : ((k : Int) + 1) = ((k + 1 : Nat) : Int) := by omega
    unfold PD.cutD
    rw [e, HT.sIx_nat, HT.sIx_none, h6, List.length_take, List.length_drop, h6]
    omega
  have ne6 : 0 < (PD.cutD xs (some (k : Nat)) (some ((k : Int) + 1))).length := by
    have e : ((k : Int) + 1) = ((k + 1 : Nat) : Int) := by omega
    unfold PD.cutD
    rw [e, HT.sIx_nat, HT.sIx_nat, h6, List.length_take, List.length_drop, h6]
    omega
  have ne3 : 0 < (PD.cutD xs none (some (k : Nat))).length + (PD.cutD xs (some ((k : Int) + 1)) none).length := by
    have e : ((k : Int) + 1) = ((k + 1 : Nat) : Int) := by omega
    unfold PD.cutD
    rw [e, HT.sIx_nat, HT.sIx_nat, HT.sIx_none, HT.sIx_none, h6, List.length_take, List.length_drop, List.length_take, List.length_drop, h6]
    omega
  have nonnil : ∀ ys : List D, 0 < ys.length → ys ≠ [] := fun ys h z => by rw [z] at h; simp at h
  have fin : ∀ ys : List D, 0 < ys.length → ys.length ≤ 30 → (∀ y ∈ ys, PL 390 n y) → (∀ S, D__law_bent [some (.tup xs), some (.int kind), some (.int (k : Nat)), some (.int (j : Nat)), some (.int bt), none] S = some (.rt (.tup ys) S)) → ∃ ys : List D, ys ≠ [] ∧ ys.length ≤ 30 ∧ (∀ y ∈ ys, PL 390 n y) ∧ ∀ S, O__law_bent [.tup xs, .int kind, .int (k : Nat), .int (j : Nat), .int bt] S = some (.ok (.tup ys) S) := fun ys h1 h2 h3 h4 => ⟨ys, nonnil ys h1, h2, h3, fun S => fn_rtS (by rw [st]; exact h4 S) (by simp only [closed]; exact closeds_PL h3)⟩
  simp only [D__law_bent] at fin
  have l1 := L none (some (k : Nat))
  have l2 := L none (some ((k : Int) + 1))
  have l3 := L (some ((k : Int) + 1)) none
  have l4 := L (some (k : Nat)) none
  have l5 := L (some ((k : Int) + 1)) (some ((k : Int) + 2))
  have l6 := L (some (k : Nat)) (some ((k : Int) + 1))
  have l7 := L (some ((k : Int) + 2)) none
  by_cases h0 : kind = 0
  · exact fin _ ne2 (by omega) (M _ _) fun S => q_ifR (tT 0 h0 S) (q_ret (c2 S))
  by_cases h1 : kind = 1
  · refine fin (PD.cutD xs none (some (k : Nat)) ++ [yp] ++ PD.cutD xs (some ((k : Int) + 1)) none) (by simp only [List.length_append, List.length_cons]; omega) (by simp only [List.length_append, List.length_cons, List.length_nil]; omega) (fun y hy => ?_) fun S => q_ifF (tF 0 h0 S) (q_ifR (tT 1 h1 S) (q_ret (x_bin (x_bin (c1 S) (x_tup (y_cons (x_f4 (x_bin rfl rfl (ixTup ek S)) rfl rfl rfl (hyp S)) y_nil) rfl) (oPlusT _ _ (by simp; omega) S)) (c3 S) (oPlusT _ _ (by simp; omega) S))))
    rcases List.mem_append.mp hy with hy | hy
    · rcases List.mem_append.mp hy with hy | hy
      · exact M _ _ y hy
      · rw [List.mem_singleton.mp hy]; exact py
    · exact M _ _ y hy
  by_cases h2 : kind = 2
  · have key : ∀ x : D, ∃ y : D, x ∈ PD.cutD xs (some (k : Nat)) none → PL 390 n y ∧ ∀ S, O__law_more [x, .int (j : Nat), .int 1, .int bt] S = some (.ok y S) := fun x => by
      by_cases hm : x ∈ PD.cutD xs (some (k : Nat)) none
      · obtain ⟨y, p, e⟩ := v_more (by decide) n1 nk (hx x (cut_mem hm)) j hj 1 (.inl rfl) bt b1 b2
        exact ⟨y, fun _ => ⟨p, e⟩⟩
      · exact ⟨.non, fun z => absurd z hm⟩
    have mem : ∀ y ∈ (PD.cutD xs (some (k : Nat)) none).map (fun x => Classical.choose (key x)), PL 390 n y := fun y hy => by
      obtain ⟨x, hx', rfl⟩ := List.mem_map.mp hy
      exact (Classical.choose_spec (key x) hx').1
    have l := fun S => lc_map (own := [5]) (t := .one 5) (elt := dFn 4 O__law_more (dCons (dVar 5) (dCons (dVar 3) (dCons (dC (.int 1)) (dCons (dVar 4) (dNil)))))) (f := dItems (dCut (dVar 0) (some (dVar 2)) none)) (ρ := [some (.tup xs), some (.int kind), some (.int (k : Nat)), some (.int (j : Nat)), some (.int bt), none]) (S := S) (items := PD.cutD xs (some (k : Nat)) none) (fun x => Classical.choose (key x)) (fun x => [some (.tup xs), some (.int kind), some (.int (k : Nat)), some (.int (j : Nat)), some (.int bt), some x])
      (x_items (c4 S) rfl) (fun _ _ => rfl) (fun x hx' T => x_f4 rfl rfl rfl rfl ((Classical.choose_spec (key x) hx').2 T)) (by omega) (closeds_PL mem)
    refine fin (PD.cutD xs none (some (k : Nat)) ++ (PD.cutD xs (some (k : Nat)) none).map (fun x => Classical.choose (key x))) (by rw [List.length_append, List.length_map]; omega) (by rw [List.length_append, List.length_map]; omega) (fun y hy => ?_) fun S => q_ifF (tF 0 h0 S) (q_ifF (tF 1 h1 S) (q_ifR (tT 2 h2 S) (q_ret (x_bin (c1 S) (x_c1 (l S) rfl) (oPlusT _ _ (by simp; omega) S)))))
    rcases List.mem_append.mp hy with hy | hy
    · exact M _ _ y hy
    · exact mem y hy
  by_cases h3 : kind = 3
  · refine fin (PD.cutD xs none (some (k : Nat)) ++ PD.cutD xs (some ((k : Int) + 1)) none) (by rw [List.length_append]; omega) (by simp; omega) (fun y hy => ?_) fun S => q_ifF (tF 0 h0 S) (q_ifF (tF 1 h1 S) (q_ifF (tF 2 h2 S) (q_ifR (tT 3 h3 S) (q_ret (x_bin (c1 S) (c3 S) (oPlusT _ _ (by omega) S))))))
    rcases List.mem_append.mp hy with hy | hy
    · exact M _ _ y hy
    · exact M _ _ y hy
  by_cases h4 : kind = 4
  · refine fin (PD.cutD xs none (some ((k : Int) + 1)) ++ PD.cutD xs (some (k : Nat)) none) (by rw [List.length_append]; omega) (by simp; omega) (fun y hy => ?_) fun S => q_ifF (tF 0 h0 S) (q_ifF (tF 1 h1 S) (q_ifF (tF 2 h2 S) (q_ifF (tF 3 h3 S) (q_ifR (tT 4 h4 S) (q_ret (x_bin (c2 S) (c4 S) (oPlusT _ _ (by omega) S)))))))
    rcases List.mem_append.mp hy with hy | hy
    · exact M _ _ y hy
    · exact M _ _ y hy
  by_cases h5 : kind = 5
  · refine fin (PD.cutD xs none (some (k : Nat)) ++ [ym] ++ PD.cutD xs (some ((k : Int) + 1)) none) (by simp only [List.length_append, List.length_cons]; omega) (by simp only [List.length_append, List.length_cons, List.length_nil]; omega) (fun y hy => ?_) fun S => q_ifF (tF 0 h0 S) (q_ifF (tF 1 h1 S) (q_ifF (tF 2 h2 S) (q_ifF (tF 3 h3 S) (q_ifF (tF 4 h4 S) (q_ifR (tT 5 h5 S) (q_ret (x_bin (x_bin (c1 S) (x_tup (y_cons (x_f4 (x_bin rfl rfl (ixTup ek S)) rfl (x_bin rfl rfl rfl) rfl (hym S)) y_nil) rfl) (oPlusT _ _ (by simp; omega) S)) (c3 S) (oPlusT _ _ (by simp; omega) S))))))))
    rcases List.mem_append.mp hy with hy | hy
    · rcases List.mem_append.mp hy with hy | hy
      · exact M _ _ y hy
      · rw [List.mem_singleton.mp hy]; exact pm
    · exact M _ _ y hy
  by_cases h7 : kind = 6
  · refine fin (PD.cutD xs none (some (k : Nat)) ++ PD.cutD xs (some ((k : Int) + 1)) (some ((k : Int) + 2)) ++ PD.cutD xs (some (k : Nat)) (some ((k : Int) + 1)) ++ PD.cutD xs (some ((k : Int) + 2)) none) (by simp only [List.length_append]; omega) (by simp only [List.length_append]; omega) (fun y hy => ?_) fun S => q_ifF (tF 0 h0 S) (q_ifF (tF 1 h1 S) (q_ifF (tF 2 h2 S) (q_ifF (tF 3 h3 S) (q_ifF (tF 4 h4 S) (q_ifF (tF 5 h5 S) (q_ifR (tT 6 h7 S) (q_ret (x_bin (x_bin (x_bin (c1 S) (c5 S) (oPlusT _ _ (by omega) S)) (c6 S) (oPlusT _ _ (by simp only [List.length_append]; omega) S)) (c7 S) (oPlusT _ _ (by simp only [List.length_append]; omega) S)))))))))
    rcases List.mem_append.mp hy with hy | hy
    · rcases List.mem_append.mp hy with hy | hy
      · rcases List.mem_append.mp hy with hy | hy
        · exact M _ _ y hy
        · exact M _ _ y hy
      · exact M _ _ y hy
    · exact M _ _ y hy
  · have l := fun S => lc_map (own := [5]) (t := .one 5) (elt := dBin oIx (dVar 0) (dVar 2)) (f := dItems (dCut (dVar 0) (some (dVar 2)) none)) (ρ := [some (.tup xs), some (.int kind), some (.int (k : Nat)), some (.int (j : Nat)), some (.int bt), none]) (S := S) (items := PD.cutD xs (some (k : Nat)) none) (fun _ => xs[k]) (fun x => [some (.tup xs), some (.int kind), some (.int (k : Nat)), some (.int (j : Nat)), some (.int bt), some x])
      (x_items (c4 S) rfl) (fun _ _ => rfl) (fun x hx' T => x_bin rfl rfl (ixTup ek T)) (by omega) (closeds_PL (B := 390) (n := n) fun y hy => by
        obtain ⟨_, _, rfl⟩ := List.mem_map.mp hy
        exact xk.mono (by decide))
    refine fin (PD.cutD xs none (some (k : Nat)) ++ (PD.cutD xs (some (k : Nat)) none).map (fun _ => xs[k])) (by rw [List.length_append, List.length_map]; omega) (by rw [List.length_append, List.length_map]; omega) (fun y hy => ?_) fun S => q_ifF (tF 0 h0 S) (q_ifF (tF 1 h1 S) (q_ifF (tF 2 h2 S) (q_ifF (tF 3 h3 S) (q_ifF (tF 4 h4 S) (q_ifF (tF 5 h5 S) (q_ifF (tF 6 h7 S) (q_ret (x_bin (c1 S) (x_c1 (l S) rfl) (oPlusT _ _ (by simp; omega) S)))))))))
    rcases List.mem_append.mp hy with hy | hy
    · exact M _ _ y hy
    · obtain ⟨_, _, rfl⟩ := List.mem_map.mp hy
      exact xk.mono (by decide)
end
end My
set_option Elab.async false
set_option linter.all false
set_option maxRecDepth 100000
set_option maxHeartbeats 4000000
set_option exponentiation.threshold 20000
namespace My
open PySem PySem.Spec PyProof.Rows L2 PD
structure Setup (n : Nat) (R : List (List Int)) (m : Int) (be lim : List Int) (base : Int) : Prop where
  w : Web n R m
  hb : be.length = n ∧ ∀ i < n, 0 ≤ gt be i ∧ gt be i < 2 ^ 5
  hl : lim.length = n ∧ ∀ i < n, 0 ≤ gt lim i ∧ gt lim i < 2 ^ 5
  b1 : 1 ≤ base
  b2 : base < 2 ^ 10
section
variable {n : Nat} {R : List (List Int)} {m : Int} {be lim : List Int} {base : Int} {stay : Bool} {sh : List (List Int)} {T : Nat}
/-- what is gone, as rational vectors -/
def Gq (n : Nat) (R : List (List Int)) (m : Int) (be lim : List Int) (base : Int) (stay : Bool) (sh : List (List Int)) (k : Nat) : Nat → Rat := vw (base * (raw n R m be lim stay sh k).c) (raw n R m be lim stay sh k).g
theorem Setup.v0 (s : Setup n R m be lim base) : ∀ i < n, 0 ≤ vw base be i := fun i hi => by
  have e : (0 : Rat) = ((0 : Int) : Rat) / ((1 : Int) : Rat) := by rw [Rat.intCast_zero, Rat.intCast_one]; grind
  rw [e]
  exact (rat_le (by decide) s.b1).mpr (by have := (s.hb.2 i hi).1; omega)
theorem Setup.L0 (s : Setup n R m be lim base) : ∀ i < n, 0 ≤ vw base lim i := fun i hi => by
  have e : (0 : Rat) = ((0 : Int) : Rat) / ((1 : Int) : Rat) := by rw [Rat.intCast_zero, Rat.intCast_one]; grind
  rw [e]
  exact (rat_le (by decide) s.b1).mpr (by have := (s.hl.2 i hi).1; omega)
theorem Setup.fv (s : Setup n R m be lim base) : FB 10 n (vw base be) := FB.mk' (gt be) base s.b1 s.b2 (fun i hi => by have := s.hb.2 i hi; omega) fun i _ => rfl
theorem Setup.fL (s : Setup n R m be lim base) : FB 10 n (vw base lim) := FB.mk' (gt lim) base s.b1 s.b2 (fun i hi => by have := s.hl.2 i hi; omega) fun i _ => rfl
theorem low_of (w : Web n R m) {xs : List Int} (hx : xs.length = n ∧ ∀ i < n, 0 ≤ gt xs i ∧ gt xs i < 2 ^ 5) (b1 : 1 ≤ base) (b2 : base < 2 ^ 10) (S : Store) : O__law_low [.lst (xs.map .int), .int base] S = some (.ok (rp n (vw base xs)) S) := by
  have p := pow_le (A := 10) (B := 2000) (by decide)
  have p5 := pow_le (A := 5) (B := 2000) (by decide)
  have nk := w.nk
  rw [v_low S xs base b1 (by omega) (fun t ht => by
    obtain ⟨i, hi, rfl⟩ := List.getElem_of_mem ht
    rw [← gt_get hi]
    have := hx.2 i (by omega)
    omega) (by omega), lf_rp (q := vw base xs) b1 hx.1 fun i _ => rfl]
theorem Setup.walk (s : Setup n R m be lim base) (hs : SharesOk n sh T) : Walk n R m (vw base be) (vw base lim) stay T (fun k => vw (base * (raw n R m be lim stay sh k).c) (raw n R m be lim stay sh k).s) (Gq n R m be lim base stay sh) (fun k => vw (base * (raw n R m be lim stay sh k).c) (raw n R m be lim stay sh k).k)
      (fun k => vw (base * (up (fourOf sh) (raw n R m be lim stay sh k)).c) (wantsOf n sh stay k (up (fourOf sh) (raw n R m be lim stay sh k)))) := raw_walk (stay := stay) (T := T) s.w hs s.hb (fun i hi => (s.hl.2 i hi).1) s.b1
theorem Setup.fG (s : Setup n R m be lim base) (hs : SharesOk n sh T) (hT : T ≤ 16) (k : Nat) (hk : k ≤ T) : FB 300 n (Gq n R m be lim base stay sh k) :=
  raw_FB (raw_ok (stay := stay) s.w hs s.hb (fun i hi => (s.hl.2 i hi).1) k hk) s.b1 s.b2 1 300 (by omega) (by omega)
theorem Setup.fG5 (s : Setup n R m be lim base) (hs : SharesOk n sh T) (hT : T ≤ 5) (k : Nat) (hk : k ≤ T) : FB 300 n (Gq n R m be lim base stay sh k) := s.fG hs (by omega) k hk
theorem Setup.course (s : Setup n R m be lim base) (hs : SharesOk n sh T) : Course n R m (vw base be) (Gq n R m be lim base stay sh) T := (s.walk hs).course s.w s.v0 s.L0
theorem Setup.part1 (s : Setup n R m be lim base) (hs : SharesOk n sh T) (hT : T ≤ 16) (S : Store) : O__law_part [.lst (el (ent n R m be lim stay sh T) (T + 1)), .int 1, .int base] S = some (.ok (.tup (cl n (Gq n R m be lim base stay sh) (T + 1))) S) := by
  have := v_part_walk (stay := stay) s.w s.hb (fun i hi => (s.hl.2 i hi).1) hs hT s.b1 s.b2 1 (by decide) 0 (T + 1) (by omega) S
  simp only [Nat.zero_add] at this
  exact this
theorem el_take (e : Nat → St) (T : Nat) (S : Store) : oCut (.lst (el e (T + 1))) none (some (T : Nat)) S = some (.ok (.lst (el e T)) S) := by
  have h : PD.cutD (el e (T + 1)) none (some ((T : Nat) : Int)) = el e T := by
    unfold PD.cutD
    rw [el_len, HT.sIx_none, HT.sIx_nat, List.drop_zero, Nat.sub_zero, Nat.min_eq_left (by omega), el_succ, List.take_left' (el_len e T)]
  simp only [oCut, asList, h]
theorem el_drop (e : Nat → St) (T : Nat) (S : Store) : oCut (.lst (el e (T + 1))) (some 1) none S = some (.ok (.lst ((List.range T).map fun k => entD (e (1 + k)))) S) := by
  have h : PD.cutD (el e (T + 1)) (some 1) none = (List.range T).map fun k => entD (e (1 + k)) := by
    have e1 : HT.sIx (T + 1) 0 (some ((1 : Nat) : Int)) = 1 := by rw [HT.sIx_nat]; omega
    have e2 : ((1 : Nat) : Int) = 1 := rfl
    rw [e2] at e1
    unfold PD.cutD
    rw [el_len, HT.sIx_none, e1]
    unfold el
    rw [List.range_succ_eq_map, List.map_cons, List.drop_succ_cons, List.drop_zero, List.map_map, List.take_of_length_le (by simp)]
    exact List.map_congr_left fun k _ => by show entD (e (k + 1)) = entD (e (1 + k)); rw [Nat.add_comm]
  simp only [oCut, asList, h]
theorem Setup.part0 (s : Setup n R m be lim base) (hs : SharesOk n sh T) (hT : T ≤ 16) (S : Store) : O__law_part [.lst (el (ent n R m be lim stay sh T) T), .int 0, .int base] S = some (.ok (.tup (cl n (stands n R m (vw base be) (Gq n R m be lim base stay sh)) T)) S) := by
  have := v_part_walk (stay := stay) s.w s.hb (fun i hi => (s.hl.2 i hi).1) hs hT s.b1 s.b2 0 (by decide) 0 T (by omega) S
  simp only [Nat.zero_add] at this
  have e : cl n (fun k => vw (base * (raw n R m be lim stay sh k).c) (fld 0 (raw n R m be lim stay sh k))) T = cl n (stands n R m (vw base be) (Gq n R m be lim base stay sh)) T := cl_congr fun k hk i hi => ((s.walk (stay := stay) hs).stands_eq k (by omega) i hi).symm
  rw [e] at this
  exact this
theorem Setup.part2 (s : Setup n R m be lim base) (hs : SharesOk n sh T) (hT : T ≤ 16) (S : Store) : O__law_part [.lst ((List.range T).map fun k => entD (ent n R m be lim stay sh T (1 + k))), .int 2, .int base] S = some (.ok (.tup (cl n (fun k => stayed n R m (vw base be) (Gq n R m be lim base stay sh) (k + 1)) T)) S) := by
  have := v_part_walk (stay := stay) s.w s.hb (fun i hi => (s.hl.2 i hi).1) hs hT s.b1 s.b2 2 (by decide) 1 T (by omega) S
  have e : cl n (fun k => vw (base * (raw n R m be lim stay sh (1 + k)).c) (fld 2 (raw n R m be lim stay sh (1 + k)))) T = cl n (fun k => stayed n R m (vw base be) (Gq n R m be lim base stay sh) (k + 1)) T := cl_congr fun k hk i hi => by
    have := (s.walk (stay := stay) hs).kept s.w s.v0 s.L0 (k := k) (by omega) hi
    rw [Nat.add_comm 1 k]
    exact this
  rw [e] at this
  exact this
theorem told_ok (S : Store) (d : D) {k : Nat} (hk : k ≤ 11) (h : okS k d = true) : O__law_same [.tup [.str "told", d], .tup [.str "told", d]] S = some (.ok (.bl true) S) := by
  refine v_same12 _ S (n := k + 1) (by omega) ?_
  have t : PyData.strOk "told" = true := by decide +kernel
  have h2 : okS k (.str "told") = true := by
    cases k with
    | zero => simp [okS] at h
    | succ k => exact t
  simp [okS, h, h2]
theorem v_one_course {v : Nat → Rat} {c : Nat → Nat → Rat} {A : Nat} (w : Web n R m) (fv : FB A n v) (hA : A ≤ 800) (fc : ∀ k ≤ T, FB 400 n (c k)) (hT : T ≤ 900) (hc : Course n R m v c T) (S : Store) : O__law_one_course [wb R m, rp n v, .tup (cl n c (T + 1)), .tup (cl n (stands n R m v c) T), .tup (cl n (fun k => stayed n R m v c (k + 1)) T)] S = some (.ok (.bl true) S) := by
  refine fn_rtS ?_ rfl
  have st : startD ["_law_net_here", "_law_begin", "_law_flow", "_law_stands", "_law_kepts"] [wb R m, rp n v, .tup (cl n c (T + 1)), .tup (cl n (stands n R m v c) T), .tup (cl n (fun k => stayed n R m v c (k + 1)) T)] = [some (wb R m), some (rp n v), some (.tup (cl n c (T + 1))), some (.tup (cl n (stands n R m v c) T)), some (.tup (cl n (fun k => stayed n R m v c (k + 1)) T))] := rfl
  have a1 : asked "is" (wb R m) (rp n v) (.tup (cl n c (T + 1))) (.int 0) S = some (.ok (.bl true) S) := by
    have := r_is_course w fv hA fc hT S
    rw [course_iff.mpr hc] at this
    exact this
  have a2 : asked "stand" (wb R m) (rp n v) (.tup (cl n c (T + 1))) (.int 0) S = some (.ok (.tup (cl n (stands n R m v c) T)) S) := r_standing_course w fv hA fc hT hc S
  have a3 : asked "kept" (wb R m) (rp n v) (.tup (cl n c (T + 1))) (.int 0) S = some (.ok (.tup (cl n (fun k => stayed n R m v c (k + 1)) T)) S) := r_kept_course w fv hA fc hT hc S
  have nk := w.nk
  have f2 : fits 2 = true := by decide
  simp only [D__law_one_course]
  rw [st]
  have t1 := told_ok S (.bl true) (k := 1) (by decide) rfl
  have t2 := told_ok S (.tup (cl n (stands n R m v c) T)) (k := 4) (by decide) (okS_cl 0 n (by omega) _ T (by omega))
  have t3 := told_ok S (.tup (cl n (fun k => stayed n R m v c (k + 1)) T)) (k := 4) (by decide) (okS_cl 0 n (by omega) _ T (by omega))
  have five : ∀ {x : Str} {r : Option Res} {d e f : D}, O__law_ask [.str x, d, e, f, .int 0] S = r → O__law_ask [.str x, d, e, f, .int 0] S = r := fun h => h
  have b1 : dFn 5 O__law_ask (dCons (dC (.str "is")) (dCons (dVar 0) (dCons (dVar 1) (dCons (dVar 2) (dCons (dC (.int 0)) (dNil)))))) [some (wb R m), some (rp n v), some (.tup (cl n c (T + 1))), some (.tup (cl n (stands n R m v c) T)), some (.tup (cl n (fun k => stayed n R m v c (k + 1)) T))] S = some (.ok (.tup [.str "told", .bl true]) S) := x_fn (y_cons rfl (y_cons rfl (y_cons rfl (y_cons rfl (y_cons rfl y_nil))))) rfl (v_ask "is" (.inr (.inr (.inr (.inr rfl)))) _ _ _ _ _ S rfl a1)
  have b2 : dFn 5 O__law_ask (dCons (dC (.str "stand")) (dCons (dVar 0) (dCons (dVar 1) (dCons (dVar 2) (dCons (dC (.int 0)) (dNil)))))) [some (wb R m), some (rp n v), some (.tup (cl n c (T + 1))), some (.tup (cl n (stands n R m v c) T)), some (.tup (cl n (fun k => stayed n R m v c (k + 1)) T))] S = some (.ok (.tup [.str "told", .tup (cl n (stands n R m v c) T)]) S) := x_fn (y_cons rfl (y_cons rfl (y_cons rfl (y_cons rfl (y_cons rfl y_nil))))) rfl (v_ask "stand" (.inr (.inr (.inl rfl))) _ _ _ _ _ S (by simp only [closed]; exact cl_closed _ _ _) a2)
  have b3 : dFn 5 O__law_ask (dCons (dC (.str "kept")) (dCons (dVar 0) (dCons (dVar 1) (dCons (dVar 2) (dCons (dC (.int 0)) (dNil)))))) [some (wb R m), some (rp n v), some (.tup (cl n c (T + 1))), some (.tup (cl n (stands n R m v c) T)), some (.tup (cl n (fun k => stayed n R m v c (k + 1)) T))] S = some (.ok (.tup [.str "told", .tup (cl n (fun k => stayed n R m v c (k + 1)) T)]) S) := x_fn (y_cons rfl (y_cons rfl (y_cons rfl (y_cons rfl (y_cons rfl y_nil))))) rfl (v_ask "kept" (.inr (.inr (.inr (.inl rfl)))) _ _ _ _ _ S (by simp only [closed]; exact cl_closed _ _ _) a3)
  refine q_ifF (x_notT (x_f2 b1 (x_tup (y_cons rfl (y_cons rfl y_nil)) f2) t1)) ?_
  refine q_ifF (x_notT (x_f2 b2 (x_tup (y_cons rfl (y_cons rfl y_nil)) f2) t2)) ?_
  exact q_ret (x_f2 b3 (x_tup (y_cons rfl (y_cons rfl y_nil)) f2) t3)
/-! ### the two rules -/
theorem four_nil : fourOf [] = 1 := rfl
theorem up_one (x : St) (hc : 1 ≤ x.c) (hB : 1 ≤ base) (xs : List Int) (i : Nat) (hi : i < xs.length) : vw (base * (up 1 x).c) (xs.map (1 * ·)) i = vw (base * x.c) xs i := by
  unfold vw
  rw [gt_map hi]
  exact mul_div (mul_pos1 hB hc) (by decide) (mul_pos1 hB (mul_pos1 hc (by decide))) (by show base * (x.c * 1) = _; rw [Int.mul_assoc])
theorem sh_nil (n T : Nat) : SharesOk n [] T := fun h => by simp at h
theorem shl_nil (n T : Nat) : ShL n [] T := fun h => by simp at h
theorem Setup.wstay (s : Setup n R m be lim base) : ∀ k < T, ∀ i < n, vw (base * (up (fourOf []) (raw n R m be lim true [] k)).c) (wantsOf n [] true k (up (fourOf []) (raw n R m be lim true [] k))) i = 0 := fun k hk i hi => by
  unfold wantsOf vw
  rw [if_neg (by simp), if_pos rfl, gt_rep]
  grind
theorem Setup.wgo (s : Setup n R m be lim base) : ∀ k < T, ∀ i < n, vw (base * (up (fourOf []) (raw n R m be lim false [] k)).c) (wantsOf n [] false k (up (fourOf []) (raw n R m be lim false [] k))) i = vw (base * (raw n R m be lim false [] k).c) (raw n R m be lim false [] k).s i := fun k hk i hi => by
  have rk := raw_ok (stay := false) s.w (sh_nil n T) s.hb (fun i hi => (s.hl.2 i hi).1) k (by omega)
  unfold wantsOf
  rw [if_neg (by simp), if_neg Bool.false_ne_true]
  exact up_one _ rk.c1 s.b1 _ i (by rw [rk.ls]; exact hi)
theorem Setup.eq_stay (s : Setup n R m be lim base) : ∀ k < T, ∀ i < n, Gq n R m be lim base true [] (k + 1) i = mxR (vw base be i + stp n R m (Gq n R m be lim base true [] k) i) (vw base lim i) - vw base lim i := fun k hk i hi =>
  (s.walk (stay := true) (sh_nil n T)).stay_eq s.w s.v0 s.L0 (s.wstay (T := T)) hk hi
theorem Setup.eq_go (s : Setup n R m be lim base) : ∀ k < T, ∀ i < n, Gq n R m be lim base false [] (k + 1) i = mnR (vw base lim i) (vw base be i + stp n R m (Gq n R m be lim base false [] k) i) := fun k hk i hi =>
  (s.walk (stay := false) (sh_nil n T)).go_eq s.w s.v0 s.L0 (s.wgo (T := T)) hk hi
theorem Setup.least (s : Setup n R m be lim base) {T' : Nat} (hs : SharesOk n sh T') (k : Nat) (h1 : k ≤ T) (h2 : k ≤ T') : ∀ i < n, Gq n R m be lim base true [] k i ≤ Gq n R m be lim base true sh k i :=
  stay_least (s.walk (stay := true) (sh_nil n T)) (s.walk (stay := true) hs) s.w s.v0 s.L0 (s.wstay (T := T)) k h1 h2
theorem Setup.most (s : Setup n R m be lim base) {T' : Nat} (hs : SharesOk n sh T') (k : Nat) (h1 : k ≤ T) (h2 : k ≤ T') : ∀ i < n, Gq n R m be lim base false sh k i ≤ Gq n R m be lim base false [] k i :=
  go_most (s.walk (stay := false) (sh_nil n T)) (s.walk (stay := false) hs) s.w s.v0 s.L0 (s.wgo (T := T)) k h1 h2
theorem Setup.z (s : Setup n R m be lim base) : ∀ i < n, Gq n R m be lim base stay sh 0 i = 0 := fun i hi => by
  simp only [Gq, raw, vw]
  rw [gt_rep]
  grind
end
end My
set_option Elab.async false
set_option linter.all false
set_option maxRecDepth 100000
set_option maxHeartbeats 4000000
set_option exponentiation.threshold 20000
namespace My
open PySem PySem.Spec PyProof.Rows L2 PD
noncomputable abbrev rulB : SDen := sSeq (sSet 17 (dBin oIx (dVar 11) (dVar 16))) (sSeq (sSet 18 (dBin oIx (dVar 15) (dVar 16))) (sSeq (sIf (dBin oEq (dVar 3) (dC (.str "go"))) (sSeq (sSet 17 (dBin oIx (dVar 15) (dVar 16))) (sSeq (sSet 18 (dBin oIx (dVar 11) (dVar 16))) (sNil))) (sNil)) (sSeq (sIf (dNot (dTru (dFn 2 O__law_within (dCons (dVar 17) (dCons (dVar 18) (dNil)))))) (sSeq (sRet (dC (.bl false))) (sNil)) (sNil)) (sNil))))
section
variable {n : Nat} {R : List (List Int)} {m : Int} {be lim : List Int} {base : Int} {stay : Bool} {sh : List (List Int)} {T : Nat}
theorem rul_loop (s : Setup n R m be lim base) (hs : SharesOk n sh 5) (hT : T ≤ 16) (S : Store) (all : List D) (r0 r1 r2 r4 r5 r6 r7 r8 r9 r10 r12 r13 r14 : Option D) : ∀ (ks : List Nat) (r16 r17 r18 : Option D), (∀ k ∈ ks, k ≤ T ∧ k ≤ 5) → ∃ q16 q17 q18, forLoop none all (tName 16) rulB (ks.map fun k => D.int (k : Nat)) [r0, r1, r2, some (.str (man stay)), r4, r5, r6, r7, r8, r9, r10, some (.tup (cl n (Gq n R m be lim base stay []) (T + 1))), r12, r13, r14, some (.tup (cl n (Gq n R m be lim base stay sh) 6)), r16, r17, r18] S =
    some (.nx [r0, r1, r2, some (.str (man stay)), r4, r5, r6, r7, r8, r9, r10, some (.tup (cl n (Gq n R m be lim base stay []) (T + 1))), r12, r13, r14, some (.tup (cl n (Gq n R m be lim base stay sh) 6)), q16, q17, q18] S)
  | [], r16, r17, r18, _ => ⟨r16, r17, r18, rfl⟩
  | k :: ks, r16, r17, r18, hk => by
    obtain ⟨k1, k2⟩ := hk k List.mem_cons_self
    have i1 : oIx (.tup (cl n (Gq n R m be lim base stay []) (T + 1))) (.int (k : Nat)) S = some (.ok (rp n (Gq n R m be lim base stay [] k)) S) := ix_cl (by omega) S
    have i2 : oIx (.tup (cl n (Gq n R m be lim base stay sh) 6)) (.int (k : Nat)) S = some (.ok (rp n (Gq n R m be lim base stay sh k)) S) := ix_cl (by omega) S
    have f1 := s.fG (stay := stay) (sh_nil n T) hT k k1
    have f2 := s.fG (stay := stay) hs (by decide) k k2
    have eg : ∀ r17 r18, dBin oEq (dVar 3) (dC (.str "go")) [r0, r1, r2, some (.str (man stay)), r4, r5, r6, r7, r8, r9, r10, some (.tup (cl n (Gq n R m be lim base stay []) (T + 1))), r12, r13, r14, some (.tup (cl n (Gq n R m be lim base stay sh) 6)), some (.int (k : Nat)), r17, r18] S = some (.ok (.bl (man stay == "go")) S) := fun _ _ => x_bin rfl rfl (o_eqS (strMan stay) strGo S)
    have rec_ := fun a b c => rul_loop s hs hT S all r0 r1 r2 r4 r5 r6 r7 r8 r9 r10 r12 r13 r14 ks a b c fun y hy => hk y (List.mem_cons_of_mem _ hy)
    cases stay
    · have wi := r_within f2 f1 (by decide) (by decide) s.w.n1 s.w.nk S
      rw [leB_iff.mpr (s.most hs k k1 k2)] at wi
      rw [show (man false == ("go" : Str)) = true by decide] at eg
      obtain ⟨q16, q17, q18, ih⟩ := rec_ (some (.int (k : Nat))) (some (rp n (Gq n R m be lim base false sh k))) (some (rp n (Gq n R m be lim base false [] k)))
      refine ⟨q16, q17, q18, loop_cons_nx rfl ?_ ih⟩
      exact q_set (x_bin rfl rfl i1) (q_set (x_bin rfl rfl i2) (q_nx (s_ifT (eg _ _) (q_set (x_bin rfl rfl i2) (q_set (x_bin rfl rfl i1) rfl))) (q_ifF (x_notT (x_f2 rfl rfl wi)) rfl)))
    · have wi := r_within f1 f2 (by decide) (by decide) s.w.n1 s.w.nk S
      rw [leB_iff.mpr (s.least hs k k1 k2)] at wi
      rw [show (man true == ("go" : Str)) = false by decide] at eg
      obtain ⟨q16, q17, q18, ih⟩ := rec_ (some (.int (k : Nat))) (some (rp n (Gq n R m be lim base true [] k))) (some (rp n (Gq n R m be lim base true sh k)))
      refine ⟨q16, q17, q18, loop_cons_nx rfl ?_ ih⟩
      exact q_set (x_bin rfl rfl i1) (q_set (x_bin rfl rfl i2) (q_nx (s_ifF (eg _ _) rfl) (q_ifF (x_notT (x_f2 rfl rfl wi)) rfl)))
theorem x_k3210 {f1 f2 f3 f4 : Den} {ρ : EnvD} {S : Store} {d1 d2 d3 d4 : D} {F : Op} {r : Option Res} (h1 : f1 ρ S = some (.ok d1 S)) (h2 : f2 ρ S = some (.ok d2 S)) (h3 : f3 ρ S = some (.ok d3 S)) (h4 : f4 ρ S = some (.ok d4 S)) (hF : F [d4, d3, d2, d1] S = r) : dFnK 4 4 [3, 2, 1, 0] F (dCons f1 (dCons f2 (dCons f3 (dCons f4 dNil)))) ρ S = r := x_fnK (y_cons h1 (y_cons h2 (y_cons h3 (y_cons h4 y_nil)))) ⟨rfl, rfl⟩ hF
theorem x_k210 {f1 f2 f3 : Den} {ρ : EnvD} {S : Store} {d1 d2 d3 : D} {F : Op} {r : Option Res} (h1 : f1 ρ S = some (.ok d1 S)) (h2 : f2 ρ S = some (.ok d2 S)) (h3 : f3 ρ S = some (.ok d3 S)) (hF : F [d3, d2, d1] S = r) : dFnK 3 3 [2, 1, 0] F (dCons f1 (dCons f2 (dCons f3 dNil))) ρ S = r := x_fnK (y_cons h1 (y_cons h2 (y_cons h3 y_nil))) ⟨rfl, rfl⟩ hF
theorem v_rules (s : Setup n R m be lim base) (hs : SharesOk n sh 5) (hsl : ShL n sh 5) (hT : T ≤ 16) (S : Store) : O__law_rules [wb R m, .lst (be.map .int), .lst (lim.map .int), .str (man stay), shD sh, .int (T : Nat), .int base] S = some (.ok (.bl true) S) := by
  refine fn_rtS ?_ rfl
  have st : startD ["_law_net_here", "_law_begin", "_law_limit", "_law_manner", "_law_shares", "_law_upto", "_law_base", "_law_load", "_law_most", "_law_walk_here", "_law_due", "_law_told", "_law_again", "_law_stands", "_law_drawn", "_law_flow", "_law_k", "_law_low_here", "_law_high"] [wb R m, .lst (be.map .int), .lst (lim.map .int), .str (man stay), shD sh, .int (T : Nat), .int base] = [some (wb R m), some (.lst (be.map .int)), some (.lst (lim.map .int)), some (.str (man stay)), some (shD sh), some (.int (T : Nat)), some (.int base), none, none, none, none, none, none, none, none, none, none, none, none] := rfl
  have nk := s.w.nk
  have l1 := low_of s.w s.hb s.b1 s.b2 S
  have l2 := low_of s.w s.hl s.b1 s.b2 S
  have w1 := v_walk (stay := stay) s.w s.hb s.hl (sh_nil n T) (shl_nil n T) hT S
  have w2 := v_walk (stay := stay) (T := 5) s.w s.hb s.hl hs hsl (by decide) S
  have p1 := s.part1 (stay := stay) (sh_nil n T) hT S
  have p0 := s.part0 (stay := stay) (sh_nil n T) hT S
  have p2 := s.part2 (stay := stay) (sh_nil n T) hT S
  have d1 := s.part1 (stay := stay) hs (by decide) S
  have d0 := s.part0 (stay := stay) hs (by decide) S
  have d2 := s.part2 (stay := stay) hs (by decide) S
  have fG : ∀ k ≤ T, FB 400 n (Gq n R m be lim base stay [] k) := fun k hk => (s.fG (sh_nil n T) hT k hk).mono (by decide)
  have fD : ∀ k ≤ 5, FB 400 n (Gq n R m be lim base stay sh k) := fun k hk => (s.fG hs (by decide) k hk).mono (by decide)
  have o1 := v_one_course s.w s.fv (by decide) fG (by omega) (s.course (sh_nil n T)) S
  have o2 := v_one_course s.w s.fv (by decide) fD (by decide) (s.course hs) S
  have sm := v_same12 (.tup (cl n (Gq n R m be lim base stay []) (T + 1))) S (n := 4) (by decide) (okS_cl 0 n (by omega) _ (T + 1) (by omega))
  have es : ∀ (r7 r8 r9 r10 : Option D), dBin oEq (dVar 3) (dC (.str "stay")) [some (wb R m), some (.lst (be.map .int)), some (.lst (lim.map .int)), some (.str (man stay)), some (shD sh), some (.int (T : Nat)), some (.int base), r7, r8, r9, r10, none, none, none, none, none, none, none, none] S = some (.ok (.bl (man stay == "stay")) S) := fun _ _ _ _ => x_bin rfl rfl (o_eqS (strMan stay) strStay S)
  -- the package's course, told twice
  have tw : ∀ (r9 r10 : Option D), sIf (dBin oEq (dVar 3) (dC (.str "stay"))) (sSeq (sSet 11 (dFn 4 O_stay_course (dCons (dVar 0) (dCons (dVar 7) (dCons (dVar 8) (dCons (dVar 5) (dNil))))))) (sSeq (sSet 12 (dFnK 4 4 [3, 2, 1, 0] O_stay_course (dCons (dVar 5) (dCons (dVar 8) (dCons (dVar 7) (dCons (dVar 0) (dNil))))))) (sNil))) (sSeq (sSet 11 (dFn 4 O_go_course (dCons (dVar 0) (dCons (dVar 7) (dCons (dVar 8) (dCons (dVar 5) (dNil))))))) (sSeq (sSet 12 (dFnK 4 4 [3, 2, 1, 0] O_go_course (dCons (dVar 5) (dCons (dVar 8) (dCons (dVar 7) (dCons (dVar 0) (dNil))))))) (sNil)))
      [some (wb R m), some (.lst (be.map .int)), some (.lst (lim.map .int)), some (.str (man stay)), some (shD sh), some (.int (T : Nat)), some (.int base), some (rp n (vw base be)), some (rp n (vw base lim)), r9, r10, none, none, none, none, none, none, none, none] S =
      some (.nx [some (wb R m), some (.lst (be.map .int)), some (.lst (lim.map .int)), some (.str (man stay)), some (shD sh), some (.int (T : Nat)), some (.int base), some (rp n (vw base be)), some (rp n (vw base lim)), r9, r10, some (.tup (cl n (Gq n R m be lim base stay []) (T + 1))), some (.tup (cl n (Gq n R m be lim base stay []) (T + 1))), none, none, none, none, none, none] S) := by
    intro r9 r10
    have e := es (some (rp n (vw base be))) (some (rp n (vw base lim))) r9 r10
    cases stay
    · rw [show (man false == ("stay" : Str)) = false by decide] at e
      have g := r_go_course s.w s.fv s.fL (by decide) (by decide) fG (by omega) s.z s.eq_go S
      exact s_ifF e (q_set (x_f4 rfl rfl rfl rfl g) (q_set (x_k3210 rfl rfl rfl rfl g) rfl))
    · rw [show (man true == ("stay" : Str)) = true by decide] at e
      have g := r_stay_course s.w s.fv s.fL (by decide) (by decide) fG (by omega) s.z s.eq_stay S
      exact s_ifT e (q_set (x_f4 rfl rfl rfl rfl g) (q_set (x_k3210 rfl rfl rfl rfl g) rfl))
  simp only [D__law_rules]
  rw [st]
  obtain ⟨q16, q17, q18, lp⟩ := rul_loop (stay := stay) s hs hT S (rgD 0 (min T 5 + 1)) (some (wb R m)) (some (.lst (be.map .int))) (some (.lst (lim.map .int))) (some (shD sh)) (some (.int (T : Nat))) (some (.int base)) (some (rp n (vw base be))) (some (rp n (vw base lim))) (some (.lst (el (ent n R m be lim stay [] T) (T + 1)))) (some (.tup (cl n (Gq n R m be lim base stay []) (T + 1)))) (some (.tup (cl n (Gq n R m be lim base stay []) (T + 1)))) (some (.tup (cl n (stands n R m (vw base be) (Gq n R m be lim base stay [])) T))) (some (.lst (el (ent n R m be lim stay sh 5) (5 + 1)))) (List.range (min T 5 + 1)) none none none fun k hk => by have := List.mem_range.mp hk; omega
  rw [← rgD_map] at lp
  refine q_set (x_f2 rfl rfl l1) (q_set (x_f2 rfl rfl l2) (q_set (x_fn (y_cons rfl (y_cons rfl (y_cons rfl (y_cons rfl (y_cons (x_lst y_nil rfl) (y_cons rfl y_nil)))))) rfl w1) (q_set (x_f3 rfl rfl rfl p1) (q_nx (tw _ _) ?_))))
  refine q_ifF (x_orF (x_notT (x_f2 rfl rfl sm)) (x_notT (x_f2 rfl rfl sm))) ?_
  refine q_set (x_f3 ((x_cut (a := .lst (el (ent n R m be lim stay [] T) (T + 1))) (i := none) (j := some ((T : Nat) : Int)) rfl trivial rfl).trans (el_take _ T S)) rfl rfl p0) ?_
  refine q_ifF (x_notT (x_fn (y_cons rfl (y_cons rfl (y_cons rfl (y_cons rfl (y_cons (x_f3 ((x_cut (a := .lst (el (ent n R m be lim stay [] T) (T + 1))) (i := some 1) (j := none) rfl rfl trivial).trans (el_drop _ T S)) rfl rfl p2) y_nil))))) rfl o1)) ?_
  refine q_set (x_fn (y_cons rfl (y_cons rfl (y_cons rfl (y_cons rfl (y_cons rfl (y_cons rfl y_nil)))))) rfl w2) (q_set (x_f3 rfl rfl rfl d1) ?_)
  have rg : ∀ (r9 r10 r11 r12 r13 r14 r15 : Option D), dRange1 (dBin oPlus (dCall oMin2 (dCons (dVar 5) (dCons (dC (.int 5)) (dNil)))) (dC (.int 1))) [some (wb R m), some (.lst (be.map .int)), some (.lst (lim.map .int)), some (.str (man stay)), some (shD sh), some (.int (T : Nat)), some (.int base), some (rp n (vw base be)), some (rp n (vw base lim)), r9, r10, r11, r12, r13, r14, r15, none, none, none] S = some (.ok (rgD 0 (min T 5 + 1)) none S) := fun _ _ _ _ _ _ _ => by
    refine range1_of (x_bin (x_c2 rfl rfl (mn_op _ _ S)) rfl ?_) (by omega)
    show some (Res.ok (D.int (mn (T : Nat) 5 + 1)) S) = some (Res.ok (D.int ((min T 5 + 1 : Nat) : Int)) S)
    have : mn ((T : Nat) : Int) 5 + 1 = ((min T 5 + 1 : Nat) : Int) := by
      unfold mn
      split <;> omega
    rw [this]
  refine q_for (w := none) (items := rgD 0 (min T 5 + 1)) (S1 := S) (rg _ _ _ _ _ _ _) lp ?_
  exact q_ret (x_fn (y_cons rfl (y_cons rfl (y_cons rfl (y_cons (x_f3 ((x_cut (a := .lst (el (ent n R m be lim stay sh 5) (5 + 1))) (i := none) (j := some 5) rfl trivial rfl).trans (el_take _ 5 S)) rfl rfl d0) (y_cons (x_f3 ((x_cut (a := .lst (el (ent n R m be lim stay sh 5) (5 + 1))) (i := some 1) (j := none) rfl rfl trivial).trans (el_drop _ 5 S)) rfl rfl d2) y_nil))))) rfl o2)
end
end My
set_option Elab.async false
set_option linter.all false
set_option maxRecDepth 100000
set_option maxHeartbeats 4000000
set_option exponentiation.threshold 20000
namespace My
open PySem PySem.Spec PyProof.Rows L2 PD
theorem o_repT0 (x : D) (n : Nat) (hn : n ≤ 1000) (S : Store) : oMul (.tup [x]) (.int (n : Nat)) S = some (.ok (.tup (List.replicate n x)) S) := by
  simp only [oMul]
  by_cases h : (n : Int) = 1
  · have : n = 1 := by omega
    subst this
    rfl
  · rw [if_neg h]
    by_cases h0 : (n : Int) = 0
    · have : n = 0 := by omega
      subst this
      rfl
    · rw [if_neg (by omega), if_pos ⟨by omega, by omega, by simp, by simp⟩, Int.toNat_natCast, flat_rep]
theorem rep_int (n : Nat) (x : Int) : List.replicate n (D.int x) = (List.replicate n x).map .int := by rw [List.map_replicate]
/-! ### what is no row of loads -/
def zs (n : Nat) : D := .tup (List.replicate n (.int 0))
def strange (n : Nat) (xs : List D) : List D :=
  [.lst xs, .tup [], .non, .tup [zs n, .int 1], .tup (xs ++ [.non]), .tup [.tup [zs (n + 1), .int 1]], .tup [.tup [zs n, .int 2]]] ++
  [.tup [.tup [.tup ([.bl false] ++ List.replicate (n - 1) (.int 0)), .int 1]], .tup [.lst [zs n, .int 1]], .str "course", .int 0, .tup [.tup [zs n, .int 1], .lst [zs n, .int 1]]]
theorem tell_rep (n : Nat) (x : Int) : (List.replicate n (D.int x)).all told = true := List.all_eq_true.mpr fun d hd => by rw [List.eq_of_mem_replicate hd]; rfl
theorem tellL_two (xs : List D) (b : D) (h1 : xs.all told = true) (h2 : xs.length ≤ 1000) (hb : told b = true) (hb2 : ∀ ys, b ≠ .tup ys) : tellL (.tup [.tup xs, b]) = true := by
  have t : tell (.tup xs) = true := h1
  cases b with
  | tup ys => exact absurd rfl (hb2 ys)
  | _ => simp [tellL, t, h2, tell, hb]; exact List.all_eq_true.mp h1
theorem tellL_zs (n : Nat) (hn : n ≤ 1000) (x : Int) (b : D) (hb : told b = true) (hb2 : ∀ ys, b ≠ .tup ys) : tellL (.tup [.tup (List.replicate n (.int x)), b]) = true :=
  tellL_two _ b (tell_rep n x) (by simp [hn]) hb hb2
theorem loadB_pair {n : Int} {x y : D} (h : numsB n x = false ∨ bott y = false) : loadB n (.tup [x, y]) = false := by
  simp only [loadB]
  rcases h with h | h <;> simp [h]
theorem strange_ok {n : Nat} (n1 : 1 ≤ n) (nk : n ≤ 60) (xs : List D) (hl : xs.length ≤ 900) (hx : ∀ x ∈ xs, PL 400 n x) : ∀ d ∈ strange n xs, tellC d = true ∧ areB n d = false := by
  have tx : ∀ x ∈ xs, tellL x = true := fun x h => by
    obtain ⟨q, rfl, fq⟩ := hx x h
    obtain ⟨ts, b, e, lo, _⟩ := fq.lo (by decide) n1 nk
    rw [e]
    exact tellL_ld ts b (by have := lo.len; omega)
  have one : ∀ x : D, tellC (.tup [x]) = tellL x := fun x => by simp [tellC]
  have are1 : ∀ x : D, areB n (.tup [x]) = loadB n x := fun x => by simp [areB]
  intro d hd
  simp only [strange, List.cons_append, List.nil_append, List.mem_cons, List.not_mem_nil, or_false] at hd
  rcases hd with rfl | rfl | rfl | rfl | rfl | rfl | rfl | rfl | rfl | rfl | rfl | rfl
  · exact ⟨rfl, rfl⟩
  · exact ⟨rfl, rfl⟩
  · exact ⟨rfl, rfl⟩
  · refine ⟨?_, ?_⟩
    · have a : tellL (zs n) = true := by
        simp only [zs, tellL]
        exact List.all_eq_true.mpr fun d hd => by rw [List.eq_of_mem_replicate hd]; rfl
      simp [tellC, a]
      rfl
    · simp [areB, loadB]
  · refine ⟨?_, ?_⟩
    · simp only [tellC, List.length_append, List.length_cons, List.length_nil, List.all_append, List.all_cons, List.all_nil, Bool.and_true, Bool.and_eq_true, decide_eq_true_eq]
      exact ⟨by omega, List.all_eq_true.mpr tx, rfl⟩
    · simp [areB, loadB]
  · rw [one, are1]
    refine ⟨tellL_zs (n + 1) (by omega) 0 (.int 1) rfl (fun _ h => by cases h), loadB_pair (.inl ?_)⟩
    simp only [zs, numsB, List.length_replicate]
    rw [beq_eq_false_iff_ne.mpr (by omega)]
    rfl
  · rw [one, are1]
    refine ⟨tellL_zs n (by omega) 0 (.int 2) rfl (fun _ h => by cases h), ?_⟩
    have c : cd ((List.replicate n (D.int 0)).map ival ++ [2]) = 2 := cd_eq (by decide) (fun x hx => by
      rcases List.mem_append.mp hx with h | h
      · rw [List.map_replicate] at h
        rw [List.eq_of_mem_replicate h]
        exact Int.dvd_zero _
      · rw [List.mem_singleton.mp h]
        exact Int.dvd_refl _) fun e he => he 2 (List.mem_append_right _ (List.mem_singleton.mpr rfl))
    simp only [zs, loadB]
    rw [c]
    simp
  · rw [one, are1]
    refine ⟨?_, loadB_pair (.inl ?_)⟩
    · refine tellL_two _ _ ?_ (by simp; omega) rfl (fun _ h => by cases h)
      simp only [List.cons_append, List.nil_append, List.all_cons, tell_rep, Bool.and_true]
      rfl
    · simp [numsB, numb]
  · rw [one, are1]
    exact ⟨rfl, rfl⟩
  · exact ⟨rfl, rfl⟩
  · exact ⟨rfl, rfl⟩
  · refine ⟨?_, ?_⟩
    · have a : tellL (.tup [zs n, .int 1]) = true := tellL_zs n (by omega) 0 (.int 1) rfl (fun _ h => by cases h)
      simp [tellC, a]
      rfl
    · simp [areB, loadB]
theorem v_strange {n : Nat} (n1 : 1 ≤ n) (nk : n ≤ 60) (xs : List D) (hl : xs.length ≤ 900) (hx : ∀ x ∈ xs, PL 400 n x) (kind : Int) : ∃ d, tellC d = true ∧ areB n d = false ∧ ∀ S, O__law_strange [.int kind, .int (n : Nat), .tup xs] S = some (.ok d S) := by
  have len : (strange n xs).length = 12 := rfl
  obtain ⟨d, hd, ix⟩ := ixL (strange n xs) (kind % 12) (Int.emod_nonneg _ (by decide)) (by rw [len]; exact Int.emod_lt_of_pos _ (by decide))
  obtain ⟨d1, d2⟩ := strange_ok n1 nk xs hl hx d hd
  have cls : ∀ x ∈ strange n xs, closed x = true := by
    have cx : closeds xs = true := closeds_PL hx
    have cz : ∀ k, closeds (List.replicate k (D.int 0)) = true := fun k => by
      rw [closeds_all]
      exact List.all_eq_true.mpr fun x hx => by rw [List.eq_of_mem_replicate hx]; rfl
    intro x hx
    simp only [strange, List.cons_append, List.nil_append, List.mem_cons, List.not_mem_nil, or_false] at hx
    rcases hx with rfl | rfl | rfl | rfl | rfl | rfl | rfl | rfl | rfl | rfl | rfl | rfl
    all_goals (try simp only [zs, closed, closeds, cz, cx, Bool.and_true, Bool.true_and, Bool.and_self])
    · rw [closeds_all, List.all_append, ← closeds_all, cx]
      rfl
  refine ⟨d, d1, d2, fun S => fn_rtS ?_ (cls d hd)⟩
  have st : startD ["_law_kind", "_law_size", "_law_flow", "_law_none", "_law_odd_here"] [.int kind, .int (n : Nat), .tup xs] = [some (.int kind), some (.int (n : Nat)), some (.tup xs), none, none] := rfl
  simp only [D__law_strange]
  rw [st]
  have z0 : ∀ T, oMul (.tup [.int 0]) (.int (n : Nat)) T = some (.ok (zs n) T) := fun T => o_repT0 (.int 0) n (by omega) T
  have z1 : ∀ T, oMul (.tup [.int 0]) (.int ((n : Nat) + 1)) T = some (.ok (zs (n + 1)) T) := fun T => o_repT0 (.int 0) (n + 1) (by omega) T
  have z2 : ∀ T, oMul (.tup [.int 0]) (.int ((n : Nat) - 1)) T = some (.ok (.tup (List.replicate (n - 1) (.int 0))) T) := fun T => by
    have := o_repT0 (.int 0) (n - 1) (by omega) T
    rwa [show ((n - 1 : Nat) : Int) = (n : Nat) - 1 by omega] at this
  have tz : dTup (dCons (dBin oMul (dTup (dCons (dC (.int 0)) (dNil))) (dVar 1)) (dCons (dC (.int 1)) (dNil))) [some (.int kind), some (.int (n : Nat)), some (.tup xs), none, none] S = some (.ok (.tup [zs n, .int 1]) S) := x_tup (y_cons (x_bin (x_tup (y_cons rfl y_nil) rfl) rfl (z0 S)) (y_cons rfl y_nil)) rfl
  have e1 : oPlus (.tup xs) (.tup [.non]) S = some (.ok (.tup (xs ++ [.non])) S) := oPlusT _ _ (by simp; omega) S
  have e2 : oPlus (.tup [.bl false]) (.tup (List.replicate (n - 1) (.int 0))) S = some (.ok (.tup ([.bl false] ++ List.replicate (n - 1) (.int 0))) S) := oPlusT _ _ (by simp; omega) S
  refine q_set tz ?_
  refine q_set (x_lst (y_cons (x_c1 rfl rfl) (y_cons rfl (y_cons rfl (y_cons rfl (y_cons (x_bin rfl (x_tup (y_cons rfl y_nil) rfl) e1) (y_cons (x_tup (y_cons (x_tup (y_cons (x_bin (x_tup (y_cons rfl y_nil) rfl) (x_bin rfl rfl rfl) (z1 S)) (y_cons rfl y_nil)) rfl) y_nil) rfl) (y_cons (x_tup (y_cons (x_tup (y_cons (x_bin (x_tup (y_cons rfl y_nil) rfl) rfl (z0 S)) (y_cons rfl y_nil)) rfl) y_nil) rfl) y_nil))))))) rfl) ?_
  refine q_set (d := .lst (strange n xs)) (x_bin rfl (x_lst (y_cons (x_tup (y_cons (x_tup (y_cons (x_bin (x_tup (y_cons rfl y_nil) rfl) (x_bin (x_tup (y_cons rfl y_nil) rfl) (x_bin rfl rfl rfl) (z2 S)) e2) (y_cons rfl y_nil)) rfl) y_nil) rfl) (y_cons (x_tup (y_cons (x_lst (y_cons (x_bin (x_tup (y_cons rfl y_nil) rfl) rfl (z0 S)) (y_cons rfl y_nil)) rfl) y_nil) rfl) (y_cons rfl (y_cons rfl (y_cons (x_tup (y_cons rfl (y_cons (x_c1 rfl rfl) y_nil)) rfl) y_nil))))) rfl) rfl) ?_
  exact q_ret (x_bin rfl (x_bin (x_c1 rfl rfl) rfl (o_mod (by decide) S)) (ix S))
theorem refused_same (S : Store) (y : Str) (hy : PyData.strOk y = true) : O__law_same [.tup [.str "refused", .str y, .int (-1)], .tup [.str "refused", .str y, .int (-1)]] S = some (.ok (.bl true) S) := by
  refine v_same12 _ S (n := 2) (by decide) ?_
  have t : PyData.strOk "refused" = true := by decide +kernel
  simp [okS, t, hy]
theorem strCourse : PyData.strOk "course" = true := by decide +kernel
theorem strTold : PyData.strOk "told" = true := by decide +kernel
section
variable {n : Nat} {R : List (List Int)} {m : Int} {v : Nat → Rat} {c : Nat → Nat → Rat} {T A : Nat}
def sk (x : Str) : Prop := x = "stand" ∨ x = "kept"
theorem sk.five {x : Str} (h : sk x) : five5 x := h.elim (fun z => .inr (.inr (.inl z))) fun z => .inr (.inr (.inr (.inl z)))
theorem ask_yes (w : Web n R m) (fv : FB A n v) (hA : A ≤ 800) (fc : ∀ k ≤ T, FB 400 n (c k)) (hT : T ≤ 900) (hc : courseB n R m v c T = true) (x : Str) (hx : sk x) : ∃ zs : List D, zs.length = T ∧ ∀ S, O__law_ask [.str x, wb R m, rp n v, .tup (cl n c (T + 1)), .int 0] S = some (.ok (.tup [.str "told", .tup zs]) S) := by
  have hc' := course_iff.mp hc
  rcases hx with rfl | rfl
  · exact ⟨_, cl_len _ _ _, fun S => v_ask "stand" (sk.five (.inl rfl)) _ _ _ _ _ S (by simp only [closed]; exact cl_closed _ _ _) (r_standing_course w fv hA fc hT hc' S)⟩
  · exact ⟨_, cl_len _ _ _, fun S => v_ask "kept" (sk.five (.inr rfl)) _ _ _ _ _ S (by simp only [closed]; exact cl_closed _ _ _) (r_kept_course w fv hA fc hT hc' S)⟩
theorem ask_no (w : Web n R m) (s d : D) (hs : IsL n s true) (h : ∀ S, O_is_course_of [wb R m, s, d] S = some (.ok (.bl false) S)) (x : Str) (hx : sk x) (S : Store) : O__law_ask [.str x, wb R m, s, d, .int 0] S = some (.ok (.tup [.str "refused", .str "course", .int (-1)]) S) := by
  rcases hx with rfl | rfl
  · exact n_ask "stand" (sk.five (.inl rfl)) _ _ _ _ S "course" (n_standing_course w s d "course" S (v_require_course_no w s d hs S (h S)))
  · exact n_ask "kept" (sk.five (.inr rfl)) _ _ _ _ S "course" (n_kept_course w s d "course" S (v_require_course_no w s d hs S (h S)))
end
noncomputable abbrev benB : SDen := sSeq (sSet 11 (dFn 5 O__law_ask (dCons (dVar 10) (dCons (dVar 0) (dCons (dVar 6) (dCons (dVar 8) (dCons (dC (.int 0)) (dNil)))))))) (sSeq (sIf (dAnd (dTru (dVar 9)) (dOr (dBin oNe (dBin oIx (dVar 11) (dC (.int 0))) (dC (.str "told"))) (dOr (dNot (dTru (dIsi "tuple" (dBin oIx (dVar 11) (dC (.int 1)))))) (dBin oNe (dCall oLen (dCons (dBin oIx (dVar 11) (dC (.int 1))) (dNil))) (dBin oSub (dCall oLen (dCons (dVar 8) (dNil))) (dC (.int 1))))))) (sSeq (sRet (dC (.bl false))) (sNil)) (sNil)) (sSeq (sIf (dAnd (dNot (dTru (dVar 9))) (dNot (dTru (dFn 2 O__law_same (dCons (dVar 11) (dCons (dTup (dCons (dC (.str "refused")) (dCons (dC (.str "course")) (dCons (dBin oSub (dC (.int 0)) (dC (.int 1))) (dNil))))) (dNil))))))) (sSeq (sRet (dC (.bl false))) (sNil)) (sNil)) (sNil)))
section
variable {n : Nat} {R : List (List Int)} {m : Int} {be lim : List Int} {base : Int} {sh : List (List Int)}
theorem ben_turn {v : Nat → Rat} {c : Nat → Nat → Rat} {T A : Nat} (w : Web n R m) (fv : FB A n v) (hA : A ≤ 800) (fc : ∀ k ≤ T, FB 400 n (c k)) (hT : T ≤ 900) (x : Str) (hx : sk x) (S : Store) (r1 r2 r3 r4 r5 r7 r11 r12 : Option D) :
    ∃ q11, benB [some (wb R m), r1, r2, r3, r4, r5, some (rp n v), r7, some (.tup (cl n c (T + 1))), some (.bl (courseB n R m v c T)), some (.str x), r11, r12] S = some (.nx [some (wb R m), r1, r2, r3, r4, r5, some (rp n v), r7, some (.tup (cl n c (T + 1))), some (.bl (courseB n R m v c T)), some (.str x), q11, r12] S) := by
  cases hc : courseB n R m v c T
  · have ic : ∀ S, O_is_course_of [wb R m, rp n v, .tup (cl n c (T + 1))] S = some (.ok (.bl false) S) := fun S => by rw [r_is_course_of w fv hA fc hT S, hc]
    have a := ask_no w (rp n v) (.tup (cl n c (T + 1))) (isL_rp w fv (by omega)) ic x hx S
    exact ⟨_, q_set (x_fn (y_cons rfl (y_cons rfl (y_cons rfl (y_cons rfl (y_cons rfl y_nil))))) rfl a) (q_ifF (x_andF (x_tru rfl rfl)) (q_ifF (x_andT (x_notF rfl) (x_notT (x_f2 rfl (x_tup (y_cons rfl (y_cons rfl (y_cons (x_bin rfl rfl rfl) y_nil))) rfl) (refused_same S "course" strCourse)))) rfl))⟩
  · obtain ⟨zs, hz, a⟩ := ask_yes w fv hA fc hT hc x hx
    have ne : oNe (.str "told") (.str "told") S = some (.ok (.bl false) S) := by
      rw [o_neS strTold strTold, beq_self_eq_true]
      rfl
    have ln : dBin oNe (dCall oLen (dCons (dBin oIx (dVar 11) (dC (.int 1))) (dNil))) (dBin oSub (dCall oLen (dCons (dVar 8) (dNil))) (dC (.int 1))) [some (wb R m), r1, r2, r3, r4, r5, some (rp n v), r7, some (.tup (cl n c (T + 1))), some (.bl true), some (.str x), some (.tup [.str "told", .tup zs]), r12] S = some (.ok (.bl false) S) := by
      refine (x_bin (x_c1 (x_bin rfl rfl (e_ix1 _ _ _ S)) (e_lenT zs S)) (x_bin (x_c1 rfl (len_cl n c (T + 1) S)) rfl rfl) (o_neI _ _ S)).trans ?_
      have : (((zs.length : Nat) : Int) == ((T + 1 : Nat) : Int) - 1) = true := by rw [beq_iff_eq]; omega
      rw [this]
      rfl
    have ty : dTru (dIsi "tuple" (dBin oIx (dVar 11) (dC (.int 1)))) [some (wb R m), r1, r2, r3, r4, r5, some (rp n v), r7, some (.tup (cl n c (T + 1))), some (.bl true), some (.str x), some (.tup [.str "told", .tup zs]), r12] S = some (.ok (.bl true) S) := by
      refine x_tru (d := .bl true) ?_ rfl
      have e : dBin oIx (dVar 11) (dC (.int 1)) [some (wb R m), r1, r2, r3, r4, r5, some (rp n v), r7, some (.tup (cl n c (T + 1))), some (.bl true), some (.str x), some (.tup [.str "told", .tup zs]), r12] S = some (.ok (.tup zs) S) := x_bin rfl rfl (e_ix1 _ _ _ S)
      rw [e_isi, e]
      rfl
    exact ⟨_, q_set (x_fn (y_cons rfl (y_cons rfl (y_cons rfl (y_cons rfl (y_cons rfl y_nil))))) rfl (a S)) (q_ifF (x_andT (x_tru rfl rfl) (x_orF (x_bin (x_bin rfl rfl (e_ix0 _ _ S)) rfl ne) (x_orF (x_not (p := true) ty) ln))) (q_ifF (x_andF (x_notT rfl)) rfl))⟩
end
end My
set_option Elab.async false
set_option linter.all false
set_option maxRecDepth 100000
set_option maxHeartbeats 4000000
set_option exponentiation.threshold 20000
namespace My
open PySem PySem.Spec PyProof.Rows L2 PD
section
variable {n : Nat} {R : List (List Int)} {m : Int} {be lim : List Int} {base : Int} {sh : List (List Int)}
theorem ixRow {row : List Int} {N : Nat} (hl : row.length = N) (i : Nat) (hi : i < N) (S : Store) : oIx (.lst (row.map .int)) (.int (i : Nat)) S = some (.ok (.int (gt row i)) S) := ixLi (by omega) S
theorem v_bends (s : Setup n R m be lim base) (hs : SharesOk n sh 5) (hsl : ShL n sh 5) (row : List Int) (hr : row.length = 5) (S : Store) : O__law_bends [wb R m, .lst (be.map .int), .lst (lim.map .int), shD sh, .int base, .lst (row.map .int)] S = some (.ok (.bl true) S) := by
  refine fn_rtS ?_ rfl
  have st : startD ["_law_net_here", "_law_begin", "_law_limit", "_law_shares", "_law_base", "_law_row", "_law_load", "_law_flow", "_law_bent_here", "_law_due", "_law_which", "_law_told", "_law_odd_here"] [wb R m, .lst (be.map .int), .lst (lim.map .int), shD sh, .int base, .lst (row.map .int)] = [some (wb R m), some (.lst (be.map .int)), some (.lst (lim.map .int)), some (shD sh), some (.int base), some (.lst (row.map .int)), none, none, none, none, none, none, none] := rfl
  have n1 := s.w.n1
  have nk := s.w.nk
  have l1 := low_of s.w s.hb s.b1 s.b2 S
  have w2 := v_walk (stay := true) (T := 5) s.w s.hb s.hl hs hsl (by decide) S
  have d1 := s.part1 (stay := true) hs (by decide) S
  have fD : ∀ k ≤ 5, FB 300 n (Gq n R m be lim base true sh k) := fun k hk => s.fG hs (by decide) k hk
  have pl : ∀ x ∈ cl n (Gq n R m be lim base true sh) 6, PL 380 n x := fun x hx => by
    obtain ⟨k, hk, rfl⟩ := List.mem_map.mp hx
    exact ⟨_, rfl, (fD k (by have := List.mem_range.mp hk; omega)).mono (by decide)⟩
  -- the bent row
  obtain ⟨k, hk, ek⟩ : ∃ k : Nat, k < 6 ∧ gt row 1 % 6 = (k : Nat) := ⟨(gt row 1 % 6).toNat, by omega, by omega⟩
  obtain ⟨j, hj, ej⟩ : ∃ j : Nat, j < n ∧ gt row 2 % (n : Int) = (j : Nat) := by
    have a := Int.emod_nonneg (gt row 2) (show (n : Int) ≠ 0 by omega)
    have b := Int.emod_lt_of_pos (gt row 2) (show (0 : Int) < n by omega)
    exact ⟨(gt row 2 % (n : Int)).toNat, by omega, by omega⟩
  obtain ⟨bt, b1, b2, eb⟩ : ∃ bt : Int, 1 ≤ bt ∧ bt ≤ 12 ∧ ∀ S, oIx (.tup [.int 12, .int 2, .int 3, .int 1]) (.int (gt row 3 % 4)) S = some (.ok (.int bt) S) := by
    have h0 : 0 ≤ gt row 3 % 4 := Int.emod_nonneg _ (by decide)
    have h1 : gt row 3 % 4 < 4 := Int.emod_lt_of_pos _ (by decide)
    generalize gt row 3 % 4 = q at *
    have : q = 0 ∨ q = 1 ∨ q = 2 ∨ q = 3 := by omega
    rcases this with rfl | rfl | rfl | rfl
    · exact ⟨12, by decide, by decide, fun _ => rfl⟩
    · exact ⟨2, by decide, by decide, fun _ => rfl⟩
    · exact ⟨3, by decide, by decide, fun _ => rfl⟩
    · exact ⟨1, by decide, by decide, fun _ => rfl⟩
  obtain ⟨ys, yne, yl, yp, bn⟩ := v_bent n1 nk _ (cl_len _ _ _) pl (gt row 0 % 8) k hk j hj bt b1 b2
  obtain ⟨c, ec, fc⟩ := exists_cl (n := n) 390 ys yp
  obtain ⟨T, hT⟩ : ∃ T, ys.length = T + 1 := ⟨ys.length - 1, by have := List.length_pos_iff.mpr yne; omega⟩
  rw [hT] at ec fc
  subst ec
  have fc4 : ∀ k ≤ T, FB 400 n (c k) := fun k hk => (fc k (by omega)).mono (by decide)
  have fi := v_fits s.w (s.fv.mono (by decide)) fc4 (by omega) S
  have ic := r_is_course s.w s.fv (by decide) fc4 (by omega) S
  have sm := v_same12 (.bl (courseB n R m (vw base be) c T)) S (n := 1) (by decide) rfl
  -- the strange row
  obtain ⟨o, o1, o2, eo⟩ := v_strange n1 nk (cl n (Gq n R m be lim base true sh) 6) (by rw [cl_len]; decide) (fun x hx => (pl x hx).mono (by decide)) (gt row 4)
  have hsL : IsL n (rp n (vw base be)) true := isL_rp s.w s.fv (by decide)
  have nc := n_is_course s.w _ o hsL o1 o2 S
  have sf := v_same12 (.bl false) S (n := 1) (by decide) rfl
  have a1 := ask_no s.w _ o hsL (fun S => n_is_course_of s.w _ o o1 o2 S) "stand" (.inl rfl) S
  have a2 := ask_no s.w _ o hsL (fun S => n_is_course_of s.w _ o o1 o2 S) "kept" (.inr rfl) S
  have rs := refused_same S "course" strCourse
  have ir : ∀ (i : Nat) (_ : i < 5) (U : Store), oIx (.lst (row.map .int)) (.int (i : Nat)) U = some (.ok (.int (gt row i)) U) := fun i hi U => ixRow hr i hi U
  have lb : oLen [.lst (be.map .int)] S = some (.ok (.int (n : Nat)) S) := by rw [e_lenL, List.length_map, s.hb.1]
  have dn : (0 : Int) < (n : Nat) := by omega
  simp only [D__law_bends]
  rw [st]
  refine q_set (x_f2 rfl rfl l1) (q_set (x_f3 (x_fn (y_cons rfl (y_cons rfl (y_cons rfl (y_cons rfl (y_cons rfl (y_cons rfl y_nil)))))) rfl w2) rfl rfl d1) ?_)
  refine q_set (x_fn (y_cons rfl (y_cons (x_bin (x_c1 (x_bin rfl rfl (ir 0 (by decide) S)) rfl) rfl (o_mod (by decide) S)) (y_cons (x_bin (x_c1 (x_bin rfl rfl (ir 1 (by decide) S)) rfl) rfl ((o_mod (by decide) S).trans (by rw [ek]))) (y_cons (x_bin (x_c1 (x_bin rfl rfl (ir 2 (by decide) S)) rfl) (x_c1 rfl lb) ((o_mod dn S).trans (by rw [ej]))) (y_cons (x_bin rfl (x_bin (x_c1 (x_bin rfl rfl (ir 3 (by decide) S)) rfl) rfl (o_mod (by decide) S)) (eb S)) y_nil))))) rfl (bn S)) ?_
  refine q_set (x_f3 rfl rfl rfl fi) (q_ifF (x_notT (x_f2 (x_k210 rfl rfl rfl ic) rfl sm)) ?_)
  have turn := fun x hx r11 => ben_turn (T := T) s.w s.fv (by decide) fc4 (by omega) x hx S (some (.lst (be.map .int))) (some (.lst (lim.map .int))) (some (shD sh)) (some (.int base)) (some (.lst (row.map .int))) (some (.tup (cl n (Gq n R m be lim base true sh) 6))) r11 none
  obtain ⟨q1, t1⟩ := turn "stand" (.inl rfl) none
  obtain ⟨q2, t2⟩ := turn "kept" (.inr rfl) q1
  refine q_for (w := none) (items := [.str "stand", .str "kept"]) (S1 := S) (x_items (x_lst (y_cons rfl (y_cons rfl y_nil)) rfl) rfl) (loop_cons_nx rfl t1 (loop_cons_nx rfl t2 rfl)) ?_
  refine q_set (x_f3 (x_bin rfl rfl (ir 4 (by decide) S)) (x_c1 rfl lb) rfl (eo S)) ?_
  refine q_ifF (x_notT (x_f2 (x_f3 rfl rfl rfl nc) rfl sf)) ?_
  refine q_ifF (x_notT (x_f2 (x_fn (y_cons rfl (y_cons rfl (y_cons rfl (y_cons rfl (y_cons rfl y_nil))))) rfl a1) (x_tup (y_cons rfl (y_cons rfl (y_cons (x_bin rfl rfl rfl) y_nil))) rfl) rs)) ?_
  exact q_ret (x_f2 (x_fn (y_cons rfl (y_cons rfl (y_cons rfl (y_cons rfl (y_cons rfl y_nil))))) rfl a2) (x_tup (y_cons rfl (y_cons rfl (y_cons (x_bin rfl rfl rfl) y_nil))) rfl) rs)
/-! ### what is refused -/
def oddL (n : Nat) : List D :=
  [.non, .lst [zs n, .int 1], .tup [zs n], .tup [zs (n + 1), .int 1], .tup [.tup ([.bl true] ++ List.replicate (n - 1) (.int 0)), .int 1], .tup [.tup (List.replicate n (.int 2)), .int 2]] ++
  [.tup [zs n, .int 2], .tup [.tup ([.int (-1)] ++ List.replicate (n - 1) (.int 0)), .int 1], .tup [.lst (List.replicate n (.int 1)), .int 1], .tup [.tup (List.replicate n (.int 1)), .int 0], .tup [.tup (List.replicate n (.int 1)), .bl true]] ++
  [.str "load", .int 1, .tup [], .tup [zs n, .int 1, .int 1], .tup [.tup (List.replicate n .non), .int 1]]
theorem cd_rep (n : Nat) (n1 : 1 ≤ n) (x b : Int) (h : 2 ∣ x) (hb : 2 ∣ b) : cd ((List.replicate n (D.int x)).map ival ++ [b]) ≠ 1 := fun e => by
  have : (2 : Int) ∣ cd ((List.replicate n (D.int x)).map ival ++ [b]) := cd_of fun y hy => by
    rcases List.mem_append.mp hy with hy | hy
    · rw [List.map_replicate] at hy
      rw [List.eq_of_mem_replicate hy]
      exact h
    · rw [List.mem_singleton.mp hy]
      exact hb
  rw [e] at this
  omega
theorem odd_ok {n : Nat} (n1 : 1 ≤ n) (nk : n ≤ 60) : ∀ d ∈ oddL n, tellL d = true ∧ loadB n d = false := by
  intro d hd
  simp only [oddL, List.cons_append, List.nil_append, List.mem_cons, List.not_mem_nil, or_false] at hd
  rcases hd with rfl | rfl | rfl | rfl | rfl | rfl | rfl | rfl | rfl | rfl | rfl | rfl | rfl | rfl | rfl | rfl
  · exact ⟨rfl, rfl⟩
  · exact ⟨rfl, rfl⟩
  · refine ⟨?_, rfl⟩
    have t : tell (.tup (List.replicate n (D.int 0))) = true := tell_rep n 0
    simp only [zs, tellL, List.all_cons, List.all_nil, Bool.and_true, t, Bool.true_and, List.length_replicate]
    exact decide_eq_true (by omega)
  · refine ⟨tellL_zs (n + 1) (by omega) 0 (.int 1) rfl (fun _ h => by cases h), loadB_pair (.inl ?_)⟩
    simp only [zs, numsB, List.length_replicate]
    rw [beq_eq_false_iff_ne.mpr (by omega)]
    rfl
  · refine ⟨tellL_two _ _ ?_ (by simp; omega) rfl (fun _ h => by cases h), loadB_pair (.inl (by simp [numsB, numb]))⟩
    simp only [List.cons_append, List.nil_append, List.all_cons, tell_rep, Bool.and_true]
    rfl
  · refine ⟨tellL_zs n (by omega) 2 (.int 2) rfl (fun _ h => by cases h), ?_⟩
    simp only [loadB]
    rw [beq_eq_false_iff_ne.mpr (cd_rep n n1 2 2 (by decide) (by decide))]
    simp
  · refine ⟨tellL_zs n (by omega) 0 (.int 2) rfl (fun _ h => by cases h), ?_⟩
    simp only [zs, loadB]
    rw [beq_eq_false_iff_ne.mpr (cd_rep n n1 0 2 (by decide) (by decide))]
    simp
  · refine ⟨tellL_two _ _ ?_ (by simp; omega) rfl (fun _ h => by cases h), loadB_pair (.inl (by simp [numsB, numb]))⟩
    simp only [List.cons_append, List.nil_append, List.all_cons, tell_rep, Bool.and_true]
    rfl
  · exact ⟨rfl, rfl⟩
  · exact ⟨tellL_zs n (by omega) 1 (.int 0) rfl (fun _ h => by cases h), loadB_pair (.inr rfl)⟩
  · exact ⟨tellL_zs n (by omega) 1 (.bl true) rfl (fun _ h => by cases h), loadB_pair (.inr rfl)⟩
  · exact ⟨rfl, rfl⟩
  · exact ⟨rfl, rfl⟩
  · exact ⟨rfl, rfl⟩
  · refine ⟨?_, rfl⟩
    have t : tell (.tup (List.replicate n (D.int 0))) = true := tell_rep n 0
    simp only [zs, tellL, List.all_cons, List.all_nil, Bool.and_true, t, Bool.true_and]
    simp only [List.length_replicate, decide_eq_true (show n ≤ 1000 by omega), Bool.true_and]
    rfl
  · refine ⟨tellL_two _ _ ?_ (by simp; omega) rfl (fun _ h => by cases h), loadB_pair (.inl ?_)⟩
    · exact List.all_eq_true.mpr fun d hd => by rw [List.eq_of_mem_replicate hd]; rfl
    · cases n with
      | zero => omega
      | succ k => simp [numsB, numb, List.replicate_succ]
theorem v_odd (n1 : 1 ≤ n) (nk : n ≤ 60) (kind : Int) : ∃ d, tellL d = true ∧ loadB n d = false ∧ ∀ S, O__law_odd [.int kind, .int (n : Nat)] S = some (.ok d S) := by
  have len : (oddL n).length = 16 := rfl
  obtain ⟨d, hd, ix⟩ := ixL (oddL n) (kind % 16) (Int.emod_nonneg _ (by decide)) (by rw [len]; exact Int.emod_lt_of_pos _ (by decide))
  obtain ⟨d1, d2⟩ := odd_ok n1 nk d hd
  have cls : ∀ x ∈ oddL n, closed x = true := by
    have cz : ∀ (k : Nat) (z : D), closed z = true → closeds (List.replicate k z) = true := fun k z hz => by
      rw [closeds_all]
      exact List.all_eq_true.mpr fun x hx => by rw [List.eq_of_mem_replicate hx]; exact hz
    have ci : ∀ (k : Nat) (i : Int), closeds (List.replicate k (D.int i)) = true := fun k i => cz k _ rfl
    have cn : ∀ (k : Nat), closeds (List.replicate k D.non) = true := fun k => cz k _ rfl
    intro x hx
    simp only [oddL, List.cons_append, List.nil_append, List.mem_cons, List.not_mem_nil, or_false] at hx
    rcases hx with rfl | rfl | rfl | rfl | rfl | rfl | rfl | rfl | rfl | rfl | rfl | rfl | rfl | rfl | rfl | rfl
    all_goals (simp only [zs, closed, closeds, ci, cn, Bool.and_true, Bool.true_and, Bool.and_self])
  refine ⟨d, d1, d2, fun S => fn_rtS ?_ (cls d hd)⟩
  have st : startD ["_law_kind", "_law_size", "_law_flat", "_law_odd_here"] [.int kind, .int (n : Nat)] = [some (.int kind), some (.int (n : Nat)), none, none] := rfl
  simp only [D__law_odd]
  rw [st]
  have z0 : ∀ (x : D) T, oMul (.tup [x]) (.int (n : Nat)) T = some (.ok (.tup (List.replicate n x)) T) := fun x T => o_repT0 x n (by omega) T
  have z1 : ∀ (x : D) T, oMul (.tup [x]) (.int ((n : Nat) + 1)) T = some (.ok (.tup (List.replicate (n + 1) x)) T) := fun x T => o_repT0 x (n + 1) (by omega) T
  have z2 : ∀ (x : D) T, oMul (.tup [x]) (.int ((n : Nat) - 1)) T = some (.ok (.tup (List.replicate (n - 1) x)) T) := fun x T => by
    have := o_repT0 x (n - 1) (by omega) T
    rwa [show ((n - 1 : Nat) : Int) = (n : Nat) - 1 by omega] at this
  have zl : ∀ T, oMul (.lst [.int 1]) (.int (n : Nat)) T = some (.ok (.lst (List.replicate n (.int 1))) T) := fun T => by
    have := o_rep' 1 n (by omega) T
    rwa [List.map_replicate] at this
  have pl : ∀ (x : D) T, oPlus (.tup [x]) (.tup (List.replicate (n - 1) (.int 0))) T = some (.ok (.tup ([x] ++ List.replicate (n - 1) (.int 0))) T) := fun x T => oPlusT _ _ (by simp; omega) T
  refine q_set (x_bin (x_tup (y_cons rfl y_nil) rfl) rfl (z0 (.int 0) S)) ?_
  refine q_set (x_lst (y_cons rfl (y_cons (x_lst (y_cons rfl (y_cons rfl y_nil)) rfl) (y_cons (x_tup (y_cons rfl y_nil) rfl) (y_cons (x_tup (y_cons (x_bin (x_tup (y_cons rfl y_nil) rfl) (x_bin rfl rfl rfl) (z1 (.int 0) S)) (y_cons rfl y_nil)) rfl) (y_cons (x_tup (y_cons (x_bin (x_tup (y_cons rfl y_nil) rfl) (x_bin (x_tup (y_cons rfl y_nil) rfl) (x_bin rfl rfl rfl) (z2 (.int 0) S)) (pl (.bl true) S)) (y_cons rfl y_nil)) rfl) (y_cons (x_tup (y_cons (x_bin (x_tup (y_cons rfl y_nil) rfl) rfl (z0 (.int 2) S)) (y_cons rfl y_nil)) rfl) y_nil)))))) rfl) ?_
  refine q_set (x_bin rfl (x_lst (y_cons (x_tup (y_cons rfl (y_cons rfl y_nil)) rfl) (y_cons (x_tup (y_cons (x_bin (x_tup (y_cons (x_bin rfl rfl rfl) y_nil) rfl) (x_bin (x_tup (y_cons rfl y_nil) rfl) (x_bin rfl rfl rfl) (z2 (.int 0) S)) (pl (.int (0 - 1)) S)) (y_cons rfl y_nil)) rfl) (y_cons (x_tup (y_cons (x_bin (x_lst (y_cons rfl y_nil) rfl) rfl (zl S)) (y_cons rfl y_nil)) rfl) (y_cons (x_tup (y_cons (x_bin (x_tup (y_cons rfl y_nil) rfl) rfl (z0 (.int 1) S)) (y_cons rfl y_nil)) rfl) (y_cons (x_tup (y_cons (x_bin (x_tup (y_cons rfl y_nil) rfl) rfl (z0 (.int 1) S)) (y_cons rfl y_nil)) rfl) y_nil))))) rfl) rfl) ?_
  refine q_set (d := .lst (oddL n)) (x_bin rfl (x_lst (y_cons rfl (y_cons rfl (y_cons (x_tup y_nil rfl) (y_cons (x_tup (y_cons rfl (y_cons rfl (y_cons rfl y_nil))) rfl) (y_cons (x_tup (y_cons (x_bin (x_tup (y_cons rfl y_nil) rfl) rfl (z0 .non S)) (y_cons rfl y_nil)) rfl) y_nil))))) rfl) rfl) ?_
  exact q_ret (x_bin rfl (x_bin (x_c1 rfl rfl) rfl (o_mod (by decide) S)) (ix S))
end
end My
set_option Elab.async false
set_option linter.all false
set_option maxRecDepth 100000
set_option maxHeartbeats 4000000
set_option exponentiation.threshold 20000
namespace My
open PySem PySem.Spec PyProof.Rows L2 PD
theorem strStart : PyData.strOk "start" = true := by decide +kernel
theorem strMany : PyData.strOk "many" = true := by decide +kernel
def lateL : List D := [.int (0 - 1), .bl true, .non, .str "2", .tup [.int 2], .lst [.int 2]]
theorem late_ok : ∀ d ∈ lateL, told d = true ∧ numb d = false := by
  have h : (lateL.all fun d => told d && !numb d) = true := by decide +kernel
  intro d hd
  have := List.all_eq_true.mp h d hd
  simpa using this
noncomputable abbrev refB1 : SDen := sSeq (sIf (dNot (dTru (dFn 2 O__law_same (dCons (dFn 5 O__law_ask (dCons (dVar 6) (dCons (dVar 0) (dCons (dVar 4) (dCons (dVar 4) (dCons (dVar 5) (dNil))))))) (dCons (dTup (dCons (dC (.str "refused")) (dCons (dC (.str "start")) (dCons (dBin oSub (dC (.int 0)) (dC (.int 1))) (dNil))))) (dNil)))))) (sSeq (sRet (dC (.bl false))) (sNil)) (sNil)) (sSeq (sIf (dNot (dTru (dFn 2 O__law_same (dCons (dFn 5 O__law_ask (dCons (dVar 6) (dCons (dVar 0) (dCons (dVar 1) (dCons (dVar 4) (dCons (dVar 5) (dNil))))))) (dCons (dTup (dCons (dC (.str "refused")) (dCons (dVar 6) (dCons (dBin oSub (dC (.int 0)) (dC (.int 1))) (dNil))))) (dNil)))))) (sSeq (sRet (dC (.bl false))) (sNil)) (sNil)) (sSeq (sIf (dNot (dTru (dFn 2 O__law_same (dCons (dFn 5 O__law_ask (dCons (dVar 6) (dCons (dVar 0) (dCons (dVar 1) (dCons (dVar 1) (dCons (dVar 5) (dNil))))))) (dCons (dTup (dCons (dC (.str "refused")) (dCons (dC (.str "many")) (dCons (dBin oSub (dC (.int 0)) (dC (.int 1))) (dNil))))) (dNil)))))) (sSeq (sRet (dC (.bl false))) (sNil)) (sNil)) (sSeq (sIf (dNot (dTru (dFn 2 O__law_same (dCons (dFn 5 O__law_ask (dCons (dVar 6) (dCons (dVar 0) (dCons (dVar 1) (dCons (dVar 1) (dCons (dC (.int 0)) (dNil))))))) (dCons (dTup (dCons (dC (.str "told")) (dCons (dTup (dCons (dTup (dCons (dBin oMul (dTup (dCons (dC (.int 0)) (dNil))) (dVar 3)) (dCons (dC (.int 1)) (dNil)))) (dNil))) (dNil)))) (dNil)))))) (sSeq (sRet (dC (.bl false))) (sNil)) (sNil)) (sNil))))
noncomputable abbrev refB2 : SDen := sSeq (sIf (dNot (dTru (dFn 2 O__law_same (dCons (dFn 5 O__law_ask (dCons (dVar 6) (dCons (dVar 0) (dCons (dVar 4) (dCons (dC .non) (dCons (dC (.int 0)) (dNil))))))) (dCons (dTup (dCons (dC (.str "refused")) (dCons (dC (.str "start")) (dCons (dBin oSub (dC (.int 0)) (dC (.int 1))) (dNil))))) (dNil)))))) (sSeq (sRet (dC (.bl false))) (sNil)) (sNil)) (sNil)
noncomputable abbrev refB3 : SDen := sSeq (sIf (dNot (dTru (dFn 2 O__law_same (dCons (dFn 5 O__law_ask (dCons (dVar 6) (dCons (dVar 0) (dCons (dVar 1) (dCons (dTup (dCons (dTup (dCons (dBin oMul (dTup (dCons (dC (.int 0)) (dNil))) (dVar 3)) (dCons (dC (.int 1)) (dNil)))) (dNil))) (dCons (dC (.int 0)) (dNil))))))) (dCons (dTup (dCons (dC (.str "told")) (dCons (dTup (dNil)) (dNil)))) (dNil)))))) (sSeq (sRet (dC (.bl false))) (sNil)) (sNil)) (sNil)
section
variable {n : Nat} {R : List (List Int)} {m : Int} {v : Nat → Rat}
theorem zero_course (n : Nat) : D.tup [.tup [zs n, .int 1]] = .tup (cl n (fun _ _ => 0) 1) := by
  have : cl n (fun _ _ => 0) 1 = [rp n fun _ => 0] := rfl
  rw [this, rp_zero]
  simp only [zs, ld, List.map_replicate]
theorem fz (w : Web n R m) : ∀ k ≤ 0, FB 400 n ((fun _ _ => 0 : Nat → Nat → Rat) k) := fun _ _ => (FB.zero n).mono (by decide)
theorem isL_no {d : D} (h1 : tellL d = true) (h2 : loadB n d = false) : IsL n d false := fun S => by rw [v_is_load S n d h1, h2]
def ra (x : Str) : Prop := x = "rooms" ∨ x = "allowance"
theorem ra.five {x : Str} (h : ra x) : five5 x := h.elim .inl fun z => .inr (.inl z)
theorem ra.str {x : Str} (h : ra x) : PyData.strOk x = true := strFive h.five
theorem ask_start (w : Web n R m) (x : Str) (hx : ra x) (s d k : D) (hs : IsL n s false) (S : Store) : O__law_ask [.str x, wb R m, s, d, k] S = some (.ok (.tup [.str "refused", .str "start", .int (-1)]) S) := by
  rcases hx with rfl | rfl
  · exact n_ask "rooms" (.inl rfl) _ _ _ _ S "start" (n_stay_course w s d k "start" S (v_require_rooms_s w s d hs S))
  · exact n_ask "allowance" (.inr (.inl rfl)) _ _ _ _ S "start" (n_go_course w s d k "start" S (v_require_allowance_s w s d hs S))
theorem ask_item (w : Web n R m) (x : Str) (hx : ra x) (s d k : D) (hs : IsL n s true) (hd : IsL n d false) (S : Store) : O__law_ask [.str x, wb R m, s, d, k] S = some (.ok (.tup [.str "refused", .str x, .int (-1)]) S) := by
  rcases hx with rfl | rfl
  · exact n_ask "rooms" (.inl rfl) _ _ _ _ S "rooms" (n_stay_course w s d k "rooms" S (v_require_rooms_r w s d hs hd S))
  · exact n_ask "allowance" (.inr (.inl rfl)) _ _ _ _ S "allowance" (n_go_course w s d k "allowance" S (v_require_allowance_r w s d hs hd S))
theorem ask_many (w : Web n R m) (x : Str) (hx : ra x) (s k : D) (hs : IsL n s true) (hk : told k = true) (hk2 : numb k = false) (S : Store) : O__law_ask [.str x, wb R m, s, s, k] S = some (.ok (.tup [.str "refused", .str "many", .int (-1)]) S) := by
  have kn : O_is_number [k] S = some (.ok (.bl false) S) := by rw [v_is_number S k hk, hk2]
  rcases hx with rfl | rfl
  · exact n_ask "rooms" (.inl rfl) _ _ _ _ S "many" (k_stay_course w s s k S hs hs kn)
  · exact n_ask "allowance" (.inr (.inl rfl)) _ _ _ _ S "many" (k_go_course w s s k S hs hs kn)
theorem ask_none (w : Web n R m) (fv : FB 10 n v) (x : Str) (hx : ra x) (S : Store) : O__law_ask [.str x, wb R m, rp n v, rp n v, .int 0] S = some (.ok (.tup [.str "told", .tup [.tup [zs n, .int 1]]]) S) := by
  rw [zero_course]
  have cc : closed (.tup (cl n (fun _ _ => 0) 1)) = true := by simp only [closed]; exact cl_closed _ _ _
  rcases hx with rfl | rfl
  · exact v_ask "rooms" (.inl rfl) _ _ _ _ _ S cc (r_stay_course (T := 0) w fv fv (by decide) (by decide) (fz w) (by decide) (fun _ _ => rfl) (fun k hk => by omega) S)
  · exact v_ask "allowance" (.inr (.inl rfl)) _ _ _ _ _ S cc (r_go_course (T := 0) w fv fv (by decide) (by decide) (fz w) (by decide) (fun _ _ => rfl) (fun k hk => by omega) S)
theorem ref_turn1 (w : Web n R m) (fv : FB 10 n v) (o k : D) (ho : IsL n o false) (hk : told k = true) (hk2 : numb k = false) (x : Str) (hx : ra x) (S : Store) (r2 : Option D) :
    refB1 [some (wb R m), some (rp n v), r2, some (.int (n : Nat)), some o, some k, some (.str x)] S = some (.nx [some (wb R m), some (rp n v), r2, some (.int (n : Nat)), some o, some k, some (.str x)] S) := by
  have nk := w.nk
  have hs : IsL n (rp n v) true := isL_rp w fv (by decide)
  have a1 := ask_start w x hx o o k ho S
  have a2 := ask_item w x hx (rp n v) o k hs ho S
  have a3 := ask_many w x hx (rp n v) k hs hk hk2 S
  have a4 := ask_none w fv x hx S
  have s1 := refused_same S "start" strStart
  have s2 := refused_same S x hx.str
  have s3 := refused_same S "many" strMany
  have ok1 : okS 4 (.tup [.tup [zs n, .int 1]]) = true := by
    rw [zero_course]
    exact okS_cl 0 n (by omega) _ 1 (by decide)
  have s4 := told_ok S (.tup [.tup [zs n, .int 1]]) (k := 4) (by decide) ok1
  have z0 := o_repT0 (.int 0) n (by omega) S
  refine q_ifF (x_notT (x_f2 (x_fn (y_cons rfl (y_cons rfl (y_cons rfl (y_cons rfl (y_cons rfl y_nil))))) rfl a1) (x_tup (y_cons rfl (y_cons rfl (y_cons (x_bin rfl rfl rfl) y_nil))) rfl) s1)) ?_
  refine q_ifF (x_notT (x_f2 (x_fn (y_cons rfl (y_cons rfl (y_cons rfl (y_cons rfl (y_cons rfl y_nil))))) rfl a2) (x_tup (y_cons rfl (y_cons rfl (y_cons (x_bin rfl rfl rfl) y_nil))) rfl) s2)) ?_
  refine q_ifF (x_notT (x_f2 (x_fn (y_cons rfl (y_cons rfl (y_cons rfl (y_cons rfl (y_cons rfl y_nil))))) rfl a3) (x_tup (y_cons rfl (y_cons rfl (y_cons (x_bin rfl rfl rfl) y_nil))) rfl) s3)) ?_
  exact q_ifF (x_notT (x_f2 (x_fn (y_cons rfl (y_cons rfl (y_cons rfl (y_cons rfl (y_cons rfl y_nil))))) rfl a4) (x_tup (y_cons rfl (y_cons (x_tup (y_cons (x_tup (y_cons (x_bin (x_tup (y_cons rfl y_nil) rfl) rfl z0) (y_cons rfl y_nil)) rfl) y_nil) rfl) y_nil)) rfl) s4)) rfl
def ski (x : Str) : Prop := x = "stand" ∨ x = "kept" ∨ x = "is"
theorem ref_turn2 (w : Web n R m) (o : D) (ho : IsL n o false) (x : Str) (hx : ski x) (S : Store) (r1 r2 r3 r5 : Option D) :
    refB2 [some (wb R m), r1, r2, r3, some o, r5, some (.str x)] S = some (.nx [some (wb R m), r1, r2, r3, some o, r5, some (.str x)] S) := by
  have a1 : O__law_ask [.str x, wb R m, o, .non, .int 0] S = some (.ok (.tup [.str "refused", .str "start", .int (-1)]) S) := by
    rcases hx with rfl | rfl | rfl
    · exact n_ask "stand" (.inr (.inr (.inl rfl))) _ _ _ _ S "start" (n_standing_course w o .non "start" S (v_require_course_s w o .non ho S))
    · exact n_ask "kept" (.inr (.inr (.inr (.inl rfl)))) _ _ _ _ S "start" (n_kept_course w o .non "start" S (v_require_course_s w o .non ho S))
    · exact n_ask "is" (.inr (.inr (.inr (.inr rfl)))) _ _ _ _ S "start" (s_is_course w o .non ho S)
  exact q_ifF (x_notT (x_f2 (x_fn (y_cons rfl (y_cons rfl (y_cons rfl (y_cons rfl (y_cons rfl y_nil))))) rfl a1) (x_tup (y_cons rfl (y_cons rfl (y_cons (x_bin rfl rfl rfl) y_nil))) rfl) (refused_same S "start" strStart))) rfl
theorem zero_is (n : Nat) (R : List (List Int)) (m : Int) (v : Nat → Rat) : Course n R m v (fun _ _ => 0) 0 := ⟨fun _ _ => rfl, fun k hk => by omega, fun k hk => by omega⟩
theorem ref_turn3 (w : Web n R m) (fv : FB 10 n v) (x : Str) (hx : sk x) (S : Store) (r2 r4 r5 : Option D) :
    refB3 [some (wb R m), some (rp n v), r2, some (.int (n : Nat)), r4, r5, some (.str x)] S = some (.nx [some (wb R m), some (rp n v), r2, some (.int (n : Nat)), r4, r5, some (.str x)] S) := by
  have nk := w.nk
  have z0 := o_repT0 (.int 0) n (by omega) S
  have a1 : O__law_ask [.str x, wb R m, rp n v, .tup [.tup [zs n, .int 1]], .int 0] S = some (.ok (.tup [.str "told", .tup []]) S) := by
    rw [zero_course]
    rcases hx with rfl | rfl
    · exact v_ask "stand" (.inr (.inr (.inl rfl))) _ _ _ _ _ S rfl (r_standing_course (T := 0) w fv (by decide) (fz w) (by decide) (zero_is n R m v) S)
    · exact v_ask "kept" (.inr (.inr (.inr (.inl rfl)))) _ _ _ _ _ S rfl (r_kept_course (T := 0) w fv (by decide) (fz w) (by decide) (zero_is n R m v) S)
  have s4 := told_ok S (.tup []) (k := 1) (by decide) rfl
  exact q_ifF (x_notT (x_f2 (x_fn (y_cons rfl (y_cons rfl (y_cons rfl (y_cons (x_tup (y_cons (x_tup (y_cons (x_bin (x_tup (y_cons rfl y_nil) rfl) rfl z0) (y_cons rfl y_nil)) rfl) y_nil) rfl) (y_cons rfl y_nil))))) rfl a1) (x_tup (y_cons rfl (y_cons (x_tup y_nil rfl) y_nil)) rfl) s4)) rfl
theorem v_refusals (w : Web n R m) (fv : FB 10 n v) (row : List Int) (hr : row.length = 2) (S : Store) : O__law_refusals [wb R m, rp n v, .lst (row.map .int)] S = some (.ok (.bl true) S) := by
  refine fn_rtS ?_ rfl
  have st : startD ["_law_net_here", "_law_begin", "_law_row", "_law_size", "_law_odd_here", "_law_late", "_law_which"] [wb R m, rp n v, .lst (row.map .int)] = [some (wb R m), some (rp n v), some (.lst (row.map .int)), none, none, none, none] := rfl
  obtain ⟨o, o1, o2, eo⟩ := v_odd w.n1 w.nk (gt row 0)
  have ho := isL_no o1 o2
  obtain ⟨k, hk, ik⟩ := ixL lateL (gt row 1 % 6) (Int.emod_nonneg _ (by decide)) (Int.emod_lt_of_pos _ (by decide))
  obtain ⟨k1, k2⟩ := late_ok k hk
  have ir : ∀ (i : Nat) (_ : i < 2) (U : Store), oIx (.lst (row.map .int)) (.int (i : Nat)) U = some (.ok (.int (gt row i)) U) := fun i hi U => ixRow hr i hi U
  have sz : oLen [.tup (R.map fun r => D.tup (r.map .int))] S = some (.ok (.int (n : Nat)) S) := by rw [e_lenT, List.length_map, w.len]
  have t1 := ref_turn1 w fv o k ho k1 k2 "rooms" (.inl rfl) S (some (.lst (row.map .int)))
  have t2 := ref_turn1 w fv o k ho k1 k2 "allowance" (.inr rfl) S (some (.lst (row.map .int)))
  have u1 := ref_turn2 w o ho "stand" (.inl rfl) S (some (rp n v)) (some (.lst (row.map .int))) (some (.int (n : Nat))) (some k)
  have u2 := ref_turn2 w o ho "kept" (.inr (.inl rfl)) S (some (rp n v)) (some (.lst (row.map .int))) (some (.int (n : Nat))) (some k)
  have u3 := ref_turn2 w o ho "is" (.inr (.inr rfl)) S (some (rp n v)) (some (.lst (row.map .int))) (some (.int (n : Nat))) (some k)
  have y1 := ref_turn3 w fv "stand" (.inl rfl) S (some (.lst (row.map .int))) (some o) (some k)
  have y2 := ref_turn3 w fv "kept" (.inr rfl) S (some (.lst (row.map .int))) (some o) (some k)
  simp only [D__law_refusals]
  rw [st]
  refine q_set (x_c1 (x_bin rfl rfl (e_ix0 _ _ S)) sz) (q_set (x_f2 (x_bin rfl rfl (ir 0 (by decide) S)) rfl (eo S)) ?_)
  refine q_set (x_bin (x_lst (y_cons (x_bin rfl rfl rfl) (y_cons rfl (y_cons rfl (y_cons rfl (y_cons (x_tup (y_cons rfl y_nil) rfl) (y_cons (x_lst (y_cons rfl y_nil) rfl) y_nil)))))) rfl) (x_bin (x_c1 (x_bin rfl rfl (ir 1 (by decide) S)) rfl) rfl (o_mod (by decide) S)) (ik S)) ?_
  refine q_for (w := none) (items := [.str "rooms", .str "allowance"]) (S1 := S) (x_items (x_lst (y_cons rfl (y_cons rfl y_nil)) rfl) rfl) (loop_cons_nx rfl t1 (loop_cons_nx rfl t2 rfl)) ?_
  refine q_for (w := none) (items := [.str "stand", .str "kept", .str "is"]) (S1 := S) (x_items (x_lst (y_cons rfl (y_cons rfl (y_cons rfl y_nil))) rfl) rfl) (loop_cons_nx rfl u1 (loop_cons_nx rfl u2 (loop_cons_nx rfl u3 rfl))) ?_
  refine q_for (w := none) (items := [.str "stand", .str "kept"]) (S1 := S) (x_items (x_lst (y_cons rfl (y_cons rfl y_nil)) rfl) rfl) (loop_cons_nx rfl y1 (loop_cons_nx rfl y2 rfl)) ?_
  exact q_ret rfl
end
/-! ### by hand -/
theorem ld_rp {ts : List Int} {b : Int} (hb : 1 ≤ b) (h : cd (ts ++ [b]) = 1) : ld ts b = rp ts.length (vw b ts) := by
  rw [← lf_rp (ts := ts) (q := vw b ts) hb rfl fun i _ => rfl]
  unfold lf lowT lowB
  rw [h, Int.ediv_one]
  congr 2
  rw [List.map_congr_left (g := id) fun x _ => Int.ediv_one x, List.map_id]
abbrev hR : List (List Int) := [[1, 1], [1, 1]]
theorem hweb : Web 2 hR 2 where
  n1 := by decide
  nk := by decide
  len := rfl
  row := by decide
  m1 := by decide
  m2 := by decide
def hv : Nat → Rat := vw 1 [1, 0]
def hc : Nat → Nat → Rat
  | 0 => vw 1 [0, 0]
  | 1 => vw 2 [1, 0]
  | _ => vw 4 [3, 0]
def hg : Nat → Nat → Rat
  | 0 => vw 1 [0, 0]
  | _ => vw 1 [1, 0]
theorem hFB (ts : List Int) (b : Int) (h : ts.length = 2) (hb : 1 ≤ b) (hb2 : b < 2 ^ 10) (ht : ∀ t ∈ ts, 0 ≤ t ∧ t < 2 ^ 10) : FB 10 2 (vw b ts) :=
  FB.mk' (gt ts) b hb hb2 (fun i hi => ht _ (gt_mem (by omega))) fun i _ => rfl
theorem hfv : FB 10 2 hv := hFB _ _ rfl (by decide) (by decide) (by decide)
theorem hfc : ∀ k ≤ 2, FB 400 2 (hc k) := fun k hk => by
  have : k = 0 ∨ k = 1 ∨ k = 2 := by omega
  rcases this with rfl | rfl | rfl
  · exact (hFB [0, 0] 1 rfl (by decide) (by decide) (by decide)).mono (by decide)
  · exact (hFB [1, 0] 2 rfl (by decide) (by decide) (by decide)).mono (by decide)
  · exact (hFB [3, 0] 4 rfl (by decide) (by decide) (by decide)).mono (by decide)
theorem hfg : ∀ k ≤ 1, FB 400 2 (hg k) := fun k hk => by
  have : k = 0 ∨ k = 1 := by omega
  rcases this with rfl | rfl
  · exact (hFB [0, 0] 1 rfl (by decide) (by decide) (by decide)).mono (by decide)
  · exact (hFB [1, 0] 1 rfl (by decide) (by decide) (by decide)).mono (by decide)
theorem hcourse : courseB 2 hR 2 hv hc 2 = true := by decide +kernel
theorem two_cases {P : Nat → Prop} (h0 : P 0) (h1 : P 1) : ∀ i < 2, P i := fun i hi => by
  have : i = 0 ∨ i = 1 := by omega
  rcases this with rfl | rfl
  · exact h0
  · exact h1
theorem hst : cl 2 (stands 2 hR 2 hv hc) 2 = [ld [1, 0] 1, ld [1, 1] 4] := by
  have e : cl 2 (stands 2 hR 2 hv hc) 2 = [rp 2 (stands 2 hR 2 hv hc 0), rp 2 (stands 2 hR 2 hv hc 1)] := rfl
  rw [e, ld_rp (ts := [1, 0]) (b := 1) (by decide) (by decide +kernel), ld_rp (ts := [1, 1]) (b := 4) (by decide) (by decide +kernel)]
  show [rp 2 _, rp 2 _] = [rp 2 _, rp 2 _]
  rw [rp_eq (p := stands 2 hR 2 hv hc 0) (q := vw 1 [1, 0]) fun i _ => rfl, rp_eq (p := stands 2 hR 2 hv hc 1) (q := vw 4 [1, 1]) (two_cases (by decide +kernel) (by decide +kernel))]
theorem hke : cl 2 (fun k => stayed 2 hR 2 hv hc (k + 1)) 2 = [ld [1, 0] 2, ld [2, 1] 4] := by
  have e : cl 2 (fun k => stayed 2 hR 2 hv hc (k + 1)) 2 = [rp 2 (stayed 2 hR 2 hv hc 1), rp 2 (stayed 2 hR 2 hv hc 2)] := rfl
  rw [e, ld_rp (ts := [1, 0]) (b := 2) (by decide) (by decide +kernel), ld_rp (ts := [2, 1]) (b := 4) (by decide) (by decide +kernel)]
  show [rp 2 _, rp 2 _] = [rp 2 _, rp 2 _]
  rw [rp_eq (p := stayed 2 hR 2 hv hc 1) (q := vw 2 [1, 0]) (two_cases (by decide +kernel) (by decide +kernel)), rp_eq (p := stayed 2 hR 2 hv hc 2) (q := vw 4 [2, 1]) (two_cases (by decide +kernel) (by decide +kernel))]
theorem hcl : cl 2 hc 3 = [ld [0, 0] 1, ld [1, 0] 2, ld [3, 0] 4] := by
  have e : cl 2 hc 3 = [rp 2 (vw 1 [0, 0]), rp 2 (vw 2 [1, 0]), rp 2 (vw 4 [3, 0])] := rfl
  rw [e, ld_rp (ts := [0, 0]) (b := 1) (by decide) (by decide +kernel), ld_rp (ts := [1, 0]) (b := 2) (by decide) (by decide +kernel), ld_rp (ts := [3, 0]) (b := 4) (by decide) (by decide +kernel)]
  rfl
theorem hcg : cl 2 hg 2 = [ld [0, 0] 1, ld [1, 0] 1] := by
  have e : cl 2 hg 2 = [rp 2 (vw 1 [0, 0]), rp 2 (vw 1 [1, 0])] := rfl
  rw [e, ld_rp (ts := [0, 0]) (b := 1) (by decide) (by decide +kernel), ld_rp (ts := [1, 0]) (b := 1) (by decide) (by decide +kernel)]
  rfl
theorem hvl : ld [1, 0] 1 = rp 2 hv := ld_rp (ts := [1, 0]) (b := 1) (by decide) (by decide +kernel)
theorem v_hand (S : Store) : O__law_hand [] S = some (.ok (.bl true) S) := by
  refine fn_rtS ?_ rfl
  have st : startD ["_law_net_here", "_law_left", "_law_gone"] [] = [none, none, none] := rfl
  have c := course_iff.mp hcourse
  have a1 := r_standing_course (T := 2) hweb hfv (by decide) hfc (by decide) c S
  have a2 := r_kept_course (T := 2) hweb hfv (by decide) hfc (by decide) c S
  have a3 := r_go_course (T := 1) hweb hfv hfv (by decide) (by decide) hfg (by decide) (two_cases (P := fun i => hg 0 i = 0) (by decide +kernel) (by decide +kernel)) (fun k hk => by
    have : k = 0 := by omega
    subst this
    exact two_cases (P := fun i => hg (0 + 1) i = mnR (hv i) (hv i + stp 2 hR 2 (hg 0) i)) (by decide +kernel) (by decide +kernel)) S
  rw [hst, hcl, ← hvl] at a1
  rw [hke, hcl, ← hvl] at a2
  rw [hcg, ← hvl] at a3
  have s1 := v_same12 (.tup [ld [1, 0] 1, ld [1, 1] 4]) S (n := 4) (by decide) (by decide +kernel)
  have s2 := v_same12 (.tup [ld [1, 0] 2, ld [2, 1] 4]) S (n := 4) (by decide) (by decide +kernel)
  have s3 := v_same12 (.tup [ld [0, 0] 1, ld [1, 0] 1]) S (n := 4) (by decide) (by decide +kernel)
  simp only [D__law_hand]
  rw [st]
  refine q_set (d := wb hR 2) rfl (q_set (d := ld [1, 0] 1) rfl (q_set (d := .tup [ld [0, 0] 1, ld [1, 0] 2, ld [3, 0] 4]) rfl ?_))
  refine q_ifF (x_notT (x_f2 (x_k210 rfl rfl rfl a1) rfl s1)) (q_ifF (x_notT (x_f2 (x_k210 rfl rfl rfl a2) rfl s2)) ?_)
  exact q_ret (x_f2 (x_f4 rfl rfl rfl rfl a3) rfl s3)
end My
set_option Elab.async false
set_option linter.all false
set_option maxRecDepth 100000
set_option maxHeartbeats 4000000
set_option exponentiation.threshold 20000
namespace My
open PySem PySem.Spec PyProof.Rows L2 PD
noncomputable abbrev poolA : SDen := sSeq (sIf (dAnd (dBin oGt (dVar 4) (dC (.int 0))) (dBin oLt (dCall oLen (dCons (dVar 1) (dNil))) (dC (.int 60)))) (sSeq (sExpr (dApp (dVar 1) (dBin oMod (dCall oInt1 (dCons (dVar 4) (dNil))) (dC (.int 1000000))))) (sSeq (sSet 4 (dBin oDiv (dVar 4) (dC (.int 1000000)))) (sNil))) (sNil)) (sNil)
noncomputable abbrev poolB : SDen := sSeq (sSet 6 (dBin oMod (dCall oInt1 (dCons (dBin oPlus (dBin oPlus (dBin oMul (dVar 6) (dVar 6)) (dVar 2)) (dVar 5)) (dNil))) (dC (.int 2147483629)))) (sSeq (sExpr (dApp (dVar 1) (dBin oMod (dCall oInt1 (dCons (dBin oDiv (dVar 6) (dC (.int 128))) (dNil))) (dC (.int 1000000))))) (sNil))
noncomputable abbrev poolC : SDen := sSeq (sSet 2 (dBin oMod (dCall oInt1 (dCons (dBin oMul (dVar 2) (dC (.int 48271))) (dNil))) (dC (.int 2147483629)))) (sSeq (sExpr (dApp (dVar 1) (dBin oMod (dCall oInt1 (dCons (dBin oDiv (dVar 2) (dC (.int 512))) (dNil))) (dC (.int 1000000))))) (sNil))
noncomputable abbrev poolO : SDen := sSeq (sSet 4 (dCall oAbs (dCons (dVar 3) (dNil)))) (sSeq (sSet 2 (dBin oMod (dCall oInt1 (dCons (dBin oPlus (dBin oPlus (dBin oMul (dVar 2) (dC (.int 69))) (dBin oMod (dCall oInt1 (dCons (dVar 3) (dNil))) (dC (.int 1000033)))) (dC (.int 7))) (dNil))) (dC (.int 2147483629)))) (sSeq (sIf (dBin oGe (dVar 4) (dC (.int 1000000000000000000))) (sSeq (sFor (dRange1 (dC (.int 60))) (tName 5) (sSeq (sIf (dAnd (dBin oGt (dVar 4) (dC (.int 0))) (dBin oLt (dCall oLen (dCons (dVar 1) (dNil))) (dC (.int 60)))) (sSeq (sExpr (dApp (dVar 1) (dBin oMod (dCall oInt1 (dCons (dVar 4) (dNil))) (dC (.int 1000000))))) (sSeq (sSet 4 (dBin oDiv (dVar 4) (dC (.int 1000000)))) (sNil))) (sNil)) (sNil))) (sNil)) (sSeq (sSet 6 (dBin oMod (dCall oInt1 (dCons (dBin oPlus (dBin oMul (dVar 4) (dC (.int 48271))) (dVar 2)) (dNil))) (dC (.int 2147483629)))) (sSeq (sFor (dRange1 (dC (.int 3))) (tName 5) (sSeq (sSet 6 (dBin oMod (dCall oInt1 (dCons (dBin oPlus (dBin oPlus (dBin oMul (dVar 6) (dVar 6)) (dVar 2)) (dVar 5)) (dNil))) (dC (.int 2147483629)))) (sSeq (sExpr (dApp (dVar 1) (dBin oMod (dCall oInt1 (dCons (dBin oDiv (dVar 6) (dC (.int 128))) (dNil))) (dC (.int 1000000))))) (sNil)))) (sNil)))) (sNil)))
/-- numbers that the law draws -/
def Dw (l : Nat) (acc : List Int) : Prop := acc.length ≤ l ∧ ∀ x ∈ acc, 0 ≤ x ∧ x < 1000000
theorem Dw.app {l : Nat} {acc : List Int} {x : Int} (h : Dw l acc) (h0 : 0 ≤ x) (h1 : x < 1000000) : Dw (l + 1) (acc ++ [x]) :=
  ⟨by rw [List.length_append]; have := h.1; simp; omega, fun y hy => by
    rcases List.mem_append.mp hy with hy | hy
    · exact h.2 y hy
    · rw [List.mem_singleton.mp hy]; exact ⟨h0, h1⟩⟩
theorem Dw.mono {l k : Nat} {acc : List Int} (h : Dw l acc) (hl : l ≤ k) : Dw k acc := ⟨Nat.le_trans h.1 hl, h.2⟩
theorem app_int {ρ : EnvD} {S : Store} {fo fe : Den} {acc : List Int} {z : Int} (ho : fo ρ (S ++ [acc.map .int]) = some (.ok (.ref S.length) (S ++ [acc.map .int]))) (he : fe ρ (S ++ [acc.map .int]) = some (.ok (.int z) (S ++ [acc.map .int]))) (hl : acc.length < 16777216) : dApp fo fe ρ (S ++ [acc.map .int]) = some (.ok .non (S ++ [(acc ++ [z]).map .int])) := by
  have := x_app ho he (get_last _ _) (by rw [List.length_map]; exact hl)
  rw [set_last] at this
  rw [this, List.map_append]
  rfl
section
variable {S : Store}
theorem oDivI {a b : Int} (h : 0 < b) (h2 : b.natAbs.log2 < 9000) (S : Store) : oDiv (.int a) (.int b) S = some (.ok (.int (a / b)) S) := o_divI h h2 S
theorem mod6 (z : Int) : 0 ≤ z % 1000000 ∧ z % 1000000 < 1000000 := ⟨Int.emod_nonneg _ (by decide), Int.emod_lt_of_pos _ (by decide)⟩
theorem modM (z : Int) : 0 ≤ z % 2147483629 ∧ z % 2147483629 < 2147483629 := ⟨Int.emod_nonneg _ (by decide), Int.emod_lt_of_pos _ (by decide)⟩
theorem sm_M {z : Int} (h0 : 0 ≤ z) (h1 : z < 2147483629) : PD.small64 z = true := small64_of h0 h1 (by decide)
theorem pool_a (r0 r2 r3 r6 : Option D) (all : List D) : ∀ (xs : List D) (l : Nat) (acc : List Int) (much : Int) (r5 : Option D), Dw l acc → l + xs.length ≤ 1000000 → ∃ (acc' : List Int) (much' : Int) (r5' : Option D), Dw (l + xs.length) acc' ∧ forLoop none all (tName 5) poolA xs [r0, some (.ref S.length), r2, r3, some (.int much), r5, r6] (S ++ [acc.map .int]) = some (.nx [r0, some (.ref S.length), r2, r3, some (.int much'), r5', r6] (S ++ [acc'.map .int]))
  | [], l, acc, much, r5, h, _ => ⟨acc, much, r5, h, rfl⟩
  | x :: xs, l, acc, much, r5, h, hl => by
    simp only [List.length_cons] at hl
    have c1 : dAnd (dBin oGt (dVar 4) (dC (.int 0))) (dBin oLt (dCall oLen (dCons (dVar 1) (dNil))) (dC (.int 60))) [r0, some (.ref S.length), r2, r3, some (.int much), some x, r6] (S ++ [acc.map .int]) = some (.ok (.bl (decide (much > 0) && decide ((acc.length : Int) < 60))) (S ++ [acc.map .int])) := by
      have ln : dCall oLen (dCons (dVar 1) (dNil)) [r0, some (.ref S.length), r2, r3, some (.int much), some x, r6] (S ++ [acc.map .int]) = some (.ok (.int (acc.length : Nat)) (S ++ [acc.map .int])) := by
        refine x_c1 (d1 := .ref S.length) rfl ?_
        have : asSeq (S ++ [acc.map D.int]) (.ref S.length) = some (acc.map D.int) := get_last _ _
        simp only [oLen, this, Option.map_some, List.length_map]
      exact x_and (x_bin rfl rfl rfl) fun _ => x_bin ln rfl rfl
    cases hc : decide (much > 0) && decide ((acc.length : Int) < 60)
    · rw [hc] at c1
      obtain ⟨acc', much', r5', h', e⟩ := pool_a r0 r2 r3 r6 all xs l acc much (some x) h (by omega)
      exact ⟨acc', much', r5', h'.mono (by simp only [List.length_cons]; omega), loop_cons_nxS rfl rfl (q_ifF c1 rfl) e⟩
    · rw [hc] at c1
      obtain ⟨m0, m1⟩ := mod6 much
      obtain ⟨acc', much', r5', h', e⟩ := pool_a r0 r2 r3 r6 all xs (l + 1) (acc ++ [much % 1000000]) (much / 1000000) (some x) (h.app m0 m1) (by omega)
      refine ⟨acc', much', r5', h'.mono (by simp; omega), loop_cons_nxS rfl rfl (q_ifT c1 (q_expr (d := .non) (S1 := S ++ [(acc ++ [much % 1000000]).map D.int]) (app_int rfl (x_bin (x_c1 rfl rfl) rfl (o_mod (by decide) _)) (by have := h.1; omega)) (q_set (x_bin rfl rfl (oDivI (by decide) (by decide) _)) rfl)) rfl) e⟩
theorem pool_b (r0 r3 r4 : Option D) (mix : Int) (hm0 : 0 ≤ mix) (hm1 : mix < 2147483629) (all : List D) : ∀ (ks : List Nat) (l : Nat) (acc : List Int) (tw : Int) (r5 : Option D), 0 ≤ tw → tw < 2147483629 → Dw l acc → l + ks.length ≤ 1000000 → ∃ (acc' : List Int) (tw' : Int) (r5' : Option D), Dw (l + ks.length) acc' ∧ forLoop none all (tName 5) poolB (ks.map fun k => D.int (k : Nat)) [r0, some (.ref S.length), some (.int mix), r3, r4, r5, some (.int tw)] (S ++ [acc.map .int]) = some (.nx [r0, some (.ref S.length), some (.int mix), r3, r4, r5', some (.int tw')] (S ++ [acc'.map .int]))
  | [], l, acc, tw, r5, _, _, h, _ => ⟨acc, tw, r5, h, rfl⟩
  | k :: ks, l, acc, tw, r5, t0, t1, h, hl => by
    simp only [List.length_cons] at hl
    obtain ⟨w0, w1⟩ := modM (tw * tw + mix + (k : Nat))
    generalize ht : (tw * tw + mix + (k : Nat)) % 2147483629 = t2 at *
    obtain ⟨m0, m1⟩ := mod6 (t2 / 128)
    obtain ⟨acc', tw', r5', h', e⟩ := pool_b r0 r3 r4 mix hm0 hm1 all ks (l + 1) (acc ++ [t2 / 128 % 1000000]) t2 (some (.int (k : Nat))) w0 w1 (h.app m0 m1) (by omega)
    refine ⟨acc', tw', r5', h'.mono (by simp; omega), loop_cons_nxS rfl rfl (q_set (x_bin (x_c1 (x_bin (x_bin (x_bin rfl rfl (o_mulL (sm_M t0 t1) _)) rfl rfl) rfl rfl) rfl) rfl ((o_mod (by decide) _).trans (by rw [ht]))) (q_expr (d := .non) (S1 := S ++ [(acc ++ [t2 / 128 % 1000000]).map D.int]) (app_int rfl (x_bin (x_c1 (x_bin rfl rfl (oDivI (by decide) (by decide) _)) rfl) rfl (o_mod (by decide) _)) (by have := h.1; omega)) rfl)) e⟩
theorem pool_c (r0 r3 r4 r6 : Option D) (all : List D) : ∀ (xs : List D) (l : Nat) (acc : List Int) (mix : Int) (r5 : Option D), Dw l acc → l + xs.length ≤ 1000000 → ∃ (acc' : List Int) (mix' : Int) (r5' : Option D), Dw (l + xs.length) acc' ∧ acc.length + xs.length ≤ acc'.length ∧ forLoop none all (tName 5) poolC xs [r0, some (.ref S.length), some (.int mix), r3, r4, r5, r6] (S ++ [acc.map .int]) = some (.nx [r0, some (.ref S.length), some (.int mix'), r3, r4, r5', r6] (S ++ [acc'.map .int]))
  | [], l, acc, mix, r5, h, _ => ⟨acc, mix, r5, h, by simp, rfl⟩
  | x :: xs, l, acc, mix, r5, h, hl => by
    simp only [List.length_cons] at hl
    obtain ⟨m0, m1⟩ := mod6 (mix * 48271 % 2147483629 / 512)
    obtain ⟨acc', mix', r5', h', hn, e⟩ := pool_c r0 r3 r4 r6 all xs (l + 1) (acc ++ [mix * 48271 % 2147483629 / 512 % 1000000]) (mix * 48271 % 2147483629) (some x) (h.app m0 m1) (by omega)
    refine ⟨acc', mix', r5', h'.mono (by simp; omega), by simp at hn ⊢; omega, loop_cons_nxS rfl rfl (q_set (x_bin (x_c1 (x_bin rfl rfl (e_mulR (by decide) _)) rfl) rfl (o_mod (by decide) _)) (q_expr (d := .non) (S1 := S ++ [(acc ++ [mix * 48271 % 2147483629 / 512 % 1000000]).map D.int]) (app_int rfl (x_bin (x_c1 (x_bin rfl rfl (oDivI (by decide) (by decide) _)) rfl) rfl (o_mod (by decide) _)) (by have := h.1; omega)) rfl)) e⟩
theorem pool_o (r0 : Option D) (all : List D) : ∀ (ns : List Int) (l : Nat) (acc : List Int) (mix : Int) (r3 r4 r5 r6 : Option D), Dw l acc → l + 60 * ns.length ≤ 900000 → ∃ (acc' : List Int) (mix' : Int) (q3 q4 q5 q6 : Option D), Dw (l + 60 * ns.length) acc' ∧ forLoop none all (tName 3) poolO (ns.map .int) [r0, some (.ref S.length), some (.int mix), r3, r4, r5, r6] (S ++ [acc.map .int]) = some (.nx [r0, some (.ref S.length), some (.int mix'), q3, q4, q5, q6] (S ++ [acc'.map .int]))
  | [], l, acc, mix, r3, r4, r5, r6, h, _ => ⟨acc, mix, r3, r4, r5, r6, h, rfl⟩
  | z :: ns, l, acc, mix, r3, r4, r5, r6, h, hl => by
    simp only [List.length_cons] at hl
    obtain ⟨mu, hmu⟩ : ∃ mu : Int, ∀ T, oAbs [.int z] T = some (.ok (.int mu) T) := ⟨_, fun _ => rfl⟩
    obtain ⟨x0, x1⟩ := modM (mix * 69 + z % 1000033 + 7)
    generalize hx : (mix * 69 + z % 1000033 + 7) % 2147483629 = mx2 at *
    have key : ∃ (acc' : List Int) (q4 q5 q6 : Option D), Dw (l + 60) acc' ∧ sIf (dBin oGe (dVar 4) (dC (.int 1000000000000000000))) (sSeq (sFor (dRange1 (dC (.int 60))) (tName 5) poolA) (sNil)) (sSeq (sSet 6 (dBin oMod (dCall oInt1 (dCons (dBin oPlus (dBin oMul (dVar 4) (dC (.int 48271))) (dVar 2)) (dNil))) (dC (.int 2147483629)))) (sSeq (sFor (dRange1 (dC (.int 3))) (tName 5) poolB) (sNil))) [r0, some (.ref S.length), some (.int mx2), some (.int z), some (.int mu), r5, r6] (S ++ [acc.map .int]) = some (.nx [r0, some (.ref S.length), some (.int mx2), some (.int z), q4, q5, q6] (S ++ [acc'.map .int])) := by
      have cnd : dBin oGe (dVar 4) (dC (.int 1000000000000000000)) [r0, some (.ref S.length), some (.int mx2), some (.int z), some (.int mu), r5, r6] (S ++ [acc.map .int]) = some (.ok (.bl (decide (mu ≥ 1000000000000000000))) (S ++ [acc.map .int])) := x_bin rfl rfl rfl
      by_cases hb : mu ≥ 1000000000000000000
      · rw [decide_eq_true hb] at cnd
        obtain ⟨acc', much', q5, h', e⟩ := pool_a (S := S) r0 (some (.int mx2)) (some (.int z)) r6 (rgD 0 60) (rgD 0 60) l acc mu r5 h (by rw [rgD_length]; omega)
        rw [rgD_length] at h'
        exact ⟨acc', _, q5, r6, h', s_ifT cnd (q_for (w := none) (range1_of (n := 60) rfl (by decide)) e rfl)⟩
      · rw [decide_eq_false hb] at cnd
        obtain ⟨w0, w1⟩ := modM (mu * 48271 + mx2)
        generalize ht : (mu * 48271 + mx2) % 2147483629 = t2 at *
        obtain ⟨acc', tw', q5, h', e⟩ := pool_b (S := S) r0 (some (.int z)) (some (.int mu)) mx2 x0 x1 (rgD 0 3) (List.range 3) l acc t2 r5 w0 w1 h (by simp; omega)
        rw [← rgD_map] at e
        exact ⟨acc', _, q5, _, h'.mono (by simp), s_ifF cnd (q_set (x_bin (x_c1 (x_bin (x_bin rfl rfl (e_mulR (by decide) _)) rfl rfl) rfl) rfl ((o_mod (by decide) _).trans (by rw [ht]))) (q_for (w := none) (range1_of (n := 3) rfl (by decide)) e rfl))⟩
    obtain ⟨acc1, q4, q5, q6, h1, e1⟩ := key
    obtain ⟨acc', mix', p3, p4, p5, p6, h', e⟩ := pool_o r0 all ns (l + 60) acc1 mx2 (some (.int z)) q4 q5 q6 h1 (by omega)
    refine ⟨acc', mix', p3, p4, p5, p6, h'.mono (by simp only [List.length_cons]; omega), loop_cons_nxS rfl rfl (q_set (x_c1 rfl (hmu _)) (q_set (x_bin (x_c1 (x_bin (x_bin (x_bin rfl rfl (e_mulR (by decide) _)) (x_bin (x_c1 rfl rfl) rfl (o_mod (by decide) _)) rfl) rfl rfl) rfl) rfl ((o_mod (by decide) _).trans (by rw [hx]))) (q_nx e1 rfl))) e⟩
theorem v_pool (S : Store) (ns : List Int) (hn : ns.length ≤ 63) : ∃ ds : List Int, 60 ≤ ds.length ∧ (∀ x ∈ ds, 0 ≤ x ∧ x < 1000000) ∧ O__law_pool [.scr ns] S = some (.ok (.lst (ds.map .int)) S) := by
  have st : startD ["_law_script", "_law_row", "_law_mix", "_law_cell", "_law_much", "_law_k", "_law_twist"] [.scr ns] = [some (.scr ns), none, none, none, none, none, none] := rfl
  obtain ⟨acc, mix, q3, q4, q5, q6, h, e⟩ := pool_o (S := S) (some (.scr ns)) (ns.map .int) ns 0 [] 0 none none none none ⟨by simp, fun _ h => nomatch h⟩ (by omega)
  obtain ⟨acc', mix', q5', h', hl, e'⟩ := pool_c (S := S) (some (.scr ns)) q3 q4 q6 (rgD 0 60) (rgD 0 60) _ acc mix q5 h (by rw [rgD_length]; omega)
  rw [rgD_length] at hl
  refine ⟨acc', by omega, h'.2, fn_rtM ?_ (closeds_map_int _)⟩
  simp only [D__law_pool]
  rw [st]
  exact q_set (d := .ref S.length) (S1 := S ++ [[]]) rfl (q_set rfl (q_for (w := none) (items := ns.map .int) (S1 := S ++ [[]]) rfl e (q_for (w := none) (range1_of (n := 60) rfl (by decide)) e' (q_ret rfl))))
end
/-! ### tops from a menu -/
noncomputable abbrev topB : SDen := sSeq (sExpr (dApp (dVar 3) (dBin oIx (dVar 2) (dBin oMod (dCall oInt1 (dCons (dVar 0) (dNil))) (dCall oLen (dCons (dVar 2) (dNil))))))) (sSeq (sSet 0 (dBin oDiv (dVar 0) (dCall oLen (dCons (dVar 2) (dNil))))) (sNil))
section
variable {S : Store}
theorem tops_loop (menu : List Int) (hm : 0 < menu.length) (hm2 : menu.length ≤ 100) (P : Int → Prop) (hP : ∀ x ∈ menu, P x) (r1 : Option D) (all : List D) : ∀ (xs : List D) (acc : List Int) (z : Int) (r4 : Option D), acc.length + xs.length ≤ 1000 → (∀ x ∈ acc, P x) → ∃ (acc' : List Int) (z' : Int) (r4' : Option D), acc'.length = acc.length + xs.length ∧ (∀ x ∈ acc', P x) ∧ ∀ S : Store, forLoop none all (tName 4) topB xs [some (.int z), r1, some (.tup (menu.map .int)), some (.ref S.length), r4] (S ++ [acc.map .int]) = some (.nx [some (.int z'), r1, some (.tup (menu.map .int)), some (.ref S.length), r4'] (S ++ [acc'.map .int]))
  | [], acc, z, r4, _, h => ⟨acc, z, r4, rfl, h, fun _ => rfl⟩
  | x :: xs, acc, z, r4, hl, h => by
    simp only [List.length_cons] at hl
    have p0 : (0 : Int) < (menu.length : Nat) := by omega
    have a := Int.emod_nonneg z (show ((menu.length : Nat) : Int) ≠ 0 by omega)
    have b := Int.emod_lt_of_pos z p0
    obtain ⟨i, hi, ei⟩ : ∃ i : Nat, i < menu.length ∧ z % ((menu.length : Nat) : Int) = (i : Nat) := ⟨(z % ((menu.length : Nat) : Int)).toNat, by omega, by omega⟩
    obtain ⟨acc', z', r4', h1, h2, e⟩ := tops_loop menu hm hm2 P hP r1 all xs (acc ++ [gt menu i]) (z / ((menu.length : Nat) : Int)) (some x) (by simp; omega) fun y hy => by
      rcases List.mem_append.mp hy with hy | hy
      · exact h y hy
      · rw [List.mem_singleton.mp hy]; exact hP _ (gt_mem hi)
    have lm : ∀ T, oLen [.tup (menu.map .int)] T = some (.ok (.int (menu.length : Nat)) T) := fun T => by rw [e_lenT, List.length_map]
    refine ⟨acc', z', r4', by rw [h1]; simp; omega, h2, fun S => loop_cons_nxS rfl rfl (q_expr (d := .non) (S1 := S ++ [(acc ++ [gt menu i]).map D.int]) (app_int rfl (x_bin rfl (x_bin (x_c1 rfl rfl) (x_c1 rfl (lm _)) ((o_mod p0 _).trans (by rw [ei]))) (ixT hi _)) (by omega)) (q_set (x_bin rfl (x_c1 rfl (lm _)) (oDivI p0 (by
      have : ((menu.length : Nat) : Int).natAbs = menu.length := rfl
      rw [this]
      have : menu.length.log2 < 8 := (Nat.log2_lt (by omega)).mpr (by omega)
      omega) _)) rfl)) (e S)⟩
theorem v_tops (z : Int) (n : Nat) (nk : n ≤ 60) (menu : List Int) (hm : 0 < menu.length) (hm2 : menu.length ≤ 100) (P : Int → Prop) (hP : ∀ x ∈ menu, P x) : ∃ ts : List Int, ts.length = n ∧ (∀ x ∈ ts, P x) ∧ ∀ S, O__law_tops [.int z, .int (n : Nat), .tup (menu.map .int)] S = some (.ok (.lst (ts.map .int)) S) := by
  have st : startD ["_law_number", "_law_size", "_law_menu", "_law_tops_here", "_law_k"] [.int z, .int (n : Nat), .tup (menu.map .int)] = [some (.int z), some (.int (n : Nat)), some (.tup (menu.map .int)), none, none] := rfl
  have key : ∃ z2 : Int, ∀ S : Store, sIf (dBin oGt (dVar 1) (dC (.int 5))) (sSeq (sSet 0 (dBin oMul (dVar 0) (dC (.int 1000001)))) (sNil)) (sNil) [some (.int z), some (.int (n : Nat)), some (.tup (menu.map .int)), some (.ref S.length), none] (S ++ [[]]) = some (.nx [some (.int z2), some (.int (n : Nat)), some (.tup (menu.map .int)), some (.ref S.length), none] (S ++ [[]])) := by
    have cnd : ∀ S : Store, dBin oGt (dVar 1) (dC (.int 5)) [some (.int z), some (.int (n : Nat)), some (.tup (menu.map .int)), some (.ref S.length), none] (S ++ [[]]) = some (.ok (.bl (decide (((n : Nat) : Int) > 5))) (S ++ [[]])) := fun S => x_bin rfl rfl rfl
    by_cases hb : ((n : Nat) : Int) > 5
    · simp only [decide_eq_true hb] at cnd
      exact ⟨_, fun S => s_ifT (cnd S) (q_set (x_bin rfl rfl (e_mulR (by decide) _)) rfl)⟩
    · simp only [decide_eq_false hb] at cnd
      exact ⟨_, fun S => s_ifF (cnd S) rfl⟩
  obtain ⟨z2, e1⟩ := key
  obtain ⟨ts, z', r4', h1, h2, e⟩ := tops_loop menu hm hm2 P hP (some (.int (n : Nat))) (rgD 0 n) (rgD 0 n) [] z2 none (by rw [rgD_length]; simp; omega) fun _ h => nomatch h
  rw [rgD_length] at h1
  refine ⟨ts, by simpa using h1, h2, fun S => fn_rtM ?_ (closeds_map_int _)⟩
  simp only [D__law_tops]
  rw [st]
  exact q_set (d := .ref S.length) (S1 := S ++ [[]]) rfl (q_nx (e1 S) (q_for (w := none) (items := rgD 0 n) (S1 := S ++ [[]]) (range1_of rfl (by omega)) (e S) (q_ret rfl)))
end
end My
set_option Elab.async false
set_option linter.all false
set_option maxRecDepth 100000
set_option maxHeartbeats 4000000
set_option exponentiation.threshold 20000
namespace My
open PySem PySem.Spec PyProof.Rows L2 PD
theorem x_or {f g : Den} {ρ : EnvD} {S : Store} {p q : Bool} (h1 : f ρ S = some (.ok (.bl p) S)) (h2 : p = false → g ρ S = some (.ok (.bl q) S)) : dOr f g ρ S = some (.ok (.bl (p || q)) S) := by
  rw [e_or, h1, bndB_ok]
  cases p
  · exact h2 rfl
  · rfl
theorem q_three {ρ : EnvD} {S : Store} {f : Den} {rest : SDen} {R : Option SRes} {x y z : D} {p q r : Nat} (h : f ρ S = some (.ok (.tup [x, y, z]) S)) (k : rest (((ρ.set p (some x)).set q (some y)).set r (some z)) S = R) : sSeq (sAsg f (PD.tTup 3 (PD.tCons (tName p) (PD.tCons (tName q) (PD.tCons (tName r) PD.tNil))))) rest ρ S = R := q_nx (by rw [e_asg, h, bndS_ok]; rfl) k
theorem v_span (shape : Int) (n k : Nat) (n1 : 1 ≤ n) (n8 : n ≤ 8) (hk : k < n) : ∃ lo hi ah : Int, 0 ≤ lo ∧ lo < hi ∧ hi ≤ n ∧ -1 ≤ ah ∧ ah < n ∧ ∀ S, O__law_span [.int shape, .int (n : Nat), .int (k : Nat)] S = some (.ok (.tup [.int lo, .int hi, .int ah]) S) := by
  have st : startD ["_law_shape", "_law_size", "_law_k", "_law_cut"] [.int shape, .int (n : Nat), .int (k : Nat)] = [some (.int shape), some (.int (n : Nat)), some (.int (k : Nat)), none] := rfl
  have fin : ∀ lo hi ah : Int, 0 ≤ lo → lo < hi → hi ≤ n → -1 ≤ ah → ah < n → (∀ S, D__law_span [some (.int shape), some (.int (n : Nat)), some (.int (k : Nat)), none] S = some (.rt (.tup [.int lo, .int hi, .int ah]) S)) → ∃ lo hi ah : Int, 0 ≤ lo ∧ lo < hi ∧ hi ≤ n ∧ -1 ≤ ah ∧ ah < n ∧ ∀ S, O__law_span [.int shape, .int (n : Nat), .int (k : Nat)] S = some (.ok (.tup [.int lo, .int hi, .int ah]) S) :=
    fun lo hi ah h1 h2 h3 h4 h5 h => ⟨lo, hi, ah, h1, h2, h3, h4, h5, fun S => fn_rtS (by rw [st]; exact h S) rfl⟩
  simp only [D__law_span] at fin
  have d3 : ∀ S : Store, dBin oDiv (dVar 1) (dC (.int 2)) [some (.int shape), some (.int (n : Nat)), some (.int (k : Nat)), none] S = some (.ok (.int ((n : Int) / 2)) S) := fun S => x_bin rfl rfl (oDivI (by decide) (by decide) S)
  have fits3 : fits 3 = true := by decide
  have eqv : ∀ (z : Int) (a : Option D) (S : Store), dBin oEq (dVar 0) (dC (.int z)) [some (.int shape), some (.int (n : Nat)), some (.int (k : Nat)), a] S = some (.ok (.bl (shape == z)) S) := fun z a S => x_bin rfl rfl (o_eqI _ _ S)
  have c1 : ∀ S : Store, dAnd (dBin oEq (dVar 0) (dC (.int 0))) (dBin oLt (dVar 2) (dVar 3)) [some (.int shape), some (.int (n : Nat)), some (.int (k : Nat)), some (.int ((n : Int) / 2))] S = some (.ok (.bl ((shape == 0) && decide ((k : Int) < (n : Int) / 2))) S) := fun S => x_and (eqv 0 _ S) fun _ => x_bin rfl rfl rfl
  have c3 : ∀ S : Store, dAnd (dBin oEq (dVar 0) (dC (.int 2))) (dOr (dBin oEq (dVar 2) (dC (.int 0))) (dBin oEq (dVar 2) (dBin oSub (dVar 1) (dC (.int 1))))) [some (.int shape), some (.int (n : Nat)), some (.int (k : Nat)), some (.int ((n : Int) / 2))] S = some (.ok (.bl ((shape == 2) && (((k : Int) == 0) || ((k : Int) == (n : Int) - 1)))) S) := fun S => x_and (eqv 2 _ S) fun _ => x_or (x_bin rfl rfl (o_eqI _ _ S)) fun _ => x_bin rfl (x_bin rfl rfl rfl) (o_eqI _ _ S)
  have c6 : ∀ S : Store, dAnd (dBin oEq (dVar 0) (dC (.int 6))) (dAnd (dBin oGt (dVar 1) (dC (.int 3))) (dBin oLt (dVar 2) (dC (.int 2)))) [some (.int shape), some (.int (n : Nat)), some (.int (k : Nat)), some (.int ((n : Int) / 2))] S = some (.ok (.bl ((shape == 6) && (decide ((n : Int) > 3) && decide ((k : Int) < 2)))) S) := fun S => x_and (eqv 6 _ S) fun _ => x_and (x_bin rfl rfl rfl) fun _ => x_bin rfl rfl rfl
  have c7 : ∀ S : Store, dAnd (dBin oEq (dVar 0) (dC (.int 6))) (dAnd (dBin oGt (dVar 1) (dC (.int 3))) (dBin oGt (dVar 2) (dBin oSub (dVar 1) (dC (.int 3))))) [some (.int shape), some (.int (n : Nat)), some (.int (k : Nat)), some (.int ((n : Int) / 2))] S = some (.ok (.bl ((shape == 6) && (decide ((n : Int) > 3) && decide ((k : Int) > (n : Int) - 3)))) S) := fun S => x_and (eqv 6 _ S) fun _ => x_and (x_bin rfl rfl rfl) fun _ => x_bin rfl (x_bin rfl rfl rfl) rfl
  have c8 : ∀ S : Store, dOr (dBin oEq (dVar 0) (dC (.int 3))) (dBin oEq (dVar 0) (dC (.int 4))) [some (.int shape), some (.int (n : Nat)), some (.int (k : Nat)), some (.int ((n : Int) / 2))] S = some (.ok (.bl ((shape == 3) || (shape == 4))) S) := fun S => x_or (eqv 3 _ S) fun _ => eqv 4 _ S
  have eq2 := fun z S => eqv z (some (.int ((n : Int) / 2))) S
  cases h1 : (shape == 0) && decide ((k : Int) < (n : Int) / 2) with
  | true =>
    simp only [h1] at c1
    simp only [Bool.and_eq_true, decide_eq_true_eq] at h1
    exact fin 0 n ((k : Int) + 1) (by omega) (by omega) (by omega) (by omega) (by omega) fun S => q_set (d3 S) (q_ifR (c1 S) (q_ret (x_tup (y_cons rfl (y_cons rfl (y_cons (x_bin rfl rfl rfl) y_nil))) fits3)))
  | false =>
  simp only [h1] at c1
  cases h2 : shape == 0 with
  | true =>
    have e2 := fun S => eq2 0 S
    simp only [h2] at e2
    have p : (0 : Int) < (n : Int) - (n : Int) / 2 := by omega
    have a := Int.emod_nonneg ((k : Int) + 1 - (n : Int) / 2) (show (n : Int) - (n : Int) / 2 ≠ 0 by omega)
    have b := Int.emod_lt_of_pos ((k : Int) + 1 - (n : Int) / 2) p
    exact fin ((n : Int) / 2) n ((n : Int) / 2 + ((k : Int) + 1 - (n : Int) / 2) % ((n : Int) - (n : Int) / 2)) (by omega) (by omega) (by omega) (by omega) (by omega) fun S => q_set (d3 S) (q_ifF (c1 S) (q_ifR (e2 S) (q_ret (x_tup (y_cons rfl (y_cons rfl (y_cons (x_bin rfl (x_bin (x_c1 (x_bin (x_bin rfl rfl rfl) rfl rfl) rfl) (x_bin rfl rfl rfl) (o_mod p S)) rfl) y_nil))) fits3))))
  | false =>
  have e2 := fun S => eq2 0 S
  simp only [h2] at e2
  cases h3 : (shape == 2) && (((k : Int) == 0) || ((k : Int) == (n : Int) - 1)) with
  | true =>
    simp only [h3] at c3
    exact fin k ((k : Int) + 1) k (by omega) (by omega) (by omega) (by omega) (by omega) fun S => q_set (d3 S) (q_ifF (c1 S) (q_ifF (e2 S) (q_ifR (c3 S) (q_ret (x_tup (y_cons rfl (y_cons (x_bin rfl rfl rfl) (y_cons rfl y_nil))) fits3)))))
  | false =>
  simp only [h3] at c3
  cases h4 : shape == 2 with
  | true =>
    have e4 := fun S => eq2 2 S
    simp only [h4] at e4
    rw [h4, Bool.true_and, Bool.or_eq_false_iff, beq_eq_false_iff_ne, beq_eq_false_iff_ne] at h3
    exact fin 0 n ((k : Int) + 1) (by omega) (by omega) (by omega) (by omega) (by omega) fun S => q_set (d3 S) (q_ifF (c1 S) (q_ifF (e2 S) (q_ifF (c3 S) (q_ifR (e4 S) (q_ret (x_tup (y_cons rfl (y_cons rfl (y_cons (x_bin rfl rfl rfl) y_nil))) fits3))))))
  | false =>
  have e4 := fun S => eq2 2 S
  simp only [h4] at e4
  cases h5 : shape == 5 with
  | true =>
    have e5 := fun S => eq2 5 S
    simp only [h5] at e5
    exact fin k n k (by omega) (by omega) (by omega) (by omega) (by omega) fun S => q_set (d3 S) (q_ifF (c1 S) (q_ifF (e2 S) (q_ifF (c3 S) (q_ifF (e4 S) (q_ifR (e5 S) (q_ret (x_tup (y_cons rfl (y_cons rfl (y_cons rfl y_nil))) fits3)))))))
  | false =>
  have e5 := fun S => eq2 5 S
  simp only [h5] at e5
  cases h6 : (shape == 6) && (decide ((n : Int) > 3) && decide ((k : Int) < 2)) with
  | true =>
    simp only [h6] at c6
    simp only [Bool.and_eq_true, decide_eq_true_eq] at h6
    exact fin 0 2 (1 - (k : Int)) (by omega) (by omega) (by omega) (by omega) (by omega) fun S => q_set (d3 S) (q_ifF (c1 S) (q_ifF (e2 S) (q_ifF (c3 S) (q_ifF (e4 S) (q_ifF (e5 S) (q_ifR (c6 S) (q_ret (x_tup (y_cons rfl (y_cons rfl (y_cons (x_bin rfl rfl rfl) y_nil))) fits3))))))))
  | false =>
  simp only [h6] at c6
  cases h7 : (shape == 6) && (decide ((n : Int) > 3) && decide ((k : Int) > (n : Int) - 3)) with
  | true =>
    simp only [h7] at c7
    simp only [Bool.and_eq_true, decide_eq_true_eq] at h7
    exact fin ((n : Int) - 2) n (2 * (n : Int) - 3 - (k : Int)) (by omega) (by omega) (by omega) (by omega) (by omega) fun S => q_set (d3 S) (q_ifF (c1 S) (q_ifF (e2 S) (q_ifF (c3 S) (q_ifF (e4 S) (q_ifF (e5 S) (q_ifF (c6 S) (q_ifR (c7 S) (q_ret (x_tup (y_cons (x_bin rfl rfl rfl) (y_cons rfl (y_cons (x_bin (x_bin (x_bin rfl rfl (o_mulL (by decide) S)) rfl rfl) rfl rfl) y_nil))) fits3)))))))))
  | false =>
  simp only [h7] at c7
  cases h8 : (shape == 3) || (shape == 4) with
  | true =>
    simp only [h8] at c8
    exact fin 0 n (-1) (by omega) (by omega) (by omega) (by omega) (by omega) fun S => q_set (d3 S) (q_ifF (c1 S) (q_ifF (e2 S) (q_ifF (c3 S) (q_ifF (e4 S) (q_ifF (e5 S) (q_ifF (c6 S) (q_ifF (c7 S) (q_ifR (c8 S) (q_ret (x_tup (y_cons rfl (y_cons rfl (y_cons (by rw [e_neg]; rfl) y_nil))) fits3))))))))))
  | false =>
  simp only [h8] at c8
  have p : (0 : Int) < (n : Int) := by omega
  have a := Int.emod_nonneg ((k : Int) + 1) (show (n : Int) ≠ 0 by omega)
  have b := Int.emod_lt_of_pos ((k : Int) + 1) p
  exact fin 0 n (((k : Int) + 1) % (n : Int)) (by omega) (by omega) (by omega) (by omega) (by omega) fun S => q_set (d3 S) (q_ifF (c1 S) (q_ifF (e2 S) (q_ifF (c3 S) (q_ifF (e4 S) (q_ifF (e5 S) (q_ifF (c6 S) (q_ifF (c7 S) (q_ifF (c8 S) (q_ret (x_tup (y_cons rfl (y_cons rfl (y_cons (x_bin (x_c1 (x_bin rfl rfl rfl) rfl) rfl (o_mod p S)) y_nil))) fits3))))))))))
/-! ### the web that the law draws -/
noncomputable abbrev netB : SDen := sSeq (sAsg (dFn 3 O__law_span (dCons (dVar 2) (dCons (dVar 1) (dCons (dVar 6) (dNil))))) (PD.tTup 3 (PD.tCons (tName 14) (PD.tCons (tName 15) (PD.tCons (tName 16) (PD.tNil)))))) (sSeq (sSet 7 (dBin oIx (dVar 0) (dBin oPlus (dBin oPlus (dC (.int 1)) (dVar 6)) (dBin oMul (dC (.int 30)) (dCall oInt1 (dCons (dBin oGt (dVar 6) (dC (.int 4))) (dNil))))))) (sSeq (sSet 8 (dBin oMulM (dLst (dCons (dC (.int 0)) (dNil))) (dVar 1))) (sSeq (sSet 9 (dVar 3)) (sSeq (sIf (dBin oGe (dVar 16) (dC (.int 0))) (sSeq (sStore (dC (.int 1)) (dVar 8) (dVar 16)) (sSeq (sSet 9 (dBin oSub (dVar 3) (dC (.int 1)))) (sNil))) (sNil)) (sSeq (sSet 10 (dBin oMod (dCall oInt1 (dCons (dBin oDiv (dVar 7) (dC (.int 25))) (dNil))) (dBin oPlus (dVar 9) (dC (.int 1))))) (sSeq (sSet 11 (dBin oPlus (dVar 14) (dBin oMod (dCall oInt1 (dCons (dVar 7) (dNil))) (dBin oSub (dVar 15) (dVar 14))))) (sSeq (sSet 12 (dBin oPlus (dVar 14) (dBin oMod (dCall oInt1 (dCons (dBin oDiv (dVar 7) (dC (.int 5))) (dNil))) (dBin oSub (dVar 15) (dVar 14))))) (sSeq (sStore (dBin oPlus (dBin oIx (dVar 8) (dVar 11)) (dVar 10)) (dVar 8) (dVar 11)) (sSeq (sStore (dBin oSub (dBin oPlus (dBin oIx (dVar 8) (dVar 12)) (dVar 9)) (dVar 10)) (dVar 8) (dVar 12)) (sSeq (sFor (dItems (dVar 8)) (tName 13) (sSeq (sSet 5 (dFn 2 O__law_gcd (dCons (dVar 5) (dCons (dVar 13) (dNil))))) (sNil))) (sSeq (sExpr (dApp (dVar 4) (dVar 8))) (sNil))))))))))))
def Bd (n : Nat) (M : Int) (xs : List Int) : Prop := xs.length = n ∧ ∀ i < n, 0 ≤ gt xs i ∧ gt xs i ≤ M
theorem gt_set {xs : List Int} {j i : Nat} {z : Int} (hj : j < xs.length) : gt (xs.set j z) i = if i = j then z else gt xs i := by
  by_cases h : i = j
  · subst h
    rw [if_pos rfl, gt_get (by simpa using hj)]
    exact List.getElem_set_self ..
  · rw [if_neg h]
    by_cases hi : i < xs.length
    · rw [gt_get (by simpa using hi), gt_get hi]
      exact List.getElem_set_ne (fun z => h z.symm) _
    · rw [gt_out (by simp; omega), gt_out (by omega)]
theorem Bd.set {n : Nat} {M M' : Int} {xs : List Int} (h : Bd n M xs) {j : Nat} (hj : j < n) {z : Int} (z0 : 0 ≤ z) (z1 : z ≤ M') (hM : M ≤ M') : Bd n M' (xs.set j z) :=
  ⟨by rw [List.length_set, h.1], fun i hi => by
    rw [gt_set (by rw [h.1]; exact hj)]
    have := h.2 i hi
    split <;> omega⟩
theorem Bd.rep (n : Nat) : Bd n 0 (List.replicate n 0) := ⟨by simp, fun i hi => by rw [gt_rep]; omega⟩
theorem st_int {ρ : EnvD} {S : Store} {fe fo fi : Den} {z : Int} {j : Nat} {xs : List Int} (he : fe ρ (S ++ [xs.map D.int]) = some (.ok (.int z) (S ++ [xs.map D.int]))) (ho : fo ρ (S ++ [xs.map D.int]) = some (.ok (.ref S.length) (S ++ [xs.map D.int]))) (hi : fi ρ (S ++ [xs.map D.int]) = some (.ok (.int (j : Nat)) (S ++ [xs.map D.int]))) (hj : j < xs.length) : sStore fe fo fi ρ (S ++ [xs.map D.int]) = some (.nx ρ (S ++ [(xs.set j z).map D.int])) := by
  have := s_store he ho hi (get_last _ _) (j := j) (by
    simp only [ixN]
    rw [if_pos (by omega), if_pos (by rw [List.length_map]; omega), Int.toNat_natCast])
  rw [set_last] at this
  rw [this, List.map_set]
def refs (a k : Nat) : List D := (List.range k).map fun i => D.ref (a + 1 + i)
def ST (S : Store) (Ns : List (List Int)) : Store := S ++ (refs S.length Ns.length :: Ns.map fun x => x.map D.int)
theorem ST_len (S : Store) (Ns : List (List Int)) : (ST S Ns).length = S.length + 1 + Ns.length := by simp [ST]; omega
theorem ST_rows (S E : Store) (Ns : List (List Int)) : (ST S Ns ++ E)[S.length]? = some (refs S.length Ns.length) := by
  unfold ST
  rw [List.append_assoc, List.getElem?_append_right (Nat.le_refl _), Nat.sub_self]
  rfl
theorem ST_nums (S E : Store) (Ns : List (List Int)) (i : Nat) (hi : i < Ns.length) : (ST S Ns ++ E)[S.length + 1 + i]? = some (Ns[i].map D.int) := by
  unfold ST
  rw [List.append_assoc, List.getElem?_append_right (by omega), show S.length + 1 + i - S.length = i + 1 by omega, List.cons_append, List.getElem?_cons_succ, List.getElem?_append_left (by simpa using hi), List.getElem?_map, List.getElem?_eq_getElem hi]
  rfl
theorem ST_snoc (S : Store) (Ns : List (List Int)) (x : List Int) : (ST S Ns ++ [x.map D.int]).set S.length (refs S.length Ns.length ++ [.ref (ST S Ns).length]) = ST S (Ns ++ [x]) := by
  have e : refs S.length Ns.length ++ [.ref (ST S Ns).length] = refs S.length (Ns ++ [x]).length := by
    rw [ST_len]
    simp only [refs, List.length_append, List.length_cons, List.length_nil, List.range_succ, List.map_append, List.map_cons, List.map_nil]
  rw [e]
  unfold ST
  rw [List.append_assoc, List.set_append_right _ _ (Nat.le_refl _), Nat.sub_self, List.cons_append, List.set_cons_zero, List.map_append]
  rfl
section
variable {S : Store}
theorem net_gcd (P : Nat) (S2 : Store) (xs0 : List Int) (hk : S2[P]? = some (xs0.map D.int)) (r0 r1 r2 r3 r4 r6 r7 r8 r9 r10 r11 r12 r14 r15 r16 : Option D) : ∀ (xs : List Int) (big : Int) (r13 : Option D), 1 ≤ big → (∀ x ∈ xs, 0 ≤ x ∧ x < 2 ^ 2000) → ∃ (big' : Int) (q13 : Option D), 1 ≤ big' ∧ big' ≤ big ∧ forLoop (some P) (xs0.map D.int) (tName 13) (sSeq (sSet 5 (dFn 2 O__law_gcd (dCons (dVar 5) (dCons (dVar 13) (dNil))))) (sNil)) (xs.map D.int) [r0, r1, r2, r3, r4, some (.int big), r6, r7, r8, r9, r10, r11, r12, r13, r14, r15, r16] S2 = some (.nx [r0, r1, r2, r3, r4, some (.int big'), r6, r7, r8, r9, r10, r11, r12, q13, r14, r15, r16] S2)
  | [], big, r13, h, _ => ⟨big, r13, h, Int.le_refl _, rfl⟩
  | x :: xs, big, r13, h, hx => by
    obtain ⟨x0, x1⟩ := hx x List.mem_cons_self
    have g1 : 1 ≤ ((Int.gcd big x : Nat) : Int) := by
      have := Int.gcd_pos_of_ne_zero_left x (show big ≠ 0 by omega)
      omega
    have g2 : ((Int.gcd big x : Nat) : Int) ≤ big := Int.le_of_dvd (by omega) (Int.gcd_dvd_left ..)
    obtain ⟨big', q13, b1, b2, e⟩ := net_gcd P S2 xs0 hk r0 r1 r2 r3 r4 r6 r7 r8 r9 r10 r11 r12 r14 r15 r16 xs (Int.gcd big x : Nat) (some (.int x)) g1 fun y hy => hx y (List.mem_cons_of_mem _ hy)
    exact ⟨big', q13, b1, by omega, loop_consW hk rfl (q_set (x_f2 rfl rfl (v_gcd S2 big x (by omega) x0 x1)) rfl) e⟩
theorem oMulM_rep (n : Nat) (nk : n ≤ 1000) (S : Store) : oMulM (.lst [.int 0]) (.int (n : Nat)) S = some (.ok (.ref S.length) (S ++ [(List.replicate n 0).map D.int])) := by
  simp only [oMulM, asList]
  rw [if_pos ⟨by omega, by omega, by simp; omega⟩, Int.toNat_natCast, flat_rep, List.map_replicate]
theorem net_turn (ds : List Int) (hd : 60 ≤ ds.length) (n : Nat) (n1 : 1 ≤ n) (n8 : n ≤ 8) (shape bot : Int) (b1 : 1 ≤ bot) (b2 : bot ≤ 12) (Ns : List (List Int)) (k : Nat) (hkN : Ns.length = k) (hk : k < n) (big : Int) (g1 : 1 ≤ big) (r6 r7 r8 r9 r10 r11 r12 r13 r14 r15 r16 : Option D) :
    ∃ (nums : List Int) (big' : Int) (q7 q8 q9 q10 q11 q12 q13 q14 q15 q16 : Option D), Bd n 40 nums ∧ 1 ≤ big' ∧ big' ≤ big ∧ netB [some (.lst (ds.map .int)), some (.int (n : Nat)), some (.int shape), some (.int bot), some (.ref S.length), some (.int big), some (.int (k : Nat)), r7, r8, r9, r10, r11, r12, r13, r14, r15, r16] (ST S Ns) =
      some (.nx [some (.lst (ds.map .int)), some (.int (n : Nat)), some (.int shape), some (.int bot), some (.ref S.length), some (.int big'), some (.int (k : Nat)), q7, q8, q9, q10, q11, q12, q13, q14, q15, q16] (ST S (Ns ++ [nums]))) := by
  obtain ⟨lo, hi, ah, l0, l1, l2, a0, a1, sp⟩ := v_span shape n k n1 n8 hk
  obtain ⟨i, hi2, ei⟩ : ∃ i : Nat, i < 60 ∧ 1 + (k : Int) + 30 * (if (k : Int) > 4 then 1 else 0) = (i : Nat) := by
    by_cases h : (k : Int) > 4
    · exact ⟨1 + k + 30, by omega, by rw [if_pos h]; omega⟩
    · exact ⟨1 + k, by omega, by rw [if_neg h]; omega⟩
  have ir : ∀ T, oIx (.lst (ds.map .int)) (.int (i : Nat)) T = some (.ok (.int (gt ds i)) T) := fun T => ixLi (by omega) T
  generalize gt ds i = part at *
  generalize hS1 : ST S Ns = S1 at *
  have nk : n ≤ 1000 := by omega
  -- the marked place
  obtain ⟨xs1, left, hx1, le0, le1, e1⟩ : ∃ (xs1 : List Int) (left : Int), Bd n 1 xs1 ∧ 0 ≤ left ∧ left ≤ 12 ∧ ∀ r10 r11 r12 r13 : Option D, sIf (dBin oGe (dVar 16) (dC (.int 0))) (sSeq (sStore (dC (.int 1)) (dVar 8) (dVar 16)) (sSeq (sSet 9 (dBin oSub (dVar 3) (dC (.int 1)))) (sNil))) (sNil) [some (.lst (ds.map .int)), some (.int (n : Nat)), some (.int shape), some (.int bot), some (.ref S.length), some (.int big), some (.int (k : Nat)), some (.int part), some (.ref S1.length), some (.int bot), r10, r11, r12, r13, some (.int lo), some (.int hi), some (.int ah)] (S1 ++ [(List.replicate n 0).map D.int]) =
      some (.nx [some (.lst (ds.map .int)), some (.int (n : Nat)), some (.int shape), some (.int bot), some (.ref S.length), some (.int big), some (.int (k : Nat)), some (.int part), some (.ref S1.length), some (.int left), r10, r11, r12, r13, some (.int lo), some (.int hi), some (.int ah)] (S1 ++ [xs1.map D.int])) := by
    by_cases h : ah ≥ 0
    · obtain ⟨j, hj, ej⟩ : ∃ j : Nat, j < n ∧ ah = (j : Nat) := ⟨ah.toNat, by omega, by omega⟩
      refine ⟨(List.replicate n 0).set j 1, bot - 1, (Bd.rep n).set hj (by decide) (by decide) (by decide), by omega, by omega, fun r10 r11 r12 r13 => ?_⟩
      subst ej
      exact s_ifT (x_bin rfl rfl (congrArg (fun z => some (Res.ok (D.bl z) _)) (decide_eq_true h))) (q_nx (st_int rfl rfl rfl (by simpa using hj)) (q_set (x_bin rfl rfl rfl) rfl))
    · refine ⟨List.replicate n 0, bot, ⟨by simp, fun i hi => by rw [gt_rep]; omega⟩, by omega, by omega, fun r10 r11 r12 r13 => ?_⟩
      exact s_ifF (x_bin rfl rfl (congrArg (fun z => some (Res.ok (D.bl z) _)) (decide_eq_false h))) rfl
  have lp : (0 : Int) < left + 1 := by omega
  have s0 := Int.emod_nonneg (part / 25) (show left + 1 ≠ 0 by omega)
  have s1 := Int.emod_lt_of_pos (part / 25) lp
  generalize hsm : part / 25 % (left + 1) = some_ at *
  have hp : (0 : Int) < hi - lo := by omega
  obtain ⟨o1, ho1, eo1⟩ : ∃ j : Nat, j < n ∧ lo + part % (hi - lo) = (j : Nat) := by
    have a := Int.emod_nonneg part (show hi - lo ≠ 0 by omega)
    have b := Int.emod_lt_of_pos part hp
    exact ⟨(lo + part % (hi - lo)).toNat, by omega, by omega⟩
  obtain ⟨o2, ho2, eo2⟩ : ∃ j : Nat, j < n ∧ lo + part / 5 % (hi - lo) = (j : Nat) := by
    have a := Int.emod_nonneg (part / 5) (show hi - lo ≠ 0 by omega)
    have b := Int.emod_lt_of_pos (part / 5) hp
    exact ⟨(lo + part / 5 % (hi - lo)).toNat, by omega, by omega⟩
  have hx2 : Bd n 13 (xs1.set o1 (gt xs1 o1 + some_)) := hx1.set ho1 (by have := hx1.2 o1 ho1; omega) (by have := hx1.2 o1 ho1; omega) (by decide)
  have hx3 : Bd n 40 ((xs1.set o1 (gt xs1 o1 + some_)).set o2 (gt (xs1.set o1 (gt xs1 o1 + some_)) o2 + left - some_)) := hx2.set ho2 (by have := hx2.2 o2 ho2; omega) (by have := hx2.2 o2 ho2; omega) (by decide)
  generalize hy2 : xs1.set o1 (gt xs1 o1 + some_) = xs2 at *
  generalize hy3 : xs2.set o2 (gt xs2 o2 + left - some_) = xs3 at *
  have gk : (S1 ++ [xs3.map D.int])[S1.length]? = some (xs3.map D.int) := get_last _ _
  obtain ⟨big', q13, h1, h2, eg⟩ := net_gcd S1.length (S1 ++ [xs3.map D.int]) xs3 gk (some (.lst (ds.map .int))) (some (.int (n : Nat))) (some (.int shape)) (some (.int bot)) (some (.ref S.length)) (some (.int (k : Nat))) (some (.int part)) (some (.ref S1.length)) (some (.int left)) (some (.int some_)) (some (.int (o1 : Nat))) (some (.int (o2 : Nat))) (some (.int lo)) (some (.int hi)) (some (.int ah)) xs3 big r13 g1 fun x hx => by
    obtain ⟨i, hi, rfl⟩ := List.getElem_of_mem hx
    rw [← gt_get hi]
    have := hx3.2 i (by have := hx3.1; omega)
    have p : (40 : Int) < 2 ^ 2000 := by decide
    omega
  refine ⟨xs3, big', some (.int part), some (.ref S1.length), some (.int left), some (.int some_), some (.int (o1 : Nat)), some (.int (o2 : Nat)), q13, some (.int lo), some (.int hi), some (.int ah), hx3, h1, h2, ?_⟩
  have rd : ∀ (xs : List Int) (j : Nat), j < xs.length → oIx (.ref S1.length) (.int (j : Nat)) (S1 ++ [xs.map D.int]) = some (.ok (.int (gt xs j)) (S1 ++ [xs.map D.int])) := fun xs j hj => ixAny (S := S1 ++ [xs.map D.int]) (x := .ref S1.length) (get_last _ _) hj
  have p7 : ∀ (r7 r8 r9 r10 r11 r12 r13 : Option D), dBin oIx (dVar 0) (dBin oPlus (dBin oPlus (dC (.int 1)) (dVar 6)) (dBin oMul (dC (.int 30)) (dCall oInt1 (dCons (dBin oGt (dVar 6) (dC (.int 4))) (dNil))))) [some (.lst (ds.map .int)), some (.int (n : Nat)), some (.int shape), some (.int bot), some (.ref S.length), some (.int big), some (.int (k : Nat)), r7, r8, r9, r10, r11, r12, r13, some (.int lo), some (.int hi), some (.int ah)] S1 = some (.ok (.int part) S1) := fun _ _ _ _ _ _ _ => by
    have g : oInt1 [.bl (decide ((k : Int) > 4))] S1 = some (.ok (.int (if (k : Int) > 4 then 1 else 0)) S1) := by
      show some (Res.ok (D.int (if decide ((k : Int) > 4) then 1 else 0)) S1) = _
      simp only [decide_eq_true_eq]
    refine x_bin rfl (x_bin (x_bin rfl rfl rfl) (x_bin rfl (x_c1 (x_bin rfl rfl rfl) g) (o_mulL (by decide) S1)) ?_) (ir S1)
    exact congrArg (fun z => some (Res.ok (D.int z) S1)) ei
  refine q_three (sp S1) (q_set (p7 _ _ _ _ _ _ _) (q_set (d := .ref S1.length) (S1 := S1 ++ [(List.replicate n 0).map D.int]) (x_bin (x_lst (y_cons rfl y_nil) rfl) rfl (oMulM_rep n nk S1)) (q_set rfl (q_nx (e1 _ _ _ _) ?_))))
  refine q_set (x_bin (x_c1 (x_bin rfl rfl (oDivI (by decide) (by decide) _)) rfl) (x_bin rfl rfl rfl) ((o_mod lp _).trans (by rw [hsm]))) ?_
  refine q_set (x_bin rfl (x_bin (x_c1 rfl rfl) (x_bin rfl rfl rfl) (o_mod hp _)) ((o_addI _ _ _).trans (by rw [eo1]))) ?_
  refine q_set (x_bin rfl (x_bin (x_c1 (x_bin rfl rfl (oDivI (by decide) (by decide) _)) rfl) (x_bin rfl rfl rfl) (o_mod hp _)) ((o_addI _ _ _).trans (by rw [eo2]))) ?_
  refine q_nx (st_int (x_bin (x_bin rfl rfl (rd xs1 o1 (by rw [hx1.1]; exact ho1))) rfl rfl) rfl rfl (by rw [hx1.1]; exact ho1)) ?_
  rw [hy2]
  refine q_nx (st_int (x_bin (x_bin (x_bin rfl rfl (rd xs2 o2 (by rw [hx2.1]; exact ho2))) rfl rfl) rfl rfl) rfl rfl (by rw [hx2.1]; exact ho2)) ?_
  rw [hy3]
  refine q_for (w := some S1.length) (items := xs3.map D.int) (S1 := S1 ++ [xs3.map D.int]) (x_items (d := .ref S1.length) rfl (by simp only [asWalk, gk, Option.map_some])) eg ?_
  have ra := ST_rows S [xs3.map D.int] Ns
  have sn := ST_snoc S Ns xs3
  rw [hS1] at ra sn
  have ap := x_app (ρ := [some (.lst (ds.map .int)), some (.int (n : Nat)), some (.int shape), some (.int bot), some (.ref S.length), some (.int big'), some (.int (k : Nat)), some (.int part), some (.ref S1.length), some (.int left), some (.int some_), some (.int (o1 : Nat)), some (.int (o2 : Nat)), q13, some (.int lo), some (.int hi), some (.int ah)]) (S := S1 ++ [xs3.map D.int]) (fo := dVar 4) (fe := dVar 8) (n := S.length) (d := .ref S1.length) rfl rfl ra (by simp only [refs, List.length_map, List.length_range]; omega)
  rw [sn] at ap
  exact q_expr ap rfl
theorem net_loop (ds : List Int) (hd : 60 ≤ ds.length) (n : Nat) (n1 : 1 ≤ n) (n8 : n ≤ 8) (shape bot : Int) (b1 : 1 ≤ bot) (b2 : bot ≤ 12) (all : List D) : ∀ (j k : Nat) (Ns : List (List Int)) (big : Int) (r6 r7 r8 r9 r10 r11 r12 r13 r14 r15 r16 : Option D), Ns.length = k → k + j ≤ n → 1 ≤ big → (∀ x ∈ Ns, Bd n 40 x) → ∃ (Ns' : List (List Int)) (big' : Int) (q6 q7 q8 q9 q10 q11 q12 q13 q14 q15 q16 : Option D), Ns'.length = k + j ∧ (∀ x ∈ Ns', Bd n 40 x) ∧ 1 ≤ big' ∧ big' ≤ big ∧
    forLoop none all (tName 6) netB ((List.range' k j).map fun i => D.int (i : Nat)) [some (.lst (ds.map .int)), some (.int (n : Nat)), some (.int shape), some (.int bot), some (.ref S.length), some (.int big), r6, r7, r8, r9, r10, r11, r12, r13, r14, r15, r16] (ST S Ns) = some (.nx [some (.lst (ds.map .int)), some (.int (n : Nat)), some (.int shape), some (.int bot), some (.ref S.length), some (.int big'), q6, q7, q8, q9, q10, q11, q12, q13, q14, q15, q16] (ST S Ns'))
  | 0, k, Ns, big, r6, r7, r8, r9, r10, r11, r12, r13, r14, r15, r16, hN, _, hb, hx => ⟨Ns, big, r6, r7, r8, r9, r10, r11, r12, r13, r14, r15, r16, hN, hx, hb, Int.le_refl _, rfl⟩
  | j + 1, k, Ns, big, r6, r7, r8, r9, r10, r11, r12, r13, r14, r15, r16, hN, hl, hb, hx => by
    obtain ⟨nums, big1, q7, q8, q9, q10, q11, q12, q13, q14, q15, q16, h1, h2, h3, t⟩ := net_turn (S := S) ds hd n n1 n8 shape bot b1 b2 Ns k hN (by omega) big hb (some (.int (k : Nat))) r7 r8 r9 r10 r11 r12 r13 r14 r15 r16
    obtain ⟨Ns', big', p6, p7, p8, p9, p10, p11, p12, p13, p14, p15, p16, i1, i2, i3, i4, e⟩ := net_loop ds hd n n1 n8 shape bot b1 b2 all j (k + 1) (Ns ++ [nums]) big1 (some (.int (k : Nat))) q7 q8 q9 q10 q11 q12 q13 q14 q15 q16 (by rw [List.length_append, hN]; rfl) (by omega) h2 fun y hy => by
      rcases List.mem_append.mp hy with hy | hy
      · exact hx y hy
      · rw [List.mem_singleton.mp hy]; exact h1
    refine ⟨Ns', big', p6, p7, p8, p9, p10, p11, p12, p13, p14, p15, p16, by omega, i2, i3, by omega, ?_⟩
    rw [List.range'_succ, List.map_cons]
    exact loop_cons_nxS rfl rfl t e
end
end My
set_option Elab.async false
set_option linter.all false
set_option maxRecDepth 100000
set_option maxHeartbeats 4000000
set_option exponentiation.threshold 20000
namespace My
open PySem PySem.Spec PyProof.Rows L2 PD
theorem ixTm (xs : List Int) (j : Int) (h0 : 0 ≤ j) (h1 : j < xs.length) : ∃ x, x ∈ xs ∧ ∀ S, oIx (.tup (xs.map .int)) (.int j) S = some (.ok (.int x) S) := by
  have hl : j.toNat < xs.length := by omega
  refine ⟨gt xs j.toNat, gt_mem hl, fun S => ?_⟩
  have := ixT hl S
  rwa [Int.toNat_of_nonneg h0] at this
section
variable {ρ : EnvD} {S : Store} {own : List Nat} {t : Tg} {elt cnd : Den} {f : Iens} {items all : List D}
theorem lcW_loopE {n : Nat} (hk : S[n]? = some all) (h : D → D) (ρ' : D → EnvD) : ∀ (xs acc : List D), (∀ x ∈ xs, t.go x (wipeD ρ own) = some (ρ' x)) → (∀ x ∈ xs, ∀ a, elt (ρ' x) (S ++ [a]) = some (.ok (h x) (S ++ [a]))) →
    acc.length + xs.length ≤ 16777216 → lcLoop own t dYes elt ρ S.length (some n) all xs (S ++ [acc]) = some (S ++ [acc ++ xs.map h])
  | [], acc, _, _, _ => by simp [lcLoop]
  | x :: xs, acc, ht, he, hl => by
    have hn : n < S.length := (List.getElem?_eq_some_iff.mp hk).1
    have ih := fun a => lcW_loopE hk h ρ' xs a (fun y hy => ht y (List.mem_cons_of_mem _ hy)) (fun y hy => he y (List.mem_cons_of_mem _ hy))
    simp only [List.length_cons] at hl
    simp only [lcLoop, ht x List.mem_cons_self, dYes, if_true, he x List.mem_cons_self, get_last, set_last]
    have ck : ckOf (some n) all (S ++ [acc ++ [h x]]) := by
      show (S ++ [acc ++ [h x]])[n]? = some all
      rw [List.getElem?_append_left hn]
      exact hk
    rw [if_pos ⟨by omega, by rw [set_last]; exact ck⟩]
    have := ih (acc ++ [h x]) (by simp; omega)
    rw [this]
    simp
theorem lcW_mapE {n : Nat} (h : D → D) (ρ' : D → EnvD) (hf : f ρ S = some (.ok items (some n) S)) (hk : S[n]? = some items) (ht : ∀ x ∈ items, t.go x (wipeD ρ own) = some (ρ' x)) (he : ∀ x ∈ items, ∀ a, elt (ρ' x) (S ++ [a]) = some (.ok (h x) (S ++ [a]))) (hl : items.length ≤ 16777216) (cl : closeds (items.map h) = true) : dLc own f t dYes elt ρ S = some (.ok (.lst (items.map h)) S) := by
  have e := lcW_loopE (own := own) (t := t) (elt := elt) (ρ := ρ) hk h ρ' items [] ht he (by simpa using hl)
  unfold dLc
  rw [hf]
  simp only [e, List.nil_append, get_last, List.take_left', fzs_closed cl]
  simp
end
/-- a row, divided -/
def rowD (big : Int) (ys : List D) : D := .tup (ys.map fun d => .int (ival d / big))
theorem rowD_int (big : Int) (xs : List Int) : rowD big (xs.map .int) = .tup ((xs.map (· / big)).map .int) := by
  unfold rowD
  rw [List.map_map, List.map_map]
  rfl
theorem net_tail (S : Store) (Ns : List (List Int)) (n : Nat) (hN : Ns.length = n) (n8 : n ≤ 8) (hx : ∀ x ∈ Ns, Bd n 40 x) (bot big : Int) (g1 : 1 ≤ big) (g2 : big ≤ 12) (r0 r1 r2 r6 r7 r8 r9 r10 r11 r12 r13 r14 r15 r16 : Option D) :
    sSeq (sRet (dTup (dCons (dCall oTuple1 (dCons (dLc [8] (dItems (dVar 4)) (.one 8) (dYes) (dCall oTuple1 (dCons (dLc [13] (dItems (dVar 8)) (.one 13) (dYes) (dBin oDiv (dVar 13) (dVar 5))) (dNil)))) (dNil))) (dCons (dBin oDiv (dVar 3) (dVar 5)) (dNil))))) (sNil) [r0, r1, r2, some (.int bot), some (.ref S.length), some (.int big), r6, r7, r8, r9, r10, r11, r12, r13, r14, r15, r16] (ST S Ns) =
      some (.rt (wb (Ns.map fun x => x.map (· / big)) (bot / big)) (ST S Ns)) := by
  have lg : big.natAbs.log2 < 9000 := by
    have : small big := small_lt (B := 5) (by omega) (by omega) (by decide)
    have := log_small this
    omega
  have g0 : 0 < big := by omega
  have rows := ST_rows S [] Ns
  rw [List.append_nil] at rows
  let h : D → D := fun d => match d with
    | .ref j => rowD big (((ST S Ns)[j]?).getD [])
    | _ => .non
  have hh : ∀ i (hi : i < Ns.length), h (.ref (S.length + 1 + i)) = .tup ((Ns[i].map (· / big)).map .int) := fun i hi => by
    have := ST_nums S [] Ns i hi
    rw [List.append_nil] at this
    show rowD big (((ST S Ns)[S.length + 1 + i]?).getD []) = _
    rw [this]
    exact rowD_int big _
  have items : (refs S.length Ns.length).map h = (Ns.map fun x => x.map (· / big)).map fun r => D.tup (r.map .int) := by
    refine List.ext_getElem (by simp [refs]) fun i h1 h2 => ?_
    have hi : i < Ns.length := by simpa [refs] using h1
    rw [List.getElem_map, List.getElem_map, List.getElem_map]
    have : (refs S.length Ns.length)[i]'(by simpa [refs] using hi) = .ref (S.length + 1 + i) := by simp [refs]
    rw [this]
    exact hh i hi
  have cls : closeds ((refs S.length Ns.length).map h) = true := by
    rw [items, closeds_all]
    refine List.all_eq_true.mpr fun x hx => ?_
    obtain ⟨r, _, rfl⟩ := List.mem_map.mp hx
    simp only [closed, closeds_map_int]
  have l := lcW_mapE (own := [8]) (t := .one 8) (elt := dCall oTuple1 (dCons (dLc [13] (dItems (dVar 8)) (.one 13) (dYes) (dBin oDiv (dVar 13) (dVar 5))) (dNil))) (f := dItems (dVar 4)) (ρ := [r0, r1, r2, some (.int bot), some (.ref S.length), some (.int big), r6, r7, r8, r9, r10, r11, r12, r13, r14, r15, r16]) (S := ST S Ns) (items := refs S.length Ns.length) h
    (fun d => [r0, r1, r2, some (.int bot), some (.ref S.length), some (.int big), r6, r7, some d, r9, r10, r11, r12, r13, r14, r15, r16]) (x_items (d := .ref S.length) rfl (by simp only [asWalk, rows, Option.map_some])) rows (fun _ _ => rfl) (fun x hx' a => by
      obtain ⟨i, hi, rfl⟩ := List.mem_map.mp hx'
      have hi := List.mem_range.mp hi
      have nk := ST_nums S [a] Ns i hi
      rw [hh i hi]
      have li := lcW_map (own := [13]) (t := .one 13) (elt := dBin oDiv (dVar 13) (dVar 5)) (f := dItems (dVar 8)) (ρ := [r0, r1, r2, some (.int bot), some (.ref S.length), some (.int big), r6, r7, some (.ref (S.length + 1 + i)), r9, r10, r11, r12, r13, r14, r15, r16]) (S := ST S Ns ++ [a]) (items := Ns[i].map .int) (fun d => .int (ival d / big))
        (fun d => [r0, r1, r2, some (.int bot), some (.ref S.length), some (.int big), r6, r7, some (.ref (S.length + 1 + i)), r9, r10, r11, r12, some d, r14, r15, r16]) (x_items (d := .ref (S.length + 1 + i)) rfl (by simp only [asWalk, nk, Option.map_some])) nk (fun _ _ => rfl) (fun d hd T => by
          obtain ⟨z, _, rfl⟩ := List.mem_map.mp hd
          exact x_bin rfl rfl (o_divI g0 lg T)) (by
          have := (hx Ns[i] (List.getElem_mem hi)).1
          rw [List.length_map]
          omega) (by rw [map_div]; exact closeds_map_int _)
      rw [map_div] at li
      exact x_c1 li rfl) (by simp only [refs, List.length_map, List.length_range]; omega) cls
  rw [items] at l
  exact q_ret (x_tup (y_cons (x_c1 l rfl) (y_cons (x_bin rfl rfl (o_divI g0 lg _)) y_nil)) rfl)
theorem gt_mapD {xs : List Int} {big : Int} {i : Nat} (hi : i < xs.length) : gt (xs.map (· / big)) i = gt xs i / big := gt_map hi
theorem v_net (S : Store) (ds : List Int) (hd : 60 ≤ ds.length) : ∃ (n : Nat) (R : List (List Int)) (m : Int), Web n R m ∧ n ≤ 8 ∧ O__law_net [.lst (ds.map .int)] S = some (.ok (wb R m) S) := by
  have st : startD ["_law_row", "_law_size", "_law_shape", "_law_bot", "_law_rows", "_law_big", "_law_k", "_law_part_here", "_law_nums", "_law_left", "_law_some", "_law_one", "_law_other", "_law_top", "_law_low_here", "_law_high", "_law_ahead"] [.lst (ds.map .int)] = [some (.lst (ds.map .int)), none, none, none, none, none, none, none, none, none, none, none, none, none, none, none, none] := rfl
  have ir : ∀ T, oIx (.lst (ds.map .int)) (.int 0) T = some (.ok (.int (gt ds 0)) T) := fun T => ixLi (i := 0) (by omega) T
  generalize gt ds 0 = z at *
  obtain ⟨a, ha, ia⟩ := ixTm [3, 4, 2, 5, 3, 1, 4, 3] (z % 8) (Int.emod_nonneg _ (by decide)) (Int.emod_lt_of_pos _ (by decide))
  have ha' : 1 ≤ a ∧ a ≤ 5 := (by decide : ∀ a ∈ ([3, 4, 2, 5, 3, 1, 4, 3] : List Int), 1 ≤ a ∧ a ≤ 5) a ha
  obtain ⟨b, hb, ib⟩ := ixTm [2, 3, 4, 6, 12, 1] (z / 64 % 6) (Int.emod_nonneg _ (by decide)) (Int.emod_lt_of_pos _ (by decide))
  have hb' : 1 ≤ b ∧ b ≤ 12 := (by decide : ∀ a ∈ ([2, 3, 4, 6, 12, 1] : List Int), 1 ≤ a ∧ a ≤ 12) b hb
  obtain ⟨c, hc, ic⟩ := ixTm [0, 2, 3, 5, 6, 3, 0, 2] (z / 8 % 8) (Int.emod_nonneg _ (by decide)) (Int.emod_lt_of_pos _ (by decide))
  -- wide webs
  obtain ⟨n, shape, n1, n8, e1⟩ : ∃ (n : Nat) (shape : Int), 1 ≤ n ∧ n ≤ 8 ∧ sIf (dBin oEq (dBin oMod (dCall oInt1 (dCons (dBin oDiv (dBin oIx (dVar 0) (dC (.int 0))) (dC (.int 512))) (dNil))) (dC (.int 16))) (dC (.int 5))) (sSeq (sSet 1 (dBin oPlus (dC (.int 6)) (dBin oMod (dCall oInt1 (dCons (dBin oDiv (dBin oIx (dVar 0) (dC (.int 0))) (dC (.int 8192))) (dNil))) (dC (.int 3))))) (sSeq (sSet 2 (dBin oIx (dTup (dCons (dC (.int 0)) (dCons (dC (.int 2)) (dCons (dC (.int 3)) (dCons (dC (.int 5)) (dCons (dC (.int 6)) (dCons (dC (.int 3)) (dCons (dC (.int 0)) (dCons (dC (.int 2)) (dNil)))))))))) (dVar 2))) (sNil))) (sNil) [some (.lst (ds.map .int)), some (.int a), some (.int (z / 8 % 8)), some (.int b), none, none, none, none, none, none, none, none, none, none, none, none, none] S =
      some (.nx [some (.lst (ds.map .int)), some (.int (n : Nat)), some (.int shape), some (.int b), none, none, none, none, none, none, none, none, none, none, none, none, none] S) := by
    have cnd : dBin oEq (dBin oMod (dCall oInt1 (dCons (dBin oDiv (dBin oIx (dVar 0) (dC (.int 0))) (dC (.int 512))) (dNil))) (dC (.int 16))) (dC (.int 5)) [some (.lst (ds.map .int)), some (.int a), some (.int (z / 8 % 8)), some (.int b), none, none, none, none, none, none, none, none, none, none, none, none, none] S = some (.ok (.bl (z / 512 % 16 == 5)) S) := x_bin (x_bin (x_c1 (x_bin (x_bin rfl rfl (ir S)) rfl (oDivI (by decide) (by decide) S)) rfl) rfl (o_mod (by decide) S)) rfl (o_eqI _ _ S)
    cases h : z / 512 % 16 == 5
    · rw [h] at cnd
      refine ⟨a.toNat, z / 8 % 8, by omega, by omega, s_ifF cnd ?_⟩
      rw [Int.toNat_of_nonneg (by omega)]
      rfl
    · rw [h] at cnd
      have w0 := Int.emod_nonneg (z / 8192) (show (3 : Int) ≠ 0 by decide)
      have w1 := Int.emod_lt_of_pos (z / 8192) (show (0 : Int) < 3 by decide)
      refine ⟨(6 + z / 8192 % 3).toNat, c, by omega, by omega, s_ifT cnd ?_⟩
      rw [Int.toNat_of_nonneg (by omega)]
      exact q_set (x_bin rfl (x_bin (x_c1 (x_bin (x_bin rfl rfl (ir S)) rfl (oDivI (by decide) (by decide) S)) rfl) rfl (o_mod (by decide) S)) rfl) (q_set (x_bin (x_tup (y_cons rfl (y_cons rfl (y_cons rfl (y_cons rfl (y_cons rfl (y_cons rfl (y_cons rfl (y_cons rfl y_nil)))))))) rfl) rfl (ic S)) rfl)
  obtain ⟨bot, b1, b2, e2⟩ : ∃ bot : Int, 1 ≤ bot ∧ bot ≤ 12 ∧ sIf (dBin oEq (dVar 2) (dC (.int 3))) (sSeq (sSet 3 (dC (.int 1))) (sNil)) (sNil) [some (.lst (ds.map .int)), some (.int (n : Nat)), some (.int shape), some (.int b), none, none, none, none, none, none, none, none, none, none, none, none, none] S =
      some (.nx [some (.lst (ds.map .int)), some (.int (n : Nat)), some (.int shape), some (.int bot), none, none, none, none, none, none, none, none, none, none, none, none, none] S) := by
    have cnd : dBin oEq (dVar 2) (dC (.int 3)) [some (.lst (ds.map .int)), some (.int (n : Nat)), some (.int shape), some (.int b), none, none, none, none, none, none, none, none, none, none, none, none, none] S = some (.ok (.bl (shape == 3)) S) := x_bin rfl rfl (o_eqI _ _ S)
    cases h : shape == 3
    · rw [h] at cnd
      exact ⟨b, hb'.1, hb'.2, s_ifF cnd rfl⟩
    · rw [h] at cnd
      exact ⟨1, by decide, by decide, s_ifT cnd (q_set rfl rfl)⟩
  obtain ⟨Ns, big, q6, q7, q8, q9, q10, q11, q12, q13, q14, q15, q16, h1, h2, h3, h4, lp⟩ := net_loop (S := S) ds hd n n1 n8 shape bot b1 b2 (rgD 0 n) n 0 [] bot none none none none none none none none none none none rfl (by omega) b1 fun _ h => nomatch h
  rw [← List.range_eq_range', ← rgD_map, Nat.zero_add] at *
  have tl := net_tail S Ns n (by omega) n8 h2 bot big h3 (by omega) (some (.lst (ds.map .int))) (some (.int (n : Nat))) (some (.int shape)) q6 q7 q8 q9 q10 q11 q12 q13 q14 q15 q16
  refine ⟨n, Ns.map fun x => x.map (· / big), bot / big, ⟨n1, by omega, by rw [List.length_map]; omega, fun r hr => ?_, Int.le_ediv_of_mul_le (by omega) (by omega), ?_⟩, n8, ?_⟩
  · obtain ⟨x, hx, rfl⟩ := List.mem_map.mp hr
    have hb := h2 x hx
    refine ⟨by rw [List.length_map, hb.1], fun y hy => ?_⟩
    obtain ⟨w, hw, rfl⟩ := List.mem_map.mp hy
    obtain ⟨i, hi, rfl⟩ := List.getElem_of_mem hw
    have := hb.2 i (by have := hb.1; omega)
    rw [gt_get hi] at this
    have := Int.ediv_le_self big this.1
    have := Int.ediv_nonneg (a := x[i]) (b := big) (by omega) (by omega)
    exact ⟨this, by omega⟩
  · have := Int.ediv_le_self big (show 0 ≤ bot by omega)
    omega
  · refine fn_rt (S1 := ST S Ns) ?_ (by simp [ST]) (closed_wb _ _)
    simp only [D__law_net]
    rw [st]
    refine q_set (x_bin (x_tup (y_cons rfl (y_cons rfl (y_cons rfl (y_cons rfl (y_cons rfl (y_cons rfl (y_cons rfl (y_cons rfl y_nil)))))))) rfl) (x_bin (x_c1 (x_bin rfl rfl (ir S)) rfl) rfl (o_mod (by decide) S)) (ia S)) ?_
    refine q_set (x_bin (x_c1 (x_bin (x_bin rfl rfl (ir S)) rfl (oDivI (by decide) (by decide) S)) rfl) rfl (o_mod (by decide) S)) ?_
    refine q_set (x_bin (x_tup (y_cons rfl (y_cons rfl (y_cons rfl (y_cons rfl (y_cons rfl (y_cons rfl y_nil)))))) rfl) (x_bin (x_c1 (x_bin (x_bin rfl rfl (ir S)) rfl (oDivI (by decide) (by decide) S)) rfl) rfl (o_mod (by decide) S)) (ib S)) ?_
    refine q_nx e1 (q_nx e2 (q_set (d := .ref S.length) (S1 := S ++ [[]]) rfl (q_set rfl ?_)))
    exact q_for (w := none) (items := rgD 0 n) (S1 := S ++ [[]]) (range1_of rfl (by omega)) lp tl
/-! ### the law -/
theorem tops_ok {n : Nat} {ts : List Int} {M : Int} (hl : ts.length = n) (h : ∀ x ∈ ts, 0 ≤ x ∧ x ≤ M) (hM : M < 32) : ts.length = n ∧ ∀ i < n, 0 ≤ gt ts i ∧ gt ts i < 2 ^ 5 :=
  ⟨hl, fun i hi => by
    have := h _ (gt_mem (by omega : i < ts.length))
    have p : (2 : Int) ^ 5 = 32 := rfl
    omega⟩
theorem cut_ints (ds : List Int) (a b : Nat) (hab : a ≤ b) (hb : b ≤ ds.length) (S : Store) : ∃ row : List Int, row.length = b - a ∧ oCut (.lst (ds.map .int)) (some (a : Nat)) (some (b : Nat)) S = some (.ok (.lst (row.map .int)) S) := by
  refine ⟨(ds.drop a).take (b - a), by rw [List.length_take, List.length_drop]; omega, ?_⟩
  have e : PD.cutD (ds.map D.int) (some ((a : Nat) : Int)) (some ((b : Nat) : Int)) = ((ds.drop a).take (b - a)).map .int := by
    unfold PD.cutD
    rw [HT.sIx_nat, HT.sIx_nat, List.length_map, Nat.min_eq_left (show a ≤ ds.length by omega), Nat.min_eq_left hb, List.map_take, List.map_drop]
  simp only [oCut, asList, e]
theorem law_ok (S : Store) (ns : List Int) (hn : ns.length ≤ 63) : O_law [.scr ns] S = some (.ok (.bl true) S) := by
  refine fn_rtS ?_ rfl
  have st : startD ["_law_script", "_law_row", "_law_net_here", "_law_size", "_law_base", "_law_begin", "_law_room", "_law_allow", "_law_shares", "_law_k", "_law_upto"] [.scr ns] = [some (.scr ns), none, none, none, none, none, none, none, none, none, none] := rfl
  obtain ⟨ds, hd, hd2, ep⟩ := v_pool S ns hn
  obtain ⟨n, R, m, w, n8, en⟩ := v_net S ds hd
  have n1 := w.n1
  have ir : ∀ (i : Nat) (_ : i < 60) (T : Store), oIx (.lst (ds.map .int)) (.int (i : Nat)) T = some (.ok (.int (gt ds i)) T) := fun i hi T => ixLi (by omega) T
  obtain ⟨base, hb, ib⟩ := ixTm [1, 2, 3, 4, 6, 12] (gt ds 6 % 6) (Int.emod_nonneg _ (by decide)) (Int.emod_lt_of_pos _ (by decide))
  have hb' : 1 ≤ base ∧ base ≤ 12 := (by decide : ∀ a ∈ ([1, 2, 3, 4, 6, 12] : List Int), 1 ≤ a ∧ a ≤ 12) base hb
  have base2 : base < 2 ^ 10 := by have p : (2 : Int) ^ 10 = 1024 := rfl; omega
  obtain ⟨be, be1, be2, ebe⟩ := v_tops (gt ds 7) n (by omega) [2, 0, 1, 3, 0, 6, 1, 4] (by decide) (by decide) (fun x => 0 ≤ x ∧ x ≤ 16) (by decide)
  obtain ⟨ro, ro1, ro2, ero⟩ := v_tops (gt ds 8) n (by omega) [1, 0, 3, 2, 0, 5, 8, 1] (by decide) (by decide) (fun x => 0 ≤ x ∧ x ≤ 16) (by decide)
  obtain ⟨al, al1, al2, eal⟩ := v_tops (gt ds 9) n (by omega) [3, 2, 0, 1, 9, 4, 0, 16] (by decide) (by decide) (fun x => 0 ≤ x ∧ x ≤ 16) (by decide)
  have shk : ∀ k : Nat, ∃ ts : List Int, ts.length = n ∧ (∀ x ∈ ts, 0 ≤ x ∧ x ≤ 4) ∧ ∀ S, O__law_tops [.int (gt ds (10 + k)), .int (n : Nat), .tup ([2, 0, 4, 1, 3].map .int)] S = some (.ok (.lst (ts.map .int)) S) := fun k => v_tops (gt ds (10 + k)) n (by omega) [2, 0, 4, 1, 3] (by decide) (by decide) (fun x => 0 ≤ x ∧ x ≤ 4) (by decide)
  have sg : ∀ k < 5, ((List.range 5).map fun k => Classical.choose (shk k)).getD k [] = Classical.choose (shk k) := fun k hk => by
    rw [List.getD, List.getElem?_map, List.getElem?_range hk]
    rfl
  have hs : SharesOk n ((List.range 5).map fun k => Classical.choose (shk k)) 5 := fun _ => ⟨by simp, fun k hk i hi => by
    unfold at2
    rw [sg k hk]
    obtain ⟨a1, a2, _⟩ := Classical.choose_spec (shk k)
    exact a2 _ (gt_mem (by omega))⟩
  have hsl : ShL n ((List.range 5).map fun k => Classical.choose (shk k)) 5 := fun _ => ⟨by simp, fun k hk => by
    rw [sg k hk]
    exact (Classical.choose_spec (shk k)).1⟩
  have lsh := fun (a1 a2 a3 a4 a5 a6 : Option D) (T : Store) => lc_range (own := [9]) (t := .one 9) (elt := dFn 3 O__law_tops (dCons (dBin oIx (dVar 1) (dBin oPlus (dC (.int 10)) (dVar 9))) (dCons (dVar 3) (dCons (dTup (dCons (dC (.int 2)) (dCons (dC (.int 0)) (dCons (dC (.int 4)) (dCons (dC (.int 1)) (dCons (dC (.int 3)) (dNil))))))) (dNil))))) (f := dRange1 (dC (.int 5))) (ρ := [a1, some (.lst (ds.map .int)), a2, some (.int (n : Nat)), a3, a4, a5, a6, none, none, none]) (S := T) 5 (fun k => .lst ((Classical.choose (shk k)).map .int))
    (fun k => [a1, some (.lst (ds.map .int)), a2, some (.int (n : Nat)), a3, a4, a5, a6, none, some (.int (k : Nat)), none]) (range1_of (n := 5) rfl (by decide)) (fun _ _ => rfl) (fun k hk U => by
      have i1 : oIx (.lst (ds.map .int)) (.int (10 + (k : Int))) U = some (.ok (.int (gt ds (10 + k))) U) := by
        have := ir (10 + k) (by omega) U
        rwa [show ((10 + k : Nat) : Int) = 10 + (k : Int) by omega] at this
      exact x_f3 (x_bin rfl (x_bin rfl rfl rfl) i1) rfl (x_tup (y_cons rfl (y_cons rfl (y_cons rfl (y_cons rfl (y_cons rfl y_nil))))) rfl) ((Classical.choose_spec (shk k)).2.2 U)) (by decide) (by
      rw [closeds_all]
      refine List.all_eq_true.mpr fun x hx => ?_
      obtain ⟨k, _, rfl⟩ := List.mem_map.mp hx
      simp only [closed, closeds_map_int])
  have shd : D.lst ((List.range 5).map fun k => D.lst ((Classical.choose (shk k)).map .int)) = shD ((List.range 5).map fun k => Classical.choose (shk k)) := by
    unfold shD
    rw [List.map_map]
    rfl
  simp only [shd] at lsh
  generalize ((List.range 5).map fun k => Classical.choose (shk k)) = sh at *
  obtain ⟨u, hu, iu⟩ := ixTm [5, 2, 6, 0, 5, 1, 16, 7] (gt ds 15 % 8) (Int.emod_nonneg _ (by decide)) (Int.emod_lt_of_pos _ (by decide))
  have hu' : 0 ≤ u ∧ u ≤ 16 := (by decide : ∀ a ∈ ([5, 2, 6, 0, 5, 1, 16, 7] : List Int), 0 ≤ a ∧ a ≤ 16) u hu
  obtain ⟨T, hT, eT⟩ : ∃ T : Nat, T ≤ 16 ∧ u = (T : Nat) := ⟨u.toNat, by omega, by omega⟩
  subst eT
  have s1 : Setup n R m be ro base := ⟨w, tops_ok be1 be2 (by decide), tops_ok ro1 ro2 (by decide), hb'.1, base2⟩
  have s2 : Setup n R m be al base := ⟨w, tops_ok be1 be2 (by decide), tops_ok al1 al2 (by decide), hb'.1, base2⟩
  have h1 := v_hand S
  have h2 := v_rules (stay := true) s1 hs hsl hT S
  have h3 := v_rules (stay := false) s2 hs hsl hT S
  obtain ⟨row, rl, er⟩ := cut_ints ds 16 21 (by decide) (by omega) S
  obtain ⟨row2, rl2, er2⟩ := cut_ints ds 21 23 (by decide) (by omega) S
  have h4 := v_bends s1 hs hsl row rl S
  have h5 := v_refusals w s1.fv row2 rl2 S
  have lw := low_of w s1.hb hb'.1 base2 S
  have sz : oLen [.tup (R.map fun r => D.tup (r.map .int))] S = some (.ok (.int (n : Nat)) S) := by rw [e_lenT, List.length_map, w.len]
  simp only [D_law]
  rw [st]
  refine q_set (x_f1 rfl ep) (q_set (x_f1 rfl en) (q_set (x_c1 (x_bin rfl rfl (e_ix0 _ _ S)) sz) ?_))
  refine q_set (x_bin (x_tup (y_cons rfl (y_cons rfl (y_cons rfl (y_cons rfl (y_cons rfl (y_cons rfl y_nil)))))) rfl) (x_bin (x_c1 (x_bin rfl rfl (ir 6 (by decide) S)) rfl) rfl (o_mod (by decide) S)) (ib S)) ?_
  refine q_set (x_f3 (x_bin rfl rfl (ir 7 (by decide) S)) rfl (x_tup (y_cons rfl (y_cons rfl (y_cons rfl (y_cons rfl (y_cons rfl (y_cons rfl (y_cons rfl (y_cons rfl y_nil)))))))) rfl) (ebe S)) ?_
  refine q_set (x_f3 (x_bin rfl rfl (ir 8 (by decide) S)) rfl (x_tup (y_cons rfl (y_cons rfl (y_cons rfl (y_cons rfl (y_cons rfl (y_cons rfl (y_cons rfl (y_cons rfl y_nil)))))))) rfl) (ero S)) ?_
  refine q_set (x_f3 (x_bin rfl rfl (ir 9 (by decide) S)) rfl (x_tup (y_cons rfl (y_cons rfl (y_cons rfl (y_cons rfl (y_cons rfl (y_cons rfl (y_cons rfl (y_cons rfl y_nil)))))))) rfl) (eal S)) ?_
  refine q_set (lsh _ _ _ _ _ _ S) ?_
  refine q_set (x_bin (x_tup (y_cons rfl (y_cons rfl (y_cons rfl (y_cons rfl (y_cons rfl (y_cons rfl (y_cons rfl (y_cons rfl y_nil)))))))) rfl) (x_bin (x_c1 (x_bin rfl rfl (ir 15 (by decide) S)) rfl) rfl (o_mod (by decide) S)) (iu S)) ?_
  refine q_ifF (x_notT (x_c0 h1)) ?_
  refine q_ifF (x_notT (x_fn (y_cons rfl (y_cons rfl (y_cons rfl (y_cons rfl (y_cons rfl (y_cons rfl (y_cons rfl y_nil))))))) rfl h2)) ?_
  refine q_ifF (x_notT (x_fn (y_cons rfl (y_cons rfl (y_cons rfl (y_cons rfl (y_cons rfl (y_cons rfl (y_cons rfl y_nil))))))) rfl h3)) ?_
  refine q_ifF (x_notT (x_fn (y_cons rfl (y_cons rfl (y_cons rfl (y_cons rfl (y_cons rfl (y_cons ((x_cut (a := .lst (ds.map .int)) (i := some 16) (j := some 21) rfl rfl rfl).trans er) y_nil)))))) rfl h4)) ?_
  exact q_ret (x_f3 rfl (x_f2 rfl rfl lw) ((x_cut (a := .lst (ds.map .int)) (i := some 21) (j := some 23) rfl rfl rfl).trans er2) h5)
end My
set_option Elab.async false
set_option linter.all false
set_option maxRecDepth 100000
set_option maxHeartbeats 0
namespace My
open PySem PySem.Spec PyProof.Rows L2 PD
def dd (x : Str) (i : Nat) : He.DefD := ⟨(x, none), x, x, defArgs (top i), defBody (top i), defScope (top i), [], []⟩
def fn0 : List He.DefD := [dd "leveled" 23, dd "common_divisor" 2, dd "load_from" 22, dd "is_integer" 3, dd "is_number" 4, dd "are_numbers" 7, dd "is_bottom" 5, dd "is_pair" 6, dd "is_load" 8, dd "require" 15, dd "require_alike" 20, dd "added" 25, dd "size_of" 16, dd "step_of" 33, dd "come_to" 34, dd "lesser_of" 30, dd "no_load" 24, dd "go_passes" 40, dd "require_load" 18, dd "require_allowance" 36]
def fn1 : List He.DefD := [dd "require_number" 17, dd "go_course" 42, dd "are_loads" 44, dd "taken" 26, dd "goes_of" 46, dd "places_above" 28, dd "is_within" 29, dd "is_growing" 45, dd "stands_of" 47, dd "is_course_of" 48, dd "is_course" 50, dd "require_course" 49, dd "kept_course" 52, dd "standing_course" 51, dd "require_rooms" 19, dd "greater_of" 31, dd "over_of" 38, dd "stay_passes" 39, dd "stay_course" 41, dd "_law_ask" 67]
def fn2 : List He.DefD := [dd "_law_gcd" 55, dd "_law_low" 56, dd "_law_more" 65, dd "_law_bent" 66, dd "_law_within" 63, dd "_law_fits" 64, dd "_law_part" 62, dd "_law_same" 60, dd "_law_strange" 69, dd "_law_walk" 61, dd "_law_bends" 72, dd "_law_hand" 74, dd "_law_span" 58, dd "_law_net" 59, dd "_law_pool" 54, dd "_law_odd" 68, dd "_law_refusals" 73, dd "_law_one_course" 70, dd "_law_rules" 71, dd "_law_tops" 57]
def fn3 : List He.DefD := [dd "law" 75, ⟨("NotUsable", some "__init__"), "__init__", "NotUsable.__init__", defArgs (meth 12 0), defBody (meth 12 0), defScope (meth 12 0), [], []⟩]
def fn : List He.DefD := fn0 ++ fn1 ++ fn2 ++ fn3
def fa0 : List He.Fa := [.glo "leveled", .glo "common_divisor", .glo "load_from", .glo "is_integer", .glo "is_number", .glo "are_numbers", .glo "is_bottom", .glo "is_pair", .glo "is_load", .glo "require", .glo "require_alike", .glo "added", .glo "size_of", .glo "step_of", .glo "come_to", .glo "lesser_of", .glo "no_load", .glo "go_passes", .glo "require_load", .glo "require_allowance", .glo "require_number", .glo "go_course", .glo "are_loads", .glo "taken", .glo "goes_of", .glo "places_above", .glo "is_within", .glo "is_growing", .glo "stands_of", .glo "is_course_of"]
def fa1 : List He.Fa := [.glo "is_course", .glo "require_course", .glo "kept_course", .glo "standing_course", .glo "require_rooms", .glo "greater_of", .glo "over_of", .glo "stay_passes", .glo "stay_course", .glo "_law_ask", .glo "_law_gcd", .glo "_law_low", .glo "_law_more", .glo "_law_bent", .glo "_law_within", .glo "_law_fits", .glo "_law_part", .glo "_law_same", .glo "_law_strange", .glo "_law_walk", .glo "_law_bends", .glo "_law_hand", .glo "_law_span", .glo "_law_net", .glo "_law_pool", .glo "_law_odd", .glo "_law_refusals", .glo "_law_one_course", .glo "_law_rules", .glo "_law_tops"]
def fa2 : List He.Fa := [.glo "law", .glo "StayError", .glo "WebError", .glo "NotUsable", .glo "NoRoom", .free "abs", .free "all", .free "bool", .free "enumerate", .free "int", .free "isinstance", .free "len", .free "list", .free "max", .free "min", .free "range", .free "str", .free "sum", .free "tuple", .free "zip"]
def fa : List He.Fa := fa0 ++ fa1 ++ fa2
def fe0 : List Fe := [.con "gcd" "math.gcd", .oex "NotUsable", .no "NotUsable" "word", .no "NotUsable" "at", .is_ "NotUsable" (.own "StayError") true, .is_ "NotUsable" (.own "WebError") true, .is_ "NotUsable" (.own "NoRoom") false, .ex "NotUsable" (.own "NotUsable") true]
def fe : List Fe := fe0
def nm0 : List Str := ["gcd", "common_divisor", "is_integer", "is_number", "is_bottom", "is_pair", "are_numbers", "is_load", "StayError", "WebError", "NotUsable", "NoRoom", "require", "size_of", "require_number", "require_load", "require_rooms", "require_alike", "load_from", "leveled", "no_load", "added", "taken", "places_above", "is_within", "lesser_of", "greater_of", "step_of", "come_to", "require_allowance"]
def nm1 : List Str := ["over_of", "stay_passes", "go_passes", "stay_course", "go_course", "are_loads", "is_growing", "goes_of", "stands_of", "is_course_of", "require_course", "is_course", "standing_course", "kept_course", "_law_pool", "_law_gcd", "_law_low", "_law_tops", "_law_span", "_law_net", "_law_same", "_law_walk", "_law_part", "_law_within", "_law_fits", "_law_more", "_law_bent", "_law_ask", "_law_odd", "_law_strange"]
def nm2 : List Str := ["_law_one_course", "_law_rules", "_law_bends", "_law_refusals", "_law_hand"]
def nm : List Str := nm0 ++ nm1 ++ nm2
abbrev R : PySem.W.OpenRow := PySem.W.OpenLaw.row PySem.Challenge.rw_stayorgo_k18_whole_courses_of_both_rules
abbrev hk : PySem.W.Hook := hookE 5 fa fn fe
def ob (s : PySem.W.SharedT) : AlE := obsEG 5 fa fn fe (HeadRun.getT s)
theorem ob_eq (s : PySem.W.SharedT) : ob s = hk.obs s.abs := obsEG_eq (HeadRun.getT_eq s)
theorem run (w : World) : HeadRun.RunEqI R (PySem.W.view R.prog [0, 75]) hk ob 12000 nm w := by
  unfold HeadRun.RunEqI
  kernel_rfl
theorem facts {K : PySem.W.Frag} {h : Heap} {mg : Str → Option Value} (X : K.In h) (G : h.Ns mainGlobals mg) (c : SaysE fa fn fe K) : Facts K mg where
  g_leveled := He.glo_ok X G (c.d.fact 0 rfl)
  F_leveled := c.d.def_ 0 (d := dd "leveled" 23) rfl
  g_common_divisor := He.glo_ok X G (c.d.fact 1 rfl)
  F_common_divisor := c.d.def_ 1 (d := dd "common_divisor" 2) rfl
  g_load_from := He.glo_ok X G (c.d.fact 2 rfl)
  F_load_from := c.d.def_ 2 (d := dd "load_from" 22) rfl
  g_is_integer := He.glo_ok X G (c.d.fact 3 rfl)
  F_is_integer := c.d.def_ 3 (d := dd "is_integer" 3) rfl
  g_is_number := He.glo_ok X G (c.d.fact 4 rfl)
  F_is_number := c.d.def_ 4 (d := dd "is_number" 4) rfl
  g_are_numbers := He.glo_ok X G (c.d.fact 5 rfl)
  F_are_numbers := c.d.def_ 5 (d := dd "are_numbers" 7) rfl
  g_is_bottom := He.glo_ok X G (c.d.fact 6 rfl)
  F_is_bottom := c.d.def_ 6 (d := dd "is_bottom" 5) rfl
  g_is_pair := He.glo_ok X G (c.d.fact 7 rfl)
  F_is_pair := c.d.def_ 7 (d := dd "is_pair" 6) rfl
  g_is_load := He.glo_ok X G (c.d.fact 8 rfl)
  F_is_load := c.d.def_ 8 (d := dd "is_load" 8) rfl
  g_require := He.glo_ok X G (c.d.fact 9 rfl)
  F_require := c.d.def_ 9 (d := dd "require" 15) rfl
  g_require_alike := He.glo_ok X G (c.d.fact 10 rfl)
  F_require_alike := c.d.def_ 10 (d := dd "require_alike" 20) rfl
  g_added := He.glo_ok X G (c.d.fact 11 rfl)
  F_added := c.d.def_ 11 (d := dd "added" 25) rfl
  g_size_of := He.glo_ok X G (c.d.fact 12 rfl)
  F_size_of := c.d.def_ 12 (d := dd "size_of" 16) rfl
  g_step_of := He.glo_ok X G (c.d.fact 13 rfl)
  F_step_of := c.d.def_ 13 (d := dd "step_of" 33) rfl
  g_come_to := He.glo_ok X G (c.d.fact 14 rfl)
  F_come_to := c.d.def_ 14 (d := dd "come_to" 34) rfl
  g_lesser_of := He.glo_ok X G (c.d.fact 15 rfl)
  F_lesser_of := c.d.def_ 15 (d := dd "lesser_of" 30) rfl
  g_no_load := He.glo_ok X G (c.d.fact 16 rfl)
  F_no_load := c.d.def_ 16 (d := dd "no_load" 24) rfl
  g_go_passes := He.glo_ok X G (c.d.fact 17 rfl)
  F_go_passes := c.d.def_ 17 (d := dd "go_passes" 40) rfl
  g_require_load := He.glo_ok X G (c.d.fact 18 rfl)
  F_require_load := c.d.def_ 18 (d := dd "require_load" 18) rfl
  g_require_allowance := He.glo_ok X G (c.d.fact 19 rfl)
  F_require_allowance := c.d.def_ 19 (d := dd "require_allowance" 36) rfl
  g_require_number := He.glo_ok X G (c.d.fact 20 rfl)
  F_require_number := c.d.def_ 20 (d := dd "require_number" 17) rfl
  g_go_course := He.glo_ok X G (c.d.fact 21 rfl)
  F_go_course := c.d.def_ 21 (d := dd "go_course" 42) rfl
  g_are_loads := He.glo_ok X G (c.d.fact 22 rfl)
  F_are_loads := c.d.def_ 22 (d := dd "are_loads" 44) rfl
  g_taken := He.glo_ok X G (c.d.fact 23 rfl)
  F_taken := c.d.def_ 23 (d := dd "taken" 26) rfl
  g_goes_of := He.glo_ok X G (c.d.fact 24 rfl)
  F_goes_of := c.d.def_ 24 (d := dd "goes_of" 46) rfl
  g_places_above := He.glo_ok X G (c.d.fact 25 rfl)
  F_places_above := c.d.def_ 25 (d := dd "places_above" 28) rfl
  g_is_within := He.glo_ok X G (c.d.fact 26 rfl)
  F_is_within := c.d.def_ 26 (d := dd "is_within" 29) rfl
  g_is_growing := He.glo_ok X G (c.d.fact 27 rfl)
  F_is_growing := c.d.def_ 27 (d := dd "is_growing" 45) rfl
  g_stands_of := He.glo_ok X G (c.d.fact 28 rfl)
  F_stands_of := c.d.def_ 28 (d := dd "stands_of" 47) rfl
  g_is_course_of := He.glo_ok X G (c.d.fact 29 rfl)
  F_is_course_of := c.d.def_ 29 (d := dd "is_course_of" 48) rfl
  g_is_course := He.glo_ok X G (c.d.fact 30 rfl)
  F_is_course := c.d.def_ 30 (d := dd "is_course" 50) rfl
  g_require_course := He.glo_ok X G (c.d.fact 31 rfl)
  F_require_course := c.d.def_ 31 (d := dd "require_course" 49) rfl
  g_kept_course := He.glo_ok X G (c.d.fact 32 rfl)
  F_kept_course := c.d.def_ 32 (d := dd "kept_course" 52) rfl
  g_standing_course := He.glo_ok X G (c.d.fact 33 rfl)
  F_standing_course := c.d.def_ 33 (d := dd "standing_course" 51) rfl
  g_require_rooms := He.glo_ok X G (c.d.fact 34 rfl)
  F_require_rooms := c.d.def_ 34 (d := dd "require_rooms" 19) rfl
  g_greater_of := He.glo_ok X G (c.d.fact 35 rfl)
  F_greater_of := c.d.def_ 35 (d := dd "greater_of" 31) rfl
  g_over_of := He.glo_ok X G (c.d.fact 36 rfl)
  F_over_of := c.d.def_ 36 (d := dd "over_of" 38) rfl
  g_stay_passes := He.glo_ok X G (c.d.fact 37 rfl)
  F_stay_passes := c.d.def_ 37 (d := dd "stay_passes" 39) rfl
  g_stay_course := He.glo_ok X G (c.d.fact 38 rfl)
  F_stay_course := c.d.def_ 38 (d := dd "stay_course" 41) rfl
  g__law_ask := He.glo_ok X G (c.d.fact 39 rfl)
  F__law_ask := c.d.def_ 39 (d := dd "_law_ask" 67) rfl
  g__law_gcd := He.glo_ok X G (c.d.fact 40 rfl)
  F__law_gcd := c.d.def_ 40 (d := dd "_law_gcd" 55) rfl
  g__law_low := He.glo_ok X G (c.d.fact 41 rfl)
  F__law_low := c.d.def_ 41 (d := dd "_law_low" 56) rfl
  g__law_more := He.glo_ok X G (c.d.fact 42 rfl)
  F__law_more := c.d.def_ 42 (d := dd "_law_more" 65) rfl
  g__law_bent := He.glo_ok X G (c.d.fact 43 rfl)
  F__law_bent := c.d.def_ 43 (d := dd "_law_bent" 66) rfl
  g__law_within := He.glo_ok X G (c.d.fact 44 rfl)
  F__law_within := c.d.def_ 44 (d := dd "_law_within" 63) rfl
  g__law_fits := He.glo_ok X G (c.d.fact 45 rfl)
  F__law_fits := c.d.def_ 45 (d := dd "_law_fits" 64) rfl
  g__law_part := He.glo_ok X G (c.d.fact 46 rfl)
  F__law_part := c.d.def_ 46 (d := dd "_law_part" 62) rfl
  g__law_same := He.glo_ok X G (c.d.fact 47 rfl)
  F__law_same := c.d.def_ 47 (d := dd "_law_same" 60) rfl
  g__law_strange := He.glo_ok X G (c.d.fact 48 rfl)
  F__law_strange := c.d.def_ 48 (d := dd "_law_strange" 69) rfl
  g__law_walk := He.glo_ok X G (c.d.fact 49 rfl)
  F__law_walk := c.d.def_ 49 (d := dd "_law_walk" 61) rfl
  g__law_bends := He.glo_ok X G (c.d.fact 50 rfl)
  F__law_bends := c.d.def_ 50 (d := dd "_law_bends" 72) rfl
  g__law_hand := He.glo_ok X G (c.d.fact 51 rfl)
  F__law_hand := c.d.def_ 51 (d := dd "_law_hand" 74) rfl
  g__law_span := He.glo_ok X G (c.d.fact 52 rfl)
  F__law_span := c.d.def_ 52 (d := dd "_law_span" 58) rfl
  g__law_net := He.glo_ok X G (c.d.fact 53 rfl)
  F__law_net := c.d.def_ 53 (d := dd "_law_net" 59) rfl
  g__law_pool := He.glo_ok X G (c.d.fact 54 rfl)
  F__law_pool := c.d.def_ 54 (d := dd "_law_pool" 54) rfl
  g__law_odd := He.glo_ok X G (c.d.fact 55 rfl)
  F__law_odd := c.d.def_ 55 (d := dd "_law_odd" 68) rfl
  g__law_refusals := He.glo_ok X G (c.d.fact 56 rfl)
  F__law_refusals := c.d.def_ 56 (d := dd "_law_refusals" 73) rfl
  g__law_one_course := He.glo_ok X G (c.d.fact 57 rfl)
  F__law_one_course := c.d.def_ 57 (d := dd "_law_one_course" 70) rfl
  g__law_rules := He.glo_ok X G (c.d.fact 58 rfl)
  F__law_rules := c.d.def_ 58 (d := dd "_law_rules" 71) rfl
  g__law_tops := He.glo_ok X G (c.d.fact 59 rfl)
  F__law_tops := c.d.def_ 59 (d := dd "_law_tops" 57) rfl
  g_law := He.glo_ok X G (c.d.fact 60 rfl)
  F_law := c.d.def_ 60 (d := dd "law" 75) rfl
  g_StayError := He.glo_ok X G (c.d.fact 61 rfl)
  g_WebError := He.glo_ok X G (c.d.fact 62 rfl)
  g_NotUsable := He.glo_ok X G (c.d.fact 63 rfl)
  g_NoRoom := He.glo_ok X G (c.d.fact 64 rfl)
  n_abs := He.free_ok X G (c.d.fact 65 rfl)
  n_all := He.free_ok X G (c.d.fact 66 rfl)
  n_bool := He.free_ok X G (c.d.fact 67 rfl)
  n_enumerate := He.free_ok X G (c.d.fact 68 rfl)
  n_int := He.free_ok X G (c.d.fact 69 rfl)
  n_isinstance := He.free_ok X G (c.d.fact 70 rfl)
  n_len := He.free_ok X G (c.d.fact 71 rfl)
  n_list := He.free_ok X G (c.d.fact 72 rfl)
  n_max := He.free_ok X G (c.d.fact 73 rfl)
  n_min := He.free_ok X G (c.d.fact 74 rfl)
  n_range := He.free_ok X G (c.d.fact 75 rfl)
  n_str := He.free_ok X G (c.d.fact 76 rfl)
  n_sum := He.free_ok X G (c.d.fact 77 rfl)
  n_tuple := He.free_ok X G (c.d.fact 78 rfl)
  n_zip := He.free_ok X G (c.d.fact 79 rfl)
  k_gcd := PySem.W.mg_of X G (He.eqO_ok (c.err_at 0 rfl))
  x_NotUsable := ownErr_ok (He.glo_ok X G (c.d.fact 63 rfl)) (c.err_at 1 rfl)
  I_NotUsable := c.d.def_ 61 (d := ⟨("NotUsable", some "__init__"), "__init__", "NotUsable.__init__", defArgs (meth 12 0), defBody (meth 12 0), defScope (meth 12 0), [], []⟩) rfl
  no_NotUsable_word := He.eqO_ok (c.err_at 2 rfl)
  no_NotUsable_at := He.eqO_ok (c.err_at 3 rfl)
  is_NotUsable_StayError := of_decide_eq_true (c.err_at 4 rfl)
  is_NotUsable_WebError := of_decide_eq_true (c.err_at 5 rfl)
  is_NotUsable_NoRoom := of_decide_eq_true (c.err_at 6 rfl)
  ex_NotUsable_NotUsable := of_decide_eq_true (c.err_at 7 rfl)
theorem law_at (low : ∀ ns : List Int, ns.length ≤ 63 → (∀ z ∈ ns, Builtin.Int.intBits z ≤ 1048576) → O_law [.scr ns] [] = some (.ok (.bl true) [])) {w : World} {K : PySem.W.Frag} {h : Heap} {mg : Str → Option Value} {f : Addr} (X : K.In h) (G : h.Ns mainGlobals mg) (hfa : mg ("law" : Str) = some (.ref f)) (c : SaysE fa fn fe K) :
    LamX.LawAtS PySem.Challenge.rw_stayorgo_k18_whole_courses_of_both_rules w K (L2N.CX (PySem.Challenge.rw_stayorgo_k18_whole_courses_of_both_rules).prog w) 16 63 "_law_script" mg f h := by
  have fx := facts X G c
  have e := hfa.symm.trans fx.g_law
  cases e
  have cl := fun base : Heap => c_law (P := (PySem.Challenge.rw_stayorgo_k18_whole_courses_of_both_rules).prog) (w := w) (base := base) fx
  obtain ⟨fd, F⟩ := fx.F_law
  refine ⟨fd, [], spD K mg 1 O_law, by simp, by simp, by simp, fun s u => F.bindsA b_law s [u] rfl, fun H a ns hl hb _ hS => ?_, fun base _ _ _ => ?_⟩
  · refine ⟨rfl, [], [], [.scr ns], _, st_none, .single (.scr (hS.elim (fun z => .inl ⟨z, List.not_mem_nil⟩) .inr)), low ns hl hb, fun v H' _ _ r => ?_⟩
    cases r
    rfl
  · obtain ⟨fd', F', G'⟩ := (cl base).ex
    have : fd' = fd := funD_fd F' F
    subst this
    exact G'
end My
open PySem PySem.W PySem.Calls PyProof.Rows
theorem my_holds (low : ∀ ns : List Int, ns.length ≤ 63 → (∀ z ∈ ns, Builtin.Int.intBits z ≤ 1048576) → My.O_law [.scr ns] [] = some (.ok (.bl true) [])) : PySem.Challenge.rw_stayorgo_k18_whole_courses_of_both_rules.Holds := by
  w_on; o_law
  refine HeadRun.head_imp (r := OpenLaw.row PySem.Challenge.rw_stayorgo_k18_whole_courses_of_both_rules) (q := view (OpenLaw.row PySem.Challenge.rw_stayorgo_k18_whole_courses_of_both_rules).prog [0, 75]) (H := My.hk) (ob := My.ob) (M := 12000) (loose := My.nm) (d := HandSHeadRun.topDef (OpenLaw.row PySem.Challenge.rw_stayorgo_k18_whole_courses_of_both_rules).prog 75) (kwd := []) My.ob_eq
    My.run (by kernel_rfl) (by kernel_rfl) (by kernel_rfl) (by rfl) (by first | assumption | decide +kernel) (by decide +kernel) ⟨rfl, rfl, rfl, rfl, rfl, by decide +kernel⟩ ?hw ?hc
  case hw => w_witness2
  case hc =>
    refine LamX.walk_ofTsE (l := PySem.Challenge.rw_stayorgo_k18_whole_courses_of_both_rules) (n := 63) (k := 16) (x := "_law_script") (CX := fun w => L2N.CX (PySem.Challenge.rw_stayorgo_k18_whole_courses_of_both_rules).prog w) rfl (by decide) (by kernel_rfl) ⟨rfl, by decide, by decide⟩ ?F (fun _ _ _ _ _ ⟨_, _, _, _, _, _, _, _, _, _, _, _, z⟩ => z)
    intro w mg fa h Y G hmg0
    obtain ⟨K, KX, c⟩ := Y
    have hmg : mg ("law" : PySem.Str) = some (.ref fa) := by
      have e : (HandSHeadRun.topDef (OpenLaw.row PySem.Challenge.rw_stayorgo_k18_whole_courses_of_both_rules).prog 75).name = ("law" : PySem.Str) := by kernel_rfl
      rw [← e]
      exact hmg0
    exact ⟨K, KX, My.law_at low KX G hmg c⟩
open PySem PySem.W PyProof.Rows
set_option Elab.async false
set_option maxRecDepth 100000 in
set_option maxHeartbeats 0 in
theorem PySem.Challenge.cw_stayorgo_k18_whole_courses_of_both_rules_holds : PySem.Challenge.rw_stayorgo_k18_whole_courses_of_both_rules.Holds := by
  exact my_holds fun ns hn _ => My.law_ok [] ns hn
