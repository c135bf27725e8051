import PyProof.Rows.All
import HandS.ForMost
import HandS.Wide
import HandS.Exc
import HandS.IsInst
import HandS.Walk
import HandS.StrMore
import KE.DataCmp
import HandS.TupAny
import HandS.TupLe
import HandS.Deep
import HandS.Property
import HandS.RaiseMore
import HandS.ExcOwn
import HandS.Flow
import KE.GoesMore
import PyProof.EnumMake
import PyProof.TupleIter
import HandS.Style
import HandS.Small
import HandS.NoneIn
import HandS.ReplaceDef
import HandS.CallLocal
import HandS.Dict
import HandS.Steps
import HandS.WordsExc
import KE.KDictZip
import KE.GoesZip
import PyProof.ListNew
import HandS.Iter
import HandS.RevRange
import HandS.Star
import HandS.ReplaceLit
import HandS.Defaults
import Wide.All
import OpenK.AllK
import Wide.FinOn
import KE.KStateDown
import Lean
import HandS.Base
import HandS.Call
import HandS.Ends
import HandS.More
import HandS.Words
import HandS.Head0
import HandS.Head1
import HandS.Head2
import HandS.HeadEnd
import HandS.HeadHook1
import HandS.HeadHook2
import PySem.Challenge.RW_deedline_k56_whole_stands_told_and_judge
set_option Elab.async false
set_option linter.all false
set_option maxRecDepth 100000
set_option maxHeartbeats 2000000
namespace Mn
open PySem L2
inductive PV where
  | non | bl (b : Bool) | int (i : Int) | str (x : List Nat) | tup (xs : List PV) | ref (l : Nat) | frk (xs : List PV) | fn (i : Nat) | cls (c : Nat) | ty (n : String)
inductive PO where
  | lst (xs : List PV)
  | frz (xs : List PV)
  | dic (kvs : List (Key × PV))
  | ins (c : Nat) (fs : List (Nat × PV))
  | dice (b : Nat)
abbrev PH := List PO
abbrev PEnv := List (Option PV)
structure PX where
  c : Nat
  fs : List (Nat × PV)
inductive Res (α : Type) where
  | ok (a : α) (h : PH)
  | er (x : PX) (h : PH)
  | stuck
  | all (n : Nat) (k : Nat → Res α)
def Res.bind {α β : Type} (r : Res α) (k : α → PH → Res β) : Res β := match r with
  | .ok a h => k a h
  | .er x h => .er x h
  | .stuck => .stuck
  | .all n f => .all n fun i => (f i).bind k
@[simp] theorem Res.bind_ok {α β : Type} (a : α) (h : PH) (k : α → PH → Res β) : (Res.ok a h).bind k = k a h := rfl
@[simp] theorem Res.bind_er {α β : Type} (x : PX) (h : PH) (k : α → PH → Res β) : (Res.er x h : Res α).bind k = .er x h := rfl
@[simp] theorem Res.bind_stuck {α β : Type} (k : α → PH → Res β) : (Res.stuck : Res α).bind k = .stuck := rfl
@[simp] theorem Res.bind_all {α β : Type} (n : Nat) (f : Nat → Res α) (k : α → PH → Res β) : (Res.all n f).bind k = .all n fun i => (f i).bind k := rfl
structure Gm where
  K : PySem.W.Frag
  fa : Nat → Addr
  ca : Nat → Addr
  an : List Str
def SqF (K : PySem.W.Frag) (H : Hp) (a : Addr) (xs : List V) : Prop := (∃ o, H a = some (.frz o (.lst xs))) ∨ ∃ (o : Obj) (its : Array Value) (n : Nat), K.lookup a = some o ∧ o.cls = .type "list" ∧ o.dict = none ∧ o.data = .seq its n ∧ its.size ≤ sizeLine ∧ Vals xs its.toList
theorem SqF.sq {K : PySem.W.Frag} {H : Hp} {a : Addr} {xs : List V} (h : SqF K H a xs) : SqL K H a xs := by
  rcases h with ⟨o, h⟩ | h
  · exact .inl (.inr ⟨o, h⟩)
  · exact .inr h
section
variable (G : Gm) (as : List Addr) (H : Hp)
mutual
def RepV : PV → V → Prop
  | .non, v => v = .non
  | .bl b, v => v = .bl b
  | .int i, v => v = .int i
  | .str x, v => v = .str ⟨x.toArray⟩
  | .tup xs, v => ∃ a vs, v = .ref a ∧ SqT G.K H a vs ∧ RepVs xs vs
  | .ref l, v => ∃ a, as[l]? = some a ∧ v = .ref a
  | .frk xs, v => ∃ a vs, v = .ref a ∧ SqF G.K H a vs ∧ RepVs xs vs
  | .fn i, v => v = .ref (G.fa i)
  | .cls c, v => v = .ref (G.ca c)
  | .ty n, v => v = .ty n
def RepVs : List PV → List V → Prop
  | [], vs => vs = []
  | x :: xs, vs => ∃ v r, vs = v :: r ∧ RepV x v ∧ RepVs xs r
end
def RepK : List (Key × PV) → List (Key × V) → Prop
  | [], ks => ks = []
  | (k, x) :: xs, ks => ∃ v r, ks = (k, v) :: r ∧ RepV G as H x v ∧ RepK xs r
def RepF : List (Nat × PV) → List (Str × V) → Prop
  | [], ks => ks = []
  | (k, x) :: xs, ks => ∃ n v r, ks = (n, v) :: r ∧ G.an[k]? = some n ∧ RepV G as H x v ∧ RepF xs r
def RepO : PO → Addr → Prop
  | .lst xs, a => ∃ vs, H a = some (.lst vs) ∧ RepVs G as H xs vs
  | .frz xs, a => ∃ o vs, H a = some (.frz o (.lst vs)) ∧ RepVs G as H xs vs
  | .dic kvs, a => ∃ ks, H a = some (.dK ks) ∧ RepK G as H kvs ks
  | .ins c fs, a => ∃ dx gs, H a = some (.ins (G.ca c) dx gs) ∧ RepF G as H fs gs
  | .dice b, a => ∃ i j k : Int, H a = some (.lst [.int i, .int j, .int k]) ∧ (0 ≤ i ∧ i < 10 ^ 600) ∧ (0 ≤ j ∧ j < 2 ^ 40) ∧ (0 ≤ k ∧ k + b ≤ 2 ^ 64)
structure SR (h : PH) : Prop where
  nd : as.Nodup
  len : as.length = h.length
  at_ : ∀ (l : Nat) (o : PO) (a : Addr), h[l]? = some o → as[l]? = some a → RepO G as H o a
end
structure Kp (H H' : Hp) : Prop where
  tups : ∀ b xs, H b = some (.tup xs) → H' b = some (.tup xs)
  frzs : ∀ b o u, H b = some (.frz o u) → H' b = some (.frz o u)
theorem Kp.refl (H : Hp) : Kp H H := ⟨fun _ _ h => h, fun _ _ _ h => h⟩
theorem Kp.trans {H H1 H2 : Hp} (a : Kp H H1) (b : Kp H1 H2) : Kp H H2 := ⟨fun x o h => b.tups x o (a.tups x o h), fun x o u h => b.frzs x o u (a.frzs x o u h)⟩
theorem Kp.new {H : Hp} {p : Addr} {o : HO} (h : H p = none) : Kp H (upd H p o) := ⟨fun b xs e => by rw [upd_ne (ne_of_none e h)]; exact e, fun b ob u e => by rw [upd_ne (ne_of_none e h)]; exact e⟩
theorem Kp.rd {H H' : Hp} (k : Kp H H') {a : Addr} {xs : List V} (r : Rd H a (.tup xs)) : Rd H' a (.tup xs) := by
  rcases r with r | ⟨o, r⟩
  · exact .inl (k.tups _ _ r)
  · exact .inr ⟨o, k.frzs _ _ _ r⟩
theorem Kp.sqT {K : PySem.W.Frag} {H H' : Hp} (k : Kp H H') {a : Addr} {xs : List V} (r : SqT K H a xs) : SqT K H' a xs := by
  rcases r with r | r
  · exact .inl (k.rd r)
  · exact .inr r
theorem Kp.sqF {K : PySem.W.Frag} {H H' : Hp} (k : Kp H H') {a : Addr} {xs : List V} (r : SqF K H a xs) : SqF K H' a xs := by
  rcases r with ⟨o, r⟩ | r
  · exact .inl ⟨o, k.frzs _ _ _ r⟩
  · exact .inr r
theorem pre_get {as as' : List Addr} (h : as <+: as') {l : Nat} {a : Addr} (e : as[l]? = some a) : as'[l]? = some a := by
  obtain ⟨t, rfl⟩ := h
  rw [List.getElem?_append_left (List.getElem?_eq_some_iff.mp e).1]
  exact e
section
variable {G : Gm} {as as' : List Addr} {H H' : Hp}
mutual
theorem RepV.mono (hp : as <+: as') (k : Kp H H') : ∀ {x : PV} {v : V}, RepV G as H x v → RepV G as' H' x v
  | .non, _, h => h
  | .bl _, _, h => h
  | .int _, _, h => h
  | .str _, _, h => h
  | .tup xs, v, h => by
    unfold RepV at h ⊢
    obtain ⟨a, vs, e, s, r⟩ := h
    exact ⟨a, vs, e, k.sqT s, RepVs.mono hp k r⟩
  | .ref l, v, h => by
    unfold RepV at h ⊢
    obtain ⟨a, e, r⟩ := h
    exact ⟨a, pre_get hp e, r⟩
  | .frk xs, v, h => by
    unfold RepV at h ⊢
    obtain ⟨a, vs, e, s, r⟩ := h
    exact ⟨a, vs, e, k.sqF s, RepVs.mono hp k r⟩
  | .fn _, _, h => h
  | .cls _, _, h => h
  | .ty _, _, h => h
theorem RepVs.mono (hp : as <+: as') (k : Kp H H') : ∀ {xs : List PV} {vs : List V}, RepVs G as H xs vs → RepVs G as' H' xs vs
  | [], _, h => h
  | x :: xs, vs, h => by
    unfold RepVs at h ⊢
    obtain ⟨v, r, e, h1, h2⟩ := h
    exact ⟨v, r, e, RepV.mono hp k h1, RepVs.mono hp k h2⟩
end
theorem RepK.mono (hp : as <+: as') (k : Kp H H') : ∀ {xs : List (Key × PV)} {vs : List (Key × V)}, RepK G as H xs vs → RepK G as' H' xs vs
  | [], _, h => h
  | (_, x) :: xs, vs, h => by
    unfold RepK at h ⊢
    obtain ⟨v, r, e, h1, h2⟩ := h
    exact ⟨v, r, e, h1.mono hp k, RepK.mono hp k h2⟩
theorem RepF.mono (hp : as <+: as') (k : Kp H H') : ∀ {xs : List (Nat × PV)} {vs : List (Str × V)}, RepF G as H xs vs → RepF G as' H' xs vs
  | [], _, h => h
  | (_, x) :: xs, vs, h => by
    unfold RepF at h ⊢
    obtain ⟨n, v, r, e, en, h1, h2⟩ := h
    exact ⟨n, v, r, e, en, h1.mono hp k, RepF.mono hp k h2⟩
theorem RepO.mono (hp : as <+: as') (k : Kp H H') {o : PO} {a : Addr} (e : H' a = H a) (h : RepO G as H o a) : RepO G as' H' o a := by
  cases o with
  | lst xs => obtain ⟨vs, e1, r⟩ := h; exact ⟨vs, e.trans e1, r.mono hp k⟩
  | frz xs => obtain ⟨o, vs, e1, r⟩ := h; exact ⟨o, vs, e.trans e1, r.mono hp k⟩
  | dic kvs => obtain ⟨ks, e1, r⟩ := h; exact ⟨ks, e.trans e1, r.mono hp k⟩
  | ins c fs => obtain ⟨dx, gs, e1, r⟩ := h; exact ⟨dx, gs, e.trans e1, r.mono hp k⟩
  | dice b => obtain ⟨i, j, m, e1, r⟩ := h; exact ⟨i, j, m, e.trans e1, r⟩
theorem RepO.there {o : PO} {a : Addr} (h : RepO G as H o a) : H a ≠ none := by
  cases o with
  | lst xs => obtain ⟨vs, e1, r⟩ := h; rw [e1]; simp
  | frz xs => obtain ⟨o, vs, e1, r⟩ := h; rw [e1]; simp
  | dic kvs => obtain ⟨ks, e1, r⟩ := h; rw [e1]; simp
  | ins c fs => obtain ⟨dx, gs, e1, r⟩ := h; rw [e1]; simp
  | dice b => obtain ⟨i, j, m, e1, r⟩ := h; rw [e1]; simp
theorem RepO.noTup {o : PO} {a : Addr} (h : RepO G as H o a) (xs : List V) : H a ≠ .some (HO.tup xs) := by
  cases o with
  | lst xs => obtain ⟨vs, e1, r⟩ := h; rw [e1]; simp
  | frz xs => obtain ⟨o, vs, e1, r⟩ := h; rw [e1]; simp
  | dic kvs => obtain ⟨ks, e1, r⟩ := h; rw [e1]; simp
  | ins c fs => obtain ⟨dx, gs, e1, r⟩ := h; rw [e1]; simp
  | dice b => obtain ⟨i, j, m, e1, r⟩ := h; rw [e1]; simp
theorem RepVs.length : ∀ {xs : List PV} {vs : List V}, RepVs G as H xs vs → xs.length = vs.length
  | [], _, h => by unfold RepVs at h; subst h; rfl
  | x :: xs, vs, h => by
    unfold RepVs at h
    obtain ⟨v, r, rfl, _, h2⟩ := h
    simp [RepVs.length h2]
theorem RepVs.get : ∀ {xs : List PV} {vs : List V} {i : Nat} {x : PV}, RepVs G as H xs vs → xs[i]? = some x → ∃ v, vs[i]? = some v ∧ RepV G as H x v
  | [], _, i, x, _, e => by simp at e
  | y :: xs, vs, i, x, h, e => by
    unfold RepVs at h
    obtain ⟨v, r, rfl, h1, h2⟩ := h
    cases i with
    | zero => simp at e; subst e; exact ⟨v, rfl, h1⟩
    | succ i => simpa using RepVs.get (i := i) h2 (by simpa using e)
theorem RepVs.nil : RepVs G as H [] [] := by unfold RepVs; rfl
theorem RepVs.cons {x : PV} {v : V} {xs : List PV} {vs : List V} (h : RepV G as H x v) (r : RepVs G as H xs vs) : RepVs G as H (x :: xs) (v :: vs) := by
  unfold RepVs; exact ⟨v, vs, rfl, h, r⟩
theorem RepVs.append : ∀ {xs ys : List PV} {vs ws : List V}, RepVs G as H xs vs → RepVs G as H ys ws → RepVs G as H (xs ++ ys) (vs ++ ws)
  | [], _, _, _, h, r => by unfold RepVs at h; subst h; simpa using r
  | x :: xs, ys, vs, ws, h, r => by
    unfold RepVs at h
    obtain ⟨v, vs', rfl, h1, h2⟩ := h
    exact .cons h1 (RepVs.append h2 r)
theorem RepVs.set : ∀ {xs : List PV} {vs : List V} {x : PV} {v : V} (i : Nat), RepVs G as H xs vs → RepV G as H x v → RepVs G as H (xs.set i x) (vs.set i v)
  | [], _, _, _, _, h, _ => by unfold RepVs at h; subst h; simpa using RepVs.nil
  | y :: xs, vs, x, v, i, h, r => by
    unfold RepVs at h
    obtain ⟨w, vs', rfl, h1, h2⟩ := h
    cases i with
    | zero => exact .cons r h2
    | succ i => exact .cons h1 (RepVs.set i h2 r)
theorem RepVs.take : ∀ {xs : List PV} {vs : List V} (n : Nat), RepVs G as H xs vs → RepVs G as H (xs.take n) (vs.take n)
  | [], _, _, h => by unfold RepVs at h; subst h; simpa using RepVs.nil
  | y :: xs, vs, n, h => by
    unfold RepVs at h
    obtain ⟨w, vs', rfl, h1, h2⟩ := h
    cases n with
    | zero => simpa using RepVs.nil
    | succ n => exact .cons h1 (RepVs.take n h2)
theorem RepVs.drop : ∀ {xs : List PV} {vs : List V} (n : Nat), RepVs G as H xs vs → RepVs G as H (xs.drop n) (vs.drop n)
  | [], _, _, h => by unfold RepVs at h; subst h; simpa using RepVs.nil
  | y :: xs, vs, n, h => by
    unfold RepVs at h
    obtain ⟨w, vs', rfl, h1, h2⟩ := h
    cases n with
    | zero => exact .cons h1 h2
    | succ n => exact RepVs.drop n h2
theorem RepVs.reverse : ∀ {xs : List PV} {vs : List V}, RepVs G as H xs vs → RepVs G as H xs.reverse vs.reverse
  | [], _, h => by unfold RepVs at h; subst h; simpa using RepVs.nil
  | y :: xs, vs, h => by
    unfold RepVs at h
    obtain ⟨w, vs', rfl, h1, h2⟩ := h
    simp only [List.reverse_cons]
    exact (RepVs.reverse h2).append (.cons h1 .nil)
theorem RepVs.eraseIdx : ∀ {xs : List PV} {vs : List V} (n : Nat), RepVs G as H xs vs → RepVs G as H (xs.eraseIdx n) (vs.eraseIdx n)
  | [], _, _, h => by unfold RepVs at h; subst h; simpa using RepVs.nil
  | y :: xs, vs, n, h => by
    unfold RepVs at h
    obtain ⟨w, vs', rfl, h1, h2⟩ := h
    cases n with
    | zero => exact h2
    | succ n => exact .cons h1 (RepVs.eraseIdx n h2)
end
structure Fut (G : Gm) (as : List Addr) (H : Hp) (as' : List Addr) (H' : Hp) (h' : PH) : Prop where
  pre : as <+: as'
  kp : Kp H H'
  sr : SR G as' H' h'
  fresh : ∀ b ∈ as', b ∉ as → H b = none
  frame : ∀ b o, H b = some o → b ∉ as → H' b = some o
section
variable {G : Gm} {as as' as'' : List Addr} {H H' H'' : Hp} {h h' h'' : PH}
theorem Fut.refl (s : SR G as H h) : Fut G as H as H h := ⟨List.prefix_refl _, Kp.refl _, s, fun _ a b => absurd a b, fun _ _ e _ => e⟩
theorem Fut.trans (a : Fut G as H as' H' h') (b : Fut G as' H' as'' H'' h'') : Fut G as H as'' H'' h'' where
  pre := a.pre.trans b.pre
  kp := a.kp.trans b.kp
  sr := b.sr
  fresh := fun c hc hn => by
    by_cases h1 : c ∈ as'
    · exact a.fresh c h1 hn
    · have h2 := b.fresh c hc h1
      cases e : H c with
      | none => rfl
      | some o =>
        rw [a.frame c o e hn] at h2
        cases h2
  frame := fun c o e hn => by
    have e1 := a.frame c o e hn
    refine b.frame c o e1 fun h1 => ?_
    have h2 := a.fresh c h1 hn
    rw [e] at h2
    cases h2
theorem RepV.fut (f : Fut G as H as' H' h') {x : PV} {v : V} (r : RepV G as H x v) : RepV G as' H' x v := r.mono f.pre f.kp
theorem RepVs.fut (f : Fut G as H as' H' h') {x : List PV} {v : List V} (r : RepVs G as H x v) : RepVs G as' H' x v := r.mono f.pre f.kp
theorem SR.addr (s : SR G as H h) {l : Nat} {o : PO} (e : h[l]? = some o) : ∃ a, as[l]? = some a ∧ RepO G as H o a := by
  have hl : l < as.length := by rw [s.len]; exact (List.getElem?_eq_some_iff.mp e).1
  exact ⟨as[l], List.getElem?_eq_getElem hl, s.at_ l o _ e (List.getElem?_eq_getElem hl)⟩
theorem SR.upd_free (s : SR G as H h) {p : Addr} {o : HO} (hp : H p = none) : Fut G as H as (upd H p o) h := by
  refine ⟨List.prefix_refl _, Kp.new hp, ⟨s.nd, s.len, fun l ob a e1 e2 => ?_⟩, fun _ a b => absurd a b, fun b o e _ => by rw [upd_ne (ne_of_none e hp)]; exact e⟩
  have r := s.at_ l ob a e1 e2
  refine r.mono (List.prefix_refl _) (Kp.new hp) (upd_ne ?_)
  intro z
  subst z
  exact r.there hp
theorem SR.tup (s : SR G as H h) {p : Addr} {xs : List PV} {vs : List V} (hp : H p = none) (r : RepVs G as H xs vs) : Fut G as H as (upd H p (.tup vs)) h ∧ RepV G as (upd H p (.tup vs)) (.tup xs) (.ref p) := by
  have f := s.upd_free (o := .tup vs) hp
  refine ⟨f, ?_⟩
  unfold RepV
  exact ⟨p, vs, rfl, .of upd_same, r.fut f⟩
theorem SR.new (s : SR G as H h) {p : Addr} {o : PO} {ho : HO} (hp : H p = none) (r : RepO G (as ++ [p]) (upd H p ho) o p) : Fut G as H (as ++ [p]) (upd H p ho) (h ++ [o]) ∧ RepV G (as ++ [p]) (upd H p ho) (.ref h.length) (.ref p) := by
  have hn : p ∉ as := fun hm => by
    obtain ⟨l, hl, e⟩ := List.getElem_of_mem hm
    have e1 : as[l]? = some p := by rw [List.getElem?_eq_getElem hl, e]
    have hl2 : l < h.length := by rw [← s.len]; exact hl
    exact (s.at_ l _ p (List.getElem?_eq_getElem hl2) e1).there hp
  have pr : as <+: as ++ [p] := List.prefix_append _ _
  refine ⟨⟨pr, Kp.new hp, ⟨?_, by simp [s.len], fun l ob a e1 e2 => ?_⟩, fun b hb hn => by
    rw [List.mem_append] at hb
    rcases hb with hb | hb
    · exact absurd hb hn
    · simp at hb; subst hb; exact hp, fun b o e _ => by rw [upd_ne (ne_of_none e hp)]; exact e⟩, ?_⟩
  · rw [List.nodup_append]
    exact ⟨s.nd, by simp, fun a ha b hb e => by simp at hb; subst hb; subst e; exact hn ha⟩
  · by_cases hl : l < as.length
    · rw [List.getElem?_append_left hl] at e2
      rw [List.getElem?_append_left (by rw [← s.len]; exact hl)] at e1
      refine (s.at_ l ob a e1 e2).mono pr (Kp.new hp) (upd_ne ?_)
      intro z
      subst z
      exact hn (List.mem_of_getElem? e2)
    · have hl2 : l = as.length := by
        have := (List.getElem?_eq_some_iff.mp e2).1
        simp at this
        omega
      subst hl2
      rw [s.len, List.getElem?_append_right (Nat.le_refl _)] at e1
      rw [List.getElem?_append_right (Nat.le_refl _)] at e2
      simp at e1 e2
      subst e1 e2
      exact r
  · unfold RepV
    exact ⟨p, by rw [← s.len, List.getElem?_append_right (Nat.le_refl _)]; simp, rfl⟩
theorem SR.set (s : SR G as H h) {l : Nat} {a : Addr} {o : PO} {ho : HO} (ea : as[l]? = some a) (k : Kp H (upd H a ho)) (r : RepO G as (upd H a ho) o a) : Fut G as H as (upd H a ho) (h.set l o) := by
  refine ⟨List.prefix_refl _, k, ⟨s.nd, by simp [s.len], fun m ob b e1 e2 => ?_⟩, fun _ a b => absurd a b, fun b o e hn => by
    rw [upd_ne (fun z => hn (by rw [z]; exact List.mem_of_getElem? ea))]; exact e⟩
  by_cases hm : m = l
  · subst hm
    rw [ea] at e2
    cases e2
    have hl : m < h.length := by rw [← s.len]; exact (List.getElem?_eq_some_iff.mp ea).1
    rw [List.getElem?_set_self hl] at e1
    cases e1
    exact r
  · rw [List.getElem?_set_ne (Ne.symm hm)] at e1
    refine (s.at_ m ob b e1 e2).mono (List.prefix_refl _) k (upd_ne ?_)
    intro z
    subst z
    obtain ⟨h1, q1⟩ := List.getElem?_eq_some_iff.mp e2
    obtain ⟨h2, q2⟩ := List.getElem?_eq_some_iff.mp ea
    exact hm ((List.getElem_inj s.nd).mp (q1.trans q2.symm))
theorem Kp.mut {a : Addr} {ho u : HO} (e : H a = some u) (h1 : ∀ xs, u ≠ .tup xs) (h2 : ∀ o w, u ≠ .frz o w) : Kp H (upd H a ho) := ⟨fun b xs q => by
    rw [upd_ne (fun z => by subst z; rw [e] at q; exact h1 _ (Option.some.inj q))]; exact q, fun b o w q => by
    rw [upd_ne (fun z => by subst z; rw [e] at q; exact h2 _ _ (Option.some.inj q))]; exact q⟩
end
def RepX (G : Gm) (as : List Addr) (H : Hp) (x : PX) (e : Value) (d : Option Addr) : Prop :=
  e = .ref (G.ca x.c) ∧ ((x.fs = [] ∧ d = none) ∨ ∃ dx gs, d = some dx ∧ H dx = some (.xd gs) ∧ RepF G as H x.fs gs)
section
variable (G : Gm) (E : XK) (as : List Addr) (H : Hp)
def Ok {α β : Type} (rel : List Addr → Hp → α → β → Prop) (Q : β → Hp → Prop) : Res α → Prop
  | .ok v h' => ∀ as' H' v', Fut G as H as' H' h' → rel as' H' v v' → Q v' H'
  | .er x h' => ∀ as' H' e d, Fut G as H as' H' h' → RepX G as' H' x e d → E e d H'
  | .stuck => False
  | .all n k => ∀ i < n, Ok rel Q (k i)
end
abbrev OkV (G : Gm) (E : XK) (as : List Addr) (H : Hp) (Q : V → Hp → Prop) : Res PV → Prop := Ok G E as H (fun as' H' => RepV G as' H') Q
abbrev OkA (G : Gm) (E : XK) (as : List Addr) (H : Hp) (Q : List V → Hp → Prop) : Res (List PV) → Prop := Ok G E as H (fun as' H' => RepVs G as' H') Q
abbrev OkB (G : Gm) (E : XK) (as : List Addr) (H : Hp) (Q : Bool → Hp → Prop) : Res Bool → Prop := Ok G E as H (fun _ _ b c => b = c) Q
section
variable {G : Gm} {E : XK} {as as' : List Addr} {H H' : Hp} {h h' : PH} {α β γ δ : Type} {rel : List Addr → Hp → α → β → Prop} {rel2 : List Addr → Hp → γ → δ → Prop}
theorem Ok.fut {Q : β → Hp → Prop} {r : Res α} (f : Fut G as H as' H' h') (o : Ok G E as H rel Q r) : Ok G E as' H' rel Q r := by
  induction r with
  | ok v h1 => exact fun as1 H1 v1 f1 => o as1 H1 v1 (f.trans f1)
  | er x h1 => exact fun as1 H1 e d f1 => o as1 H1 e d (f.trans f1)
  | stuck => exact o
  | all n k ih => exact fun i hi => ih i (o i hi)
theorem Ok.imp {Q Q' : β → Hp → Prop} {r : Res α} (o : Ok G E as H rel Q r) (k : ∀ v H, Q v H → Q' v H) : Ok G E as H rel Q' r := by
  induction r with
  | ok v h1 => exact fun as1 H1 v1 f1 r1 => k _ _ (o as1 H1 v1 f1 r1)
  | er x h1 => exact o
  | stuck => exact o
  | all n f ih => exact fun i hi => ih i (o i hi)
theorem Ok.bind {r : Res α} {k : α → PH → Res γ} {Q : β → Hp → Prop} {Q2 : δ → Hp → Prop} (o : Ok G E as H rel2 Q2 (r.bind k))
    (next : ∀ v h1 as1 H1 v', Fut G as H as1 H1 h1 → rel as1 H1 v v' → Ok G E as1 H1 rel2 Q2 (k v h1) → Q v' H1) : Ok G E as H rel Q r := by
  induction r with
  | ok v h1 => exact fun as1 H1 v1 f1 r1 => next v h1 as1 H1 v1 f1 r1 (Ok.fut f1 o)
  | er x h1 => exact o
  | stuck => exact o
  | all n f ih => exact fun i hi => ih i (o i hi)
end
def RepE (G : Gm) (as : List Addr) (H : Hp) (ρ : PEnv) (σ : St) : Prop := ρ.length = σ.length ∧ ∀ (i : Nat) (v : PV), ρ[i]? = some (some v) → ∃ v', σ[i]? = some (some v') ∧ RepV G as H v v'
theorem RepE.fut {G : Gm} {as as' : List Addr} {H H' : Hp} {h' : PH} {ρ : PEnv} {σ : St} (f : Fut G as H as' H' h') (r : RepE G as H ρ σ) : RepE G as' H' ρ σ := ⟨r.1, fun i v e => by
  obtain ⟨v', e', q⟩ := r.2 i v e
  exact ⟨v', e', q.fut f⟩⟩
theorem RepE.set {G : Gm} {as : List Addr} {H : Hp} {ρ : PEnv} {σ : St} {x : PV} {v : V} (r : RepE G as H ρ σ) (i : Nat) (q : RepV G as H x v) : RepE G as H (ρ.set i (some x)) (σ.set i (some v)) := by
  refine ⟨by simp [r.1], fun j y e => ?_⟩
  by_cases hj : i = j
  · subst hj
    by_cases hl : i < ρ.length
    · rw [List.getElem?_set_self hl] at e
      cases e
      exact ⟨v, by rw [List.getElem?_set_self (by rw [← r.1]; exact hl)], q⟩
    · rw [List.getElem?_eq_none (by simpa using hl)] at e
      cases e
  · rw [List.getElem?_set_ne hj] at e
    rw [List.getElem?_set_ne hj]
    exact r.2 j y e
end Mn
set_option Elab.async false
set_option linter.all false
set_option maxRecDepth 100000
set_option maxHeartbeats 2000000
namespace Mn
open PySem L2
inductive Bop where
  | add | sub | mul | fdiv | mod | pow | band | bor | bxor | shl | shr
  deriving DecidableEq
inductive Cop where
  | eq | ne | lt | le | gt | ge | is_ | isn | in_ | nin
  deriving DecidableEq
inductive Bi where
  | len | abs | max | min | int | str | bool | list | tuple | sorted | sum | any | all | ord | isinst | repr | dict
  deriving DecidableEq
def Bi.tyn : Bi → Option String
  | .int => some "int"
  | .str => some "str"
  | .bool => some "bool"
  | .list => some "list"
  | .tuple => some "tuple"
  | .dict => some "dict"
  | _ => none
inductive Bm where
  | none | append | pop | insert | extend | reverse | index | remove | isascii | isprintable | isdigit | join | replace | removeprefix | find | get | keys | items | values | startswith
  deriving DecidableEq
inductive Ik where
  | seq | rng | enum | zip | rev | items | keys | values | rvr
  deriving DecidableEq
inductive Tg where
  | nm (i : Nat)
  | tp (is : List Nat)
inductive Ex where
  | var (i : Nat) | con (v : PV) | glob (g : Nat)
  | bin (op : Bop) (a b : Ex) | neg (a : Ex) | not (a : Ex) | and (a b : Ex) | or (a b : Ex)
  | cmp (op : Cop) (a b : Ex) | chn (o1 o2 : Cop) (a b c : Ex) | ife (c a b : Ex)
  | tup (es : List Ex) | lst (es : List Ex) | star (e : Ex)
  | ix (o i : Ex) | sl (o lo hi : Ex) | nop
  | callv (i : Nat) (es : List Ex) | call (g : Nat) (es : List Ex) | bi (f : Bi) (es : List Ex) | mt (m : Nat) (b : Bm) (o : Ex) (es : List Ex)
  | att (o : Ex) (f : Nat)
  | lc (e : Ex) (own : List Nat) (t : Tg) (k : Ik) (its : List Ex) (ifs : List Ex)
  | bty (f : Bi)
  | dsp
  | lz (es : List Ex)
  | lc2 (e : Ex) (own : List Nat) (t : Tg) (k : Ik) (its : List Ex) (ifs : List Ex) (own1 : List Nat) (t1 : Tg) (k1 : Ik) (its1 : List Ex) (ifs1 : List Ex)
  | lno (m : Nat) (o : Ex)
  | repl (o : Ex) (y z : List Nat)
  | never
inductive Ta where
  | nm (i : Nat) | tp (is : List Nat) | att (o : Ex) (f : Nat) | ix (o i : Ex) | sl (o lo hi : Ex)
inductive Sm where
  | asg (t : Ta) (e : Ex) | aug (t : Ta) (op : Bop) (e : Ex)
  | ex (e : Ex) | ret (e : Ex) | retn
  | ite (c : Ex) (a b : List Sm)
  | wh (c : Ex) (b : List Sm)
  | for_ (t : Tg) (k : Ik) (its : List Ex) (b : List Sm)
  | brk | cnt | pass
  | raise (g : Nat) (es : List Ex)
  | del (o i : Ex)
  | never
inductive Fl where
  | nx (ρ : PEnv) | bk (ρ : PEnv) | ct (ρ : PEnv) | rt (v : PV)
structure Ci where
  init : Option Nat
  meths : List (Nat × Nat)
  props : List (Nat × Nat)
  sups : List Nat
structure Tb where
  glob : List PV
  cls : List Ci
section
variable (de : Nat → Option PyData)
mutual
def toD : PV → Option PyData
  | .non => some .none
  | .bl b => some (.bool b)
  | .int i => some (.int i)
  | .str x => some (.str ⟨x.toArray⟩)
  | .tup xs => (toDs xs).map .tuple
  | .ref l => de l
  | .frk _ => none
  | .fn _ => none
  | .cls _ => none
  | .ty _ => none
def toDs : List PV → Option (List PyData)
  | [] => some []
  | x :: xs => match toD x with
    | none => none
    | some d => (toDs xs).map (d :: ·)
end
end
def deref (h : PH) : Nat → Nat → Option PyData
  | 0, _ => none
  | n + 1, l => match h[l]? with
    | some (.lst xs) => (toDs (deref h n) xs).map .list
    | some (.frz xs) => (toDs (deref h n) xs).map .list
    | _ => none
def datum (h : PH) (v : PV) : Option PyData := match toD (deref h 8) v with
  | some d => if SeqAt.shaped d then some d else none
  | none => none
def pEq (h : PH) (v w : PV) : Option Bool := match datum h v, datum h w with
  | some d, some e => some (PyData.eqv d e)
  | _, _ => none
def dLook (kvs : List (Key × PV)) (k : Key) : Option PV := (kvs.find? fun kv => decide (kv.1 = k)).map (·.2)
def dPut (kvs : List (Key × PV)) (k : Key) (v : PV) : List (Key × PV) :=
  if (kvs.any fun kv => decide (kv.1 = k)) = true then kvs.map (fun kv => if kv.1 = k then (kv.1, v) else kv) else kvs ++ [(k, v)]
def dDrop (kvs : List (Key × PV)) (k : Key) : List (Key × PV) := kvs.filter fun kv => decide (kv.1 ≠ k)
def isNon : PV → Bool
  | .non => true
  | _ => false
def pIn (h : PH) (v w : PV) : Option Bool := match w with
  | .tup ys => match datum h v, datum h w with
    | some d, some (.tuple es) => some (es.any fun z => PyData.eqv z d)
    | _, _ => none
  | .ref l => match h[l]? with
    | some (.lst _) => match datum h v, datum h w with
      | some d, some (.list es) => some (es.any fun z => PyData.eqv z d)
      | _, _ => none
    | some (.dic kvs) => match v with
      | .int i => some (dLook kvs (Sum.inl i)).isSome
      | .str x => some (dLook kvs (Sum.inr ⟨x.toArray⟩)).isSome
      | _ => none
    | _ => none
  | .str y => match v with
    | .str [c] => some (y.contains c)
    | _ => none
  | _ => none
def pTru (h : PH) (v : PV) : Option Bool := match v with
  | .non => some false
  | .bl b => some b
  | .int i => some (i != 0)
  | .str x => if x.length ≤ sizeLine then some (!x.isEmpty) else none
  | .tup xs => some (!xs.isEmpty)
  | .ref l => match h[l]? with
    | some (.lst xs) => some (!xs.isEmpty)
    | some (.frz xs) => some (!xs.isEmpty)
    | some (.dic kvs) => some (!kvs.isEmpty)
    | _ => none
  | _ => none
def lstAt (h : PH) (l : Nat) : Option (List PV) := match h[l]? with
  | some (.lst xs) => some xs
  | some (.frz xs) => some xs
  | _ => none
def big (i j : Int) : Bool := decide (i.natAbs.log2 + j.natAbs.log2 < 1000000)
def pBin (op : Bop) (v w : PV) (h : PH) : Res PV := match op, v, w with
  | .add, .int i, .int j => .ok (.int (i + j)) h
  | .add, .str x, .str y => if x.length + y.length ≤ sizeLine then .ok (.str (x ++ y)) h else .stuck
  | .add, .tup x, .tup y => if x.length + y.length ≤ sizeLine then .ok (.tup (x ++ y)) h else .stuck
  | .add, .ref l, .ref m => match h[l]?, h[m]? with
    | some (.lst x), some (.lst y) => if x.length + y.length ≤ sizeLine then .ok (.ref h.length) (h ++ [.lst (x ++ y)]) else .stuck
    | _, _ => .stuck
  | .sub, .int i, .int j => .ok (.int (i - j)) h
  | .mul, .int i, .int j => if big i j then .ok (.int (i * j)) h else .stuck
  | .mul, .ref l, .int k => match h[l]? with
    | some (.lst x) => if decide (-(2 ^ 63) ≤ k) && decide (k < 2 ^ 63) && decide (x.length * k.toNat ≤ sizeLine) then .ok (.ref h.length) (h ++ [.lst (List.replicate k.toNat x).flatten]) else .stuck
    | _ => .stuck
  | .mul, .str x, .int k => if decide (-(2 ^ 63) ≤ k) && decide (k < 2 ^ 63) && decide (x.length * k.toNat ≤ sizeLine) then .ok (.str (List.replicate k.toNat x).flatten) h else .stuck
  | .fdiv, .int i, .int j => if decide (0 < j) && decide (j.natAbs.log2 < 9000) then .ok (.int (i / j)) h else .stuck
  | .mod, .int i, .int j => if decide (0 < j) then .ok (.int (i % j)) h else .stuck
  | .pow, .int i, .int j => if decide (0 ≤ j) && decide ((Builtin.Int.intBits i : Int) * j ≤ 2 ^ 27) then .ok (.int (i ^ j.toNat)) h else .stuck
  | .shl, .int i, .int j => if decide (0 ≤ j) && decide (j ≤ 1000000) && decide (i.natAbs < 2 ^ 64) then .ok (.int (i * 2 ^ j.toNat)) h else .stuck
  | .shr, .int i, .int j => if decide (0 ≤ j) then .ok (.int (i / 2 ^ j.toNat)) h else .stuck
  | .band, .int i, .int j => .ok (.int (Builtin.bitAnd i j)) h
  | .bor, .int i, .int j => .ok (.int (Builtin.bitOr i j)) h
  | .bxor, .int i, .int j => .ok (.int (Builtin.bitXor i j)) h
  | _, _, _ => .stuck
def ob (b : Option Bool) (h : PH) : Res PV := match b with
  | some b => .ok (.bl b) h
  | none => .stuck
def dLt (h : PH) (v w : PV) : Option Bool := match datum h v, datum h w with
  | some d, some e => if PySem.W.alike d e then some (PySem.W.dataLt d e) else none
  | _, _ => none
def pCmp (op : Cop) (v w : PV) (h : PH) : Res PV := match op with
  | .eq => ob (pEq h v w) h
  | .ne => ob ((pEq h v w).map (!·)) h
  | .in_ => ob (pIn h v w) h
  | .nin => ob ((pIn h v w).map (!·)) h
  | .is_ => match w with
    | .non => .ok (.bl (isNon v)) h
    | _ => .stuck
  | .isn => match w with
    | .non => .ok (.bl (!isNon v)) h
    | _ => .stuck
  | .lt => match v, w with
    | .int i, .int j => .ok (.bl (decide (i < j))) h
    | .str x, .str y => .ok (.bl (decide (x < y))) h
    | .tup _, .tup _ => ob (dLt h v w) h
    | _, _ => .stuck
  | .le => match v, w with
    | .int i, .int j => .ok (.bl (decide (i ≤ j))) h
    | .str x, .str y => .ok (.bl (!decide (y < x))) h
    | .tup _, .tup _ => ob ((dLt h w v).map (!·)) h
    | _, _ => .stuck
  | .gt => match v, w with
    | .int i, .int j => .ok (.bl (decide (j < i))) h
    | .str x, .str y => .ok (.bl (decide (y < x))) h
    | .tup _, .tup _ => ob (dLt h w v) h
    | _, _ => .stuck
  | .ge => match v, w with
    | .int i, .int j => .ok (.bl (decide (j ≤ i))) h
    | .str x, .str y => .ok (.bl (!decide (x < y))) h
    | .tup _, .tup _ => ob ((dLt h v w).map (!·)) h
    | _, _ => .stuck
def pIx (v w : PV) (h : PH) : Res PV := match v, w with
  | .tup xs, .int i => match atI xs i with
    | some x => .ok x h
    | none => .stuck
  | .ref l, .int i => match h[l]? with
    | some (.lst xs) => (match atI xs i with
      | some x => .ok x h
      | none => .stuck)
    | some (.frz xs) => (match atI xs i with
      | some x => .ok x h
      | none => .stuck)
    | some (.dic kvs) => (match dLook kvs (Sum.inl i) with
      | some x => .ok x h
      | none => .stuck)
    | _ => .stuck
  | .ref l, .str y => match h[l]? with
    | some (.dic kvs) => (match dLook kvs (Sum.inr ⟨y.toArray⟩) with
      | some x => .ok x h
      | none => .stuck)
    | _ => .stuck
  | .frk xs, .int i => match atI xs i with
    | some x => .ok x h
    | none => .stuck
  | .str x, .int i => if x.length ≤ sizeLine then (match atI x i with
      | some c => .ok (.str [c]) h
      | none => .stuck) else .stuck
  | _, _ => .stuck
def cut {α : Type} (xs : List α) (lo hi : Option Int) : List α := (xs.drop (HT.sIx xs.length 0 lo)).take (HT.sIx xs.length xs.length hi - HT.sIx xs.length 0 lo)
def pSl (v : PV) (lo hi : Option Int) (h : PH) : Res PV := match v with
  | .tup xs => .ok (.tup (cut xs lo hi)) h
  | .str x => if x.length ≤ sizeLine then .ok (.str (cut x lo hi)) h else .stuck
  | .ref l => match lstAt h l with
    | some xs => .ok (.ref h.length) (h ++ [.lst (cut xs lo hi)])
    | none => .stuck
  | _ => .stuck
def part : PV → Option (Option Int)
  | .int i => some (some i)
  | _ => none
def strsOf : List PV → Option (List (List Nat))
  | [] => some []
  | .str x :: r => (strsOf r).map (x :: ·)
  | _ => none
def intsOf : List PV → Option (List Int)
  | [] => some []
  | .int x :: r => (intsOf r).map (x :: ·)
  | _ => none
def blsOf : List PV → Option (List Bool)
  | [] => some []
  | .bl x :: r => (blsOf r).map (x :: ·)
  | _ => none
def tyNames : List String := ["int", "bool", "str", "list", "tuple", "dict", "NoneType"]
def tyB (a b : String) : Option Bool := if tyNames.contains a && tyNames.contains b then some (a == b || (a == "bool" && b == "int")) else none
def tyOf (h : PH) (v : PV) : Option PV := match v with
  | .non => some (.ty "NoneType")
  | .bl _ => some (.ty "bool")
  | .int _ => some (.ty "int")
  | .str _ => some (.ty "str")
  | .tup _ => some (.ty "tuple")
  | .ref l => match h[l]? with
    | some (.lst _) => some (.ty "list")
    | some (.frz _) => some (.ty "list")
    | some (.dic _) => some (.ty "dict")
    | some (.ins c _) => some (.cls c)
    | _ => none
  | _ => none
def subC (T : Tb) (t c : PV) : Option Bool := match t, c with
  | .ty a, .ty b => tyB a b
  | .cls c, .cls d => (T.cls[c]?).bind fun ci => if d < T.cls.length then some (ci.sups.contains d) else none
  | .cls c, .ty b => if c < T.cls.length && tyNames.contains b then some false else none
  | .ty a, .cls d => if d < T.cls.length && tyNames.contains a then some false else none
  | _, _ => none
def isTy (T : Tb) (h : PH) (v : PV) (c : PV) : Option Bool := (tyOf h v).bind fun t => subC T t c
def isCl : PV → Bool
  | .ty _ => true
  | .cls _ => true
  | _ => false
def isTys (T : Tb) (h : PH) (v : PV) : List PV → Option Bool
  | [] => some false
  | t :: r => match isTy T h v t with
    | some true => some true
    | some false => isTys T h v r
    | none => none
def lmin : Int → List Int → Int
  | m, [] => m
  | m, x :: r => lmin (if x < m then x else m) r
def lmax : Int → List Int → Int
  | m, [] => m
  | m, x :: r => lmax (if x > m then x else m) r
def pBi (T : Tb) (f : Bi) (vs : List PV) (h : PH) : Res PV := match f, vs with
  | .len, [.str x] => if x.length ≤ sizeLine then .ok (.int x.length) h else .stuck
  | .len, [.tup xs] => .ok (.int xs.length) h
  | .len, [.ref l] => (match h[l]? with
    | some (.lst xs) => .ok (.int xs.length) h
    | some (.frz xs) => .ok (.int xs.length) h
    | some (.dic kvs) => .ok (.int kvs.length) h
    | _ => .stuck)
  | .len, [.frk xs] => .ok (.int xs.length) h
  | .abs, [.int i] => .ok (.int (if i < 0 then -i else i)) h
  | .max, [.int i, .int j] => .ok (.int (if j > i then j else i)) h
  | .min, [.int i, .int j] => .ok (.int (if j < i then j else i)) h
  | .int, [.int i] => .ok (.int i) h
  | .int, [.bl b] => .ok (.int (if b then 1 else 0)) h
  | .str, [.int i] => if i.natAbs.log2 < 1920 then .ok (.str (toString i : Str).cps.toList) h else .stuck
  | .ord, [.str [c]] => .ok (.int c) h
  | .list, [.tup xs] => .ok (.ref h.length) (h ++ [.lst xs])
  | .list, [.ref l] => (match lstAt h l with
    | some xs => .ok (.ref h.length) (h ++ [.lst xs])
    | none => .stuck)
  | .list, [.str x] => if x.length ≤ sizeLine then .ok (.ref h.length) (h ++ [.lst (x.map fun c => .str [c])]) else .stuck
  | .tuple, [.tup xs] => .ok (.tup xs) h
  | .tuple, [.ref l] => (match lstAt h l with
    | some xs => .ok (.tup xs) h
    | none => .stuck)
  | .isinst, [v, .tup ts] => if !ts.isEmpty && ts.all isCl then ob (isTys T h v ts) h else .stuck
  | .isinst, [v, t] => ob (isTy T h v t) h
  | .sum, [.ref l] => (match lstAt h l with
    | some xs => (match intsOf xs with
      | some is => .ok (.int is.sum) h
      | none => .stuck)
    | none => .stuck)
  | .all, [.ref l] => (match lstAt h l with
    | some xs => (match blsOf xs with
      | some bs => .ok (.bl (bs.all id)) h
      | none => .stuck)
    | none => .stuck)
  | .any, [.ref l] => (match lstAt h l with
    | some xs => (match blsOf xs with
      | some bs => .ok (.bl (bs.any id)) h
      | none => .stuck)
    | none => .stuck)
  | .min, [.ref l] => (match lstAt h l with
    | some xs => (match intsOf xs with
      | some (i :: is) => .ok (.int (lmin i is)) h
      | _ => .stuck)
    | none => .stuck)
  | .max, [.ref l] => (match lstAt h l with
    | some xs => (match intsOf xs with
      | some (i :: is) => .ok (.int (lmax i is)) h
      | _ => .stuck)
    | none => .stuck)
  | .repr, [.bl b] => .ok (.str (if b then [84, 114, 117, 101] else [70, 97, 108, 115, 101])) h
  | .repr, [.non] => .ok (.str [78, 111, 110, 101]) h
  | .repr, [.int i] => if i.natAbs.log2 < 1920 then .ok (.str (toString i : Str).cps.toList) h else .stuck
  | .repr, [.str x] => if (reprText ⟨x.toArray⟩).length ≤ sizeLine then .ok (.str (reprText ⟨x.toArray⟩).cps.toList) h else .stuck
  | _, _ => .stuck
inductive Bq where
  | lappend | lpop | lpopl | lextend | lreverse | linsert | lindex | lremove
  | sisascii | sisprintable | sisdigit | sjoin | sremoveprefix
  | dget | dpop
  deriving DecidableEq
def Bq.of : Bm → Nat → Option Bq
  | .append, 0 => some .lappend
  | .pop, 0 => some .lpop
  | .extend, 0 => some .lextend
  | .reverse, 0 => some .lreverse
  | .insert, 0 => some .linsert
  | .index, 0 => some .lindex
  | .remove, 0 => some .lremove
  | .isascii, 2 => some .sisascii
  | .isprintable, 2 => some .sisprintable
  | .isdigit, 2 => some .sisdigit
  | .join, 2 => some .sjoin
  | .removeprefix, 2 => some .sremoveprefix
  | .get, 1 => some .dget
  | .pop, 1 => some .dpop
  | _, _ => none
def kindAt (h : PH) (v : PV) : Nat := match v with
  | .ref l => match h[l]? with
    | some (.lst _) => 0
    | some (.dic _) => 1
    | _ => 9
  | .str _ => 2
  | _ => 9
def keyOf : PV → Option Key
  | .int i => some (.inl i)
  | .str x => some (.inr ⟨x.toArray⟩)
  | _ => none
def pBq (q : Bq) (v : PV) (vs : List PV) (h : PH) : Res PV := match q with
  | .lappend => (match v, vs with
    | .ref l, [x] => (match h[l]? with
      | some (.lst xs) => if xs.length < sizeLine then .ok .non (h.set l (.lst (xs ++ [x]))) else .stuck
      | _ => .stuck)
    | _, _ => .stuck)
  | .lpop => (match v, vs with
    | .ref l, [.int i] => (match h[l]? with
      | some (.lst xs) => (match PySem.seqIndex? i xs.length with
        | some k => (match xs[k]? with
          | some y => if decide (-(2 ^ 63) ≤ i) && decide (i < 2 ^ 63) then .ok y (h.set l (.lst (xs.eraseIdx k))) else .stuck
          | none => .stuck)
        | none => .stuck)
      | _ => .stuck)
    | .ref l, [] => (match h[l]? with
      | some (.lst xs) => (match xs[xs.length - 1]? with
        | some y => .ok y (h.set l (.lst xs.dropLast))
        | none => .stuck)
      | _ => .stuck)
    | _, _ => .stuck)
  | .lextend => (match v, vs with
    | .ref l, [.ref m] => (match h[l]?, h[m]? with
      | some (.lst xs), some (.lst ys) => if xs.length + ys.length ≤ sizeLine then .ok .non (h.set l (.lst (xs ++ ys))) else .stuck
      | _, _ => .stuck)
    | _, _ => .stuck)
  | .lreverse => (match v, vs with
    | .ref l, [] => (match h[l]? with
      | some (.lst xs) => .ok .non (h.set l (.lst xs.reverse))
      | _ => .stuck)
    | _, _ => .stuck)
  | .sisascii => (match v, vs with
    | .str x, [] => .ok (.bl (Txt.isascii ⟨x.toArray⟩)) h
    | _, _ => .stuck)
  | .sisprintable => (match v, vs with
    | .str x, [] => .ok (.bl (Txt.isprintable ⟨x.toArray⟩)) h
    | _, _ => .stuck)
  | .sisdigit => (match v, vs with
    | .str x, [] => .ok (.bl (Txt.isdigit ⟨x.toArray⟩)) h
    | _, _ => .stuck)
  | .sremoveprefix => (match v, vs with
    | .str x, [.str y] => if x.length ≤ sizeLine then .ok (.str (Txt.removeprefix ⟨x.toArray⟩ ⟨y.toArray⟩).cps.toList) h else .stuck
    | _, _ => .stuck)
  | .sjoin => (match v, vs with
    | .str x, [.ref l] => (match lstAt h l with
      | some xs => (match strsOf xs with
        | some ys => if (ys.map (·.length)).sum + ys.length * x.length ≤ 16777216 then .ok (.str (Txt.join ⟨x.toArray⟩ (ys.map fun y => ⟨y.toArray⟩)).cps.toList) h else .stuck
        | none => .stuck)
      | none => .stuck)
    | _, _ => .stuck)
  | .dget => (match v, vs with
    | .ref l, [k] => (match h[l]?, keyOf k with
      | some (.dic kvs), some k => .ok ((dLook kvs k).getD .non) h
      | _, _ => .stuck)
    | .ref l, [k, d] => (match h[l]?, keyOf k with
      | some (.dic kvs), some k => .ok ((dLook kvs k).getD d) h
      | _, _ => .stuck)
    | _, _ => .stuck)
  | .dpop => (match v, vs with
    | .ref l, [k] => (match h[l]?, keyOf k with
      | some (.dic kvs), some k => (match dLook kvs k with
        | some x => .ok x (h.set l (.dic (dDrop kvs k)))
        | none => .stuck)
      | _, _ => .stuck)
    | _, _ => .stuck)
  | _ => .stuck
def attK (T : Tb) (c f : Nat) : Option (Option Nat) := (T.cls[c]?).bind fun ci => match ci.meths.lookup f with
  | some _ => none
  | none => some (ci.props.lookup f)
def isFnOf (f : Nat) : PV → Bool
  | .fn j => j == f
  | _ => false
def fldOf (T : Tb) (f : Nat) (v : PV) (h : PH) : Res PV := match v with
  | .ref l => match h[l]? with
    | some (.ins c fs) => (match attK T c f with
      | some none => (match fs.lookup f with
        | some x => .ok x h
        | none => .stuck)
      | _ => .stuck)
    | _ => .stuck
  | _ => .stuck
def Res.noer {α : Type} : Res α → Res α
  | .ok a h => .ok a h
  | .er _ _ => .stuck
  | .stuck => .stuck
  | .all n k => .all n fun i => (k i).noer
def bindTg (t : Tg) (x : PV) (ρ : PEnv) : Option PEnv := match t with
  | .nm i => some (ρ.set i (some x))
  | .tp is => match x with
    | .tup xs => if xs.length = is.length then some ((is.zip xs).foldl (fun r q => r.set q.1 (some q.2)) ρ) else none
    | _ => none
inductive Wk where
  | fix (xs : List PV)
  | lst (l : Nat)
  | enl (l : Nat)
  | rvl (l n : Nat)
  | zll (l m : Nat)
  | ens (x : List Nat)
  | ent (xs : List PV)
def wkAt (h : PH) (i : Nat) : Wk → Option (Option PV)
  | .fix xs => some xs[i]?
  | .lst l => (lstAt h l).map fun xs => xs[i]?
  | .enl l => (lstAt h l).map fun xs => xs[i]?.map fun x => .tup [.int i, x]
  | .rvl l n => (lstAt h l).bind fun xs => if xs.length = n then some (if i < n then xs[n - 1 - i]? else none) else none
  | .zll l m => (lstAt h l).bind fun xs => (lstAt h m).map fun ys => match xs[i]?, ys[i]? with
    | some x, some y => some (.tup [x, y])
    | _, _ => none
  | .ens x => if i ≤ x.length then some (x[i]?.map fun c => .tup [.int i, .str [c]]) else none
  | .ent xs => if i ≤ xs.length then some (xs[i]?.map fun x => .tup [.int i, x]) else none
def wkOf (k : Ik) (vs : List PV) (h : PH) : Option (Wk × Nat) := match k, vs with
  | .seq, [.tup xs] => some (.fix xs, xs.length)
  | .seq, [.str x] => some (.fix (x.map fun c => .str [c]), x.length)
  | .seq, [.ref l] => (lstAt h l).map fun xs => (.lst l, xs.length)
  | .rng, [.int j] => if decide (-(2 ^ 62) ≤ j) && decide (j < 2 ^ 62) then some (.fix ((List.range j.toNat).map fun (i : Nat) => .int i), j.toNat) else none
  | .rng, [.int i, .int j] => if decide (-(2 ^ 62) ≤ i) && decide (i < 2 ^ 62) && decide (-(2 ^ 62) ≤ j) && decide (j < 2 ^ 62) then some (.fix ((List.range (j - i).toNat).map fun (m : Nat) => .int (i + m)), (j - i).toNat) else none
  | .rng, [.int i, .int j, .int c] => if decide (c = -1) && decide (-(2 ^ 62) ≤ i) && decide (i < 2 ^ 62) && decide (-(2 ^ 62) ≤ j) && decide (j < 2 ^ 62) then some (.fix ((List.range (i - j).toNat).map fun (m : Nat) => .int (i - m)), (i - j).toNat) else none
  | .rvr, [.int j] => if decide (-(2 ^ 62) ≤ j) && decide (j < 2 ^ 62) then some (.fix ((List.range j.toNat).map fun (m : Nat) => .int (j - 1 - m)), j.toNat) else none
  | .enum, [.ref l] => (lstAt h l).map fun xs => (.enl l, xs.length)
  | .enum, [.str x] => if x.length ≤ sizeLine then some (.ens x, x.length) else none
  | .enum, [.tup xs] => some (.ent xs, xs.length)
  | .zip, [.ref l, .ref m] => (lstAt h l).bind fun xs => (lstAt h m).map fun ys => (.zll l m, min xs.length ys.length)
  | .rev, [.ref l] => (lstAt h l).map fun xs => (.rvl l xs.length, xs.length)
  | _, _ => none
section
variable (T : Tb) (call : Nat → List PV → PH → Res PV)
def callG (v : PV) (vs : List PV) (h : PH) : Res PV := match v with
  | .fn f => call f vs h
  | .cls c => match (T.cls[c]?).bind (·.init) with
    | some f => (call f (.ref h.length :: vs) (h ++ [.ins c []])).bind fun v h1 => match v with
      | .non => .ok (.ref h.length) h1
      | _ => .stuck
    | none => .stuck
  | _ => .stuck
def lcRun (body : PV → PH → Res (Option PV)) (w : Wk) (D : Nat) : Nat → Nat → PH → Res PV
  | 0, _, _ => .stuck
  | n + 1, i, h => match wkAt h i w with
    | none => .stuck
    | some none => .ok (.ref D) h
    | some (some x) => (body x h).bind fun y h1 => match y with
      | none => lcRun body w D n (i + 1) h1
      | some v => match h1[D]? with
        | some (.lst acc) => if acc.length < sizeLine then lcRun body w D n (i + 1) (h1.set D (.lst (acc ++ [v]))) else .stuck
        | _ => .stuck
def accRun (body : PV → PH → Res Unit) (w : Wk) : Nat → Nat → PH → Res Unit
  | 0, _, _ => .stuck
  | n + 1, i, h => match wkAt h i w with
    | none => .stuck
    | some none => .ok () h
    | some (some x) => (body x h).bind fun _ h1 => accRun body w n (i + 1) h1
def accPut (D : Nat) (v : PV) (h : PH) : Res Unit := match h[D]? with
  | some (.lst acc) => if acc.length < sizeLine then .ok () (h.set D (.lst (acc ++ [v]))) else .stuck
  | _ => .stuck
def isNop : Ex → Bool
  | .nop => true
  | _ => false
def partR (e : Ex) (r : Res PV) (h : PH) : Res (Option Int) := match e with
  | .nop => .ok none h
  | _ => r.bind fun v h1 => match v with
    | .int i => .ok (some i) h1
    | _ => .stuck
mutual
def evE : Ex → PEnv → PH → Res PV
  | .var i, ρ, h => match ρ[i]? with
    | some (some v) => .ok v h
    | _ => .stuck
  | .con v, _, h => .ok v h
  | .glob g, _, h => match T.glob[g]? with
    | some v => .ok v h
    | none => .stuck
  | .bin op a b, ρ, h => (evE a ρ h).bind fun v h1 => (evE b ρ h1).bind fun w h2 => pBin op v w h2
  | .neg a, ρ, h => (evE a ρ h).bind fun v h1 => match v with
    | .int i => .ok (.int (-i)) h1
    | _ => .stuck
  | .not a, ρ, h => (evE a ρ h).bind fun v h1 => match pTru h1 v with
    | some b => .ok (.bl (!b)) h1
    | none => .stuck
  | .and a b, ρ, h => (evE a ρ h).bind fun v h1 => match pTru h1 v with
    | some true => evE b ρ h1
    | some false => .ok v h1
    | none => .stuck
  | .or a b, ρ, h => (evE a ρ h).bind fun v h1 => match pTru h1 v with
    | some true => .ok v h1
    | some false => evE b ρ h1
    | none => .stuck
  | .cmp op a b, ρ, h => (evE a ρ h).bind fun v h1 => (evE b ρ h1).bind fun w h2 => pCmp op v w h2
  | .chn o1 o2 a b c, ρ, h => (evE a ρ h).bind fun v h1 => (evE b ρ h1).bind fun w h2 => (pCmp o1 v w h2).bind fun t h3 => match t with
    | .bl true => (evE c ρ h3).bind fun u h4 => pCmp o2 w u h4
    | .bl false => .ok (.bl false) h3
    | _ => .stuck
  | .ife c a b, ρ, h => (evE c ρ h).bind fun v h1 => match pTru h1 v with
    | some true => evE a ρ h1
    | some false => evE b ρ h1
    | none => .stuck
  | .tup es, ρ, h => (evEs es ρ h).bind fun vs h1 => if vs.length ≤ sizeLine then .ok (.tup vs) h1 else .stuck
  | .lst es, ρ, h => (evEs es ρ h).bind fun vs h1 => if vs.length ≤ sizeLine then .ok (.ref h1.length) (h1 ++ [.lst vs]) else .stuck
  | .star _, _, _ => .stuck
  | .ix o i, ρ, h => (evE o ρ h).bind fun v h1 => (evE i ρ h1).bind fun w h2 => pIx v w h2
  | .sl o lo hi, ρ, h => (evE o ρ h).bind fun v h1 => (partR lo (evE lo ρ h1) h1).bind fun l h2 => (partR hi (evE hi ρ h2) h2).bind fun u h3 => pSl v l u h3
  | .nop, _, _ => .stuck
  | .call g es, ρ, h => match T.glob[g]? with
    | some f => (evEs es ρ h).bind fun vs h1 => callG T call f vs h1
    | none => .stuck
  | .callv i es, ρ, h => (match ρ[i]? with
    | some (some (.fn f)) => if T.glob.any (isFnOf f) = true then (evEs es ρ h).bind fun vs h1 => call f vs h1 else .stuck
    | _ => .stuck)
  | .bi f es, ρ, h => (evEs es ρ h).bind fun vs h1 => pBi T f vs h1
  | .mt m b o es, ρ, h => (match b with
    | .none => (match evE o ρ h with
      | .ok (.ref l) h1 => (match h1[l]? with
        | some (.ins c fs) => (match fs.lookup m, (T.cls[c]?).bind fun ci => ci.meths.lookup m with
          | none, some f => (evEs es ρ h1).bind fun vs h2 => call f (.ref l :: vs) h2
          | _, _ => .stuck)
        | _ => .stuck)
      | _ => .stuck)
    | b => (evE o ρ h).bind fun v h1 => (match Bq.of b (kindAt h1 v) with
      | some q => (evEs es ρ h1).bind fun vs h2 => pBq q v vs h2
      | none => .stuck))
  | .repl o y z, ρ, h => (evE o ρ h).bind fun v h1 => match v with
    | .str x => if decide (x.length + (x.length + 1) * z.length ≤ 16777216) && decide (y ≠ z) then .ok (.str (Txt.replace ⟨x.toArray⟩ ⟨y.toArray⟩ ⟨z.toArray⟩).cps.toList) h1 else .stuck
    | _ => .stuck
  | .att o f, ρ, h => (match evE o ρ h with
    | .ok (.ref l) h1 => (match h1[l]? with
      | some (.ins c fs) => (match attK T c f with
        | some (some g) => (call g [.ref l] h1).noer
        | _ => fldOf T f (.ref l) h1)
      | _ => .stuck)
    | r => r.bind fun v h1 => fldOf T f v h1)
  | .lc e own t k its ifs, ρ, h => ((evEs its ρ h).bind fun vs h1 => match wkOf k vs h1 with
    | none => .stuck
    | some (w, n) => lcRun (fun x h2 => match bindTg t x (own.foldr (fun i r => r.set i none) ρ) with
      | none => .stuck
      | some ρ1 => ((evIf ifs ρ1 h2).bind fun b h3 => if b then (evE e ρ1 h3).bind fun y h4 => .ok (some y) h4 else .ok none h3).noer) w h1.length (n + 1) 0 (h1 ++ [.lst []]))
  | .bty f, _, h => match f.tyn with
    | some n => .ok (.ty n) h
    | none => .stuck
  | .dsp, _, h => .ok (.ref h.length) (h ++ [.dic []])
  | .lz es, ρ, h => (evEs es ρ h).bind fun vs h1 => match vs with
    | [.tup xs, .tup ys] => .ok (.ref h1.length) (h1 ++ [.lst (List.zipWith (fun x y => .tup [x, y]) xs ys)])
    | _ => .stuck
  | .lc2 e own t k its ifs own1 t1 k1 its1 ifs1, ρ, h => ((evEs its ρ h).bind fun vs h1 => match wkOf k vs h1 with
    | none => .stuck
    | some (w, n) => (accRun (fun x h2 => match bindTg t x (own.foldr (fun i r => r.set i none) ρ) with
      | none => .stuck
      | some ρ1 => ((evIf ifs ρ1 h2).noer.bind fun b h3 => if b then ((evEs its1 ρ1 h3).noer.bind fun ws h4 => match wkOf k1 ws h4 with
        | none => .stuck
        | some (w1, n1) => accRun (fun y h5 => match bindTg t1 y (own1.foldr (fun i r => r.set i none) ρ1) with
          | none => .stuck
          | some ρ2 => ((evIf ifs1 ρ2 h5).noer.bind fun b h6 => if b then (evE e ρ2 h6).noer.bind fun z h7 => accPut h1.length z h7 else .ok () h6)) w1 (n1 + 1) 0 h4) else .ok () h3)) w (n + 1) 0 (h1 ++ [.lst []])).bind fun _ h9 => .ok (.ref h1.length) h9)
  | .lno m o, ρ, h => (evE o ρ h).bind fun v h1 => (match v with
    | .ref l => (match h1[l]? with
      | some (.ins c _) => (match (T.cls[c]?).bind fun ci => ci.meths.lookup m with
        | some f => (call f [.ref l] h1).noer.bind fun w h2 => (match w with
          | .int i => if decide (0 ≤ i) && decide (i < 2 ^ 63) then .ok (.int i) h2 else .stuck
          | _ => .stuck)
        | none => .stuck)
      | _ => .stuck)
    | _ => .stuck)
  | .never, _, _ => .stuck
def evEs : List Ex → PEnv → PH → Res (List PV)
  | [], _, h => .ok [] h
  | .star e :: es, ρ, h => (evE e ρ h).bind fun v h1 => match v with
    | .tup xs => (evEs es ρ h1).bind fun vs h2 => .ok (xs ++ vs) h2
    | .ref l => (match lstAt h1 l with
      | some xs => (evEs es ρ h1).bind fun vs h2 => .ok (xs ++ vs) h2
      | none => .stuck)
    | _ => .stuck
  | e :: es, ρ, h => (evE e ρ h).bind fun v h1 => (evEs es ρ h1).bind fun vs h2 => .ok (v :: vs) h2
def evIf : List Ex → PEnv → PH → Res Bool
  | [], _, h => .ok true h
  | e :: es, ρ, h => (evE e ρ h).bind fun v h1 => match pTru h1 v with
    | some true => evIf es ρ h1
    | some false => .ok false h1
    | none => .stuck
end
def evT (e : Ex) (ρ : PEnv) (h : PH) : Res Bool := (evE T call e ρ h).bind fun v h1 => match pTru h1 v with
  | some b => .ok b h1
  | none => .stuck
def putN (f : Nat) (v : PV) : List (Nat × PV) → List (Nat × PV)
  | [] => [(f, v)]
  | (g, x) :: r => if g = f then (f, v) :: r else (g, x) :: putN f v r
def pSet (w k v : PV) (h : PH) : Option PH := match w with
  | .ref l => match h[l]? with
    | some (.lst xs) => (match k with
      | .int j => (match ixN xs.length j with
        | some m => some (h.set l (.lst (xs.set m v)))
        | none => none)
      | _ => none)
    | some (.dic kvs) => (match keyOf k with
      | some k => if kvs.length < sizeLine then some (h.set l (.dic (dPut kvs k v))) else none
      | none => none)
    | _ => none
  | _ => none
def spl {α : Type} (xs ys : List α) (lo hi : Option Int) : List α := xs.take (HT.sIx xs.length 0 lo) ++ ys ++ xs.drop (max (HT.sIx xs.length 0 lo) (HT.sIx xs.length xs.length hi))
def pSlS (w : PV) (lo hi : Option Int) (v : PV) (h : PH) : Option PH := match w, v with
  | .ref l, .ref m => match h[l]?, h[m]? with
    | some (.lst xs), some (.lst ys) => if l ≠ m ∧ xs.length + ys.length ≤ sizeLine then some (h.set l (.lst (spl xs ys lo hi))) else none
    | _, _ => none
  | _, _ => none
def pFld (T : Tb) (w : PV) (f : Nat) (v : PV) (h : PH) : Option PH := match w with
  | .ref l => match h[l]? with
    | some (.ins c fs) => if attK T c f = some none ∧ fs.length < 1000 then some (h.set l (.ins c (putN f v fs))) else none
    | _ => none
  | _ => none
def pAug (op : Bop) (v w : PV) (h : PH) : Res PV := match op, v, w with
  | .add, .int a, .int b => .ok (.int (a + b)) h
  | .sub, .int a, .int b => .ok (.int (a - b)) h
  | .add, .str a, .str b => if a.length + b.length ≤ sizeLine then .ok (.str (a ++ b)) h else .stuck
  | _, _, _ => .stuck
def bindL (is : List Nat) (v : PV) (ρ : PEnv) (h : PH) : Option PEnv := match v with
  | .ref l => (match lstAt h l with
    | some xs => if xs.length = is.length then some ((is.zip xs).foldl (fun r q => r.set q.1 (some q.2)) ρ) else none
    | none => none)
  | _ => none
def asgTa (t : Ta) (v : PV) (ρ : PEnv) (h : PH) : Res PEnv := match t with
  | .nm i => .ok (ρ.set i (some v)) h
  | .tp is => match bindTg (.tp is) v ρ with
    | some ρ1 => .ok ρ1 h
    | none => match bindL is v ρ h with
      | some ρ1 => .ok ρ1 h
      | none => .stuck
  | .att o f => (evE T call o ρ h).bind fun w h1 => match pFld T w f v h1 with
    | some h2 => .ok ρ h2
    | none => .stuck
  | .ix o i => (evE T call o ρ h).bind fun w h1 => (evE T call i ρ h1).bind fun k h2 => match pSet w k v h2 with
    | some h3 => .ok ρ h3
    | none => .stuck
  | .sl o lo hi => (evE T call o ρ h).bind fun w h1 => (partR lo (evE T call lo ρ h1) h1).bind fun l h2 => (partR hi (evE T call hi ρ h2) h2).bind fun u h3 => match pSlS w l u v h3 with
    | some h4 => .ok ρ h4
    | none => .stuck
def forRun (body : PV → PEnv → PH → Res Fl) (w : Wk) : Nat → Nat → PEnv → PH → Res Fl
  | 0, _, _, _ => .stuck
  | n + 1, i, ρ, h => match wkAt h i w with
    | none => .stuck
    | some none => .ok (.nx ρ) h
    | some (some x) => (body x ρ h).bind fun f h1 => match f with
      | .nx ρ1 => forRun body w n (i + 1) ρ1 h1
      | .ct ρ1 => forRun body w n (i + 1) ρ1 h1
      | .bk ρ1 => .ok (.nx ρ1) h1
      | .rt v => .ok (.rt v) h1
def whRun (c : PEnv → PH → Res Bool) (body : PEnv → PH → Res Fl) : Nat → PEnv → PH → Res Fl
  | 0, _, _ => .stuck
  | n + 1, ρ, h => (c ρ h).bind fun b h1 => if b then (body ρ h1).bind fun f h2 => match f with
      | .nx ρ1 => whRun c body n ρ1 h2
      | .ct ρ1 => whRun c body n ρ1 h2
      | .bk ρ1 => .ok (.nx ρ1) h2
      | .rt v => .ok (.rt v) h2
    else .ok (.nx ρ) h1
mutual
def exS (W : Nat) : Sm → PEnv → PH → Res Fl
  | .asg t e, ρ, h => (evE T call e ρ h).bind fun v h1 => (asgTa T call t v ρ h1).bind fun ρ1 h2 => .ok (.nx ρ1) h2
  | .aug t op e, ρ, h => match t with
    | .nm i => (match ρ[i]? with
      | some (some v) => (evE T call e ρ h).bind fun w h1 => match op, v, w with
        | .add, .int a, .int b => .ok (.nx (ρ.set i (some (.int (a + b))))) h1
        | .sub, .int a, .int b => .ok (.nx (ρ.set i (some (.int (a - b))))) h1
        | _, _, _ => .stuck
      | _ => .stuck)
    | .att o f => (evE T call o ρ h).bind fun w h1 => (match w with
      | .ref l => (match h1[l]? with
        | some (.ins c fs) => (match attK T c f with
          | some none => (match fs.lookup f with
            | some v => (evE T call e ρ h1).bind fun x h3 => (pAug op v x h3).bind fun y h4 => (match h4[l]? with
              | some (.ins c' fs') => if c' = c ∧ fs'.length < 1000 then .ok (.nx ρ) (h4.set l (.ins c (putN f y fs'))) else .stuck
              | _ => .stuck)
            | none => .stuck)
          | _ => .stuck)
        | _ => .stuck)
      | _ => .stuck)
    | _ => .stuck
  | .ex e, ρ, h => (evE T call e ρ h).bind fun _ h1 => .ok (.nx ρ) h1
  | .ret e, ρ, h => (evE T call e ρ h).bind fun v h1 => .ok (.rt v) h1
  | .retn, _, h => .ok (.rt .non) h
  | .ite c a b, ρ, h => (evT T call c ρ h).bind fun t h1 => if t then exSs W a ρ h1 else exSs W b ρ h1
  | .wh c b, ρ, h => whRun (evT T call c) (exSs W b) W ρ h
  | .for_ t k its b, ρ, h => (evEs T call its ρ h).bind fun vs h1 => match wkOf k vs h1 with
    | none => .stuck
    | some (w, n) => forRun (fun x ρ1 h2 => match bindTg t x ρ1 with
      | none => .stuck
      | some ρ2 => exSs W b ρ2 h2) w (n + 1) 0 ρ h1
  | .brk, ρ, h => .ok (.bk ρ) h
  | .cnt, ρ, h => .ok (.ct ρ) h
  | .pass, ρ, h => .ok (.nx ρ) h
  | .raise _ _, _, _ => .stuck
  | .del _ _, _, _ => .stuck
  | .never, _, _ => .stuck
def exSs (W : Nat) : List Sm → PEnv → PH → Res Fl
  | [], ρ, h => .ok (.nx ρ) h
  | s :: r, ρ, h => (exS W s ρ h).bind fun f h1 => match f with
    | .nx ρ1 => exSs W r ρ1 h1
    | f => .ok f h1
end
def runBody (W ns : Nat) (b : List Sm) (vs : List PV) (h : PH) : Res PV :=
  (exSs T call W b (vs.map some ++ List.replicate (ns - vs.length) none) h).bind fun f h1 => match f with
    | .nx _ => .ok .non h1
    | .rt v => .ok v h1
    | _ => .stuck
end
end Mn
set_option Elab.async false
set_option linter.all false
set_option maxRecDepth 100000
set_option maxHeartbeats 4000000
namespace Mn
open PySem PySem.Spec L2 PyProof.Rows
def Bop.py : Bop → Operator
  | .add => .Add | .sub => .Sub | .mul => .Mult | .fdiv => .FloorDiv | .mod => .Mod | .pow => .Pow | .band => .BitAnd | .bor => .BitOr | .bxor => .BitXor | .shl => .LShift | .shr => .RShift
def Cop.py : Cop → CmpOp
  | .eq => .Eq | .ne => .NotEq | .lt => .Lt | .le => .LtE | .gt => .Gt | .ge => .GtE | .is_ => .Is | .isn => .IsNot | .in_ => .In | .nin => .NotIn
section
variable {G : Gm} {E : XK} {X : Cx} {as : List Addr} {H : Hp} {h : PH}
theorem RepV.refE {l : Nat} {v : V} (r : RepV G as H (.ref l) v) : ∃ a, as[l]? = some a ∧ v = .ref a := by unfold RepV at r; exact r
theorem RepV.intE {i : Int} {v : V} (r : RepV G as H (.int i) v) : v = .int i := by unfold RepV at r; exact r
theorem RepV.blE {i : Bool} {v : V} (r : RepV G as H (.bl i) v) : v = .bl i := by unfold RepV at r; exact r
theorem RepV.nonE {v : V} (r : RepV G as H .non v) : v = .non := by unfold RepV at r; exact r
theorem RepV.strE {x : List Nat} {v : V} (r : RepV G as H (.str x) v) : v = .str ⟨x.toArray⟩ := by unfold RepV at r; exact r
theorem RepV.tupE {xs : List PV} {v : V} (r : RepV G as H (.tup xs) v) : ∃ a vs, v = .ref a ∧ SqT G.K H a vs ∧ RepVs G as H xs vs := by unfold RepV at r; exact r
theorem RepV.frkE {xs : List PV} {v : V} (r : RepV G as H (.frk xs) v) : ∃ a vs, v = .ref a ∧ SqF G.K H a vs ∧ RepVs G as H xs vs := by unfold RepV at r; exact r
theorem RepV.tyE {n : String} {v : V} (r : RepV G as H (.ty n) v) : v = .ty n := by unfold RepV at r; exact r
theorem RepV.int (i : Int) : RepV G as H (.int i) (.int i) := by unfold RepV; rfl
theorem RepV.bl (i : Bool) : RepV G as H (.bl i) (.bl i) := by unfold RepV; rfl
theorem RepV.non : RepV G as H .non .non := by unfold RepV; rfl
theorem RepV.str (x : List Nat) : RepV G as H (.str x) (.str ⟨x.toArray⟩) := by unfold RepV; rfl
theorem RepV.strO (x : Str) : RepV G as H (.str x.cps.toList) (.str x) := by unfold RepV; rfl
theorem SR.obj (S : SR G as H h) {l : Nat} {a : Addr} {o : PO} (e : h[l]? = some o) (ea : as[l]? = some a) : RepO G as H o a := S.at_ l o a e ea
theorem SR.lst (S : SR G as H h) {l : Nat} {a : Addr} {xs : List PV} (e : lstAt h l = some xs) (ea : as[l]? = some a) : ∃ vs, SqL G.K H a vs ∧ RepVs G as H xs vs := by
  unfold lstAt at e
  split at e
  · rename_i ys q
    cases e
    obtain ⟨vs, e1, r⟩ := S.obj q ea
    exact ⟨vs, .of e1, r⟩
  · rename_i ys q
    cases e
    obtain ⟨o, vs, e1, r⟩ := S.obj q ea
    exact ⟨vs, .inl (.inr ⟨o, e1⟩), r⟩
  · cases e
theorem lstAt_of {l : Nat} {xs : List PV} (e : h[l]? = some (.lst xs)) : lstAt h l = some xs := by unfold lstAt; rw [e]
theorem lstAt_frz {l : Nat} {xs : List PV} (e : h[l]? = some (.frz xs)) : lstAt h l = some xs := by unfold lstAt; rw [e]
theorem SR.lstM (S : SR G as H h) {l : Nat} {a : Addr} {xs : List PV} (e : h[l]? = some (.lst xs)) (ea : as[l]? = some a) : ∃ vs, H a = some (.lst vs) ∧ RepVs G as H xs vs := S.obj e ea
theorem SR.setL (S : SR G as H h) {l : Nat} {a : Addr} {vs ws : List V} {ys : List PV} (ea : as[l]? = some a) (e : H a = some (.lst vs)) (r : RepVs G as H ys ws) : Fut G as H as (upd H a (.lst ws)) (h.set l (.lst ys)) := by
  have k : Kp H (upd H a (.lst ws)) := Kp.mut e (fun _ z => by cases z) (fun _ _ z => by cases z)
  exact S.set ea k ⟨ws, upd_same, r.mono (List.prefix_refl _) k⟩
theorem SR.newL (S : SR G as H h) {p : Addr} {ys : List PV} {ws : List V} (hp : H p = none) (r : RepVs G as H ys ws) : Fut G as H (as ++ [p]) (upd H p (.lst ws)) (h ++ [.lst ys]) ∧ RepV G (as ++ [p]) (upd H p (.lst ws)) (.ref h.length) (.ref p) :=
  S.new hp ⟨ws, upd_same, r.mono (List.prefix_append _ _) (Kp.new hp)⟩
mutual
theorem toD_ok {de : Nat → Option PyData} (hd : ∀ l d a, de l = some d → as[l]? = some a → Dp G.K H (.ref a) d) : ∀ {v : PV} {x : V} {d : PyData}, toD de v = some d → RepV G as H v x → Dp G.K H x d
  | .non, x, d, e, r => by
    simp only [toD] at e; cases e; rw [r.nonE]; exact .non
  | .bl b, x, d, e, r => by
    simp only [toD] at e; cases e; rw [r.blE]; exact .bl b
  | .int i, x, d, e, r => by
    simp only [toD] at e; cases e; rw [r.intE]; exact .int i
  | .str y, x, d, e, r => by
    simp only [toD] at e; cases e; rw [r.strE]; exact .str _
  | .tup xs, x, d, e, r => by
    simp only [toD] at e
    obtain ⟨ds, e1, e2⟩ := Option.map_eq_some_iff.mp e
    subst e2
    obtain ⟨a, vs, rfl, s, rv⟩ := r.tupE
    exact .tup s (toDs_ok hd e1 rv)
  | .ref l, x, d, e, r => by
    simp only [toD] at e
    obtain ⟨a, ea, rfl⟩ := r.refE
    exact hd l d a e ea
  | .frk _, _, _, e, _ => by simp [toD] at e
  | .fn _, _, _, e, _ => by simp [toD] at e
  | .cls _, _, _, e, _ => by simp [toD] at e
  | .ty _, _, _, e, _ => by simp [toD] at e
theorem toDs_ok {de : Nat → Option PyData} (hd : ∀ l d a, de l = some d → as[l]? = some a → Dp G.K H (.ref a) d) : ∀ {vs : List PV} {xs : List V} {ds : List PyData}, toDs de vs = some ds → RepVs G as H vs xs → DpAll G.K H xs ds
  | [], xs, ds, e, r => by
    simp only [toDs] at e; cases e
    unfold RepVs at r; subst r; exact .nil
  | v :: vs, xs, ds, e, r => by
    simp only [toDs] at e
    unfold RepVs at r
    obtain ⟨x, rest, rfl, r1, r2⟩ := r
    split at e
    · cases e
    · rename_i d q
      obtain ⟨es, e1, e2⟩ := Option.map_eq_some_iff.mp e
      subst e2
      exact .cons (toD_ok hd q r1) (toDs_ok hd e1 r2)
end
theorem deref_ok (S : SR G as H h) : ∀ (n l : Nat) (d : PyData) (a : Addr), deref h n l = some d → as[l]? = some a → Dp G.K H (.ref a) d
  | 0, l, d, a, e, _ => by simp [deref] at e
  | n + 1, l, d, a, e, ea => by
    simp only [deref] at e
    split at e
    · rename_i xs q
      obtain ⟨ds, e1, e2⟩ := Option.map_eq_some_iff.mp e
      subst e2
      obtain ⟨vs, s, r⟩ := S.lst (lstAt_of q) ea
      exact .lst s (toDs_ok (deref_ok S n) e1 r)
    · rename_i xs q
      obtain ⟨ds, e1, e2⟩ := Option.map_eq_some_iff.mp e
      subst e2
      obtain ⟨vs, s, r⟩ := S.lst (lstAt_frz q) ea
      exact .lst s (toDs_ok (deref_ok S n) e1 r)
    · cases e
theorem datum_ok (S : SR G as H h) {v : PV} {x : V} {d : PyData} (e : datum h v = some d) (r : RepV G as H v x) : Dp G.K H x d ∧ SeqAt.shaped d = true := by
  unfold datum at e
  split at e
  · rename_i d' q
    split at e
    · rename_i sh
      cases e
      exact ⟨toD_ok (deref_ok S 8) q r, sh⟩
    · cases e
  · cases e
theorem pEq_ok (S : SR G as H h) {v w : PV} {x y : V} {b : Bool} (e : pEq h v w = some b) (r1 : RepV G as H v x) (r2 : RepV G as H w y) :
    ∃ d d', Dp G.K H x d ∧ Dp G.K H y d' ∧ SeqAt.shaped d = true ∧ SeqAt.shaped d' = true ∧ b = PyData.eqv d d' := by
  unfold pEq at e
  split at e
  · rename_i d d' q1 q2
    cases e
    obtain ⟨a1, a2⟩ := datum_ok S q1 r1
    obtain ⟨b1, b2⟩ := datum_ok S q2 r2
    exact ⟨d, d', a1, b1, a2, b2, rfl⟩
  · cases e
abbrev rP2 (G : Gm) (E : XK) (pr : PV → PV → PH → Res PV) : R2 := fun x y H Q => ∃ as h va vb, SR G as H h ∧ RepV G as H va x ∧ RepV G as H vb y ∧ OkV G E as H Q (pr va vb h)
theorem okv {Q : V → Hp → Prop} {w : PV} {v : V} (S : SR G as H h) (o : OkV G E as H Q (.ok w h)) (r : RepV G as H w v) : Q v H := o as H v (Fut.refl S) r
theorem okn {Q : V → Hp → Prop} {w : PV} {v : V} {as' : List Addr} {H' : Hp} {h' : PH} (o : OkV G E as H Q (.ok w h')) (f : Fut G as H as' H' h') (r : RepV G as' H' w v) : Q v H' := o as' H' v f r
theorem str_app (x y : List Nat) : (⟨x.toArray⟩ : Str) ++ (⟨y.toArray⟩ : Str) = ⟨(x ++ y).toArray⟩ := by
  show Str.append _ _ = _
  unfold Str.append
  simp
theorem str_len (x : List Nat) : (⟨x.toArray⟩ : Str).length = x.length := by unfold Str.length; simp
theorem pow_any {pins : List (Addr × Obj)} {s : Shared} {σ : L2.St} {x y : V} {v u : Value} {Q : VK} {i j : Int} (I : Inv X pins σ H s) (rx : RelV (.int i) v) (ry : RelV (.int j) u) (h0 : 0 ≤ j) (hsz : (Builtin.Int.intBits i : Int) * j ≤ 2 ^ 27) (q : Q (.int (i ^ j.toNat)) H) :
    wpAny (model X.prog X.w) X.A (binaryOp .Pow v u) (EP X pins σ Q) X.xe s := by
  obtain ⟨t, rfl⟩ := rx
  obtain ⟨t', rfl⟩ := ry
  exact pow_int h0 hsz ⟨.int _, H, I.tok _, ⟨_, rfl⟩, q⟩
open PySem.P in
theorem mul_strP {prog : Program} {w : World} {A : Around} {E : Value → Shared → Prop} {s : Shared} {x : Str} {n : Int} {t u : Tok} {Q : Value → Shared → Prop} (hr : (decide (n < -(2 ^ 63 : Int)) || decide (n ≥ 2 ^ 63)) = false)
    (hb : ¬ n < 1 → (n == 1 || x.length == 0) = false → ¬ ((x.length : Int) > (2 ^ 63 - 1) / n)) (hl : ¬ n < 1 → (n == 1 || x.length == 0) = false → Builtin.Str.tooLong (x.length * n.toNat) = false)
    (h : (if n < 1 then Made.str Str.empty else if (n == 1 || x.length == 0) = true then Made.val (.str x t) else Made.str ⟨(List.replicate n.toNat x.cps).foldl (· ++ ·) #[]⟩).post Q s) :
    wpAny (model prog w) A (binaryOp .Mult (.str x t) (.int n u)) Q E s := mul_str hr hb hl h
theorem op_bin (hk : X.K = G.K) (op : Bop) : OpR X (binaryOp op.py) (rP2 G E (pBin op)) := by
  intro pins s σ H x y v u Q I rx ry ⟨as, h, va, vb, S, ra, rb, o⟩
  unfold pBin at o
  split at o
  · -- int + int
    rw [ra.intE] at rx; rw [rb.intE] at ry
    exact op_add pins s σ H _ _ v u Q I rx ry ⟨_, _, rfl, rfl, okv S o (.int _)⟩
  · -- str + str
    split at o
    · rename_i hl
      rw [ra.strE] at rx; rw [rb.strE] at ry
      refine op_add_str pins s σ H _ _ v u Q I rx ry ⟨_, _, rfl, rfl, by simpa [str_len] using hl, ?_⟩
      rw [str_app]
      exact okv S o (.str _)
    · exact False.elim o
  · -- tuple + tuple
    split at o
    · rename_i hl
      obtain ⟨a, vs, rfl, sa, r1⟩ := ra.tupE
      obtain ⟨b, ws, rfl, sb, r2⟩ := rb.tupE
      rename_i xs ys
      refine op_catA pins s σ H _ _ v u Q I rx ry ⟨a, b, vs, ws, rfl, rfl, by rw [hk]; exact sa, by rw [hk]; exact sb, by rw [← r1.length, ← r2.length]; exact hl, fun e => ?_, fun _ e => ?_, fun _ _ p hp => ?_⟩
      · have e2 : xs = [] := List.eq_nil_of_length_eq_zero (by rw [r1.length, e]; rfl)
        subst e2
        exact okv S o (by unfold RepV; exact ⟨b, ws, rfl, sb, by simpa using r2⟩)
      · have e2 : ys = [] := List.eq_nil_of_length_eq_zero (by rw [r2.length, e]; rfl)
        subst e2
        exact okv S o (by unfold RepV; exact ⟨a, vs, rfl, sa, by simpa using r1⟩)
      · obtain ⟨f, r⟩ := S.tup hp (r1.append r2)
        exact okn o f r
    · exact False.elim o
  · -- list + list
    obtain ⟨a, ea, rfl⟩ := ra.refE
    obtain ⟨b, eb, rfl⟩ := rb.refE
    split at o
    · rename_i x1 y1 q1 q2
      split at o
      · rename_i hl
        obtain ⟨vs, e1, r1⟩ := S.lstM q1 ea
        obtain ⟨ws, e2, r2⟩ := S.lstM q2 eb
        refine op_cat pins s σ H _ _ v u Q I rx ry ⟨a, b, vs, ws, rfl, rfl, e1, e2, by rw [← r1.length, ← r2.length]; exact hl, fun p hp => ?_⟩
        obtain ⟨f, r⟩ := S.newL hp (r1.append r2)
        exact okn o f r
      · exact False.elim o
    · exact False.elim o
  · rw [ra.intE] at rx; rw [rb.intE] at ry
    exact op_sub pins s σ H _ _ v u Q I rx ry ⟨_, _, rfl, rfl, okv S o (.int _)⟩
  · -- int * int
    split at o
    · rename_i hb
      rw [ra.intE] at rx; rw [rb.intE] at ry
      exact op_mulW pins s σ H _ _ v u Q I rx ry ⟨_, _, rfl, rfl, (show _ < 1000000 from of_decide_eq_true hb), okv S o (.int _)⟩
    · exact False.elim o
  · -- list * int
    obtain ⟨a, ea, rfl⟩ := ra.refE
    rw [rb.intE] at ry
    split at o
    · rename_i x1 q1
      split at o
      · rename_i hl
        simp only [Bool.and_eq_true, decide_eq_true_eq] at hl
        obtain ⟨vs, e1, r1⟩ := S.lstM q1 ea
        refine op_rep pins s σ H _ _ v u Q I rx ry ⟨a, _, vs, rfl, rfl, e1, hl.1.1, hl.1.2, by rw [← r1.length]; exact hl.2, fun p hp => ?_⟩
        have rr : ∀ n : Nat, RepVs G as H (List.replicate n x1).flatten (List.replicate n vs).flatten := fun n => by
          induction n with
          | zero => simpa using RepVs.nil
          | succ n ih => simpa [List.replicate_succ] using r1.append ih
        obtain ⟨f, r⟩ := S.newL hp (rr _)
        exact okn o f r
      · exact False.elim o
    · exact False.elim o
  · -- str * int
    split at o
    · rename_i x1 k1 hl
      simp only [Bool.and_eq_true, decide_eq_true_eq] at hl
      rw [ra.strE] at rx; rw [rb.intE] at ry
      obtain ⟨t, rfl⟩ := rx
      obtain ⟨t', rfl⟩ := ry
      obtain ⟨⟨h1, h2⟩, h3⟩ := hl
      have hlen : (⟨x1.toArray⟩ : Str).length = x1.length := by rw [str_len]
      refine mul_strP (by rw [decide_eq_false (by omega), decide_eq_false (by omega)]; rfl) ?_ (fun a b => ?_) ?_
      · intro a b
        rw [hlen]
        have hk1 : 0 < k1 := by omega
        have h4 : x1.length * k1.toNat ≤ 16777216 := h3
        have h5 : (x1.length : Int) * k1 ≤ 16777216 := by
          have e : ((x1.length * k1.toNat : Nat) : Int) = (x1.length : Int) * k1 := by
            push_cast
            rw [Int.toNat_of_nonneg (by omega)]
          omega
        have h6 : (x1.length : Int) ≤ (2 ^ 63 - 1) / k1 := (Int.le_ediv_iff_mul_le hk1).mpr (by omega)
        omega
      · unfold Builtin.Str.tooLong
        rw [hlen]
        exact decide_eq_false (by omega)
      · have key : ∀ n : Nat, ((List.replicate n (⟨x1.toArray⟩ : Str).cps).foldl (· ++ ·) #[] : Array Nat) = ((List.replicate n x1).flatten).toArray := fun n => by
          have gen : ∀ (n : Nat) (acc : List Nat), (List.replicate n (x1.toArray)).foldl (· ++ ·) acc.toArray = (acc ++ (List.replicate n x1).flatten).toArray := fun n => by
            induction n with
            | zero => intro acc; simp
            | succ n ih =>
              intro acc
              rw [List.replicate_succ, List.foldl_cons, List.append_toArray, ih]
              simp [List.replicate_succ]
          simpa using gen n []
        have fin : ∀ (z : Str), z = ⟨(List.replicate k1.toNat x1).flatten.toArray⟩ → Q (.str z) H := fun z e => by
          rw [e]
          exact okv S o (.str _)
        split
        · rename_i hn
          refine ⟨by decide, ?_⟩
          have e0 : k1.toNat = 0 := by omega
          exact ⟨.str Str.empty, H, I.tok _, ⟨_, rfl⟩, fin _ (by rw [e0]; rfl)⟩
        · split
          · rename_i hc
            have e1 : (⟨x1.toArray⟩ : Str) = ⟨(List.replicate k1.toNat x1).flatten.toArray⟩ := by
              simp only [Bool.or_eq_true, beq_iff_eq] at hc
              rcases hc with hc | hc
              · subst hc; simp
              · rw [hlen] at hc
                have : x1 = [] := List.eq_nil_of_length_eq_zero hc
                subst this
                congr 1
                have : ∀ n : Nat, (List.replicate n ([] : List Nat)).flatten = [] := fun n => by induction n <;> simp_all [List.replicate_succ]
                rw [this]
            exact ⟨.str _, H, I, ⟨_, rfl⟩, fin _ e1⟩
          · refine ⟨?_, ⟨.str _, H, I.tok _, ⟨_, rfl⟩, fin _ (by rw [key])⟩⟩
            rw [key, str_len]
            have ln : ∀ n : Nat, (List.replicate n x1).flatten.length = x1.length * n := fun n => by
              induction n with
              | zero => simp
              | succ n ih => simp [List.replicate_succ, ih, Nat.mul_succ, Nat.add_comm]
            rw [ln]
            exact h3
    · exact False.elim o
  · -- //
    split at o
    · rename_i hb
      simp only [Bool.and_eq_true, decide_eq_true_eq] at hb
      rw [ra.intE] at rx; rw [rb.intE] at ry
      exact op_fdivW pins s σ H _ _ v u Q I rx ry ⟨_, _, rfl, rfl, hb, okv S o (.int _)⟩
    · exact False.elim o
  · split at o
    · rename_i hb
      rw [ra.intE] at rx; rw [rb.intE] at ry
      exact op_mod pins s σ H _ _ v u Q I rx ry ⟨_, _, rfl, rfl, of_decide_eq_true hb, okv S o (.int _)⟩
    · exact False.elim o
  · split at o
    · rename_i hb
      simp only [Bool.and_eq_true, decide_eq_true_eq] at hb
      rw [ra.intE] at rx; rw [rb.intE] at ry
      exact pow_any (x := x) (y := y) I rx ry hb.1 hb.2 (okv S o (.int _))
    · exact False.elim o
  · split at o
    · rename_i hb
      simp only [Bool.and_eq_true, decide_eq_true_eq] at hb
      rw [ra.intE] at rx; rw [rb.intE] at ry
      exact op_shl pins s σ H _ _ v u Q I rx ry ⟨_, _, rfl, rfl, ⟨hb.1.1, hb.1.2, hb.2⟩, okv S o (.int _)⟩
    · exact False.elim o
  · split at o
    · rename_i hb
      rw [ra.intE] at rx; rw [rb.intE] at ry
      exact op_shr pins s σ H _ _ v u Q I rx ry ⟨_, _, rfl, rfl, of_decide_eq_true hb, okv S o (.int _)⟩
    · exact False.elim o
  · rw [ra.intE] at rx; rw [rb.intE] at ry
    exact op_and pins s σ H _ _ v u Q I rx ry ⟨_, _, rfl, rfl, okv S o (.int _)⟩
  · rw [ra.intE] at rx; rw [rb.intE] at ry
    exact op_or pins s σ H _ _ v u Q I rx ry ⟨_, _, rfl, rfl, okv S o (.int _)⟩
  · rw [ra.intE] at rx; rw [rb.intE] at ry
    exact op_xor pins s σ H _ _ v u Q I rx ry ⟨_, _, rfl, rfl, okv S o (.int _)⟩
  · exact False.elim o
theorem ob_ok {b : Option Bool} {Q : V → Hp → Prop} (o : OkV G E as H Q (ob b h)) (S : SR G as H h) : ∃ c, b = some c ∧ Q (.bl c) H := by
  unfold ob at o
  split at o
  · exact ⟨_, rfl, okv S o (.bl _)⟩
  · exact False.elim o
theorem flat_in {y : List Nat} {c : Nat} : decide (c ∈ (⟨y.toArray⟩ : Str).cps.toList) = y.contains c := by
  show decide (c ∈ y.toArray.toList) = _
  rw [Bool.eq_iff_iff]
  simp
theorem op_inT (hu : X.A.units + 65 < cLine) : OpR X (compareOp .In) (fun x y H Q => ∃ d ds, Dp X.K H x d ∧ Dp X.K H y (.tuple ds) ∧ SeqAt.shaped d = true ∧ SeqAt.shaped (.tuple ds) = true ∧ Q (.bl (ds.any fun z => PyData.eqv z d)) H) := by
  intro pins s σ H x y v u Q I rx ry h
  obtain ⟨d, ds, hd, he, sd, se, q⟩ := h
  obtain ⟨as, r1⟩ := Dp.reads I d x v hd rx
  obtain ⟨bs, r2⟩ := Dp.reads I (.tuple ds) y u he ry
  exact SeqAt.in_tuple_reads r2 r1 (SeqAt.canLay_of_shaped se) (SeqAt.canLay_of_shaped sd) (room_in_shaped sd hu) ⟨.bl _, H, I, rfl, q⟩
theorem op_notInT (hu : X.A.units + 65 < cLine) : OpR X (compareOp .NotIn) (fun x y H Q => ∃ d ds, Dp X.K H x d ∧ Dp X.K H y (.tuple ds) ∧ SeqAt.shaped d = true ∧ SeqAt.shaped (.tuple ds) = true ∧ Q (.bl (!ds.any fun z => PyData.eqv z d)) H) := by
  intro pins s σ H x y v u Q I rx ry h
  obtain ⟨d, ds, hd, he, sd, se, q⟩ := h
  obtain ⟨as, r1⟩ := Dp.reads I d x v hd rx
  obtain ⟨bs, r2⟩ := Dp.reads I (.tuple ds) y u he ry
  exact SeqAt.notIn_tuple_reads r2 r1 (SeqAt.canLay_of_shaped se) (SeqAt.canLay_of_shaped sd) (room_in_shaped sd hu) ⟨.bl _, H, I, rfl, q⟩
theorem dLook_ok : ∀ {kvs : List (Key × PV)} {ks : List (Key × V)} (k : Key), RepK G as H kvs ks → (∀ x, dLook kvs k = some x → ∃ v, valV ks k = some v ∧ RepV G as H x v) ∧ (dLook kvs k = none → valV ks k = none)
  | [], ks, k, r => by
    unfold RepK at r; subst r
    exact ⟨fun x e => by simp [dLook] at e, fun _ => rfl⟩
  | (k', x) :: kvs, ks, k, r => by
    unfold RepK at r
    obtain ⟨v, rest, rfl, r1, r2⟩ := r
    obtain ⟨i1, i2⟩ := dLook_ok k r2
    by_cases e : k' = k
    · subst e
      refine ⟨fun y q => ?_, fun q => ?_⟩
      · simp [dLook] at q
        subst q
        exact ⟨v, by simp [valV], r1⟩
      · simp [dLook] at q
    · have a : dLook ((k', x) :: kvs) k = dLook kvs k := by simp [dLook, List.find?_cons, e]
      have b : valV ((k', v) :: rest) k = valV rest k := by simp [valV, List.find?_cons, e]
      rw [a, b]
      exact ⟨i1, i2⟩
theorem dLook_iff {kvs : List (Key × PV)} {ks : List (Key × V)} (k : Key) (r : RepK G as H kvs ks) : (dLook kvs k).isSome = (valV ks k).isSome := by
  obtain ⟨a, b⟩ := dLook_ok k r
  cases e : dLook kvs k with
  | none => rw [b e]; rfl
  | some x => obtain ⟨v, e1, _⟩ := a x e; rw [e1]; rfl
theorem RepK.length : ∀ {kvs : List (Key × PV)} {ks : List (Key × V)}, RepK G as H kvs ks → kvs.length = ks.length
  | [], ks, r => by unfold RepK at r; subst r; rfl
  | (k', x) :: kvs, ks, r => by
    unfold RepK at r
    obtain ⟨v, rest, rfl, r1, r2⟩ := r
    simp [RepK.length r2]
theorem RepK.append : ∀ {kvs : List (Key × PV)} {ks : List (Key × V)} {k : Key} {x : PV} {v : V}, RepK G as H kvs ks → RepV G as H x v → RepK G as H (kvs ++ [(k, x)]) (ks ++ [(k, v)])
  | [], ks, k, x, v, r, q => by unfold RepK at r; subst r; unfold RepK; exact ⟨v, [], rfl, q, by unfold RepK; rfl⟩
  | (k', y) :: kvs, ks, k, x, v, r, q => by
    unfold RepK at r
    obtain ⟨w, rest, rfl, r1, r2⟩ := r
    show RepK G as H ((k', y) :: (kvs ++ [(k, x)])) ((k', w) :: (rest ++ [(k, v)]))
    unfold RepK
    exact ⟨w, _, rfl, r1, RepK.append r2 q⟩
theorem RepK.mapP : ∀ {kvs : List (Key × PV)} {ks : List (Key × V)} {k : Key} {x : PV} {v : V}, RepK G as H kvs ks → RepV G as H x v →
    RepK G as H (kvs.map fun kv => if kv.1 = k then (kv.1, x) else kv) (ks.map fun kv => if kv.1 = k then (kv.1, v) else kv)
  | [], ks, k, x, v, r, q => by unfold RepK at r; subst r; unfold RepK; rfl
  | (k', y) :: kvs, ks, k, x, v, r, q => by
    unfold RepK at r
    obtain ⟨w, rest, rfl, r1, r2⟩ := r
    by_cases e : k' = k
    · simp only [List.map_cons, e, if_true]
      unfold RepK
      exact ⟨v, _, rfl, q, RepK.mapP r2 q⟩
    · simp only [List.map_cons, e, if_false]
      unfold RepK
      exact ⟨w, _, rfl, r1, RepK.mapP r2 q⟩
theorem dPut_ok {kvs : List (Key × PV)} {ks : List (Key × V)} {k : Key} {x : PV} {v : V} (r : RepK G as H kvs ks) (q : RepV G as H x v) : RepK G as H (dPut kvs k x) (putK ks k v) := by
  have e : (kvs.any fun kv => decide (kv.1 = k)) = (ks.any fun kv => decide (kv.1 = k)) := by
    clear q
    induction kvs generalizing ks with
    | nil => unfold RepK at r; subst r; rfl
    | cons p kvs ih =>
      obtain ⟨k', y⟩ := p
      unfold RepK at r
      obtain ⟨w, rest, rfl, r1, r2⟩ := r
      simp only [List.any_cons, ih r2]
  unfold dPut putK
  rw [e]
  split
  · exact r.mapP q
  · exact r.append q
theorem dDrop_ok : ∀ {kvs : List (Key × PV)} {ks : List (Key × V)} {k : Key}, RepK G as H kvs ks → RepK G as H (dDrop kvs k) (dropK ks k)
  | [], ks, k, r => by unfold RepK at r; subst r; unfold dDrop dropK RepK; rfl
  | (k', y) :: kvs, ks, k, r => by
    unfold RepK at r
    obtain ⟨w, rest, rfl, r1, r2⟩ := r
    have ih := dDrop_ok (k := k) r2
    unfold dDrop dropK at ih ⊢
    by_cases e : k' = k
    · simp only [List.filter_cons, e, ne_eq, not_true_eq_false, decide_false]
      simpa using ih
    · simp only [List.filter_cons, e, ne_eq, not_false_eq_true, decide_true, if_true]
      unfold RepK
      exact ⟨w, _, rfl, r1, ih⟩
theorem SR.dic (S : SR G as H h) {l : Nat} {a : Addr} {kvs : List (Key × PV)} (e : h[l]? = some (.dic kvs)) (ea : as[l]? = some a) : ∃ ks, H a = some (.dK ks) ∧ RepK G as H kvs ks := S.obj e ea
theorem SR.setD (S : SR G as H h) {l : Nat} {a : Addr} {ks ws : List (Key × V)} {ys : List (Key × PV)} (ea : as[l]? = some a) (e : H a = some (.dK ks)) (r : RepK G as H ys ws) : Fut G as H as (upd H a (.dK ws)) (h.set l (.dic ys)) := by
  have k : Kp H (upd H a (.dK ws)) := Kp.mut e (fun _ z => by cases z) (fun _ _ z => by cases z)
  exact S.set ea k ⟨ws, upd_same, r.mono (List.prefix_refl _) k⟩
theorem pIn_ok (hk : X.K = G.K) (hu : X.A.units + 70 < cLine) {va vb : PV} {x y : V} {b : Bool} {Q : V → Hp → Prop} {pins : List (Addr × Obj)} {s : Shared} {σ : L2.St} {v u : Value} (S : SR G as H h) (I : Inv X pins σ H s) (rx : RelV x v) (ry : RelV y u) (ra : RepV G as H va x) (rb : RepV G as H vb y) (e : pIn h va vb = some b) :
    (Q (.bl b) H → wpAny (model X.prog X.w) X.A (compareOp .In v u) (EP X pins σ Q) X.xe s) ∧ (Q (.bl (!b)) H → wpAny (model X.prog X.w) X.A (compareOp .NotIn v u) (EP X pins σ Q) X.xe s) := by
  unfold pIn at e
  split at e
  · split at e
    · rename_i d ds q1 q2
      cases e
      obtain ⟨a1, a2⟩ := datum_ok S q1 ra
      obtain ⟨b1, b2⟩ := datum_ok S q2 rb
      exact ⟨fun q => op_inT (by omega) pins s σ H x y v u Q I rx ry ⟨d, ds, by rw [hk]; exact a1, by rw [hk]; exact b1, a2, b2, q⟩,
        fun q => op_notInT (by omega) pins s σ H x y v u Q I rx ry ⟨d, ds, by rw [hk]; exact a1, by rw [hk]; exact b1, a2, b2, q⟩⟩
    · cases e
  · split at e
    · split at e
      · rename_i d ds q1 q2
        cases e
        obtain ⟨a1, a2⟩ := datum_ok S q1 ra
        obtain ⟨b1, b2⟩ := datum_ok S q2 rb
        exact ⟨fun q => op_inD (by omega) pins s σ H x y v u Q I rx ry ⟨d, ds, by rw [hk]; exact a1, by rw [hk]; exact b1, a2, b2, q⟩,
          fun q => op_notInD (by omega) pins s σ H x y v u Q I rx ry ⟨d, ds, by rw [hk]; exact a1, by rw [hk]; exact b1, a2, b2, q⟩⟩
      · cases e
    · rename_i l kvs ql
      obtain ⟨a, ea, rfl⟩ := rb.refE
      obtain ⟨ks, ed, rk⟩ := S.dic ql ea
      obtain rfl : u = Value.ref a := ry
      split at e
      · rename_i i
        cases e
        rw [ra.intE] at rx
        refine ⟨fun q => d_in (by omega) I (DGet.k (k := Sum.inl i) ed) rx fun s' I' => ⟨.bl _, H, I', rfl, by rw [← dLook_iff _ rk]; exact q⟩,
          fun q => d_notIn (by omega) I (DGet.k (k := Sum.inl i) ed) rx fun s' I' => ⟨.bl _, H, I', rfl, by rw [← dLook_iff _ rk]; exact q⟩⟩
      · rename_i z
        cases e
        rw [ra.strE] at rx
        refine ⟨fun q => d_in (by omega) I (DGet.k (k := Sum.inr ⟨z.toArray⟩) ed) rx fun s' I' => ⟨.bl _, H, I', rfl, by rw [← dLook_iff _ rk]; exact q⟩,
          fun q => d_notIn (by omega) I (DGet.k (k := Sum.inr ⟨z.toArray⟩) ed) rx fun s' I' => ⟨.bl _, H, I', rfl, by rw [← dLook_iff _ rk]; exact q⟩⟩
      · cases e
    · cases e
  · split at e
    · rename_i y c
      cases e
      rw [ra.strE] at rx; rw [rb.strE] at ry
      refine ⟨fun q => op_in_sign pins s σ H _ _ v u Q I rx ry ⟨c, _, by simp, rfl, by rw [flat_in]; exact q⟩,
        fun q => op_notIn_sign pins s σ H _ _ v u Q I rx ry ⟨c, _, by simp, rfl, by rw [flat_in]; exact q⟩⟩
    · cases e
  · cases e
theorem repNon {v : PV} {x : V} (r : RepV G as H v x) : decide (x = .non) = isNon v := by
  unfold isNon
  cases v with
  | non => rw [r.nonE]; simp
  | bl b => rw [r.blE]; simp
  | int b => rw [r.intE]; simp
  | str b => rw [r.strE]; simp
  | tup xs => obtain ⟨a, vs, rfl, _⟩ := r.tupE; simp
  | ref l => obtain ⟨a, _, rfl⟩ := r.refE; simp
  | frk l => obtain ⟨a, _, rfl, _⟩ := r.frkE; simp
  | fn i => unfold RepV at r; subst r; simp
  | cls i => unfold RepV at r; subst r; simp
  | ty i => unfold RepV at r; subst r; simp
theorem dLt_ok (hk : X.K = G.K) (S : SR G as H h) (hu : X.A.units + 70 < cLine) {vs ws : List PV} {x y : V} {b : Bool} (e : dLt h (.tup vs) (.tup ws) = some b) (r1 : RepV G as H (.tup vs) x) (r2 : RepV G as H (.tup ws) y) {pins : List (Addr × Obj)} {s : Shared} {σ : L2.St} {v u : Value} (I : Inv X pins σ H s) (rx : RelV x v) (ry : RelV y u) :
    ∃ d d' as bs, b = PySem.W.dataLt d d' ∧ Reads s.heap v d as ∧ Reads s.heap u d' bs ∧ PySem.W.alike d d' = true ∧ PySem.W.alike d' d = true ∧ d ≠ .none ∧ d' ≠ .none ∧ X.A.units + min d.depth d'.depth < cLine ∧ X.A.units + min d'.depth d.depth < cLine := by
  unfold dLt at e
  split at e
  · rename_i d d' q1 q2
    split at e
    · rename_i ha
      cases e
      obtain ⟨p1, s1⟩ := datum_ok S q1 r1
      obtain ⟨p2, s2⟩ := datum_ok S q2 r2
      rw [← hk] at p1 p2
      obtain ⟨as, g1⟩ := Dp.reads I d x v p1 rx
      obtain ⟨bs, g2⟩ := Dp.reads I d' y u p2 ry
      have dn : ∀ {zs : List PV} {z : PyData}, datum h (.tup zs) = some z → z ≠ .none := fun {zs z} q e => by
        subst e
        unfold datum at q
        simp only [toD] at q
        split at q
        · rename_i w hw
          split at q
          · cases q
            obtain ⟨_, _, q2⟩ := Option.map_eq_some_iff.mp hw
            cases q2
          · cases q
        · cases q
      have dd : d.depth ≤ 64 := by
        unfold SeqAt.shaped at s1
        simp only [Bool.and_eq_true, decide_eq_true_eq] at s1
        exact s1.2
      have dd' : d'.depth ≤ 64 := by
        unfold SeqAt.shaped at s2
        simp only [Bool.and_eq_true, decide_eq_true_eq] at s2
        exact s2.2
      exact ⟨d, d', as, bs, rfl, g1, g2, ha, by rw [PySem.W.alike_comm]; exact ha, dn q1, dn q2, by omega, by omega⟩
    · cases e
  · cases e
theorem op_cmp (hk : X.K = G.K) (hu : X.A.units + 70 < cLine) (op : Cop) : OpR X (compareOp op.py) (rP2 G E (pCmp op)) := by
  intro pins s σ H x y v u Q I rx ry ⟨as, h, va, vb, S, ra, rb, o⟩
  unfold pCmp at o
  cases op with
  | eq =>
    obtain ⟨b, e, q⟩ := ob_ok o S
    obtain ⟨d, d', h1, h2, h3, h4, rfl⟩ := pEq_ok S e ra rb
    exact op_eqD (by omega) pins s σ H x y v u Q I rx ry ⟨d, d', by rw [hk]; exact h1, by rw [hk]; exact h2, h3, h4, q⟩
  | ne =>
    obtain ⟨b, e, q⟩ := ob_ok o S
    obtain ⟨c, e1, rfl⟩ := Option.map_eq_some_iff.mp e
    obtain ⟨d, d', h1, h2, h3, h4, rfl⟩ := pEq_ok S e1 ra rb
    exact op_neD (by omega) pins s σ H x y v u Q I rx ry ⟨d, d', by rw [hk]; exact h1, by rw [hk]; exact h2, h3, h4, q⟩
  | in_ =>
    obtain ⟨b, e, q⟩ := ob_ok o S
    exact (pIn_ok hk hu S I rx ry ra rb e).1 q
  | nin =>
    obtain ⟨b, e, q⟩ := ob_ok o S
    obtain ⟨c, e1, rfl⟩ := Option.map_eq_some_iff.mp e
    exact (pIn_ok hk hu S I rx ry ra rb e1).2 q
  | is_ =>
    dsimp only at o
    split at o
    · rw [rb.nonE] at ry
      exact op_isN pins s σ H x _ v u Q I rx ry ⟨rfl, by rw [repNon ra]; exact okv S o (.bl _)⟩
    · exact False.elim o
  | isn =>
    dsimp only at o
    split at o
    · rw [rb.nonE] at ry
      refine op_notN pins s σ H x _ v u Q I rx ry ⟨rfl, by rw [repNon ra]; exact okv S o (.bl _)⟩
    · exact False.elim o
  | lt =>
    dsimp only at o
    split at o
    · rw [ra.intE] at rx; rw [rb.intE] at ry
      exact op_lt pins s σ H _ _ v u Q I rx ry ⟨_, _, rfl, rfl, okv S o (.bl _)⟩
    · rw [ra.strE] at rx; rw [rb.strE] at ry
      exact op_lt_str pins s σ H _ _ v u Q I rx ry ⟨_, _, rfl, rfl, okv S o (.bl _)⟩
    · obtain ⟨b, e, q⟩ := ob_ok o S
      obtain ⟨d, d', as, bs, rfl, g1, g2, h1, h2, n1, n2, u1, u2⟩ := dLt_ok hk S hu e ra rb I rx ry
      exact PySem.W.lt_data g1 g2 h1 n1 u1 ⟨.bl _, H, I, rfl, q⟩
    · exact False.elim o
  | le =>
    dsimp only at o
    split at o
    · rw [ra.intE] at rx; rw [rb.intE] at ry
      exact op_le pins s σ H _ _ v u Q I rx ry ⟨_, _, rfl, rfl, okv S o (.bl _)⟩
    · rw [ra.strE] at rx; rw [rb.strE] at ry
      exact op_le_str pins s σ H _ _ v u Q I rx ry ⟨_, _, rfl, rfl, okv S o (.bl _)⟩
    · obtain ⟨b, e0, q⟩ := ob_ok o S
      obtain ⟨b1, e, rfl⟩ := Option.map_eq_some_iff.mp e0
      obtain ⟨d, d', as, bs, rfl, g1, g2, h1, h2, n1, n2, u1, u2⟩ := dLt_ok hk S hu e rb ra I ry rx
      exact PySem.W.le_data g2 g1 h2 n2 u2 ⟨.bl _, H, I, rfl, q⟩
    · exact False.elim o
  | gt =>
    dsimp only at o
    split at o
    · rw [ra.intE] at rx; rw [rb.intE] at ry
      exact op_gt pins s σ H _ _ v u Q I rx ry ⟨_, _, rfl, rfl, okv S o (.bl _)⟩
    · rw [ra.strE] at rx; rw [rb.strE] at ry
      exact op_gt_str pins s σ H _ _ v u Q I rx ry ⟨_, _, rfl, rfl, okv S o (.bl _)⟩
    · obtain ⟨b, e, q⟩ := ob_ok o S
      obtain ⟨d, d', as, bs, rfl, g1, g2, h1, h2, n1, n2, u1, u2⟩ := dLt_ok hk S hu e rb ra I ry rx
      exact PySem.W.gt_data g2 g1 h2 n2 u2 ⟨.bl _, H, I, rfl, q⟩
    · exact False.elim o
  | ge =>
    dsimp only at o
    split at o
    · rw [ra.intE] at rx; rw [rb.intE] at ry
      exact op_ge pins s σ H _ _ v u Q I rx ry ⟨_, _, rfl, rfl, okv S o (.bl _)⟩
    · rw [ra.strE] at rx; rw [rb.strE] at ry
      exact op_ge_str pins s σ H _ _ v u Q I rx ry ⟨_, _, rfl, rfl, okv S o (.bl _)⟩
    · obtain ⟨b, e0, q⟩ := ob_ok o S
      obtain ⟨b1, e, rfl⟩ := Option.map_eq_some_iff.mp e0
      obtain ⟨d, d', as, bs, rfl, g1, g2, h1, h2, n1, n2, u1, u2⟩ := dLt_ok hk S hu e ra rb I rx ry
      exact PySem.W.ge_data g1 g2 h1 n1 u1 ⟨.bl _, H, I, rfl, q⟩
    · exact False.elim o
end
end Mn
set_option Elab.async false
set_option linter.all false
set_option maxRecDepth 100000
set_option maxHeartbeats 4000000
namespace Mn
open PySem PySem.Spec L2 PyProof.Rows
structure COk (G : Gm) (T : Tb) : Prop where
  cc : ∀ (c d : Nat) (ci : Ci), T.cls[c]? = some ci → d < T.cls.length → PySem.W.kitOne G.K (.ref (G.ca c)) (.ref (G.ca d)) = some (ci.sups.contains d)
  ct : ∀ (c : Nat) (n : String), c < T.cls.length → n ∈ tyNames → PySem.W.kitOne G.K (.ref (G.ca c)) (.type n) = some false
  tc : ∀ (c : Nat) (n : String), c < T.cls.length → n ∈ tyNames → PySem.W.kitOne G.K (.type n) (.ref (G.ca c)) = some false
  cl : ∀ c, c < T.cls.length → Cls G.K (G.ca c)
  ha : ∀ c, c < T.cls.length → PySem.W.findIn G.K (.ref (G.ca c)) "__class__" = some (some (.builtin "object.__class__"))
  hm : ∀ c, c < T.cls.length → PySem.W.mroIn G.K (G.ca c) (.type "object") = some true
  hn : T.cls ≠ [] → PySem.W.specialIn G.K (.builtin "object.__class__") "__get__" = some (some (.builtin "getset_descriptor.__get__"))
  htk : T.cls ≠ [] → PySem.W.takesIn G.K (.builtin "object.__class__") = some true
  nd : G.an.Nodup
  at_ : ∀ (c f : Nat) (n : Str), attK T c f = some none → G.an[f]? = some n → NoAttr G.K (G.ca c) n
  me : ∀ (c : Nat) (ci : Ci) (m f : Nat) (n : Str), T.cls[c]? = some ci → ci.meths.lookup m = some f → G.an[m]? = some n → Meth G.K (G.ca c) n (G.fa f)
  mkr : ∀ (c : Nat) (ci : Ci) (f : Nat), T.cls[c]? = some ci → ci.init = some f → Mk G.K (G.ca c) (G.fa f)
  pr : ∀ (c : Nat) (ci : Ci) (m f : Nat) (n : Str), T.cls[c]? = some ci → ci.meths.lookup m = none → ci.props.lookup m = some f → G.an[m]? = some n → ∃ p, PropOf G.K (G.ca c) n p (G.fa f)
def Bi.py : Bi → Value
  | .len => .builtin "len" | .abs => .builtin "abs" | .max => .builtin "max" | .min => .builtin "min" | .int => .type "int" | .str => .type "str" | .bool => .type "bool" | .list => .type "list" | .tuple => .type "tuple"
  | .sorted => .builtin "sorted" | .sum => .builtin "sum" | .any => .builtin "any" | .all => .builtin "all" | .ord => .builtin "ord" | .isinst => .builtin "isinstance" | .repr => .builtin "repr" | .dict => .type "dict"
section
variable {G : Gm} {T : Tb} {E : XK} {X : Cx} {as : List Addr} {H : Hp} {h : PH}
abbrev rPn (G : Gm) (E : XK) (pr : List PV → PH → Res PV) : List V → Hp → VK → Prop := fun xs H Q => ∃ as h vs, SR G as H h ∧ RepVs G as H vs xs ∧ OkV G E as H Q (pr vs h)
theorem RepVs.one {x : PV} {xs : List V} (r : RepVs G as H [x] xs) : ∃ v, xs = [v] ∧ RepV G as H x v := by
  unfold RepVs at r
  obtain ⟨v, rest, rfl, r1, r2⟩ := r
  unfold RepVs at r2
  subst r2
  exact ⟨v, rfl, r1⟩
theorem RepVs.two {x y : PV} {xs : List V} (r : RepVs G as H [x, y] xs) : ∃ v w, xs = [v, w] ∧ RepV G as H x v ∧ RepV G as H y w := by
  unfold RepVs at r
  obtain ⟨v, rest, rfl, r1, r2⟩ := r
  obtain ⟨w, rfl, r3⟩ := r2.one
  exact ⟨v, w, rfl, r1, r3⟩
theorem RepVs.zero {xs : List V} (r : RepVs G as H [] xs) : xs = [] := by unfold RepVs at r; exact r
theorem intsOf_ok : ∀ {vs : List PV} {xs : List V} {is : List Int}, intsOf vs = some is → RepVs G as H vs xs → xs = is.map V.int
  | [], xs, is, e, r => by simp only [intsOf] at e; cases e; rw [r.zero]; rfl
  | .int i :: vs, xs, is, e, r => by
    simp only [intsOf] at e
    obtain ⟨js, e1, rfl⟩ := Option.map_eq_some_iff.mp e
    unfold RepVs at r
    obtain ⟨v, rest, rfl, r1, r2⟩ := r
    rw [r1.intE, intsOf_ok e1 r2]
    rfl
  | .non :: _, _, _, e, _ => by simp [intsOf] at e
  | .bl _ :: _, _, _, e, _ => by simp [intsOf] at e
  | .str _ :: _, _, _, e, _ => by simp [intsOf] at e
  | .tup _ :: _, _, _, e, _ => by simp [intsOf] at e
  | .ref _ :: _, _, _, e, _ => by simp [intsOf] at e
  | .fn _ :: _, _, _, e, _ => by simp [intsOf] at e
  | .cls _ :: _, _, _, e, _ => by simp [intsOf] at e
  | .ty _ :: _, _, _, e, _ => by simp [intsOf] at e
theorem blsOf_ok : ∀ {vs : List PV} {xs : List V} {is : List Bool}, blsOf vs = some is → RepVs G as H vs xs → xs = is.map V.bl
  | [], xs, is, e, r => by simp only [blsOf] at e; cases e; rw [r.zero]; rfl
  | v :: vs, xs, is, e, r => by
    cases v with
    | bl i =>
      simp only [blsOf] at e
      obtain ⟨js, e1, rfl⟩ := Option.map_eq_some_iff.mp e
      unfold RepVs at r
      obtain ⟨v, rest, rfl, r1, r2⟩ := r
      rw [r1.blE, blsOf_ok e1 r2]
      rfl
    | _ => simp [blsOf] at e
theorem strsOf_ok : ∀ {vs : List PV} {xs : List V} {is : List (List Nat)}, strsOf vs = some is → RepVs G as H vs xs → xs = (is.map fun y => (⟨y.toArray⟩ : Str)).map V.str
  | [], xs, is, e, r => by simp only [strsOf] at e; cases e; rw [r.zero]; rfl
  | .str i :: vs, xs, is, e, r => by
    simp only [strsOf] at e
    obtain ⟨js, e1, rfl⟩ := Option.map_eq_some_iff.mp e
    unfold RepVs at r
    obtain ⟨v, rest, rfl, r1, r2⟩ := r
    rw [r1.strE, strsOf_ok e1 r2]
    rfl
  | .non :: _, _, _, e, _ => by simp [strsOf] at e
  | .bl _ :: _, _, _, e, _ => by simp [strsOf] at e
  | .int _ :: _, _, _, e, _ => by simp [strsOf] at e
  | .tup _ :: _, _, _, e, _ => by simp [strsOf] at e
  | .ref _ :: _, _, _, e, _ => by simp [strsOf] at e
  | .fn _ :: _, _, _, e, _ => by simp [strsOf] at e
  | .cls _ :: _, _, _, e, _ => by simp [strsOf] at e
  | .ty _ :: _, _, _, e, _ => by simp [strsOf] at e
theorem tyB_kit {K : PySem.W.Frag} {a b : String} {r : Bool} (e : tyB a b = some r) : PySem.W.kitOne K (.type a) (.type b) = some r := by
  unfold tyB at e
  split at e
  · rename_i hh
    cases e
    simp only [Bool.and_eq_true, List.contains_iff_mem] at hh
    obtain ⟨h1, h2⟩ := hh
    simp only [tyNames, List.mem_cons, List.not_mem_nil, or_false] at h1 h2
    rcases h1 with rfl | rfl | rfl | rfl | rfl | rfl | rfl <;> rcases h2 with rfl | rfl | rfl | rfl | rfl | rfl | rfl <;> exact kit_ty (by decide +kernel)
  · cases e
def clV (G : Gm) : PV → Value
  | .ty n => .type n
  | .cls c => .ref (G.ca c)
  | _ => .none
theorem subC_kit (C : COk G T) {t c : PV} {b : Bool} (e : subC T t c = some b) : PySem.W.kitOne G.K (clV G t) (clV G c) = some b := by
  unfold subC at e
  split at e
  · exact tyB_kit e
  · obtain ⟨ci, e1, e2⟩ := Option.bind_eq_some_iff.mp e
    split at e2
    · cases e2
      exact C.cc _ _ ci e1 (by assumption)
    · cases e2
  · split at e
    · rename_i hh
      cases e
      simp only [Bool.and_eq_true, decide_eq_true_eq, List.contains_iff_mem] at hh
      exact C.ct _ _ hh.1 hh.2
    · cases e
  · split at e
    · rename_i hh
      cases e
      simp only [Bool.and_eq_true, decide_eq_true_eq, List.contains_iff_mem] at hh
      exact C.tc _ _ hh.1 hh.2
    · cases e
  · cases e
theorem subC_lt {c : Nat} {d : PV} {b : Bool} (e : subC T (.cls c) d = some b) : c < T.cls.length := by
  cases d with
  | ty n =>
    simp only [subC] at e
    split at e
    · rename_i hh
      simp only [Bool.and_eq_true, decide_eq_true_eq] at hh
      exact hh.1
    · cases e
  | cls d =>
    simp only [subC] at e
    obtain ⟨ci, e2, _⟩ := Option.bind_eq_some_iff.mp e
    exact (List.getElem?_eq_some_iff.mp e2).1
  | _ => simp [subC] at e
theorem tyOf_ok (hk : X.K = G.K) (C : COk G T) (S : SR G as H h) {v t c : PV} {x : V} {b : Bool} (e : tyOf h v = some t) (eb : subC T t c = some b) (r : RepV G as H v x) : TyX X.K H x (clV G t) := by
  unfold tyOf at e
  split at e
  · cases e; rw [r.nonE]; exact .base .non
  · cases e; rw [r.blE]; exact .base (.bl _)
  · cases e; rw [r.intE]; exact .base (.int _)
  · cases e; rw [r.strE]; exact .base (.str _)
  · cases e
    obtain ⟨a, vs, rfl, s, rv⟩ := r.tupE
    rw [hk]
    rcases s with s | s
    · rcases s with s | ⟨o, s⟩
      · exact .base (.tup s)
      · exact .fTuple s
    · obtain ⟨o, its, n, e1, e2, _⟩ := s
      exact .kTuple e1 e2
  · obtain ⟨a, ea, rfl⟩ := r.refE
    split at e
    · rename_i q
      cases e
      obtain ⟨vs, e1, _⟩ := S.obj q ea
      exact .base (.lst e1)
    · rename_i q
      cases e
      obtain ⟨o, vs, e1, _⟩ := S.obj q ea
      exact .base (.frz e1)
    · rename_i q
      cases e
      obtain ⟨vs, e1, _⟩ := S.obj q ea
      exact .base (.dK e1)
    · rename_i cc fs q
      cases e
      obtain ⟨dx, gs, e1, _⟩ := S.obj q ea
      have hc : cc < T.cls.length := subC_lt eb
      rw [hk]
      exact .base (.ins e1 (C.cl _ hc) (C.ha _ hc) (C.hn fun z => by rw [z] at hc; simp at hc) (C.htk fun z => by rw [z] at hc; simp at hc) (C.hm _ hc))
    · cases e
  · cases e
theorem clV_ok {c : PV} {t : PV} {b : Bool} {x : V} (e : subC T t c = some b) (r : RepV G as H c x) : ClsV x (clV G c) := by
  cases c with
  | ty n => rw [r.tyE]; exact .ty n
  | cls d => unfold RepV at r; subst r; exact .own _
  | _ => simp [subC] at e
theorem clVs_ok : ∀ {ts : List PV} {ws : List V} {its : List Value}, ts.all isCl = true → RepVs G as H ts ws → Vals ws its → its = ts.map (clV G)
  | [], ws, its, _, r, rv => by
    rw [r.zero] at rv
    cases rv
    rfl
  | t :: ts, ws, its, h, r, rv => by
    simp only [List.all_cons, Bool.and_eq_true] at h
    unfold RepVs at r
    obtain ⟨v, rest, rfl, r1, r2⟩ := r
    cases rv with
    | cons a b =>
      rename_i u us
      have e : u = clV G t := by
        cases t with
        | ty n => rw [r1.tyE] at a; exact a
        | cls c => unfold RepV at r1; subst r1; exact a
        | _ => simp [isCl] at h
      rw [e, clVs_ok h.2 r2 b]
      rfl
theorem isTys_ty {v t : PV} {ts : List PV} {b : Bool} (e : isTys T h v (t :: ts) = some b) : ∃ tt, tyOf h v = some tt := by
  unfold isTys isTy at e
  cases q : tyOf h v with
  | none => rw [q] at e; simp at e
  | some tt => exact ⟨tt, rfl⟩
theorem isTys_sub {v t tt : PV} {ts : List PV} {b : Bool} (q : tyOf h v = some tt) (e : isTys T h v (t :: ts) = some b) : ∃ b0, subC T tt t = some b0 := by
  unfold isTys isTy at e
  rw [q] at e
  simp only [Option.bind_some] at e
  cases q2 : subC T tt t with
  | none => rw [q2] at e; simp at e
  | some b0 => exact ⟨b0, rfl⟩
theorem isTys_kit (C : COk G T) {v tt : PV} (q : tyOf h v = some tt) : ∀ {ts : List PV} {b : Bool}, isTys T h v ts = some b → PySem.W.kitAny G.K (clV G tt) (ts.map (clV G)) = some b
  | [], b, e => by
    simp only [isTys] at e
    cases e
    rfl
  | t :: ts, b, e => by
    unfold isTys isTy at e
    rw [q] at e
    simp only [Option.bind_some] at e
    cases q2 : subC T tt t with
    | none => rw [q2] at e; simp at e
    | some b0 =>
      rw [q2] at e
      have k := subC_kit C q2
      refine kitAny_cons k (fun hb => ?_) (fun hb => ?_)
      · subst hb
        exact isTys_kit C q e
      · subst hb
        simpa using e.symm
theorem vals_get : ∀ {xs : List V} {us : List Value}, xs.length = us.length → (∀ (j : Nat) (w : Value), us[j]? = some w → ∃ v, xs[j]? = some v ∧ RelV v w) → Vals xs us
  | [], [], _, _ => .nil
  | x :: xs, u :: us, hl, h => by
    obtain ⟨v, e, r⟩ := h 0 u rfl
    cases e
    exact .cons r (vals_get (by simpa using hl) fun j w hw => by simpa using h (j + 1) w (by simpa using hw))
  | [], _ :: _, hl, _ => by simp at hl
  | _ :: _, [], hl, _ => by simp at hl
theorem repVs_signs : ∀ x : List Nat, RepVs G as H (x.map fun c => PV.str [c]) (x.map fun c => V.str ⟨#[c]⟩)
  | [] => .nil
  | c :: x => .cons (.str [c]) (repVs_signs x)
theorem lmin_mem : ∀ (i : Int) (is : List Int), lmin i is ∈ i :: is
  | i, [] => by simp [lmin]
  | i, x :: r => by
    unfold lmin
    have := lmin_mem (if x < i then x else i) r
    split at this
    · rename_i h; rw [if_pos h]; exact List.mem_cons_of_mem _ this
    · rename_i h
      rw [if_neg h]
      rcases List.mem_cons.mp this with q | q
      · rw [q]; exact List.mem_cons_self
      · exact List.mem_cons_of_mem _ (List.mem_cons_of_mem _ q)
theorem lmin_le : ∀ (i : Int) (is : List Int) (y : Int), y ∈ i :: is → lmin i is ≤ y
  | i, [], y, h => by rw [List.mem_singleton.mp h]; exact Int.le_refl _
  | i, x :: r, y, h => by
    unfold lmin
    have hy : y = i ∨ y = x ∨ y ∈ r := by
      rcases List.mem_cons.mp h with q | q
      · exact .inl q
      · exact .inr (List.mem_cons.mp q)
    by_cases hh : x < i
    · rw [if_pos hh]
      have k := lmin_le x r
      have k0 := k x List.mem_cons_self
      rcases hy with q | q | q
      · omega
      · omega
      · exact k y (List.mem_cons_of_mem _ q)
    · rw [if_neg hh]
      have k := lmin_le i r
      have k0 := k i List.mem_cons_self
      rcases hy with q | q | q
      · omega
      · omega
      · exact k y (List.mem_cons_of_mem _ q)
theorem lmax_mem : ∀ (i : Int) (is : List Int), lmax i is ∈ i :: is
  | i, [] => by simp [lmax]
  | i, x :: r => by
    unfold lmax
    have := lmax_mem (if x > i then x else i) r
    split at this
    · rename_i h; rw [if_pos h]; exact List.mem_cons_of_mem _ this
    · rename_i h
      rw [if_neg h]
      rcases List.mem_cons.mp this with q | q
      · rw [q]; exact List.mem_cons_self
      · exact List.mem_cons_of_mem _ (List.mem_cons_of_mem _ q)
theorem lmax_le : ∀ (i : Int) (is : List Int) (y : Int), y ∈ i :: is → y ≤ lmax i is
  | i, [], y, h => by rw [List.mem_singleton.mp h]; exact Int.le_refl _
  | i, x :: r, y, h => by
    unfold lmax
    have hy : y = i ∨ y = x ∨ y ∈ r := by
      rcases List.mem_cons.mp h with q | q
      · exact .inl q
      · exact .inr (List.mem_cons.mp q)
    by_cases hh : x > i
    · rw [if_pos hh]
      have k := lmax_le x r
      have k0 := k x List.mem_cons_self
      rcases hy with q | q | q
      · omega
      · omega
      · exact k y (List.mem_cons_of_mem _ q)
    · rw [if_neg hh]
      have k := lmax_le i r
      have k0 := k i List.mem_cons_self
      rcases hy with q | q | q
      · omega
      · omega
      · exact k y (List.mem_cons_of_mem _ q)
theorem call_bi (hk : X.K = G.K) (hc : X.calm = true) (C : COk G T) (f : Bi) : CallR X f.py (rPn G E (pBi T f)) := by
  intro pins s σ H xs us Q I rx ⟨as, h, vs, S, r, o⟩
  unfold pBi at o
  split at o
  · -- len of a text
    split at o
    · rename_i hl
      obtain ⟨v, rfl, r1⟩ := r.one
      rw [r1.strE] at rx
      refine call_len pins s σ H _ us Q I rx ⟨_, _, rfl, ⟨by rw [str_len]; exact hl, rfl⟩, ?_⟩
      rw [str_len]
      exact okv S o (.int _)
    · exact False.elim o
  · -- len of a tuple
    obtain ⟨v, rfl, r1⟩ := r.one
    obtain ⟨a, ws, rfl, sa, r2⟩ := r1.tupE
    refine call_len pins s σ H _ us Q I rx ⟨_, _, rfl, .inr ⟨ws, by rw [hk]; exact sa, rfl⟩, ?_⟩
    rw [← r2.length]
    exact okv S o (.int _)
  · -- len of what stands at a place
    obtain ⟨v, rfl, r1⟩ := r.one
    obtain ⟨a, ea, rfl⟩ := r1.refE
    split at o
    · rename_i q
      obtain ⟨ws, sl, r2⟩ := S.lst (lstAt_of q) ea
      refine call_len pins s σ H _ us Q I rx ⟨_, _, rfl, .inl ⟨ws, by rw [hk]; exact sl, rfl⟩, ?_⟩
      rw [← r2.length]
      exact okv S o (.int _)
    · rename_i q
      obtain ⟨ws, sl, r2⟩ := S.lst (lstAt_frz q) ea
      refine call_len pins s σ H _ us Q I rx ⟨_, _, rfl, .inl ⟨ws, by rw [hk]; exact sl, rfl⟩, ?_⟩
      rw [← r2.length]
      exact okv S o (.int _)
    · rename_i q
      obtain ⟨ks, ed, rk⟩ := S.dic q ea
      obtain ⟨u, rfl, ru⟩ := vals1 rx
      obtain rfl : u = Value.ref a := ru
      refine d_len I (.of ed) fun t s' I' => ⟨.int _, H, I', ⟨t, rfl⟩, ?_⟩
      rw [← rk.length]
      exact okv S o (.int _)
    · exact False.elim o
  · obtain ⟨v, rfl, r1⟩ := r.one
    obtain ⟨a, ws, rfl, sf, r2⟩ := r1.frkE
    refine call_len pins s σ H _ us Q I rx ⟨_, _, rfl, .inl ⟨ws, by rw [hk]; exact sf.sq, rfl⟩, ?_⟩
    rw [← r2.length]
    exact okv S o (.int _)
  · obtain ⟨v, rfl, r1⟩ := r.one
    rw [r1.intE] at rx
    exact call_abs pins s σ H _ us Q I rx ⟨_, rfl, okv S o (.int _)⟩
  · obtain ⟨v, w, rfl, r1, r2⟩ := r.two
    rw [r1.intE, r2.intE] at rx
    exact call_max2 hc pins s σ H _ us Q I rx ⟨_, _, rfl, okv S o (.int _)⟩
  · obtain ⟨v, w, rfl, r1, r2⟩ := r.two
    rw [r1.intE, r2.intE] at rx
    exact call_min2 hc pins s σ H _ us Q I rx ⟨_, _, rfl, okv S o (.int _)⟩
  · obtain ⟨v, rfl, r1⟩ := r.one
    rw [r1.intE] at rx
    exact call_int1 pins s σ H _ us Q I rx (.inl ⟨_, rfl, okv S o (.int _)⟩)
  · obtain ⟨v, rfl, r1⟩ := r.one
    rw [r1.blE] at rx
    exact call_int1 pins s σ H _ us Q I rx (.inr ⟨_, rfl, okv S o (.int _)⟩)
  · split at o
    · rename_i hl
      obtain ⟨v, rfl, r1⟩ := r.one
      rw [r1.intE] at rx
      exact call_str_int pins s σ H _ us Q I rx ⟨_, rfl, hl, okv S o (.strO _)⟩
    · exact False.elim o
  · obtain ⟨v, rfl, r1⟩ := r.one
    rw [r1.strE] at rx
    exact call_ord pins s σ H _ us Q I rx ⟨_, rfl, by rw [str_len]; rfl, okv S o (.int _)⟩
  · -- list of a tuple
    obtain ⟨v, rfl, r1⟩ := r.one
    obtain ⟨a, ws, rfl, sa, r2⟩ := r1.tupE
    refine call_list_of pins s σ H _ us Q I rx ⟨_, _, rfl, .inr (by rw [hk]; exact sa), fun l hl => ?_⟩
    obtain ⟨f, rr⟩ := S.newL hl r2
    exact okn o f rr
  · obtain ⟨v, rfl, r1⟩ := r.one
    obtain ⟨a, ea, rfl⟩ := r1.refE
    split at o
    · rename_i ys q
      obtain ⟨ws, sl, r2⟩ := S.lst q ea
      refine call_list_of pins s σ H _ us Q I rx ⟨_, _, rfl, .inl (by rw [hk]; exact sl), fun l hl => ?_⟩
      obtain ⟨f, rr⟩ := S.newL hl r2
      exact okn o f rr
    · exact False.elim o
  · -- list of a str
    split at o
    · rename_i x1 hl
      obtain ⟨v, rfl, r1⟩ := r.one
      rw [r1.strE] at rx
      obtain ⟨u, rfl, rx1⟩ := vals1 rx
      obtain ⟨t, rfl⟩ := rx1
      refine PySem.call_list_str (I.ok.hd hc) _ t (hn := by simpa using hl) fun h' tk acc' c' hkeep hS' hacc => ?_
      have rv : Vals (x1.map fun c => V.str ⟨#[c]⟩) acc'.toList := by
        refine vals_get (by have := hacc.1; simp at this ⊢; omega) fun j w hw => ?_
        obtain ⟨c, u, ec, rfl⟩ := hacc.2 j w (by simpa using hw)
        refine ⟨.str ⟨#[c]⟩, ?_, ⟨u, rfl⟩⟩
        rw [List.getElem?_map]
        have : x1[j]? = some c := by simpa using ec
        rw [this]; rfl
      obtain ⟨f, rr⟩ := S.newL (p := s.heap.objs.size) (I.hok.fresh (Nat.le_refl _)) (repVs_signs (G := G) (as := as) (H := H) x1)
      refine ⟨.ref s.heap.objs.size, _, I.laid (o := .lst (x1.map fun c => V.str ⟨#[c]⟩)) (t' := tk) hkeep (Nat.le_refl _) (show ObjOk X.prog X.w _ h' _ (.lst _) from ⟨by simpa using hl, acc'.toList, c', rv, by simpa using hS'⟩), rfl, okn o f rr⟩
    · exact False.elim o
  · obtain ⟨v, rfl, r1⟩ := r.one
    obtain ⟨a, ws, rfl, sa, r2⟩ := r1.tupE
    exact call_tuple_of pins s σ H _ us Q I rx ⟨_, _, rfl, .inr ⟨by rw [hk]; exact sa, okv S o r1⟩⟩
  · obtain ⟨v, rfl, r1⟩ := r.one
    obtain ⟨a, ea, rfl⟩ := r1.refE
    split at o
    · rename_i ys q
      obtain ⟨ws, sl, r2⟩ := S.lst q ea
      refine call_tuple_of pins s σ H _ us Q I rx ⟨_, _, rfl, .inl ⟨by rw [hk]; exact sl, fun l hl => ?_⟩⟩
      obtain ⟨f, rr⟩ := S.tup hl r2
      exact okn o f rr
    · exact False.elim o
  · -- isinstance, a tuple of classes
    split at o
    · rename_i v ts hcl
      simp only [Bool.and_eq_true] at hcl
      obtain ⟨hne, hcl⟩ := hcl
      obtain ⟨w, y, rfl, r1, r2⟩ := r.two
      obtain ⟨b, e, q⟩ := ob_ok o S
      obtain ⟨a, ws, rfl, sa, rw⟩ := r2.tupE
      obtain ⟨u1, u2, rfl, q1, q2⟩ := vals2 rx
      cases (show u2 = Value.ref a from q2)
      obtain ⟨its, rv, ⟨ob', h1, h2, n, h3⟩, _⟩ := I.tuple (show SqT X.K H a ws by rw [hk]; exact sa)
      have ei : its = ts.map (clV G) := clVs_ok hcl rw rv
      cases hts : ts with
      | nil =>
        rw [hts] at hne
        cases hne
      | cons t0 tr =>
        have e0 := e
        rw [hts] at e0
        obtain ⟨tt, et⟩ := isTys_ty e0
        have e2 : ∃ b0, subC T tt t0 = some b0 := isTys_sub et e0
        obtain ⟨b0, e2⟩ := e2
        obtain ⟨P, Z, p, hx⟩ := kit_of I q1 (tyOf_ok hk C S et e2 r1)
        obtain ⟨oc, od, dt, sl⟩ := ob'
        simp only at h2 h3
        subst h2 h3
        refine PySem.W.kia_tup Z I.kIn p h1 (b := b) ?_ hx fun tk => ⟨.bl b, H, I.tok tk, rfl, q⟩
        rw [ei, hk]
        exact isTys_kit C et e
    · exact False.elim o
  · rename_i v t
    obtain ⟨w, y, rfl, r1, r2⟩ := r.two
    obtain ⟨b, e, q⟩ := ob_ok o S
    unfold isTy at e
    obtain ⟨tt, e1, e2⟩ := Option.bind_eq_some_iff.mp e
    exact call_isi pins s σ H _ us Q I rx ⟨w, y, _, _, b, rfl, clV_ok e2 r2, tyOf_ok hk C S e1 e2 r1, by rw [hk]; exact subC_kit C e2, q⟩
  · obtain ⟨v, rfl, r1⟩ := r.one
    obtain ⟨a, ea, rfl⟩ := r1.refE
    split at o
    · rename_i ys q
      split at o
      · rename_i is qi
        obtain ⟨ws, sl, r2⟩ := S.lst q ea
        have ew := intsOf_ok qi r2
        subst ew
        exact cr_sum hc pins s σ H _ us Q I rx ⟨_, _, rfl, by rw [hk]; exact sl, okv S o (.int _)⟩
      · exact False.elim o
    · exact False.elim o
  · obtain ⟨v, rfl, r1⟩ := r.one
    obtain ⟨a, ea, rfl⟩ := r1.refE
    split at o
    · rename_i ys q
      split at o
      · rename_i is qi
        obtain ⟨ws, sl, r2⟩ := S.lst q ea
        have ew := blsOf_ok qi r2
        subst ew
        exact cr_all hc pins s σ H _ us Q I rx ⟨_, _, rfl, by rw [hk]; exact sl, okv S o (.bl _)⟩
      · exact False.elim o
    · exact False.elim o
  · obtain ⟨v, rfl, r1⟩ := r.one
    obtain ⟨a, ea, rfl⟩ := r1.refE
    split at o
    · rename_i ys q
      split at o
      · rename_i is qi
        obtain ⟨ws, sl, r2⟩ := S.lst q ea
        have ew := blsOf_ok qi r2
        subst ew
        exact cr_any hc pins s σ H _ us Q I rx ⟨_, _, rfl, by rw [hk]; exact sl, okv S o (.bl _)⟩
      · exact False.elim o
    · exact False.elim o
  · obtain ⟨v, rfl, r1⟩ := r.one
    obtain ⟨a, ea, rfl⟩ := r1.refE
    split at o
    · rename_i ys q
      split at o
      · rename_i i is qi
        obtain ⟨ws, sl, r2⟩ := S.lst q ea
        have ew := intsOf_ok qi r2
        subst ew
        refine cr_min hc pins s σ H _ us Q I rx ⟨_, _, rfl, by rw [hk]; exact sl, by simp, fun m hm hle => ?_⟩
        rw [show m = lmin i is from Int.le_antisymm (hle _ (lmin_mem i is)) (lmin_le i is m hm)]
        exact okv S o (.int _)
      · exact False.elim o
    · exact False.elim o
  · obtain ⟨v, rfl, r1⟩ := r.one
    obtain ⟨a, ea, rfl⟩ := r1.refE
    split at o
    · rename_i ys q
      split at o
      · rename_i i is qi
        obtain ⟨ws, sl, r2⟩ := S.lst q ea
        have ew := intsOf_ok qi r2
        subst ew
        refine cr_max hc pins s σ H _ us Q I rx ⟨_, _, rfl, by rw [hk]; exact sl, by simp, fun m hm hle => ?_⟩
        rw [show m = lmax i is from Int.le_antisymm (lmax_le i is m hm) (hle _ (lmax_mem i is))]
        exact okv S o (.int _)
      · exact False.elim o
    · exact False.elim o
  · rename_i b
    obtain ⟨v, rfl, r1⟩ := r.one
    rw [r1.blE] at rx
    obtain ⟨u, rfl, e⟩ := vals1 rx
    cases e
    refine PySem.P.repr_of_bool ⟨.str (if b then "True" else "False"), H, I.tok _, ⟨_, by cases b <;> rfl⟩, ?_⟩
    have e : (V.str (if b = true then "True" else "False" : Str)) = V.str ⟨(if b = true then [84, 114, 117, 101] else [70, 97, 108, 115, 101] : List Nat).toArray⟩ := by cases b <;> rfl
    have k := okv S o (.str _)
    cases b <;> exact k
  · obtain ⟨v, rfl, r1⟩ := r.one
    rw [r1.nonE] at rx
    obtain ⟨u, rfl, e⟩ := vals1 rx
    cases e
    exact PySem.P.repr_of_none ⟨.str "None", H, I.tok _, ⟨_, rfl⟩, okv S o (.str _)⟩
  · split at o
    · rename_i hl
      obtain ⟨v, rfl, r1⟩ := r.one
      rw [r1.intE] at rx
      exact SkE.call_repr_int pins s σ H _ us Q I rx ⟨_, rfl, hl, okv S o (.strO _)⟩
    · exact False.elim o
  · split at o
    · rename_i hl
      obtain ⟨v, rfl, r1⟩ := r.one
      rw [r1.strE] at rx
      obtain ⟨u, rfl, t, rfl⟩ := vals1 rx
      exact PySem.P.repr_of_str ⟨.str _, H, I.tok _, ⟨_, rfl⟩, okv S o (.strO _)⟩ hl
    · exact False.elim o
  · exact False.elim o
end
end Mn
set_option Elab.async false
set_option linter.all false
set_option maxRecDepth 100000
set_option maxHeartbeats 4000000
namespace Mn
open PySem PySem.Spec L2 PyProof.Rows
def Bq.T : Bq → String
  | .lappend | .lpop | .lpopl | .lextend | .lreverse | .linsert | .lindex | .lremove => "list"
  | .sisascii | .sisprintable | .sisdigit | .sjoin | .sremoveprefix => "str"
  | .dget | .dpop => "dict"
def Bm.nm : Bm → Str
  | .append => Str.ofString "append" | .pop => Str.ofString "pop" | .insert => Str.ofString "insert" | .extend => Str.ofString "extend" | .reverse => Str.ofString "reverse" | .index => Str.ofString "index" | .remove => Str.ofString "remove"
  | .isascii => Str.ofString "isascii" | .isprintable => Str.ofString "isprintable" | .isdigit => Str.ofString "isdigit" | .join => Str.ofString "join" | .replace => Str.ofString "replace" | .removeprefix => Str.ofString "removeprefix"
  | .find => Str.ofString "find" | .get => Str.ofString "get" | .keys => Str.ofString "keys" | .items => Str.ofString "items" | .values => Str.ofString "values" | .startswith => Str.ofString "startswith" | .none => Str.ofString ""
def Bq.id : Bq → String
  | .lappend => "list.append" | .lpop | .lpopl => "list.pop" | .lextend => "list.extend" | .lreverse => "list.reverse" | .linsert => "list.insert" | .lindex => "list.index" | .lremove => "list.remove"
  | .sisascii => "str.isascii" | .sisprintable => "str.isprintable" | .sisdigit => "str.isdigit" | .sjoin => "str.join" | .sremoveprefix => "str.removeprefix"
  | .dget => "dict.get" | .dpop => "dict.pop"
theorem bq_plain : ∀ q : Bq, PlainAttrs q.T
  | .lappend | .lpop | .lpopl | .lextend | .lreverse | .linsert | .lindex | .lremove => PySem.F.plainAttrs_list
  | .sisascii | .sisprintable | .sisdigit | .sjoin | .sremoveprefix => PySem.F.plainAttrs_str
  | .dget | .dpop => PySem.F.plainAttrs_dict
theorem bq_slot {m : Bm} {k : Nat} {q : Bq} (e : Bq.of m k = some q) : Slot q.T m.nm q.id := by
  unfold Bq.of at e
  split at e
  · cases e; exact PySem.F.slot_list_append
  · cases e; exact PySem.F.slot_list_pop
  · cases e; exact PySem.F.slot_list_extend
  · cases e; exact PySem.F.slot_list_reverse
  · cases e; exact PySem.F.slot_list_insert
  · cases e; exact PySem.F.slot_list_index
  · cases e; exact PySem.F.slot_list_remove
  · cases e; exact PySem.F.slot_str_isascii
  · cases e; exact PySem.F.slot_str_isprintable
  · cases e; exact PySem.F.slot_str_isdigit
  · cases e; exact PySem.F.slot_str_join
  · cases e; exact PySem.F.slot_str_removeprefix
  · cases e; exact PySem.F.slot_dict_get
  · cases e; exact PySem.F.slot_dict_pop
  · cases e
theorem bq_ty : ∀ q : Bq, typeOf (.builtin q.id) = pure (.type "method_descriptor")
  | .lappend => PySem.F.type_list_append
  | .lpop => PySem.F.type_list_pop
  | .lpopl => PySem.F.type_list_pop
  | .lextend => PySem.F.type_list_extend
  | .lreverse => PySem.F.type_list_reverse
  | .linsert => PySem.F.type_list_insert
  | .lindex => PySem.F.type_list_index
  | .lremove => PySem.F.type_list_remove
  | .sisascii => PySem.F.type_str_isascii
  | .sisprintable => PySem.F.type_str_isprintable
  | .sisdigit => PySem.F.type_str_isdigit
  | .sjoin => PySem.F.type_str_join
  | .sremoveprefix => PySem.F.type_str_removeprefix
  | .dget => PySem.F.type_dict_get
  | .dpop => PySem.F.type_dict_pop
theorem bq_T {m : Bm} {k : Nat} {q : Bq} (e : Bq.of m k = some q) : (k = 0 ∧ q.T = "list") ∨ (k = 1 ∧ q.T = "dict") ∨ (k = 2 ∧ q.T = "str") := by
  unfold Bq.of at e
  split at e
  · cases e; exact .inl ⟨rfl, rfl⟩
  · cases e; exact .inl ⟨rfl, rfl⟩
  · cases e; exact .inl ⟨rfl, rfl⟩
  · cases e; exact .inl ⟨rfl, rfl⟩
  · cases e; exact .inl ⟨rfl, rfl⟩
  · cases e; exact .inl ⟨rfl, rfl⟩
  · cases e; exact .inl ⟨rfl, rfl⟩
  · cases e; exact .inr (.inr ⟨rfl, rfl⟩)
  · cases e; exact .inr (.inr ⟨rfl, rfl⟩)
  · cases e; exact .inr (.inr ⟨rfl, rfl⟩)
  · cases e; exact .inr (.inr ⟨rfl, rfl⟩)
  · cases e; exact .inr (.inr ⟨rfl, rfl⟩)
  · cases e; exact .inr (.inl ⟨rfl, rfl⟩)
  · cases e; exact .inr (.inl ⟨rfl, rfl⟩)
  · cases e
section
variable {G : Gm} {T : Tb} {E : XK} {X : Cx} {as : List Addr} {H : Hp} {h : PH}
theorem kind_ty (hk : X.K = G.K) (S : SR G as H h) {m : Bm} {v : PV} {x : V} {q : Bq} (e : Bq.of m (kindAt h v) = some q) (r : RepV G as H v x) : tyV X.K q.T x H := by
  have t := bq_T e
  clear e
  generalize q.T = TT at t ⊢
  unfold kindAt at t
  split at t
  · rename_i l
    obtain ⟨a, ea, rfl⟩ := r.refE
    split at t
    · rename_i xs qq
      obtain ⟨vs, e1, _⟩ := S.obj qq ea
      rcases t with ⟨_, e⟩ | ⟨e, _⟩ | ⟨e, _⟩
      · exact .inl ⟨e, vs, .of e1⟩
      · cases e
      · cases e
    · rename_i xs qq
      obtain ⟨vs, e1, _⟩ := S.obj qq ea
      rcases t with ⟨e, _⟩ | ⟨_, e⟩ | ⟨e, _⟩
      · cases e
      · exact .inr (.inr (.inl ⟨e, .inl ⟨vs, e1⟩⟩))
      · cases e
    · rcases t with ⟨e, _⟩ | ⟨e, _⟩ | ⟨e, _⟩ <;> cases e
  · rw [r.strE]
    rcases t with ⟨e, _⟩ | ⟨e, _⟩ | ⟨_, e⟩
    · cases e
    · cases e
    · exact e
  · rcases t with ⟨e, _⟩ | ⟨e, _⟩ | ⟨e, _⟩ <;> cases e
abbrev rMq (G : Gm) (E : XK) (q : Bq) : V → List V → Hp → VK → Prop := fun x xs H Q => ∃ as h v vs, SR G as H h ∧ RepV G as H v x ∧ RepVs G as H vs xs ∧ OkV G E as H Q (pBq q v vs h)
theorem key_rel {v : PV} {x : V} {k : Key} (e : keyOf v = some k) (r : RepV G as H v x) : x = kV k := by
  unfold keyOf at e
  split at e
  · cases e; exact r.intE
  · cases e; exact r.strE
  · cases e
theorem mt_bq (hk : X.K = G.K) (hu : X.A.units + 70 < cLine) (q : Bq) : MtR X q.id (rMq G E q) := by
  intro pins s σ H x xs v us Q I rx rs ⟨as, h, w, ws, S, r, rws, o⟩
  unfold pBq at o
  cases q with
  | lappend =>
    dsimp only at o
    split at o
    · obtain ⟨a, ea, rfl⟩ := r.refE
      obtain ⟨y, rfl, ry⟩ := rws.one
      split at o
      · rename_i qq
        split at o
        · rename_i hl
          obtain ⟨vs, e1, rl⟩ := S.lstM qq ea
          exact mt_append pins s σ H _ _ v us Q I rx rs ⟨a, vs, y, rfl, rfl, e1, by rw [← rl.length]; exact hl, okn o (S.setL ea e1 (rl.append (.cons ry .nil))) .non⟩
        · exact False.elim o
      · exact False.elim o
    · exact False.elim o
  | lpop =>
    dsimp only at o
    split at o
    · obtain ⟨a, ea, rfl⟩ := r.refE
      obtain ⟨y, rfl, ry⟩ := rws.one
      rw [ry.intE] at rs
      split at o
      · rename_i qq
        split at o
        · rename_i k qk
          split at o
          · rename_i y qy
            split at o
            · rename_i hl
              simp only [Bool.and_eq_true, decide_eq_true_eq] at hl
              obtain ⟨vs, e1, rl⟩ := S.lstM qq ea
              obtain ⟨z, ez, rz⟩ := rl.get qy
              have f := S.setL ea e1 (rl.eraseIdx k)
              exact mt_popAt pins s σ H _ _ v us Q I rx rs ⟨a, vs, _, k, z, rfl, rfl, e1, hl.1, hl.2, by rw [← rl.length]; exact qk, ez, okn o f (rz.fut f)⟩
            · exact False.elim o
          · exact False.elim o
        · exact False.elim o
      · exact False.elim o
    · obtain ⟨a, ea, rfl⟩ := r.refE
      have := rws.zero
      subst this
      split at o
      · rename_i xs0 qq
        split at o
        · rename_i y qy
          obtain ⟨vs, e1, rl⟩ := S.lstM qq ea
          obtain ⟨z, ez, rz⟩ := rl.get qy
          have rd : RepVs G as H xs0.dropLast vs.dropLast := by
            rw [List.dropLast_eq_take, List.dropLast_eq_take, rl.length]
            exact rl.take _
          have f := S.setL ea e1 rd
          exact mt_pop pins s σ H _ _ v us Q I rx rs ⟨a, vs, z, rfl, rfl, e1, by rw [← rl.length]; exact ez, okn o f (rz.fut f)⟩
        · exact False.elim o
      · exact False.elim o
    · exact False.elim o
  | lextend =>
    dsimp only at o
    split at o
    · obtain ⟨a, ea, rfl⟩ := r.refE
      obtain ⟨y, rfl, ry⟩ := rws.one
      obtain ⟨b, eb, rfl⟩ := ry.refE
      split at o
      · rename_i q1 q2
        split at o
        · rename_i hl
          obtain ⟨vs, e1, rl⟩ := S.lstM q1 ea
          obtain ⟨ws, e2, rl2⟩ := S.lstM q2 eb
          exact mt_extend pins s σ H _ _ v us Q I rx rs ⟨a, b, vs, ws, rfl, rfl, e1, e2, by rw [← rl.length, ← rl2.length]; exact hl, okn o (S.setL ea e1 (rl.append rl2)) .non⟩
        · exact False.elim o
      · exact False.elim o
    · exact False.elim o
  | lreverse =>
    dsimp only at o
    split at o
    · obtain ⟨a, ea, rfl⟩ := r.refE
      have := rws.zero
      subst this
      split at o
      · rename_i qq
        obtain ⟨vs, e1, rl⟩ := S.lstM qq ea
        exact mt_reverse pins s σ H _ _ v us Q I rx rs ⟨a, vs, rfl, rfl, e1, okn o (S.setL ea e1 rl.reverse) .non⟩
      · exact False.elim o
    · exact False.elim o
  | sisascii =>
    dsimp only at o
    split at o
    · have := rws.zero
      subst this
      rw [r.strE] at rx
      exact mt_isascii pins s σ H _ _ v us Q I rx rs ⟨_, rfl, rfl, True.intro, okv S o (.bl _)⟩
    · exact False.elim o
  | sisprintable =>
    dsimp only at o
    split at o
    · have := rws.zero
      subst this
      rw [r.strE] at rx
      exact mt_isprintable pins s σ H _ _ v us Q I rx rs ⟨_, rfl, rfl, True.intro, okv S o (.bl _)⟩
    · exact False.elim o
  | sisdigit =>
    dsimp only at o
    split at o
    · have := rws.zero
      subst this
      rw [r.strE] at rx
      exact mt_isdigit pins s σ H _ _ v us Q I rx rs ⟨_, rfl, rfl, True.intro, okv S o (.bl _)⟩
    · exact False.elim o
  | sremoveprefix =>
    dsimp only at o
    split at o
    · obtain ⟨y, rfl, ry⟩ := rws.one
      rw [r.strE] at rx
      rw [ry.strE] at rs
      split at o
      · rename_i hl
        exact mt_removeprefix pins s σ H _ _ v us Q I rx rs ⟨_, _, rfl, rfl, by rw [str_len]; exact hl, okv S o (.strO _)⟩
      · exact False.elim o
    · exact False.elim o
  | sjoin =>
    dsimp only at o
    split at o
    · obtain ⟨y, rfl, ry⟩ := rws.one
      obtain ⟨a, ea, rfl⟩ := ry.refE
      rw [r.strE] at rx
      split at o
      · rename_i ys q1
        split at o
        · rename_i zs q2
          split at o
          · rename_i hl
            obtain ⟨vs, sl, rl⟩ := S.lst q1 ea
            have e := strsOf_ok q2 rl
            subst e
            refine mt_join pins s σ H _ _ v us Q I rx rs ⟨_, a, _, rfl, rfl, .inl (by rw [hk]; exact sl), ?_, okv S o (.strO _)⟩
            rw [List.map_map, List.length_map, str_len]
            have : ((fun x : Str => x.length) ∘ fun y : List Nat => (⟨y.toArray⟩ : Str)) = fun y => y.length := by
              funext y
              exact str_len y
            rw [this]
            exact hl
          · exact False.elim o
        · exact False.elim o
      · exact False.elim o
    · exact False.elim o
  | dget =>
    dsimp only at o
    split at o
    · obtain ⟨a, ea, rfl⟩ := r.refE
      obtain ⟨y, rfl, ry⟩ := rws.one
      split at o
      · rename_i kvs k q1 q2
        obtain ⟨ks, ed, rk⟩ := S.dic q1 ea
        have ey := key_rel q2 ry
        subst ey
        obtain ⟨u, rfl, ru⟩ := vals1 rs
        obtain rfl : v = Value.ref a := rx
        refine d_get1 (by omega) I (DGet.k (k := k) ed) ru fun w' s' I' rw' => ⟨_, H, I', rw', ?_⟩
        obtain ⟨c1, c2⟩ := dLook_ok k rk
        cases qd : dLook kvs k with
        | none => rw [qd] at o; rw [c2 qd]; exact okv S o .non
        | some z => rw [qd] at o; obtain ⟨z', ez, rz⟩ := c1 z qd; rw [ez]; exact okv S o rz
      · exact False.elim o
    · obtain ⟨a, ea, rfl⟩ := r.refE
      obtain ⟨y, d, rfl, ry, rd⟩ := rws.two
      split at o
      · rename_i kvs k q1 q2
        obtain ⟨ks, ed, rk⟩ := S.dic q1 ea
        have ey := key_rel q2 ry
        subst ey
        obtain ⟨u, u2, rfl, ru, ru2⟩ := vals2 rs
        obtain rfl : v = Value.ref a := rx
        refine d_get2 (by omega) I (DGet.k (k := k) ed) ru ru2 fun w' s' I' rw' => ⟨_, H, I', rw', ?_⟩
        obtain ⟨c1, c2⟩ := dLook_ok k rk
        cases qd : dLook kvs k with
        | none => rw [qd] at o; rw [c2 qd]; exact okv S o rd
        | some z => rw [qd] at o; obtain ⟨z', ez, rz⟩ := c1 z qd; rw [ez]; exact okv S o rz
      · exact False.elim o
    · exact False.elim o
  | dpop =>
    dsimp only at o
    split at o
    · obtain ⟨a, ea, rfl⟩ := r.refE
      obtain ⟨y, rfl, ry⟩ := rws.one
      split at o
      · rename_i kvs k q1 q2
        split at o
        · rename_i z qd
          obtain ⟨ks, ed, rk⟩ := S.dic q1 ea
          have ey := key_rel q2 ry
          subst ey
          obtain ⟨u, rfl, ru⟩ := vals1 rs
          obtain rfl : v = Value.ref a := rx
          obtain ⟨z', ez, rz⟩ := (dLook_ok k rk).1 z qd
          have f := S.setD ea ed (dDrop_ok (k := k) rk)
          exact d_pop I ed ru ez (.inl rfl) fun w' s' I' rw' => ⟨_, _, I', rw', okn o f (rz.fut f)⟩
        · exact False.elim o
      · exact False.elim o
    · exact False.elim o
  | _ => exact False.elim o
theorem atI_ok {xs : List PV} {vs : List V} {i : Int} {x : PV} (r : RepVs G as H xs vs) (e : atI xs i = some x) : ∃ v, atI vs i = some v ∧ RepV G as H x v := by
  unfold atI at e ⊢
  rw [← r.length]
  obtain ⟨j, e1, e2⟩ := Option.bind_eq_some_iff.mp e
  obtain ⟨v, e3, rv⟩ := r.get e2
  exact ⟨v, by rw [e1]; exact e3, rv⟩
theorem ixd {value slice : Expr} {pins : List (Addr × Obj)} {s : Shared} {σ : L2.St} {a : Addr} {ks : List (Key × V)} {k : Key} {u : Value} {z : V} {Q : VK} (I : Inv X pins σ H s) (ed : H a = some (.dK ks)) (ry : RelV (kV k) u) (ez : valV ks k = some z)
    (hs : subscripted slice false (.ref a) u = operate [.ref a, u] (getItem (.ref a) u)) (hu : X.A.units + 1 < cLine) (q : Q z H) : wpAny (model X.prog X.w) X.A (subscriptTail value slice (.ref a) u) (EP X pins σ Q) X.xe s := by
  have g : DGet H a (kV k) (some z) := by rw [← ez]; exact DGet.k ed
  exact tail_any (dict_typeIs I g) PySem.F.slot_dict_getitem.lookup (d_getItem hu I g ry fun w' s3 I3 rw' => ⟨z, H, I3, rw', q⟩) hs
theorem op_ix (hk : X.K = G.K) (hu : X.A.units + 70 < cLine) : IxR X (rP2 G E pIx) := by
  intro value slice pins s σ H x y v u Q I rx ry ⟨as, h, va, vb, S, ra, rb, o⟩ hs
  unfold pIx at o
  split at o
  · split at o
    · rename_i q
      obtain ⟨a, vs, rfl, sa, r⟩ := ra.tupE
      obtain ⟨z, ez, rz⟩ := atI_ok r q
      rw [rb.intE] at ry
      exact ix_tup value slice pins s σ H _ _ v u Q I rx ry ⟨a, vs, _, z, rfl, rfl, by rw [hk]; exact sa, ez, okv S o rz⟩ hs
    · exact False.elim o
  · obtain ⟨a, ea, rfl⟩ := ra.refE
    rw [rb.intE] at ry
    split at o
    · rename_i ql
      split at o
      · rename_i q
        obtain ⟨vs, sl, r⟩ := S.lst (lstAt_of ql) ea
        obtain ⟨z, ez, rz⟩ := atI_ok r q
        exact ix_list value slice pins s σ H _ _ v u Q I rx ry ⟨a, vs, _, z, rfl, rfl, by rw [hk]; exact sl, ez, okv S o rz⟩ hs
      · exact False.elim o
    · rename_i ql
      split at o
      · rename_i q
        obtain ⟨vs, sl, r⟩ := S.lst (lstAt_frz ql) ea
        obtain ⟨z, ez, rz⟩ := atI_ok r q
        exact ix_list value slice pins s σ H _ _ v u Q I rx ry ⟨a, vs, _, z, rfl, rfl, by rw [hk]; exact sl, ez, okv S o rz⟩ hs
      · exact False.elim o
    · rename_i ql
      split at o
      · rename_i q
        obtain ⟨ks, ed, rk⟩ := S.dic ql ea
        obtain ⟨z, ez, rz⟩ := (dLook_ok _ rk).1 _ q
        obtain rfl : v = Value.ref a := rx
        exact ixd I ed (k := .inl _) ry ez hs (by omega) (okv S o rz)
      · exact False.elim o
    · exact False.elim o
  · obtain ⟨a, ea, rfl⟩ := ra.refE
    rw [rb.strE] at ry
    split at o
    · rename_i ql
      split at o
      · rename_i q
        obtain ⟨ks, ed, rk⟩ := S.dic ql ea
        obtain ⟨z, ez, rz⟩ := (dLook_ok _ rk).1 _ q
        obtain rfl : v = Value.ref a := rx
        exact ixd I ed (k := .inr _) ry ez hs (by omega) (okv S o rz)
      · exact False.elim o
    · exact False.elim o
  · split at o
    · rename_i q
      obtain ⟨a, vs, rfl, sf, r⟩ := ra.frkE
      rw [rb.intE] at ry
      obtain ⟨z, ez, rz⟩ := atI_ok r q
      exact ix_list value slice pins s σ H _ _ v u Q I rx ry ⟨a, vs, _, z, rfl, rfl, by rw [hk]; exact sf.sq, ez, okv S o rz⟩ hs
    · exact False.elim o
  · split at o
    · rename_i hl
      split at o
      · rename_i q
        rw [ra.strE] at rx
        rw [rb.intE] at ry
        exact ix_str value slice pins s σ H _ _ v u Q I rx ry ⟨_, _, _, rfl, rfl, by rw [str_len]; exact hl, by simpa using q, okv S o (.str _)⟩ hs
      · exact False.elim o
    · exact False.elim o
  · exact False.elim o
theorem cut_ok {xs : List PV} {vs : List V} (r : RepVs G as H xs vs) (lo hi : Option Int) : RepVs G as H (cut xs lo hi) (cutV vs lo hi) := by
  unfold cut cutV
  rw [r.length]
  exact (r.drop _).take _
theorem cut_str (x : List Nat) (lo hi : Option Int) : cutS ⟨x.toArray⟩ lo hi = ⟨(cut x lo hi).toArray⟩ := by
  unfold cutS cut
  rw [str_len]
abbrev rSp (G : Gm) (E : XK) : V → Option Int → Option Int → Hp → VK → Prop := fun x lo hi H Q => ∃ as h v, SR G as H h ∧ RepV G as H v x ∧ OkV G E as H Q (pSl v lo hi h)
theorem sl_all (hk : X.K = G.K) : SlR X (rSp G E) := by
  intro pins s σ H x v vl vu lo hi sl Q I rx hs pl pu ⟨as, h, va, S, ra, o⟩
  unfold pSl at o
  split at o
  · rename_i xs
    obtain ⟨a, vs, rfl, sa, r⟩ := ra.tupE
    refine sl_tupA pins s σ H _ v vl vu lo hi sl Q I rx hs pl pu ⟨a, vs, rfl, by rw [hk]; exact sa, fun hw => ?_, fun hw p hp => ?_⟩
    · have ew : cut xs lo hi = xs := by
        unfold cut
        rw [r.length, hw.1, hw.2, List.drop_zero, Nat.sub_zero, ← r.length, List.take_length]
      rw [ew] at o
      exact okv S o ra
    · obtain ⟨f, rr⟩ := S.tup hp (cut_ok r lo hi)
      exact okn o f rr
  · split at o
    · rename_i hl
      rw [ra.strE] at rx
      refine sl_str pins s σ H _ v vl vu lo hi sl Q I rx hs pl pu ⟨_, rfl, by rw [str_len]; exact hl, ?_⟩
      rw [cut_str]
      exact okv S o (.str _)
    · exact False.elim o
  · obtain ⟨a, ea, rfl⟩ := ra.refE
    split at o
    · rename_i q
      obtain ⟨vs, sq, r⟩ := S.lst q ea
      refine sl_list pins s σ H _ v vl vu lo hi sl Q I rx hs pl pu ⟨a, vs, rfl, by rw [hk]; exact sq, fun p hp => ?_⟩
      obtain ⟨f, rr⟩ := S.newL hp (cut_ok r lo hi)
      exact okn o f rr
    · exact False.elim o
  · exact False.elim o
theorem tru_p (hk : X.K = G.K) (S : SR G as H h) {v : PV} {x : V} {b : Bool} (e : pTru h v = some b) (r : RepV G as H v x) : TruV X.K x H b := by
  unfold pTru at e
  split at e
  · cases e; rw [r.nonE]; rfl
  · cases e; rw [r.blE]; rfl
  · cases e; rw [r.intE]; rfl
  · split at e
    · rename_i y hl
      cases e
      rw [r.strE]
      refine ⟨by rw [str_len]; exact hl, ?_⟩
      rw [str_len]
      cases y <;> simp
      omega
    · cases e
  · rename_i xs
    cases e
    obtain ⟨a, vs, rfl, sa, rv⟩ := r.tupE
    exact .inr (.inl ⟨vs, by rw [hk]; exact sa, by
      cases xs with
      | nil => rw [rv.zero]; rfl
      | cons y ys => unfold RepVs at rv; obtain ⟨w, rest, rfl, _⟩ := rv; rfl⟩)
  · obtain ⟨a, ea, rfl⟩ := r.refE
    have fin : ∀ {xs : List PV} {vs : List V}, RepVs G as H xs vs → (!xs.isEmpty) = !vs.isEmpty := fun {xs vs} rv => by
      cases xs with
      | nil => rw [rv.zero]; rfl
      | cons y ys => unfold RepVs at rv; obtain ⟨w, rest, rfl, _⟩ := rv; rfl
    split at e
    · rename_i q
      cases e
      obtain ⟨vs, sl, rv⟩ := S.lst (lstAt_of q) ea
      exact .inl ⟨vs, by rw [hk]; exact sl, fin rv⟩
    · rename_i q
      cases e
      obtain ⟨vs, sl, rv⟩ := S.lst (lstAt_frz q) ea
      exact .inl ⟨vs, by rw [hk]; exact sl, fin rv⟩
    · rename_i kvs q
      cases e
      obtain ⟨ks, ed, rk⟩ := S.dic q ea
      refine .inr (.inr ⟨ks, ed, ?_⟩)
      cases kvs with
      | nil => unfold RepK at rk; subst rk; rfl
      | cons y ys => obtain ⟨k, z⟩ := y; unfold RepK at rk; obtain ⟨w, rest, rfl, _⟩ := rk; rfl
    · cases e
  · cases e
end
end Mn
set_option Elab.async false
set_option linter.all false
set_option maxRecDepth 100000
set_option maxHeartbeats 4000000
namespace Mn
open PySem PySem.Spec L2 PyProof.Rows
structure Nm where
  gn : List Str
  an : List Str
structure Fx where
  N : List Str
  names : List (Str × NameKind)
  st : List Str
def Bi.nm : Bi → Str
  | .len => "len" | .abs => "abs" | .max => "max" | .min => "min" | .int => "int" | .str => "str" | .bool => "bool" | .list => "list" | .tuple => "tuple" | .sorted => "sorted" | .sum => "sum" | .any => "any" | .all => "all"
  | .ord => "ord" | .isinst => "isinstance" | .repr => "repr" | .dict => "dict"
theorem bi_boot (f : Bi) : bootBuiltins f.nm = some f.py := by cases f <;> decide +kernel
section
variable (G : Gm) (T : Tb) (nm : Nm) (call : Nat → List PV → PH → Res PV)
def RelG (v : PV) (u : Value) : Prop := ∃ x, RelV x u ∧ ∀ as H, RepV G as H v x
def spF (f np : Nat) : Sp := fun vs H Q E => vs.length = np ∧ ∃ as h xs, SR G as H h ∧ RepVs G as H xs vs ∧ OkV G E as H Q (call f xs h)
structure XOk (fx : Fx) (X : Cx) (E : XK) : Prop where
  K : X.K = G.K
  calm : X.calm = true
  hu : X.A.units + 70 < cLine
  N : X.N = fx.N
  nd : X.N.Nodup
  names : X.env.scope.names = fx.names
  gl : ∀ (g : Nat) (x : Str) (v : PV), nm.gn[g]? = some x → T.glob[g]? = some v → ∃ u, X.mg x = some u ∧ RelG G v u
  bl : ∀ f : Bi, X.mg f.nm = none
  st : ∀ x ∈ fx.st, Loc X.env.scope x ∧ (X.fn x = true ∨ X.env.scope.names.lookup x = some .local)
  rng : X.mg "range" = none
  enm : X.mg "enumerate" = none
  zp : X.mg "zip" = none
  rvs : X.mg "reversed" = none
  cls : COk G T
  kind : X.env.scope.kind = .function
  pass : Passes (L2.CX X.prog X.w) X E
  fns : ∀ (g : Nat) (x : Str) (f : Nat), nm.gn[g]? = some x → T.glob[g]? = some (.fn f) → ∃ (k : Nat) (fd : FuncData) (ps : List Str), FnOk X.prog X.w X.K X.mg X.base (L2.CX X.prog X.w) k (G.fa f) fd ps (spF G call f ps.length) ∧ Room k X.A ∧ PySem.W.keepIn X.K (.ref (G.fa f)) = true ∧ Binds X.K fd ps [] ∧ X.mg x = some (.ref (G.fa f)) ∧ ∀ xs h, xs.length ≠ ps.length → call f xs h = .stuck
  gnl : T.glob.length ≤ nm.gn.length
  an : nm.an = G.an
  mfn : ∀ (c : Nat) (ci : Ci) (f : Nat), T.cls[c]? = some ci → (ci.init = some f ∨ (∃ m, ci.meths.lookup m = some f) ∨ ∃ m, ci.props.lookup m = some f) → ∃ (k : Nat) (fd : FuncData) (ps : List Str), FnOk X.prog X.w X.K X.mg X.base (L2.CX X.prog X.w) k (G.fa f) fd ps (spF G call f ps.length) ∧ Room (k + 1) X.A ∧ Binds X.K fd ps [] ∧ ∀ xs h, xs.length ≠ ps.length → call f xs h = .stuck
end
def visB (names : List (Str × NameKind)) (x : Str) : Bool := match names.lookup x with
  | some .local => true
  | some .cell => true
  | some .free => true
  | _ => false
def glB (names : List (Str × NameKind)) (x : Str) : Bool := match names.lookup x with
  | some .globalImplicit => true
  | _ => false
def plainName (x : Str) : Bool := !(x == ("__debug__" : Str)) && !(x == ("__classdict__" : Str)) && decide (x ≠ "__name__")
def isStar : Expr → Bool
  | .Starred .. => true
  | _ => false
def isSlice : Expr → Bool
  | .Slice .. => true
  | _ => false
def conOk : PV → Const → Bool
  | .non, .none => true
  | .bl b, .bool c => b == c
  | .int i, .int j => decide (i = j)
  | .str x, .str y => decide (x = y.cps.toList)
  | _, _ => false
def opB : Bop → Operator → Bool
  | .add, .Add | .sub, .Sub | .mul, .Mult | .fdiv, .FloorDiv | .mod, .Mod | .pow, .Pow | .band, .BitAnd | .bor, .BitOr | .bxor, .BitXor | .shl, .LShift | .shr, .RShift => true
  | _, _ => false
theorem opB_ok {a : Bop} {b : Operator} (h : opB a b = true) : b = a.py := by cases a <;> cases b <;> first | rfl | cases h
def cpB : Cop → CmpOp → Bool
  | .eq, .Eq | .ne, .NotEq | .lt, .Lt | .le, .LtE | .gt, .Gt | .ge, .GtE | .is_, .Is | .isn, .IsNot | .in_, .In | .nin, .NotIn => true
  | _, _ => false
theorem cpB_ok {a : Cop} {b : CmpOp} (h : cpB a b = true) : b = a.py := by cases a <;> cases b <;> first | rfl | cases h
def noSet : Expr → Bool
  | .Set .. => false
  | _ => true
theorem noSet_ok {e : Expr} {op : CmpOp} (h : noSet e = true) : behindInMarks op e = false := by cases e <;> first | rfl | cases h
section
variable (nm : Nm)
mutual
def chkE (fx : Fx) : Ex → Expr → Bool
  | .var i, .Name x _ => decide (fx.N[i]? = some x) && visB fx.names x && plainName x
  | .con v, .Constant c _ _ => conOk v c
  | .glob g, .Name x _ => decide (nm.gn[g]? = some x) && glB fx.names x && plainName x
  | .bin op a b, .BinOp x o y _ => opB op o && chkE fx a x && chkE fx b y
  | .neg a, .UnaryOp .USub x _ => chkE fx a x
  | .not a, .UnaryOp .Not x _ => chkE fx a x
  | .and a b, .BoolOp .And (x :: y :: r) p => chkE fx a x && (match r with
      | [] => chkE fx b y
      | _ :: _ => chkE fx b (.BoolOp .And (y :: r) p))
  | .or a b, .BoolOp .Or (x :: y :: r) p => chkE fx a x && (match r with
      | [] => chkE fx b y
      | _ :: _ => chkE fx b (.BoolOp .Or (y :: r) p))
  | .cmp op a b, .Compare x [o] [y] _ => cpB op o && noSet y && chkE fx a x && chkE fx b y
  | .chn o1 o2 a b c, .Compare x [p1, p2] [y, z] _ => cpB o1 p1 && cpB o2 p2 && noSet y && noSet z && chkE fx a x && chkE fx b y && chkE fx c z
  | .ife c a b, .IfExp z x y _ => chkE fx c z && chkE fx a x && chkE fx b y
  | .tup es, .Tuple xs _ _ => chkEs fx es xs
  | .lst es, .List xs _ => chkEs fx es xs
  | .ix o i, .Subscript x y _ => !isSlice y && chkE fx o x && chkE fx i y
  | .sl o lo hi, .Subscript x (.Slice l u none _) _ => chkE fx o x && (match l with
      | none => isNop lo
      | some e => !isNop lo && chkE fx lo e) && (match u with
      | none => isNop hi
      | some e => !isNop hi && chkE fx hi e)
  | .call g es, .Call (.Name x _) xs [] _ => decide (nm.gn[g]? = some x) && glB fx.names x && plainName x && chkEs fx es xs
  | .bi f es, .Call (.Name x _) xs [] _ => decide (x = f.nm) && glB fx.names x && chkEs fx es xs && !es.isEmpty
  | _, _ => false
def chkEs (fx : Fx) : List Ex → List Expr → Bool
  | [], [] => true
  | e :: es, x :: xs => chkE fx e x && chkEs fx es xs
  | _, _ => false
end
end
section
variable (G : Gm) (E : XK)
def tE (ev : PEnv → PH → Res PV) : TE := fun σ H Q => ∃ as ρ h, SR G as H h ∧ RepE G as H ρ σ ∧ OkV G E as H Q (ev ρ h)
def tT (ev : PEnv → PH → Res Bool) : TT := fun σ H Q => ∃ as ρ h, SR G as H h ∧ RepE G as H ρ σ ∧ OkB G E as H Q (ev ρ h)
def tA (ev : PEnv → PH → Res (List PV)) : TA := fun σ H Q => ∃ as ρ h, SR G as H h ∧ RepE G as H ρ σ ∧ OkA G E as H Q (ev ρ h)
def tO (ev : PEnv → PH → Res (Option Int)) : TO := fun σ H Q => ∃ as ρ h, SR G as H h ∧ RepE G as H ρ σ ∧ Ok G E as H (fun _ _ a b => b = a) Q (ev ρ h)
end
theorem _root_.L2.PE.imp {X : Cx} {e : Expr} {t t' : TE} (p : PE X e t) (h : ∀ σ H Q, t' σ H Q → t σ H Q) : PE X e t' := ⟨fun pins s σ H Q I q => p.run pins s σ H Q I (h σ H Q q)⟩
theorem _root_.L2.PT.imp {X : Cx} {e : Expr} {t t' : TT} (p : PT X e t) (h : ∀ σ H Q, t' σ H Q → t σ H Q) : PT X e t' := ⟨fun pins s σ H Q I q => p.run pins s σ H Q I (h σ H Q q)⟩
theorem _root_.L2.PA.imp {X : Cx} {e : List Expr} {t t' : TA} (p : PA X e t) (h : ∀ σ H Q, t' σ H Q → t σ H Q) : PA X e t' := ⟨fun pos pins s σ H Q I q => p.run pos pins s σ H Q I (h σ H Q q)⟩
section
variable {G : Gm} {T : Tb} {nm : Nm} {call : Nat → List PV → PH → Res PV} {fx : Fx} {X : Cx} {E : XK}
theorem plain_ok {x : Str} (h : plainName x = true) : (x == ("__debug__" : Str)) = false ∧ (x == ("__classdict__" : Str)) = false ∧ x ≠ "__name__" := by
  unfold plainName at h
  simp only [Bool.and_eq_true, Bool.not_eq_true', decide_eq_true_eq] at h
  exact ⟨h.1.1, h.1.2, h.2⟩
theorem vis_ok (O : XOk G T nm call fx X E) {x : Str} (h : visB fx.names x = true) : Vis X.env.scope x := by
  unfold visB at h
  unfold Vis
  rw [O.names]
  split at h
  · rename_i q; exact .inl q
  · rename_i q; exact .inr (.inl q)
  · rename_i q; exact .inr (.inr q)
  · cases h
theorem gl_ok (O : XOk G T nm call fx X E) {x : Str} (h : glB fx.names x = true) : Gl X x := by
  unfold glB at h
  unfold Gl Env.kindOf
  rw [O.names]
  split at h
  · rename_i q; exact q
  · cases h
theorem okE_var (O : XOk G T nm call fx X E) {i : Nat} {x : Str} {p : Pos} (h : chkE nm fx (.var i) (.Name x p) = true) : PE X (.Name x p) (tE G E (evE T call (.var i))) := by
  simp only [chkE, Bool.and_eq_true, decide_eq_true_eq] at h
  obtain ⟨⟨h1, h2⟩, h3⟩ := h
  obtain ⟨p1, p2, p3⟩ := plain_ok h3
  refine (pe_var (i := i) (by rw [O.N]; exact h1) (vis_ok O h2) p1 p2).imp fun σ H Q ⟨as, ρ, h, S, R, o⟩ => ?_
  simp only [evE] at o
  split at o
  · rename_i v q
    obtain ⟨v', e, r⟩ := R.2 i v q
    exact ⟨v', e, okv S o r⟩
  · exact False.elim o
theorem okE_con {v : PV} {c : Const} {j : Nat} {p : Pos} (h : conOk v c = true) : PE X (.Constant c j p) (tE G E (evE T call (.con v))) := by
  cases v with
  | non => cases c <;> first | exact pe_non.imp fun σ H Q ⟨as, ρ, h, S, R, o⟩ => okv S o .non | cases h
  | bl b =>
    cases c with
    | bool b' =>
      have e : b = b' := by simpa [conOk] using h
      subst e
      exact pe_bl.imp fun σ H Q ⟨as, ρ, h, S, R, o⟩ => okv S o (.bl _)
    | _ => cases h
  | int b =>
    cases c with
    | int b' =>
      have e : b = b' := by simpa [conOk] using h
      subst e
      exact pe_int.imp fun σ H Q ⟨as, ρ, h, S, R, o⟩ => okv S o (.int _)
    | _ => cases h
  | str b =>
    cases c with
    | str b' =>
      have e : b = b'.cps.toList := by simpa [conOk] using h
      subst e
      exact pe_str.imp fun σ H Q ⟨as, ρ, h, S, R, o⟩ => okv S o (.strO _)
    | _ => cases h
  | _ => cases c <;> cases h
def btyB (names : List (Str × NameKind)) (f : Bi) (x : Str) : Bool := decide (x = f.nm) && glB names x && f.tyn.isSome
theorem bi_dbg' (f : Bi) : (f.nm == ("__debug__" : Str)) = false := by cases f <;> decide +kernel
theorem bi_name' (f : Bi) : f.nm ≠ "__name__" := by cases f <;> decide +kernel
theorem bi_tyn {f : Bi} {n : String} (h : f.tyn = some n) : bootBuiltins f.nm = some (.type n) := by
  rw [bi_boot]
  cases f <;> cases h <;> rfl
theorem okE_bty (O : XOk G T nm call fx X E) {f : Bi} {x : Str} {p : Pos} (h : btyB fx.names f x = true) : PE X (.Name x p) (tE G E (evE T call (.bty f))) := by
  unfold btyB at h
  simp only [Bool.and_eq_true, decide_eq_true_eq] at h
  obtain ⟨⟨rfl, h2⟩, h3⟩ := h
  refine ⟨fun pins s σ H Q I ⟨as, ρ, h, S, R, o⟩ => ?_⟩
  simp only [evE] at o
  split at o
  · rename_i n q
    refine ld_blt I (gl_ok O h2) (O.bl f) (bi_tyn q) ?_ (bi_name' f) (bi_dbg' f)
    exact ⟨.ty n, H, I, rfl, okv S o (by unfold RepV; rfl)⟩
  · exact False.elim o
theorem okE_glob (O : XOk G T nm call fx X E) {g : Nat} {x : Str} {p : Pos} (h : chkE nm fx (.glob g) (.Name x p) = true) : PE X (.Name x p) (tE G E (evE T call (.glob g))) := by
  simp only [chkE, Bool.and_eq_true, decide_eq_true_eq] at h
  obtain ⟨⟨h1, h2⟩, h3⟩ := h
  obtain ⟨p1, p2, p3⟩ := plain_ok h3
  cases q : T.glob[g]? with
  | none =>
    exact ⟨fun pins s σ H Q I ⟨as, ρ, h, S, R, o⟩ => by simp only [evE, q] at o; exact False.elim o⟩
  | some v =>
    obtain ⟨u, e, y, ry, rep⟩ := O.gl g x v h1 q
    refine (pe_glob (gl_ok O h2) e ry p1).imp fun σ H Q ⟨as, ρ, h, S, R, o⟩ => ?_
    simp only [evE, q] at o
    exact okv S o (rep _ _)
theorem two_parts {a b : PEnv → PH → Res PV} {pr : PV → PV → PH → Res PV} {σ : L2.St} {H : Hp} {Q : VK} {r : R2} (hr : ∀ x y H Q, rP2 G E pr x y H Q → r x y H Q)
    (q : tE G E (fun ρ h => (a ρ h).bind fun v h1 => (b ρ h1).bind fun w h2 => pr v w h2) σ H Q) : tOp r (tE G E a) (tE G E b) σ H Q := by
  obtain ⟨as, ρ, h, S, R, o⟩ := q
  refine ⟨as, ρ, h, S, R, Ok.bind o fun v h1 as1 H1 v' f1 r1 o1 => ?_⟩
  refine ⟨as1, ρ, h1, f1.sr, R.fut f1, Ok.bind o1 fun w h2 as2 H2 w' f2 r2 o2 => ?_⟩
  exact hr _ _ _ _ ⟨as2, h2, v, w, f2.sr, r1.fut f2, r2, o2⟩
theorem okE_bin (O : XOk G T nm call fx X E) {op : Bop} {a b : Ex} {x y : Expr} {p : Pos} (ha : PE X x (tE G E (evE T call a))) (hb : PE X y (tE G E (evE T call b))) : PE X (.BinOp x op.py y p) (tE G E (evE T call (.bin op a b))) := by
  refine (pe_op (op_bin (E := E) O.K op) ha hb).imp fun σ H Q q => ?_
  refine two_parts (fun _ _ _ _ h => h) ?_
  simpa only [tE, evE] using q
theorem okE_cmp (O : XOk G T nm call fx X E) {op : Cop} {a b : Ex} {x y : Expr} {p : Pos} (hm : noSet y = true) (ha : PE X x (tE G E (evE T call a))) (hb : PE X y (tE G E (evE T call b))) : PE X (.Compare x [op.py] [y] p) (tE G E (evE T call (.cmp op a b))) := by
  refine (pe_cmpR (op_cmp (E := E) O.K O.hu op) ha hb (noSet_ok hm)).imp fun σ H Q q => ?_
  refine two_parts (fun _ _ _ _ h => h) ?_
  simpa only [tE, evE] using q
theorem okE_ix (O : XOk G T nm call fx X E) {a b : Ex} {x y : Expr} {p : Pos} (hy : isSlice y = false) (ha : PE X x (tE G E (evE T call a))) (hb : PE X y (tE G E (evE T call b))) : PE X (.Subscript x y p) (tE G E (evE T call (.ix a b))) := by
  have hs : PlainIx y := fun o i => by cases y <;> first | rfl | cases hy
  refine (pe_ix (op_ix (E := E) O.K O.hu) ha hb hs).imp fun σ H Q q => ?_
  refine two_parts (fun _ _ _ _ h => h) ?_
  simpa only [tE, evE] using q
theorem okE_neg {a : Ex} {x : Expr} {p : Pos} (ha : PE X x (tE G E (evE T call a))) : PE X (.UnaryOp .USub x p) (tE G E (evE T call (.neg a))) := by
  refine (pe_un un_neg ha).imp fun σ H Q ⟨as, ρ, h, S, R, o⟩ => ?_
  simp only [evE] at o
  refine ⟨as, ρ, h, S, R, Ok.bind o fun v h1 as1 H1 v' f1 r1 o1 => ?_⟩
  cases v with
  | int i => rw [r1.intE]; exact ⟨i, rfl, okv f1.sr o1 (.int _)⟩
  | _ => exact False.elim o1
theorem okT_of (O : XOk G T nm call fx X E) {a : Ex} {x : Expr} (ha : PE X x (tE G E (evE T call a))) (he : ∀ whole, isTrue x X.env whole = (do let v ← whole; standAt x.pos; holding [v] (truthy v))) : PT X x (tT G E (evT T call a)) := by
  refine (pt_truth ha he).imp fun σ H Q ⟨as, ρ, h, S, R, o⟩ => ?_
  simp only [evT] at o
  refine ⟨as, ρ, h, S, R, Ok.bind o fun v h1 as1 H1 v' f1 r1 o1 => ?_⟩
  split at o1
  · rename_i b q
    exact ⟨b, tru_p O.K f1.sr q r1, o1 as1 H1 b (Fut.refl f1.sr) rfl⟩
  · exact False.elim o1
end
end Mn
set_option Elab.async false
set_option linter.all false
set_option maxRecDepth 100000
set_option maxHeartbeats 4000000
namespace Mn
open PySem PySem.Spec L2 PyProof.Rows
theorem Res.bind_assoc {α β γ : Type} (r : Res α) (k : α → PH → Res β) (l : β → PH → Res γ) : (r.bind k).bind l = r.bind fun a h => (k a h).bind l := by
  induction r with
  | ok a h => rfl
  | er x h => rfl
  | stuck => rfl
  | all n f ih => simp only [Res.bind_all, ih]
theorem pCmp_form (op : Cop) (v w : PV) (h : PH) : pCmp op v w h = .stuck ∨ ∃ b, pCmp op v w h = .ok (.bl b) h := by
  have obf : ∀ b : Option Bool, ob b h = .stuck ∨ ∃ c, ob b h = .ok (.bl c) h := fun b => by
    cases b with
    | none => exact .inl rfl
    | some c => exact .inr ⟨c, rfl⟩
  unfold pCmp
  cases op <;> dsimp only <;> first
    | exact obf _
    | (split <;> first | exact obf _ | exact .inl rfl | exact .inr ⟨_, rfl⟩)
section
variable {G : Gm} {T : Tb} {nm : Nm} {call : Nat → List PV → PH → Res PV} {fx : Fx} {X : Cx} {E : XK}
theorem evT_not (a : Ex) (ρ : PEnv) (h : PH) : evT T call (.not a) ρ h = (evT T call a ρ h).bind fun b h1 => .ok (!b) h1 := by
  simp only [evT, evE, Res.bind_assoc]
  congr 1
  funext v h1
  cases e : pTru h1 v with
  | none => rfl
  | some b => rfl
theorem evT_and (a b : Ex) (ρ : PEnv) (h : PH) : evT T call (.and a b) ρ h = (evT T call a ρ h).bind fun t h1 => if t then evT T call b ρ h1 else .ok false h1 := by
  simp only [evT, evE, Res.bind_assoc]
  congr 1
  funext v h1
  cases e : pTru h1 v with
  | none => rfl
  | some t =>
    cases t with
    | true => rfl
    | false => simp only [Res.bind_ok, e]; rfl
theorem evT_or (a b : Ex) (ρ : PEnv) (h : PH) : evT T call (.or a b) ρ h = (evT T call a ρ h).bind fun t h1 => if t then .ok true h1 else evT T call b ρ h1 := by
  simp only [evT, evE, Res.bind_assoc]
  congr 1
  funext v h1
  cases e : pTru h1 v with
  | none => rfl
  | some t =>
    cases t with
    | false => rfl
    | true => simp only [Res.bind_ok, e]; rfl
theorem okT_not {a : Ex} {x : Expr} {p : Pos} (ha : PT X x (tT G E (evT T call a))) : PT X (.UnaryOp .Not x p) (tT G E (evT T call (.not a))) := by
  refine (pt_not ha).imp fun σ H Q ⟨as, ρ, h, S, R, o⟩ => ?_
  rw [evT_not] at o
  refine ⟨as, ρ, h, S, R, Ok.bind o fun b h1 as1 H1 b' f1 e o1 => ?_⟩
  subst e
  exact o1 as1 H1 _ (Fut.refl f1.sr) rfl
theorem okT_and {a b : Ex} {x y : Expr} {r : List Expr} {p : Pos} (ha : PT X x (tT G E (evT T call a))) (hb : PW X (.BoolOp .And (y :: r) p) (tT G E (evT T call b))) : PW X (.BoolOp .And (x :: y :: r) p) (tT G E (evT T call (.and a b))) := by
  refine ⟨fun whole pins s σ H Q I ⟨as, ρ, h, S, R, o⟩ => (pw_and ha hb).run whole pins s σ H Q I ?_⟩
  rw [evT_and] at o
  refine ⟨as, ρ, h, S, R, Ok.bind o fun b h1 as1 H1 b' f1 e o1 => ?_⟩
  subst e
  cases b with
  | true => exact ⟨as1, ρ, h1, f1.sr, R.fut f1, o1⟩
  | false => exact o1 as1 H1 _ (Fut.refl f1.sr) rfl
theorem okT_or {a b : Ex} {x y : Expr} {r : List Expr} {p : Pos} (ha : PT X x (tT G E (evT T call a))) (hb : PW X (.BoolOp .Or (y :: r) p) (tT G E (evT T call b))) : PW X (.BoolOp .Or (x :: y :: r) p) (tT G E (evT T call (.or a b))) := by
  refine ⟨fun whole pins s σ H Q I ⟨as, ρ, h, S, R, o⟩ => (pw_or ha hb).run whole pins s σ H Q I ?_⟩
  rw [evT_or] at o
  refine ⟨as, ρ, h, S, R, Ok.bind o fun b h1 as1 H1 b' f1 e o1 => ?_⟩
  subst e
  cases b with
  | false => exact ⟨as1, ρ, h1, f1.sr, R.fut f1, o1⟩
  | true => exact o1 as1 H1 _ (Fut.refl f1.sr) rfl
theorem okE_not (O : XOk G T nm call fx X E) {a : Ex} {x : Expr} {p : Pos} (ha : PE X x (tE G E (evE T call a))) : PE X (.UnaryOp .Not x p) (tE G E (evE T call (.not a))) := by
  refine (pe_notT ha).imp fun σ H Q ⟨as, ρ, h, S, R, o⟩ => ?_
  simp only [evE] at o
  refine ⟨as, ρ, h, S, R, Ok.bind o fun v h1 as1 H1 v' f1 r1 o1 => ?_⟩
  split at o1
  · rename_i b q
    exact ⟨b, tru_p O.K f1.sr q r1, okv f1.sr o1 (.bl _)⟩
  · exact False.elim o1
theorem okE_and (O : XOk G T nm call fx X E) {a b : Ex} {x y : Expr} {r : List Expr} {p : Pos} (ha : PE X x (tE G E (evE T call a))) (hb : PE X (.BoolOp .And (y :: r) p) (tE G E (evE T call b))) : PE X (.BoolOp .And (x :: y :: r) p) (tE G E (evE T call (.and a b))) := by
  refine (pe_andT ha hb).imp fun σ H Q ⟨as, ρ, h, S, R, o⟩ => ?_
  simp only [evE] at o
  refine ⟨as, ρ, h, S, R, Ok.bind o fun v h1 as1 H1 v' f1 r1 o1 => ?_⟩
  split at o1
  · rename_i q
    exact ⟨true, tru_p O.K f1.sr q r1, ⟨as1, ρ, h1, f1.sr, R.fut f1, o1⟩⟩
  · rename_i q
    exact ⟨false, tru_p O.K f1.sr q r1, okv f1.sr o1 r1⟩
  · exact False.elim o1
theorem okE_or (O : XOk G T nm call fx X E) {a b : Ex} {x y : Expr} {r : List Expr} {p : Pos} (ha : PE X x (tE G E (evE T call a))) (hb : PE X (.BoolOp .Or (y :: r) p) (tE G E (evE T call b))) : PE X (.BoolOp .Or (x :: y :: r) p) (tE G E (evE T call (.or a b))) := by
  refine (pe_orT ha hb).imp fun σ H Q ⟨as, ρ, h, S, R, o⟩ => ?_
  simp only [evE] at o
  refine ⟨as, ρ, h, S, R, Ok.bind o fun v h1 as1 H1 v' f1 r1 o1 => ?_⟩
  split at o1
  · rename_i q
    exact ⟨true, tru_p O.K f1.sr q r1, okv f1.sr o1 r1⟩
  · rename_i q
    exact ⟨false, tru_p O.K f1.sr q r1, ⟨as1, ρ, h1, f1.sr, R.fut f1, o1⟩⟩
  · exact False.elim o1
theorem okE_ife (O : XOk G T nm call fx X E) {c a b : Ex} {z x y : Expr} {p : Pos} (hc : PT X z (tT G E (evT T call c))) (ha : PE X x (tE G E (evE T call a))) (hb : PE X y (tE G E (evE T call b))) : PE X (.IfExp z x y p) (tE G E (evE T call (.ife c a b))) := by
  refine (pe_ifExp hc ha hb).imp fun σ H Q ⟨as, ρ, h, S, R, o⟩ => ?_
  have e : evE T call (.ife c a b) ρ h = (evT T call c ρ h).bind fun t h1 => if t then evE T call a ρ h1 else evE T call b ρ h1 := by
    simp only [evT, evE, Res.bind_assoc]
    congr 1
    funext v h1
    cases e : pTru h1 v with
    | none => rfl
    | some t => cases t <;> rfl
  rw [e] at o
  refine ⟨as, ρ, h, S, R, Ok.bind o fun b h1 as1 H1 b' f1 e o1 => ?_⟩
  subst e
  cases b with
  | true => exact ⟨as1, ρ, h1, f1.sr, R.fut f1, o1⟩
  | false => exact ⟨as1, ρ, h1, f1.sr, R.fut f1, o1⟩
theorem okT_cmp (O : XOk G T nm call fx X E) {op : Cop} {a b : Ex} {x y : Expr} {p : Pos} (hm : noSet y = true) (ha : PE X x (tE G E (evE T call a))) (hb : PE X y (tE G E (evE T call b))) : PT X (.Compare x [op.py] [y] p) (tT G E (evT T call (.cmp op a b))) := by
  refine (pt_cmpR (op_cmp (E := E) O.K O.hu op) ha hb (noSet_ok hm)).imp fun σ H Q ⟨as, ρ, h, S, R, o⟩ => ?_
  simp only [evT, evE, Res.bind_assoc] at o
  refine ⟨as, ρ, h, S, R, Ok.bind o fun v h1 as1 H1 v' f1 r1 o1 => ⟨as1, ρ, h1, f1.sr, R.fut f1, Ok.bind o1 fun w h2 as2 H2 w' f2 r2 o2 => ?_⟩⟩
  refine ⟨as2, h2, v, w, f2.sr, r1.fut f2, r2, ?_⟩
  rcases pCmp_form op v w h2 with e | ⟨b, e⟩
  · rw [e] at o2; exact False.elim o2
  · rw [e] at o2 ⊢
    exact fun as' H' v'' f r => ⟨b, r.blE, o2 as' H' b f rfl⟩
theorem lastM {o1 o2 : CmpOp} {y z : Expr} (h : noSet z = true) : lastMarks [o1, o2] [y, z] = false := by
  show behindInMarks o2 z = false
  exact noSet_ok h
theorem okE_chn (O : XOk G T nm call fx X E) {o1 o2 : Cop} {a b c : Ex} {x y z : Expr} {p : Pos} (hm : noSet z = true) (ha : PE X x (tE G E (evE T call a))) (hb : PE X y (tE G E (evE T call b))) (hc : PE X z (tE G E (evE T call c))) :
    PE X (.Compare x [o1.py, o2.py] [y, z] p) (tE G E (evE T call (.chn o1 o2 a b c))) := by
  refine (pe_chain (op_cmp (E := E) O.K O.hu o1) (op_cmp (E := E) O.K O.hu o2) ha hb hc (lastM hm)).imp fun σ H Q ⟨as, ρ, h, S, R, o⟩ => ?_
  simp only [evE] at o
  refine ⟨as, ρ, h, S, R, Ok.bind o fun v h1 as1 H1 v' f1 r1 q1 => ⟨as1, ρ, h1, f1.sr, R.fut f1, Ok.bind q1 fun w h2 as2 H2 w' f2 r2 q2 => ?_⟩⟩
  refine ⟨as2, h2, v, w, f2.sr, r1.fut f2, r2, ?_⟩
  rcases pCmp_form o1 v w h2 with e | ⟨b, e⟩
  · rw [e] at q2; exact False.elim q2
  · rw [e] at q2 ⊢
    refine fun as' H' v'' f r => ⟨b, r.blE, ?_⟩
    have q3 := Ok.fut f q2
    cases b with
    | false => exact okv f.sr q3 (.bl _)
    | true =>
      exact ⟨as', ρ, h2, f.sr, (R.fut (f1.trans f2)).fut f, Ok.bind q3 fun u h4 as4 H4 u' f4 r4 q4 => ⟨as4, h4, w, u, f4.sr, (r2.fut f).fut f4, r4, q4⟩⟩
theorem okT_chn (O : XOk G T nm call fx X E) {o1 o2 : Cop} {a b c : Ex} {x y z : Expr} {p : Pos} (hm : noSet z = true) (ha : PE X x (tE G E (evE T call a))) (hb : PE X y (tE G E (evE T call b))) (hc : PE X z (tE G E (evE T call c))) :
    PT X (.Compare x [o1.py, o2.py] [y, z] p) (tT G E (evT T call (.chn o1 o2 a b c))) := by
  refine (pt_chain (op_cmp (E := E) O.K O.hu o1) (op_cmp (E := E) O.K O.hu o2) ha hb hc (lastM hm)).imp fun σ H Q ⟨as, ρ, h, S, R, o⟩ => ?_
  simp only [evT, evE, Res.bind_assoc] at o
  refine ⟨as, ρ, h, S, R, Ok.bind o fun v h1 as1 H1 v' f1 r1 q1 => ⟨as1, ρ, h1, f1.sr, R.fut f1, Ok.bind q1 fun w h2 as2 H2 w' f2 r2 q2 => ?_⟩⟩
  refine ⟨as2, h2, v, w, f2.sr, r1.fut f2, r2, ?_⟩
  rcases pCmp_form o1 v w h2 with e | ⟨b, e⟩
  · rw [e] at q2; exact False.elim q2
  · rw [e] at q2 ⊢
    refine fun as' H' v'' f r => ⟨b, r.blE, ?_⟩
    have q3 := Ok.fut f q2
    cases b with
    | false => exact ⟨false, rfl, q3 as' H' false (Fut.refl f.sr) rfl⟩
    | true =>
      simp only [Res.bind_ok, Res.bind_assoc] at q3
      refine ⟨as', ρ, h2, f.sr, (R.fut (f1.trans f2)).fut f, Ok.bind q3 fun u h4 as4 H4 u' f4 r4 q4 => ⟨as4, h4, w, u, f4.sr, (r2.fut f).fut f4, r4, ?_⟩⟩
      rcases pCmp_form o2 w u h4 with e | ⟨b, e⟩
      · rw [e] at q4; exact False.elim q4
      · rw [e] at q4 ⊢
        exact fun as' H' v'' f r => ⟨b, r.blE, q4 as' H' b f rfl⟩
theorem okA_nil : PA X [] (tA G E (evEs T call [])) := by
  refine pa_nil.imp fun σ H Q ⟨as, ρ, h, S, R, o⟩ => ?_
  simp only [evEs] at o
  exact o as H [] (Fut.refl S) .nil
theorem evEs_cons {e : Ex} {es : List Ex} (he : ∀ x, e ≠ .star x) (ρ : PEnv) (h : PH) : evEs T call (e :: es) ρ h = (evE T call e ρ h).bind fun v h1 => (evEs T call es ρ h1).bind fun vs h2 => .ok (v :: vs) h2 := by
  cases e <;> first | rfl | exact absurd rfl (he _)
theorem star_cons {x : Expr} {xs : List Expr} {env : Env} (h : isStar x = false) : starEach (x :: xs) env = (false, eval x env) :: starEach xs env := by
  cases x <;> first | rfl | cases h
theorem okA_cons {e : Ex} {es : List Ex} {x : Expr} {xs : List Expr} (hs : isStar x = false) (he : ∀ y, e ≠ .star y) (h1 : PE X x (tE G E (evE T call e))) (h2 : PA X xs (tA G E (evEs T call es))) : PA X (x :: xs) (tA G E (evEs T call (e :: es))) := by
  refine (pa_cons h1 h2 (star_cons hs)).imp fun σ H Q ⟨as, ρ, h, S, R, o⟩ => ?_
  rw [evEs_cons he] at o
  refine ⟨as, ρ, h, S, R, Ok.bind o fun v h1 as1 H1 v' f1 r1 o1 => ⟨as1, ρ, h1, f1.sr, R.fut f1, Ok.bind o1 fun vs h2 as2 H2 vs' f2 r2 o2 => ?_⟩⟩
  exact o2 as2 H2 _ (Fut.refl f2.sr) (.cons (r1.fut f2) r2)
theorem okE_tup {es : List Ex} {xs : List Expr} {k : Nat} {p : Pos} (h : PA X xs (tA G E (evEs T call es))) : PE X (.Tuple xs k p) (tE G E (evE T call (.tup es))) := by
  refine (pe_tup h).imp fun σ H Q ⟨as, ρ, h, S, R, o⟩ => ?_
  simp only [evE] at o
  refine ⟨as, ρ, h, S, R, Ok.bind o fun vs h1 as1 H1 vs' f1 r1 o1 => ?_⟩
  split at o1
  · rename_i hl
    refine ⟨by rw [← r1.length]; exact hl, fun p hp => ?_⟩
    obtain ⟨f, r⟩ := f1.sr.tup hp r1
    exact okn o1 f r
  · exact False.elim o1
theorem okE_lst {es : List Ex} {xs : List Expr} {p : Pos} (h : PA X xs (tA G E (evEs T call es))) : PE X (.List xs p) (tE G E (evE T call (.lst es))) := by
  refine (pe_lst h).imp fun σ H Q ⟨as, ρ, h, S, R, o⟩ => ?_
  simp only [evE] at o
  refine ⟨as, ρ, h, S, R, Ok.bind o fun vs h1 as1 H1 vs' f1 r1 o1 => ?_⟩
  split at o1
  · rename_i hl
    refine ⟨by rw [← r1.length]; exact hl, fun p hp => ?_⟩
    obtain ⟨f, r⟩ := f1.sr.newL hp r1
    exact okn o1 f r
  · exact False.elim o1
theorem okP_none : L2.PO X none (tO G E fun ρ h => partR .nop (evE T call .nop ρ h) h) := by
  refine ⟨fun pins s σ H Q I ⟨as, ρ, h, S, R, o⟩ => po_none.run pins s σ H Q I ?_⟩
  exact o as H none (Fut.refl S) rfl
theorem partR_e {e : Ex} (h : isNop e = false) (r : Res PV) (hh : PH) : partR e r hh = r.bind fun v h1 => match v with
    | .int i => .ok (some i) h1
    | _ => .stuck := by cases e <;> first | rfl | cases h
theorem okP_some {e : Ex} {x : Expr} (hn : isNop e = false) (he : PE X x (tE G E (evE T call e))) : L2.PO X (some x) (tO G E fun ρ h => partR e (evE T call e ρ h) h) := by
  refine ⟨fun pins s σ H Q I ⟨as, ρ, h, S, R, o⟩ => (po_some he).run pins s σ H Q I ?_⟩
  dsimp only at o
  rw [partR_e hn] at o
  refine ⟨as, ρ, h, S, R, Ok.bind o fun v h1 as1 H1 v' f1 r1 o1 => ?_⟩
  cases v with
  | int i => rw [r1.intE]; exact ⟨i, rfl, o1 as1 H1 _ (Fut.refl f1.sr) rfl⟩
  | _ => exact False.elim o1
theorem okE_sl (O : XOk G T nm call fx X E) {a lo hi : Ex} {x : Expr} {l u : Option Expr} {p p2 : Pos} (ha : PE X x (tE G E (evE T call a))) (hl : L2.PO X l (tO G E fun ρ h => partR lo (evE T call lo ρ h) h)) (hu : L2.PO X u (tO G E fun ρ h => partR hi (evE T call hi ρ h) h)) :
    PE X (.Subscript x (.Slice l u none p2) p) (tE G E (evE T call (.sl a lo hi))) := by
  refine (pe_slice (sl_all (E := E) O.K) ha hl hu).imp fun σ H Q ⟨as, ρ, h, S, R, o⟩ => ?_
  simp only [evE] at o
  refine ⟨as, ρ, h, S, R, Ok.bind o fun v h1 as1 H1 v' f1 r1 o1 => ⟨as1, ρ, h1, f1.sr, R.fut f1, Ok.bind o1 fun w h2 as2 H2 w' f2 r2 o2 => ?_⟩⟩
  subst r2
  refine ⟨as2, ρ, h2, f2.sr, R.fut (f1.trans f2), Ok.bind o2 fun w h3 as3 H3 w' f3 r3 o3 => ?_⟩
  subst r3
  exact ⟨as3, h3, v, f3.sr, r1.fut (f2.trans f3), o3⟩
theorem noStars : ∀ {xs : List Expr} {env : Env} {pos : Pos}, xs.all (fun x => !isStar x) = true → (backTo pos (starEach xs env)).any (·.1) = false
  | [], _, _, _ => rfl
  | x :: xs, env, pos, h => by
    simp only [List.all_cons, Bool.and_eq_true, Bool.not_eq_true'] at h
    rw [star_cons h.1]
    show (false || (backTo pos (starEach xs env)).any (·.1)) = false
    rw [noStars h.2]
    rfl
theorem bi_dbg (f : Bi) : (f.nm == ("__debug__" : Str)) = false := by cases f <;> decide +kernel
theorem bi_name (f : Bi) : f.nm ≠ "__name__" := by cases f <;> decide +kernel
theorem okE_bi (O : XOk G T nm call fx X E) {f : Bi} {es : List Ex} {x : Expr} {xs : List Expr} {p pos : Pos} (hg : glB fx.names f.nm = true) (h : PA X (x :: xs) (tA G E (evEs T call es))) (hx : isStar x = false) (hxs : xs.all (fun x => !isStar x) = true) :
    PE X (.Call (.Name f.nm p) (x :: xs) [] pos) (tE G E (evE T call (.bi f es))) := by
  have key : PE X (.Call (.Name f.nm p) (x :: xs) [] pos) (tCB (rPn G E (pBi T f)) (tA G E (evEs T call es))) := by
    have c := call_bi (E := E) (T := T) O.K O.calm O.cls f
    have b := bi_boot f
    have hm := O.bl f
    have hgl := gl_ok O hg
    cases hf : f.py with
    | builtin id => rw [hf] at c b; exact pe_callB c hgl hm b h (bi_name f) (bi_dbg f) (star_cons hx) (noStars hxs)
    | type id => rw [hf] at c b; exact pe_callTy c hgl hm b h (bi_name f) (bi_dbg f) (star_cons hx) (noStars hxs)
    | _ => cases f <;> cases hf
  refine key.imp fun σ H Q ⟨as, ρ, h, S, R, o⟩ => ?_
  simp only [evE] at o
  exact ⟨as, ρ, h, S, R, Ok.bind o fun vs h1 as1 H1 vs' f1 r1 o1 => ⟨as1, h1, vs, f1.sr, r1, o1⟩⟩
end
end Mn
set_option Elab.async false
set_option linter.all false
set_option maxRecDepth 100000
set_option maxHeartbeats 4000000
namespace Mn
open PySem PySem.Spec L2 PyProof.Rows
def Itst (x : Str) : It :=
  ⟨fun i H => i < x.cps.size, fun i H v H' => ∃ T c, v = .ref T ∧ H T = none ∧ H' = upd H T (.tup [.int (i : Nat), .str ⟨#[c]⟩]) ∧ x.cps[i]? = some c, fun i H => i = x.cps.size⟩
theorem turn_ens {P : Program} {w : World} {K : PySem.W.Frag} {elts : List Expr} {kk : Nat} {tpos : Pos} (x : Str) (t : Tok) (e it : Addr) :
    Turn P w K (.Tuple elts kk tpos) (Itst x) [e, it] e (fun i h => (∃ old, IsEnum h e it ((i : Nat) : Int) old) ∧ h.IsStrIter it (strIterType x) x t i ∧ e ≠ it) where
  mem := by simp
  obj := fun i h st b hb => by
    obtain ⟨⟨old, he⟩, ⟨o, ho, hc, hd⟩, _⟩ := st
    have e' : b = e ∨ b = it := by simpa using hb
    rcases e' with z | z
    · rw [z]; exact ⟨_, he, fun v q => nomatch q⟩
    · rw [z]; exact ⟨o, ho, fun v q => by rw [hd] at q; cases q⟩
  keep := fun i h h' st k => let ⟨⟨old, he⟩, hi, hne⟩ := st; ⟨⟨old, k e (by simp) _ he⟩, let ⟨o, ho, r⟩ := hi; ⟨o, k it (by simp) o ho, r⟩, hne⟩
  item := by
    intro X hP hw hK hc i pins s σ H E I hf st hg
    subst hP hw hK
    obtain ⟨⟨old, he⟩, hit, hne⟩ := st
    have hef : e ∉ [it] := fun h => hne (List.mem_singleton.mp h)
    have hel : e < s.heap.objs.size := Heap.lt_size he
    have hil : it < s.heap.objs.size := by obtain ⟨_, q, _⟩ := hit; exact Heap.lt_size q
    refine wpAny_pyNext_enum_itemD (Draws.text (A := X.A.in1) (I.ok.hd hc) it x t) he hit hg hne hef fun u h' tk hPu ho hit' hT hsz hk => ?_
    obtain ⟨c, tc, ec, rfl⟩ := hPu
    refine ⟨_, rfl, wpAny_letOwnedTupleGo_enum (s := { s with heap := h', toks := tk + 1 }) ho fun h'' he' sb => ?_⟩
    have hT2 : h''.get? s.heap.objs.size = some { cls := .type "tuple", data := .seq #[.int i tk, .str ⟨#[c]⟩ tc] } := (sb.2 _ (Nat.ne_of_gt hel)).trans hT
    have new : ObjOk X.prog X.w (upd H s.heap.objs.size (.tup [.int (i : Nat), .str ⟨#[c]⟩])) h'' s.heap.objs.size (.tup [.int (i : Nat), .str ⟨#[c]⟩]) :=
      ⟨by show 2 ≤ sizeLine; decide, [.int i tk, .str ⟨#[c]⟩ tc], .cons ⟨_, rfl⟩ (.cons ⟨_, rfl⟩ .nil), ⟨_, hT2, rfl, _, rfl⟩⟩
    have I1 : Inv X pins σ (upd H s.heap.objs.size (.tup [.int (i : Nat), .str ⟨#[c]⟩])) { s with heap := h'', toks := tk + 1 } :=
      I.turnedNew (ch := [e, it]) (fun b ob hb q => (sb.2 b (fun z => hb (by simp [z]))).trans (hk b ob (fun z => hb (by simp [z])) (fun z => hb (by simp [z])) q)) hf (Nat.le_refl _) new
    refine ⟨.ref s.heap.objs.size, _, I1, rfl, ⟨_, c, rfl, I.hok.fresh (Nat.le_refl _), rfl, ec⟩, ⟨⟨.str ⟨#[c]⟩ tc, ?_⟩, ?_, hne⟩, fun b hb => ?_⟩
    · have e1 : ((i + 1 : Nat) : Int) = (i : Int) + 1 := by omega
      rw [e1]; exact he'
    · obtain ⟨o, ho2, r⟩ := hit'
      exact ⟨o, (sb.2 it (Ne.symm hne)).trans ho2, r⟩
    · have hb' : b < s.heap.objs.size := by
        have e' : b = e ∨ b = it := by simpa using hb
        rcases e' with z | z
        · rw [z]; exact hel
        · rw [z]; exact hil
      rw [upd_ne (Nat.ne_of_lt hb')]
      exact (hf b hb).1
  done := by
    intro X hP hw hK hc i pins s σ H E I hf st hg
    subst hP hw hK
    obtain ⟨⟨old, he⟩, hit, hne⟩ := st
    obtain ⟨f0, f1, f2, f3, f4, f5⟩ := hf it (by simp)
    have hg' : i = x.cps.size := hg
    subst hg'
    exact wpAny_pyNext_enum_endD (Draws.text (A := X.A.in1) (I.ok.hd hc) it x t) he hit fun h' eb => ⟨rfl, I.turned (t' := s.toks) (fun b o hb q => eb b o hb q) f0 f1 f3 f4 f5⟩
  self := fun A i s Q E st h => let ⟨⟨_, he⟩, _⟩ := st; wpAny_pyIter_enum he h
def iEnums (K : PySem.W.Frag) (ta : TA) : TI := fun σ H R => ta σ H fun vs H1 => (∃ a xs, vs = [.ref a] ∧ SqL K H1 a xs ∧ R (Ite K a) H1) ∨ ∃ x, vs = [.str x] ∧ R (Itst x) H1
theorem pi_enums {X : Cx} {e : Expr} {ta : TA} {p pos tpos : Pos} {elts : List Expr} {kk : Nat} (hg : Gl X "enumerate") (hm : X.mg "enumerate" = none) (ha : PA X [e] ta) (hs : starEach [e] X.env = [(false, eval e X.env)] := by rfl) :
    PI X (.Tuple elts kk tpos) (.Call (.Name "enumerate" p) [e] [] pos) (iEnums X.K ta) := by
  refine ⟨fun pins s σ H R I h => ?_⟩
  refine Call_ (ld_blt I hg hm boot_enumerate (PyProof.Rows.callWith_type1 (thn (ha.run pos pins s σ H _ I h) fun us s1 ⟨vs, H1, I1, r1, q1⟩ => ?_) hs rfl))
  rcases q1 with ⟨a, xs, ex, hq, q⟩ | ⟨x, ex, q⟩
  · subst ex
    cases r1 with
    | cons r rr =>
      cases rr
      cases r
      obtain ⟨its, rv, p', hz⟩ := I1.list hq
      refine call_enumerate_list p'.isList fun h' he hit hsz hk => wpAny_pyIter_enum he ?_
      have I2 : Inv X pins σ H1 { s1 with heap := h' } := I1.kept (t' := s1.toks) hk
      refine ⟨s1.heap.objs.size + 1, [s1.heap.objs.size + 1, s1.heap.objs.size], _, _, H1, rfl, I2, turn_enum a (s1.heap.objs.size + 1) s1.heap.objs.size, ⟨⟨.none, he⟩, hit, Nat.succ_ne_self _⟩, fun b hb => ?_, q⟩
      have e' : b = s1.heap.objs.size + 1 ∨ b = s1.heap.objs.size := by simpa using hb
      have hle : s1.heap.objs.size ≤ b := by
        rcases e' with z | z
        · rw [z]; exact Nat.le_add_right _ _
        · rw [z]; exact Nat.le_refl _
      exact I1.fpOk hle (I1.hok.fresh hle)
  · subst ex
    cases r1 with
    | cons r rr =>
      cases rr
      obtain ⟨t, rfl⟩ := r
      refine call_enumerate_str fun h' he hit hsz hk => wpAny_pyIter_enum he ?_
      have I2 : Inv X pins σ H1 { s1 with heap := h' } := I1.kept (t' := s1.toks) hk
      refine ⟨s1.heap.objs.size + 1, [s1.heap.objs.size + 1, s1.heap.objs.size], _, _, H1, rfl, I2, turn_ens x t (s1.heap.objs.size + 1) s1.heap.objs.size, ⟨⟨.none, he⟩, hit, Nat.succ_ne_self _⟩, fun b hb => ?_, q⟩
      have e' : b = s1.heap.objs.size + 1 ∨ b = s1.heap.objs.size := by simpa using hb
      have hle : s1.heap.objs.size ≤ b := by
        rcases e' with z | z
        · rw [z]; exact Nat.le_add_right _ _
        · rw [z]; exact Nat.le_refl _
      exact I1.fpOk hle (I1.hok.fresh hle)
end Mn
set_option Elab.async false
set_option linter.all false
set_option maxRecDepth 100000
set_option maxHeartbeats 4000000
namespace Mn
open PySem PySem.Spec L2 PyProof.Rows
def enT1 (h : Heap) (t : Addr) : Heap := h.push { cls := .type "tuple_iterator", data := .fields #[.ref t, .int 0 0] }
def enT2 (h : Heap) (t : Addr) : Heap := (enT1 h t).push { cls := .type "enumerate", data := .fields #[.none, .bool false, .ref h.objs.size, rawInt 0, .none, .none] }
open AutoSeq1 (wpAny_loadPart') in
theorem newT_meets (t : Addr) (its : Array Value) (n : Nat) (od : Option Addr) (os : Array (Option Value)) :
    Meets (Builtin.«enumerate.__new__» ⟨[.type "enumerate", .ref t], []⟩) (fun _ R z => z.heap.get? t = some { cls := .type "tuple", dict := od, data := .seq its n, slots := os } ∧
      R (.ok (.ret (.ref (enT1 z.heap t).objs.size))) { z with heap := enT2 z.heap t }) :=
  .of_wp fun P0 w0 A0 R0 z hz => by
    obtain ⟨hp, g, d, tk, oo⟩ := z
    obtain ⟨ht, hz⟩ := hz
    have hsub := sub_enumerate
    have hT : Heap.IsTuple (Shared.heap ⟨hp, g, d, tk, oo⟩) t its := ⟨_, ht, rfl, n, rfl⟩
    wp_walk using wpAny_loadPart' ht
    refine wpAny_stack_any fun _ => wpAny_pure ?_
    split
    · rename_i c _ _ _ _ _
      cases (c == Value.type "enumerate") <;> (wp_walk using wpAny_loadPart' ht, wpAny_pyIter_tuple hT; exact ⟨_, rfl, hz⟩)
    · wp_walk using wpAny_loadPart' ht, wpAny_pyIter_tuple hT
      exact ⟨_, rfl, hz⟩
theorem enumT_call {prog : Program} {w : World} {A : Around} {E : Value → Shared → Prop} {s : Shared} {t : Addr} {its : Array Value} {Q : Value → Shared → Prop} (hT : s.heap.IsTuple t its)
    (h : ∀ h1, IsEnum h1 (s.heap.objs.size + 1) s.heap.objs.size 0 .none → h1.IsTupleIter s.heap.objs.size t 0 → (∀ b o, s.heap.get? b = some o → h1.get? b = some o) → Q (.ref (s.heap.objs.size + 1)) { s with heap := h1 }) :
    wpAny (model prog w) A (call (.type "enumerate") [.ref t]) Q E s := by
  obtain ⟨⟨c, od, dt, os⟩, ht, hc, n, hd⟩ := hT
  replace hc : c = .type "tuple" := hc
  replace hd : dt = .seq its n := hd
  subst hc hd
  refine callType_new F.called_enumerate (by decide) (F.typeCall_enumerate_1 _) (F.newCall_enumerate_1 _) (fun o => F.args_object_init_2 o _) F.entry_enumerate_new (newT_meets t its n od os) ⟨ht, ?_⟩
  have z1 : (enT1 s.heap t).objs.size = s.heap.objs.size + 1 := Heap.size_push ..
  rw [z1]
  have he : IsEnum (enT2 s.heap t) (s.heap.objs.size + 1) s.heap.objs.size 0 .none := by
    have q := Heap.get?_push_size (enT1 s.heap t) (o := { cls := .type "enumerate", data := .fields #[.none, .bool false, .ref s.heap.objs.size, rawInt 0, .none, .none] }) rfl
    rw [z1] at q
    exact q
  exact ⟨⟨_, he, rfl⟩, h _ he ⟨_, Heap.get?_push_of_some _ (Heap.get?_push_size _ rfl), rfl, rfl⟩ fun b o x => Heap.get?_push_of_some _ (Heap.get?_push_of_some _ x)⟩
def Itet (K : PySem.W.Frag) (a : Addr) : It :=
  ⟨fun i H => ∃ (xs : List V) (x : V), SqT K H a xs ∧ xs[i]? = some x, fun i H v H' => ∃ N x, v = .ref N ∧ H N = none ∧ H' = upd H N (.tup [.int (i : Nat), x]) ∧ ∀ xs, SqT K H a xs → xs[i]? = some x, fun i H => ∃ xs : List V, SqT K H a xs ∧ xs.length = i⟩
theorem tup_apart {s : Heap} {t it : Addr} {its : Array Value} {i : Nat} (hT : s.IsTuple t its) (hi : s.IsTupleIter it t i) : t ≠ it := by
  rintro rfl
  obtain ⟨o, e, c, _⟩ := hT
  obtain ⟨o2, e2, c2, _⟩ := hi
  rw [e] at e2
  cases e2
  rw [c] at c2
  exact absurd c2 (by decide)
theorem tup_apart2 {s : Heap} {t e it : Addr} {its : Array Value} {i : Int} {old : Value} (hT : s.IsTuple t its) (he : IsEnum s e it i old) : e ≠ t := by
  rintro rfl
  obtain ⟨o, q, c, _⟩ := hT
  rw [show s.get? e = _ from he] at q
  cases q
  exact absurd (show Value.type "enumerate" = Value.type "tuple" from c) (by decide)
theorem turn_ent {P : Program} {w : World} {K : PySem.W.Frag} {elts : List Expr} {kk : Nat} {tpos : Pos} (a e it : Addr) :
    Turn P w K (.Tuple elts kk tpos) (Itet K a) [e, it] e (fun i h => (∃ old, IsEnum h e it ((i : Nat) : Int) old) ∧ h.IsTupleIter it a i ∧ e ≠ it) where
  mem := by simp
  obj := fun i h st b hb => by
    obtain ⟨⟨old, q1⟩, ⟨o, ho, hc, hd⟩, _⟩ := st
    rcases (show b = e ∨ b = it by simpa using hb) with z | z
    · rw [z]; exact ⟨_, q1, fun v q => nomatch q⟩
    · rw [z]; exact ⟨o, ho, fun v q => by rw [hd] at q; cases q⟩
  keep := fun i h h' st k => let ⟨⟨old, q1⟩, q2, q3⟩ := st; ⟨⟨old, k e (by simp) _ q1⟩, q2.at fun o q => k it (by simp) o q, q3⟩
  item := by
    intro X hP hw hK hc i pins s σ H E I hf st hg
    subst hP hw hK
    obtain ⟨⟨old, q1⟩, q2, q3⟩ := st
    obtain ⟨xs, x, hq, hx⟩ := hg
    obtain ⟨its, rv, p, hz⟩ := I.tuple hq
    have hT : s.heap.IsTuple a its.toArray := p
    obtain ⟨u, hu, ru⟩ := rv.get hx
    have hel : e < s.heap.objs.size := Heap.lt_size q1
    have hil : it < s.heap.objs.size := by obtain ⟨_, q, _⟩ := q2; exact Heap.lt_size q
    have hlt : i < its.toArray.size := by simpa using (List.getElem?_eq_some_iff.mp hu).1
    have hnot : e ∉ [it, a] := fun h => by
      rcases (show e = it ∨ e = a by simpa using h) with z | z
      · exact q3 z
      · exact tup_apart2 hT q1 z
    refine wpAny_pyNext_enum_itemD (Draws.tuple (A := X.A.in1) (I.ok.hd hc) it a (tup_apart hT q2) its.toArray) q1 ⟨q2, hT⟩ hlt q3 hnot fun u' h' tk hPu ho st' hN hsz hk => ?_
    have eu : u' = u := by
      have : its.toArray[i]? = some u := by simpa using hu
      rw [this] at hPu
      exact (Option.some.inj hPu).symm
    subst eu
    refine ⟨_, rfl, wpAny_letOwnedTupleGo_enum (s := { s with heap := h', toks := tk + 1 }) ho fun h2 he2 sb => ?_⟩
    have hN2 : h2.get? s.heap.objs.size = some { cls := .type "tuple", data := .seq #[.int i tk, u'] } := (sb.2 _ (Nat.ne_of_gt hel)).trans hN
    have new : ObjOk X.prog X.w (upd H s.heap.objs.size (.tup [.int (i : Nat), x])) h2 s.heap.objs.size (.tup [.int (i : Nat), x]) :=
      ⟨by show 2 ≤ sizeLine; decide, [.int i tk, u'], .cons ⟨_, rfl⟩ (.cons ru .nil), ⟨_, hN2, rfl, _, rfl⟩⟩
    have I1 : Inv X pins σ (upd H s.heap.objs.size (.tup [.int (i : Nat), x])) { s with heap := h2, toks := tk + 1 } :=
      I.turnedNew (ch := [e, it]) (fun b o hb q => (sb.2 b (fun z => hb (by simp [z]))).trans (hk b o (fun z => hb (by simp [z])) (fun z => hb (by simp [z])) q)) hf (Nat.le_refl _) new
    refine ⟨.ref s.heap.objs.size, _, I1, rfl, ⟨_, x, rfl, I.hok.fresh (Nat.le_refl _), rfl, fun ys hy => by rw [I.tuple_inj hy hq]; exact hx⟩, ⟨⟨u', ?_⟩, st'.1.at fun o q => (sb.2 it (Ne.symm q3)).trans q, q3⟩, fun b hb => ?_⟩
    · rw [show ((i + 1 : Nat) : Int) = (i : Int) + 1 by omega]
      exact he2
    · have hlb : b < s.heap.objs.size := by
        rcases (show b = e ∨ b = it by simpa using hb) with z | z
        · rw [z]; exact hel
        · rw [z]; exact hil
      rw [upd_ne (Nat.ne_of_lt hlb)]
      exact (hf b hb).1
  done := by
    intro X hP hw hK hc i pins s σ H E I hf st hg
    subst hP hw hK
    obtain ⟨⟨old, q1⟩, q2, q3⟩ := st
    obtain ⟨xs, hq, hx⟩ := hg
    obtain ⟨its, rv, p, hz⟩ := I.tuple hq
    have hT : s.heap.IsTuple a its.toArray := p
    obtain ⟨f0, f1, f2, f3, f4, f5⟩ := hf it (by simp)
    have hl : i = its.toArray.size := by have := rv.length; simp; omega
    subst hl
    exact wpAny_pyNext_enum_endD (Draws.tuple (A := X.A.in1) (I.ok.hd hc) it a (tup_apart hT q2) its.toArray) q1 ⟨q2, hT⟩ fun h' eb => ⟨rfl, I.turned (t' := s.toks) (fun b o hb q => eb b o hb q) f0 f1 f3 f4 f5⟩
  self := fun A i s Q E st h => let ⟨⟨_, q⟩, _⟩ := st; wpAny_pyIter_enum q h
def iEnum3 (K : PySem.W.Frag) (ta : TA) : TI := fun σ H R => ta σ H fun vs H1 => ((∃ a xs, vs = [.ref a] ∧ SqL K H1 a xs ∧ R (Ite K a) H1) ∨ ∃ x, vs = [.str x] ∧ R (Itst x) H1) ∨ ∃ a xs, vs = [.ref a] ∧ SqT K H1 a xs ∧ R (Itet K a) H1
theorem pi_enum3 {X : Cx} {e : Expr} {ta : TA} {p pos tpos : Pos} {elts : List Expr} {kk : Nat} (hg : Gl X "enumerate") (hm : X.mg "enumerate" = none) (ha : PA X [e] ta) (hs : starEach [e] X.env = [(false, eval e X.env)] := by rfl) :
    PI X (.Tuple elts kk tpos) (.Call (.Name "enumerate" p) [e] [] pos) (iEnum3 X.K ta) := by
  refine ⟨fun pins s σ H R I h => ?_⟩
  refine Call_ (ld_blt I hg hm boot_enumerate (PyProof.Rows.callWith_type1 (thn (ha.run pos pins s σ H _ I h) fun us s1 ⟨vs, H1, I1, r1, q1⟩ => ?_) hs rfl))
  rcases q1 with (⟨a, xs, ex, hq, q⟩ | ⟨x, ex, q⟩) | ⟨a, xs, ex, hq, q⟩
  · subst ex
    match r1 with
    | .cons r .nil =>
      cases r
      obtain ⟨its, rv, p', hz⟩ := I1.list hq
      refine call_enumerate_list p'.isList fun h' he hit hsz hk => wpAny_pyIter_enum he ?_
      have I2 : Inv X pins σ H1 { s1 with heap := h' } := I1.kept (t' := s1.toks) hk
      refine ⟨s1.heap.objs.size + 1, [s1.heap.objs.size + 1, s1.heap.objs.size], _, _, H1, rfl, I2, turn_enum a (s1.heap.objs.size + 1) s1.heap.objs.size, ⟨⟨.none, he⟩, hit, Nat.succ_ne_self _⟩, fun b hb => ?_, q⟩
      have hle : s1.heap.objs.size ≤ b := by
        rcases (show b = s1.heap.objs.size + 1 ∨ b = s1.heap.objs.size by simpa using hb) with z | z
        · rw [z]; exact Nat.le_succ _
        · rw [z]; exact Nat.le_refl _
      exact I1.fpOk hle (I1.hok.fresh hle)
  · subst ex
    match r1 with
    | .cons r .nil =>
      obtain ⟨t, rfl⟩ := r
      refine call_enumerate_str fun h' he hit hsz hk => wpAny_pyIter_enum he ?_
      have I2 : Inv X pins σ H1 { s1 with heap := h' } := I1.kept (t' := s1.toks) hk
      refine ⟨s1.heap.objs.size + 1, [s1.heap.objs.size + 1, s1.heap.objs.size], _, _, H1, rfl, I2, turn_ens x t (s1.heap.objs.size + 1) s1.heap.objs.size, ⟨⟨.none, he⟩, hit, Nat.succ_ne_self _⟩, fun b hb => ?_, q⟩
      have hle : s1.heap.objs.size ≤ b := by
        rcases (show b = s1.heap.objs.size + 1 ∨ b = s1.heap.objs.size by simpa using hb) with z | z
        · rw [z]; exact Nat.le_succ _
        · rw [z]; exact Nat.le_refl _
      exact I1.fpOk hle (I1.hok.fresh hle)
  · subst ex
    match r1 with
    | .cons r .nil =>
      cases r
      obtain ⟨its, rv, p', hz⟩ := I1.tuple hq
      refine enumT_call p' fun h' he hit hk => wpAny_pyIter_enum he ?_
      have I2 : Inv X pins σ H1 { s1 with heap := h' } := I1.kept (t' := s1.toks) hk
      refine ⟨s1.heap.objs.size + 1, [s1.heap.objs.size + 1, s1.heap.objs.size], _, _, H1, rfl, I2, turn_ent a (s1.heap.objs.size + 1) s1.heap.objs.size, ⟨⟨.none, he⟩, hit, Nat.succ_ne_self _⟩, fun b hb => ?_, q⟩
      have hle : s1.heap.objs.size ≤ b := by
        rcases (show b = s1.heap.objs.size + 1 ∨ b = s1.heap.objs.size by simpa using hb) with z | z
        · rw [z]; exact Nat.le_succ _
        · rw [z]; exact Nat.le_refl _
      exact I1.fpOk hle (I1.hok.fresh hle)
end Mn
set_option Elab.async false
set_option linter.all false
set_option maxRecDepth 100000
set_option maxHeartbeats 4000000
namespace Mn
open PySem PySem.Spec L2 PyProof.Rows
section
variable {G : Gm} {T : Tb} {nm : Nm} {call : Nat → List PV → PH → Res PV} {fx : Fx} {X : Cx} {E : XK}
def WkOk (G : Gm) (as0 : List Addr) (H0 : Hp) (w : Wk) (J : It) : Prop := ∀ as H h, as0 <+: as → Kp H0 H → SR G as H h → ∀ i,
  (wkAt h i w = some none → J.stop i H) ∧ ∀ x, wkAt h i w = some (some x) → J.go i H ∧ ∀ v H', J.yld i H v H' → Fut G as H as H' h ∧ RepV G as H' x v
def tI (G : Gm) (E : XK) (ev : PEnv → PH → Res (Wk × Nat)) : TI := fun σ H R => ∃ as ρ h, SR G as H h ∧ RepE G as H ρ σ ∧ Ok G E as H (fun as' H' (p : Wk × Nat) (J : It) => WkOk G as' H' p.1 J) R (ev ρ h)
def evI (T : Tb) (call : Nat → List PV → PH → Res PV) (k : Ik) (its : List Ex) (ρ : PEnv) (h : PH) : Res (Wk × Nat) := (evEs T call its ρ h).bind fun vs h1 => match wkOf k vs h1 with
  | none => .stuck
  | some p => .ok p h1
theorem WkOk.fixT {as : List Addr} {H : Hp} {a : Addr} {xs : List PV} {vs : List V} (s : SqT G.K H a vs) (r : RepVs G as H xs vs) : WkOk G as H (.fix xs) (Itt G.K a) := fun as' H' h hp kp S i => by
  have s' := kp.sqT s
  have r' := r.mono hp kp
  refine ⟨fun e => ⟨vs, s', ?_⟩, fun x e => ?_⟩
  · simp only [wkAt, Option.some.injEq] at e
    rw [← r'.length]
    exact List.getElem?_eq_none_iff.mp e
  · simp only [wkAt, Option.some.injEq] at e
    obtain ⟨v, ev, rv⟩ := r'.get e
    refine ⟨⟨vs, v, s', ev⟩, fun u H2 y => ?_⟩
    obtain ⟨rfl, q⟩ := y
    have := q vs s'
    rw [ev] at this
    cases this
    exact ⟨Fut.refl S, rv⟩
theorem WkOk.lst {as : List Addr} {H : Hp} {a : Addr} {l : Nat} (ea : as[l]? = some a) : WkOk G as H (.lst l) (Itl G.K a) := fun as' H' h hp kp S i => by
  have ea' := pre_get hp ea
  refine ⟨fun e => ?_, fun x e => ?_⟩
  · simp only [wkAt] at e
    obtain ⟨xs, e1, e2⟩ := Option.map_eq_some_iff.mp e
    obtain ⟨vs, s, r⟩ := S.lst e1 ea'
    exact ⟨vs, s, by rw [← r.length]; exact List.getElem?_eq_none_iff.mp e2⟩
  · simp only [wkAt] at e
    obtain ⟨xs, e1, e2⟩ := Option.map_eq_some_iff.mp e
    obtain ⟨vs, s, r⟩ := S.lst e1 ea'
    obtain ⟨v, ev, rv⟩ := r.get e2
    refine ⟨⟨vs, v, s, ev⟩, fun u H2 y => ?_⟩
    obtain ⟨rfl, q⟩ := y
    have := q vs s
    rw [ev] at this
    cases this
    exact ⟨Fut.refl S, rv⟩
theorem WkOk.str {as : List Addr} {H : Hp} {x : List Nat} : WkOk G as H (.fix (x.map fun c => .str [c])) (Its ⟨x.toArray⟩) := fun as' H' h hp kp S i => by
  refine ⟨fun e => ?_, fun y e => ?_⟩
  · simp only [wkAt, Option.some.injEq, List.getElem?_map, Option.map_eq_none_iff] at e
    show x.toArray.size ≤ i
    simpa using e
  · simp only [wkAt, Option.some.injEq, List.getElem?_map] at e
    obtain ⟨c, ec, rfl⟩ := Option.map_eq_some_iff.mp e
    refine ⟨by show i < x.toArray.size; simpa using (List.getElem?_eq_some_iff.mp ec).1, fun u H2 y => ?_⟩
    obtain ⟨rfl, c', ec', rfl⟩ := y
    have : some c = some c' := by rw [← ec, ← ec']; simp
    cases this
    refine ⟨Fut.refl S, ?_⟩
    have : (⟨#[c]⟩ : Str) = ⟨[c].toArray⟩ := by simp
    rw [this]
    exact .str _
theorem WkOk.rng {as : List Addr} {H : Hp} {lo : Int} {n : Nat} : WkOk G as H (.fix ((List.range n).map fun (m : Nat) => .int (lo + m))) (Itr lo n) := fun as' H' h hp kp S i => by
  refine ⟨fun e => ?_, fun y e => ?_⟩
  · simp only [wkAt, Option.some.injEq, List.getElem?_map, Option.map_eq_none_iff] at e
    show n ≤ i
    simpa using e
  · simp only [wkAt, Option.some.injEq, List.getElem?_map] at e
    obtain ⟨c, ec, rfl⟩ := Option.map_eq_some_iff.mp e
    obtain ⟨hl, e2⟩ := List.getElem?_eq_some_iff.mp ec
    simp at hl e2
    subst e2
    refine ⟨hl, fun u H2 y => ?_⟩
    obtain ⟨rfl, rfl⟩ := y
    exact ⟨Fut.refl S, .int _⟩
theorem WkOk.enl {as : List Addr} {H : Hp} {a : Addr} {l : Nat} (ea : as[l]? = some a) : WkOk G as H (.enl l) (Ite G.K a) := fun as' H' h hp kp S i => by
  have ea' := pre_get hp ea
  refine ⟨fun e => ?_, fun x e => ?_⟩
  · simp only [wkAt] at e
    obtain ⟨xs, e1, e2⟩ := Option.map_eq_some_iff.mp e
    obtain ⟨vs, s, r⟩ := S.lst e1 ea'
    rw [Option.map_eq_none_iff] at e2
    exact ⟨vs, s, by rw [← r.length]; exact List.getElem?_eq_none_iff.mp e2⟩
  · simp only [wkAt] at e
    obtain ⟨xs, e1, e2⟩ := Option.map_eq_some_iff.mp e
    obtain ⟨vs, s, r⟩ := S.lst e1 ea'
    obtain ⟨z, ez, rfl⟩ := Option.map_eq_some_iff.mp e2
    obtain ⟨v, ev, rv⟩ := r.get ez
    refine ⟨⟨vs, v, s, ev⟩, fun u H2 y => ?_⟩
    obtain ⟨TT, y, rfl, hn, rfl, q⟩ := y
    have := q vs s
    rw [ev] at this
    cases this
    exact S.tup hn (.cons (.int _) (.cons rv .nil))
theorem WkOk.ens {as : List Addr} {H : Hp} {x : List Nat} : WkOk G as H (.ens x) (Itst ⟨x.toArray⟩) := fun as' H' h hp kp S i => by
  refine ⟨fun e => ?_, fun y e => ?_⟩
  · simp only [wkAt] at e
    split at e
    · simp only [Option.some.injEq, Option.map_eq_none_iff, List.getElem?_eq_none_iff] at e
      show i = x.toArray.size
      simp
      omega
    · cases e
  · simp only [wkAt] at e
    split at e
    · simp only [Option.some.injEq] at e
      obtain ⟨c, ec, rfl⟩ := Option.map_eq_some_iff.mp e
      refine ⟨by show i < x.toArray.size; simpa using (List.getElem?_eq_some_iff.mp ec).1, fun u H2 y => ?_⟩
      obtain ⟨TT, c', rfl, hn, rfl, ec'⟩ := y
      have : some c = some c' := by rw [← ec, ← ec']; simp
      cases this
      exact S.tup hn (.cons (.int _) (.cons (.str [c]) .nil))
    · cases e
theorem WkOk.ent {as : List Addr} {H : Hp} {a : Addr} {xs : List PV} {vs : List V} (s : SqT G.K H a vs) (r : RepVs G as H xs vs) : WkOk G as H (.ent xs) (Itet G.K a) := fun as' H' h hp kp S i => by
  have s' := kp.sqT s
  have r' := r.mono hp kp
  refine ⟨fun e => ?_, fun x e => ?_⟩
  · simp only [wkAt] at e
    split at e
    · simp only [Option.some.injEq, Option.map_eq_none_iff, List.getElem?_eq_none_iff] at e
      exact ⟨vs, s', by rw [← r'.length]; omega⟩
    · cases e
  · simp only [wkAt] at e
    split at e
    · simp only [Option.some.injEq] at e
      obtain ⟨z, ez, rfl⟩ := Option.map_eq_some_iff.mp e
      obtain ⟨v, ev, rv⟩ := r'.get ez
      refine ⟨⟨vs, v, s', ev⟩, fun u H2 y => ?_⟩
      obtain ⟨N, y, rfl, hn, rfl, q⟩ := y
      have := q vs s'
      rw [ev] at this
      cases this
      exact S.tup hn (.cons (.int _) (.cons rv .nil))
    · cases e
theorem WkOk.zll {as : List Addr} {H : Hp} {a b : Addr} {l m : Nat} (ea : as[l]? = some a) (eb : as[m]? = some b) : WkOk G as H (.zll l m) (Itz G.K a b) := fun as' H' h hp kp S i => by
  have ea' := pre_get hp ea
  have eb' := pre_get hp eb
  refine ⟨fun e => ?_, fun x e => ?_⟩
  · simp only [wkAt] at e
    obtain ⟨xs, e1, e2⟩ := Option.bind_eq_some_iff.mp e
    obtain ⟨ys, e3, e4⟩ := Option.map_eq_some_iff.mp e2
    obtain ⟨vs, s, r⟩ := S.lst e1 ea'
    obtain ⟨ws, s2, r2⟩ := S.lst e3 eb'
    refine ⟨vs, ws, s, s2, ?_⟩
    rw [← r.length, ← r2.length]
    cases q1 : xs[i]? with
    | none => exact .inl (List.getElem?_eq_none_iff.mp q1)
    | some x =>
      cases q2 : ys[i]? with
      | none => exact .inr (List.getElem?_eq_none_iff.mp q2)
      | some y => rw [q1, q2] at e4; cases e4
  · simp only [wkAt] at e
    obtain ⟨xs, e1, e2⟩ := Option.bind_eq_some_iff.mp e
    obtain ⟨ys, e3, e4⟩ := Option.map_eq_some_iff.mp e2
    obtain ⟨vs, s, r⟩ := S.lst e1 ea'
    obtain ⟨ws, s2, r2⟩ := S.lst e3 eb'
    cases q1 : xs[i]? with
    | none => rw [q1] at e4; cases e4
    | some x' =>
      cases q2 : ys[i]? with
      | none => rw [q1, q2] at e4; cases e4
      | some y' =>
        rw [q1, q2] at e4
        cases e4
        obtain ⟨v, ev, rv⟩ := r.get q1
        obtain ⟨w, ew, rw'⟩ := r2.get q2
        refine ⟨⟨vs, ws, v, w, s, s2, ev, ew⟩, fun u H2 y => ?_⟩
        obtain ⟨TT, y, z, rfl, hn, rfl, q, q'⟩ := y
        have h1 := q vs s
        rw [ev] at h1
        cases h1
        have h2 := q' ws s2
        rw [ew] at h2
        cases h2
        exact S.tup hn (.cons rv (.cons rw' .nil))
theorem WkOk.rvl {as : List Addr} {H : Hp} {a : Addr} {l n : Nat} (ea : as[l]? = some a) : WkOk G as H (.rvl l n) (Itv G.K a n) := fun as' H' h hp kp S i => by
  have ea' := pre_get hp ea
  refine ⟨fun e => ?_, fun x e => ?_⟩
  · simp only [wkAt] at e
    obtain ⟨xs, e1, e2⟩ := Option.bind_eq_some_iff.mp e
    split at e2
    · rename_i hn
      split at e2
      · rename_i hi
        cases q : xs[n - 1 - i]? with
        | none => rw [List.getElem?_eq_none_iff] at q; omega
        | some y => rw [q] at e2; cases e2
      · rename_i hi
        show n ≤ i
        omega
    · cases e2
  · simp only [wkAt] at e
    obtain ⟨xs, e1, e2⟩ := Option.bind_eq_some_iff.mp e
    split at e2
    · split at e2
      · rename_i hn hi
        obtain ⟨vs, s, r⟩ := S.lst e1 ea'
        obtain ⟨v, ev, rv⟩ := r.get (Option.some.inj e2)
        refine ⟨⟨hi, vs, v, s, ev⟩, fun u H2 y => ?_⟩
        obtain ⟨rfl, q⟩ := y
        have := q vs s
        rw [ev] at this
        cases this
        exact ⟨Fut.refl S, rv⟩
      · cases e2
    · cases e2
theorem evI_one {k : Ik} {e : Ex} (he : ∀ x, e ≠ .star x) (ρ : PEnv) (h : PH) : evI T call k [e] ρ h = (evE T call e ρ h).bind fun v h1 => match wkOf k [v] h1 with
    | none => .stuck
    | some p => .ok p h1 := by
  unfold evI
  rw [evEs_cons he]
  simp only [Res.bind_assoc, evEs, Res.bind_ok]
theorem pi_list_at {pins : List (Addr × Obj)} {σ : L2.St} {H : Hp} {s : Shared} {R : It → Hp → Prop} {tg : Expr} {a : Addr} {xs : List V} {v : Value} (I1 : Inv X pins σ H s) (r : RelV (.ref a) v) (hq : SqL X.K H a xs) (q : R (Itl X.K a) H) :
    wpAny (model X.prog X.w) X.A (pyIter v) (PIE X pins σ tg R) X.xe s := by
  cases r
  obtain ⟨its, rv, p, hz⟩ := I1.list hq
  refine wpAny_pyIter_list p.isList ?_
  refine ⟨s.heap.objs.size, [s.heap.objs.size], _, _, H, rfl, I1.kept (t' := s.toks) fun b o e => Heap.get?_push_of_some _ e, turn_list a _, ⟨_, Heap.get?_push_size _ rfl, rfl, rfl⟩, fun b hb => ?_, q⟩
  have e : b = s.heap.objs.size := by simpa using hb
  subst e
  exact I1.fpOk (Nat.le_refl _) (I1.hok.fresh (Nat.le_refl _))
theorem pi_tup_at {pins : List (Addr × Obj)} {σ : L2.St} {H : Hp} {s : Shared} {R : It → Hp → Prop} {tg : Expr} {a : Addr} {xs : List V} {v : Value} (I1 : Inv X pins σ H s) (r : RelV (.ref a) v) (hq : SqT X.K H a xs) (q : R (Itt X.K a) H) :
    wpAny (model X.prog X.w) X.A (pyIter v) (PIE X pins σ tg R) X.xe s := by
  cases r
  obtain ⟨its, rv, p, hz⟩ := I1.tuple hq
  refine wpAny_pyIter_tuple (show s.heap.IsTuple a its.toArray from p) ?_
  refine ⟨s.heap.objs.size, [s.heap.objs.size], _, _, H, rfl, I1.kept (t' := s.toks) fun b o e => Heap.get?_push_of_some _ e, turn_tuple a _, ⟨_, Heap.get?_push_size _ rfl, rfl, rfl⟩, fun b hb => ?_, q⟩
  have e : b = s.heap.objs.size := by simpa using hb
  subst e
  exact I1.fpOk (Nat.le_refl _) (I1.hok.fresh (Nat.le_refl _))
theorem pi_str_at {pins : List (Addr × Obj)} {σ : L2.St} {H : Hp} {s : Shared} {R : It → Hp → Prop} {tg : Expr} {x : Str} {v : Value} (I1 : Inv X pins σ H s) (r : RelV (.str x) v) (q : R (Its x) H) :
    wpAny (model X.prog X.w) X.A (pyIter v) (PIE X pins σ tg R) X.xe s := by
  obtain ⟨t, rfl⟩ := r
  cases ha : x.cps.all (· < 128)
  · exact wpAny_pyIter_wide ha (pi_one (tk := s.toks) I1 _ (turn_str _ x t "str_iterator" (.inr rfl)) ⟨_, Heap.get?_push_size _ rfl, rfl, rfl⟩ q)
  · exact wpAny_pyIter_ascii ha (pi_one (tk := s.toks) I1 _ (turn_str _ x t "str_ascii_iterator" (.inl rfl)) ⟨_, Heap.get?_push_size _ rfl, rfl, rfl⟩ q)
theorem okI_seq (O : XOk G T nm call fx X E) {tg : Expr} {e : Ex} {x : Expr} (hs : ∀ y, e ≠ .star y) (he : PE X x (tE G E (evE T call e))) : PI X tg x (tI G E (evI T call .seq [e])) := by
  have key : ∀ as1 H1 h1 v v' (R : It → Hp → Prop), SR G as1 H1 h1 → RepV G as1 H1 v v' → Ok G E as1 H1 (fun as' H' (p : Wk × Nat) (J : It) => WkOk G as' H' p.1 J) R (match wkOf .seq [v] h1 with | none => .stuck | some p => .ok p h1) →
      (∃ a vs, v' = .ref a ∧ SqT X.K H1 a vs ∧ R (Itt X.K a) H1) ∨ (∃ a vs, v' = .ref a ∧ SqL X.K H1 a vs ∧ R (Itl X.K a) H1) ∨ ∃ z, v' = .str z ∧ R (Its z) H1 := fun as1 H1 h1 v v' R S r o => by
    rw [O.K]
    cases v with
    | tup xs =>
      obtain ⟨a, vs, rfl, s, rv⟩ := r.tupE
      exact .inl ⟨a, vs, rfl, s, o as1 H1 _ (Fut.refl S) (WkOk.fixT s rv)⟩
    | str z =>
      rw [r.strE]
      exact .inr (.inr ⟨_, rfl, o as1 H1 _ (Fut.refl S) WkOk.str⟩)
    | ref l =>
      obtain ⟨a, ea, rfl⟩ := r.refE
      simp only [wkOf] at o
      cases q : lstAt h1 l with
      | none => rw [q] at o; exact False.elim o
      | some xs =>
        rw [q] at o
        obtain ⟨vs, s, rv⟩ := S.lst q ea
        exact .inr (.inl ⟨a, vs, rfl, s, o as1 H1 _ (Fut.refl S) (WkOk.lst ea)⟩)
    | _ => exact False.elim o
  refine ⟨fun pins s σ H R I ⟨as, ρ, h, S, Rρ, o⟩ => ?_⟩
  rw [evI_one hs] at o
  -- which walk it is shows at the value
  have hv : tE G E (evE T call e) σ H (fun v' H1 => (∃ a vs, v' = .ref a ∧ SqT X.K H1 a vs ∧ R (Itt X.K a) H1) ∨ (∃ a vs, v' = .ref a ∧ SqL X.K H1 a vs ∧ R (Itl X.K a) H1) ∨ ∃ z, v' = .str z ∧ R (Its z) H1) :=
    ⟨as, ρ, h, S, Rρ, Ok.bind o fun v h1 as1 H1 v' f1 r1 o1 => key as1 H1 h1 v v' R f1.sr r1 o1⟩
  refine thn (he.run pins s σ H _ I hv) fun u s1 ⟨y, H1, I1, ry, q⟩ => ?_
  rcases q with ⟨a, vs, rfl, sq, q⟩ | ⟨a, vs, rfl, sq, q⟩ | ⟨z, rfl, q⟩
  · exact pi_tup_at I1 ry sq q
  · exact pi_list_at I1 ry sq q
  · exact pi_str_at I1 ry q
theorem Ok.bindK {α β γ δ ε : Type} {G : Gm} {E : XK} {as : List Addr} {H : Hp} {r : Res α} {k : α → PH → Res γ} {k' : α → PH → Res ε} {rel : List Addr → Hp → ε → β → Prop} {rel2 : List Addr → Hp → γ → δ → Prop} {Q : β → Hp → Prop} {Q2 : δ → Hp → Prop}
    (o : Ok G E as H rel2 Q2 (r.bind k)) (next : ∀ v h1, Ok G E as H rel2 Q2 (k v h1) → Ok G E as H rel Q (k' v h1)) : Ok G E as H rel Q (r.bind k') := by
  induction r with
  | ok v h1 => exact next v h1 o
  | er x h1 => exact o
  | stuck => exact o
  | all n f ih => exact fun i hi => ih i (o i hi)
theorem evEs_one {e : Ex} (he : ∀ x, e ≠ .star x) (ρ : PEnv) (h : PH) : evEs T call [e] ρ h = (evE T call e ρ h).bind fun v h1 => .ok [v] h1 := by
  rw [evEs_cons he]
  simp only [evEs, Res.bind_ok]
theorem evEs_two {e e2 : Ex} (he : ∀ x, e ≠ .star x) (he2 : ∀ x, e2 ≠ .star x) (ρ : PEnv) (h : PH) : evEs T call [e, e2] ρ h = (evE T call e ρ h).bind fun v h1 => (evE T call e2 ρ h1).bind fun w h2 => .ok [v, w] h2 := by
  rw [evEs_cons he]
  simp only [evEs_one he2, Res.bind_assoc, Res.bind_ok]
theorem evI_two {k : Ik} {e e2 : Ex} (he : ∀ x, e ≠ .star x) (he2 : ∀ x, e2 ≠ .star x) (ρ : PEnv) (h : PH) : evI T call k [e, e2] ρ h = (evE T call e ρ h).bind fun v h1 => (evE T call e2 ρ h1).bind fun w h2 => match wkOf k [v, w] h2 with
    | none => .stuck
    | some p => .ok p h2 := by
  unfold evI
  rw [evEs_two he he2]
  simp only [Res.bind_assoc, Res.bind_ok]
theorem tI_one {k : Ik} {e : Ex} (hs : ∀ y, e ≠ .star y) {σ : L2.St} {H : Hp} {R : It → Hp → Prop} {Q : List V → Hp → Prop} (q : tI G E (evI T call k [e]) σ H R)
    (next : ∀ v h1 as1 H1 v' p, SR G as1 H1 h1 → RepV G as1 H1 v v' → wkOf k [v] h1 = some p → (∀ J, WkOk G as1 H1 p.1 J → R J H1) → Q [v'] H1) : tA G E (evEs T call [e]) σ H Q := by
  obtain ⟨as, ρ, h, S, Rρ, o⟩ := q
  rw [evI_one hs] at o
  refine ⟨as, ρ, h, S, Rρ, ?_⟩
  rw [evEs_one hs]
  refine Ok.bindK o fun v h1 o1 as1 H1 vs' f r1 => ?_
  obtain ⟨v', rfl, rv⟩ := r1.one
  cases q : wkOf k [v] h1 with
  | none => rw [q] at o1; exact False.elim o1
  | some p =>
    rw [q] at o1
    exact next v h1 as1 H1 v' p f.sr rv q fun J hJ => o1 as1 H1 J f hJ
theorem tI_two {k : Ik} {e e2 : Ex} (hs : ∀ y, e ≠ .star y) (hs2 : ∀ y, e2 ≠ .star y) {σ : L2.St} {H : Hp} {R : It → Hp → Prop} {Q : List V → Hp → Prop} (q : tI G E (evI T call k [e, e2]) σ H R)
    (next : ∀ v w h1 as1 H1 v' w' p, SR G as1 H1 h1 → RepV G as1 H1 v v' → RepV G as1 H1 w w' → wkOf k [v, w] h1 = some p → (∀ J, WkOk G as1 H1 p.1 J → R J H1) → Q [v', w'] H1) : tA G E (evEs T call [e, e2]) σ H Q := by
  obtain ⟨as, ρ, h, S, Rρ, o⟩ := q
  rw [evI_two hs hs2] at o
  refine ⟨as, ρ, h, S, Rρ, ?_⟩
  rw [evEs_two hs hs2]
  refine Ok.bindK o fun v h1 o1 => Ok.bindK o1 fun w h2 o2 as1 H1 vs' f r1 => ?_
  obtain ⟨v', w', rfl, rv, rw'⟩ := r1.two
  cases q : wkOf k [v, w] h2 with
  | none => rw [q] at o2; exact False.elim o2
  | some p =>
    rw [q] at o2
    exact next v w h2 as1 H1 v' w' p f.sr rv rw' q fun J hJ => o2 as1 H1 J f hJ
theorem PI.imp {tg x : Expr} {t t' : TI} (p : PI X tg x t) (h : ∀ σ H R, t' σ H R → t σ H R) : PI X tg x t' := ⟨fun pins s σ H R I q => p.run pins s σ H R I (h σ H R q)⟩
theorem okI_rng1 (O : XOk G T nm call fx X E) {tg x : Expr} {p pos : Pos} {e : Ex} (hs : ∀ y, e ≠ .star y) (hx : isStar x = false) (hg : glB fx.names "range" = true) (ha : PA X [x] (tA G E (evEs T call [e]))) : PI X tg (.Call (.Name "range" p) [x] [] pos) (tI G E (evI T call .rng [e])) := by
  refine PI.imp (pi_range1 (gl_ok O hg) O.rng ha (star_cons hx)) fun σ H R q => tI_one hs q fun v h1 as1 H1 v' pr S r qw k => ?_
  cases v with
  | int j =>
    simp only [wkOf] at qw
    split at qw
    · rename_i hb
      cases qw
      simp only [Bool.and_eq_true, decide_eq_true_eq] at hb
      rw [r.intE]
      refine ⟨j, rfl, hb.1, hb.2, k _ ?_⟩
      have := WkOk.rng (G := G) (as := as1) (H := H1) (lo := 0) (n := j.toNat)
      simpa using this
    · cases qw
  | _ => simp [wkOf] at qw
theorem okI_rng2 (O : XOk G T nm call fx X E) {tg x y : Expr} {p pos : Pos} {e e2 : Ex} (hs : ∀ y, e ≠ .star y) (hs2 : ∀ y, e2 ≠ .star y) (hx : isStar x = false) (hy : isStar y = false) (hg : glB fx.names "range" = true) (ha : PA X [x, y] (tA G E (evEs T call [e, e2]))) :
    PI X tg (.Call (.Name "range" p) [x, y] [] pos) (tI G E (evI T call .rng [e, e2])) := by
  have s2 : starEach [y] X.env = [(false, eval y X.env)] := star_cons hy
  refine PI.imp (pi_range2 (gl_ok O hg) O.rng ha (by rw [star_cons hx, s2]) s2) fun σ H R q => tI_two hs hs2 q fun v w h1 as1 H1 v' w' pr S r r2 qw k => ?_
  cases v with
  | int i =>
    cases w with
    | int j =>
      simp only [wkOf] at qw
      split at qw
      · rename_i hb
        cases qw
        simp only [Bool.and_eq_true, decide_eq_true_eq] at hb
        rw [r.intE, r2.intE]
        exact ⟨i, j, rfl, ⟨hb.1.1.1, hb.1.1.2, hb.1.2, hb.2⟩, k _ WkOk.rng⟩
      · cases qw
    | _ => simp [wkOf] at qw
  | _ => simp [wkOf] at qw
theorem okI_enum (O : XOk G T nm call fx X E) {x : Expr} {p pos tpos : Pos} {elts : List Expr} {kk : Nat} {e : Ex} (hs : ∀ y, e ≠ .star y) (hx : isStar x = false) (hg : glB fx.names "enumerate" = true) (ha : PA X [x] (tA G E (evEs T call [e]))) : PI X (.Tuple elts kk tpos) (.Call (.Name "enumerate" p) [x] [] pos) (tI G E (evI T call .enum [e])) := by
  refine PI.imp (pi_enum3 (gl_ok O hg) O.enm ha (star_cons hx)) fun σ H R q => tI_one hs q fun v h1 as1 H1 v' pr S r qw k => ?_
  cases v with
  | ref l =>
    simp only [wkOf] at qw
    obtain ⟨xs, e1, rfl⟩ := Option.map_eq_some_iff.mp qw
    obtain ⟨a, ea, rfl⟩ := r.refE
    obtain ⟨vs, sl, rl⟩ := S.lst e1 ea
    rw [O.K]
    exact .inl (.inl ⟨a, vs, rfl, sl, k _ (WkOk.enl ea)⟩)
  | tup xs =>
    simp only [wkOf] at qw
    cases qw
    obtain ⟨a, vs, rfl, st, rs⟩ := r.tupE
    rw [O.K]
    exact .inr ⟨a, vs, rfl, st, k _ (WkOk.ent st rs)⟩
  | str x =>
    simp only [wkOf] at qw
    split at qw
    · cases qw
      rw [r.strE]
      exact .inl (.inr ⟨_, rfl, k _ WkOk.ens⟩)
    · cases qw
  | _ => simp [wkOf] at qw
theorem okI_zip (O : XOk G T nm call fx X E) {x y : Expr} {p pos tpos : Pos} {elts : List Expr} {kk : Nat} {e e2 : Ex} (hs : ∀ y, e ≠ .star y) (hs2 : ∀ y, e2 ≠ .star y) (hx : isStar x = false) (hy : isStar y = false) (hg : glB fx.names "zip" = true) (ha : PA X [x, y] (tA G E (evEs T call [e, e2]))) :
    PI X (.Tuple elts kk tpos) (.Call (.Name "zip" p) [x, y] [] pos) (tI G E (evI T call .zip [e, e2])) := by
  refine PI.imp (pi_zip (gl_ok O hg) O.zp ha (star_cons hx) (noStars (by simp [hy]))) fun σ H R q => tI_two hs hs2 q fun v w h1 as1 H1 v' w' pr S r r2 qw k => ?_
  cases v with
  | ref l =>
    cases w with
    | ref m =>
      simp only [wkOf] at qw
      obtain ⟨xs, e1, q2⟩ := Option.bind_eq_some_iff.mp qw
      obtain ⟨ys, e3, rfl⟩ := Option.map_eq_some_iff.mp q2
      obtain ⟨a, ea, rfl⟩ := r.refE
      obtain ⟨b, eb, rfl⟩ := r2.refE
      obtain ⟨vs, sl, rl⟩ := S.lst e1 ea
      obtain ⟨ws, sl2, rl2⟩ := S.lst e3 eb
      rw [O.K]
      exact ⟨a, b, vs, ws, rfl, sl, sl2, k _ (WkOk.zll ea eb)⟩
    | _ => simp [wkOf] at qw
  | _ => simp [wkOf] at qw
theorem okI_rev (O : XOk G T nm call fx X E) {tg x : Expr} {p pos : Pos} {e : Ex} (hs : ∀ y, e ≠ .star y) (hx : isStar x = false) (hg : glB fx.names "reversed" = true) (ha : PA X [x] (tA G E (evEs T call [e]))) : PI X tg (.Call (.Name "reversed" p) [x] [] pos) (tI G E (evI T call .rev [e])) := by
  refine PI.imp (pi_reversed (gl_ok O hg) O.rvs ha (star_cons hx)) fun σ H R q => tI_one hs q fun v h1 as1 H1 v' pr S r qw k => ?_
  cases v with
  | ref l =>
    simp only [wkOf] at qw
    obtain ⟨xs, e1, rfl⟩ := Option.map_eq_some_iff.mp qw
    obtain ⟨a, ea, rfl⟩ := r.refE
    obtain ⟨vs, sl, rl⟩ := S.lst e1 ea
    rw [O.K]
    exact ⟨a, vs, rfl, sl, k _ (by rw [← rl.length]; exact WkOk.rvl ea)⟩
  | _ => simp [wkOf] at qw
theorem foldl_set_ok {as : List Addr} {H : Hp} : ∀ {is : List Nat} {xs : List PV} {vs : List V} {ρ : PEnv} {σ : L2.St}, RepE G as H ρ σ → RepVs G as H xs vs →
    RepE G as H ((is.zip xs).foldl (fun r q => r.set q.1 (some q.2)) ρ) ((is.zip vs).foldl (fun r q => r.set q.1 (some q.2)) σ)
  | [], _, _, _, _, R, _ => R
  | i :: is, [], _, _, _, R, r => by rw [r.zero]; exact R
  | i :: is, x :: xs, vs, ρ, σ, R, r => by
    unfold RepVs at r
    obtain ⟨v, rest, rfl, r1, r2⟩ := r
    have := foldl_set_ok (is := is) (R.set i r1) r2
    exact this
def chkNm (fx : Fx) (i : Nat) : Expr → Bool
  | .Name x _ => decide (fx.N[i]? = some x) && fx.st.contains x
  | _ => false
def chkNms (fx : Fx) : List Nat → List Expr → Bool
  | [], [] => true
  | i :: is, x :: xs => chkNm fx i x && chkNms fx is xs
  | _, _ => false
def gNames (is : List Nat) : TGs := fun vs σ H Q => vs.length = is.length ∧ Q ((is.zip vs).foldl (fun r q => r.set q.1 (some q.2)) σ) H
theorem okG_name (O : XOk G T nm call fx X E) {i : Nat} {e : Expr} (h : chkNm fx i e = true) : PG X e (gName i) := by
  cases e with
  | Name x p =>
    simp only [chkNm, Bool.and_eq_true, decide_eq_true_eq, List.contains_iff_mem] at h
    obtain ⟨l, f⟩ := O.st x h.2
    exact pg_name O.nd (by rw [O.N]; exact h.1) l f
  | _ => cases h
theorem nm_assign {fx : Fx} {i : Nat} {e : Expr} {es : List Expr} {env : Env} (h : chkNm fx i e = true) : assignEach (e :: es) env = (false, assign e env) :: assignEach es env := by
  cases e <;> first | rfl | cases h
theorem okG_names (O : XOk G T nm call fx X E) : ∀ {is : List Nat} {es : List Expr}, chkNms fx is es = true → PGs X es (gNames is) ∧ (assignEach es X.env).length = is.length ∧ (assignEach es X.env).findIdx? (·.1) = none
  | [], [], _ => ⟨⟨fun pins s σ H vs us Q I r h => pgs_nil.run pins s σ H vs us Q I r ⟨List.eq_nil_of_length_eq_zero h.1, h.2⟩⟩, rfl, rfl⟩
  | i :: is, e :: es, h => by
    simp only [chkNms, Bool.and_eq_true] at h
    obtain ⟨i1, i2, i3⟩ := okG_names O h.2
    have na := nm_assign (es := es) (env := X.env) h.1
    refine ⟨⟨fun pins s σ H vs us Q I r hw => ?_⟩, ?_, ?_⟩
    · refine (pgs_cons (okG_name O h.1) i1 (by rw [na]; rfl)).run pins s σ H vs us Q I r ?_
      obtain ⟨hl, q⟩ := hw
      cases vs with
      | nil => simp at hl
      | cons v vr => exact ⟨v, vr, rfl, by simpa using hl, q⟩
    · rw [na]; simp [i2]
    · rw [na]
      rw [List.findIdx?_cons, i3]
      rfl
  | [], _ :: _, h => by cases h
  | _ :: _, [], h => by cases h
def chkTg (fx : Fx) : Tg → Expr → Bool
  | .nm i, e => chkNm fx i e
  | .tp is, .Tuple es _ _ => chkNms fx is es
  | .tp _, _ => false
def tG (G : Gm) (t : Tg) : TG := fun v σ H Q => ∃ as ρ h x ρ', SR G as H h ∧ RepE G as H ρ σ ∧ RepV G as H x v ∧ bindTg t x ρ = some ρ' ∧ ∀ σ', RepE G as H ρ' σ' → (∃ (is : List Nat) (vs : List V), σ' = (is.zip vs).foldl (fun r q => r.set q.1 (some q.2)) σ ∧ ∀ i ∈ is, i ∈ (match t with | .nm j => [j] | .tp js => js)) → Q σ' H
theorem okG_tg (O : XOk G T nm call fx X E) {t : Tg} {e : Expr} (h : chkTg fx t e = true) : PG X e (tG G t) := by
  cases t with
  | nm i =>
    refine ⟨fun pins s σ H v u Q I r ⟨as, ρ, hh, x, ρ', S, R, rx, eb, k⟩ => (okG_name O h).run pins s σ H v u Q I r ?_⟩
    simp only [bindTg] at eb
    cases eb
    exact k _ (R.set i rx) ⟨[i], [v], rfl, fun j hj => hj⟩
  | tp is =>
    cases e with
    | Tuple es kk pos =>
      obtain ⟨g, l, f⟩ := okG_names O (show chkNms fx is es = true from h)
      refine ⟨fun pins s σ H v u Q I r ⟨as, ρ, hh, x, ρ', S, R, rx, eb, k⟩ => (pg_tup O.calm g l f).run pins s σ H v u Q I r ?_⟩
      simp only [bindTg] at eb
      split at eb
      · rename_i xs
        split at eb
        · rename_i hl
          cases eb
          obtain ⟨a, vs, rfl, sa, rv⟩ := rx.tupE
          refine ⟨a, vs, rfl, by rw [O.K]; exact sa, by rw [← rv.length]; exact hl, by rw [← rv.length]; exact hl, k _ (foldl_set_ok R rv) ⟨is, vs, rfl, fun j hj => hj⟩⟩
        · cases eb
      · cases eb
    | _ => cases h
end
end Mn
set_option Elab.async false
set_option linter.all false
set_option maxRecDepth 100000
set_option maxHeartbeats 4000000
namespace Mn
open PySem PySem.Spec L2 PyProof.Rows
def rlb (fx : List (Str × NameKind)) (q : Str × NameKind) : Str × NameKind := if (q.2 == .free && fx.lookup q.1 == some .cell) then (q.1, .cell) else (q.1, q.2)
def fxB (fx : Fx) (sc : Scope) : Fx where
  N := fx.N
  names := sc.names.map (rlb fx.names)
  st := (sc.names.filter fun q => (match q.2 with | .local => true | .cell => true | _ => false)).map (·.1)
def ownsOf (fx : Fx) (own : List Nat) : List (Str × Nat) := own.map fun i => (fx.N.getD i Str.empty, i)
def scOf (fx : Fx) : Scope := { kind := .function, names := fx.names, isGenerator := false, isCoroutine := false }
section
variable {G : Gm} {T : Tb} {nm : Nm} {call : Nat → List PV → PH → Res PV} {fx : Fx} {X : Cx} {E : XK}
theorem blk_scope (O : XOk G T nm call fx X E) {sc : Scope} {cl : List (Str × Addr)} {C : Addr} : (compEnvC sc cl C X.env).scope.names = (fxB fx sc).names := by
  show (relabel sc X.env).names = _
  unfold relabel fxB Env.kindOf rlb
  rw [O.names, O.kind]
  have e : (ScopeKind.function == ScopeKind.function) = true := rfl
  simp only [e, Bool.and_true]
def uniqB (sc : Scope) : Bool := sc.names.all fun y => decide (sc.names.lookup y.1 = some y.2)
theorem relab_lookup {sc fx : List (Str × NameKind)} {x : Str} {k : NameKind} (h : sc.lookup x = some k) (hk : k = .local ∨ k = .cell) : (sc.map (rlb fx)).lookup x = some k := by
  induction sc with
  | nil => simp at h
  | cons p r ih =>
    obtain ⟨n, kn⟩ := p
    by_cases e : x = n
    · subst e
      simp at h
      subst h
      have e1 : rlb fx (x, kn) = (x, kn) := by
        rcases hk with rfl | rfl <;> rfl
      rw [List.map_cons, e1]
      simp
    · have e2 : (x == n) = false := by simpa using e
      rw [List.lookup_cons, e2] at h
      have ih' := ih h
      obtain ⟨k2, e1⟩ : ∃ k2, rlb fx (n, kn) = (n, k2) := by
        unfold rlb
        split <;> exact ⟨_, rfl⟩
      rw [List.map_cons, e1, List.lookup_cons, e2]
      exact ih'
theorem XOk.blk (O : XOk G T nm call fx X E) {sc : Scope} (hu : uniqB sc = true) (s : Shared) (H : Hp) (C : Addr) (cl : List (Str × Addr)) (fp : List Addr) (hk : sc.kind = .function) : XOk G T nm call (fxB fx sc) (X.blk s H sc (compEnvC sc cl C X.env) fp) E0 where
  K := O.K
  calm := O.calm
  hu := O.hu
  N := O.N
  nd := O.nd
  names := blk_scope O
  gl := O.gl
  bl := O.bl
  st := fun x hx => by
    obtain ⟨q, hq, rfl⟩ := List.mem_map.mp hx
    obtain ⟨h1, h2⟩ := List.mem_filter.mp hq
    have u := of_decide_eq_true (List.all_eq_true.mp hu q h1)
    have kk : q.2 = .local ∨ q.2 = .cell := by
      cases e : q.2 with
      | «local» => exact .inl rfl
      | cell => exact .inr rfl
      | _ => rw [e] at h2; cases h2
    have l2 : (compEnvC sc cl C X.env).scope.names.lookup q.1 = some q.2 := by
      rw [blk_scope O]
      exact relab_lookup u kk
    refine ⟨?_, ?_⟩
    · rcases kk with e | e
      · exact .inl (by rw [← e]; exact l2)
      · exact .inr (by rw [← e]; exact l2)
    · rcases kk with e | e
      · exact .inr (by rw [← e]; exact l2)
      · left
        show (sc.names.lookup q.1 == some .cell) = true
        rw [u, e]
        rfl
  rng := O.rng
  enm := O.enm
  zp := O.zp
  rvs := O.rvs
  cls := O.cls
  kind := hk
  pass := fun pins σ H s e s' I c => by
    obtain ⟨_, _, _, _, _, _, _, _, _, _, _, _, q⟩ := c
    exact q
  fns := O.fns
  gnl := O.gnl
  an := O.an
  mfn := O.mfn
theorem noer_bind {α β : Type} (r : Res α) (k : α → PH → Res β) : (r.bind k).noer = r.noer.bind fun a h => (k a h).noer := by
  induction r with
  | ok a h => rfl
  | er x h => rfl
  | stuck => rfl
  | all n f ih => simp only [Res.bind_all, Res.noer, ih]
theorem Ok.noer {α β γ δ : Type} {G : Gm} {E E' : XK} {as : List Addr} {H : Hp} {r : Res α} {k : α → PH → Res γ} {rel : List Addr → Hp → α → β → Prop} {rel2 : List Addr → Hp → γ → δ → Prop} {Q : β → Hp → Prop} {Q2 : δ → Hp → Prop}
    (o : Ok G E as H rel2 Q2 (r.noer.bind k)) (next : ∀ v h1 as1 H1 v', Fut G as H as1 H1 h1 → rel as1 H1 v v' → Ok G E as1 H1 rel2 Q2 (k v h1) → Q v' H1) : Ok G E' as H rel Q r := by
  induction r with
  | ok v h1 => exact fun as1 H1 v1 f1 r1 => next v h1 as1 H1 v1 f1 r1 (Ok.fut f1 o)
  | er x h1 => exact False.elim o
  | stuck => exact o
  | all n f ih => exact fun i hi => ih i (o i hi)
theorem wipe_ok {as : List Addr} {H : Hp} {ρ : PEnv} {σ : L2.St} (R : RepE G as H ρ σ) : ∀ own : List Nat, RepE G as H (own.foldr (fun i r => r.set i none) ρ) (wipe σ own)
  | [] => R
  | i :: own => by
    have ih := wipe_ok R own
    show RepE G as H ((own.foldr (fun i r => r.set i none) ρ).set i none) ((wipe σ own).set i none)
    refine ⟨by simp [ih.1], fun j v e => ?_⟩
    by_cases hj : i = j
    · subst hj
      by_cases hl : i < (own.foldr (fun i r => r.set i none) ρ).length
      · rw [List.getElem?_set_self hl] at e; cases e
      · rw [List.getElem?_eq_none (by simpa using hl)] at e; cases e
    · rw [List.getElem?_set_ne hj] at e ⊢
      exact ih.2 j v e
theorem wipe_set {σ : L2.St} {i : Nat} {v : Option V} : ∀ {own : List Nat}, i ∈ own → wipe (σ.set i v) own = wipe σ own
  | [], h => by simp at h
  | j :: own, h => by
    unfold wipe
    by_cases hj : i ∈ own
    · rw [wipe_set hj]
    · have e : i = j := by simpa [hj] using h
      subst e
      clear h
      have key : ∀ own : List Nat, i ∉ own → wipe (σ.set i v) own = (wipe σ own).set i v := fun own => by
        induction own with
        | nil => intro _; rfl
        | cons k own ih =>
          intro hn
          simp only [List.mem_cons, not_or] at hn
          unfold wipe
          rw [ih hn.2, List.set_comm _ _ hn.1]
      rw [key own hj, List.set_set]
theorem wipe_fold {own : List Nat} : ∀ {is : List Nat} {vs : List V} {σ : L2.St}, (∀ i ∈ is, i ∈ own) → wipe ((is.zip vs).foldl (fun r q => r.set q.1 (some q.2)) σ) own = wipe σ own
  | [], _, _, _ => rfl
  | i :: is, [], _, _ => rfl
  | i :: is, v :: vs, σ, h => by
    show wipe ((is.zip vs).foldl _ (σ.set i (some v))) own = _
    rw [wipe_fold (fun j hj => h j (List.mem_cons_of_mem _ hj)), wipe_set (h i List.mem_cons_self)]
theorem wipe_wipe {σ : L2.St} (own : List Nat) : wipe (wipe σ own) own = wipe σ own := by
  have key : ∀ is : List Nat, (∀ i ∈ is, i ∈ own) → wipe (wipe σ is) own = wipe σ own := fun is => by
    induction is with
    | nil => intro _; rfl
    | cons i is ih =>
      intro h
      show wipe ((wipe σ is).set i none) own = _
      rw [wipe_set (h i List.mem_cons_self)]
      exact ih fun j hj => h j (List.mem_cons_of_mem _ hj)
  exact key own fun _ h => h
def tgIs : Tg → List Nat
  | .nm j => [j]
  | .tp js => js
def lcB (T : Tb) (call : Nat → List PV → PH → Res PV) (e : Ex) (own : List Nat) (t : Tg) (ifs : List Ex) (ρ : PEnv) (x : PV) (h2 : PH) : Res (Option PV) := match bindTg t x (own.foldr (fun i r => r.set i none) ρ) with
      | none => .stuck
      | some ρ1 => ((evIf T call ifs ρ1 h2).bind fun b h3 => if b then (evE T call e ρ1 h3).bind fun y h4 => .ok (some y) h4 else .ok none h3).noer
theorem evE_lc {e : Ex} {own : List Nat} {t : Tg} {k : Ik} {its ifs : List Ex} {ρ : PEnv} {h : PH} : evE T call (.lc e own t k its ifs) ρ h = (evI T call k its ρ h).bind fun p h1 => lcRun (lcB T call e own t ifs ρ) p.1 h1.length (p.2 + 1) 0 (h1 ++ [.lst []]) := by
  unfold evI
  simp only [evE, Res.bind_assoc]
  congr 1
  funext vs h1
  cases q : wkOf k vs h1 with
  | none => rfl
  | some p => rfl
theorem lc_core' (O : XOk G T nm call fx X E) {e : Ex} {own : List Nat} {t : Tg} {k : Ik} {its ifs : List Ex} {elt tg iter : Expr} {xifs : List Expr} {sc : Scope}
    (hi : PI X tg iter (tI G E (evI T call k its))) (hb : blkC fx.N (scOf fx) sc (ownsOf fx own) = true) (htg : ∀ i ∈ tgIs t, i ∈ own)
    (hg : ∀ (X' : Cx), XOk G T nm call (fxB fx sc) X' E0 → PG X' tg (tG G t)) (ht : ∀ (X' : Cx), XOk G T nm call (fxB fx sc) X' E0 → PTs X' xifs (tT G E0 (evIf T call ifs))) (he : ∀ (X' : Cx), XOk G T nm call (fxB fx sc) X' E0 → PE X' elt (tE G E0 (evE T call e)))
    (hs : noSet iter = true) (σ : L2.St) (H : Hp) (Q : VK) : tE G E (evE T call (.lc e own t k its ifs)) σ H Q → tLc (tI G E (evI T call k its)) (tG G t) (tT G E0 (evIf T call ifs)) (tE G E0 (evE T call e)) ((ownsOf fx own).map (·.2)) σ H Q := by
  have ow : (ownsOf fx own).map (·.2) = own := by unfold ownsOf; rw [List.map_map]; exact (List.map_congr_left (fun _ _ => rfl)).trans (List.map_id own)
  intro ⟨as, ρ, h, S, R, o⟩
  rw [ow]
  rw [evE_lc] at o
  refine ⟨as, ρ, h, S, R, Ok.bind o fun p h1 as1 H1 J f1 hJ o1 D hD => ?_⟩
  -- the new list
  obtain ⟨f2, rD⟩ := f1.sr.newL (ys := []) hD .nil
  have eD : (as1 ++ [D])[h1.length]? = some D := by
    rw [← f1.sr.len, List.getElem?_append_right (Nat.le_refl _)]
    simp
  have Rw : RepE G as1 H1 ρ σ := R.fut f1
  refine ⟨fun i m H => ∃ as2 h2, Fut G (as1 ++ [D]) (upd H1 D (.lst [])) as2 H h2 ∧ OkV G E as2 H Q (lcRun (lcB T call e own t ifs ρ) p.1 h1.length m i h2), ⟨p.2 + 1, as1 ++ [D], _, Fut.refl f2.sr, Ok.fut f2 o1⟩, ?_⟩
  rintro i m H' ⟨as2, h2, f3, o2⟩
  cases m with
  | zero => exact False.elim o2
  | succ m =>
    have f23 : Fut G as1 H1 as2 H' h2 := f2.trans f3
    obtain ⟨j1, j2⟩ := hJ as2 H' h2 f23.pre f23.kp f3.sr i
    unfold lcRun at o2
    have eD2 : as2[h1.length]? = some D := pre_get f3.pre eD
    split at o2
    · exact False.elim o2
    · rename_i q
      refine .inl ⟨j1 q, okv f3.sr o2 ?_⟩
      unfold RepV
      exact ⟨D, eD2, rfl⟩
    · rename_i x q
      obtain ⟨jg, jy⟩ := j2 x q
      refine .inr ⟨jg, fun H3 => ∃ as3 h3, Fut G (as1 ++ [D]) (upd H1 D (.lst [])) as3 H3 h3 ∧ OkV G E as3 H3 Q (lcRun (lcB T call e own t ifs ρ) p.1 h1.length m (i + 1) h3), fun H3 n => ⟨m, Nat.lt_succ_self _, n⟩, fun v H3 y => ?_⟩
      obtain ⟨f4, rv⟩ := jy v H3 y
      have o3 := Ok.fut f4 o2
      have f34 := f3.trans f4
      have R3 : RepE G as2 H3 ρ σ := (Rw.fut f23).fut f4
      unfold lcB at o3
      split at o3
      · exact False.elim o3
      · rename_i ρ1 qb
        refine ⟨as2, _, h2, x, ρ1, f4.sr, wipe_ok R3 own, rv, qb, fun σ1 R1 ⟨is, vs, e1, e2⟩ => ⟨?_, ?_⟩⟩
        · rw [e1, wipe_fold (fun j hj => htg j (by have := e2 j hj; cases t <;> exact this)), wipe_wipe]
        · rw [noer_bind, Res.bind_assoc] at o3
          refine ⟨as2, ρ1, h2, f4.sr, R1, Ok.noer o3 fun b h4 as4 H4 b' f5 eb o4 => ?_⟩
          subst eb
          cases b with
          | false =>
            simp only [Bool.false_eq_true, if_false] at o4 ⊢
            exact ⟨as4, h4, f34.trans f5, o4⟩
          | true =>
            simp only [if_true] at o4 ⊢
            rw [noer_bind, Res.bind_assoc] at o4
            refine ⟨as4, ρ1, h4, f5.sr, R1.fut f5, Ok.noer o4 fun y h5 as5 H5 y' f6 ry o5 => ?_⟩
            have o6 : Ok G E as5 H5 (fun as' H' => RepV G as' H') Q (match h5[h1.length]? with
              | some (.lst acc) => if acc.length < sizeLine then lcRun (lcB T call e own t ifs ρ) p.1 h1.length m (i + 1) (h5.set h1.length (.lst (acc ++ [y]))) else .stuck
              | _ => .stuck) := o5
            split at o6
            · rename_i acc qa
              split at o6
              · rename_i hl
                have eD5 := pre_get (f5.pre.trans f6.pre) eD2
                obtain ⟨ws, eH, rl⟩ := f6.sr.lstM qa eD5
                have f7 := f6.sr.setL eD5 eH (rl.append (.cons ry .nil))
                exact ⟨ws, eH, by rw [← rl.length]; exact hl, as5, _, ((f34.trans f5).trans f6).trans f7, Ok.fut f7 o6⟩
              · exact False.elim o6
            · exact False.elim o6
theorem lc_parts (O : XOk G T nm call fx X E) {e : Ex} {own : List Nat} {t : Tg} {k : Ik} {its ifs : List Ex} {elt tg iter : Expr} {xifs : List Expr} {sc : Scope}
    (hi : PI X tg iter (tI G E (evI T call k its))) (hb : blkC fx.N (scOf fx) sc (ownsOf fx own) = true) (htg : ∀ i ∈ tgIs t, i ∈ own)
    (hg : ∀ (X' : Cx), XOk G T nm call (fxB fx sc) X' E0 → PG X' tg (tG G t)) (ht : ∀ (X' : Cx), XOk G T nm call (fxB fx sc) X' E0 → PTs X' xifs (tT G E0 (evIf T call ifs))) (he : ∀ (X' : Cx), XOk G T nm call (fxB fx sc) X' E0 → PE X' elt (tE G E0 (evE T call e)))
    (hs : noSet iter = true) : BlkOk X.N X.env.scope sc (ownsOf fx own) ∧
      (∀ (s : Shared) (H : Hp) (C : Addr) (cl : List (Str × Addr)) (fp : List Addr), PG (X.blk s H sc (compEnvC sc cl C X.env) fp) tg (tG G t)) ∧
      (∀ (s : Shared) (H : Hp) (C : Addr) (cl : List (Str × Addr)) (fp : List Addr), PTs (X.blk s H sc (compEnvC sc cl C X.env) fp) xifs (tT G E0 (evIf T call ifs))) ∧
      (∀ (s : Shared) (H : Hp) (C : Addr) (cl : List (Str × Addr)) (fp : List Addr), PE (X.blk s H sc (compEnvC sc cl C X.env) fp) elt (tE G E0 (evE T call e))) ∧
      ∀ x, foldedSetIterable iter X.env x = pure x := by
  have hb0 := blkOk_by hb
  have hu : uniqB sc = true := List.all_eq_true.mpr fun y hy => decide_eq_true (hb0.uniq y hy)
  exact ⟨⟨hb0.kind, hb0.uniq, by rw [O.N]; exact hb0.ix, fun y hy e => by rw [O.names]; exact hb0.free y hy e, by rw [O.N]; exact hb0.own⟩,
    fun s H C cl fp => hg _ (O.blk hu s H C cl fp hb0.kind), fun s H C cl fp => ht _ (O.blk hu s H C cl fp hb0.kind), fun s H C cl fp => he _ (O.blk hu s H C cl fp hb0.kind), fun x => by cases iter <;> first | rfl | cases hs⟩
theorem okE_lc (O : XOk G T nm call fx X E) {e : Ex} {own : List Nat} {t : Tg} {k : Ik} {its ifs : List Ex} {elt tg iter : Expr} {xifs : List Expr} {sc : Scope} {pos : Pos}
    (hi : PI X tg iter (tI G E (evI T call k its))) (hb : blkC fx.N (scOf fx) sc (ownsOf fx own) = true) (htg : ∀ i ∈ tgIs t, i ∈ own)
    (hg : ∀ (X' : Cx), XOk G T nm call (fxB fx sc) X' E0 → PG X' tg (tG G t)) (ht : ∀ (X' : Cx), XOk G T nm call (fxB fx sc) X' E0 → PTs X' xifs (tT G E0 (evIf T call ifs))) (he : ∀ (X' : Cx), XOk G T nm call (fxB fx sc) X' E0 → PE X' elt (tE G E0 (evE T call e)))
    (hs : noSet iter = true) : PE X (.ListComp elt [⟨tg, iter, xifs, 0⟩] sc pos) (tE G E (evE T call (.lc e own t k its ifs))) := by
  obtain ⟨h1, h2, h3, h4, h5⟩ := lc_parts O hi hb htg hg ht he hs
  exact (pe_lc O.calm O.nd hi h1 h2 h3 h4 h5).imp (lc_core' O hi hb htg hg ht he hs)
theorem _root_.L2.PTs.imp {X : Cx} {es : List Expr} {t t' : TT} (p : PTs X es t) (h : ∀ σ H Q, t' σ H Q → t σ H Q) : PTs X es t' := ⟨fun pins s σ H Q I q => p.run pins s σ H Q I (h σ H Q q)⟩
theorem okTs_nil : PTs X [] (tT G E (evIf T call [])) := by
  refine pts_nil.imp fun σ H Q ⟨as, ρ, h, S, R, o⟩ => ?_
  simp only [evIf] at o
  exact o as H true (Fut.refl S) rfl
theorem okTs_one {c : Ex} {x : Expr} (h : PT X x (tT G E (evT T call c))) : PTs X [x] (tT G E (evIf T call [c])) := by
  refine (pts_one h).imp fun σ H Q ⟨as, ρ, h, S, R, o⟩ => ⟨as, ρ, h, S, R, ?_⟩
  have e : evIf T call [c] ρ h = evT T call c ρ h := by
    simp only [evIf, evT]
    congr 1
    funext v h1
    cases q : pTru h1 v with
    | none => rfl
    | some b => cases b <;> rfl
  rw [← e]
  exact o
end
end Mn
set_option Elab.async false
set_option linter.all false
set_option maxRecDepth 100000
set_option maxHeartbeats 4000000
namespace Mn
open PySem PySem.Spec L2 PyProof.Rows
inductive FlV where
  | nx (σ : L2.St) | bk (σ : L2.St) | ct (σ : L2.St) | rt (v : V)
def relF (G : Gm) (as : List Addr) (H : Hp) : Fl → FlV → Prop
  | .nx ρ, .nx σ => RepE G as H ρ σ
  | .bk ρ, .bk σ => RepE G as H ρ σ
  | .ct ρ, .ct σ => RepE G as H ρ σ
  | .rt v, .rt x => RepV G as H v x
  | _, _ => False
def endsQ (D : Ends) : FlV → Hp → Prop
  | .nx σ, H => D.nx σ H
  | .bk σ, H => D.bk σ H
  | .ct σ, H => D.ct σ H
  | .rt v, H => D.rt v H
def tS (G : Gm) (E : XK) (ev : PEnv → PH → Res Fl) : TS := fun D σ H => ∃ as ρ h, SR G as H h ∧ RepE G as H ρ σ ∧ Ok G E as H (fun as' H' => relF G as' H') (endsQ D) (ev ρ h)
section
variable {G : Gm} {T : Tb} {nm : Nm} {call : Nat → List PV → PH → Res PV} {fx : Fx} {X : Cx} {E : XK} {W : Nat}
theorem _root_.L2.PS.imp {X : Cx} {e : Stmt} {t t' : TS} (p : PS X e t) (h : ∀ D σ H, t' D σ H → t D σ H) : PS X e t' := ⟨fun pins s σ H D I q => p.run pins s σ H D I (h D σ H q)⟩
theorem _root_.L2.PSs.imp {X : Cx} {e : List Stmt} {t t' : TS} (p : PSs X e t) (h : ∀ D σ H, t' D σ H → t D σ H) : PSs X e t' := ⟨fun pins s σ H D I q => p.run pins s σ H D I (h D σ H q)⟩
theorem okSs_nil : PSs X [] (tS G E (exSs T call W [])) := by
  refine pss_nil.imp fun D σ H ⟨as, ρ, h, S, R, o⟩ => ?_
  simp only [exSs] at o
  exact o as H (.nx σ) (Fut.refl S) R
theorem okSs_cons {s : Sm} {r : List Sm} {x : Stmt} {xs : List Stmt} (h1 : PS X x (tS G E (exS T call W s))) (h2 : PSs X xs (tS G E (exSs T call W r))) : PSs X (x :: xs) (tS G E (exSs T call W (s :: r))) := by
  refine (pss_cons h1 h2).imp fun D σ H ⟨as, ρ, h, S, R, o⟩ => ?_
  simp only [exSs] at o
  refine ⟨as, ρ, h, S, R, Ok.bind o fun f h1 as1 H1 fv f1 r1 o1 => ?_⟩
  cases f with
  | nx ρ1 =>
    cases fv with
    | nx σ1 => exact ⟨as1, ρ1, h1, f1.sr, r1, o1⟩
    | _ => exact False.elim r1
  | bk ρ1 =>
    cases fv with
    | bk σ1 => exact o1 as1 H1 (.bk σ1) (Fut.refl f1.sr) r1
    | _ => exact False.elim r1
  | ct ρ1 =>
    cases fv with
    | ct σ1 => exact o1 as1 H1 (.ct σ1) (Fut.refl f1.sr) r1
    | _ => exact False.elim r1
  | rt v =>
    cases fv with
    | rt v1 => exact o1 as1 H1 (.rt v1) (Fut.refl f1.sr) r1
    | _ => exact False.elim r1
theorem okS_pass {p : Pos} : PS X (.Pass p) (tS G E (exS T call W .pass)) := ps_pass.imp fun D σ H ⟨as, ρ, h, S, R, o⟩ => by
  simp only [exS] at o
  exact o as H (.nx σ) (Fut.refl S) R
theorem okS_brk {p : Pos} : PS X (.Break p) (tS G E (exS T call W .brk)) := ps_break.imp fun D σ H ⟨as, ρ, h, S, R, o⟩ => by
  simp only [exS] at o
  exact o as H (.bk σ) (Fut.refl S) R
theorem okS_cnt {p : Pos} : PS X (.Continue p) (tS G E (exS T call W .cnt)) := ps_continue.imp fun D σ H ⟨as, ρ, h, S, R, o⟩ => by
  simp only [exS] at o
  exact o as H (.ct σ) (Fut.refl S) R
theorem okS_never {x : Stmt} : PS X x (tS G E (exS T call W .never)) := ⟨fun pins s σ H D I ⟨as, ρ, h, S, R, o⟩ => False.elim (by simp only [exS] at o; exact o)⟩
theorem okS_retn {p : Pos} : PS X (.Return none p) (tS G E (exS T call W .retn)) := ps_retN.imp fun D σ H ⟨as, ρ, h, S, R, o⟩ => by
  simp only [exS] at o
  exact o as H (.rt .non) (Fut.refl S) (show RepV G as H .non .non from .non)
theorem okS_ret {e : Ex} {x : Expr} {p : Pos} (he : PE X x (tE G E (evE T call e))) : PS X (.Return (some x) p) (tS G E (exS T call W (.ret e))) := by
  refine (ps_ret he).imp fun D σ H ⟨as, ρ, h, S, R, o⟩ => ?_
  simp only [exS] at o
  exact ⟨as, ρ, h, S, R, Ok.bind o fun v h1 as1 H1 v' f1 r1 o1 => o1 as1 H1 (.rt v') (Fut.refl f1.sr) r1⟩
def isComp : Expr → Bool
  | .ListComp .. | .SetComp .. | .DictComp .. => true
  | _ => false
theorem noSwap {e : Expr} {t : Option Expr} {l : Nat} {env : Env} (h : isComp e = false) : swapsWith e t l env = pure false := by cases e <;> first | rfl | cases h
theorem okS_ex {e : Ex} {x : Expr} {p : Pos} (hc : isComp x = false) (he : PE X x (tE G E (evE T call e))) : PS X (.Expr x p) (tS G E (exS T call W (.ex e))) := by
  refine (ps_expr he (noSwap hc)).imp fun D σ H ⟨as, ρ, h, S, R, o⟩ => ?_
  simp only [exS] at o
  exact ⟨as, ρ, h, S, R, Ok.bind o fun v h1 as1 H1 v' f1 r1 o1 => o1 as1 H1 (.nx σ) (Fut.refl f1.sr) (R.fut f1)⟩
theorem okS_ite {c : Ex} {a b : List Sm} {z : Expr} {xa xb : List Stmt} {p : Pos} (hc : PT X z (tT G E (evT T call c))) (ha : PSs X xa (tS G E (exSs T call W a))) (hb : PSs X xb (tS G E (exSs T call W b))) : PS X (.If z xa xb p) (tS G E (exS T call W (.ite c a b))) := by
  refine (ps_if hc ha hb).imp fun D σ H ⟨as, ρ, h, S, R, o⟩ => ?_
  simp only [exS] at o
  refine ⟨as, ρ, h, S, R, Ok.bind o fun t h1 as1 H1 t' f1 r1 o1 => ?_⟩
  subst r1
  cases t with
  | true => exact ⟨as1, ρ, h1, f1.sr, R.fut f1, o1⟩
  | false => exact ⟨as1, ρ, h1, f1.sr, R.fut f1, o1⟩
theorem okS_wh {c : Ex} {b : List Sm} {z : Expr} {xb : List Stmt} {p : Pos} (po : PassesOwn (model X.prog X.w) X.A X.env X.xe) (hc : PT X z (tT G E (evT T call c))) (hb : PSs X xb (tS G E (exSs T call W b))) : PS X (.While z xb [] p) (tS G E (exS T call W (.wh c b))) := by
  refine (ps_while po hc hb).imp fun D σ H ⟨as, ρ, h, S, R, o⟩ => ?_
  simp only [exS] at o
  refine ⟨fun m σ H => ∃ as ρ h, SR G as H h ∧ RepE G as H ρ σ ∧ Ok G E as H (fun as' H' => relF G as' H') (endsQ D) (whRun (evT T call c) (exSs T call W b) m ρ h), ⟨W, as, ρ, h, S, R, o⟩, ?_⟩
  rintro m σ H ⟨as, ρ, h, S, R, o⟩
  cases m with
  | zero => exact False.elim o
  | succ m =>
    unfold whRun at o
    refine ⟨as, ρ, h, S, R, Ok.bind o fun t h1 as1 H1 t' f1 r1 o1 => ?_⟩
    subst r1
    cases t with
    | false => exact o1 as1 H1 (.nx σ) (Fut.refl f1.sr) (R.fut f1)
    | true =>
      simp only [if_true] at o1 ⊢
      refine ⟨fun σ' H' => ∃ as ρ h, SR G as H' h ∧ RepE G as H' ρ σ' ∧ Ok G E as H' (fun as' H' => relF G as' H') (endsQ D) (whRun (evT T call c) (exSs T call W b) m ρ h), fun σ' H' n => ⟨m, Nat.lt_succ_self _, n⟩, ?_⟩
      refine ⟨as1, ρ, h1, f1.sr, R.fut f1, Ok.bind o1 fun f h2 as2 H2 fv f2 r2 o2 => ?_⟩
      cases f with
      | nx ρ1 =>
        cases fv with
        | nx σ1 => exact ⟨as2, ρ1, h2, f2.sr, r2, o2⟩
        | _ => exact False.elim r2
      | bk ρ1 =>
        cases fv with
        | bk σ1 => exact o2 as2 H2 (.nx σ1) (Fut.refl f2.sr) r2
        | _ => exact False.elim r2
      | ct ρ1 =>
        cases fv with
        | ct σ1 => exact ⟨as2, ρ1, h2, f2.sr, r2, o2⟩
        | _ => exact False.elim r2
      | rt v =>
        cases fv with
        | rt v1 => exact o2 as2 H2 (.rt v1) (Fut.refl f2.sr) r2
        | _ => exact False.elim r2
def forB (T : Tb) (call : Nat → List PV → PH → Res PV) (W : Nat) (t : Tg) (b : List Sm) (x : PV) (ρ1 : PEnv) (h2 : PH) : Res Fl := match bindTg t x ρ1 with
      | none => .stuck
      | some ρ2 => exSs T call W b ρ2 h2
theorem exS_for {t : Tg} {k : Ik} {its : List Ex} {b : List Sm} {ρ : PEnv} {h : PH} : exS T call W (.for_ t k its b) ρ h = (evI T call k its ρ h).bind fun p h1 => forRun (forB T call W t b) p.1 (p.2 + 1) 0 ρ h1 := by
  unfold evI
  simp only [exS, Res.bind_assoc]
  congr 1
  funext vs h1
  cases q : wkOf k vs h1 with
  | none => rfl
  | some p => rfl
theorem okS_for (O : XOk G T nm call fx X E) {t : Tg} {k : Ik} {its : List Ex} {b : List Sm} {tg iter : Expr} {xb : List Stmt} {p : Pos} (po : PassesOwn (model X.prog X.w) X.A X.env X.xe) (hi : PI X tg iter (tI G E (evI T call k its))) (hg : PG X tg (tG G t)) (hb : PSs X xb (tS G E (exSs T call W b))) (hs : noSet iter = true) :
    PS X (.For tg iter xb [] p) (tS G E (exS T call W (.for_ t k its b))) := by
  refine (ps_for po O.calm hi hg hb (fun x => by cases iter <;> first | rfl | cases hs)).imp fun D σ H ⟨as, ρ, h, S, R, o⟩ => ?_
  rw [exS_for] at o
  refine ⟨as, ρ, h, S, R, Ok.bind o fun p h1 as1 H1 J f1 hJ o1 => ?_⟩
  refine ⟨fun i m σ H => ∃ as2 ρ2 h2, Fut G as1 H1 as2 H h2 ∧ RepE G as2 H ρ2 σ ∧ Ok G E as2 H (fun as' H' => relF G as' H') (endsQ D) (forRun (forB T call W t b) p.1 m i ρ2 h2), ⟨p.2 + 1, as1, ρ, h1, Fut.refl f1.sr, R.fut f1, o1⟩, ?_⟩
  rintro i m σ2 H2 ⟨as2, ρ2, h2, f2, R2, o2⟩
  cases m with
  | zero => exact False.elim o2
  | succ m =>
    obtain ⟨j1, j2⟩ := hJ as2 H2 h2 f2.pre f2.kp f2.sr i
    unfold forRun at o2
    split at o2
    · exact False.elim o2
    · rename_i q
      exact .inl ⟨j1 q, o2 as2 H2 (.nx σ2) (Fut.refl f2.sr) R2⟩
    · rename_i x q
      obtain ⟨jg, jy⟩ := j2 x q
      refine .inr ⟨jg, fun σ3 H3 => ∃ as3 ρ3 h3, Fut G as1 H1 as3 H3 h3 ∧ RepE G as3 H3 ρ3 σ3 ∧ Ok G E as3 H3 (fun as' H' => relF G as' H') (endsQ D) (forRun (forB T call W t b) p.1 m (i + 1) ρ3 h3), fun σ3 H3 n => ⟨m, Nat.lt_succ_self _, n⟩, fun v H3 y => ?_⟩
      obtain ⟨f3, rv⟩ := jy v H3 y
      have o3 := Ok.fut f3 o2
      unfold forB at o3
      split at o3
      · exact False.elim o3
      · rename_i ρ3 qb
        refine ⟨as2, ρ2, h2, x, ρ3, f3.sr, R2.fut f3, rv, qb, fun σ3 R3 _ => ?_⟩
        refine ⟨as2, ρ3, h2, f3.sr, R3, Ok.bind o3 fun f h4 as4 H4 fv f4 r4 o4 => ?_⟩
        cases f with
        | nx ρ1 =>
          cases fv with
          | nx σ1 => exact ⟨as4, ρ1, h4, (f2.trans f3).trans f4, r4, o4⟩
          | _ => exact False.elim r4
        | bk ρ1 =>
          cases fv with
          | bk σ1 => exact o4 as4 H4 (.nx σ1) (Fut.refl f4.sr) r4
          | _ => exact False.elim r4
        | ct ρ1 =>
          cases fv with
          | ct σ1 => exact ⟨as4, ρ1, h4, (f2.trans f3).trans f4, r4, o4⟩
          | _ => exact False.elim r4
        | rt v =>
          cases fv with
          | rt v1 => exact o4 as4 H4 (.rt v1) (Fut.refl f4.sr) r4
          | _ => exact False.elim r4
theorem okS_nm (O : XOk G T nm call fx X E) {i : Nat} {e : Ex} {t x : Expr} {p : Pos} (ht : chkNm fx i t = true) (hc : isComp x = false) (he : PE X x (tE G E (evE T call e))) : PS X (.Assign [t] x p) (tS G E (exS T call W (.asg (.nm i) e))) := by
  cases t with
  | Name y q =>
    simp only [chkNm, Bool.and_eq_true, decide_eq_true_eq, List.contains_iff_mem] at ht
    obtain ⟨l, f⟩ := O.st y ht.2
    refine (ps_set (i := i) O.nd (by rw [O.N]; exact ht.1) l he (noSwap hc) f).imp fun D σ H ⟨as, ρ, h, S, R, o⟩ => ?_
    simp only [exS, asgTa, Res.bind_ok] at o
    exact ⟨as, ρ, h, S, R, Ok.bind o fun v h1 as1 H1 v' f1 r1 o1 => o1 as1 H1 (.nx _) (Fut.refl f1.sr) ((R.fut f1).set i r1)⟩
  | _ => cases ht
def lcLine (y : Str) (py pos : Pos) (sc : Scope) (l : Nat) : Bool := (py.line == pos.line) && !(sc.names.any fun (n, k) => n == y && (k == .local || k == .cell))
theorem okS_nmLc (O : XOk G T nm call fx X E) {i : Nat} {y : Str} {py spos : Pos} {e : Ex} {own : List Nat} {t : Tg} {k : Ik} {its ifs : List Ex} {elt tg iter : Expr} {xifs : List Expr} {sc : Scope} {pos : Pos}
    (hy : fx.N[i]? = some y) (hl : fx.names.lookup y = some .local) (hline : lcLine y py pos sc spos.line = true)
    (hi : PI X tg iter (tI G E (evI T call k its))) (hb : blkC fx.N (scOf fx) sc (ownsOf fx own) = true) (htg : ∀ i ∈ tgIs t, i ∈ own)
    (hg : ∀ (X' : Cx), XOk G T nm call (fxB fx sc) X' E0 → PG X' tg (tG G t)) (ht : ∀ (X' : Cx), XOk G T nm call (fxB fx sc) X' E0 → PTs X' xifs (tT G E0 (evIf T call ifs))) (he : ∀ (X' : Cx), XOk G T nm call (fxB fx sc) X' E0 → PE X' elt (tE G E0 (evE T call e)))
    (hs : noSet iter = true) : PS X (.Assign [.Name y py] (.ListComp elt [⟨tg, iter, xifs, 0⟩] sc pos) spos) (tS G E (exS T call W (.asg (.nm i) (.lc e own t k its ifs)))) := by
  obtain ⟨hbk, hpg, hpt, hpe, fs⟩ := lc_parts O hi hb htg hg ht he hs
  simp only [lcLine, Bool.and_eq_true, Bool.not_eq_true'] at hline
  refine (ps_setLc O.calm O.nd (i := i) (by rw [O.N]; exact hy) (by rw [O.names]; exact hl) (sw_true O.kind (by rw [O.names]; exact hl) hline.1 hline.2) hi hbk hpg hpt hpe fs).imp fun D σ H ⟨as, ρ, h, S, R, o⟩ => ?_
  simp only [exS, asgTa, Res.bind_ok] at o
  refine lc_core' O hi hb htg hg ht he hs σ H _ ⟨as, ρ, h, S, R, Ok.bind o fun v h1 as1 H1 v' f1 r1 o1 => ?_⟩
  exact o1 as1 H1 (.nx _) (Fut.refl f1.sr) ((R.fut f1).set i r1)
end
end Mn
set_option Elab.async false
set_option linter.all false
set_option maxRecDepth 100000
set_option maxHeartbeats 4000000
namespace Mn
open PySem PySem.Spec L2 PyProof.Rows
section
variable {G : Gm} {T : Tb} {nm : Nm} {call : Nat → List PV → PH → Res PV} {fx : Fx} {X : Cx} {E : XK} {W : Nat}
def rSet (G : Gm) : TSet := fun o i v H Q => ∃ as h x y z h', SR G as H h ∧ RepV G as H x o ∧ RepV G as H y i ∧ RepV G as H z v ∧ pSet x y z h = some h' ∧ ∀ H', Fut G as H as H' h' → Q H'
theorem keyOf_ok {y : PV} {k : Key} {as : List Addr} {H : Hp} {v : V} (e : keyOf y = some k) (r : RepV G as H y v) : v = kV k := by
  cases y with
  | int i => cases e; rw [r.intE]; rfl
  | str x => cases e; rw [r.strE]; rfl
  | _ => cases e
theorem set_all (hu : X.A.units + 70 < cLine) : PSet X (rSet G) := by
  intro pins s σ H o i v ov iv u Q I ro ri rv h
  obtain ⟨as, h, x, y, z, h', S, rx, ry, rz, e, q⟩ := h
  cases x with
  | ref l =>
    obtain ⟨a, ea, rfl⟩ := rx.refE
    simp only [pSet] at e
    split at e
    · rename_i xs q1
      split at e
      · rename_i j
        split at e
        · rename_i m qm
          cases e
          obtain ⟨vs, e1, rl⟩ := S.lstM q1 ea
          obtain rfl := ry.intE
          exact set_list pins s σ H _ _ v ov iv u Q I ro ri rv ⟨a, vs, j, m, rfl, rfl, e1, by rw [← rl.length]; exact qm, q _ (S.setL ea e1 (rl.set m rz))⟩
        · cases e
      · cases e
    · rename_i kvs q1
      split at e
      · rename_i k qk
        split at e
        · rename_i hl
          cases e
          obtain ⟨ks, ed, rk⟩ := S.dic q1 ea
          obtain rfl := keyOf_ok qk ry
          have hl2 : ks.length = kvs.length := by
            clear q hl q1 ed
            induction kvs generalizing ks with
            | nil => unfold RepK at rk; subst rk; rfl
            | cons p r ih =>
              obtain ⟨k', x'⟩ := p
              unfold RepK at rk
              obtain ⟨v', r', rfl, _, r2⟩ := rk
              simp [ih _ r2]
          refine set_dict (by omega) pins s σ H _ _ v ov iv u Q I ro ri rv ⟨a, _, rfl, DPut.k ed (by rw [hl2]; exact hl), q _ (S.setD ea ed (dPut_ok rk rz))⟩
        · cases e
      · cases e
    · cases e
  | _ => cases e
theorem noSwapIx {e o i : Expr} {l : Nat} {env : Env} {p : Pos} : swapsWithSole [.Subscript o i p] e l env = pure false := by cases e <;> rfl
theorem noStoresIx {e o i : Expr} {env : Env} {p : Pos} : swappedStores [.Subscript o i p] e env = pure none := by cases e <;> rfl
theorem okS_ix (O : XOk G T nm call fx X E) {e o i : Ex} {x xo xi : Expr} {p p2 : Pos} (hy : isSlice xi = false) (he : PE X x (tE G E (evE T call e))) (ho : PE X xo (tE G E (evE T call o))) (hi : PE X xi (tE G E (evE T call i))) :
    PS X (.Assign [.Subscript xo xi p2] x p) (tS G E (exS T call W (.asg (.ix o i) e))) := by
  refine (ps_asg he (pg_sub ho hi (set_all (G := G) O.hu) (fun v => by cases xi <;> first | rfl | cases hy)) noSwapIx noStoresIx).imp fun D σ H ⟨as, ρ, h, S, R, q⟩ => ?_
  simp only [exS, asgTa, Res.bind_assoc] at q
  refine ⟨as, ρ, h, S, R, Ok.bind q fun v h1 as1 H1 v' f1 r1 q1 => ⟨as1, ρ, h1, f1.sr, R.fut f1, Ok.bind q1 fun w h2 as2 H2 w' f2 r2 q2 => ⟨as2, ρ, h2, f2.sr, (R.fut f1).fut f2, Ok.bind q2 fun k h3 as3 H3 k' f3 r3 q3 => ?_⟩⟩⟩
  split at q3
  · rename_i h4 q4
    refine ⟨as3, h3, w, k, v, h4, f3.sr, r2.fut f3, r3, (r1.fut f2).fut f3, q4, fun H' f4 => ?_⟩
    simp only [Res.bind_ok] at q3
    exact q3 as3 H' (.nx σ) f4 (((R.fut f1).fut f2).fut f3 |>.fut f4)
  · exact False.elim q3
def swNone : Expr → Bool
  | .Tuple vs _ _ => vs.all (foldedForSure 8)
  | _ => true
theorem swNone_ok {ts : List Expr} {k : Nat} {p : Pos} {x : Expr} {env : Env} (h : swNone x = true) : swappedStores [.Tuple ts k p] x env = pure none := by
  cases x with
  | Tuple vs kk pp =>
    have hf : vs.all (foldedForSure 8) = true := h
    unfold swappedStores
    dsimp only
    rw [hf]
    split
    · rfl
    · split
      · rfl
      · split
        · rfl
        · rfl
  | _ => rfl
theorem noSwapTp {x : Expr} {ts : List Expr} {k l : Nat} {p : Pos} {env : Env} : swapsWithSole [.Tuple ts k p] x l env = pure false := by cases x <;> rfl
def tGL (G : Gm) (is : List Nat) : TG := fun v σ H Q => ∃ as ρ h l xs, SR G as H h ∧ RepE G as H ρ σ ∧ RepV G as H (.ref l) v ∧ lstAt h l = some xs ∧ xs.length = is.length ∧ ∀ σ', RepE G as H ((is.zip xs).foldl (fun r q => r.set q.1 (some q.2)) ρ) σ' → Q σ' H
theorem okG_tpL (O : XOk G T nm call fx X E) {is : List Nat} {es : List Expr} {kk : Nat} {pos : Pos} (h : chkNms fx is es = true) : PG X (.Tuple es kk pos) (tGL G is) := by
  obtain ⟨g, l, f⟩ := okG_names O h
  refine ⟨fun pins s σ H v u Q I r ⟨as, ρ, hh, l', xs, S, R, rx, el, hl, k⟩ => (pg_unl O.calm g l f).run pins s σ H v u Q I r ?_⟩
  obtain ⟨a, ea, rfl⟩ := rx.refE
  obtain ⟨vs, sl, rv⟩ := S.lst el ea
  exact ⟨a, vs, rfl, by rw [O.K]; exact sl, by rw [← rv.length]; exact hl, by rw [← rv.length]; exact hl, k _ (foldl_set_ok R rv)⟩
theorem PG.or {e : Expr} {a b : TG} (ha : PG X e a) (hb : PG X e b) : PG X e (fun v σ H Q => a v σ H Q ∨ b v σ H Q) := ⟨fun pins s σ H v u Q I r q => q.elim (ha.run pins s σ H v u Q I r) (hb.run pins s σ H v u Q I r)⟩
theorem okS_tp (O : XOk G T nm call fx X E) {e : Ex} {is : List Nat} {x : Expr} {ts : List Expr} {k : Nat} {p p2 : Pos} (hs : swNone x = true) (ht : chkNms fx is ts = true) (he : PE X x (tE G E (evE T call e))) :
    PS X (.Assign [.Tuple ts k p2] x p) (tS G E (exS T call W (.asg (.tp is) e))) := by
  refine (ps_asg he (PG.or (okG_tg (G := G) (T := T) (nm := nm) (call := call) (E := E) O (t := .tp is) (e := .Tuple ts k p2) ht) (okG_tpL (G := G) (T := T) (nm := nm) (call := call) (E := E) O ht)) noSwapTp (swNone_ok hs)).imp fun D σ H ⟨as, ρ, h, S, R, q⟩ => ?_
  simp only [exS, asgTa] at q
  refine ⟨as, ρ, h, S, R, Ok.bind q fun v h1 as1 H1 v' f1 r1 q1 => ?_⟩
  split at q1
  · rename_i ρ1 qb
    refine .inl ⟨as1, ρ, h1, v, ρ1, f1.sr, R.fut f1, r1, qb, fun σ' R' _ => ?_⟩
    exact q1 as1 H1 (.nx σ') (Fut.refl f1.sr) R'
  · split at q1
    · rename_i ρ1 qb
      unfold bindL at qb
      split at qb
      · split at qb
        · split at qb
          · cases qb
            rename_i l _ _ xs el hl
            exact .inr ⟨as1, ρ, h1, l, xs, f1.sr, R.fut f1, r1, el, hl, fun σ' R' => q1 as1 H1 (.nx σ') (Fut.refl f1.sr) R'⟩
          · cases qb
        · cases qb
      · cases qb
    · exact False.elim q1
def locB (names : List (Str × NameKind)) (x : Str) : Bool := match names.lookup x with
  | some .local => true
  | _ => false
theorem locB_ok {names : List (Str × NameKind)} {x : Str} (h : locB names x = true) : names.lookup x = some .local := by
  unfold locB at h
  split at h
  · rename_i q; exact q
  · cases h
def par2B (names : List (Str × NameKind)) (x y : Str) (px py : Pos) (a b : Expr) : Bool := locB names x && locB names y && decide (x ≠ y) && (py.line == px.line) && !isStar a && !isStar b && !(foldedForSure 8 a && foldedForSure 8 b) && !(constantsAlone 8 a && constantsAlone 8 b)
theorem bk_fn {env : Env} (h : env.scope.kind = .function) : env.blockKind = .function := by
  unfold Env.blockKind
  rw [h]
  rfl
theorem par2_ok {env : Env} {x y : Str} {px py p p2 : Pos} {k k2 : Nat} {a b : Expr} (hk : env.scope.kind = .function) (h : par2B env.scope.names x y px py a b = true) : swappedStores [.Tuple [.Name x px, .Name y py] k p] (.Tuple [a, b] k2 p2) env = pure (some [x, y]) := by
  unfold par2B at h
  simp only [Bool.and_eq_true, Bool.not_eq_true', decide_eq_true_eq] at h
  obtain ⟨⟨⟨⟨⟨⟨⟨h1, h2⟩, h3⟩, h4⟩, h5⟩, h6⟩, h7⟩, h8⟩ := h
  have k1 : env.kindOf x = some .local := locB_ok h1
  have k2 : env.kindOf y = some .local := locB_ok h2
  have hb := bk_fn hk
  have ha : ([a, b].any fun e => match e with | .Starred .. => true | _ => false) = false := by
    have q : ∀ e : Expr, isStar e = false → (match e with | .Starred .. => true | _ => false) = false := fun e he => by cases e <;> first | rfl | cases he
    simp only [List.any_cons, List.any_nil, q a h5, q b h6, Bool.or_false]
  have hf : [a, b].all (foldedForSure 8) = false := by simpa using h7
  have hc : [a, b].all (constantsAlone 8) = false := by simpa using h8
  have ed : [x, y].eraseDups.length = 2 := by
    rw [List.eraseDups_cons]
    have : [y].filter (fun b => !b == x) = [y] := by
      have hyx : (y == x) = false := by
        rw [beq_eq_false_iff_ne]
        exact fun z => h3 z.symm
      simp [hyx]
    rw [this]
    rfl
  have hb2 : (env.blockKind != ScopeKind.function) = false := by rw [hb]; rfl
  have l1 : (px.line == px.line) = true := by simp
  unfold swappedStores
  dsimp only
  simp only [hb2]
  generalize hA : List.any [a, b] _ = A
  have eA : A = false := by rw [← hA]; exact ha
  generalize hN : List.filterMap _ [Expr.Name x px, Expr.Name y py] = N
  have eN : N = [x, y] := by
    rw [← hN]
    simp only [List.filterMap_cons, List.filterMap_nil, k1, k2, List.head?, Option.map, Option.getD, Expr.pos, h4, l1]
    rfl
  rw [eA, eN, hf, hc]
  simp only [ed]
  rfl
end
end Mn
set_option Elab.async false
set_option linter.all false
set_option maxRecDepth 100000
set_option maxHeartbeats 4000000
namespace Mn
open PySem PySem.Spec L2 PyProof.Rows
section
variable {G : Gm} {T : Tb} {nm : Nm} {call : Nat → List PV → PH → Res PV} {fx : Fx} {X : Cx} {E : XK} {W : Nat}
theorem Ok.bind_call {f : Nat} {np : Nat} {as : List Addr} {H : Hp} {Q : V → Hp → Prop} {vs : List PV} {h : PH} {xs : List V} (ar : ∀ xs h, xs.length ≠ np → call f xs h = .stuck) (S : SR G as H h) (r : RepVs G as H vs xs) (o : OkV G E as H Q (call f vs h)) : spF G call f np xs H Q E := by
  by_cases hl : vs.length = np
  · exact ⟨by rw [← r.length]; exact hl, as, h, vs, S, r, o⟩
  · rw [ar vs h hl] at o
    exact False.elim o
theorem okE_call (O : XOk G T nm call fx X E) {g f : Nat} {es : List Ex} {x : Str} {y : Expr} {ys : List Expr} {p pos : Pos} (hg : nm.gn[g]? = some x) (hf : T.glob[g]? = some (.fn f)) (hb : glB fx.names x = true) (hp : plainName x = true)
    (hx : isStar y = false) (hxs : ys.all (fun x => !isStar x) = true) (ha : PA X (y :: ys) (tA G E (evEs T call es))) : PE X (.Call (.Name x p) (y :: ys) [] pos) (tE G E (evE T call (.call g es))) := by
  obtain ⟨k, fd, ps, F, hr, hk, hbd, hm, ar⟩ := O.fns g x f hg hf
  refine (pe_call F hr (gl_ok O hb) hm hk hbd .nil O.pass ha (plain_ok hp).1 (star_cons hx) (noStars hxs)).imp fun σ H Q ⟨as, ρ, h, S, R, o⟩ => ?_
  simp only [evE, hf, callG] at o
  refine ⟨as, ρ, h, S, R, Ok.bind o fun vs h1 as1 H1 vs' f1 r1 o1 => ?_⟩
  rw [List.append_nil]
  exact Ok.bind_call ar f1.sr r1 o1
theorem okE_call0 (O : XOk G T nm call fx X E) {g f : Nat} {x : Str} {p pos : Pos} (hg : nm.gn[g]? = some x) (hf : T.glob[g]? = some (.fn f)) (hb : glB fx.names x = true) (hp : plainName x = true) :
    PE X (.Call (.Name x p) [] [] pos) (tE G E (evE T call (.call g []))) := by
  obtain ⟨k, fd, ps, F, hr, hk, hbd, hm, ar⟩ := O.fns g x f hg hf
  refine (pe_call0 F hr (gl_ok O hb) hm hk hbd .nil O.pass (plain_ok hp).1).imp fun σ H Q ⟨as, ρ, h, S, R, o⟩ => ?_
  simp only [evE, hf, callG, evEs, Res.bind_ok] at o
  show spF G call f ps.length ([] ++ []) H Q E
  exact Ok.bind_call ar S .nil o
theorem noBase {o : Expr} {m : Str} {env : Env} (h : o.pos = o.pos) : True := trivial
def notCall : Expr → Bool
  | .Call .. => false
  | _ => true
theorem few_ok {xs : List Expr} {env : Env} {pos : Pos} (h : xs.all (fun x => !isStar x) = true) (hl : xs.length < 29) :
    ((backTo pos (starEach xs env)).all (fun x => !x.1) && (backToKw pos (keywordEach [] env)).all (fun x => x.1.isSome) && decide (xs.length + ([] : List Keyword).length + (if ([] : List Keyword).isEmpty then 0 else 1) < 30)) = true := by
  have h1 : (backTo pos (starEach xs env)).all (fun x => !x.1) = true := by
    clear hl
    induction xs with
    | nil => rfl
    | cons x xs ih =>
      simp only [List.all_cons, Bool.and_eq_true, Bool.not_eq_true'] at h
      rw [star_cons h.1]
      show (!false && (backTo pos (starEach xs env)).all (fun x => !x.1)) = true
      rw [ih h.2]
      rfl
  rw [h1]
  have h2 : (backToKw pos (keywordEach [] env)).all (fun x => x.1.isSome) = true := rfl
  rw [h2]
  simp only [List.length_nil, List.isEmpty_nil, if_true, Bool.true_and, decide_eq_true_eq]
  omega
def tMB (X : Cx) (name : Str) (to : TE) (t : TA) : TE := fun σ H Q => to σ H fun x H1 => ∃ (TT id : String) (r : V → List V → Hp → VK → Prop), PlainAttrs TT ∧ Slot TT name id ∧ typeOf (.builtin id) = pure (.type "method_descriptor") ∧ MtR X id r ∧ tyV X.K TT x H1 ∧ t σ H1 fun xs H2 => r x xs H2 Q
theorem pe_mtB {o e : Expr} {es : List Expr} {to : TE} {t : TA} {name : Str} {apos cpos : Pos} (ho : PE X o to) (ha : PA X (e :: es) t) (hbase : attributeBase o name X.env (eval o X.env) = eval o X.env)
    (hxs : (e :: es).all (fun x => !isStar x) = true) (hl : (e :: es).length < 29) (hline : (apos.endLine == cpos.line) = true) : PE X (.Call (.Attribute o name apos) (e :: es) [] cpos) (tMB X name to t) := by
  refine ⟨fun pins s σ H Q I h => ?_⟩
  refine wpAny_Call_method_late hbase (few_ok hxs hl) hline rfl (thn (ho.run pins s σ H _ I h) fun v s1 ⟨x, H1, I1, r1, TT, id, r, pa, slot, hty, hm, ty, q1⟩ => ?_)
  obtain ⟨h1, h2⟩ := tyV_is I1 r1 ty
  refine ⟨TT, id, pa, slot, hty, h1, h2, ?_⟩
  have hA := ha.run cpos pins s1 σ H1 _ I1 q1
  simp only [List.all_cons, Bool.and_eq_true, Bool.not_eq_true'] at hxs
  rw [star_cons hxs.1] at hA ⊢
  refine Calls.callWith_builtin (by show (false || (backTo cpos (starEach es X.env)).any (·.1)) = false; rw [noStars hxs.2] <;> rfl) (Calls.evalArgs_plain ?_)
  exact thn hA fun us s2 ⟨vs, H2, I2, r2, q2⟩ => hm pins s2 σ H2 x vs v us Q I2 r1 r2 q2
def tMB0 (X : Cx) (name : Str) (to : TE) : TE := fun σ H Q => to σ H fun x H1 => ∃ (TT id : String) (r : V → List V → Hp → VK → Prop), PlainAttrs TT ∧ Slot TT name id ∧ typeOf (.builtin id) = pure (.type "method_descriptor") ∧ MtR X id r ∧ tyV X.K TT x H1 ∧ r x [] H1 Q
theorem pe_mtB0 {o : Expr} {to : TE} {name : Str} {apos cpos : Pos} (ho : PE X o to) (hbase : attributeBase o name X.env (eval o X.env) = eval o X.env) (hline : (apos.endLine == cpos.line) = true) : PE X (.Call (.Attribute o name apos) [] [] cpos) (tMB0 X name to) := by
  refine ⟨fun pins s σ H Q I h => ?_⟩
  refine wpAny_Call_method0_late hbase hline (thn (ho.run pins s σ H _ I h) fun v s1 ⟨x, H1, I1, r1, TT, id, r, pa, slot, hty, hm, ty, q1⟩ => ?_)
  obtain ⟨h1, h2⟩ := tyV_is I1 r1 ty
  exact ⟨TT, id, pa, slot, hty, h1, h2, Calls.callWith_builtin rfl (PySem.evalArgs_none (hm pins s1 σ H1 x [] v [] Q I1 r1 .nil q1))⟩
def notNone : Bm → Bool
  | .none => false
  | _ => true
theorem evE_mt {m : Nat} {b : Bm} {o : Ex} {es : List Ex} (hb : notNone b = true) (ρ : PEnv) (h : PH) : evE T call (.mt m b o es) ρ h = (evE T call o ρ h).bind fun v h1 => match Bq.of b (kindAt h1 v) with
      | some q => (evEs T call es ρ h1).bind fun vs h2 => pBq q v vs h2
      | none => .stuck := by cases b <;> first | rfl | cases hb
theorem okE_mt (O : XOk G T nm call fx X E) {m : Nat} {b : Bm} {o : Ex} {es : List Ex} {xo y : Expr} {ys : List Expr} {apos pos : Pos} (hb : notNone b = true) (ho : PE X xo (tE G E (evE T call o))) (ha : PA X (y :: ys) (tA G E (evEs T call es)))
    (hbase : attributeBase xo b.nm X.env (eval xo X.env) = eval xo X.env) (hxs : (y :: ys).all (fun x => !isStar x) = true) (hl : (y :: ys).length < 29) (hline : (apos.endLine == pos.line) = true) :
    PE X (.Call (.Attribute xo b.nm apos) (y :: ys) [] pos) (tE G E (evE T call (.mt m b o es))) := by
  refine (pe_mtB ho ha hbase hxs hl hline).imp fun σ H Q ⟨as, ρ, h, S, R, o⟩ => ?_
  rw [evE_mt hb] at o
  refine ⟨as, ρ, h, S, R, Ok.bind o fun v h1 as1 H1 v' f1 r1 o1 => ?_⟩
  split at o1
  · rename_i q qe
    refine ⟨q.T, q.id, rMq G E q, bq_plain q, bq_slot qe, bq_ty q, mt_bq O.K O.hu q, kind_ty O.K f1.sr qe r1, as1, ρ, h1, f1.sr, R.fut f1, Ok.bind o1 fun vs h2 as2 H2 vs' f2 r2 o2 => ?_⟩
    exact ⟨as2, h2, v, vs, f2.sr, r1.fut f2, r2, o2⟩
  · exact False.elim o1
theorem okE_mt0 (O : XOk G T nm call fx X E) {m : Nat} {b : Bm} {o : Ex} {xo : Expr} {apos pos : Pos} (hb : notNone b = true) (ho : PE X xo (tE G E (evE T call o))) (hbase : attributeBase xo b.nm X.env (eval xo X.env) = eval xo X.env) (hline : (apos.endLine == pos.line) = true) :
    PE X (.Call (.Attribute xo b.nm apos) [] [] pos) (tE G E (evE T call (.mt m b o []))) := by
  refine (pe_mtB0 ho hbase hline).imp fun σ H Q ⟨as, ρ, h, S, R, o⟩ => ?_
  rw [evE_mt hb] at o
  refine ⟨as, ρ, h, S, R, Ok.bind o fun v h1 as1 H1 v' f1 r1 o1 => ?_⟩
  split at o1
  · rename_i q qe
    simp only [evEs, Res.bind_ok] at o1
    exact ⟨q.T, q.id, rMq G E q, bq_plain q, bq_slot qe, bq_ty q, mt_bq O.K O.hu q, kind_ty O.K f1.sr qe r1, as1, h1, v, [], f1.sr, r1, .nil, o1⟩
  · exact False.elim o1
end
end Mn
set_option Elab.async false
set_option linter.all false
set_option maxRecDepth 100000
set_option maxHeartbeats 4000000
namespace Mn
open PySem PySem.Spec L2 PyProof.Rows
def baseB : Expr → Bool
  | .Call (.Name ..) [] [] _ => false
  | _ => true
theorem base_ok {o : Expr} {m : Str} {env : Env} {w : Sem Value} (h : baseB o = true) : attributeBase o m env w = w := by
  unfold attributeBase
  split
  · cases h
  · rfl
section
variable {G : Gm} {T : Tb} {nm : Nm} {call : Nat → List PV → PH → Res PV} {fx : Fx} {X : Cx} {E : XK} {W : Nat}
theorem noStarE {e : Ex} (h : (match e with | .star _ => false | _ => true) = true) : ∀ x, e ≠ .star x := fun x e => by subst e; cases h
theorem okS_par2 (O : XOk G T nm call fx X E) {es : List Ex} {i j : Nat} {x y : Str} {px py p p2 pos : Pos} {k k2 : Nat} {a b : Expr} (hi : fx.N[i]? = some x) (hj : fx.N[j]? = some y) (hp : par2B fx.names x y px py a b = true) (ha : PA X [a, b] (tA G E (evEs T call es))) :
    PS X (.Assign [.Tuple [.Name x px, .Name y py] k p] (.Tuple [a, b] k2 p2) pos) (tS G E (exS T call W (.asg (.tp [i, j]) (.tup es)))) := by
  have hp2 := hp
  unfold par2B at hp2
  simp only [Bool.and_eq_true, Bool.not_eq_true', decide_eq_true_eq] at hp2
  obtain ⟨⟨⟨⟨⟨⟨⟨h1, h2⟩, h3⟩, _⟩, _⟩, _⟩, _⟩, _⟩ := hp2
  have hij : i ≠ j := fun e => by subst e; rw [hi] at hj; exact h3 (Option.some.inj hj)
  refine (ps_par (i := i) (j := j) O.calm O.nd (by rw [O.N]; exact hi) (by rw [O.N]; exact hj) hij (by rw [O.names]; exact locB_ok h1) (by rw [O.names]; exact locB_ok h2) ha (par2_ok O.kind (by rw [O.names]; exact hp))).imp fun D σ H ⟨as, ρ, h, S, R, o⟩ => ?_
  simp only [exS, evE, Res.bind_assoc] at o
  refine ⟨as, ρ, h, S, R, Ok.bind o fun vs h1 as1 H1 vs' f1 r1 o1 => ?_⟩
  split at o1
  · rename_i hl
    simp only [Res.bind_ok, asgTa, bindTg] at o1
    split at o1
    · rename_i ρ1 qb
      split at qb
      · rename_i hl2
        cases qb
        have hlen : vs.length = 2 := by simpa using hl2
        match vs, hlen, r1, o1 with
        | [v, w], _, r1, o1 =>
          obtain ⟨v', w', rfl, rv, rw'⟩ := r1.two
          refine ⟨v', w', rfl, ?_⟩
          have R1 := ((R.fut f1).set i rv).set j rw'
          exact o1 as1 H1 (.nx _) (Fut.refl f1.sr) R1
      · cases qb
    · exact False.elim o1
  · exact False.elim o1
theorem okS_aug (O : XOk G T nm call fx X E) {op : Bop} {i : Nat} {e : Ex} {x : Str} {y : Expr} {px p : Pos} (hop : op = .add ∨ op = .sub) (ht : chkNm fx i (.Name x px) = true) (he : PE X y (tE G E (evE T call e))) :
    PS X (.AugAssign (.Name x px) op.py y p) (tS G E (exS T call W (.aug (.nm i) op e))) := by
  simp only [chkNm, Bool.and_eq_true, decide_eq_true_eq, List.contains_iff_mem] at ht
  obtain ⟨l, f⟩ := O.st x ht.2
  rcases hop with rfl | rfl
  · refine (ps_aug (i := i) O.nd (by rw [O.N]; exact ht.1) l he (op := .Add) (ti := rAdd) (fun pins s σ H x y v u Q I rx ry h => in_add pins s σ H x y v u Q I rx ry h) f).imp fun D σ H ⟨as, ρ, h, S, R, o⟩ => ?_
    simp only [exS] at o
    split at o
    · rename_i v q
      obtain ⟨v', e', rv⟩ := R.2 i v q
      refine ⟨v', e', as, ρ, h, S, R, Ok.bind o fun w h1 as1 H1 w' f1 r1 o1 => ?_⟩
      cases v with
      | int a =>
        cases w with
        | int b =>
          obtain rfl := rv.intE
          obtain rfl := r1.intE
          exact ⟨_, _, rfl, rfl, o1 as1 H1 (.nx _) (Fut.refl f1.sr) ((R.fut f1).set i (.int _))⟩
        | _ => exact False.elim o1
      | _ => exact False.elim o1
    · exact False.elim o
  · refine (ps_aug (i := i) O.nd (by rw [O.N]; exact ht.1) l he (op := .Sub) (ti := rSub) (fun pins s σ H x y v u Q I rx ry h => in_sub pins s σ H x y v u Q I rx ry h) f).imp fun D σ H ⟨as, ρ, h, S, R, o⟩ => ?_
    simp only [exS] at o
    split at o
    · rename_i v q
      obtain ⟨v', e', rv⟩ := R.2 i v q
      refine ⟨v', e', as, ρ, h, S, R, Ok.bind o fun w h1 as1 H1 w' f1 r1 o1 => ?_⟩
      cases v with
      | int a =>
        cases w with
        | int b =>
          obtain rfl := rv.intE
          obtain rfl := r1.intE
          exact ⟨_, _, rfl, rfl, o1 as1 H1 (.nx _) (Fut.refl f1.sr) ((R.fut f1).set i (.int _))⟩
        | _ => exact False.elim o1
      | _ => exact False.elim o1
    · exact False.elim o
end
end Mn
set_option Elab.async false
set_option linter.all false
set_option maxRecDepth 100000
set_option maxHeartbeats 1000000
namespace Mn
open PySem PySem.Spec L2 PyProof.Rows
section
variable {G : Gm} {as as' : List Addr} {H H' : Hp} {h h' : PH}
theorem an_inj (nd : G.an.Nodup) {f g : Nat} {n : Str} (e1 : G.an[f]? = some n) (e2 : G.an[g]? = some n) : f = g := by
  obtain ⟨h1, q1⟩ := List.getElem?_eq_some_iff.mp e1
  obtain ⟨h2, q2⟩ := List.getElem?_eq_some_iff.mp e2
  exact (List.getElem_inj nd).mp (q1.trans q2.symm)
theorem RepF.there (nd : G.an.Nodup) {f : Nat} {x : PV} : ∀ {fs : List (Nat × PV)} {gs : List (Str × V)}, RepF G as H fs gs → fs.lookup f = some x → ∃ n v, G.an[f]? = some n ∧ gs.lookup n = some v ∧ RepV G as H x v
  | [], _, _, e => by cases e
  | (g, y) :: r, gs, q, e => by
    unfold RepF at q
    obtain ⟨n, v, gs', rfl, en, rv, rr⟩ := q
    rw [List.lookup_cons] at e
    by_cases hg : f = g
    · subst hg
      rw [beq_self_eq_true] at e
      cases e
      exact ⟨n, v, en, by rw [List.lookup_cons, beq_self_eq_true], rv⟩
    · rw [beq_eq_false_iff_ne.mpr hg] at e
      obtain ⟨m, w, em, lw, rw'⟩ := RepF.there nd rr e
      refine ⟨m, w, em, ?_, rw'⟩
      have hm : (m == n) = false := beq_eq_false_iff_ne.mpr fun z => hg (an_inj nd em (z ▸ en))
      rw [List.lookup_cons, hm]
      exact lw
theorem RepF.gone (nd : G.an.Nodup) {f : Nat} {n : Str} (hn : G.an[f]? = some n) : ∀ {fs : List (Nat × PV)} {gs : List (Str × V)}, RepF G as H fs gs → fs.lookup f = none → gs.lookup n = none
  | [], _, q, _ => by unfold RepF at q; subst q; rfl
  | (g, y) :: r, gs, q, e => by
    unfold RepF at q
    obtain ⟨m, v, gs', rfl, en, rv, rr⟩ := q
    rw [List.lookup_cons] at e
    by_cases hg : f = g
    · subst hg
      rw [beq_self_eq_true] at e
      cases e
    · rw [beq_eq_false_iff_ne.mpr hg] at e
      have hm : (n == m) = false := beq_eq_false_iff_ne.mpr fun z => hg (an_inj nd hn (z ▸ en))
      rw [List.lookup_cons, hm]
      exact RepF.gone nd hn rr e
theorem RepF.len : ∀ {fs : List (Nat × PV)} {gs : List (Str × V)}, RepF G as H fs gs → gs.length = fs.length
  | [], _, q => by unfold RepF at q; subst q; rfl
  | (g, y) :: r, gs, q => by
    unfold RepF at q
    obtain ⟨m, v, gs', rfl, en, rv, rr⟩ := q
    simp [RepF.len rr]
theorem RepF.cons {f : Nat} {n : Str} {x : PV} {v : V} {fs : List (Nat × PV)} {gs : List (Str × V)} (hn : G.an[f]? = some n) (r : RepV G as H x v) (q : RepF G as H fs gs) : RepF G as H ((f, x) :: fs) ((n, v) :: gs) := by
  unfold RepF
  exact ⟨n, v, gs, rfl, hn, r, q⟩
theorem RepF.put (nd : G.an.Nodup) {f : Nat} {n : Str} {x : PV} {v : V} (hn : G.an[f]? = some n) (rx : RepV G as H x v) : ∀ {fs : List (Nat × PV)} {gs : List (Str × V)}, RepF G as H fs gs → RepF G as H (putN f x fs) (putF n v gs)
  | [], _, q => by
    unfold RepF at q
    subst q
    exact .cons hn rx (by unfold RepF; rfl)
  | (g, y) :: r, gs, q => by
    unfold RepF at q
    obtain ⟨m, w, gs', rfl, en, rv, rr⟩ := q
    unfold putN putF
    by_cases hg : g = f
    · subst hg
      have : m = n := Option.some.inj (en.symm.trans hn)
      rw [if_pos rfl, if_pos this, this]
      exact .cons hn rx rr
    · have : m ≠ n := fun z => hg (an_inj nd (z ▸ en) hn)
      rw [if_neg hg, if_neg this]
      exact .cons en rv (RepF.put nd hn rx rr)
theorem SR.insM (S : SR G as H h) {l c : Nat} {a : Addr} {fs : List (Nat × PV)} (e : h[l]? = some (.ins c fs)) (ea : as[l]? = some a) : ∃ dx gs, H a = some (.ins (G.ca c) dx gs) ∧ RepF G as H fs gs := S.at_ l _ a e ea
theorem SR.setI (S : SR G as H h) {l c : Nat} {a dx : Addr} {gs ws : List (Str × V)} {ys : List (Nat × PV)} (ea : as[l]? = some a) (e : H a = some (.ins (G.ca c) dx gs)) (r : RepF G as H ys ws) : Fut G as H as (upd H a (.ins (G.ca c) dx ws)) (h.set l (.ins c ys)) := by
  have k : Kp H (upd H a (.ins (G.ca c) dx ws)) := Kp.mut e (fun _ z => by cases z) (fun _ _ z => by cases z)
  exact S.set ea k ⟨dx, ws, upd_same, r.mono (List.prefix_refl _) k⟩
theorem SR.newI (S : SR G as H h) {x dx : Addr} {c : Nat} (hx : H x = none) (hd : H dx = none) (hne : dx ≠ x) :
    Fut G as H (as ++ [x]) (upd (upd H dx (.own x)) x (.ins (G.ca c) dx [])) (h ++ [.ins c []]) ∧ RepV G (as ++ [x]) (upd (upd H dx (.own x)) x (.ins (G.ca c) dx [])) (.ref h.length) (.ref x) := by
  have f1 := S.upd_free (o := .own x) hd
  have hx2 : upd H dx (.own x) x = none := by rw [upd_ne (Ne.symm hne)]; exact hx
  obtain ⟨f2, r⟩ := f1.sr.new (o := .ins c []) (ho := .ins (G.ca c) dx []) hx2 ⟨dx, [], upd_same, by unfold RepF; rfl⟩
  exact ⟨f1.trans f2, r⟩
end
section
variable {G : Gm} {T : Tb} {nm : Nm} {call : Nat → List PV → PH → Res PV} {fx : Fx} {X : Cx} {E : XK} {W : Nat}
theorem Ok.noer1 {α β : Type} {G : Gm} {E E' : XK} {as : List Addr} {H : Hp} {r : Res α} {rel : List Addr → Hp → α → β → Prop} {Q : β → Hp → Prop} (o : Ok G E as H rel Q r.noer) : Ok G E' as H rel Q r := by
  induction r with
  | ok v h1 => exact o
  | er x h1 => exact False.elim o
  | stuck => exact o
  | all n f ih => exact fun i hi => ih i (o i hi)
theorem attK_cls {c f : Nat} {q : Option Nat} (e : attK T c f = some q) : ∃ ci, T.cls[c]? = some ci ∧ ci.meths.lookup f = none ∧ ci.props.lookup f = q := by
  unfold attK at e
  obtain ⟨ci, e1, e2⟩ := Option.bind_eq_some_iff.mp e
  refine ⟨ci, e1, ?_⟩
  split at e2
  · cases e2
  · rename_i z
    exact ⟨z, Option.some.inj e2⟩
theorem cls_lt {c : Nat} {ci : Ci} (e : T.cls[c]? = some ci) : c < T.cls.length := (List.getElem?_eq_some_iff.mp e).1
theorem fld_ok (O : XOk G T nm call fx X E) {as : List Addr} {H : Hp} {h : PH} {f : Nat} {n : Str} {v : PV} {x : V} {Q : VK} (hn : nm.an[f]? = some n) (S : SR G as H h) (r : RepV G as H v x) (o : OkV G E as H Q (fldOf T f v h)) :
    ∃ a C dx fs w, x = .ref a ∧ H a = some (.ins C dx fs) ∧ Cls X.K C ∧ NoAttr X.K C n ∧ fs.lookup n = some w ∧ Q w H := by
  cases v with
  | ref l =>
    obtain ⟨a, ea, rfl⟩ := r.refE
    simp only [fldOf] at o
    split at o
    · rename_i c fs q1
      split at o
      · rename_i qa
        split at o
        · rename_i y ql
          obtain ⟨dx, gs, eh, rf⟩ := S.insM q1 ea
          obtain ⟨m, w, em, lw, rw'⟩ := rf.there O.cls.nd ql
          rw [O.an] at hn
          have : m = n := Option.some.inj (em.symm.trans hn)
          subst this
          obtain ⟨ci, ec, _, _⟩ := attK_cls qa
          exact ⟨a, _, dx, gs, w, rfl, eh, by rw [O.K]; exact O.cls.cl c (cls_lt ec), by rw [O.K]; exact O.cls.at_ c f m qa hn, lw, o as H w (Fut.refl S) rw'⟩
        · exact False.elim o
      · exact False.elim o
    · exact False.elim o
  | _ => exact False.elim o
theorem okE_att (O : XOk G T nm call fx X E) {f : Nat} {n : Str} {o : Ex} {xo : Expr} {pos : Pos} (hn : nm.an[f]? = some n) (hbase : attributeBase xo n X.env (eval xo X.env) = eval xo X.env) (ho : PE X xo (tE G E (evE T call o))) :
    PE X (.Attribute xo n pos) (tE G E (evE T call (.att o f))) := by
  refine ⟨fun pins s σ H Q I ⟨as, ρ, h, S, R, q⟩ => ?_⟩
  have fld : ∀ r : Res PV, r = evE T call o ρ h → OkV G E as H Q (r.bind fun v h1 => fldOf T f v h1) → wpAny (model X.prog X.w) X.A (eval (.Attribute xo n pos) X.env) (EP X pins σ Q) X.xe s := fun r er q => by
    subst er
    refine (pe_fld ho hbase).run pins s σ H Q I ⟨as, ρ, h, S, R, Ok.bind q fun v h1 as1 H1 v' f1 r1 q1 => ?_⟩
    exact fld_ok O hn f1.sr r1 q1
  simp only [evE] at q
  split at q
  · rename_i l h1 er
    split at q
    · rename_i c fs ql
      split at q
      · rename_i g qa
        obtain ⟨ci, ec, em, ep⟩ := attK_cls qa
        rw [O.an] at hn
        obtain ⟨p, hp⟩ := O.cls.pr c ci f g n ec em ep hn
        obtain ⟨k, fd, ps, F, hr, hbd, ar⟩ := O.mfn c ci g ec (.inr (.inr ⟨f, ep⟩))
        rw [← O.K] at hp
        refine (pe_prop (C := G.ca c) (sp := spF G call g ps.length) (ds := []) (dvs := []) ho (by rw [O.K]; exact O.cls.cl c (cls_lt ec)) hp F hr hbd .nil (E := E0) (L2.passL (X := X.nox)) hbase).run pins s σ H Q I ⟨as, ρ, h, S, R, ?_⟩
        rw [er]
        intro as1 H1 v1 f1 r1
        obtain ⟨a, ea, rfl⟩ := r1.refE
        obtain ⟨dx, gs, eh, rf⟩ := f1.sr.insM ql ea
        refine ⟨a, dx, gs, rfl, eh, ?_⟩
        exact Ok.bind_call (E := E0) ar f1.sr (.cons r1 .nil) (Ok.noer1 (q.fut f1))
      · refine fld (.ok (.ref l) h1) er.symm ?_
        exact q
    · exact False.elim q
  · exact fld _ rfl q
theorem meth_eq {o : Expr} {m : Str} {apos pos : Pos} {xs : List Expr} {env : Env} (hbase : attributeBase o m env (eval o env) = eval o env) (hxs : xs.all (fun x => !isStar x) = true) (hl : xs.length < 29) (hline : (apos.endLine == pos.line) = true) :
    eval (.Call (.Attribute o m apos) xs [] pos) env = (do
      let ov ← eval o env
      standAt apos.atName
      let (f, first) ← holding [ov] (getMethod ov m (do return (← importBound o env).getD true))
      callWith pos f first (backTo pos (starEach xs env)) (backToKw pos (keywordEach [] env))) := by
  have hform : methodCallForm (xs.length + ([] : List Keyword).length) (backTo pos (starEach xs env)) (backToKw pos (keywordEach [] env)) = true := few_ok hxs hl
  have hpos : methodCallPos true o env apos pos = pure pos := by unfold methodCallPos; simp [hline]
  rw [arm_eval_Call, hbase]
  unfold methodCall
  simp only [hform, hpos, calleeOf, if_true]
  rfl
theorem okE_meth (O : XOk G T nm call fx X E) {m : Nat} {n : Str} {o : Ex} {es : List Ex} {xo : Expr} {ys : List Expr} {apos pos : Pos} (hn : nm.an[m]? = some n) (ho : PE X xo (tE G E (evE T call o))) (ha : PA X ys (tA G E (evEs T call es)))
    (hbase : attributeBase xo n X.env (eval xo X.env) = eval xo X.env) (hxs : ys.all (fun x => !isStar x) = true) (hl : ys.length < 29) (hline : (apos.endLine == pos.line) = true) (hlen : es.length = ys.length) :
    PE X (.Call (.Attribute xo n apos) ys [] pos) (tE G E (evE T call (.mt m .none o es))) := by
  refine ⟨fun pins s σ H Q I ⟨as, ρ, h, S, R, q⟩ => ?_⟩
  simp only [evE] at q
  split at q
  · rename_i l h1 er
    split at q
    · rename_i c fs ql
      split at q
      · rename_i fnum qf qm
        obtain ⟨ci, ec, em⟩ := Option.bind_eq_some_iff.mp qm
        have hn' := hn
        rw [O.an] at hn'
        have mm := O.cls.me c ci m fnum n ec em hn'
        obtain ⟨k, fd, ps, F, hr, hbd, ar⟩ := O.mfn c ci fnum ec (.inr (.inl ⟨m, em⟩))
        have cc : Cls X.K (G.ca c) := by rw [O.K]; exact O.cls.cl c (cls_lt ec)
        rw [← O.K] at mm
        have pre : tE G E (evE T call o) σ H fun x H1 => ∃ a dx gs, x = .ref a ∧ H1 a = some (.ins (G.ca c) dx gs) ∧ gs.lookup n = none ∧ tA G E (evEs T call es) σ H1 fun vs H2 => spF G call fnum ps.length (x :: (vs ++ [])) H2 Q E := by
          refine ⟨as, ρ, h, S, R, ?_⟩
          rw [er]
          intro as1 H1 v1 f1 r1
          obtain ⟨a, ea, rfl⟩ := r1.refE
          obtain ⟨dx, gs, eh, rf⟩ := f1.sr.insM ql ea
          refine ⟨a, dx, gs, rfl, eh, rf.gone O.cls.nd hn' qf, as1, ρ, h1, f1.sr, R.fut f1, ?_⟩
          refine Ok.bind (Ok.fut f1 q) fun vs h2 as2 H2 vs' f2 r2 q2 => ?_
          rw [List.append_nil]
          exact Ok.bind_call ar f2.sr (.cons (r1.fut f2) r2) q2
        cases ys with
        | nil =>
          cases es with
          | nil =>
            refine (pe_meth0 (sp := spF G call fnum ps.length) (ds := []) (dvs := []) ho cc mm F (hr.mono (Nat.le_succ k)) hbd .nil O.pass (meth_eq hbase rfl (by decide) hline)).run pins s σ H Q I ?_
            obtain ⟨as', ρ', h', S', R', q'⟩ := pre
            refine ⟨as', ρ', h', S', R', q'.imp fun v H1 ⟨a, dx, gs, e1, e2, e3, as3, ρ3, h3, S3, R3, q3⟩ => ⟨a, dx, gs, e1, e2, e3, ?_⟩⟩
            simp only [evEs] at q3
            exact q3 as3 H1 [] (Fut.refl S3) .nil
          | cons _ _ => simp at hlen
        | cons y ys =>
          exact (pe_meth (sp := spF G call fnum ps.length) (ds := []) (dvs := []) ho cc mm F (hr.mono (Nat.le_succ k)) hbd .nil O.pass ha (star_cons (by simpa using (Bool.and_eq_true_iff.mp hxs).1)) (noStars (Bool.and_eq_true_iff.mp hxs).2) (meth_eq hbase hxs hl hline)).run pins s σ H Q I pre
      · exact False.elim q
    · exact False.elim q
  · exact False.elim q
theorem mg_cls (O : XOk G T nm call fx X E) {g c : Nat} {x : Str} (hg : nm.gn[g]? = some x) (hf : T.glob[g]? = some (.cls c)) : X.mg x = some (.ref (G.ca c)) := by
  obtain ⟨u, e, y, ry, rep⟩ := O.gl g x _ hg hf
  have e2 : y = .ref (G.ca c) := by
    have := rep [] (fun _ => none)
    unfold RepV at this
    exact this
  subst e2
  cases ry
  exact e
theorem make_ok {as : List Addr} {H : Hp} {h : PH} {c f np : Nat} {vs : List PV} {xs : List V} {Q : VK} (ar : ∀ xs h, xs.length ≠ np → call f xs h = .stuck) (S : SR G as H h) (r : RepVs G as H vs xs)
    (o : OkV G E as H Q ((call f (.ref h.length :: vs) (h ++ [.ins c []])).bind fun v h1 => match v with
      | .non => .ok (.ref h.length) h1
      | _ => .stuck)) : ∀ x dx, H x = none → H dx = none → dx ≠ x → spF G call f np (.ref x :: (xs ++ [])) (upd (upd H dx (.own x)) x (.ins (G.ca c) dx [])) (fun v H2 => v = .non ∧ Q (.ref x) H2) E := by
  intro x dx hx hd hne
  obtain ⟨f1, r1⟩ := S.newI (c := c) hx hd hne
  rw [List.append_nil]
  refine Ok.bind_call ar f1.sr (.cons r1 (r.fut f1)) ?_
  refine Ok.bind (Ok.fut f1 o) fun v h2 as2 H2 v' f2 r2 q2 => ?_
  cases v with
  | non =>
    have e : v' = .non := by unfold RepV at r2; exact r2
    exact ⟨e, q2 as2 H2 (.ref x) (Fut.refl f2.sr) (r1.fut f2)⟩
  | _ => exact False.elim q2
theorem okE_make (O : XOk G T nm call fx X E) {g c f : Nat} {es : List Ex} {x : Str} {ys : List Expr} {p pos : Pos} (hg : nm.gn[g]? = some x) (hf : T.glob[g]? = some (.cls c)) (hi : (T.cls[c]?).bind (·.init) = some f) (hb : glB fx.names x = true) (hp : plainName x = true)
    (hxs : ys.all (fun x => !isStar x) = true) (hlen : es.length = ys.length) (ha : PA X ys (tA G E (evEs T call es))) : PE X (.Call (.Name x p) ys [] pos) (tE G E (evE T call (.call g es))) := by
  have hm := mg_cls O hg hf
  refine ⟨fun pins s σ H Q I ⟨as, ρ, h, S, R, o⟩ => ?_⟩
  simp only [evE, hf, callG] at o
  obtain ⟨ci, ec, ei⟩ := Option.bind_eq_some_iff.mp hi
  obtain ⟨k, fd, ps, F, hr, hbd, ar⟩ := O.mfn c ci f ec (.inl ei)
  have M : Mk X.K (G.ca c) (G.fa f) := by rw [O.K]; exact O.cls.mkr c ci f ec ei
  cases ys with
  | nil =>
    cases es with
    | nil =>
      refine (pe_make0 (sp := spF G call f ps.length) (ds := []) (dvs := []) M F hr (gl_ok O hb) hm hbd .nil O.pass (plain_ok hp).1).run pins s σ H Q I ?_
      simp only [evEs, Res.bind_ok, hi] at o
      exact make_ok ar S .nil o
    | cons _ _ => simp at hlen
  | cons y ys =>
    refine (pe_make (sp := spF G call f ps.length) (ds := []) (dvs := []) M F hr (gl_ok O hb) hm hbd .nil O.pass ha (plain_ok hp).1 (star_cons (by simpa using (Bool.and_eq_true_iff.mp hxs).1)) (noStars (Bool.and_eq_true_iff.mp hxs).2)).run pins s σ H Q I ⟨as, ρ, h, S, R, ?_⟩
    refine Ok.bind o fun vs h1 as1 H1 vs' f1 r1 o1 => ?_
    rw [hi] at o1
    exact make_ok ar f1.sr r1 o1
theorem okE_dsp {pos : Pos} : PE X (.Dict [] [] pos) (tE G E (evE T call .dsp)) := by
  refine (pe_dnewK (X := X) (pos := pos)).imp fun σ H Q hq => ?_
  obtain ⟨as, ρ, h, S, R, o⟩ := hq
  simp only [evE] at o
  intro p hp
  obtain ⟨f1, r1⟩ := S.new (o := .dic []) (ho := .dK []) hp ⟨[], upd_same, by unfold RepK; rfl⟩
  exact o _ _ _ f1 r1
theorem okE_callv (O : XOk G T nm call fx X E) {i : Nat} {es : List Ex} {x : Str} {y : Expr} {ys : List Expr} {p pos : Pos} (hN : fx.N[i]? = some x) (hv : visB fx.names x = true) (hp : plainName x = true)
    (hx : isStar y = false) (hxs : ys.all (fun x => !isStar x) = true) (ha : PA X (y :: ys) (tA G E (evEs T call es))) : PE X (.Call (.Name x p) (y :: ys) [] pos) (tE G E (evE T call (.callv i es))) := by
  refine ⟨fun pins s σ H Q I ⟨as, ρ, h, S, R, o⟩ => ?_⟩
  simp only [evE] at o
  split at o
  · rename_i f q
    obtain ⟨v', e, r⟩ := R.2 i _ q
    have ev : v' = .ref (G.fa f) := by unfold RepV at r; exact r
    subst ev
    split at o
    · rename_i ha2
      obtain ⟨w, hw, hf⟩ := List.any_eq_true.mp ha2
      obtain ⟨g, hg, rfl⟩ := List.getElem_of_mem hw
      have hgf : T.glob[g]? = some (.fn f) := by
        rw [List.getElem?_eq_getElem hg]
        generalize T.glob[g] = w at hf
        unfold isFnOf at hf
        split at hf
        · rw [eq_of_beq hf]
        · cases hf
      have hlt : g < nm.gn.length := Nat.lt_of_lt_of_le hg O.gnl
      have hgn : nm.gn[g]? = some nm.gn[g] := List.getElem?_eq_getElem hlt
      obtain ⟨k, fd, ps, F, hr, hk, hbd, hm, ar⟩ := O.fns g _ f hgn hgf
      refine (pe_callL (i := i) (sp := spF G call f ps.length) (ds := []) (dvs := []) F hr (by rw [O.N]; exact hN) (vis_ok O hv) hk hbd .nil O.pass ha (plain_ok hp).1 (plain_ok hp).2.1 (star_cons hx) (noStars hxs)).run pins s σ H Q I ⟨e, as, ρ, h, S, R, ?_⟩
      refine Ok.bind o fun vs h1 as1 H1 vs' f1 r1 o1 => ?_
      rw [List.append_nil]
      exact Ok.bind_call ar f1.sr r1 o1
    · exact False.elim o
  · exact False.elim o
theorem pFld_ok (O : XOk G T nm call fx X E) {as : List Addr} {H : Hp} {h h' : PH} {f : Nat} {n : Str} {w v : PV} {x y : V} (hn : nm.an[f]? = some n) (S : SR G as H h) (rw_ : RepV G as H w x) (rv : RepV G as H v y) (e : pFld T w f v h = some h') :
    ∃ a C dx gs, x = .ref a ∧ H a = some (.ins C dx gs) ∧ Cls X.K C ∧ NoAttr X.K C n ∧ gs.length < 1000 ∧ Fut G as H as (upd H a (.ins C dx (putF n y gs))) h' := by
  cases w with
  | ref l =>
    obtain ⟨a, ea, rfl⟩ := rw_.refE
    simp only [pFld] at e
    split at e
    · rename_i c fs q1
      split at e
      · rename_i q
        cases e
        obtain ⟨dx, gs, eh, rf⟩ := S.insM q1 ea
        obtain ⟨ci, ec, _, _⟩ := attK_cls q.1
        rw [O.an] at hn
        exact ⟨a, _, dx, gs, rfl, eh, by rw [O.K]; exact O.cls.cl c (cls_lt ec), by rw [O.K]; exact O.cls.at_ c f n q.1 hn, by rw [rf.len]; exact q.2, S.setI ea eh (rf.put O.cls.nd hn rv)⟩
      · cases e
    · cases e
  | _ => cases e
theorem okS_fld (O : XOk G T nm call fx X E) {e o : Ex} {f : Nat} {n : Str} {x xo : Expr} {p p2 : Pos} (hn : nm.an[f]? = some n) (he : PE X x (tE G E (evE T call e))) (ho : PE X xo (tE G E (evE T call o))) :
    PS X (.Assign [.Attribute xo n p2] x p) (tS G E (exS T call W (.asg (.att o f) e))) := by
  have hs : swapsWith x (some (.Attribute xo n p2)) p.line X.env = pure false := by cases x <;> rfl
  refine (ps_fld ho he hs).imp fun D σ H hq => ?_
  obtain ⟨as, ρ, h, S, R, q⟩ := hq
  simp only [exS, asgTa, Res.bind_assoc] at q
  show tE G E (evE T call e) σ H fun y H1 => tE G E (evE T call o) σ H1 fun x H2 => ∃ a C dx fs, x = .ref a ∧ H2 a = some (.ins C dx fs) ∧ Cls X.K C ∧ NoAttr X.K C n ∧ fs.length < 1000 ∧ D.nx σ (upd H2 a (.ins C dx (putF n y fs)))
  refine ⟨as, ρ, h, S, R, Ok.bind q fun v h1 as1 H1 v' f1 r1 q1 => ?_⟩
  refine ⟨as1, ρ, h1, f1.sr, R.fut f1, Ok.bind q1 fun w h2 as2 H2 w' f2 r2 q2 => ?_⟩
  split at q2
  · rename_i h3 q3
    obtain ⟨a, C, dx, gs, ex, eh, cc, na, hl, f3⟩ := pFld_ok O hn f2.sr r2 (r1.fut f2) q3
    refine ⟨a, C, dx, gs, ex, eh, cc, na, hl, ?_⟩
    simp only [Res.bind_ok] at q2
    exact q2 as2 _ (.nx σ) f3 (((R.fut f1).fut f2).fut f3)
  · exact False.elim q2
theorem fldaug_ok (O : XOk G T nm call fx X E) {op : Bop} {opy : Operator} {rd : V → V → Hp → VK → Prop} {e o : Ex} {f : Nat} {n : Str} {x xo : Expr} {p p2 : Pos} (hrd : InOp X opy rd) (hn : nm.an[f]? = some n) (he : PE X x (tE G E (evE T call e))) (ho : PE X xo (tE G E (evE T call o)))
    (hop : ∀ (as : List Addr) (H : Hp) (h : PH) (v w : PV) (y z : V) (Q : VK), SR G as H h → RepV G as H v y → RepV G as H w z → OkV G E as H Q (pAug op v w h) → rd y z H Q) :
    PS X (.AugAssign (.Attribute xo n p2) opy x p) (tS G E (exS T call W (.aug (.att o f) op e))) := by
  refine (ps_fldaug ho he hrd).imp fun D σ H ⟨as, ρ, h, S, R, q⟩ => ?_
  simp only [exS] at q
  show tE G E (evE T call o) σ H fun x H1 => ∃ a C dx fs v, x = .ref a ∧ H1 a = some (.ins C dx fs) ∧ Cls X.K C ∧ NoAttr X.K C n ∧ fs.lookup n = some v ∧
    tE G E (evE T call e) σ H1 fun y H2 => rd v y H2 fun z H3 => ∃ dx' fs', H3 a = some (.ins C dx' fs') ∧ fs'.length < 1000 ∧ D.nx σ (upd H3 a (.ins C dx' (putF n z fs')))
  refine ⟨as, ρ, h, S, R, Ok.bind q fun w h1 as1 H1 w' f1 r1 q1 => ?_⟩
  cases w with
  | ref l =>
    obtain ⟨a, ea, rfl⟩ := r1.refE
    simp only at q1
    split at q1
    · rename_i c fs ql
      split at q1
      · rename_i qa
        split at q1
        · rename_i v qv
          obtain ⟨dx, gs, eh, rf⟩ := f1.sr.insM ql ea
          obtain ⟨m, u, em, lw, ru⟩ := rf.there O.cls.nd qv
          obtain ⟨ci, ec, _, _⟩ := attK_cls qa
          have hn' := hn
          rw [O.an] at hn'
          have hmn : m = n := Option.some.inj (em.symm.trans hn')
          subst hmn
          refine ⟨a, _, dx, gs, u, rfl, eh, by rw [O.K]; exact O.cls.cl c (cls_lt ec), by rw [O.K]; exact O.cls.at_ c f m qa hn', lw, as1, ρ, h1, f1.sr, R.fut f1, ?_⟩
          refine Ok.bind q1 fun x h3 as3 H3 x' f3 r3 q3 => ?_
          refine hop as3 H3 h3 v x u x' _ f3.sr (ru.fut f3) r3 (Ok.bind q3 fun y h4 as4 H4 y' f4 r4 q4 => ?_)
          have ea4 : as4[l]? = some a := pre_get f4.pre (pre_get f3.pre ea)
          split at q4
          · rename_i c' fs' q5
            split at q4
            · rename_i q6
              obtain ⟨rfl, hl⟩ := q6
              obtain ⟨dx', gs', eh', rf'⟩ := f4.sr.insM q5 ea4
              refine ⟨dx', gs', eh', by rw [rf'.len]; exact hl, ?_⟩
              have f5 := f4.sr.setI ea4 eh' (rf'.put O.cls.nd em r4)
              exact q4 as4 _ (.nx σ) f5 ((((R.fut f1).fut f3).fut f4).fut f5)
            · exact False.elim q4
          · exact False.elim q4
        · exact False.elim q1
      · exact False.elim q1
    · exact False.elim q1
  | _ => exact False.elim q1
def rAug : V → V → Hp → VK → Prop := fun x y H Q => rAdd x y H Q ∨ rAddS x y H Q
theorem in_aug : InOp X .Add rAug := fun pins s σ H x y u v Q I rx ry h => by
  rcases h with h | h
  · exact in_add pins s σ H x y u v Q I rx ry h
  · exact in_addS pins s σ H x y u v Q I rx ry h
theorem okS_fldaug (O : XOk G T nm call fx X E) {op : Bop} {e o : Ex} {f : Nat} {n : Str} {x xo : Expr} {p p2 : Pos} (hop : op = .add ∨ op = .sub) (hn : nm.an[f]? = some n) (he : PE X x (tE G E (evE T call e))) (ho : PE X xo (tE G E (evE T call o))) :
    PS X (.AugAssign (.Attribute xo n p2) op.py x p) (tS G E (exS T call W (.aug (.att o f) op e))) := by
  rcases hop with rfl | rfl
  · refine fldaug_ok O (rd := rAug) in_aug hn he ho fun as H h v w y z Q S rv rw_ q => ?_
    unfold pAug at q
    split at q
    · have e1 := rv.intE
      have e2 := rw_.intE
      exact .inl ⟨_, _, e1, e2, q as H _ (Fut.refl S) (.int _)⟩
    · rename_i z1; cases z1
    · have e1 := rv.strE
      have e2 := rw_.strE
      split at q
      · rename_i a b _ hl
        refine .inr ⟨_, _, e1, e2, by simpa [Str.length] using hl, q as H _ (Fut.refl S) ?_⟩
        rw [str_app]
        exact .str _
      · exact False.elim q
    · exact False.elim q
  · refine fldaug_ok O (rd := rSub) (fun pins s σ H x y v u Q I rx ry h => in_sub pins s σ H x y v u Q I rx ry h) hn he ho fun as H h v w y z Q S rv rw_ q => ?_
    unfold pAug at q
    split at q
    · rename_i z1; cases z1
    · have e1 := rv.intE
      have e2 := rw_.intE
      exact ⟨_, _, e1, e2, q as H _ (Fut.refl S) (.int _)⟩
    · rename_i z1; cases z1
    · exact False.elim q
end
end Mn
set_option Elab.async false
set_option linter.all false
set_option maxRecDepth 100000
set_option maxHeartbeats 1000000
namespace MnZ
open PySem
open Sem (wp)
section
variable {prog : Program} {w : World} {A : Around} {E : Value → Shared → Prop} {s : Shared} {z TI TO T i1 i2 : Addr} {fp1 fp2 : List Addr} {n1 n2 i : Nat} {P1 P2 : Nat → Value → Prop} {St1 St2 : Nat → Heap → Prop} {f : Bool} {oT : Obj}
theorem held_next {Q : Value → Shared → Prop} (Sp : ZipSep2 z TI TO i1 i2 fp1 fp2) (D1 : Draws prog w A i1 fp1 n1 P1 St1) (D2 : Draws prog w A i2 fp2 n2 P2 St2)
    (zz : IsZipHeld s.heap z TI TO T f) (zT : s.heap.get? T = some oT) (zI : IsTupOf2 s.heap TI (.ref i1) (.ref i2)) (q1 : St1 i s.heap) (q2 : St2 i s.heap) (l1 : i < n1) (l2 : i < n2)
    (k : ∀ x1 x2 h' tk, P1 i x1 → P2 i x2 → IsZipHeld h' z TI TO T true → St1 (i + 1) h' → St2 (i + 1) h' → IsTupOf2 h' s.heap.objs.size x1 x2 → h'.objs.size = s.heap.objs.size + 1 →
      (∀ c o, c ≠ z → c ≠ i1 → c ≠ i2 → s.heap.get? c = some o → h'.get? c = some o) → Q (.ref s.heap.objs.size) { s with heap := h', toks := tk }) :
    wpAny (model prog w) A (Builtin.«zip.__next__» ⟨[.ref z], []⟩) (fun fin s' => ∃ v, fin = .done (.ret v) ∧ Q v s') E s := by
  obtain ⟨hp, gg, dd, tk0, os⟩ := s
  show wpAny _ _ (field (.ref z) 2 >>= _) _ _ ⟨hp, gg, dd, tk0, os⟩
  refine wpAny_bind (wpAny_field zz rfl (x := .bool false) rfl (show wpAny _ _ (field (.ref z) 3 >>= _) _ _ ⟨hp, gg, dd, tk0, os⟩ from wpAny_bind (wpAny_field zz rfl (x := .ref TI) rfl (wpAny_bind (wpAny_seqItems zI rfl ?_)))))
  show wpAny _ _ (Builtin.SmallTypes.ownedTupleIsFree (.ref z) >>= _) _ _ ⟨hp, gg, dd, tk0, os⟩
  refine wpAny_bind (wpAny_tupleHeld_zip zz zT fun h₁ zz₁ sb₁ => ?_)
  simp only [Bool.false_eq_true, if_false]
  refine wpAny_bind ?_
  rw [← Array.forIn_toList]
  simp only [List.forIn_cons, List.forIn_nil]
  replace sb₁ : Heap.SameBut z hp h₁ := sb₁
  refine wpAny_bind (wpAny_bind (wpAny_holding (show wpAny _ _ (Builtin.SmallTypes.nextOf (.ref i1) >>= _) _ _ ⟨h₁, gg, dd, tk0, os⟩ from ?_)))
  refine wpAny_bind (D1.item i _ _ _ l1 (D1.over q1 sb₁ Sp.zf1) fun x1 g₁ tk1 hx1 sn1 sg₁ => wpAny_pure (wpAny_pure ?_))
  replace sg₁ : Heap.SameBut i1 h₁ g₁ := sg₁
  refine wpAny_bind (wpAny_bind (wpAny_holding (show wpAny _ _ (Builtin.SmallTypes.nextOf (.ref i2) >>= _) _ _ ⟨g₁, gg, dd, tk1, os⟩ from ?_)))
  refine wpAny_bind (D2.item i _ _ _ l2 (D2.over (D2.over q2 sb₁ Sp.zf2) sg₁ Sp.sep1_2) fun x2 g₂ tk2 hx2 sn2 sg₂ => wpAny_pure (wpAny_pure (wpAny_pure ?_)))
  replace sg₂ : Heap.SameBut i2 g₁ g₂ := sg₂
  show wpAny _ _ (newTuple [x1, x2] >>= _) _ _ ⟨g₂, gg, dd, tk2, os⟩
  refine wpAny_bind (wpAny_newTuple (wpAny_pure ⟨_, rfl, ?_⟩))
  have zs : g₂.objs.size = hp.objs.size := by rw [sg₂.1, sg₁.1, sb₁.1]
  have keep : ∀ c o, c ≠ z → c ≠ i1 → c ≠ i2 → hp.get? c = some o → g₂.get? c = some o := fun c o cz c1 c2 e => sg₂.extBut _ _ c2 (sg₁.extBut _ _ c1 (sb₁.extBut _ _ cz e))
  have zz2 : IsZipHeld g₂ z TI TO T true := sg₂.extBut _ _ Sp.zi2 (sg₁.extBut _ _ Sp.zi1 zz₁)
  have up : ∀ c o, g₂.get? c = some o → (g₂.push { cls := .type "tuple", data := .seq #[x1, x2] }).get? c = some o := fun c o e => Heap.get?_push_of_some _ e
  have pT : IsTupOf2 (g₂.push { cls := .type "tuple", data := .seq #[x1, x2] }) g₂.objs.size x1 x2 := Heap.get?_push_size _ rfl
  have pz : (g₂.push { cls := .type "tuple", data := .seq #[x1, x2] }).objs.size = g₂.objs.size + 1 := Heap.size_push ..
  show Q (.ref g₂.objs.size) ⟨g₂.push { cls := .type "tuple", data := .seq #[x1, x2] }, gg, dd, tk2, os⟩
  have kk := k x1 x2 (g₂.push { cls := .type "tuple", data := .seq #[x1, x2] }) tk2 hx1 hx2 (up _ _ zz2) (D1.frame _ _ _ (D1.over sn1 sg₂ Sp.sep2_1) fun b _ o e => up b o e) (D2.frame _ _ _ sn2 fun b _ o e => up b o e)
  rw [← show g₂.objs.size = (⟨hp, gg, dd, tk0, os⟩ : Shared).heap.objs.size from zs] at kk
  exact kk pT pz fun c o cz c1 c2 e => up c o (keep c o cz c1 c2 e)
theorem held_end {Q : Fin → Shared → Prop} (Sp : ZipSep2 z TI TO i1 i2 fp1 fp2) (D1 : Draws prog w A i1 fp1 n1 P1 St1) (D2 : Draws prog w A i2 fp2 n2 P2 St2)
    (zz : IsZipHeld s.heap z TI TO T f) (zT : s.heap.get? T = some oT) (zI : IsTupOf2 s.heap TI (.ref i1) (.ref i2)) (q1 : St1 i s.heap) (q2 : St2 i s.heap) (l1 : i ≤ n1) (l2 : i ≤ n2) (le : i = n1 ∨ i = n2)
    (k : ∀ h' tk e, (∀ c o, c ≠ z → c ≠ i1 → c ≠ i2 → s.heap.get? c = some o → h'.get? c = some o) → (∃ o, h'.get? e = some o ∧ o.cls = .type "StopIteration") → E (.ref e) { s with heap := h', toks := tk }) :
    wpAny (model prog w) A (Builtin.«zip.__next__» ⟨[.ref z], []⟩) Q E s := by
  obtain ⟨hp, gg, dd, tk0, os⟩ := s
  show wpAny _ _ (field (.ref z) 2 >>= _) _ _ ⟨hp, gg, dd, tk0, os⟩
  refine wpAny_bind (wpAny_field zz rfl (x := .bool false) rfl (show wpAny _ _ (field (.ref z) 3 >>= _) _ _ ⟨hp, gg, dd, tk0, os⟩ from wpAny_bind (wpAny_field zz rfl (x := .ref TI) rfl (wpAny_bind (wpAny_seqItems zI rfl ?_)))))
  show wpAny _ _ (Builtin.SmallTypes.ownedTupleIsFree (.ref z) >>= _) _ _ ⟨hp, gg, dd, tk0, os⟩
  refine wpAny_bind (wpAny_tupleHeld_zip zz zT fun h₁ zz₁ sb₁ => ?_)
  simp only [Bool.false_eq_true, if_false]
  refine wpAny_bind ?_
  rw [← Array.forIn_toList]
  simp only [List.forIn_cons, List.forIn_nil]
  replace sb₁ : Heap.SameBut z hp h₁ := sb₁
  refine wpAny_bind (wpAny_bind (wpAny_holding (show wpAny _ _ (Builtin.SmallTypes.nextOf (.ref i1) >>= _) _ _ ⟨h₁, gg, dd, tk0, os⟩ from ?_)))
  by_cases lt1 : i < n1
  · refine wpAny_bind (D1.item i _ _ _ lt1 (D1.over q1 sb₁ Sp.zf1) fun x1 g₁ tk1 hx1 sn1 sg₁ => wpAny_pure (wpAny_pure ?_))
    replace sg₁ : Heap.SameBut i1 h₁ g₁ := sg₁
    have e2 : i = n2 := by omega
    refine wpAny_bind (wpAny_bind (wpAny_holding (show wpAny _ _ (Builtin.SmallTypes.nextOf (.ref i2) >>= _) _ _ ⟨g₁, gg, dd, tk1, os⟩ from ?_)))
    refine wpAny_bind (D2.done ⟨g₁, gg, dd, tk1, os⟩ _ _ (by rw [← e2]; exact D2.over (D2.over q2 sb₁ Sp.zf2) sg₁ Sp.sep1_2) fun g e hg he => ?_)
    exact k g tk1 e (fun c o cz c1 c2 x => hg _ _ c2 (sg₁.extBut _ _ c1 (sb₁.extBut _ _ cz x))) he
  · have e1 : i = n1 := by omega
    refine wpAny_bind (D1.done ⟨h₁, gg, dd, tk0, os⟩ _ _ (by rw [← e1]; exact D1.over q1 sb₁ Sp.zf1) fun g e hg he => ?_)
    exact k g tk0 e (fun c o cz c1 c2 x => hg _ _ c1 (sb₁.extBut _ _ cz x)) he
theorem held_item {Q : Option Value → Shared → Prop} (Sp : ZipSep2 z TI TO i1 i2 fp1 fp2) (D1 : Draws prog w A.in1 i1 fp1 n1 P1 St1) (D2 : Draws prog w A.in1 i2 fp2 n2 P2 St2)
    (zz : IsZipHeld s.heap z TI TO T f) (zT : s.heap.get? T = some oT) (zI : IsTupOf2 s.heap TI (.ref i1) (.ref i2)) (q1 : St1 i s.heap) (q2 : St2 i s.heap) (l1 : i < n1) (l2 : i < n2)
    (k : ∀ x1 x2 h' tk, P1 i x1 → P2 i x2 → IsZipHeld h' z TI TO T true → St1 (i + 1) h' → St2 (i + 1) h' → IsTupOf2 h' s.heap.objs.size x1 x2 → h'.objs.size = s.heap.objs.size + 1 →
      (∀ c o, c ≠ z → c ≠ i1 → c ≠ i2 → s.heap.get? c = some o → h'.get? c = some o) → Q (some (.ref s.heap.objs.size)) { s with heap := h', toks := tk }) :
    wpAny (model prog w) A (pyNext (.ref z)) Q E s := by
  have ty : s.TypeIs (.ref z) "zip" := ⟨_, zz, rfl⟩
  unfold pyNext
  exact wpAny_bind (wpAny_attempt (wpAny_callSpecial?_slot (name := Str.ofString "__next__") ty F.slot_zip_next (wpAny_call_entry F.slot_zip_next ty F.entry_zip_next
    (held_next Sp D1 D2 zz zT zI q1 q2 l1 l2 fun x1 x2 h' tk a b c d e g m n => wpAny_pure (k x1 x2 h' tk a b c d e g m n)) (F.args_zip_next_1 _))))
theorem held_done {Q : Option Value → Shared → Prop} (Sp : ZipSep2 z TI TO i1 i2 fp1 fp2) (D1 : Draws prog w A.in1 i1 fp1 n1 P1 St1) (D2 : Draws prog w A.in1 i2 fp2 n2 P2 St2)
    (zz : IsZipHeld s.heap z TI TO T f) (zT : s.heap.get? T = some oT) (zI : IsTupOf2 s.heap TI (.ref i1) (.ref i2)) (q1 : St1 i s.heap) (q2 : St2 i s.heap) (l1 : i ≤ n1) (l2 : i ≤ n2) (le : i = n1 ∨ i = n2)
    (k : ∀ h' tk, (∀ c o, c ≠ z → c ≠ i1 → c ≠ i2 → s.heap.get? c = some o → h'.get? c = some o) → Q none { s with heap := h', toks := tk }) : wpAny (model prog w) A (pyNext (.ref z)) Q E s := by
  have ty : s.TypeIs (.ref z) "zip" := ⟨_, zz, rfl⟩
  unfold pyNext
  refine wpAny_bind (wpAny_attempt (wpAny_callSpecial?_slot (name := Str.ofString "__next__") ty F.slot_zip_next (wpAny_call_entry F.slot_zip_next ty F.entry_zip_next
    (held_end Sp D1 D2 zz zT zI q1 q2 l1 l2 le fun h' tk e hk he => ?_) (F.args_zip_next_1 _))))
  obtain ⟨o, ho, hc⟩ := he
  exact wpAny_bind (wpAny_isInstance (T := "StopIteration") (b := true) ⟨o, ho, hc⟩ isSubtype_stop (wpAny_pure (k _ _ hk)))
end
end MnZ
set_option Elab.async false
set_option linter.all false
set_option maxRecDepth 100000
set_option maxHeartbeats 1000000
namespace MnZ
open PySem
open Sem (wp)
def Zst (z TI TO i1 i2 S : Addr) (h : Heap) : Prop := (IsZip h z TI TO .none ∧ ∃ a1 a2, IsTupOf2 h TO a1 a2) ∨ ∃ (T : Addr) (f : Bool) (oT : Obj), IsZipHeld h z TI TO T f ∧ h.get? T = some oT ∧ T ≠ z ∧ T ≠ TO ∧ T ≠ i1 ∧ T ≠ i2 ∧ T ≠ S
section
variable {prog : Program} {w : World} {A : Around} {E : Value → Shared → Prop} {s : Shared} {z TI TO S i1 i2 : Addr} {fp1 fp2 : List Addr} {n1 n2 i : Nat} {P1 P2 : Nat → Value → Prop} {St1 St2 : Nat → Heap → Prop}
theorem z_item {Q : Option Value → Shared → Prop} (Sp : ZipSep2 z TI TO i1 i2 fp1 fp2) (D1 : Draws prog w A.in1 i1 fp1 n1 P1 St1) (D2 : Draws prog w A.in1 i2 fp2 n2 P2 St2) (zs : Zst z TI TO i1 i2 S s.heap) (hS : S < s.heap.objs.size)
    (zI : IsTupOf2 s.heap TI (.ref i1) (.ref i2)) (q1 : St1 i s.heap) (q2 : St2 i s.heap) (l1 : i < n1) (l2 : i < n2)
    (k : ∀ x1 x2 h' tk, P1 i x1 → P2 i x2 → Zst z TI TO i1 i2 S h' → St1 (i + 1) h' → St2 (i + 1) h' → IsTupOf2 h' s.heap.objs.size x1 x2 → h'.objs.size = s.heap.objs.size + 1 →
      (∀ c o, c ≠ z → c ≠ TO → c ≠ i1 → c ≠ i2 → s.heap.get? c = some o → h'.get? c = some o) → Q (some (.ref s.heap.objs.size)) { s with heap := h', toks := tk }) :
    wpAny (model prog w) A (pyNext (.ref z)) Q E s := by
  have old : ∀ {c o}, s.heap.get? c = some o → s.heap.objs.size ≠ c := fun e => Nat.ne_of_gt (Heap.lt_size e)
  have o1 : s.heap.objs.size ≠ i1 := let ⟨_, e⟩ := D1.live _ _ q1; old e
  have o2 : s.heap.objs.size ≠ i2 := let ⟨_, e⟩ := D2.live _ _ q2; old e
  rcases zs with ⟨zz, a1, a2, zO⟩ | ⟨T, f, oT, zz, zT, nz, nO, n1', n2', nS⟩
  · refine wpAny_pyNext_zipD2_item Sp D1 D2 zz zI zO q1 q2 l1 l2 fun x1 x2 h' tk y1 y2 b1 b2 d1 d2 pT sz kp => ?_
    exact k x1 x2 h' tk y1 y2 (.inr ⟨s.heap.objs.size, false, _, b1, pT, old zz, old zO, o1, o2, Nat.ne_of_gt hS⟩) d1 d2 pT sz kp
  · refine held_item Sp D1 D2 zz zT zI q1 q2 l1 l2 fun x1 x2 h' tk y1 y2 b1 d1 d2 pT sz kp => ?_
    exact k x1 x2 h' tk y1 y2 (.inr ⟨T, true, oT, b1, kp _ _ nz n1' n2' zT, nz, nO, n1', n2', nS⟩) d1 d2 pT sz fun c o cz _ c1 c2 e => kp c o cz c1 c2 e
theorem z_done {Q : Option Value → Shared → Prop} (Sp : ZipSep2 z TI TO i1 i2 fp1 fp2) (D1 : Draws prog w A.in1 i1 fp1 n1 P1 St1) (D2 : Draws prog w A.in1 i2 fp2 n2 P2 St2) (zs : Zst z TI TO i1 i2 S s.heap)
    (zI : IsTupOf2 s.heap TI (.ref i1) (.ref i2)) (q1 : St1 i s.heap) (q2 : St2 i s.heap) (l1 : i ≤ n1) (l2 : i ≤ n2) (le : i = n1 ∨ i = n2)
    (k : ∀ h' tk, (∀ c o, c ≠ z → c ≠ TO → c ≠ i1 → c ≠ i2 → s.heap.get? c = some o → h'.get? c = some o) → Q none { s with heap := h', toks := tk }) : wpAny (model prog w) A (pyNext (.ref z)) Q E s := by
  rcases zs with ⟨zz, a1, a2, zO⟩ | ⟨T, f, oT, zz, zT, nz, nO, n1', n2', nS⟩
  · exact wpAny_pyNext_zipD2_end Sp D1 D2 zz zI zO q1 q2 l1 l2 le k
  · exact held_done Sp D1 D2 zz zT zI q1 q2 l1 l2 le fun h' tk kp => k h' tk fun c o cz _ c1 c2 e => kp c o cz c1 c2 e
end
theorem ne_lo {a b base : Nat} (h : a < base) (hb : base ≤ b) : b ≠ a := Nat.ne_of_gt (Nat.lt_of_lt_of_le h hb)
structure Prs (P1 P2 : Nat → Value → Prop) (base : Nat) (h : Heap) (Ts : List Addr) : Prop where
  up : Ts.Pairwise (· < ·)
  at_ : ∀ T ∈ Ts, base ≤ T
  pr : ∀ (j : Nat) (T : Addr), Ts[j]? = some T → ∃ x1 x2, P1 j x1 ∧ P2 j x2 ∧ IsTupOf2 h T x1 x2
theorem Prs.keep {P1 P2 : Nat → Value → Prop} {base : Nat} {h h' : Heap} {Ts : List Addr} (p : Prs P1 P2 base h Ts) (k : ∀ b o, base ≤ b → h.get? b = some o → h'.get? b = some o) : Prs P1 P2 base h' Ts :=
  ⟨p.up, p.at_, fun j T e => let ⟨x1, x2, a, b, c⟩ := p.pr j T e; ⟨x1, x2, a, b, k _ _ (p.at_ T (List.mem_of_getElem? e)) c⟩⟩
theorem Prs.snoc {P1 P2 : Nat → Value → Prop} {base : Nat} {h h' : Heap} {Ts : List Addr} {x1 x2 : Value} (p : Prs P1 P2 base h Ts) (k : ∀ b o, base ≤ b → h.get? b = some o → h'.get? b = some o) (hb : base ≤ h.objs.size) (a : P1 Ts.length x1) (b : P2 Ts.length x2) (c : IsTupOf2 h' h.objs.size x1 x2) :
    Prs P1 P2 base h' (Ts ++ [h.objs.size]) where
  up := by
    rw [List.pairwise_append]
    refine ⟨p.up, by simp, fun T hT U hU => ?_⟩
    rw [List.mem_singleton.mp hU]
    obtain ⟨j, e⟩ := List.getElem?_of_mem hT
    obtain ⟨_, _, _, _, e2⟩ := p.pr j T e
    exact Heap.lt_size e2
  at_ := fun T hT => by
    rcases List.mem_append.mp hT with q | q
    · exact p.at_ T q
    · rw [List.mem_singleton.mp q]; exact hb
  pr := fun j T e => by
    by_cases hj : j < Ts.length
    · rw [List.getElem?_append_left hj] at e
      exact (p.keep k).pr j T e
    · rw [List.getElem?_append_right (by omega)] at e
      have hj2 : j = Ts.length := by
        have := (List.getElem?_eq_some_iff.mp e).1
        simp at this
        omega
      subst hj2
      simp at e
      subst e
      exact ⟨x1, x2, a, b, c⟩
section
variable {prog : Program} {w : World} {A : Around} {s : Shared} {z TI TO S i1 i2 : Addr} {fp1 fp2 : List Addr} {n1 n2 base : Nat} {P1 P2 : Nat → Value → Prop} {St1 St2 : Nat → Heap → Prop} {R : Result → Shared → Prop}
theorem zl_loop (Sp : ZipSep2 z TI TO i1 i2 fp1 fp2) (D1 : Draws prog w A.in1.in1 i1 fp1 n1 P1 St1) (D2 : Draws prog w A.in1.in1 i2 fp2 n2 P2 St2) (hn : min n1 n2 ≤ sizeLine) (res : Value)
    (S1 : S ∉ fp1) (S2 : S ∉ fp2) (Sz : S ≠ z) (SI : S ≠ TI) (SO : S ≠ TO) (Si1 : S ≠ i1) (Si2 : S ≠ i2) (bS : S < base) (bz : z < base) (bO : TO < base) (b1 : i1 < base) (b2 : i2 < base) :
    ∀ (m i : Nat) (s : Shared) (acc : Array Value) (c : Nat) (Ts : List Addr), i + m = min n1 n2 → Zst z TI TO i1 i2 S s.heap → IsTupOf2 s.heap TI (.ref i1) (.ref i2) → St1 i s.heap → St2 i s.heap →
      s.heap.get? S = some { cls := .type "list", dict := none, data := .seq acc c, slots := #[] } → acc.toList = Ts.map Value.ref → Ts.length = i → Prs P1 P2 base s.heap Ts → base ≤ s.heap.objs.size →
      (∀ h' tk acc' c' Ts', (∀ b o, b ≠ S → b ≠ z → b ≠ TO → b ≠ i1 → b ≠ i2 → s.heap.get? b = some o → h'.get? b = some o) → h'.get? S = some { cls := .type "list", dict := none, data := .seq acc' c', slots := #[] } →
        acc'.toList = Ts'.map Value.ref → Ts'.length = min n1 n2 → Prs P1 P2 base h' Ts' → R (.ok (.ret res)) { s with heap := h', toks := tk }) →
      codeAny (model prog w) A (.builtin "list.extend.loop" ⟨[.ref S, .ref z, res], []⟩) R s := by
  intro m
  induction m with
  | zero =>
    intro i s acc c Ts hi zs zI q1 q2 hS hacc hl pr hb k
    refine codeAny_builtin F.entry_extend_loop ?_
    rw [Around.under_plainId F.plain_extend_loop _]
    show wpAny _ A.in1 (pyNext (.ref z) >>= _) _ _ s
    refine wpAny_bind (z_done (S := S) Sp D1 D2 zs zI q1 q2 (by omega) (by omega) (by omega) fun h' tk kp => wpAny_pure ?_)
    exact k h' tk acc c Ts (fun b o _ bz' bo' b1' b2' e => kp b o bz' bo' b1' b2' e) (kp _ _ Sz SO Si1 Si2 hS) hacc (by omega) (pr.keep fun b o hb' e => kp b o (ne_lo bz hb') (ne_lo bO hb') (ne_lo b1 hb') (ne_lo b2 hb') e)
  | succ m ih =>
    intro i s acc c Ts hi zs zI q1 q2 hS hacc hl pr hb k
    refine codeAny_builtin F.entry_extend_loop ?_
    rw [Around.under_plainId F.plain_extend_loop _]
    show wpAny _ A.in1 (pyNext (.ref z) >>= _) _ _ s
    refine wpAny_bind (z_item Sp D1 D2 zs (Heap.lt_size hS) zI q1 q2 (by omega) (by omega) fun x1 x2 h' tk y1 y2 zs' d1 d2 pT sz kp => ?_)
    have hS' := kp _ _ Sz SO Si1 Si2 hS
    show wpAny _ A.in1 (updateSeq S (·.push (.ref s.heap.objs.size)) >>= _) _ _ { s with heap := h', toks := tk }
    have hasz : acc.size = i := by rw [← Array.length_toList, hacc, List.length_map, hl]
    have up : ∀ b o, b ≠ S → h'.get? b = some o → (h'.update S (Obj.mapSeq (·.push (Value.ref s.heap.objs.size)))).get? b = some o := fun b o hbS e => (Heap.get?_update_other _ _ (Ne.symm hbS)).trans e
    have usz : (h'.update S (Obj.mapSeq (·.push (Value.ref s.heap.objs.size)))).objs.size = h'.objs.size := (Heap.SameBut.update ..).1
    refine wpAny_bind (wpAny_updateSeq (s := { s with heap := h', toks := tk }) hS' rfl (wpAny_pure ⟨plainId_quiet F.plain_extend_loop _, ?_⟩) (by omega) (by show (acc.push _).size ≤ sizeLine + 1; rw [Array.size_push]; omega))
    refine ih (i + 1) { s with heap := h'.update S (Obj.mapSeq (·.push (Value.ref s.heap.objs.size))), toks := tk } (acc.push (.ref s.heap.objs.size)) _ (Ts ++ [s.heap.objs.size]) (by omega) ?_ ?_ ?_ ?_ (Heap.get?_update_self _ hS' rfl) ?_ ?_ ?_ ?_ fun h2 tk2 acc2 c2 Ts2 kp2 hS2 ha2 hl2 pr2 => ?_
    · rcases zs' with ⟨zz, a1, a2, zO⟩ | ⟨T, f, oT, zz, zT, nz, nO, n1', n2', nS⟩
      · exact .inl ⟨up _ _ (Ne.symm Sz) zz, a1, a2, up _ _ (Ne.symm SO) zO⟩
      · exact .inr ⟨T, f, oT, up _ _ (Ne.symm Sz) zz, up _ _ nS zT, nz, nO, n1', n2', nS⟩
    · exact up _ _ (Ne.symm SI) (kp _ _ Sp.TIz Sp.TITO Sp.TIi1 Sp.TIi2 zI)
    · exact D1.frame _ _ _ d1 fun b hb' o e => up b o (fun q => S1 (q ▸ hb')) e
    · exact D2.frame _ _ _ d2 fun b hb' o e => up b o (fun q => S2 (q ▸ hb')) e
    · rw [Array.toList_push, hacc, List.map_append]; rfl
    · simp [hl]
    · exact pr.snoc (fun b o hb' e => up b o (ne_lo bS hb') (kp b o (ne_lo bz hb') (ne_lo bO hb') (ne_lo b1 hb') (ne_lo b2 hb') e)) hb (by rw [hl]; exact y1) (by rw [hl]; exact y2) (up _ _ (Nat.ne_of_gt (Nat.lt_of_lt_of_le bS hb)) pT)
    · show base ≤ (h'.update S (Obj.mapSeq (·.push (Value.ref s.heap.objs.size)))).objs.size
      rw [usz, sz]; omega
    · exact k h2 tk2 acc2 c2 Ts2 (fun b o bS' bz' bo' b1' b2' e => kp2 b o bS' bz' bo' b1' b2' (up b o bS' (kp b o bz' bo' b1' b2' e))) hS2 ha2 hl2 pr2
end
end MnZ
set_option Elab.async false
set_option linter.all false
set_option maxRecDepth 100000
set_option maxHeartbeats 1000000
namespace MnZ
open PySem
open Sem (wp)
theorem zip_no_len : typeLookup (.type "zip") "__len__" = pure none := am_miss_of_fast (by decide +kernel)
theorem zip_no_hint : typeLookup (.type "zip") "__length_hint__" = pure none := am_miss_of_fast (by decide +kernel)
structure Fin2 (P1 P2 : Nat → Value → Prop) (base n : Nat) (h : Heap) (S : Addr) (Ts : List Addr) : Prop where
  lst : ∃ (acc : Array Value) (c : Nat), h.get? S = some { cls := .type "list", dict := none, data := .seq acc c, slots := #[] } ∧ acc.toList = Ts.map Value.ref
  len : Ts.length = n
  prs : Prs P1 P2 base h Ts
section
variable {prog : Program} {w : World} {A : Around} {E : Value → Shared → Prop} {s : Shared} {z TI TO S i1 i2 : Addr} {fp1 fp2 : List Addr} {n1 n2 base : Nat} {P1 P2 : Nat → Value → Prop} {St1 St2 : Nat → Heap → Prop} {R : Result → Shared → Prop}
theorem zl_extend (Sp : ZipSep2 z TI TO i1 i2 fp1 fp2) (D1 : Draws prog w A.in1.in1 i1 fp1 n1 P1 St1) (D2 : Draws prog w A.in1.in1 i2 fp2 n2 P2 St2) (hn : min n1 n2 ≤ sizeLine) (res : Value)
    (S1 : S ∉ fp1) (S2 : S ∉ fp2) (Sz : S ≠ z) (SI : S ≠ TI) (SO : S ≠ TO) (Si1 : S ≠ i1) (Si2 : S ≠ i2) (bS : S < s.heap.objs.size) (b1 : i1 < s.heap.objs.size) (b2 : i2 < s.heap.objs.size) (c₀ : Nat)
    (hS : s.heap.get? S = some { cls := .type "list", data := .seq #[] c₀ }) (zz : IsZip s.heap z TI TO .none) (zO : ∃ a1 a2, IsTupOf2 s.heap TO a1 a2) (zI : IsTupOf2 s.heap TI (.ref i1) (.ref i2)) (q1 : St1 0 s.heap) (q2 : St2 0 s.heap)
    (k : ∀ h' tk Ts, (∀ b o, b ≠ S → b ≠ z → b ≠ TO → b ≠ i1 → b ≠ i2 → s.heap.get? b = some o → h'.get? b = some o) → Fin2 P1 P2 s.heap.objs.size (min n1 n2) h' S Ts → R (.ok (.ret res)) { s with heap := h', toks := tk }) :
    wpAny (model prog w) A.in1 (Builtin.List.listExtendWith (.ref S) (.ref z) res) (fun fin s' => match fin with | .done f => R (.ok f) s' | .again c' => c'.quiet = true ∧ codeAny (model prog w) A c' R s') (fun e s' => R (.error e) s') s := by
  have ty : s.TypeIs (.ref z) "zip" := ⟨_, zz, rfl⟩
  have lt : ∀ {c o}, s.heap.get? c = some o → c < s.heap.objs.size := fun e => Heap.lt_size e
  obtain ⟨a1, a2, zO'⟩ := zO
  unfold Builtin.List.listExtendWith
  refine wpAny_bind (wpAny_typeOf ty ?_)
  have w1 : Builtin.List.listSameRef (.ref S) (.ref z) = false := by simp [Builtin.List.listSameRef, Sz]
  have w2 : (Value.type "zip" == Value.type "list") = false := by decide
  have w3 : (Value.type "zip" == Value.type "tuple") = false := by decide
  simp only [w1, w2, w3, Bool.or_false, Bool.false_eq_true, if_false]
  refine wpAny_bind (wpAny_pyIter_zip zz (wpAny_bind (wpAny_holding ?_)))
  unfold Builtin.List.listLengthHint
  refine wpAny_bind (wpAny_specialOf ty zip_no_len (show wpAny _ A.in1 (specialOf (Value.ref z) (Str.ofString "__length_hint__") >>= _) _ _ _ from wpAny_bind (wpAny_specialOf ty zip_no_hint (wpAny_pure ?_))))
  show wpAny _ A.in1 (rule "list.extend.makes-room" >>= fun _ => Builtin.List.listTouch (.ref S) >>= fun _ => again (.builtin "list.extend.loop" ⟨[.ref S, .ref z, res], []⟩)) _ _ s
  refine wpAny_bind (wpAny_rule (wpAny_bind (show wpAny _ A.in1 (updateSeq S (·.push .none) >>= fun _ => updateSeq S (·.pop)) _ _ _ from ?_)))
  refine wpAny_bind (wpAny_updateSeq hS rfl ?_)
  have u1 := Heap.get?_update_self (Obj.mapSeq (·.push Value.none)) hS rfl
  refine wpAny_updateSeq (hz := by seq_fits) u1 rfl ?_
  have u2 := Heap.get?_update_self (Obj.mapSeq (·.pop)) u1 rfl
  have oth : ∀ b o, b ≠ S → s.heap.get? b = some o → ((s.heap.update S (Obj.mapSeq (·.push Value.none))).update S (Obj.mapSeq (·.pop))).get? b = some o :=
    fun b o hb e => (Heap.get?_update_other _ _ (Ne.symm hb)).trans ((Heap.get?_update_other _ _ (Ne.symm hb)).trans e)
  have sz : ((s.heap.update S (Obj.mapSeq (·.push Value.none))).update S (Obj.mapSeq (·.pop))).objs.size = s.heap.objs.size := (Heap.SameBut.update ..).1.trans (Heap.SameBut.update ..).1
  refine wpAny_pure ⟨plainId_quiet F.plain_extend_loop _, zl_loop (base := s.heap.objs.size) Sp D1 D2 hn res S1 S2 Sz SI SO Si1 Si2 bS (lt zz) (lt zO') b1 b2 (min n1 n2) 0 _ _ _ [] (by omega)
    (.inl ⟨oth _ _ (Ne.symm Sz) zz, a1, a2, oth _ _ (Ne.symm SO) zO'⟩) (oth _ _ (Ne.symm SI) zI) (D1.frame _ _ _ q1 fun b hb' o e => oth b o (fun q => S1 (q ▸ hb')) e) (D2.frame _ _ _ q2 fun b hb' o e => oth b o (fun q => S2 (q ▸ hb')) e) u2 ?_ rfl
    ⟨List.Pairwise.nil, fun T hT => by simp at hT, fun j T e => by simp at e⟩ (by rw [sz]; exact Nat.le_refl _) fun h' tk acc' c' Ts' kp hS' ha hl pr => ?_⟩
  · simp
  · exact k h' tk Ts' (fun b o x1 x2 x3 x4 x5 e => kp b o x1 x2 x3 x4 x5 (oth b o x1 e)) ⟨⟨acc', c', hS', ha⟩, hl, pr⟩
theorem zl_call {Q : Value → Shared → Prop} (Sp : ZipSep2 z TI TO i1 i2 fp1 fp2) (D1 : ∀ A : Around, A.handled = none → Draws prog w A i1 fp1 n1 P1 St1) (D2 : ∀ A : Around, A.handled = none → Draws prog w A i2 fp2 n2 P2 St2) (hh : A.handled = none) (hn : min n1 n2 ≤ sizeLine)
    (f1 : ∀ b ∈ fp1, b < s.heap.objs.size) (f2 : ∀ b ∈ fp2, b < s.heap.objs.size)
    (zz : IsZip s.heap z TI TO .none) (zO : ∃ a1 a2, IsTupOf2 s.heap TO a1 a2) (zI : IsTupOf2 s.heap TI (.ref i1) (.ref i2)) (q1 : St1 0 s.heap) (q2 : St2 0 s.heap)
    (k : ∀ h' tk Ts, (∀ b o, b ≠ z → b ≠ TO → b ≠ i1 → b ≠ i2 → s.heap.get? b = some o → h'.get? b = some o) → Fin2 P1 P2 (s.heap.objs.size + 1) (min n1 n2) h' s.heap.objs.size Ts → Q (.ref s.heap.objs.size) { s with heap := h', toks := tk }) :
    wpAny (model prog w) A (call (.type "list") [.ref z]) Q E s := by
  have lt : ∀ {c o}, s.heap.get? c = some o → s.heap.objs.size ≠ c := fun e => Nat.ne_of_gt (Heap.lt_size e)
  refine callType_codes (Q₁ := fun obj s₁ => obj = .ref s.heap.objs.size ∧ s₁ = { s with heap := s.heap.push { cls := .type "list", data := .seq #[] } }) F.called_list (F.typeCall_list_1 _) F.entry_list_init
    (code_list_new _ ⟨rfl, rfl⟩) fun obj s₁ h₁ => ?_
  obtain ⟨rfl, rfl⟩ := h₁
  have hS : (s.heap.push { cls := .type "list", data := .seq #[] }).get? s.heap.objs.size = some { cls := .type "list", data := .seq #[] } := Heap.get?_push_size _ rfl
  have up : ∀ b o, s.heap.get? b = some o → (s.heap.push { cls := .type "list", data := .seq #[] }).get? b = some o := fun b o e => Heap.get?_push_of_some _ e
  refine ⟨⟨_, hS, rfl⟩, F.args_list_init_2 _ _, ?_⟩
  show wpAny _ A.in1.in1 (do let old ← Builtin.List.listItems (.ref s.heap.objs.size); Builtin.List.listUpdate (.ref s.heap.objs.size) (fun _ => #[]); letGo old.toList.reverse; Builtin.List.listExtendWith (.ref s.heap.objs.size) (.ref z) .none) _ _ _
  refine wpAny_bind ?_
  unfold Builtin.List.listItems
  refine wpAny_bind (wpAny_seqItems hS rfl (wpAny_pure ?_))
  show wpAny _ A.in1.in1 (updateSeq s.heap.objs.size (fun _ => #[]) >>= fun _ => letGo (#[] : Array Value).toList.reverse >>= fun _ => Builtin.List.listExtendWith (.ref s.heap.objs.size) (.ref z) .none) _ _ _
  refine wpAny_bind (wpAny_updateSeq hS rfl (wpAny_bind (wpAny_letGo ?_)))
  have u := Heap.get?_update_self (Obj.mapSeq (fun _ => (#[] : Array Value))) hS rfl
  have oth : ∀ b o, s.heap.get? b = some o → ((s.heap.push { cls := .type "list", data := .seq #[] }).update s.heap.objs.size (Obj.mapSeq (fun _ => (#[] : Array Value)))).get? b = some o :=
    fun b o e => (Heap.get?_update_other _ _ (lt e)).trans (up b o e)
  have sz : ((s.heap.push { cls := .type "list", data := .seq #[] }).update s.heap.objs.size (Obj.mapSeq (fun _ => (#[] : Array Value)))).objs.size = s.heap.objs.size + 1 := (Heap.SameBut.update ..).1.trans (Heap.size_push ..)
  obtain ⟨_, e1⟩ := (D1 A hh).live _ _ q1
  obtain ⟨_, e2⟩ := (D2 A hh).live _ _ q2
  obtain ⟨a1, a2, zO'⟩ := zO
  refine zl_extend (A := A.in1) Sp (D1 _ hh) (D2 _ hh) hn .none (fun hm => Nat.lt_irrefl _ (f1 _ hm)) (fun hm => Nat.lt_irrefl _ (f2 _ hm)) (lt zz) (lt zI) (lt zO') (lt e1) (lt e2) (by show s.heap.objs.size < _; rw [sz]; exact Nat.lt_succ_self _) ?_ ?_ _ u (oth _ _ zz) ⟨a1, a2, oth _ _ zO'⟩ (oth _ _ zI)
    ((D1 A hh).frame _ _ _ q1 fun b _ o e => oth b o e) ((D2 A hh).frame _ _ _ q2 fun b _ o e => oth b o e) fun h' tk Ts kp fin => ⟨rfl, ?_⟩
  · show i1 < _
    rw [sz]; exact Nat.lt_succ_of_lt (Heap.lt_size e1)
  · show i2 < _
    rw [sz]; exact Nat.lt_succ_of_lt (Heap.lt_size e2)
  · refine k h' tk Ts (fun b o x1 x2 x3 x4 e => kp b o (fun q => lt e q.symm) x1 x2 x3 x4 (oth b o e)) ?_
    rw [← sz]; exact fin
end
end MnZ
set_option Elab.async false
set_option linter.all false
set_option maxRecDepth 100000
set_option maxHeartbeats 1000000
namespace MnZ
open PySem PySem.Spec PyProof.Rows L2
def ov (H N : Hp) : Hp := fun b => match N b with
  | some o => some o
  | none => H b
theorem ov_new {H N : Hp} {b : Addr} {o : HO} (e : N b = some o) : ov H N b = some o := by unfold ov; rw [e]
theorem ov_old {H N : Hp} {b : Addr} (e : N b = none) : ov H N b = H b := by unfold ov; rw [e]
section
variable {X : Cx} {pins : List (Addr × Obj)} {σ : L2.St} {H N : Hp} {s : Shared} {h' : Heap} {t' : Nat}
theorem inv_laids (I : Inv X pins σ H s) (k : ∀ b u, s.heap.get? b = some u → h'.get? b = some u) (hN : ∀ b o, N b = some o → s.heap.objs.size ≤ b) (new : ∀ b o, N b = some o → ObjOk X.prog X.w (ov H N) h' b o) :
    Inv X pins σ (ov H N) { s with heap := h', toks := t' } := by
  have nn : ∀ b o, N b = some o → H b = none := fun b o e => I.hok.fresh (hN b o e)
  have kp : ∀ b o, H b = some o → ov H N b = some o := fun b o e => by
    cases q : N b with
    | none => rw [ov_old q]; exact e
    | some u => rw [nn b u q] at e; cases e
  refine I.un ⟨fun b o q _ _ _ => k b o q, fun b o q _ _ _ => ⟨o.slots, k b o q⟩, fun b o q n _ => ?_, fun b o q _ => ⟨o, k b o q⟩, fun b xs q => kp b _ q, fun b o u q => kp b _ q, fun b ps q => ⟨#[], by rw [kp b _ q]; simp⟩⟩ fun b u q => ?_
  · cases e : N b with
    | none => rw [ov_old e]; exact n
    | some u => exact absurd (Heap.lt_size q) (Nat.not_lt.mpr (hN b u e))
  · cases e : N b with
    | some o => rw [ov_new e] at q; cases q; exact new b _ e
    | none =>
      rw [ov_old e] at q
      exact (I.hok b u q).stay (fun d v _ y => k d v y) (fun d y => kp d _ y) fun d xs y => kp d _ y
end
def nw (p : Addr) (Ts : List Addr) (qs : List (V × V)) : Hp := fun b => if b = p then some (.lst (Ts.map V.ref)) else ((Ts.zip qs).lookup b).map fun q => .tup [q.1, q.2]
theorem look_at : ∀ {Ts : List Addr} {qs : List (V × V)} {j : Nat} {T : Addr} {q : V × V}, Ts.Nodup → Ts[j]? = some T → qs[j]? = some q → (Ts.zip qs).lookup T = some q
  | [], _, _, _, _, _, e, _ => by simp at e
  | _ :: _, [], _, _, _, _, _, e => by simp at e
  | t :: Ts, r :: qs, 0, T, q, _, e, e2 => by
    simp at e e2
    subst e e2
    simp [List.lookup]
  | t :: Ts, r :: qs, j + 1, T, q, nd, e, e2 => by
    have nd' := List.nodup_cons.mp nd
    have e' : Ts[j]? = some T := by simpa using e
    have ne : T ≠ t := fun z => nd'.1 (z ▸ List.mem_of_getElem? e')
    rw [List.zip_cons_cons, List.lookup_cons, beq_eq_false_iff_ne.mpr ne]
    exact look_at nd'.2 e' (by simpa using e2)
theorem look_in : ∀ {Ts : List Addr} {qs : List (V × V)} {b : Addr} {q : V × V}, (Ts.zip qs).lookup b = some q → ∃ j : Nat, Ts[j]? = some b ∧ qs[j]? = some q
  | [], _, _, _, e => by simp at e
  | _ :: _, [], _, _, e => by simp at e
  | t :: Ts, r :: qs, b, q, e => by
    rw [List.zip_cons_cons, List.lookup_cons] at e
    by_cases h : b = t
    · subst h
      rw [beq_self_eq_true] at e
      cases e
      exact ⟨0, rfl, rfl⟩
    · rw [beq_eq_false_iff_ne.mpr h] at e
      obtain ⟨j, e1, e2⟩ := look_in e
      exact ⟨j + 1, by simpa using e1, by simpa using e2⟩
def tLz (K : PySem.W.Frag) (ta : TA) : TE := fun σ H Q => ta σ H fun vs H1 => ∃ (a b : Addr) (xs ys : List V), vs = [.ref a, .ref b] ∧ SqT K H1 a xs ∧ SqT K H1 b ys ∧
  ∀ (H' : Hp) (p : Addr) (Ts : List Addr), (∀ b o, H1 b = some o → H' b = some o) → H1 p = none → H' p = some (.lst (Ts.map V.ref)) → Ts.length = min xs.length ys.length →
    (∀ (j : Nat) (T : Addr), Ts[j]? = some T → ∃ x y, xs[j]? = some x ∧ ys[j]? = some y ∧ H' T = some (.tup [x, y])) → Q (.ref p) H'
theorem vals_refs : ∀ as : List Addr, Vals (as.map V.ref) (as.map Value.ref)
  | [] => .nil
  | _ :: as => .cons rfl (vals_refs as)
theorem nm2 {x p q : Nat} (h1 : x ≠ p) (h2 : x ≠ q) : ¬ (x ∈ ([p, q] : List Nat)) := by simp only [List.mem_cons, List.not_mem_nil, or_false, not_or]; exact ⟨h1, h2⟩
theorem sep_of {n a b : Nat} (la : a < n) (lb : b < n) : ZipSep2 (n + 4) (n + 2) (n + 3) n (n + 1) [n, a] [n + 1, b] where
  TIz := show ¬ (n + 2 = n + 4) by omega
  TOz := show ¬ (n + 3 = n + 4) by omega
  TITO := show ¬ (n + 2 = n + 3) by omega
  TIi1 := show ¬ (n + 2 = n) by omega
  mem1 := List.mem_cons_self
  zf1 := (nm2 (by omega) (by omega) : ¬ ((n + 4 : Nat) ∈ ([n, a] : List Nat)))
  Tf1 := (nm2 (by omega) (by omega) : ¬ ((n + 3 : Nat) ∈ ([n, a] : List Nat)))
  TIi2 := show ¬ (n + 2 = n + 1) by omega
  mem2 := List.mem_cons_self
  zf2 := (nm2 (by omega) (by omega) : ¬ ((n + 4 : Nat) ∈ ([n + 1, b] : List Nat)))
  Tf2 := (nm2 (by omega) (by omega) : ¬ ((n + 3 : Nat) ∈ ([n + 1, b] : List Nat)))
  sep1_2 := (nm2 (by omega) (by omega) : ¬ ((n : Nat) ∈ ([n + 1, b] : List Nat)))
  sep2_1 := (nm2 (by omega) (by omega) : ¬ ((n + 1 : Nat) ∈ ([n, a] : List Nat)))
theorem pe_lz {X : Cx} {e e2 : Expr} {ta : TA} {p p2 pos pos2 : Pos} (hc : X.calm = true) (hg : Gl X "list") (hm : X.mg "list" = none) (hg2 : Gl X "zip") (hm2 : X.mg "zip" = none) (ha : PA X [e, e2] ta)
    (hs : starEach [.Call (.Name "zip" p2) [e, e2] [] pos2] X.env = (false, eval (.Call (.Name "zip" p2) [e, e2] [] pos2) X.env) :: starEach [] X.env := by rfl)
    (hs2 : starEach [e, e2] X.env = (false, eval e X.env) :: starEach [e2] X.env := by rfl) (hp2 : (backTo pos2 (starEach [e2] X.env)).any (·.1) = false := by rfl) :
    PE X (.Call (.Name "list" p) [.Call (.Name "zip" p2) [e, e2] [] pos2] [] pos) (tLz X.K ta) := by
  refine ⟨fun pins s σ H Q I h => ?_⟩
  refine wpAny_Call_Name_kw (ld_blt I hg hm (show bootBuiltins "list" = some (.type "list") by decide +kernel) ?_)
  refine PyProof.Rows.callWith_type1 ?_ hs rfl
  rw [hs]
  show wpAny _ _ (spliced ((false, eval (.Call (.Name "zip" p2) [e, e2] [] pos2) X.env) :: backTo pos (starEach [] X.env))) _ _ s
  refine Calls.spliced_cons (Call_ (ld_blt I hg2 hm2 PyProof.Rows.boot_zip (PyProof.Rows.callWith_type1 (thn (ha.run pos2 pins s σ H _ I h) fun us s1 ⟨vs, H1, I1, r1, a, b, xs, ys, ex, sx, sy, q1⟩ => ?_) hs2 hp2)))
  subst ex
  cases r1 with
  | cons r rr =>
    cases rr with
    | cons r' rr =>
      cases rr
      cases r
      cases r'
      obtain ⟨its, rv, t1, z1⟩ := I1.tuple sx
      obtain ⟨its2, rv2, t2, z2⟩ := I1.tuple sy
      have la : a < s1.heap.objs.size := t1.lt
      have lb : b < s1.heap.objs.size := t2.lt
      have hh : X.A.handled = none := I1.ok.hd hc
      refine zip_begins2 (begins_tuple a its.toArray) (begins_tuple b its2.toArray) t1 t2 fun h' zz zI zO g1 g2 zs kp => ?_
      refine Calls.spliced_nil ?_
      have c1 : h'.IsTupleIter s1.heap.objs.size a 0 := ⟨_, g1, rfl, rfl⟩
      have c2 : h'.IsTupleIter (s1.heap.objs.size + 1) b 0 := ⟨_, g2, rfl, rfl⟩
      have hne1 : a ≠ s1.heap.objs.size := Nat.ne_of_lt la
      have hne2 : b ≠ s1.heap.objs.size + 1 := Nat.ne_of_lt (Nat.lt_succ_of_lt lb)
      have m1 : min its.toArray.size its2.toArray.size = min xs.length ys.length := by simp [rv.length, rv2.length]
      refine zl_call (s := { s1 with heap := h' }) (sep_of la lb) (fun A hA => Draws.tuple hA _ a hne1 its.toArray) (fun A hA => Draws.tuple hA _ b hne2 its2.toArray) hh (by rw [m1]; omega) ?_ ?_ zz ⟨_, _, zO⟩ zI ⟨c1, ?_⟩ ⟨c2, ?_⟩ fun h2 tk Ts k2 fin => ?_
      · intro c hcm
        show c < h'.objs.size
        rw [zs]
        have la' : (a : Nat) < s1.heap.objs.size := la
        rcases List.mem_cons.mp hcm with q | q
        · rw [q]; exact Nat.lt_add_of_pos_right (by decide)
        · rw [List.mem_singleton.mp q]; exact Nat.lt_add_right 5 la
      · intro c hcm
        show c < h'.objs.size
        rw [zs]
        rcases List.mem_cons.mp hcm with q | q
        · rw [q]; exact Nat.add_lt_add_left (by decide : 1 < 5) _
        · rw [List.mem_singleton.mp q]; exact Nat.lt_add_right 5 lb
      · obtain ⟨o, ho, r⟩ := t1
        exact ⟨o, kp _ _ ho, r⟩
      · obtain ⟨o, ho, r⟩ := t2
        exact ⟨o, kp _ _ ho, r⟩
      · obtain ⟨⟨acc, c, hS, hacc⟩, hl, pr⟩ := fin
        have zs' : ({ s1 with heap := h' } : Shared).heap.objs.size = s1.heap.objs.size + 5 := zs
        rw [zs'] at hS pr
        rw [m1] at hl
        have nd : Ts.Nodup := pr.up.imp fun {x y} (q : x < y) => Nat.ne_of_lt q
        have hql : (xs.zip ys).length = min xs.length ys.length := List.length_zip
        have qat : ∀ j T, Ts[j]? = some T → ∃ x y, xs[j]? = some x ∧ ys[j]? = some y ∧ (xs.zip ys)[j]? = some (x, y) := fun j T e => by
          have hj : j < min xs.length ys.length := by rw [← hl]; exact (List.getElem?_eq_some_iff.mp e).1
          have h1 : j < xs.length := by omega
          have h2 : j < ys.length := by omega
          exact ⟨xs[j], ys[j], List.getElem?_eq_getElem h1, List.getElem?_eq_getElem h2, by rw [List.getElem?_eq_getElem (by rw [hql]; exact hj), List.getElem_zip]⟩
        have kk : ∀ c o, s1.heap.get? c = some o → h2.get? c = some o := fun c o e => by
          have lc : (c : Nat) < s1.heap.objs.size := Heap.lt_size e
          exact k2 c o (Nat.ne_of_lt (Nat.lt_add_right 4 lc)) (Nat.ne_of_lt (Nat.lt_add_right 3 lc)) (Nat.ne_of_lt lc) (Nat.ne_of_lt (Nat.lt_add_right 1 lc)) (kp c o e)
        have pn : ∀ T ∈ Ts, T ≠ s1.heap.objs.size + 5 := fun T hT q => by
          have := pr.at_ T hT
          rw [q] at this
          exact Nat.lt_irrefl _ this
        have nT : ∀ j T x y, Ts[j]? = some T → (xs.zip ys)[j]? = some (x, y) → nw (s1.heap.objs.size + 5) Ts (xs.zip ys) T = some (.tup [x, y]) := fun j T x y e e2 => by
          unfold nw
          rw [if_neg (pn T (List.mem_of_getElem? e)), look_at nd e e2]
          rfl
        have nS : nw (s1.heap.objs.size + 5) Ts (xs.zip ys) (s1.heap.objs.size + 5) = some (.lst (Ts.map V.ref)) := by unfold nw; rw [if_pos rfl]
        have hN : ∀ b' o, nw (s1.heap.objs.size + 5) Ts (xs.zip ys) b' = some o → (b' = s1.heap.objs.size + 5 ∧ o = .lst (Ts.map V.ref)) ∨ ∃ j x y, Ts[j]? = some b' ∧ xs[j]? = some x ∧ ys[j]? = some y ∧ o = .tup [x, y] := fun b' o e => by
          unfold nw at e
          by_cases hb : b' = s1.heap.objs.size + 5
          · rw [if_pos hb] at e; cases e; exact .inl ⟨hb, rfl⟩
          · rw [if_neg hb] at e
            obtain ⟨q, e1, e2⟩ := Option.map_eq_some_iff.mp e
            obtain ⟨j, j1, j2⟩ := look_in e1
            obtain ⟨x, y, ex, ey, ez⟩ := qat j b' j1
            rw [ez] at j2
            cases j2
            exact .inr ⟨j, x, y, j1, ex, ey, e2.symm⟩
        have J := inv_laids (t' := tk) (N := nw (s1.heap.objs.size + 5) Ts (xs.zip ys)) I1 kk (fun b' o e => by
          rcases hN b' o e with ⟨q, _⟩ | ⟨j, x, y, j1, _⟩
          · rw [q]; exact Nat.le_add_right _ _
          · exact Nat.le_trans (Nat.le_add_right _ 6) (pr.at_ b' (List.mem_of_getElem? j1))) fun b' o e => by
            rcases hN b' o e with ⟨q, rfl⟩ | ⟨j, x, y, j1, ex, ey, rfl⟩
            · rw [q]
              refine ⟨by rw [List.length_map, hl]; omega, acc.toList, c, by rw [hacc]; exact vals_refs Ts, ?_⟩
              rw [Array.toArray_toList]
              exact hS
            · obtain ⟨x1, x2, p1, p2', pT⟩ := pr.pr j b' j1
              obtain ⟨u1, e1, r1⟩ := rv.get ex
              obtain ⟨u2, e2, r2⟩ := rv2.get ey
              have p1' : its.toArray[j]? = some x1 := p1
              have p2'' : its2.toArray[j]? = some x2 := p2'
              have f1 : u1 = x1 := by simpa [e1] using p1'
              have f2 : u2 = x2 := by simpa [e2] using p2''
              subst f1 f2
              exact ⟨by show 2 ≤ sizeLine; decide, [u1, u2], .cons r1 (.cons r2 .nil), ⟨_, pT, rfl, _, rfl⟩⟩
        refine ⟨.ref (s1.heap.objs.size + 5), _, J, by rw [zs']; rfl, q1 _ (s1.heap.objs.size + 5) Ts (fun b' o e => ?_) (I1.hok.fresh (Nat.le_add_right _ _)) (ov_new nS) hl fun j T e => ?_⟩
        · cases q : nw (s1.heap.objs.size + 5) Ts (xs.zip ys) b' with
          | none => rw [ov_old q]; exact e
          | some u =>
            have hlo : s1.heap.objs.size ≤ b' := by
              rcases hN b' u q with ⟨q', _⟩ | ⟨j, x, y, j1, _⟩
              · rw [q']; exact Nat.le_add_right _ _
              · exact Nat.le_trans (Nat.le_add_right _ 6) (pr.at_ b' (List.mem_of_getElem? j1))
            rw [I1.hok.fresh hlo] at e
            cases e
        · obtain ⟨x, y, ex, ey, ez⟩ := qat j T e
          exact ⟨x, y, ex, ey, ov_new (nT j T x y e ez)⟩
end MnZ
set_option Elab.async false
set_option linter.all false
set_option maxRecDepth 100000
set_option maxHeartbeats 1000000
namespace Mn
open PySem PySem.Spec L2 PyProof.Rows
section
variable {G : Gm} {as as' : List Addr} {H H' : Hp} {h h' : PH}
theorem repVs_of : ∀ {xs : List PV} {vs : List V}, xs.length = vs.length → (∀ (j : Nat) (x : PV) (v : V), xs[j]? = some x → vs[j]? = some v → RepV G as H x v) → RepVs G as H xs vs
  | [], [], _, _ => .nil
  | x :: xs, v :: vs, hl, k => .cons (k 0 x v rfl rfl) (repVs_of (by simpa using hl) fun j y w e1 e2 => k (j + 1) y w (by simpa using e1) (by simpa using e2))
  | [], _ :: _, hl, _ => by simp at hl
  | _ :: _, [], hl, _ => by simp at hl
theorem SR.newE (s : SR G as H h) (e : ∀ b o, H b = some o → H' b = some o) {p : Addr} {o : PO} (hp : H p = none) (r : RepO G (as ++ [p]) H' o p) : Fut G as H (as ++ [p]) H' (h ++ [o]) ∧ RepV G (as ++ [p]) H' (.ref h.length) (.ref p) := by
  have kp : Kp H H' := ⟨fun b xs q => e b _ q, fun b o u q => e b _ q⟩
  have there : ∀ l a, as[l]? = some a → H a ≠ none := fun l a ea => by
    have hl : l < h.length := by rw [← s.len]; exact (List.getElem?_eq_some_iff.mp ea).1
    exact (s.at_ l _ a (List.getElem?_eq_getElem hl) ea).there
  have hn : p ∉ as := fun hm => by
    obtain ⟨l, e1⟩ := List.getElem?_of_mem hm
    exact there l p e1 hp
  have pr : as <+: as ++ [p] := List.prefix_append _ _
  refine ⟨⟨pr, kp, ⟨?_, by simp [s.len], fun l ob a e1 e2 => ?_⟩, fun b hb hnb => ?_, fun b ob q _ => e b ob q⟩, ?_⟩
  · rw [List.nodup_append]
    exact ⟨s.nd, by simp, fun a ha b hb q => by rw [List.mem_singleton.mp hb] at q; exact hn (q ▸ ha)⟩
  · by_cases hl : l < as.length
    · rw [List.getElem?_append_left hl] at e2
      rw [List.getElem?_append_left (by rw [← s.len]; exact hl)] at e1
      have t := there l a e2
      cases q : H a with
      | none => exact absurd q t
      | some u => exact (s.at_ l ob a e1 e2).mono pr kp ((e a u q).trans q.symm)
    · have hl2 : l = as.length := by
        have := (List.getElem?_eq_some_iff.mp e2).1
        simp at this
        omega
      subst hl2
      rw [s.len, List.getElem?_append_right (Nat.le_refl _)] at e1
      rw [List.getElem?_append_right (Nat.le_refl _)] at e2
      simp at e1 e2
      subst e1 e2
      exact r
  · rcases List.mem_append.mp hb with q | q
    · exact absurd q hnb
    · rw [List.mem_singleton.mp q]; exact hp
  · unfold RepV
    exact ⟨p, by rw [← s.len, List.getElem?_append_right (Nat.le_refl _)]; simp, rfl⟩
end
section
variable {G : Gm} {T : Tb} {nm : Nm} {call : Nat → List PV → PH → Res PV} {fx : Fx} {X : Cx} {E : XK} {W : Nat}
theorem okE_lz (O : XOk G T nm call fx X E) {es : List Ex} {x y : Expr} {p p2 pos pos2 : Pos} (hx : isStar x = false) (hy : isStar y = false) (hg : glB fx.names "list" = true) (hg2 : glB fx.names "zip" = true) (ha : PA X [x, y] (tA G E (evEs T call es))) :
    PE X (.Call (.Name "list" p) [.Call (.Name "zip" p2) [x, y] [] pos2] [] pos) (tE G E (evE T call (.lz es))) := by
  refine (MnZ.pe_lz O.calm (gl_ok O hg) (O.bl .list) (gl_ok O hg2) O.zp ha (star_cons rfl) (star_cons hx) (noStars (by simp [hy]))).imp fun σ H Q ⟨as, ρ, h, S, R, o⟩ => ?_
  simp only [evE] at o
  refine ⟨as, ρ, h, S, R, Ok.bind o fun vs h1 as1 H1 vs' f1 r1 o1 => ?_⟩
  split at o1
  · rename_i xs ys
    obtain ⟨v, w, rfl, rv, rw'⟩ := r1.two
    obtain ⟨a, us, rfl, sa, ra⟩ := rv.tupE
    obtain ⟨b, ws, rfl, sb, rb⟩ := rw'.tupE
    refine ⟨a, b, us, ws, rfl, by rw [O.K]; exact sa, by rw [O.K]; exact sb, fun H' q Ts ext hq eq hl pr => ?_⟩
    have kp : Kp H1 H' := ⟨fun b xs q => ext b _ q, fun b o u q => ext b _ q⟩
    have r0 : RepO G (as1 ++ [q]) H' (.lst (List.zipWith (fun x y => .tup [x, y]) xs ys)) q := by
      refine ⟨Ts.map V.ref, eq, repVs_of (by simp [ra.length, rb.length, hl]) fun j z v e1 e2 => ?_⟩
      rw [List.getElem?_map] at e2
      obtain ⟨t, et, rfl⟩ := Option.map_eq_some_iff.mp e2
      obtain ⟨u1, u2, g1, g2, g3⟩ := pr j t et
      rw [List.getElem?_zipWith] at e1
      split at e1
      · rename_i x1 y1 k1 k2
        cases e1
        obtain ⟨v1, m1, n1⟩ := ra.get k1
        obtain ⟨v2, m2, n2⟩ := rb.get k2
        rw [g1] at m1
        rw [g2] at m2
        cases m1
        cases m2
        unfold RepV
        exact ⟨t, _, rfl, .of g3, .cons (n1.mono (List.prefix_append _ _) kp) (.cons (n2.mono (List.prefix_append _ _) kp) .nil)⟩
      · cases e1
    obtain ⟨f2, r2⟩ := f1.sr.newE ext hq r0
    exact okn o1 f2 r2
  · exact False.elim o1
def par3B (names : List (Str × NameKind)) (x y z : Str) (px py pz : Pos) (a b c : Expr) : Bool := locB names x && locB names y && locB names z && decide (x ≠ y) && decide (x ≠ z) && decide (y ≠ z) && (py.line == px.line) && (pz.line == px.line) && !isStar a && !isStar b && !isStar c && !(foldedForSure 8 a && foldedForSure 8 b && foldedForSure 8 c) && !(constantsAlone 8 a && constantsAlone 8 b && constantsAlone 8 c)
theorem par3_ok {env : Env} {x y z : Str} {px py pz p p2 : Pos} {k k2 : Nat} {a b c : Expr} (hk : env.scope.kind = .function) (h : par3B env.scope.names x y z px py pz a b c = true) : swappedStores [.Tuple [.Name x px, .Name y py, .Name z pz] k p] (.Tuple [a, b, c] k2 p2) env = pure (some [x, y, z]) := by
  unfold par3B at h
  simp only [Bool.and_eq_true, Bool.not_eq_true', decide_eq_true_eq] at h
  obtain ⟨⟨⟨⟨⟨⟨⟨⟨⟨⟨⟨⟨h1, h2⟩, h3⟩, h4⟩, h5⟩, h6⟩, h7⟩, h8⟩, h9⟩, h10⟩, h11⟩, h12⟩, h13⟩ := h
  have k1 : env.kindOf x = some .local := locB_ok h1
  have k2 : env.kindOf y = some .local := locB_ok h2
  have k3 : env.kindOf z = some .local := locB_ok h3
  have hb := bk_fn hk
  have ha : ([a, b, c].any fun e => match e with | .Starred .. => true | _ => false) = false := by
    have q : ∀ e : Expr, isStar e = false → (match e with | .Starred .. => true | _ => false) = false := fun e he => by cases e <;> first | rfl | cases he
    simp only [List.any_cons, List.any_nil, q a h9, q b h10, q c h11, Bool.or_false]
  have hf : [a, b, c].all (foldedForSure 8) = false := by simpa [Bool.and_assoc] using h12
  have hc : [a, b, c].all (constantsAlone 8) = false := by simpa [Bool.and_assoc] using h13
  have ed : [x, y, z].eraseDups.length = 3 := by
    have e1 : (y == x) = false := beq_eq_false_iff_ne.mpr fun q => h4 q.symm
    have e2 : (z == x) = false := beq_eq_false_iff_ne.mpr fun q => h5 q.symm
    have e3 : (z == y) = false := beq_eq_false_iff_ne.mpr fun q => h6 q.symm
    simp [List.eraseDups_cons, e1, e2, e3]
  have hb2 : (env.blockKind != ScopeKind.function) = false := by rw [hb]; rfl
  have l1 : (px.line == px.line) = true := by simp
  have l2 : (py.line == px.line) = true := h7
  have l3 : (pz.line == px.line) = true := h8
  unfold swappedStores
  dsimp only
  simp only [hb2]
  generalize hA : List.any [a, b, c] _ = A
  have eA : A = false := by rw [← hA]; exact ha
  generalize hN : List.filterMap _ [Expr.Name x px, Expr.Name y py, Expr.Name z pz] = N
  have eN : N = [x, y, z] := by
    rw [← hN]
    simp only [List.filterMap_cons, List.filterMap_nil, k1, k2, k3, List.head?, Option.map, Option.getD, Expr.pos, l1, l2, l3]
    rfl
  rw [eA, eN, hf, hc]
  simp only [ed]
  rfl
theorem RepVs.three {as : List Addr} {H : Hp} {x y z : PV} {xs : List V} (r : RepVs G as H [x, y, z] xs) : ∃ v w u, xs = [v, w, u] ∧ RepV G as H x v ∧ RepV G as H y w ∧ RepV G as H z u := by
  unfold RepVs at r
  obtain ⟨v, rest, rfl, r1, r2⟩ := r
  obtain ⟨w, u, rfl, r3, r4⟩ := r2.two
  exact ⟨v, w, u, rfl, r1, r3, r4⟩
theorem okS_par3 (O : XOk G T nm call fx X E) {es : List Ex} {i j l : Nat} {x y z : Str} {px py pz p p2 pos : Pos} {k k2 : Nat} {a b c : Expr} (hi : fx.N[i]? = some x) (hj : fx.N[j]? = some y) (hl : fx.N[l]? = some z) (hp : par3B fx.names x y z px py pz a b c = true) (ha : PA X [a, b, c] (tA G E (evEs T call es))) :
    PS X (.Assign [.Tuple [.Name x px, .Name y py, .Name z pz] k p] (.Tuple [a, b, c] k2 p2) pos) (tS G E (exS T call W (.asg (.tp [i, j, l]) (.tup es)))) := by
  have hp2 := hp
  unfold par3B at hp2
  simp only [Bool.and_eq_true, Bool.not_eq_true', decide_eq_true_eq] at hp2
  obtain ⟨⟨⟨⟨⟨⟨⟨⟨⟨⟨⟨⟨h1, h2⟩, h3⟩, h4⟩, h5⟩, h6⟩, _⟩, _⟩, _⟩, _⟩, _⟩, _⟩, _⟩ := hp2
  have hij : i ≠ j := fun e => by subst e; rw [hi] at hj; exact h4 (Option.some.inj hj)
  have hil : i ≠ l := fun e => by subst e; rw [hi] at hl; exact h5 (Option.some.inj hl)
  have hjl : j ≠ l := fun e => by subst e; rw [hj] at hl; exact h6 (Option.some.inj hl)
  refine (ps_par3 (i := i) (j := j) (l := l) O.calm O.nd (by rw [O.N]; exact hi) (by rw [O.N]; exact hj) (by rw [O.N]; exact hl) hij hil hjl (by rw [O.names]; exact locB_ok h1) (by rw [O.names]; exact locB_ok h2) (by rw [O.names]; exact locB_ok h3) ha
    (par3_ok O.kind (by rw [O.names]; exact hp))).imp fun D σ H ⟨as, ρ, h, S, R, o⟩ => ?_
  simp only [exS, evE, Res.bind_assoc] at o
  refine ⟨as, ρ, h, S, R, Ok.bind o fun vs h1 as1 H1 vs' f1 r1 o1 => ?_⟩
  split at o1
  · simp only [Res.bind_ok, asgTa, bindTg] at o1
    split at o1
    · rename_i ρ1 qb
      split at qb
      · rename_i hl2
        cases qb
        have hlen : vs.length = 3 := by simpa using hl2
        match vs, hlen, r1, o1 with
        | [v, w, u], _, r1, o1 =>
          obtain ⟨v', w', u', rfl, rv, rw', ru⟩ := RepVs.three r1
          exact ⟨v', w', u', rfl, o1 as1 H1 (.nx _) (Fut.refl f1.sr) ((((R.fut f1).set i rv).set j rw').set l ru)⟩
      · cases qb
    · exact False.elim o1
  · exact False.elim o1
end
end Mn
set_option Elab.async false
set_option linter.all false
set_option maxRecDepth 100000
set_option maxHeartbeats 1000000
namespace Mn
open PySem PySem.Spec L2 PyProof.Rows
theorem cspecF {M : Model} {A : Around} {E : Value → Shared → Prop} {s : Shared} {self : Value} {name : PySem.Str} {f : Addr} {args : List Value} {Q : Option Value → Shared → Prop} (sp : PySem.W.Looks M s.heap (specialOf self name) (some (.ref f))) (hb : PySem.W.Looks M s.heap (bindSpecial (.ref f) self) (.ref f, [self]))
    (hc : wpAny M A (call (.ref f) (self :: args)) (fun v => Q (some v)) E s) : wpAny M A (callSpecial? self name args) Q E s := by
  unfold callSpecial?
  refine wpAny_bind (sp.here ?_)
  dsimp only
  refine wpAny_holding (wpAny_bind (hb.here (wpAny_bind (wpAny_mono hc (fun v s' h' => wpAny_pure h') fun _ _ h' => h'))))
section
variable {X : Cx} {CX : CXT} {k : Nat} {C g a dx : Addr} {fs : List (Str × V)} {fd : FuncData} {ps : List Str} {sp : Sp} {E : XK} {e : Expr} {pos : Pos} {ta : TE}
theorem lenO_ok {pins : List (Addr × Obj)} {σ : L2.St} {H : Hp} {s : Shared} {Q : VK} {E' : Value → Shared → Prop} (I : Inv X pins σ H s) (ea : H a = some (.ins C dx fs)) (m : Meth X.K C "__len__" g)
    (F : FnOk X.prog X.w X.K X.mg X.base CX k g fd ps sp) (hr : Room (k + 1) X.A) (hb : Binds X.K fd ps []) (hx : Passes CX X.nox E) (h : sp [.ref a] H (fun v H2 => ∃ i : Int, v = .int i ∧ 0 ≤ i ∧ i < 2 ^ 63 ∧ Q (.int i) H2) E) :
    wpAny (model X.prog X.w) X.A (call (.builtin "len") [.ref a]) (EP X pins σ Q) E' s := by
  obtain ⟨mA, O, _, _, _, _⟩ := ins_get I.hok ea
  obtain ⟨od, J, _⟩ := O.look
  have hl : ([Value.ref a] ++ []).length = ps.length := by
    rw [← F.len _ _ _ _ h]
    rfl
  have sp1 : PySem.W.Looks (model X.prog X.w) s.heap (specialOf (.ref a) "__len__") (some (.ref g)) := J.type.andThen (PySem.W.looks_findIn I.kIn m.at_)
  refine Calls.call_function_entry kind_len plain_len entry_len (args_len1 _) ?_
  unfold Builtin.«len»
  refine wpAny_bind (m := oneArg "len" _) (wpAny_pure ?_)
  refine wpAny_bind (m := callSpecial? (.ref a) (PySem.Str.ofString "__len__")) (cspecF sp1 (PySem.W.bind_fn I.kIn _ (eq_of_beq m.fn)) (wpAny_call ?_))
  refine codeAny_mono (F.run X.A.in1 X.stack s H ⟨[.ref a], []⟩ [Value.ref a] [.ref a] (fun v H2 => ∃ i : Int, v = .int i ∧ 0 ≤ i ∧ i < 2 ^ 63 ∧ Q (.int i) H2) E hr.in1 I.env0.in1 (hb _ [.ref a] I.kIn hl) (.cons (show RelV (.ref a) (.ref a) from rfl) .nil) h) fun r s' hq => ?_
  cases r with
  | error er => exact False.elim (hx pins σ H s er s' (I.wish _) hq)
  | ok fl =>
    cases fl with
    | ret u =>
      obtain ⟨v, H', I3, rv, i, rfl, h0, h1, q3⟩ := I.after hq
      obtain ⟨t, rfl⟩ : ∃ t, u = .int i t := rv
      dsimp only
      refine wpAny_bind (wpAny_holding (wpAny_pure ?_))
      refine wpAny_bind (wpAny_letGo ?_)
      have n0 : ¬ i < 0 := by omega
      have n1 : ¬ i ≥ 2 ^ 63 := by omega
      simp only [n0, n1, if_false]
      exact wpAny_bind (wpAny_mkInt (wpAny_pure ⟨_, rfl, .int i, H', I3.tok _, ⟨_, rfl⟩, q3⟩))
    | next => exact False.elim hq
    | brk => exact False.elim hq
    | cont => exact False.elim hq
end
end Mn
set_option Elab.async false
set_option linter.all false
set_option maxRecDepth 100000
set_option maxHeartbeats 1000000
namespace Mn
open PySem PySem.Spec L2 PyProof.Rows
theorem ext_spl (xs ys : List Value) (a c : Nat) : (xs.toArray.extract 0 a ++ ys.toArray) ++ xs.toArray.extract c xs.toArray.size = ((xs.take a ++ ys) ++ xs.drop c).toArray := splice_eq xs ys a c
section
variable {X : Cx} {pins : List (Addr × Obj)} {s : Shared} {σ : L2.St} {H : Hp}
theorem setSl_run {A : Around} {E : Value → Shared → Prop} {l b sl : Addr} {its its2 : List Value} {n n2 : Nat} {vl vu : Value} {lo hi : Option Int} {Q : Unit → Shared → Prop}
    (e : s.heap.get? l = some { cls := .type "list", data := .seq its.toArray n }) (e2 : s.heap.get? b = some { cls := .type "list", data := .seq its2.toArray n2 }) (hne : l ≠ b) (hs : s.heap.IsSliceOf sl vl vu .none) (pl : IsPart vl lo) (pu : IsPart vu hi)
    (hz : its.length + its2.length ≤ sizeLine) (h : Q () { s with heap := s.heap.update l (Obj.mapSeq fun xs => (xs.extract 0 (HT.sIx its.length 0 lo) ++ its2.toArray) ++ xs.extract (max (HT.sIx its.length 0 lo) (HT.sIx its.length its.length hi)) xs.size) }) :
    wpAny (model X.prog X.w) A (setItem (.ref l) (.ref sl) (.ref b)) Q E s := by
  have il : s.heap.IsList l its.toArray := IsL.isList e
  have ib : s.heap.IsList b its2.toArray := IsL.isList e2
  have szs : its.toArray.size + its2.toArray.size ≤ sizeLine := by simpa using hz
  obtain ⟨os, ho, hc, hd⟩ := id hs
  have tS : s.TypeIs (.ref sl) "slice" := ⟨os, ho, hc⟩
  have same : Builtin.List.listSameRef (.ref l) (.ref b) = false := by
    unfold Builtin.List.listSameRef
    exact beq_eq_false_iff_ne.mpr hne
  have bd : sliceBounds lo hi none its.toArray.size = (((HT.sIx its.length 0 lo : Nat) : Int), ((HT.sIx its.length its.length hi : Nat) : Int), 1) := by
    have k := slice_bounds lo hi its.length
    rw [show its.toArray.size = its.length from by simp]
    exact Prod.ext k.1 (Prod.ext k.2.1 k.2.2)
  unfold setItem
  try with_reducible refine wpAny_holding ?_
  first | refine wpAny_bind (wpAny_pure ?_) | skip
  refine wpAny_bind (wpAny_sequenceKey il.typeIs (by decide) ?_)
  refine wpAny_bind (wpAny_callSpecial?_slot (name := Str.ofString "__setitem__") il.typeIs slot_list_setitem (wpAny_call_entry slot_list_setitem il.typeIs entry_list_setitem ?_ (args_list_setitem _ _ _)))
  show wpAny _ _ (Builtin.List.listSubscript? (.ref sl) >>= _) _ _ s
  unfold Builtin.List.listSubscript?
  refine wpAny_bind (wpAny_bind (wpAny_specialOf tS slice_no_index ?_))
  simp only [Option.isNone_none, if_true]
  refine wpAny_pure (show wpAny _ _ (typeOf (.ref sl) >>= _) _ _ s from wpAny_bind (wpAny_typeOf tS ?_))
  first | rw [if_neg (by decide)] | refine PySem.W.KFB.if_not (by decide) ?_
  rw [listSliceParts_eq]
  refine wpAny_bind (wpAny_bind (wpAny_field ho hd (x := .none) rfl (wpAny_bind (wpAny_listPart .none ?_))))
  rw [if_neg (show ¬ ((rawPart none == rawInt 0) = true) from Bool.false_ne_true)]
  refine wpAny_bind (wpAny_field ho hd (x := vl) rfl (wpAny_bind (wpAny_listPart pl ?_)))
  refine wpAny_bind (wpAny_field ho hd (x := vu) rfl (wpAny_bind (wpAny_listPart pu (wpAny_pure ?_))))
  first | simp only [same, Bool.false_eq_true, if_false] | refine PySem.W.KFB.if_not same ?_
  refine wpAny_bind (m := Builtin.List.listAllItems (.ref b) "must assign iterable to extended slice") ?_
  unfold Builtin.List.listAllItems
  refine wpAny_bind (wpAny_typeOf ib.typeIs ?_)
  first | refine PySem.W.KFB.if_so (by decide) ?_ | rw [if_pos (by decide)] | simp only [beq_self_eq_true, Bool.true_or, if_true]
  unfold Builtin.List.listItems
  refine wpAny_bind (wpAny_seqItems e2 rfl (wpAny_pure (wpAny_bind (wpAny_bind (wpAny_seqItems e rfl (wpAny_pure ?_))))))
  refine wpAny_bind (wpAny_of_eq ((sliceIndices_raw lo hi none its.toArray.size (by simp)).trans (congrArg (pure : Int × Int × Int → Sem (Int × Int × Int)) bd)) ?_)
  show wpAny _ _ (if ((1 : Int) == 1) = true then _ else _) _ _ s
  refine (if_pos (show ((1 : Int) == 1) = true by decide)).symm ▸ wpAny_bind (wpAny_rule ?_)
  rw [if_neg (by rw [notLongL szs]; decide)]
  dsimp only
  have em : (max ((HT.sIx its.length 0 lo : Nat) : Int) ((HT.sIx its.length its.length hi : Nat) : Int)).toNat = max (HT.sIx its.length 0 lo) (HT.sIx its.length its.length hi) := by omega
  rw [em, Int.toNat_natCast]
  have l1 := HT.sIx_le its.length 0 (Nat.zero_le _) lo
  have l2 := HT.sIx_le its.length its.length (Nat.le_refl _) hi
  refine wpAny_bind (m := updateSeq l (fun xs => xs.extract 0 (HT.sIx its.length 0 lo) ++ its2.toArray ++ xs.extract (max (HT.sIx its.length 0 lo) (HT.sIx its.length its.length hi)) xs.size)) (wpAny_updateSeq (hz := by simp; omega) (_hz' := by simp; omega) e rfl ?_)
  refine wpAny_bind (wpAny_letGo ?_)
  first | exact wpAny_bind (wpAny_pure (wpAny_pure ⟨.none, rfl, wpAny_pure h⟩)) | exact wpAny_pure ⟨.none, rfl, wpAny_pure h⟩
theorem setSl_ok {l b sl : Addr} {xs ys : List V} {vl vu : Value} {lo hi : Option Int} {Q : Hp → Prop} (I : Inv X pins σ H s) (hH : H l = some (.lst xs)) (hB : H b = some (.lst ys)) (hne : l ≠ b) (hs : s.heap.IsSliceOf sl vl vu .none) (pl : IsPart vl lo) (pu : IsPart vu hi)
    (hz : xs.length + ys.length ≤ sizeLine) (h : Q (upd H l (.lst (spl xs ys lo hi)))) : wpAny (model X.prog X.w) X.A (setItem (.ref l) (.ref sl) (.ref b)) (fun _ s' => ∃ H', Inv X pins σ H' s' ∧ Q H') X.xe s := by
  obtain ⟨z, its, n, r, hl, e⟩ := I.lstM hH
  obtain ⟨z2, its2, n2, r2, hl2, e2⟩ := I.lstM hB
  have e1 : xs.length = its.length := by simpa using hl
  have e3 : ys.length = its2.length := by simpa using hl2
  refine setSl_run (lo := lo) (hi := hi) e e2 hne hs pl pu (by omega) ?_
  have rr : Vals (spl xs ys lo hi) (its.take (HT.sIx its.length 0 lo) ++ its2 ++ its.drop (max (HT.sIx its.length 0 lo) (HT.sIx its.length its.length hi))) := by
    unfold spl
    rw [e1]
    exact Vals.append (Vals.append (r.take _) r2) (r.drop _)
  refine ⟨_, I.lset (its' := its.take (HT.sIx its.length 0 lo) ++ its2 ++ its.drop (max (HT.sIx its.length 0 lo) (HT.sIx its.length its.length hi))) (t' := s.toks) hH e (splice_eq its its2 _ _) rr ?_, h⟩
  unfold spl
  have l1 := HT.sIx_le xs.length 0 (Nat.zero_le _) lo
  simp only [List.length_append, List.length_take, List.length_drop]
  omega
end
def gSl (to : TE) (tl th : TO) : TG := fun v σ H Q => to σ H fun x H1 => tl σ H1 fun l H2 => th σ H2 fun u H3 => ∃ a b xs ys, x = .ref a ∧ v = .ref b ∧ H3 a = some (.lst xs) ∧ H3 b = some (.lst ys) ∧ a ≠ b ∧ xs.length + ys.length ≤ sizeLine ∧ Q σ (upd H3 a (.lst (spl xs ys l u)))
theorem pg_sl {X : Cx} {o : Expr} {lo hi : Option Expr} {to : TE} {tl th : TO} {pos p2 : Pos} (ho : PE X o to) (hl : L2.PO X lo tl) (hu : L2.PO X hi th) : PG X (.Subscript o (.Slice lo hi none p2) pos) (gSl to tl th) := by
  refine ⟨fun pins s σ H v u Q I r h => ?_⟩
  have ha : assign (.Subscript o (.Slice lo hi none p2) pos) X.env u = (do
      let ov ← holding [u] (eval o X.env)
      let iv ← holding [u, ov] (eval (.Slice lo hi none p2) X.env)
      standAt pos
      holding [u, ov, iv] (setItem ov iv u)
      release [iv, u, ov] []) := rfl
  rw [ha]
  refine wpAny_bind (wpAny_holding (thn (ho.run pins s σ H _ I h) fun ov s1 ⟨x, H1, I1, r1, q1⟩ => ?_))
  refine wpAny_bind (wpAny_holding (wpAny_Slice (thn (hl.run pins s1 σ H1 _ I1 q1) fun vl s2 ⟨l, H2, I2, pl, q2⟩ => thn (hu.run pins s2 σ H2 _ I2 q2) fun vu s3 ⟨w, H3, I3, pu, q3⟩ => ?_)))
  rw [evalPart_none]
  refine wpAny_pure ?_
  obtain ⟨a, b, xs, ys, ex, ev, na, nb, hne, hz, q⟩ := q3
  subst ex
  subst ev
  obtain rfl : ov = Value.ref a := r1
  obtain rfl : u = Value.ref b := r
  have I4 : Inv X pins σ H3 { s3 with heap := s3.heap.push { cls := .type "slice", data := .fields #[vl, vu, .none] } } := I3.kept (t' := s3.toks) fun c ob e => Heap.get?_push_of_some _ e
  refine wpAny_bind (wpAny_standAt (wpAny_bind (wpAny_holding (thn (setSl_ok (Q := fun H' => Q σ H') I4 na nb hne (Heap.IsSliceOf.new ..) pl pu hz q) fun _ s4 ⟨H4, I5, q4⟩ => ?_))))
  exact wpAny_release ⟨σ, H4, I5, q4⟩
end Mn
set_option Elab.async false
set_option linter.all false
set_option maxRecDepth 100000
set_option maxHeartbeats 4000000
namespace Mn
open PySem PySem.Spec L2 PyProof.Rows
section
variable {G : Gm} {T : Tb} {nm : Nm} {call : Nat → List PV → PH → Res PV} {fx : Fx} {X : Cx} {E : XK} {W : Nat}
def lnoR (T : Tb) (call : Nat → List PV → PH → Res PV) (m : Nat) (v : PV) (h1 : PH) : Res PV := match v with
    | .ref l => (match h1[l]? with
      | some (.ins c _) => (match (T.cls[c]?).bind fun ci => ci.meths.lookup m with
        | some f => (call f [.ref l] h1).noer.bind fun w h2 => (match w with
          | .int i => if decide (0 ≤ i) && decide (i < 2 ^ 63) then .ok (.int i) h2 else .stuck
          | _ => .stuck)
        | none => .stuck)
      | _ => .stuck)
    | _ => .stuck
theorem call_lno (O : XOk G T nm call fx X E) {m : Nat} (hn : nm.an[m]? = some "__len__") : CallR X (.builtin "len") (fun xs H Q => ∃ as h v x, xs = [x] ∧ SR G as H h ∧ RepV G as H v x ∧ OkV G E as H Q (lnoR T call m v h)) := by
  intro pins s σ H xs us Q I r ⟨as, h, v, x, ex, S, rv, o⟩
  subst ex
  obtain ⟨u, rfl, ru⟩ := vals1 r
  cases v with
  | ref l =>
    unfold lnoR at o
    dsimp only at o
    split at o
    · rename_i c fs ql
      split at o
      · rename_i f qm
        obtain ⟨ci, ec, em⟩ := Option.bind_eq_some_iff.mp qm
        obtain ⟨a, ea, rfl⟩ := rv.refE
        obtain rfl : u = Value.ref a := ru
        obtain ⟨dx, gs, eh, rf⟩ := S.insM ql ea
        have hn' := hn
        rw [O.an] at hn'
        have mm := O.cls.me c ci m f _ ec em hn'
        rw [← O.K] at mm
        obtain ⟨k, fd, ps, F, hr, hbd, ar⟩ := O.mfn c ci f ec (.inr (.inl ⟨m, em⟩))
        refine lenO_ok (E := E0) (sp := spF G call f ps.length) I eh mm F hr hbd (L2.passL (X := X.nox)) ?_
        refine Ok.bind_call (E := E0) ar S (.cons (by unfold RepV; exact ⟨a, ea, rfl⟩) .nil) (Ok.noer o fun w h2 as2 H2 w' f2 r2 o2 => ?_)
        cases w with
        | int i =>
          dsimp only at o2
          split at o2
          · rename_i hi
            simp only [Bool.and_eq_true, decide_eq_true_eq] at hi
            exact ⟨i, r2.intE, hi.1, hi.2, o2 as2 H2 (.int i) (Fut.refl f2.sr) (.int i)⟩
          · exact False.elim o2
        | _ => exact False.elim o2
      · exact False.elim o
    · exact False.elim o
  | _ => exact False.elim o
theorem okE_lno (O : XOk G T nm call fx X E) {m : Nat} {o : Ex} {xo : Expr} {p pos : Pos} (hn : nm.an[m]? = some "__len__") (hg : glB fx.names "len" = true) (hx : isStar xo = false) (hne : ∀ y, o ≠ .star y) (ho : PE X xo (tE G E (evE T call o))) :
    PE X (.Call (.Name "len" p) [xo] [] pos) (tE G E (evE T call (.lno m o))) := by
  refine (pe_callB (call_lno O hn) (gl_ok O hg) (O.bl .len) (bi_boot .len) (okA_cons hx hne ho okA_nil) (bi_name .len) (bi_dbg .len) (star_cons hx) (noStars rfl)).imp fun σ H Q ⟨as, ρ, h, S, R, q⟩ => ?_
  simp only [evE] at q
  refine ⟨as, ρ, h, S, R, ?_⟩
  rw [evEs_cons hne]
  refine Ok.bind (rel2 := fun as' H' => RepV G as' H') (Q2 := Q) (k := fun vs h1 => match vs with
    | [v] => lnoR T call m v h1
    | _ => .stuck) ?_ fun vs h1 as1 H1 vs' f1 r1 o1 => ?_
  · rw [Res.bind_assoc]
    refine Eq.mp (congrArg _ ?_) q
    congr 1
  · match vs, r1, o1 with
    | [], _, o1 => exact False.elim o1
    | [v], r1, o1 =>
      obtain ⟨x, rfl, rx⟩ := r1.one
      exact ⟨as1, h1, v, x, rfl, f1.sr, rx, o1⟩
    | _ :: _ :: _, _, o1 => exact False.elim o1
theorem WkOk.rngD {as : List Addr} {H : Hp} {lo : Int} {n : Nat} : WkOk G as H (.fix ((List.range n).map fun (i : Nat) => .int (lo - i))) (Itc lo (-1) n) := fun as' H' h hp kp S i => by
  refine ⟨fun e => ?_, fun x e => ?_⟩
  · simp only [wkAt, Option.some.injEq] at e
    have : n ≤ i := by simpa using e
    exact this
  · simp only [wkAt, Option.some.injEq, List.getElem?_map] at e
    by_cases hi : i < n
    · rw [List.getElem?_range hi] at e
      cases e
      refine ⟨hi, fun v H2 ⟨e1, e2⟩ => ?_⟩
      subst e1
      subst e2
      exact ⟨Fut.refl S, by rw [show lo + (i : Int) * -1 = lo - i by omega]; exact .int _⟩
    · rw [List.getElem?_eq_none (by simpa using hi)] at e
      cases e
theorem evEs_three {e e2 e3 : Ex} (he : ∀ x, e ≠ .star x) (he2 : ∀ x, e2 ≠ .star x) (he3 : ∀ x, e3 ≠ .star x) (ρ : PEnv) (h : PH) : evEs T call [e, e2, e3] ρ h = (evE T call e ρ h).bind fun u h1 => (evE T call e2 ρ h1).bind fun v h2 => (evE T call e3 ρ h2).bind fun w h3 => .ok [u, v, w] h3 := by
  rw [evEs_cons he]
  simp only [evEs_two he2 he3, Res.bind_assoc, Res.bind_ok]
theorem okI_rng3 (O : XOk G T nm call fx X E) {tg x y z : Expr} {p pos : Pos} {e e2 e3 : Ex} (hs : ∀ y, e ≠ .star y) (hs2 : ∀ y, e2 ≠ .star y) (hs3 : ∀ y, e3 ≠ .star y) (hx : isStar x = false) (hy : isStar y = false) (hz : isStar z = false) (hg : glB fx.names "range" = true) (ha : PA X [x, y, z] (tA G E (evEs T call [e, e2, e3]))) :
    PI X tg (.Call (.Name "range" p) [x, y, z] [] pos) (tI G E (evI T call .rng [e, e2, e3])) := by
  refine PI.imp (pi_range3 (gl_ok O hg) O.rng ha (star_cons hx) (noStars (by simp [hy, hz]))) fun σ H R ⟨as, ρ, h, S, R', q⟩ => ?_
  unfold evI at q
  refine ⟨as, ρ, h, S, R', ?_⟩
  rw [evEs_three hs hs2 hs3] at q ⊢
  simp only [Res.bind_assoc, Res.bind_ok] at q
  refine Ok.bindK q fun u h1 o1 => Ok.bindK o1 fun v h2 o2 => Ok.bindK o2 fun w h3 o3 as1 H1 vs' f r1 => ?_
  unfold RepVs at r1
  obtain ⟨a, r2, rfl, ra, r3⟩ := r1
  obtain ⟨b, c, rfl, rb, rc⟩ := r3.two
  cases qw : wkOf .rng [u, v, w] h3 with
  | none => rw [qw] at o3; exact False.elim o3
  | some pp =>
    rw [qw] at o3
    cases u with
    | int i =>
      cases v with
      | int j =>
        cases w with
        | int k =>
          simp only [wkOf] at qw
          split at qw
          · rename_i hb
            cases qw
            simp only [Bool.and_eq_true, decide_eq_true_eq] at hb
            obtain ⟨⟨⟨⟨rfl, h1⟩, h2⟩, h3⟩, h4⟩ := hb
            rw [ra.intE, rb.intE, rc.intE]
            exact ⟨i, j, -1, _, rfl, RgC.neg h1 h2 h3 h4, o3 as1 H1 _ f WkOk.rngD⟩
          · cases qw
        | _ => simp [wkOf] at qw
      | _ => simp [wkOf] at qw
    | _ => simp [wkOf] at qw
theorem okI_rvr (O : XOk G T nm call fx X E) {tg x : Expr} {p p2 pos pos2 : Pos} {e : Ex} (hs : ∀ y, e ≠ .star y) (hx : isStar x = false) (hg : glB fx.names "range" = true) (hg2 : glB fx.names "reversed" = true) (ha : PE X x (tE G E (evE T call e))) :
    PI X tg (.Call (.Name "reversed" p) [.Call (.Name "range" p2) [x] [] pos2] [] pos) (tI G E (evI T call .rvr [e])) := by
  refine PI.imp (pi_revR (gl_ok O hg2) O.rvs (prg_1 (gl_ok O hg) O.rng ha (star_cons hx)) (star_cons rfl)) fun σ H R ⟨as, ρ, h, S, R', q⟩ => ?_
  unfold evI at q
  refine ⟨as, ρ, h, S, R', ?_⟩
  rw [evEs_one hs] at q
  simp only [Res.bind_assoc, Res.bind_ok] at q
  refine Ok.bind q fun v h1 as1 H1 v' f r1 o1 => ?_
  cases v with
  | int j =>
    rw [r1.intE]
    refine ⟨j, rfl, ?_⟩
    cases qw : wkOf .rvr [.int j] h1 with
    | none => rw [qw] at o1; exact False.elim o1
    | some pp =>
      rw [qw] at o1
      simp only [wkOf] at qw
      split at qw
      · rename_i hb
        cases qw
        simp only [Bool.and_eq_true, decide_eq_true_eq] at hb
        refine ⟨by decide, by decide, hb.1, hb.2, o1 as1 H1 _ (Fut.refl f.sr) ?_⟩
        have ej : (j - 0).toNat = j.toNat := by omega
        rw [ej]
        have el : (List.range j.toNat).map (fun (m : Nat) => PV.int (j - 1 - m)) = (List.range j.toNat).map (fun (m : Nat) => PV.int ((0 : Int) + ((j.toNat : Nat) : Int) - 1 - m)) := by
          by_cases hj : 0 ≤ j
          · have : (0 : Int) + ((j.toNat : Nat) : Int) = j := by omega
            rw [this]
          · have : j.toNat = 0 := by omega
            rw [this]
            rfl
        show WkOk G as1 H1 (.fix ((List.range j.toNat).map fun (m : Nat) => PV.int (j - 1 - m))) _
        rw [el]
        exact WkOk.rngD
      · cases qw
  | _ => exact False.elim o1
theorem okS_sl (O : XOk G T nm call fx X E) {e o lo hi : Ex} {x xo : Expr} {l u : Option Expr} {p p2 p3 : Pos} (he : PE X x (tE G E (evE T call e))) (ho : PE X xo (tE G E (evE T call o))) (hl : L2.PO X l (tO G E fun ρ h => partR lo (evE T call lo ρ h) h)) (hu : L2.PO X u (tO G E fun ρ h => partR hi (evE T call hi ρ h) h)) :
    PS X (.Assign [.Subscript xo (.Slice l u none p3) p2] x p) (tS G E (exS T call W (.asg (.sl o lo hi) e))) := by
  refine (ps_asg he (pg_sl ho hl hu) noSwapIx noStoresIx).imp fun D σ H ⟨as, ρ, h, S, R, q⟩ => ?_
  simp only [exS, asgTa, Res.bind_assoc] at q
  refine ⟨as, ρ, h, S, R, Ok.bind q fun v h1 as1 H1 v' f1 r1 q1 => ⟨as1, ρ, h1, f1.sr, R.fut f1, Ok.bind q1 fun w h2 as2 H2 w' f2 r2 q2 => ⟨as2, ρ, h2, f2.sr, (R.fut f1).fut f2, Ok.bind q2 fun a h3 as3 H3 a' f3 ea q3 => ⟨as3, ρ, h3, f3.sr, ((R.fut f1).fut f2).fut f3, Ok.bind q3 fun b h4 as4 H4 b' f4 eb q4 => ?_⟩⟩⟩⟩
  subst ea
  subst eb
  cases qs : pSlS w a' b' v h4 with
  | none => rw [qs] at q4; exact False.elim q4
  | some h5 =>
    rw [qs] at q4
    simp only [Res.bind_ok] at q4
    cases w with
    | ref l =>
      cases v with
      | ref m =>
        simp only [pSlS] at qs
        split at qs
        · rename_i xs ys e1 e2
          split at qs
          · rename_i hne
            cases qs
            obtain ⟨al, el, rfl⟩ := ((r2.fut f3).fut f4).refE
            obtain ⟨am, em, rfl⟩ := (((r1.fut f2).fut f3).fut f4).refE
            obtain ⟨vs, eh1, rl1⟩ := f4.sr.lstM e1 el
            obtain ⟨ws, eh2, rl2⟩ := f4.sr.lstM e2 em
            have hna : al ≠ am := fun z => by
              subst z
              obtain ⟨k1, z1⟩ := List.getElem?_eq_some_iff.mp el
              obtain ⟨k2, z2⟩ := List.getElem?_eq_some_iff.mp em
              exact hne.1 ((List.getElem_inj f4.sr.nd).mp (z1.trans z2.symm))
            refine ⟨al, am, vs, ws, rfl, rfl, eh1, eh2, hna, by rw [← rl1.length, ← rl2.length]; exact hne.2, ?_⟩
            have rs : RepVs G as4 H4 (spl xs ys a' b') (spl vs ws a' b') := by
              unfold spl
              rw [rl1.length]
              exact ((rl1.take _).append rl2).append (rl1.drop _)
            have f5 := f4.sr.setL el eh1 rs
            exact q4 as4 _ (.nx σ) f5 (((((R.fut f1).fut f2).fut f3).fut f4).fut f5)
          · cases qs
        · cases qs
      | _ => cases qs
    | _ => cases qs
end
end Mn
set_option Elab.async false
set_option linter.all false
set_option maxRecDepth 100000
set_option maxHeartbeats 4000000
namespace Mn
open PySem PySem.Spec L2 PyProof.Rows
section
variable {G : Gm} {T : Tb} {nm : Nm} {call : Nat → List PV → PH → Res PV} {fx : Fx} {X : Cx} {E : XK} {W : Nat}
def lcI (T : Tb) (call : Nat → List PV → PH → Res PV) (e : Ex) (own1 : List Nat) (t1 : Tg) (ifs1 : List Ex) (D : Nat) (ρ1 : PEnv) (y : PV) (h5 : PH) : Res Unit := match bindTg t1 y (own1.foldr (fun i r => r.set i none) ρ1) with
  | none => .stuck
  | some ρ2 => (evIf T call ifs1 ρ2 h5).noer.bind fun b h6 => if b then (evE T call e ρ2 h6).noer.bind fun z h7 => accPut D z h7 else .ok () h6
def lcO (T : Tb) (call : Nat → List PV → PH → Res PV) (e : Ex) (own : List Nat) (t : Tg) (ifs : List Ex) (own1 : List Nat) (t1 : Tg) (k1 : Ik) (its1 ifs1 : List Ex) (D : Nat) (ρ : PEnv) (x : PV) (h2 : PH) : Res Unit := match bindTg t x (own.foldr (fun i r => r.set i none) ρ) with
  | none => .stuck
  | some ρ1 => (evIf T call ifs ρ1 h2).noer.bind fun b h3 => if b then (evI T call k1 its1 ρ1 h3).noer.bind fun p h4 => accRun (lcI T call e own1 t1 ifs1 D ρ1) p.1 (p.2 + 1) 0 h4 else .ok () h3
theorem evI_noer {γ : Type} {k : Ik} {its : List Ex} {ρ : PEnv} {h : PH} (f : Wk × Nat → PH → Res γ) : (evI T call k its ρ h).noer.bind f = (evEs T call its ρ h).noer.bind fun vs h1 => match wkOf k vs h1 with
    | none => .stuck
    | some p => f p h1 := by
  unfold evI
  rw [noer_bind, Res.bind_assoc]
  congr 1
  funext vs h1
  cases q : wkOf k vs h1 <;> rfl
theorem evE_lc2 {e : Ex} {own : List Nat} {t : Tg} {k : Ik} {its ifs : List Ex} {own1 : List Nat} {t1 : Tg} {k1 : Ik} {its1 ifs1 : List Ex} {ρ : PEnv} {h : PH} : evE T call (.lc2 e own t k its ifs own1 t1 k1 its1 ifs1) ρ h =
    (evI T call k its ρ h).bind fun p h1 => (accRun (lcO T call e own t ifs own1 t1 k1 its1 ifs1 h1.length ρ) p.1 (p.2 + 1) 0 (h1 ++ [.lst []])).bind fun _ h9 => .ok (.ref h1.length) h9 := by
  unfold evI
  simp only [evE, Res.bind_assoc]
  congr 1
  funext vs h1
  cases q : wkOf k vs h1 with
  | none => rfl
  | some p =>
    simp only [Res.bind_ok]
    congr 2
    funext x h2
    unfold lcO
    cases bindTg t x (own.foldr (fun i r => r.set i none) ρ) with
    | none => rfl
    | some ρ1 =>
      dsimp only
      congr 1
      funext b h3
      rw [evI_noer]
      cases b with
      | false => rfl
      | true =>
        simp only [if_true]
        congr 1
        funext ws h4
        cases wkOf k1 ws h4 <;> rfl
theorem accRun_succ {body : PV → PH → Res Unit} {w : Wk} {n i : Nat} {h : PH} : accRun body w (n + 1) i h = match wkAt h i w with
    | none => .stuck
    | some none => .ok () h
    | some (some x) => (body x h).bind fun _ h1 => accRun body w n (i + 1) h1 := rfl
theorem accPut_ok {as : List Addr} {H : Hp} {h : PH} {D : Nat} {a : Addr} {y : PV} {y' : V} {γ δ : Type} {rel : List Addr → Hp → γ → δ → Prop} {Q : δ → Hp → Prop} {f : Unit → PH → Res γ} (S : SR G as H h) (ea : as[D]? = some a) (ry : RepV G as H y y') (o : Ok G E as H rel Q ((accPut D y h).bind f)) :
    ∃ acc, H a = some (.lst acc) ∧ acc.length < sizeLine ∧ ∃ h9, Fut G as H as (upd H a (.lst (acc ++ [y']))) h9 ∧ Ok G E as (upd H a (.lst (acc ++ [y']))) rel Q (f () h9) := by
  unfold accPut at o
  split at o
  · rename_i acc qa
    split at o
    · rename_i hl
      obtain ⟨ws, eH, rl⟩ := S.lstM qa ea
      have f7 := S.setL ea eH (rl.append (.cons ry .nil))
      exact ⟨ws, eH, by rw [← rl.length]; exact hl, _, f7, Ok.fut f7 o⟩
    · exact False.elim o
  · exact False.elim o
theorem lc2_core' (O : XOk G T nm call fx X E) {e : Ex} {own : List Nat} {t : Tg} {k : Ik} {its ifs : List Ex} {own1 : List Nat} {t1 : Tg} {k1 : Ik} {its1 ifs1 : List Ex} (htg : ∀ i ∈ tgIs t, i ∈ own) (htg1 : ∀ i ∈ tgIs t1, i ∈ own1) (σ : L2.St) (H : Hp) (Q : VK) :
    tE G E (evE T call (.lc2 e own t k its ifs own1 t1 k1 its1 ifs1)) σ H Q → tLc2 (tI G E (evI T call k its)) (tG G t) (tT G E0 (evIf T call ifs)) (tI G E0 (evI T call k1 its1)) (tG G t1) (tT G E0 (evIf T call ifs1)) (tE G E0 (evE T call e)) ((ownsOf fx own).map (·.2)) own1 σ H Q := by
  have ow : (ownsOf fx own).map (·.2) = own := by unfold ownsOf; rw [List.map_map]; exact (List.map_congr_left (fun _ _ => rfl)).trans (List.map_id own)
  intro ⟨as, ρ, h, S, R, o⟩
  rw [ow]
  rw [evE_lc2] at o
  refine ⟨as, ρ, h, S, R, Ok.bind o fun p h1 as1 H1 J f1 hJ o1 D hD => ?_⟩
  obtain ⟨f2, rD⟩ := f1.sr.newL (ys := []) hD .nil
  have eD : (as1 ++ [D])[h1.length]? = some D := by
    rw [← f1.sr.len, List.getElem?_append_right (Nat.le_refl _)]
    simp
  have Rw : RepE G as1 H1 ρ σ := R.fut f1
  refine ⟨fun i m H => ∃ as2 h2, Fut G (as1 ++ [D]) (upd H1 D (.lst [])) as2 H h2 ∧ OkV G E as2 H Q ((accRun (lcO T call e own t ifs own1 t1 k1 its1 ifs1 h1.length ρ) p.1 m i h2).bind fun _ h9 => .ok (.ref h1.length) h9), ⟨p.2 + 1, as1 ++ [D], _, Fut.refl f2.sr, Ok.fut f2 o1⟩, ?_⟩
  rintro i m H' ⟨as2, h2, f3, o2⟩
  cases m with
  | zero => exact False.elim o2
  | succ m =>
    have f23 : Fut G as1 H1 as2 H' h2 := f2.trans f3
    obtain ⟨j1, j2⟩ := hJ as2 H' h2 f23.pre f23.kp f3.sr i
    rw [accRun_succ] at o2
    have eD2 : as2[h1.length]? = some D := pre_get f3.pre eD
    split at o2
    · exact False.elim o2
    · rename_i q
      refine .inl ⟨j1 q, okv f3.sr o2 ?_⟩
      unfold RepV
      exact ⟨D, eD2, rfl⟩
    · rename_i x q
      obtain ⟨jg, jy⟩ := j2 x q
      refine .inr ⟨jg, fun H3 => ∃ as3 h3, Fut G (as1 ++ [D]) (upd H1 D (.lst [])) as3 H3 h3 ∧ OkV G E as3 H3 Q ((accRun (lcO T call e own t ifs own1 t1 k1 its1 ifs1 h1.length ρ) p.1 m (i + 1) h3).bind fun _ h9 => .ok (.ref h1.length) h9), fun H3 n => ⟨m, Nat.lt_succ_self _, n⟩, fun v H3 y => ?_⟩
      obtain ⟨f4, rv⟩ := jy v H3 y
      have o3 := Ok.fut f4 o2
      have f34 := f3.trans f4
      have R3 : RepE G as2 H3 ρ σ := (Rw.fut f23).fut f4
      rw [Res.bind_assoc] at o3
      unfold lcO at o3
      split at o3
      · exact False.elim o3
      · rename_i ρ1 qb
        refine ⟨as2, _, h2, x, ρ1, f4.sr, wipe_ok R3 own, rv, qb, fun σ1 R1 ⟨is, vs, e1, e2⟩ => ⟨?_, ?_⟩⟩
        · rw [e1, wipe_fold (fun j hj => htg j (by have := e2 j hj; cases t <;> exact this)), wipe_wipe]
        · rw [Res.bind_assoc] at o3
          refine ⟨as2, ρ1, h2, f4.sr, R1, Ok.noer o3 fun b h4 as4 H4 b' f5 eb o4 => ?_⟩
          subst eb
          cases b with
          | false =>
            simp only [Bool.false_eq_true, if_false] at o4 ⊢
            exact ⟨as4, h4, f34.trans f5, o4⟩
          | true =>
            simp only [if_true] at o4 ⊢
            rw [Res.bind_assoc] at o4
            have R4 := R1.fut f5
            refine ⟨as4, ρ1, h4, f5.sr, R4, Ok.noer o4 fun p1 h5 as5 H5 J1 f6 hJ1 o5 => ?_⟩
            have f36 := (f34.trans f5).trans f6
            refine ⟨fun j n H => ∃ as6 h6, Fut G as5 H5 as6 H h6 ∧ OkV G E as6 H Q ((accRun (lcI T call e own1 t1 ifs1 h1.length ρ1) p1.1 n j h6).bind fun _ h9 => (accRun (lcO T call e own t ifs own1 t1 k1 its1 ifs1 h1.length ρ) p.1 m (i + 1) h9).bind fun _ h9 => .ok (.ref h1.length) h9), ⟨p1.2 + 1, as5, h5, Fut.refl f6.sr, o5⟩, ?_⟩
            rintro j n H6 ⟨as6, h6, f7, o6⟩
            cases n with
            | zero => exact False.elim o6
            | succ n =>
              obtain ⟨j1', j2'⟩ := hJ1 as6 H6 h6 f7.pre f7.kp f7.sr j
              rw [accRun_succ] at o6
              split at o6
              · exact False.elim o6
              · rename_i q'
                exact .inl ⟨j1' q', as6, h6, f36.trans f7, o6⟩
              · rename_i x' q'
                obtain ⟨jg', jy'⟩ := j2' x' q'
                refine .inr ⟨jg', fun H7 => ∃ as7 h7, Fut G as5 H5 as7 H7 h7 ∧ OkV G E as7 H7 Q ((accRun (lcI T call e own1 t1 ifs1 h1.length ρ1) p1.1 n (j + 1) h7).bind fun _ h9 => (accRun (lcO T call e own t ifs own1 t1 k1 its1 ifs1 h1.length ρ) p.1 m (i + 1) h9).bind fun _ h9 => .ok (.ref h1.length) h9), fun H7 z => ⟨n, Nat.lt_succ_self _, z⟩, fun v' H7 y' => ?_⟩
                obtain ⟨f8, rv'⟩ := jy' v' H7 y'
                have o7 := Ok.fut f8 o6
                rw [Res.bind_assoc] at o7
                unfold lcI at o7
                split at o7
                · exact False.elim o7
                · rename_i ρ2 qb'
                  refine ⟨as6, _, h6, x', ρ2, f8.sr, wipe_ok (((R4.fut f6).fut f7).fut f8) own1, rv', qb', fun σ3 R5 ⟨is', vs', e3, e4⟩ => ⟨?_, ?_⟩⟩
                  · rw [e3, wipe_fold (fun i hi => htg1 i (by have := e4 i hi; cases t1 <;> exact this)), wipe_wipe]
                  · rw [Res.bind_assoc] at o7
                    refine ⟨as6, ρ2, h6, f8.sr, R5, Ok.noer o7 fun b h8 as8 H8 b' f9 eb o8 => ?_⟩
                    subst eb
                    cases b with
                    | false =>
                      simp only [Bool.false_eq_true, if_false] at o8 ⊢
                      exact ⟨as8, h8, (f7.trans f8).trans f9, o8⟩
                    | true =>
                      simp only [if_true] at o8 ⊢
                      rw [Res.bind_assoc] at o8
                      refine ⟨as8, ρ2, h8, f9.sr, R5.fut f9, Ok.noer o8 fun z h10 as9 H9 z' f10 rz o9 => ?_⟩
                      have eD9 : as9[h1.length]? = some D := pre_get ((((((f5.pre.trans f6.pre).trans f7.pre).trans f8.pre).trans f9.pre).trans f10.pre)) eD2
                      obtain ⟨acc, eH, hl, h11, f11, o10⟩ := accPut_ok f10.sr eD9 rz o9
                      exact ⟨acc, eH, hl, as9, h11, (((f7.trans f8).trans f9).trans f10).trans f11, o10⟩
theorem okE_lc2 (O : XOk G T nm call fx X E) {e : Ex} {own : List Nat} {t : Tg} {k : Ik} {its ifs : List Ex} {own1 : List Nat} {t1 : Tg} {k1 : Ik} {its1 ifs1 : List Ex} {elt tg iter tg1 iter1 : Expr} {xifs xifs1 : List Expr} {sc : Scope} {pos : Pos}
    (hi : PI X tg iter (tI G E (evI T call k its))) (hb : blkC fx.N (scOf fx) sc (ownsOf fx own) = true) (htg : ∀ i ∈ tgIs t, i ∈ own) (htg1 : ∀ i ∈ tgIs t1, i ∈ own1) (hv : ∀ i ∈ own1, i ∈ own)
    (hg : ∀ (X' : Cx), XOk G T nm call (fxB fx sc) X' E0 → PG X' tg (tG G t)) (ht : ∀ (X' : Cx), XOk G T nm call (fxB fx sc) X' E0 → PTs X' xifs (tT G E0 (evIf T call ifs)))
    (hi1 : ∀ (X' : Cx), XOk G T nm call (fxB fx sc) X' E0 → PI X' tg1 iter1 (tI G E0 (evI T call k1 its1))) (hg1 : ∀ (X' : Cx), XOk G T nm call (fxB fx sc) X' E0 → PG X' tg1 (tG G t1)) (ht1 : ∀ (X' : Cx), XOk G T nm call (fxB fx sc) X' E0 → PTs X' xifs1 (tT G E0 (evIf T call ifs1)))
    (he : ∀ (X' : Cx), XOk G T nm call (fxB fx sc) X' E0 → PE X' elt (tE G E0 (evE T call e))) (hs : noSet iter = true) (hs1 : noSet iter1 = true) :
    PE X (.ListComp elt [⟨tg, iter, xifs, 0⟩, ⟨tg1, iter1, xifs1, 0⟩] sc pos) (tE G E (evE T call (.lc2 e own t k its ifs own1 t1 k1 its1 ifs1))) := by
  have hb0 := blkOk_by hb
  have hu : uniqB sc = true := List.all_eq_true.mpr fun y hy => decide_eq_true (hb0.uniq y hy)
  have ow : (ownsOf fx own).map (·.2) = own := by unfold ownsOf; rw [List.map_map]; exact (List.map_congr_left (fun _ _ => rfl)).trans (List.map_id own)
  obtain ⟨h1, h2, h3, h4, h5⟩ := lc_parts O hi hb htg hg ht he hs
  exact (pe_lc2 O.calm O.nd hi h1 (by rw [ow]; exact hv) h2 h3 (fun s H C cl fp => hi1 _ (O.blk hu s H C cl fp hb0.kind)) (fun s H C cl fp => hg1 _ (O.blk hu s H C cl fp hb0.kind)) (fun s H C cl fp => ht1 _ (O.blk hu s H C cl fp hb0.kind)) h4 h5
    (fun env x => by cases iter1 <;> first | rfl | cases hs1)).imp (lc2_core' O htg htg1)
end
end Mn
set_option Elab.async false
set_option linter.all false
set_option maxRecDepth 100000
set_option maxHeartbeats 1000000
namespace Mn
open PySem PySem.Spec L2 PyProof.Rows
section
variable {G : Gm} {T : Tb} {nm : Nm} {call : Nat → List PV → PH → Res PV} {fx : Fx} {X : Cx} {E : XK} {W : Nat}
theorem okA_star (O : XOk G T nm call fx X E) {e : Ex} {es : List Ex} {x : Expr} {xs : List Expr} {p : Pos} (h1 : PE X x (tE G E (evE T call e))) (h2 : PA X xs (tA G E (evEs T call es))) : PA X (.Starred x p :: xs) (tA G E (evEs T call (.star e :: es))) := by
  refine (StX.pa_star h1 h2).imp fun σ H Q ⟨as, ρ, h, S, R, o⟩ => ?_
  simp only [evEs] at o
  refine ⟨as, ρ, h, S, R, Ok.bind o fun v h1 as1 H1 v' f1 r1 o1 => ?_⟩
  cases v with
  | tup ys =>
    dsimp only at o1
    unfold RepV at r1
    obtain ⟨a, vs, rfl, s, r⟩ := r1
    refine ⟨a, vs, rfl, .inl (by rw [O.K]; exact s), as1, ρ, h1, f1.sr, R.fut f1, Ok.bind o1 fun ws h2 as2 H2 ws' f2 r2 o2 => ?_⟩
    exact o2 as2 H2 _ (Fut.refl f2.sr) ((r.fut f2).append r2)
  | ref l =>
    dsimp only at o1
    split at o1
    · rename_i ys q
      obtain ⟨a, ea, rfl⟩ := r1.refE
      obtain ⟨vs, s, r⟩ := f1.sr.lst q ea
      refine ⟨a, vs, rfl, .inr (by rw [O.K]; exact s), as1, ρ, h1, f1.sr, R.fut f1, Ok.bind o1 fun ws h2 as2 H2 ws' f2 r2 o2 => ?_⟩
      exact o2 as2 H2 _ (Fut.refl f2.sr) ((r.fut f2).append r2)
    · exact False.elim o1
  | _ => exact False.elim o1
end
end Mn
set_option Elab.async false
set_option linter.all false
set_option maxRecDepth 100000
set_option maxHeartbeats 8000000
namespace Mn
open PySem PySem.Spec L2 PyProof.Rows
def isBoolOp : Expr → Bool
  | .BoolOp .. => true
  | _ => false
def isTup : Expr → Bool
  | .Tuple .. => true
  | _ => false
def itB (names : List (Str × NameKind)) (k : Ik) (tg iter : Expr) (n : Nat) (ck : List Expr → Bool) : Bool := match k, iter with
  | .seq, x => (n == 1) && ck [x]
  | .rng, .Call (.Name y _) xs [] _ => decide (y = "range") && glB names "range" && (n == 1 && xs.length == 1 || n == 2 && xs.length == 2 || n == 3 && xs.length == 3) && ck xs
  | .rvr, .Call (.Name y _) [.Call (.Name z _) xs [] _] [] _ => decide (y = "reversed") && glB names "reversed" && decide (z = "range") && glB names "range" && (n == 1 && xs.length == 1) && ck xs
  | .enum, .Call (.Name y _) xs [] _ => decide (y = "enumerate") && glB names "enumerate" && isTup tg && (n == 1 && xs.length == 1) && ck xs
  | .zip, .Call (.Name y _) xs [] _ => decide (y = "zip") && glB names "zip" && isTup tg && (n == 2 && xs.length == 2) && ck xs
  | .rev, .Call (.Name y _) xs [] _ => decide (y = "reversed") && glB names "reversed" && (n == 1 && xs.length == 1) && ck xs
  | _, _ => false
def isFn : Option PV → Bool
  | some (.fn _) => true
  | _ => false
def isMk (T : Tb) : Option PV → Bool
  | some (.cls c) => ((T.cls[c]?).bind (·.init)).isSome
  | _ => false
section
variable (T : Tb) (nm : Nm)
mutual
def chkX (fx : Fx) : Ex → Expr → Bool
  | .var i, x => chkE nm fx (.var i) x
  | .con v, .Constant c _ _ => conOk v c
  | .glob g, x => chkE nm fx (.glob g) x
  | .bty f, .Name x _ => btyB fx.names f x
  | .bin op a b, .BinOp x o y _ => opB op o && chkX fx a x && chkX fx b y
  | .neg a, .UnaryOp .USub x _ => chkX fx a x
  | .not a, .UnaryOp .Not x _ => chkX fx a x
  | .and a b, .BoolOp .And (x :: y :: r) p => chkX fx a x && (match r with
      | [] => chkX fx b y
      | z :: r => chkX fx b (.BoolOp .And (y :: z :: r) p))
  | .or a b, .BoolOp .Or (x :: y :: r) p => chkX fx a x && (match r with
      | [] => chkX fx b y
      | z :: r => chkX fx b (.BoolOp .Or (y :: z :: r) p))
  | .cmp op a b, .Compare x [o] [y] _ => cpB op o && noSet y && chkX fx a x && chkX fx b y
  | .chn o1 o2 a b c, .Compare x [p1, p2] [y, z] _ => cpB o1 p1 && cpB o2 p2 && noSet y && noSet z && chkX fx a x && chkX fx b y && chkX fx c z
  | .ife c a b, .IfExp z x y _ => chkX fx c z && chkX fx a x && chkX fx b y
  | .tup es, .Tuple xs _ _ => chkDs fx es xs
  | .lst es, .List xs _ => chkDs fx es xs
  | .lno m o, .Call (.Name x _) [xo] [] _ => decide (x = "len") && glB fx.names "len" && decide (nm.an[m]? = some "__len__") && chkX fx o xo
  | .lc2 e own t k its ifs own1 t1 k1 its1 ifs1, .ListComp elt [⟨tg, iter, xifs, 0⟩, ⟨tg1, iter1, xifs1, 0⟩] sc _ => blkC fx.N (scOf fx) sc (ownsOf fx own) && (tgIs t).all (fun i => own.contains i) && (tgIs t1).all (fun i => own1.contains i) && own1.all (fun i => own.contains i) && chkTg (fxB fx sc) t tg && chkTg (fxB fx sc) t1 tg1 && noSet iter && noSet iter1 && itB fx.names k tg iter its.length (fun xs => chkXs fx its xs) && itB (fxB fx sc).names k1 tg1 iter1 its1.length (fun xs => chkXs (fxB fx sc) its1 xs) && decide (xifs.length ≤ 1) && decide (xifs1.length ≤ 1) && chkXs (fxB fx sc) ifs xifs && chkXs (fxB fx sc) ifs1 xifs1 && chkX (fxB fx sc) e elt
  | .ix o i, .Subscript x y _ => !isSlice y && chkX fx o x && chkX fx i y
  | .sl o lo hi, .Subscript x (.Slice l u none _) _ => chkX fx o x && (match l with
      | none => isNop lo
      | some e => !isNop lo && chkX fx lo e) && (match u with
      | none => isNop hi
      | some e => !isNop hi && chkX fx hi e)
  | .call g es, .Call (.Name x _) xs [] _ => decide (nm.gn[g]? = some x) && glB fx.names x && plainName x && (isFn T.glob[g]? || isMk T T.glob[g]?) && chkXs fx es xs
  | .bi f es, .Call (.Name x _) xs [] _ => decide (x = f.nm) && glB fx.names x && !xs.isEmpty && chkXs fx es xs
  | .mt m b o es, .Call (.Attribute xo name ap) xs [] pos => (if notNone b then decide (name = b.nm) else decide (nm.an[m]? = some name)) && baseB xo && (ap.endLine == pos.line) && decide (xs.length < 29) && chkX fx o xo && chkXs fx es xs
  | .dsp, .Dict [] [] _ => true
  | .lz es, .Call (.Name x _) [.Call (.Name y _) xs [] _] [] _ => decide (x = "list") && glB fx.names "list" && decide (y = "zip") && glB fx.names "zip" && decide (xs.length = 2) && chkXs fx es xs
  | .callv i es, .Call (.Name x _) xs [] _ => decide (fx.N[i]? = some x) && visB fx.names x && plainName x && !xs.isEmpty && chkXs fx es xs
  | .att o f, .Attribute xo n _ => decide (nm.an[f]? = some n) && baseB xo && chkX fx o xo
  | .lc e own t k its ifs, .ListComp elt [⟨tg, iter, xifs, 0⟩] sc _ => blkC fx.N (scOf fx) sc (ownsOf fx own) && (tgIs t).all (fun i => own.contains i) && chkTg (fxB fx sc) t tg && noSet iter && itB fx.names k tg iter its.length (fun xs => chkXs fx its xs) && decide (xifs.length ≤ 1) && chkXs (fxB fx sc) ifs xifs && chkX (fxB fx sc) e elt
  | _, _ => false
def chkXs (fx : Fx) : List Ex → List Expr → Bool
  | [], [] => true
  | e :: es, x :: xs => chkX fx e x && chkXs fx es xs
  | _, _ => false
def chkDs (fx : Fx) : List Ex → List Expr → Bool
  | [], [] => true
  | .star e :: es, .Starred x _ :: xs => chkX fx e x && chkDs fx es xs
  | e :: es, x :: xs => chkX fx e x && chkDs fx es xs
  | _, _ => false
end
end
section
variable (G : Gm) (T : Tb) (nm : Nm) (call : Nat → List PV → PH → Res PV)
structure CE (fx : Fx) (e : Ex) (x : Expr) : Prop where
  ns : isStar x = false
  ne : ∀ y, e ≠ .star y
  pe : ∀ X E, XOk G T nm call fx X E → PE X x (tE G E (evE T call e))
  pt : ∀ X E, XOk G T nm call fx X E → PT X x (tT G E (evT T call e))
  pw : ∀ X E, XOk G T nm call fx X E → isBoolOp x = true → PW X x (tT G E (evT T call e))
structure CEs (fx : Fx) (es : List Ex) (xs : List Expr) : Prop where
  len : es.length = xs.length
  ns : xs.all (fun x => !isStar x) = true
  ne : ∀ e ∈ es, ∀ y, e ≠ .star y
  pa : ∀ X E, XOk G T nm call fx X E → PA X xs (tA G E (evEs T call es))
  one : ∀ e x, es = [e] → xs = [x] → CE G T nm call fx e x
end
section
variable {G : Gm} {T : Tb} {nm : Nm} {call : Nat → List PV → PH → Res PV} {fx : Fx}
def isPlainT : Expr → Bool
  | .UnaryOp .Not _ _ => false
  | .BoolOp .. => false
  | .IfExp .. => false
  | .Compare .. => false
  | _ => true
theorem plainT_ok {x : Expr} {env : Env} (h : isPlainT x = true) : ∀ whole, isTrue x env whole = (do let v ← whole; standAt x.pos; holding [v] (truthy v)) := fun whole => by
  unfold PySem.isTrue
  split <;> first | rfl | cases h
theorem CE.val {e : Ex} {x : Expr} (ns : isStar x = false) (ne : ∀ y, e ≠ .star y) (pl : isPlainT x = true) (pe : ∀ X E, XOk G T nm call fx X E → PE X x (tE G E (evE T call e))) : CE G T nm call fx e x where
  ns := ns
  ne := ne
  pe := pe
  pt := fun X E O => okT_of O (pe X E O) (plainT_ok pl)
  pw := fun X E O hb => by cases x <;> first | exact Bool.noConfusion (show false = true from hb) | exact Bool.noConfusion (show false = true from pl)
theorem okI_by {k : Ik} {tg iter : Expr} {its : List Ex} {ck : List Expr → Bool} (h : itB fx.names k tg iter its.length ck = true) (hck : ∀ xs, ck xs = true → CEs G T nm call fx its xs) {X : Cx} {E : XK} (O : XOk G T nm call fx X E) : PI X tg iter (tI G E (evI T call k its)) := by
  unfold itB at h
  split at h
  · rename_i x
    simp only [Bool.and_eq_true, beq_iff_eq] at h
    match its, h with
    | [e], h => exact okI_seq O ((hck _ h.2).ne e (by simp)) (((hck _ h.2).one e _ rfl rfl).pe X E O)
  · rename_i y q xs pos
    simp only [Bool.and_eq_true, Bool.or_eq_true, beq_iff_eq, decide_eq_true_eq] at h
    obtain ⟨⟨⟨rfl, hg⟩, hl⟩, hc⟩ := h
    have c := hck _ hc
    have cn := c.ns
    rcases hl with (⟨h1, h2⟩ | ⟨h1, h2⟩) | ⟨h1, h2⟩
    · match its, xs, h1, h2, c, cn with
      | [e], [x], _, _, c, cn => exact okI_rng1 O (c.ne e (by simp)) (by simpa using cn) hg (c.pa X E O)
    · match its, xs, h1, h2, c, cn with
      | [e, e2], [x, x2], _, _, c, cn =>
        have cn' : isStar x = false ∧ isStar x2 = false := by simpa using cn
        exact okI_rng2 O (c.ne e (by simp)) (c.ne e2 (by simp)) cn'.1 cn'.2 hg (c.pa X E O)
    · match its, xs, h1, h2, c, cn with
      | [e, e2, e3], [x, x2, x3], _, _, c, cn =>
        have cn' : isStar x = false ∧ isStar x2 = false ∧ isStar x3 = false := by simpa using cn
        exact okI_rng3 O (c.ne e (by simp)) (c.ne e2 (by simp)) (c.ne e3 (by simp)) cn'.1 cn'.2.1 cn'.2.2 hg (c.pa X E O)
  · rename_i y q z q2 xs pos2 pos
    simp only [Bool.and_eq_true, beq_iff_eq, decide_eq_true_eq] at h
    obtain ⟨⟨⟨⟨⟨rfl, hg2⟩, rfl⟩, hg⟩, h1, h2⟩, hc⟩ := h
    have c := hck _ hc
    have cn := c.ns
    match its, xs, h1, h2, c, cn with
    | [e], [x], _, _, c, cn => exact okI_rvr O (c.ne e (by simp)) (by simpa using cn) hg hg2 ((c.one e x rfl rfl).pe X E O)
  · rename_i y q xs pos
    simp only [Bool.and_eq_true, beq_iff_eq, decide_eq_true_eq] at h
    obtain ⟨⟨⟨⟨rfl, hg⟩, ht⟩, h1, h2⟩, hc⟩ := h
    have c := hck _ hc
    have cn := c.ns
    cases tg with
    | Tuple elts kk tp =>
      match its, xs, h1, h2, c, cn with
      | [e], [x], _, _, c, cn => exact okI_enum O (c.ne e (by simp)) (by simpa using cn) hg (c.pa X E O)
    | _ => cases ht
  · rename_i y q xs pos
    simp only [Bool.and_eq_true, beq_iff_eq, decide_eq_true_eq] at h
    obtain ⟨⟨⟨⟨rfl, hg⟩, ht⟩, h1, h2⟩, hc⟩ := h
    have c := hck _ hc
    have cn := c.ns
    cases tg with
    | Tuple elts kk tp =>
      match its, xs, h1, h2, c, cn with
      | [e, e2], [x, x2], _, _, c, cn =>
        have cn' : isStar x = false ∧ isStar x2 = false := by simpa using cn
        exact okI_zip O (c.ne e (by simp)) (c.ne e2 (by simp)) cn'.1 cn'.2 hg (c.pa X E O)
    | _ => cases ht
  · rename_i y q xs pos
    simp only [Bool.and_eq_true, beq_iff_eq, decide_eq_true_eq] at h
    obtain ⟨⟨⟨rfl, hg⟩, h1, h2⟩, hc⟩ := h
    have c := hck _ hc
    have cn := c.ns
    match its, xs, h1, h2, c, cn with
    | [e], [x], _, _, c, cn => exact okI_rev O (c.ne e (by simp)) (by simpa using cn) hg (c.pa X E O)
  · cases h
theorem okTs_le {es : List Ex} {xs : List Expr} (c : CEs G T nm call fx es xs) (hl : xs.length ≤ 1) {X : Cx} {E : XK} (O : XOk G T nm call fx X E) : PTs X xs (tT G E (evIf T call es)) := by
  have ln := c.len
  cases xs with
  | nil =>
    cases es with
    | nil => exact okTs_nil
    | cons e es => simp at ln
  | cons x xs =>
    cases xs with
    | nil =>
      cases es with
      | nil => simp at ln
      | cons e es =>
        cases es with
        | nil => exact okTs_one ((c.one e x rfl rfl).pt X E O)
        | cons e2 es => simp at ln
    | cons y ys => simp at hl
end
end Mn
set_option Elab.async false
set_option linter.all false
set_option maxRecDepth 100000
set_option maxHeartbeats 8000000
namespace Mn
open PySem PySem.Spec L2 PyProof.Rows
section
variable {G : Gm} {T : Tb} {nm : Nm} {call : Nat → List PV → PH → Res PV}
theorem okT_ife {fx : Fx} {X : Cx} {E : XK} (O : XOk G T nm call fx X E) {c a b : Ex} {z x y : Expr} {p : Pos} (hc : PT X z (tT G E (evT T call c))) (ha : PT X x (tT G E (evT T call a))) (hb : PT X y (tT G E (evT T call b))) : PT X (.IfExp z x y p) (tT G E (evT T call (.ife c a b))) := by
  refine ⟨fun pins s σ H Q I ⟨as, ρ, h, S, R, o⟩ => ?_⟩
  have e : evT T call (.ife c a b) ρ h = (evT T call c ρ h).bind fun t h1 => if t then evT T call a ρ h1 else evT T call b ρ h1 := by
    simp only [evT, evE, Res.bind_assoc]
    congr 1
    funext v h1
    cases e : pTru h1 v with
    | none => rfl
    | some t => cases t <;> rfl
  rw [e] at o
  have e2 : ∀ w, PySem.isTrue (.IfExp z x y p) X.env w = (do
    if ← PySem.isTrue z X.env (eval z X.env) then PySem.isTrue x X.env (eval x X.env) else PySem.isTrue y X.env (eval y X.env)) := fun w => by conv => lhs; unfold PySem.isTrue
  rw [e2]
  refine wpAny_bind (thn (hc.run pins s σ H (fun t H1 => ∃ as1 h1, SR G as1 H1 h1 ∧ RepE G as1 H1 ρ σ ∧ OkB G E as1 H1 Q (if t then evT T call a ρ h1 else evT T call b ρ h1)) I ⟨as, ρ, h, S, R, Ok.bind o fun t h1 as1 H1 t' f1 et o1 => ?_⟩) fun d s1 ⟨H1, I1, as1, h1, S1, R1, o1⟩ => ?_)
  · subst et
    exact ⟨as1, h1, f1.sr, R.fut f1, o1⟩
  · cases d with
    | true => exact ha.run pins s1 σ H1 Q I1 ⟨as1, ρ, h1, S1, R1, o1⟩
    | false => exact hb.run pins s1 σ H1 Q I1 ⟨as1, ρ, h1, S1, R1, o1⟩
theorem pN {o : Option Expr} (h : (match o with | none => true | some _ => false) = true) : o = none := by cases o <;> first | rfl | cases h
mutual
theorem okX : ∀ (e : Ex) (fx : Fx) (x : Expr), chkX T nm fx e x = true → CE G T nm call fx e x
  | .var i, fx, x, h => by
    cases x with
    | Name y p => exact .val rfl (fun _ e => (nomatch e)) rfl fun X E O => okE_var O h
    | _ => cases h
  | .con v, fx, x, h => by
    cases x with
    | Constant c j p => exact .val rfl (fun _ e => (nomatch e)) rfl fun X E O => okE_con h
    | _ => cases h
  | .glob g, fx, x, h => by
    cases x with
    | Name y p => exact .val rfl (fun _ e => (nomatch e)) rfl fun X E O => okE_glob O h
    | _ => cases h
  | .bty f, fx, x, h => by
    cases x with
    | Name y p => exact .val rfl (fun _ e => (nomatch e)) rfl fun X E O => okE_bty O h
    | _ => cases h
  | .bin op a b, fx, x, h => by
    cases x with
    | BinOp x o y p =>
      simp only [chkX, Bool.and_eq_true] at h
      obtain ⟨⟨ho, ha⟩, hb⟩ := h
      obtain rfl := opB_ok ho
      have ca := okX a fx x ha
      have cb := okX b fx y hb
      exact .val rfl (fun _ e => (nomatch e)) rfl fun X E O => okE_bin O (ca.pe X E O) (cb.pe X E O)
    | _ => cases h
  | .neg a, fx, x, h => by
    cases x with
    | UnaryOp o y p =>
      cases o with
      | USub =>
        have ca := okX a fx y h
        exact .val rfl (fun _ e => (nomatch e)) rfl fun X E O => okE_neg (ca.pe X E O)
      | _ => cases h
    | _ => cases h
  | .not a, fx, x, h => by
    cases x with
    | UnaryOp o y p =>
      cases o with
      | Not =>
        have ca := okX a fx y h
        exact { ns := rfl, ne := fun _ e => (nomatch e), pe := fun X E O => okE_not O (ca.pe X E O), pt := fun X E O => okT_not (ca.pt X E O), pw := fun X E O hb => (nomatch hb) }
      | _ => cases h
    | _ => cases h
  | .and a b, fx, x, h => by
    cases x with
    | BoolOp o xs p =>
      cases o with
      | And =>
        match xs, h with
        | [x, y], h =>
          simp only [chkX, Bool.and_eq_true] at h
          have ca := okX a fx x h.1
          have cb := okX b fx y h.2
          exact { ns := rfl, ne := fun _ e => (nomatch e), pe := fun X E O => okE_and O (ca.pe X E O) (pe_one (cb.pe X E O)), pt := fun X E O => (okT_and (ca.pt X E O) (pw_and1 (cb.pt X E O))).pt, pw := fun X E O _ => okT_and (ca.pt X E O) (pw_and1 (cb.pt X E O)) }
        | x :: y :: z :: r, h =>
          simp only [chkX, Bool.and_eq_true] at h
          have ca := okX a fx x h.1
          have cb := okX b fx (.BoolOp .And (y :: z :: r) p) h.2
          exact { ns := rfl, ne := fun _ e => (nomatch e), pe := fun X E O => okE_and O (ca.pe X E O) (cb.pe X E O), pt := fun X E O => (okT_and (ca.pt X E O) (cb.pw X E O rfl)).pt, pw := fun X E O _ => okT_and (ca.pt X E O) (cb.pw X E O rfl) }
      | _ => cases h
    | _ => cases h
  | .or a b, fx, x, h => by
    cases x with
    | BoolOp o xs p =>
      cases o with
      | Or =>
        match xs, h with
        | [x, y], h =>
          simp only [chkX, Bool.and_eq_true] at h
          have ca := okX a fx x h.1
          have cb := okX b fx y h.2
          exact { ns := rfl, ne := fun _ e => (nomatch e), pe := fun X E O => okE_or O (ca.pe X E O) (pe_one (cb.pe X E O)), pt := fun X E O => (okT_or (ca.pt X E O) (pw_or1 (cb.pt X E O))).pt, pw := fun X E O _ => okT_or (ca.pt X E O) (pw_or1 (cb.pt X E O)) }
        | x :: y :: z :: r, h =>
          simp only [chkX, Bool.and_eq_true] at h
          have ca := okX a fx x h.1
          have cb := okX b fx (.BoolOp .Or (y :: z :: r) p) h.2
          exact { ns := rfl, ne := fun _ e => (nomatch e), pe := fun X E O => okE_or O (ca.pe X E O) (cb.pe X E O), pt := fun X E O => (okT_or (ca.pt X E O) (cb.pw X E O rfl)).pt, pw := fun X E O _ => okT_or (ca.pt X E O) (cb.pw X E O rfl) }
      | _ => cases h
    | _ => cases h
  | .cmp op a b, fx, x, h => by
    cases x with
    | Compare x os ys p =>
      match os, ys, h with
      | [o], [y], h =>
        simp only [chkX, Bool.and_eq_true] at h
        obtain ⟨⟨⟨ho, hs⟩, ha⟩, hb⟩ := h
        obtain rfl := cpB_ok ho
        have ca := okX a fx x ha
        have cb := okX b fx y hb
        exact { ns := rfl, ne := fun _ e => (nomatch e), pe := fun X E O => okE_cmp O hs (ca.pe X E O) (cb.pe X E O), pt := fun X E O => okT_cmp O hs (ca.pe X E O) (cb.pe X E O), pw := fun X E O hb => (nomatch hb) }
    | _ => cases h
  | .chn o1 o2 a b c, fx, x, h => by
    cases x with
    | Compare x os ys p =>
      match os, ys, h with
      | [p1, p2], [y, z], h =>
        simp only [chkX, Bool.and_eq_true] at h
        obtain ⟨⟨⟨⟨⟨⟨h1, h2⟩, _⟩, hz⟩, ha⟩, hb⟩, hc⟩ := h
        obtain rfl := cpB_ok h1
        obtain rfl := cpB_ok h2
        have ca := okX a fx x ha
        have cb := okX b fx y hb
        have cc := okX c fx z hc
        exact { ns := rfl, ne := fun _ e => (nomatch e), pe := fun X E O => okE_chn O hz (ca.pe X E O) (cb.pe X E O) (cc.pe X E O), pt := fun X E O => okT_chn O hz (ca.pe X E O) (cb.pe X E O) (cc.pe X E O), pw := fun X E O hb => (nomatch hb) }
    | _ => cases h
  | .ife c a b, fx, x, h => by
    cases x with
    | IfExp z x y p =>
      simp only [chkX, Bool.and_eq_true] at h
      have cc := okX c fx z h.1.1
      have ca := okX a fx x h.1.2
      have cb := okX b fx y h.2
      exact { ns := rfl, ne := fun _ e => (nomatch e), pe := fun X E O => okE_ife O (cc.pt X E O) (ca.pe X E O) (cb.pe X E O), pt := fun X E O => okT_ife O (cc.pt X E O) (ca.pt X E O) (cb.pt X E O), pw := fun X E O hb => (nomatch hb) }
    | _ => cases h
  | .tup es, fx, x, h => by
    cases x with
    | Tuple xs k p =>
      have c := okDs es fx xs h
      exact .val rfl (fun _ e => (nomatch e)) rfl fun X E O => okE_tup (c X E O)
    | _ => cases h
  | .lst es, fx, x, h => by
    cases x with
    | List xs p =>
      have c := okDs es fx xs h
      exact .val rfl (fun _ e => (nomatch e)) rfl fun X E O => okE_lst (c X E O)
    | _ => cases h
  | .ix o i, fx, x, h => by
    cases x with
    | Subscript x y p =>
      simp only [chkX, Bool.and_eq_true, Bool.not_eq_true'] at h
      have h' := h
      have ca := okX o fx x h'.1.2
      have cb := okX i fx y h'.2
      exact .val rfl (fun _ e => (nomatch e)) rfl fun X E O => okE_ix O h'.1.1 (ca.pe X E O) (cb.pe X E O)
    | _ => cases h
  | .sl o lo hi, fx, x, h => by
    cases x with
    | Subscript x y p =>
      cases y with
      | Slice l u st p2 =>
        cases st with
        | none =>
          simp only [chkX, Bool.and_eq_true] at h
          have co := okX o fx x h.1.1
          have kl : ∀ X E, XOk G T nm call fx X E → L2.PO X l (tO G E fun ρ h => partR lo (evE T call lo ρ h) h) := by
            cases l with
            | none =>
              have hn : lo = .nop := by
                have := h.1.2
                revert this
                cases lo <;> intro this <;> first | rfl | cases this
              subst hn
              exact fun X E O => okP_none
            | some e =>
              have h1 : isNop lo = false ∧ chkX T nm fx lo e = true := by simpa using h.1.2
              have c1 := okX lo fx e h1.2
              exact fun X E O => okP_some h1.1 (c1.pe X E O)
          have ku : ∀ X E, XOk G T nm call fx X E → L2.PO X u (tO G E fun ρ h => partR hi (evE T call hi ρ h) h) := by
            cases u with
            | none =>
              have hn : hi = .nop := by
                have := h.2
                revert this
                cases hi <;> intro this <;> first | rfl | cases this
              subst hn
              exact fun X E O => okP_none
            | some e =>
              have h1 : isNop hi = false ∧ chkX T nm fx hi e = true := by simpa using h.2
              have c1 := okX hi fx e h1.2
              exact fun X E O => okP_some h1.1 (c1.pe X E O)
          exact .val rfl (fun _ e => (nomatch e)) rfl fun X E O => okE_sl O (co.pe X E O) (kl X E O) (ku X E O)
        | some _ => cases h
      | _ => cases h
    | _ => cases h
  | .call g es, fx, x, h => by
    cases x with
    | Call f xs ks p =>
      cases f with
      | Name y q =>
        cases ks with
        | nil =>
          simp only [chkX, Bool.and_eq_true, decide_eq_true_eq] at h
          obtain ⟨⟨⟨⟨hg, hb⟩, hp⟩, hf⟩, hc⟩ := h
          have c := okXs es fx xs hc
          rw [Bool.or_eq_true] at hf
          rcases hf with hf | hf
          · have ⟨f, hf'⟩ : ∃ f, T.glob[g]? = some (.fn f) := by
              unfold isFn at hf
              split at hf
              · rename_i f q; exact ⟨f, q⟩
              · cases hf
            cases xs with
            | nil =>
              have e0 : es = [] := List.eq_nil_of_length_eq_zero c.len
              subst e0
              exact .val rfl (fun _ e => (nomatch e)) rfl fun X E O => okE_call0 O hg hf' hb hp
            | cons z zs =>
              have cn := c.ns
              simp only [List.all_cons, Bool.and_eq_true, Bool.not_eq_true'] at cn
              exact .val rfl (fun _ e => (nomatch e)) rfl fun X E O => okE_call O hg hf' hb hp cn.1 cn.2 (c.pa X E O)
          · have ⟨cc, f, hf', hi⟩ : ∃ cc f, T.glob[g]? = some (.cls cc) ∧ (T.cls[cc]?).bind (·.init) = some f := by
              unfold isMk at hf
              split at hf
              · rename_i cc q
                obtain ⟨f, hf⟩ := Option.isSome_iff_exists.mp hf
                exact ⟨cc, f, q, hf⟩
              · cases hf
            exact .val rfl (fun _ e => (nomatch e)) rfl fun X E O => okE_make O hg hf' hi hb hp c.ns c.len (c.pa X E O)
        | cons _ _ => cases h
      | _ => cases h
    | _ => cases h
  | .bi f es, fx, x, h => by
    cases x with
    | Call g xs ks p =>
      cases g with
      | Name y q =>
        cases ks with
        | nil =>
          simp only [chkX, Bool.and_eq_true, decide_eq_true_eq] at h
          obtain ⟨⟨⟨rfl, hb⟩, hne⟩, hc⟩ := h
          have c := okXs es fx xs hc
          cases xs with
          | nil => cases hne
          | cons z zs =>
            have cn := c.ns
            simp only [List.all_cons, Bool.and_eq_true, Bool.not_eq_true'] at cn
            exact .val rfl (fun _ e => (nomatch e)) rfl fun X E O => okE_bi O hb (c.pa X E O) cn.1 cn.2
        | cons _ _ => cases h
      | _ => cases h
    | _ => cases h
  | .mt m b o es, fx, x, h => by
    cases x with
    | Call g xs ks p =>
      cases g with
      | Attribute xo name ap =>
        cases ks with
        | nil =>
          simp only [chkX, Bool.and_eq_true, decide_eq_true_eq] at h
          obtain ⟨⟨⟨⟨⟨hnb, hba⟩, hl⟩, h30⟩, ho⟩, hc⟩ := h
          have co := okX o fx xo ho
          have c := okXs es fx xs hc
          by_cases hb : notNone b = true
          · rw [if_pos hb] at hnb
            have hnb := of_decide_eq_true hnb
            subst hnb
            cases xs with
            | nil =>
              have e0 : es = [] := List.eq_nil_of_length_eq_zero c.len
              subst e0
              exact .val rfl (fun _ e => (nomatch e)) rfl fun X E O => okE_mt0 O hb (co.pe X E O) (base_ok hba) hl
            | cons z zs => exact .val rfl (fun _ e => (nomatch e)) rfl fun X E O => okE_mt O hb (co.pe X E O) (c.pa X E O) (base_ok hba) c.ns h30 hl
          · rw [if_neg hb] at hnb
            have hn := of_decide_eq_true hnb
            have hbn : b = .none := by cases b <;> first | rfl | exact absurd rfl hb
            subst hbn
            exact .val rfl (fun _ e => (nomatch e)) rfl fun X E O => okE_meth O hn (co.pe X E O) (c.pa X E O) (base_ok hba) c.ns h30 hl c.len
        | cons _ _ => cases h
      | _ => cases h
    | _ => cases h
  | .lc e own t k its ifs, fx, x, h => by
    cases x with
    | ListComp elt gs sc p =>
      match gs, h with
      | [⟨tg, iter, xifs, 0⟩], h =>
        simp only [chkX, Bool.and_eq_true, decide_eq_true_eq] at h
        obtain ⟨⟨⟨⟨⟨⟨⟨hb, hown⟩, htg⟩, hns⟩, hit⟩, hl⟩, hifs⟩, he⟩ := h
        have ce := okX e (fxB fx sc) elt he
        have ci := okXs ifs (fxB fx sc) xifs hifs
        have cits : ∀ xs, chkXs T nm fx its xs = true → CEs G T nm call fx its xs := fun xs hx => okXs its fx xs hx
        refine .val rfl (fun _ e => (nomatch e)) rfl fun X E O => okE_lc O (okI_by hit cits O) hb (fun i hi => ?_) (fun X' O' => okG_tg O' htg) (fun X' O' => okTs_le ci hl O') (fun X' O' => ce.pe X' E0 O') hns
        have := List.all_eq_true.mp hown i hi
        simpa using this
    | _ => cases h
  | .lz es, fx, x, h => by
    cases x with
    | Call f xs ks p =>
      cases f with
      | Name y q =>
        match xs, ks, h with
        | [.Call (.Name y2 q2) zs [] p2], [], h =>
          simp only [chkX, Bool.and_eq_true, decide_eq_true_eq] at h
          obtain ⟨⟨⟨⟨⟨rfl, h2⟩, rfl⟩, h4⟩, h5⟩, h6⟩ := h
          have c := okXs es fx zs h6
          have cn := c.ns
          match zs, h5, c, cn with
          | [z1, z2], _, c, cn =>
            have cn' : isStar z1 = false ∧ isStar z2 = false := by simpa using cn
            exact .val rfl (fun _ e => (nomatch e)) rfl fun X E O => okE_lz O cn'.1 cn'.2 h2 h4 (c.pa X E O)
      | _ => cases h
    | _ => cases h
  | .lno m o, fx, x, h => by
    cases x with
    | Call f xs ks p =>
      cases f with
      | Name y q =>
        match xs, ks, h with
        | [xo], [], h =>
          simp only [chkX, Bool.and_eq_true, decide_eq_true_eq] at h
          obtain ⟨⟨⟨rfl, h2⟩, h3⟩, h4⟩ := h
          have co := okX o fx xo h4
          exact .val rfl (fun _ e => (nomatch e)) rfl fun X E O => okE_lno O h3 h2 co.ns co.ne (co.pe X E O)
      | _ => cases h
    | _ => cases h
  | .lc2 e own t k its ifs own1 t1 k1 its1 ifs1, fx, x, h => by
    cases x with
    | ListComp elt gs sc p =>
      match gs, h with
      | [⟨tg, iter, xifs, 0⟩, ⟨tg1, iter1, xifs1, 0⟩], h =>
        simp only [chkX, Bool.and_eq_true, decide_eq_true_eq] at h
        obtain ⟨⟨⟨⟨⟨⟨⟨⟨⟨⟨⟨⟨⟨⟨hb, hown⟩, hown1⟩, hsub⟩, htg⟩, htg1⟩, hns⟩, hns1⟩, hit⟩, hit1⟩, hl⟩, hl1⟩, hifs⟩, hifs1⟩, he⟩ := h
        have ce := okX e (fxB fx sc) elt he
        have ci := okXs ifs (fxB fx sc) xifs hifs
        have ci1 := okXs ifs1 (fxB fx sc) xifs1 hifs1
        have cits : ∀ xs, chkXs T nm fx its xs = true → CEs G T nm call fx its xs := fun xs hx => okXs its fx xs hx
        have cits1 : ∀ xs, chkXs T nm (fxB fx sc) its1 xs = true → CEs G T nm call (fxB fx sc) its1 xs := fun xs hx => okXs its1 (fxB fx sc) xs hx
        exact .val rfl (fun _ e => (nomatch e)) rfl fun X E O => okE_lc2 O (okI_by hit cits O) hb (fun i hi => by have := List.all_eq_true.mp hown i hi; simpa using this) (fun i hi => by have := List.all_eq_true.mp hown1 i hi; simpa using this) (fun i hi => by have := List.all_eq_true.mp hsub i hi; simpa using this)
          (fun X' O' => okG_tg O' htg) (fun X' O' => okTs_le ci hl O') (fun X' O' => okI_by hit1 cits1 O') (fun X' O' => okG_tg O' htg1) (fun X' O' => okTs_le ci1 hl1 O') (fun X' O' => ce.pe X' E0 O') hns hns1
    | _ => cases h
  | .star e, fx, x, h => by cases x <;> cases h
  | .nop, fx, x, h => by cases x <;> cases h
  | .att o f, fx, x, h => by
    cases x with
    | Attribute xo n p =>
      simp only [chkX, Bool.and_eq_true, decide_eq_true_eq] at h
      obtain ⟨⟨hn, hba⟩, ho⟩ := h
      have co := okX o fx xo ho
      exact .val rfl (fun _ e => (nomatch e)) rfl fun X E O => okE_att O hn (base_ok hba) (co.pe X E O)
    | _ => cases h
  | .callv i es, fx, x, h => by
    cases x with
    | Call f xs ks p =>
      cases f with
      | Name y q =>
        cases ks with
        | nil =>
          simp only [chkX, Bool.and_eq_true, decide_eq_true_eq] at h
          obtain ⟨⟨⟨⟨hn, hv⟩, hp⟩, hne⟩, hc⟩ := h
          have c := okXs es fx xs hc
          cases xs with
          | nil => cases hne
          | cons z zs =>
            have cn := c.ns
            simp only [List.all_cons, Bool.and_eq_true, Bool.not_eq_true'] at cn
            exact .val rfl (fun _ e => (nomatch e)) rfl fun X E O => okE_callv O hn hv hp cn.1 cn.2 (c.pa X E O)
        | cons _ _ => cases h
      | _ => cases h
    | _ => cases h
  | .dsp, fx, x, h => by
    cases x with
    | Dict ks vs p =>
      match ks, vs, h with
      | [], [], _ => exact .val rfl (fun _ e => (nomatch e)) rfl fun X E O => okE_dsp
    | _ => cases h
  | .repl o y z, fx, x, h => by cases x <;> cases h
  | .never, fx, x, h => by cases x <;> cases h
theorem okXs : ∀ (es : List Ex) (fx : Fx) (xs : List Expr), chkXs T nm fx es xs = true → CEs G T nm call fx es xs
  | [], fx, xs, h => by
    cases xs with
    | nil => exact { len := rfl, ns := rfl, ne := fun _ h => (by simp at h), pa := fun X E O => okA_nil, one := fun e x q => (nomatch q) }
    | cons _ _ => cases h
  | e :: es, fx, xs, h => by
    cases xs with
    | nil => cases h
    | cons x xs =>
      simp only [chkXs, Bool.and_eq_true] at h
      have c := okX e fx x h.1
      have cs := okXs es fx xs h.2
      refine { len := by simp [cs.len], ns := by simp [c.ns, cs.ns], ne := fun e' h' => ?_, pa := fun X E O => okA_cons c.ns c.ne (c.pe X E O) (cs.pa X E O), one := fun e' x' q1 q2 => ?_ }
      · rcases List.mem_cons.mp h' with rfl | h'
        · exact c.ne
        · exact cs.ne e' h'
      · cases q1
        cases q2
        exact c
theorem okDs : ∀ (es : List Ex) (fx : Fx) (xs : List Expr), chkDs T nm fx es xs = true → ∀ X E, XOk G T nm call fx X E → PA X xs (tA G E (evEs T call es))
  | [], fx, xs, h, X, E, O => by
    cases xs with
    | nil => exact okA_nil
    | cons _ _ => cases h
  | e :: es, fx, xs, h, X, E, O => by
    cases xs with
    | nil => cases e <;> cases h
    | cons x xs =>
      by_cases hs : ∃ y, e = .star y
      · obtain ⟨y, rfl⟩ := hs
        cases x with
        | Starred x p =>
          simp only [chkDs, Bool.and_eq_true] at h
          have c := okX y fx x h.1
          exact okA_star O (c.pe X E O) (okDs es fx xs h.2 X E O)
        | _ =>
          simp only [chkDs, Bool.and_eq_true] at h
          exact absurd h.1 (by simp [chkX])
      · have h' : chkX T nm fx e x = true ∧ chkDs T nm fx es xs = true := by
          cases e with
          | star y => exact absurd ⟨y, rfl⟩ hs
          | _ => cases x <;> simpa only [chkDs, Bool.and_eq_true] using h
        have c := okX e fx x h'.1
        exact okA_cons c.ns c.ne (c.pe X E O) (okDs es fx xs h'.2 X E O)
end
end
end Mn
set_option Elab.async false
set_option linter.all false
set_option maxRecDepth 100000
set_option maxHeartbeats 8000000
namespace Mn
open PySem PySem.Spec L2 PyProof.Rows
def isName : Expr → Bool
  | .Name .. => true
  | _ => false
section
variable (T : Tb) (nm : Nm)
def nmB (fx : Fx) (tg x : Expr) (l : Nat) : Bool := match tg, x with
  | .Name y py, .ListComp _ [_] sc pos => locB fx.names y && lcLine y py pos sc l
  | _, x => !isComp x
def tpB (fx : Fx) (is : List Nat) (ts : List Expr) (e : Ex) (x : Expr) : Bool := match is, ts, e, x with
  | [i, j], [.Name y py, .Name z pz], .tup es, .Tuple [a, b] _ _ => decide (fx.N[i]? = some y) && decide (fx.N[j]? = some z) && par2B fx.names y z py pz a b && chkXs T nm fx es [a, b]
  | [i, j, l], [.Name y py, .Name z pz, .Name u pu], .tup es, .Tuple [a, b, c] _ _ => decide (fx.N[i]? = some y) && decide (fx.N[j]? = some z) && decide (fx.N[l]? = some u) && par3B fx.names y z u py pz pu a b c && chkXs T nm fx es [a, b, c]
  | _, _, _, _ => false
def augB : Bop → Bool
  | .add => true
  | .sub => true
  | _ => false
mutual
def chkS (fx : Fx) : Sm → Stmt → Bool
  | .pass, .Pass _ => true
  | .brk, .Break _ => true
  | .cnt, .Continue _ => true
  | .retn, .Return none _ => true
  | .never, _ => true
  | .ret e, .Return (some x) _ => chkX T nm fx e x
  | .ex e, .Expr x _ => !isComp x && chkX T nm fx e x
  | .ite c a b, .If z xa xb _ => chkX T nm fx c z && chkSs fx a xa && chkSs fx b xb
  | .wh c b, .While z xb [] _ => chkX T nm fx c z && chkSs fx b xb
  | .for_ t k its b, .For tg iter xb [] _ => chkTg fx t tg && noSet iter && itB fx.names k tg iter its.length (fun xs => chkXs T nm fx its xs) && chkSs fx b xb
  | .asg (.nm i) e, .Assign [tg] x p => chkNm fx i tg && nmB fx tg x p.line && chkX T nm fx e x
  | .asg (.tp is) e, .Assign [.Tuple ts _ _] x _ => (swNone x && chkNms fx is ts && chkX T nm fx e x) || tpB T nm fx is ts e x
  | .asg (.ix o i) e, .Assign [.Subscript xo xi _] x _ => !isSlice xi && chkX T nm fx o xo && chkX T nm fx i xi && chkX T nm fx e x
  | .asg (.sl o lo hi) e, .Assign [.Subscript xo (.Slice l u none _) _] x _ => chkX T nm fx o xo && (match l with
      | none => isNop lo
      | some z => !isNop lo && chkX T nm fx lo z) && (match u with
      | none => isNop hi
      | some z => !isNop hi && chkX T nm fx hi z) && chkX T nm fx e x
  | .asg (.att o f) e, .Assign [.Attribute xo n _] x _ => decide (nm.an[f]? = some n) && chkX T nm fx o xo && chkX T nm fx e x
  | .aug (.att o f) op e, .AugAssign (.Attribute xo n _) ol x _ => augB op && opB op ol && decide (nm.an[f]? = some n) && chkX T nm fx o xo && chkX T nm fx e x
  | .aug (.nm i) op e, .AugAssign tg o x _ => augB op && opB op o && isName tg && chkNm fx i tg && chkX T nm fx e x
  | _, _ => false
def chkSs (fx : Fx) : List Sm → List Stmt → Bool
  | [], [] => true
  | s :: r, x :: xs => chkS fx s x && chkSs fx r xs
  | _, _ => false
end
end
section
variable {G : Gm} {T : Tb} {nm : Nm} {call : Nat → List PV → PH → Res PV} {W : Nat}
theorem okS_ret' {fx : Fx} {X : Cx} {E : XK} (O : XOk G T nm call fx X E) (po : PassesOwn (model X.prog X.w) X.A X.env X.xe) {t : Tg} {k : Ik} {its : List Ex} : True := trivial
mutual
theorem okS : ∀ (s : Sm) (fx : Fx) (x : Stmt), chkS T nm fx s x = true → ∀ X E, XOk G T nm call fx X E → PassesOwn (model X.prog X.w) X.A X.env X.xe → PS X x (tS G E (exS T call W s))
  | .pass, fx, x, h, X, E, O, po => by
    cases x with
    | Pass p => exact okS_pass
    | _ => cases h
  | .brk, fx, x, h, X, E, O, po => by
    cases x with
    | Break p => exact okS_brk
    | _ => cases h
  | .cnt, fx, x, h, X, E, O, po => by
    cases x with
    | Continue p => exact okS_cnt
    | _ => cases h
  | .retn, fx, x, h, X, E, O, po => by
    cases x with
    | Return o p =>
      cases o with
      | none => exact okS_retn
      | some _ => cases h
    | _ => cases h
  | .never, fx, x, h, X, E, O, po => okS_never
  | .ret e, fx, x, h, X, E, O, po => by
    cases x with
    | Return o p =>
      cases o with
      | none => cases h
      | some x => exact okS_ret ((okX e fx x h).pe X E O)
    | _ => cases h
  | .ex e, fx, x, h, X, E, O, po => by
    cases x with
    | Expr x p =>
      simp only [chkS, Bool.and_eq_true, Bool.not_eq_true'] at h
      exact okS_ex h.1 ((okX e fx x h.2).pe X E O)
    | _ => cases h
  | .ite c a b, fx, x, h, X, E, O, po => by
    cases x with
    | If z xa xb p =>
      simp only [chkS, Bool.and_eq_true] at h
      exact okS_ite ((okX c fx z h.1.1).pt X E O) (okSs a fx xa h.1.2 X E O po) (okSs b fx xb h.2 X E O po)
    | _ => cases h
  | .wh c b, fx, x, h, X, E, O, po => by
    cases x with
    | While z xb xo p =>
      cases xo with
      | nil =>
        simp only [chkS, Bool.and_eq_true] at h
        exact okS_wh po ((okX c fx z h.1).pt X E O) (okSs b fx xb h.2 X E O po)
      | cons _ _ => cases h
    | _ => cases h
  | .for_ t k its b, fx, x, h, X, E, O, po => by
    cases x with
    | For tg iter xb xo p =>
      cases xo with
      | nil =>
        simp only [chkS, Bool.and_eq_true] at h
        obtain ⟨⟨⟨ht, hs⟩, hi⟩, hb⟩ := h
        have cits : ∀ xs, chkXs T nm fx its xs = true → CEs G T nm call fx its xs := fun xs hx => okXs its fx xs hx
        exact okS_for O po (okI_by hi cits O) (okG_tg O ht) (okSs b fx xb hb X E O po) hs
      | cons _ _ => cases h
    | _ => cases h
  | .asg (.nm i) e, fx, x, h, X, E, O, po => by
    cases x with
    | Assign ts x p =>
      match ts, h with
      | [tg], h =>
        simp only [chkS, Bool.and_eq_true] at h
        obtain ⟨⟨ht, hn⟩, he⟩ := h
        cases hc : isComp x with
        | false => exact okS_nm O ht hc ((okX e fx x he).pe X E O)
        | true =>
          cases tg with
          | Name y py =>
            cases x with
            | ListComp elt gs sc pos =>
              match gs, hn, he with
              | [], hn, he => simp [nmB, isComp] at hn
              | _ :: _ :: _, hn, he => simp [nmB, isComp] at hn
              | [g1], hn, he =>
              simp only [nmB, Bool.and_eq_true] at hn
              simp only [chkNm, Bool.and_eq_true, decide_eq_true_eq] at ht
              cases e with
              | lc e own t k its ifs =>
                match g1, he with
                | ⟨tg, iter, xifs, 0⟩, he =>
                  simp only [chkX, Bool.and_eq_true, decide_eq_true_eq] at he
                  obtain ⟨⟨⟨⟨⟨⟨⟨hb, hown⟩, htg⟩, hns⟩, hit⟩, hl⟩, hifs⟩, he⟩ := he
                  have ce : CE G T nm call (fxB fx sc) e elt := okX e (fxB fx sc) elt he
                  have ci : CEs G T nm call (fxB fx sc) ifs xifs := okXs ifs (fxB fx sc) xifs hifs
                  have cits : ∀ xs, chkXs T nm fx its xs = true → CEs G T nm call fx its xs := fun xs hx => okXs its fx xs hx
                  refine okS_nmLc O ht.1 (locB_ok hn.1) hn.2 (okI_by hit cits O) hb (fun i hi => ?_) (fun X' O' => okG_tg O' htg) (fun X' O' => okTs_le ci hl O') (fun X' O' => ce.pe X' E0 O') hns
                  have := List.all_eq_true.mp hown i hi
                  simpa using this
              | lc2 e' own' t' k' its' ifs' o1 t1 k1 i1 f1 => exact absurd he (by obtain ⟨tg, iter, xifs, n⟩ := g1; cases n <;> simp [chkX])
              | _ => cases he
            | SetComp _ _ _ _ => simp [nmB, isComp] at hn
            | DictComp _ _ _ _ _ => simp [nmB, isComp] at hn
            | _ => cases hc
          | _ => cases ht
    | _ => cases h
  | .asg (.tp is) e, fx, x, h, X, E, O, po => by
    cases x with
    | Assign ts x p =>
      match ts, h with
      | [.Tuple ts k p2], h =>
        simp only [chkS, Bool.or_eq_true, Bool.and_eq_true] at h
        rcases h with ⟨⟨h1, h2⟩, h3⟩ | h
        · exact okS_tp O h1 h2 ((okX e fx x h3).pe X E O)
        · unfold tpB at h
          split at h
          · rename_i i j y py z pz es a b k2 p3 hh
            simp only [Bool.and_eq_true, decide_eq_true_eq] at h
            obtain ⟨⟨⟨h1, h2⟩, h3⟩, h4⟩ := h
            exact okS_par2 O h1 h2 h3 ((okXs es fx [a, b] h4).pa X E O)
          · rename_i i j l y py z pz u pu es a b c k2 p3 hh
            simp only [Bool.and_eq_true, decide_eq_true_eq] at h
            obtain ⟨⟨⟨⟨h1, h2⟩, h3⟩, h4⟩, h5⟩ := h
            exact okS_par3 O h1 h2 h3 h4 ((okXs es fx [a, b, c] h5).pa X E O)
          · cases h
    | _ => cases h
  | .asg (.ix o i) e, fx, x, h, X, E, O, po => by
    cases x with
    | Assign ts x p =>
      match ts, h with
      | [.Subscript xo xi p2], h =>
        simp only [chkS, Bool.and_eq_true, Bool.not_eq_true'] at h
        obtain ⟨⟨⟨h1, h2⟩, h3⟩, h4⟩ := h
        exact okS_ix O h1 ((okX e fx x h4).pe X E O) ((okX o fx xo h2).pe X E O) ((okX i fx xi h3).pe X E O)
    | _ => cases h
  | .asg (.sl o lo hi) e, fx, x, h, X, E, O, po => by
    cases x with
    | Assign ts x p =>
      match ts, h with
      | [.Subscript xo (.Slice l u none p3) p2], h =>
        simp only [chkS, Bool.and_eq_true] at h
        obtain ⟨⟨⟨ho, hlo⟩, hhi⟩, he⟩ := h
        have kl : L2.PO X l (tO G E fun ρ h => partR lo (evE T call lo ρ h) h) := by
          cases l with
          | none =>
            have hn : lo = .nop := by
              revert hlo
              cases lo <;> intro this <;> first | rfl | cases this
            subst hn
            exact okP_none
          | some z =>
            have h1 : isNop lo = false ∧ chkX T nm fx lo z = true := by simpa using hlo
            exact okP_some h1.1 ((okX lo fx z h1.2).pe X E O)
        have ku : L2.PO X u (tO G E fun ρ h => partR hi (evE T call hi ρ h) h) := by
          cases u with
          | none =>
            have hn : hi = .nop := by
              revert hhi
              cases hi <;> intro this <;> first | rfl | cases this
            subst hn
            exact okP_none
          | some z =>
            have h1 : isNop hi = false ∧ chkX T nm fx hi z = true := by simpa using hhi
            exact okP_some h1.1 ((okX hi fx z h1.2).pe X E O)
        exact okS_sl O ((okX e fx x he).pe X E O) ((okX o fx xo ho).pe X E O) kl ku
    | _ => cases h
  | .asg (.att o f) e, fx, x, h, X, E, O, po => by
    cases x with
    | Assign ts v p =>
      match ts, h with
      | [.Attribute xo n p2], h =>
        simp only [chkS, Bool.and_eq_true, decide_eq_true_eq] at h
        obtain ⟨⟨hn, ho⟩, he⟩ := h
        exact okS_fld O hn ((okX e fx v he).pe X E O) ((okX o fx xo ho).pe X E O)
    | _ => cases h
  | .aug (.nm i) op e, fx, x, h, X, E, O, po => by
    cases x with
    | AugAssign tg o x p =>
      simp only [chkS, Bool.and_eq_true] at h
      obtain ⟨⟨⟨⟨h1, h2⟩, h3⟩, h4⟩, h5⟩ := h
      obtain rfl := opB_ok h2
      cases tg with
      | Name y q => exact okS_aug O (by cases op <;> first | exact .inl rfl | exact .inr rfl | cases h1) h4 ((okX e fx x h5).pe X E O)
      | _ => cases h3
    | _ => cases h
  | .aug (.tp _) op e, fx, x, h, X, E, O, po => by cases x <;> cases h
  | .aug (.att o f) op e, fx, x, h, X, E, O, po => by
    cases x with
    | AugAssign tg ol v p =>
      cases tg with
      | Attribute xo n p2 =>
        simp only [chkS, Bool.and_eq_true, decide_eq_true_eq] at h
        obtain ⟨⟨⟨⟨h1, h2⟩, hn⟩, ho⟩, he⟩ := h
        rw [opB_ok h2]
        exact okS_fldaug O (by cases op <;> first | exact .inl rfl | exact .inr rfl | cases h1) hn ((okX e fx v he).pe X E O) ((okX o fx xo ho).pe X E O)
      | _ => cases h
    | _ => cases h
  | .aug (.ix _ _) op e, fx, x, h, X, E, O, po => by cases x <;> cases h
  | .aug (.sl _ _ _) op e, fx, x, h, X, E, O, po => by cases x <;> cases h
  | .raise _ _, fx, x, h, X, E, O, po => by cases x <;> cases h
  | .del _ _, fx, x, h, X, E, O, po => by cases x <;> cases h
theorem okSs : ∀ (ss : List Sm) (fx : Fx) (xs : List Stmt), chkSs T nm fx ss xs = true → ∀ X E, XOk G T nm call fx X E → PassesOwn (model X.prog X.w) X.A X.env X.xe → PSs X xs (tS G E (exSs T call W ss))
  | [], fx, xs, h, X, E, O, po => by
    cases xs with
    | nil => exact okSs_nil
    | cons _ _ => cases h
  | s :: r, fx, xs, h, X, E, O, po => by
    cases xs with
    | nil => cases h
    | cons x xs =>
      simp only [chkSs, Bool.and_eq_true] at h
      exact okSs_cons (okS s fx x h.1 X E O po) (okSs r fx xs h.2 X E O po)
end
end
end Mn
set_option Elab.async false
set_option linter.all false
set_option maxRecDepth 100000
set_option maxHeartbeats 8000000
namespace Mn
open PySem PySem.Spec L2 PyProof.Rows CwR
section
variable (T : Tb) (nm : Nm)
mutual
def chkET (fx : Fx) : Ex → Expr → Bool
  | .repl o y z, .Call (.Attribute xo name ap) [.Constant (.str c) _ _, .Constant (.str d) _ _] [] pos => decide (name = "replace") && decide (y = c.cps.toList) && decide (z = d.cps.toList) && !(c == d) && baseB xo && (ap.endLine == pos.line) && chkET fx o xo
  | .lst es, .List xs _ => chkXs T nm fx es xs || chkAT fx es xs
  | e, x => chkX T nm fx e x
def chkAT (fx : Fx) : List Ex → List Expr → Bool
  | [], [] => true
  | e :: es, x :: xs => chkET fx e x && chkAT fx es xs
  | _, _ => false
end
mutual
def chkST (fx : Fx) : Sm → Stmt → Bool
  | .asg (.nm i) e, .Assign [tg] x p => chkS T nm fx (.asg (.nm i) e) (.Assign [tg] x p) || (chkNm fx i tg && !isComp x && chkET T nm fx e x)
  | .ret e, .Return (some x) _ => chkET T nm fx e x
  | .ite c a b, .If z xa xb _ => chkX T nm fx c z && chkSTs fx a xa && chkSTs fx b xb
  | s, x => chkS T nm fx s x
def chkSTs (fx : Fx) : List Sm → List Stmt → Bool
  | [], [] => true
  | s :: r, x :: xs => chkST fx s x && chkSTs fx r xs
  | _, _ => false
end
end
section
variable {G : Gm} {T : Tb} {nm : Nm} {call : Nat → List PV → PH → Res PV} {W : Nat} {X : Cx} {E : XK}
theorem PET.imp {x : Expr} {t t' : TE} (p : PET X x t) (h : ∀ σ H Q, t' σ H Q → t σ H Q) : PET X x t' := fun pins s σ H Q h0 I q => p pins s σ H Q h0 I (h σ H Q q)
theorem PAT.imp {x : List Expr} {t t' : TA} (p : PAT X x t) (h : ∀ σ H Q, t' σ H Q → t σ H Q) : PAT X x t' := fun pos pins s σ H Q h0 I q => p pos pins s σ H Q h0 I (h σ H Q q)
theorem PST.imp {x : Stmt} {t t' : TS} (p : PST X x t) (h : ∀ D σ H, t' D σ H → t D σ H) : PST X x t' := fun pins s σ H D h0 I q => p pins s σ H D h0 I (h D σ H q)
theorem PSsT.imp {x : List Stmt} {t t' : TS} (p : PSsT X x t) (h : ∀ D σ H, t' D σ H → t D σ H) : PSsT X x t' := fun pins s σ H D h0 I q => p pins s σ H D h0 I (h D σ H q)
structure CT (G : Gm) (T : Tb) (nm : Nm) (call : Nat → List PV → PH → Res PV) (fx : Fx) (e : Ex) (x : Expr) : Prop where
  ns : isStar x = false
  ne : ∀ y, e ≠ .star y
  pe : ∀ X E, XOk G T nm call fx X E → PET X x (tE G E (evE T call e))
theorem CE.ct {fx : Fx} {e : Ex} {x : Expr} (c : CE G T nm call fx e x) : CT G T nm call fx e x := ⟨c.ns, c.ne, fun X E O => PET.of (c.pe X E O)⟩
theorem okET_lst {es : List Ex} {xs : List Expr} {p : Pos} (h : PAT X xs (tA G E (evEs T call es))) : PET X (.List xs p) (tE G E (evE T call (.lst es))) := by
  refine PET.imp (pet_lst h) fun σ H Q ⟨as, ρ, h, S, R, o⟩ => ?_
  simp only [evE] at o
  refine ⟨as, ρ, h, S, R, Ok.bind o fun vs h1 as1 H1 vs' f1 r1 o1 => ?_⟩
  split at o1
  · rename_i hl
    refine ⟨by rw [← r1.length]; exact hl, fun p hp => ?_⟩
    obtain ⟨f, r⟩ := f1.sr.newL hp r1
    exact okn o1 f r
  · exact False.elim o1
theorem okET_repl {o : Ex} {xo : Expr} {y z : List Nat} {c d : Str} {j k : Nat} {c0 c1 ap pos : Pos} (ho : PET X xo (tE G E (evE T call o))) (hy : y = c.cps.toList) (hz : z = d.cps.toList) (hne : (c == d) = false) (hb : baseB xo = true) (hl : (ap.endLine == pos.line) = true) :
    PET X (.Call (.Attribute xo "replace" ap) [.Constant (.str c) j c0, .Constant (.str d) k c1] [] pos) (tE G E (evE T call (.repl o y z))) := by
  refine PET.imp (pet_replT ho hne rfl (base_ok hb) hl) fun σ H Q ⟨as, ρ, h, S, R, q⟩ => ?_
  simp only [evE] at q
  refine ⟨as, ρ, h, S, R, Ok.bind q fun v h1 as1 H1 v' f1 r1 q1 => ?_⟩
  cases v with
  | str x =>
    dsimp only at q1
    split at q1
    · rename_i hq
      simp only [Bool.and_eq_true, decide_eq_true_eq] at hq
      obtain rfl := r1.strE
      have ec : (⟨y.toArray⟩ : Str) = c := by rw [hy]
      have ed : (⟨z.toArray⟩ : Str) = d := by rw [hz]
      rw [ec, ed] at q1
      refine ⟨_, rfl, ?_, okv f1.sr q1 (.strO _)⟩
      rw [str_len, ← ed, str_len]
      exact hq.1
    · exact False.elim q1
  | _ => exact False.elim q1
mutual
theorem okET : ∀ (e : Ex) (fx : Fx) (x : Expr), chkET T nm fx e x = true → CT G T nm call fx e x
  | .repl o y z, fx, x, h => by
    cases x with
    | Call f xs ks pos =>
      cases f with
      | Attribute xo name ap =>
        match xs, ks, h with
        | [.Constant (.str c) j c0, .Constant (.str d) k c1], [], h =>
          simp only [chkET, Bool.and_eq_true, decide_eq_true_eq, Bool.not_eq_true'] at h
          obtain ⟨⟨⟨⟨⟨⟨rfl, h1⟩, h2⟩, h3⟩, h4⟩, h5⟩, h6⟩ := h
          have co := okET o fx xo h6
          exact ⟨rfl, fun _ e => (nomatch e), fun X E O => okET_repl (co.pe X E O) h1 h2 h3 h4 h5⟩
      | _ => cases h
    | _ => cases h
  | .lst es, fx, x, h => by
    cases x with
    | List xs p =>
      simp only [chkET, Bool.or_eq_true] at h
      rcases h with h | h
      · have c := okXs (G := G) (call := call) es fx xs h
        exact ⟨rfl, fun _ e => (nomatch e), fun X E O => PET.of (okE_lst (c.pa X E O))⟩
      · have c := okAT es fx xs h
        exact ⟨rfl, fun _ e => (nomatch e), fun X E O => okET_lst (c X E O)⟩
    | _ => cases h
  | .var i, fx, x, h => (okX (.var i) fx x h).ct
  | .con v, fx, x, h => (okX (.con v) fx x h).ct
  | .glob g, fx, x, h => (okX (.glob g) fx x h).ct
  | .bty f, fx, x, h => (okX (.bty f) fx x h).ct
  | .bin op a b, fx, x, h => (okX (.bin op a b) fx x h).ct
  | .neg a, fx, x, h => (okX (.neg a) fx x h).ct
  | .not a, fx, x, h => (okX (.not a) fx x h).ct
  | .and a b, fx, x, h => (okX (.and a b) fx x h).ct
  | .or a b, fx, x, h => (okX (.or a b) fx x h).ct
  | .cmp op a b, fx, x, h => (okX (.cmp op a b) fx x h).ct
  | .chn o1 o2 a b c, fx, x, h => (okX (.chn o1 o2 a b c) fx x h).ct
  | .ife c a b, fx, x, h => (okX (.ife c a b) fx x h).ct
  | .tup es, fx, x, h => (okX (.tup es) fx x h).ct
  | .star e, fx, x, h => (okX (.star e) fx x h).ct
  | .ix o i, fx, x, h => (okX (.ix o i) fx x h).ct
  | .sl o lo hi, fx, x, h => (okX (.sl o lo hi) fx x h).ct
  | .nop, fx, x, h => (okX (.nop) fx x h).ct
  | .call g es, fx, x, h => (okX (.call g es) fx x h).ct
  | .bi f es, fx, x, h => (okX (.bi f es) fx x h).ct
  | .mt m b o es, fx, x, h => (okX (.mt m b o es) fx x h).ct
  | .att o f, fx, x, h => (okX (.att o f) fx x h).ct
  | .lc e own t k its ifs, fx, x, h => (okX (.lc e own t k its ifs) fx x h).ct
  | .callv i es, fx, x, h => (okX (.callv i es) fx x h).ct
  | .dsp, fx, x, h => (okX (.dsp) fx x h).ct
  | .lz es, fx, x, h => (okX (.lz es) fx x h).ct
  | .lno m o, fx, x, h => (okX (.lno m o) fx x h).ct
  | .lc2 e own t k its ifs own1 t1 k1 its1 ifs1, fx, x, h => (okX (.lc2 e own t k its ifs own1 t1 k1 its1 ifs1) fx x h).ct
  | .never, fx, x, h => (okX (.never) fx x h).ct
theorem okAT : ∀ (es : List Ex) (fx : Fx) (xs : List Expr), chkAT T nm fx es xs = true → ∀ X E, XOk G T nm call fx X E → PAT X xs (tA G E (evEs T call es))
  | [], fx, xs, h, X, E, O => by
    cases xs with
    | nil => exact PAT.imp pat_nil fun σ H Q ⟨as, ρ, h, S, R, o⟩ => (by
        simp only [evEs] at o
        exact o as H [] (Fut.refl S) .nil)
    | cons _ _ => cases h
  | e :: es, fx, xs, h, X, E, O => by
    cases xs with
    | nil => cases h
    | cons x xs =>
      simp only [chkAT, Bool.and_eq_true] at h
      have c := okET e fx x h.1
      have cs := okAT es fx xs h.2 X E O
      refine PAT.imp (pat_cons (c.pe X E O) cs (star_cons c.ns)) fun σ H Q ⟨as, ρ, h, S, R, o⟩ => ?_
      rw [evEs_cons c.ne] at o
      refine ⟨as, ρ, h, S, R, Ok.bind o fun v h1 as1 H1 v' f1 r1 o1 => ⟨as1, ρ, h1, f1.sr, R.fut f1, Ok.bind o1 fun vs h2 as2 H2 vs' f2 r2 o2 => ?_⟩⟩
      exact o2 as2 H2 _ (Fut.refl f2.sr) (.cons (r1.fut f2) r2)
end
theorem pst_set {i : Nat} {x : Str} {e : Expr} {te : TE} {pos' pos : Pos} (hN : X.N.Nodup) (hi : X.N[i]? = some x) (hx : Loc X.env.scope x) (he : PET X e te) (hs : swapsWith e (some (.Name x pos')) pos.line X.env = pure false) (hf : X.fn x = true ∨ X.env.scope.names.lookup x = some .local) :
    PST X (.Assign [.Name x pos'] e pos) (tAsg te (gName i)) := by
  intro pins s σ H D h0 I h
  refine wpAny_Assign_Name (thn (he pins s σ H _ h0 I h) fun v s1 ⟨y, H1, I1, r1, q1⟩ => ?_) hs
  exact store_ok I1 hN hi hx r1 (fun s2 I2 => ⟨_, H1, I2, q1⟩) hf
theorem okST_nm {fx : Fx} (O : XOk G T nm call fx X E) {i : Nat} {e : Ex} {t x : Expr} {p : Pos} (ht : chkNm fx i t = true) (hc : isComp x = false) (he : PET X x (tE G E (evE T call e))) : PST X (.Assign [t] x p) (tS G E (exS T call W (.asg (.nm i) e))) := by
  cases t with
  | Name y q =>
    simp only [chkNm, Bool.and_eq_true, decide_eq_true_eq, List.contains_iff_mem] at ht
    obtain ⟨l, f⟩ := O.st y ht.2
    refine PST.imp (pst_set (i := i) O.nd (by rw [O.N]; exact ht.1) l he (noSwap hc) f) fun D σ H ⟨as, ρ, h, S, R, o⟩ => ?_
    simp only [exS, asgTa, Res.bind_ok] at o
    exact ⟨as, ρ, h, S, R, Ok.bind o fun v h1 as1 H1 v' f1 r1 o1 => o1 as1 H1 (.nx _) (Fut.refl f1.sr) ((R.fut f1).set i r1)⟩
  | _ => cases ht
theorem okST_ret {e : Ex} {x : Expr} {p : Pos} (he : PET X x (tE G E (evE T call e))) : PST X (.Return (some x) p) (tS G E (exS T call W (.ret e))) := by
  refine PST.imp (pst_ret he) fun D σ H ⟨as, ρ, h, S, R, o⟩ => ?_
  simp only [exS] at o
  exact ⟨as, ρ, h, S, R, Ok.bind o fun v h1 as1 H1 v' f1 r1 o1 => o1 as1 H1 (.rt v') (Fut.refl f1.sr) r1⟩
theorem okST_ite {c : Ex} {a b : List Sm} {z : Expr} {xa xb : List Stmt} {p : Pos} (hc : PT X z (tT G E (evT T call c))) (ha : PSsT X xa (tS G E (exSs T call W a))) (hb : PSsT X xb (tS G E (exSs T call W b))) : PST X (.If z xa xb p) (tS G E (exS T call W (.ite c a b))) := by
  refine PST.imp (pst_if hc ha hb) fun D σ H ⟨as, ρ, h, S, R, o⟩ => ?_
  simp only [exS] at o
  refine ⟨as, ρ, h, S, R, Ok.bind o fun t h1 as1 H1 t' f1 r1 o1 => ?_⟩
  subst r1
  cases t with
  | true => exact ⟨as1, ρ, h1, f1.sr, R.fut f1, o1⟩
  | false => exact ⟨as1, ρ, h1, f1.sr, R.fut f1, o1⟩
theorem okSTs_cons {s : Sm} {r : List Sm} {x : Stmt} {xs : List Stmt} (h1 : PST X x (tS G E (exS T call W s))) (h2 : PSsT X xs (tS G E (exSs T call W r))) : PSsT X (x :: xs) (tS G E (exSs T call W (s :: r))) := by
  refine PSsT.imp (psst_cons h1 h2) fun D σ H ⟨as, ρ, h, S, R, o⟩ => ?_
  simp only [exSs] at o
  refine ⟨as, ρ, h, S, R, Ok.bind o fun f h1 as1 H1 fv f1 r1 o1 => ?_⟩
  cases f with
  | nx ρ1 =>
    cases fv with
    | nx σ1 => exact ⟨as1, ρ1, h1, f1.sr, r1, o1⟩
    | _ => exact False.elim r1
  | bk ρ1 =>
    cases fv with
    | bk σ1 => exact o1 as1 H1 (.bk σ1) (Fut.refl f1.sr) r1
    | _ => exact False.elim r1
  | ct ρ1 =>
    cases fv with
    | ct σ1 => exact o1 as1 H1 (.ct σ1) (Fut.refl f1.sr) r1
    | _ => exact False.elim r1
  | rt v =>
    cases fv with
    | rt v1 => exact o1 as1 H1 (.rt v1) (Fut.refl f1.sr) r1
    | _ => exact False.elim r1
mutual
theorem okST : ∀ (s : Sm) (fx : Fx) (x : Stmt), chkST T nm fx s x = true → ∀ X E, XOk G T nm call fx X E → PassesOwn (model X.prog X.w) X.A X.env X.xe → PST X x (tS G E (exS T call W s))
  | .asg (.nm i) e, fx, x, h, X, E, O, po => by
    cases x with
    | Assign ts x p =>
      match ts, h with
      | [tg], h =>
        simp only [chkST, Bool.or_eq_true, Bool.and_eq_true, Bool.not_eq_true'] at h
        rcases h with h | ⟨⟨h1, h2⟩, h3⟩
        · exact PST.of (okS _ fx _ h X E O po)
        · exact okST_nm O h1 h2 ((okET e fx x h3).pe X E O)
    | _ => cases h
  | .ret e, fx, x, h, X, E, O, po => by
    cases x with
    | Return o p =>
      cases o with
      | none => cases h
      | some x => exact okST_ret ((okET e fx x h).pe X E O)
    | _ => cases h
  | .ite c a b, fx, x, h, X, E, O, po => by
    cases x with
    | If z xa xb p =>
      simp only [chkST, Bool.and_eq_true] at h
      exact okST_ite ((okX c fx z h.1.1).pt X E O) (okSTs a fx xa h.1.2 X E O po) (okSTs b fx xb h.2 X E O po)
    | _ => cases h
  | .asg (.tp is) e, fx, x, h, X, E, O, po => PST.of (okS _ fx x h X E O po)
  | .asg (.att o f) e, fx, x, h, X, E, O, po => PST.of (okS _ fx x h X E O po)
  | .asg (.ix o i) e, fx, x, h, X, E, O, po => PST.of (okS _ fx x h X E O po)
  | .asg (.sl o lo hi) e, fx, x, h, X, E, O, po => PST.of (okS _ fx x h X E O po)
  | .aug t op e, fx, x, h, X, E, O, po => PST.of (okS _ fx x h X E O po)
  | .ex e, fx, x, h, X, E, O, po => PST.of (okS _ fx x h X E O po)
  | .retn, fx, x, h, X, E, O, po => PST.of (okS _ fx x h X E O po)
  | .wh c b, fx, x, h, X, E, O, po => PST.of (okS _ fx x h X E O po)
  | .for_ t k its b, fx, x, h, X, E, O, po => PST.of (okS _ fx x h X E O po)
  | .brk, fx, x, h, X, E, O, po => PST.of (okS _ fx x h X E O po)
  | .cnt, fx, x, h, X, E, O, po => PST.of (okS _ fx x h X E O po)
  | .pass, fx, x, h, X, E, O, po => PST.of (okS _ fx x h X E O po)
  | .raise g es, fx, x, h, X, E, O, po => PST.of (okS _ fx x h X E O po)
  | .del o i, fx, x, h, X, E, O, po => PST.of (okS _ fx x h X E O po)
  | .never, fx, x, h, X, E, O, po => PST.of (okS _ fx x h X E O po)
theorem okSTs : ∀ (ss : List Sm) (fx : Fx) (xs : List Stmt), chkSTs T nm fx ss xs = true → ∀ X E, XOk G T nm call fx X E → PassesOwn (model X.prog X.w) X.A X.env X.xe → PSsT X xs (tS G E (exSs T call W ss))
  | [], fx, xs, h, X, E, O, po => by
    cases xs with
    | nil => exact PSsT.of okSs_nil
    | cons _ _ => cases h
  | s :: r, fx, xs, h, X, E, O, po => by
    cases xs with
    | nil => cases h
    | cons x xs =>
      simp only [chkSTs, Bool.and_eq_true] at h
      exact okSTs_cons (okST s fx x h.1 X E O po) (okSTs r fx xs h.2 X E O po)
end
end
end Mn
set_option Elab.async false
set_option linter.all false
set_option maxRecDepth 100000
set_option maxHeartbeats 8000000
namespace Mn
open PySem PySem.Spec L2 PyProof.Rows CwR
structure Df where
  ps : List Str
  N : List Str
  body : List Sm
def locC (names : List (Str × NameKind)) (x : Str) : Bool := match names.lookup x with
  | some .local => true
  | some .cell => true
  | _ => false
theorem locC_ok {names : List (Str × NameKind)} {x : Str} (h : locC names x = true) : names.lookup x = some .local ∨ names.lookup x = some .cell := by
  unfold locC at h
  split at h
  · rename_i q; exact .inl q
  · rename_i q; exact .inr q
  · cases h
def Df.fx (d : Df) (sc : Scope) : Fx where
  N := d.N
  names := sc.names
  st := d.N.filter (locC sc.names)
def runD (T : Tb) (W : Nat) (call : Nat → List PV → PH → Res PV) (d : Df) (vs : List PV) (h : PH) : Res PV := if vs.length = d.ps.length then runBody T call W d.N.length d.body vs h else .stuck
def callS (T : Tb) (W : Nat) (D : List Df) (sp : Nat → Option (List PV → PH → Res PV)) : Nat → Nat → List PV → PH → Res PV
  | 0, _, _, _ => .stuck
  | n + 1, i, vs, h => match D[i]? with
    | none => .stuck
    | some d => match sp i with
      | none => runD T W (callS T W D sp n) d vs h
      | some r => if vs.length = d.ps.length then r vs h else .stuck
section
variable (G : Gm) (T : Tb) (nm : Nm) (D : List Df) (K : PySem.W.Frag) (mg : Str → Option Value)
structure GOk : Prop where
  K : K = G.K
  gl : ∀ (g : Nat) (x : Str) (v : PV), nm.gn[g]? = some x → T.glob[g]? = some v → ∃ u, mg x = some u ∧ RelG G v u
  bl : ∀ f : Bi, mg f.nm = none
  rng : mg "range" = none
  enm : mg "enumerate" = none
  zp : mg "zip" = none
  rvs : mg "reversed" = none
  cls : COk G T
  gnl : T.glob.length ≤ nm.gn.length
  an : nm.an = G.an
  mlt : ∀ (c : Nat) (ci : Ci) (f : Nat), T.cls[c]? = some ci → (ci.init = some f ∨ (∃ m, ci.meths.lookup m = some f) ∨ ∃ m, ci.props.lookup m = some f) → f < D.length
  lt : ∀ (g f : Nat), T.glob[g]? = some (.fn f) → f < D.length
structure DOk (i : Nat) (d : Df) (fd : FuncData) : Prop where
  ex : ∃ (x qual : Str) (params : Arguments) (body : List Stmt) (scope : Scope), (∃ dvs kws, FunD K x qual params body scope dvs kws (G.fa i) fd) ∧ FnScope d.N d.ps scope ∧ ((chkSs T nm (d.fx scope) d.body body = true) ∨ ((∀ y ∈ scope.names, y.2 ≠ .cell) ∧ 1 ≤ d.ps.length ∧ chkSTs T nm (d.fx scope) d.body body = true))
  bn : Binds K fd d.ps []
  kp : PySem.W.keepIn K (.ref (G.fa i)) = true
end
section
variable {G : Gm} {T : Tb} {nm : Nm} {D : List Df} {K : PySem.W.Frag} {mg : Str → Option Value} {P : Program} {w : World} {base : Heap} {W : Nat} {sp : Nat → Option (List PV → PH → Res PV)}
def FnsAt (G : Gm) (T : Tb) (D : List Df) (P : Program) (w : World) (K : PySem.W.Frag) (mg : Str → Option Value) (base : Heap) (call : Nat → List PV → PH → Res PV) (k : Nat) : Prop :=
  ∀ i d, D[i]? = some d → ∃ fd, FnOk P w K mg base (L2.CX P w) k (G.fa i) fd d.ps (spF G call i d.ps.length) ∧ PySem.W.keepIn K (.ref (G.fa i)) = true ∧ Binds K fd d.ps [] ∧ ∀ xs h, xs.length ≠ d.ps.length → call i xs h = .stuck
theorem xok {call : Nat → List PV → PH → Res PV} {d : Df} {qual : Str} {scope : Scope} {f : Addr} {cdv : Value} {A : Around} {outer : List Env} {s : Shared} {H : Hp} {E : XK} {k : Nat} (O : GOk G T nm D K mg) (S : FnScope d.N d.ps scope) (hr : Room (k + 1) (A.deeper (envOfC qual scope s.heap.objs.size f cdv)))
    (F : FnsAt G T D P w K mg base call k) : XOk G T nm call (d.fx scope) (cxOf (L2.CX P w) P w K mg base d.N qual scope f cdv A outer s H E) E where
  K := O.K
  calm := rfl
  hu := by have := hr.un; show (A.deeper (envOfC qual scope s.heap.objs.size f cdv)).units + 70 < cLine; omega
  N := rfl
  nd := S.nd
  names := rfl
  gl := O.gl
  bl := O.bl
  st := fun x hx => by
    have : locC scope.names x = true := (List.mem_filter.mp hx).2
    exact ⟨locC_ok this, .inl rfl⟩
  rng := O.rng
  enm := O.enm
  zp := O.zp
  rvs := O.rvs
  cls := O.cls
  kind := S.kind
  pass := passes_call (takes_of rfl rfl rfl rfl) fun _ _ _ _ h => h
  fns := fun g x f' h1 h2 => by
    have hl := O.lt g f' h2
    obtain ⟨fd, F1, kp, bn, ar⟩ := F f' D[f'] (List.getElem?_eq_getElem hl)
    obtain ⟨u, e, y, ry, rep⟩ := O.gl g x _ h1 h2
    have e2 : y = .ref (G.fa f') := by
      have := rep [] (fun _ => none)
      unfold RepV at this
      exact this
    subst e2
    cases ry
    exact ⟨k, fd, D[f'].ps, F1, hr.mono (Nat.le_succ k), kp, bn, e, ar⟩
  gnl := O.gnl
  an := O.an
  mfn := fun c ci f' h1 h2 => by
    have hl := O.mlt c ci f' h1 h2
    obtain ⟨fd, F1, kp, bn, ar⟩ := F f' D[f'] (List.getElem?_eq_getElem hl)
    exact ⟨k, fd, D[f'].ps, F1, hr, bn, ar⟩
theorem repE_start {as : List Addr} {H : Hp} {xs : List PV} {vs : List V} {N : List Str} (r : RepVs G as H xs vs) : RepE G as H (xs.map some ++ List.replicate (N.length - xs.length) none) (L2.start N vs) := by
  refine ⟨by simp [L2.start, r.length], fun i v e => ?_⟩
  unfold L2.start
  by_cases hi : i < xs.length
  · rw [List.getElem?_append_left (by simpa using hi), List.getElem?_map] at e
    rw [List.getElem?_append_left (by simpa [← r.length] using hi), List.getElem?_map]
    cases q : xs[i]? with
    | none => rw [q] at e; cases e
    | some y =>
      rw [q] at e
      cases e
      obtain ⟨v', e1, rv⟩ := r.get q
      exact ⟨v', by rw [e1]; rfl, rv⟩
  · rw [List.getElem?_append_right (by simpa using hi)] at e
    have := List.mem_of_getElem? e
    simp at this
theorem fn_mini {call : Nat → List PV → PH → Res PV} {i k : Nat} {d : Df} {fd : FuncData} (O : GOk G T nm D K mg) (DO : DOk G T nm K i d fd) (F : FnsAt G T D P w K mg base call k) : FnOk P w K mg base (L2.CX P w) (k + 2) (G.fa i) fd d.ps (spF G (fun _ => runD T W call d) i d.ps.length) := by
  obtain ⟨x, qual, params, body, scope, ⟨dvs, kws, FD⟩, S, hcc⟩ := DO.ex
  obtain ⟨oc, od, dV, kV, doc, pm, an, cdv, ct, osl, rfl, lk, hcd, _, _⟩ := FD.ex
  have fin : ∀ (vs : List V) (xs : List PV) (as : List Addr) (H : Hp) (h : PH) (Q : VK) (E : XK), vs.length = d.ps.length → RepVs G as H xs vs → OkV G E as H Q (runD T W call d xs h) →
      Ok G E as H (fun as' H' => relF G as' H') (endsQ { nx := fun _ H' => Q .non H', rt := Q }) (exSs T call W d.body (xs.map some ++ List.replicate (d.N.length - xs.length) none) h) := fun vs xs as H h Q E hl R o => by
    have hx : xs.length = d.ps.length := by rw [R.length]; exact hl
    unfold runD at o
    rw [if_pos hx] at o
    unfold runBody at o
    refine Ok.bind o fun f h1 as1 H1 fv f1 r1 o1 => ?_
    cases f with
    | nx ρ1 =>
      cases fv with
      | nx σ1 => exact o1 as1 H1 .non (Fut.refl f1.sr) .non
      | _ => exact False.elim r1
    | bk ρ1 => exact False.elim o1
    | ct ρ1 => exact False.elim o1
    | rt v =>
      cases fv with
      | rt v1 => exact o1 as1 H1 v1 (Fut.refl f1.sr) r1
      | _ => exact False.elim r1
  rcases hcc with hc | ⟨hnc, hps, hc⟩
  · refine fn_of lk hcd S (fun vs H Q E h => h.1) fun A outer s H vs Q E hr hsp => ?_
    obtain ⟨hl, as, h, xs, Sr, R, o⟩ := hsp
    have X := xok (P := P) (w := w) (base := base) (A := A) (outer := outer) (s := s) (H := H) (E := E) (qual := qual) (f := G.fa i) (cdv := cdv) O S hr F
    exact ⟨_, okSs (W := W) d.body _ body hc _ E X (passes_of rfl), as, _, h, Sr, repE_start R, fin vs xs as H h Q E hl R o⟩
  · refine fn_ofT lk hcd S hnc hps (fun vs H Q E h => h.1) fun A outer s H vs Q E hr hsp => ?_
    obtain ⟨hl, as, h, xs, Sr, R, o⟩ := hsp
    have X := xok (P := P) (w := w) (base := base) (A := A) (outer := outer) (s := s) (H := H) (E := E) (qual := qual) (f := G.fa i) (cdv := cdv) O S hr F
    exact ⟨_, okSTs (W := W) d.body _ body hc _ E X (passes_of rfl), as, _, h, Sr, repE_start R, fin vs xs as H h Q E hl R o⟩
def SpOk (G : Gm) (T : Tb) (W : Nat) (D : List Df) (sp : Nat → Option (List PV → PH → Res PV)) : Prop := ∀ i d r, D[i]? = some d → sp i = some r → ∀ (n : Nat) (as : List Addr) (H : Hp) (h : PH) (xs : List PV) (vs : List V) (Q : VK) (E : XK), SR G as H h → RepVs G as H xs vs → xs.length = d.ps.length → OkV G E as H Q (r xs h) →
  ∃ as' h', SR G as' H h' ∧ RepVs G as' H xs vs ∧ OkV G E as' H Q (runD T W (callS T W D sp n) d xs h')
theorem all_fns (O : GOk G T nm D K mg) (DO : ∀ i d, D[i]? = some d → ∃ fd, DOk G T nm K i d fd) (so : SpOk G T W D sp) : ∀ n, FnsAt G T D P w K mg base (callS T W D sp n) (2 * n)
  | 0 => fun i d e => by
    obtain ⟨fd, q⟩ := DO i d e
    refine ⟨fd, ⟨fun vs H Q E h => h.1, fun A outer s H args us vs Q E hr e0 hb r h => ?_⟩, q.kp, q.bn, fun xs h _ => rfl⟩
    obtain ⟨_, _, _, _, _, _, o⟩ := h
    exact False.elim o
  | n + 1 => fun i d e => by
    obtain ⟨fd, q⟩ := DO i d e
    have F := fn_mini (W := W) (i := i) O q (all_fns O DO so n)
    refine ⟨fd, F.imp fun vs H Q E h => ?_, q.kp, q.bn, fun xs h hl => ?_⟩
    · obtain ⟨hl, as, h, xs, Sr, R, o⟩ := h
      have hx : xs.length = d.ps.length := by rw [R.length]; exact hl
      simp only [callS, e] at o
      cases hs : sp i with
      | none =>
        rw [hs] at o
        exact ⟨hl, as, h, xs, Sr, R, o⟩
      | some r =>
        rw [hs] at o
        dsimp only at o
        rw [if_pos hx] at o
        obtain ⟨as', h', S', R', o'⟩ := so i d r e hs n as H h xs vs Q E Sr R hx o
        exact ⟨hl, as', h', xs, S', R', o'⟩
    · simp only [callS, e]
      cases hs : sp i with
      | none => simp only [runD, if_neg hl]
      | some r => simp only [if_neg hl]
end
end Mn
set_option Elab.async false
set_option linter.all false
namespace Mn
open PySem L2
theorem cok_none {G : Gm} {T : Tb} (h : T.cls = []) (ha : G.an = []) : COk G T where
  cc := fun c d ci e => by rw [h] at e; simp at e
  ct := fun c n q => by rw [h] at q; simp at q
  tc := fun c n q => by rw [h] at q; simp at q
  cl := fun c q => by rw [h] at q; simp at q
  ha := fun c q => by rw [h] at q; simp at q
  hm := fun c q => by rw [h] at q; simp at q
  hn := fun q => absurd h q
  htk := fun q => absurd h q
  nd := by rw [ha]; exact List.nodup_nil
  at_ := fun c f n e => by
    unfold attK at e
    rw [h] at e
    simp at e
  me := fun c ci m f n e => by rw [h] at e; simp at e
  mkr := fun c ci f e => by rw [h] at e; simp at e
  pr := fun c ci m f n e => by rw [h] at e; simp at e
end Mn
set_option Elab.async false
set_option linter.all false
set_option maxRecDepth 100000
set_option maxHeartbeats 0
namespace K56
open PySem PySem.Spec PyProof.Rows L2 Mn
def top (i : Nat) : Stmt := PySem.Challenge.pw_deedline_k56_whole_stands_told_and_judge.main.body.getD i (.Pass ⟨0, 0, 0, 0⟩)
def b_is_within : List Sm := [.ret (.and (.bi .isinst [.var 0, .bty .int]) (.and (.not (.bi .isinst [.var 0, .bty .bool])) (.chn .le .le (.var 1) (.var 0) (.var 2))))]
def d_is_within : Df := ⟨["value", "least", "most"], ["value", "least", "most"], b_is_within⟩
abbrev i_is_within : Nat := 0
def b_check_within : List Sm := [.ite (.not (.call 0 [.var 0, .var 1, .var 2])) [.never] []]
def d_check_within : Df := ⟨["number", "least", "most"], ["number", "least", "most"], b_check_within⟩
abbrev i_check_within : Nat := 1
def b_is_branch : List Sm := [.ite (.or (.not (.bi .isinst [.var 0, .bty .tuple])) (.not (.chn .le .le (.con (.int 1)) (.bi .len [.var 0]) (.glob 29)))) [.ret (.con (.bl false))] [], .ite (.or (.not (.bi .all [.lc (.call 3 [.var 5]) [5] (.nm 5) .seq [.var 0] []])) (.cmp .ne (.ix (.var 0) (.con (.int 0))) (.tup [.con (.int 0), .con (.int 0)]))) [.ret (.con (.bl false))] [], .asg (.nm 1) (.lc (.tup [.ix (.var 0) (.bin .sub (.var 2) (.con (.int 1))), .ix (.var 0) (.var 2)]) [2] (.nm 2) .rng [.con (.int 1), .bi .len [.var 0]] []), .ret (.bi .all [.lc (.and (.cmp .lt (.ix (.var 3) (.con (.int 0))) (.ix (.var 4) (.con (.int 0)))) (.cmp .le (.ix (.var 3) (.con (.int 1))) (.ix (.var 4) (.con (.int 1))))) [3, 4] (.tp [3, 4]) .seq [.var 1] []])]
def d_is_branch : Df := ⟨["value"], ["value", "pairs", "at", "one", "other", "pair"], b_is_branch⟩
abbrev i_is_branch : Nat := 2
def b__is_pair : List Sm := [.ite (.or (.not (.bi .isinst [.var 0, .bty .tuple])) (.cmp .ne (.bi .len [.var 0]) (.con (.int 2)))) [.ret (.con (.bl false))] [], .ret (.and (.call 0 [.ix (.var 0) (.con (.int 0)), .con (.int 0), .glob 28]) (.call 0 [.ix (.var 0) (.con (.int 1)), .con (.int 0), .glob 28]))]
def d__is_pair : Df := ⟨["value"], ["value"], b__is_pair⟩
abbrev i__is_pair : Nat := 3
def b_is_stand : List Sm := [.ite (.or (.not (.bi .isinst [.var 0, .bty .tuple])) (.cmp .ne (.bi .len [.var 0]) (.con (.int 2)))) [.ret (.con (.bl false))] [], .asg (.tp [1, 2]) (.var 0), .ret (.and (.call 2 [.var 1]) (.call 0 [.var 2, .ix (.ix (.var 1) (.neg (.con (.int 1)))) (.con (.int 1)), .glob 28]))]
def d_is_stand : Df := ⟨["value"], ["value", "branch", "place"], b_is_stand⟩
abbrev i_is_stand : Nat := 4
def b_cut : List Sm := [.ex (.call 10 [.var 0]), .ex (.call 1 [.var 1, .con (.int 0), .ix (.var 0) (.con (.int 1))]), .ret (.call 12 [.var 0, .var 1])]
def d_cut : Df := ⟨["stand", "place"], ["stand", "place"], b_cut⟩
abbrev i_cut : Nat := 5
def b_shared_place : List Sm := [.ex (.call 10 [.var 0]), .ex (.call 10 [.var 1]), .ret (.call 13 [.var 0, .var 1])]
def d_shared_place : Df := ⟨["one", "other"], ["one", "other"], b_shared_place⟩
abbrev i_shared_place : Nat := 6
def b_judged : List Sm := [.asg (.nm 2) (.call 6 [.var 0, .var 1]), .asg (.tp [3, 4]) (.tup [.cmp .eq (.ix (.var 0) (.con (.int 1))) (.var 2), .cmp .eq (.ix (.var 1) (.con (.int 1))) (.var 2)]), .ite (.and (.var 3) (.var 4)) [.ret (.tup [.con (.str [97, 108, 105, 107, 101]), .var 2])] [], .ite (.var 3) [.ret (.tup [.con (.str [98, 101, 104, 105, 110, 100]), .var 2])] [], .ret (.tup [.ife (.var 4) (.con (.str [97, 104, 101, 97, 100])) (.con (.str [112, 97, 114, 116, 101, 100])), .var 2])]
def d_judged : Df := ⟨["one", "other"], ["one", "other", "shared", "is_behind", "is_ahead"], b_judged⟩
abbrev i_judged : Nat := 7
def b_is_later : List Sm := [.ex (.call 10 [.var 0]), .ex (.call 10 [.var 1]), .ret (.cmp .gt (.call 9 [.var 0]) (.call 9 [.var 1]))]
def d_is_later : Df := ⟨["one", "other"], ["one", "other"], b_is_later⟩
abbrev i_is_later : Nat := 8
def b_lateness : List Sm := [.asg (.tp [1, 2]) (.var 0), .ret (.tup [.ix (.ix (.var 1) (.neg (.con (.int 1)))) (.con (.int 0)), .var 2])]
def d_lateness : Df := ⟨["stand"], ["stand", "branch", "place"], b_lateness⟩
abbrev i_lateness : Nat := 9
def b_check_stand : List Sm := [.ite (.not (.call 4 [.var 0])) [.never] []]
def d_check_stand : Df := ⟨["stand"], ["stand"], b_check_stand⟩
abbrev i_check_stand : Nat := 10
def b__begun : List Sm := [.ret (.bi .tuple [.lc (.var 2) [2] (.nm 2) .seq [.var 0] [.cmp .le (.ix (.var 2) (.con (.int 1))) (.var 1)]])]
def d__begun : Df := ⟨["branch", "place"], ["branch", "place", "pair"], b__begun⟩
abbrev i__begun : Nat := 11
def b__cut : List Sm := [.asg (.tp [2, 3]) (.var 0), .ret (.tup [.call 11 [.var 2, .var 1], .var 1])]
def d__cut : Df := ⟨["stand", "place"], ["stand", "place", "branch", "_"], b__cut⟩
abbrev i__cut : Nat := 12
def b__shared : List Sm := [.asg (.nm 2) (.lst [.ix (.var 0) (.con (.int 1)), .ix (.var 1) (.con (.int 1))]), .ite (.cmp .ne (.ix (.var 0) (.con (.int 0))) (.ix (.var 1) (.con (.int 0)))) [.ex (.mt 0 .append (.var 2) [.call 14 [.ix (.var 0) (.con (.int 0)), .ix (.var 1) (.con (.int 0))]])] [], .ret (.bi .min [.var 2])]
def d__shared : Df := ⟨["one", "other"], ["one", "other", "places"], b__shared⟩
abbrev i__shared : Nat := 13
def b__limit : List Sm := [.asg (.nm 2) (.con (.int 0)), .wh (.cmp .eq (.sl (.var 0) (.var 2) (.bin .add (.var 2) (.con (.int 1)))) (.sl (.var 1) (.var 2) (.bin .add (.var 2) (.con (.int 1))))) [.aug (.nm 2) .add (.con (.int 1))], .ret (.bi .min [.lc (.var 4) [3, 4] (.tp [3, 4]) .seq [.bin .add (.sl (.var 0) (.var 2) (.bin .add (.var 2) (.con (.int 1)))) (.sl (.var 1) (.var 2) (.bin .add (.var 2) (.con (.int 1))))] []])]
def d__limit : Df := ⟨["one", "other"], ["one", "other", "at", "_", "begin"], b__limit⟩
abbrev i__limit : Nat := 14
def b__law_dice : List Sm := [.asg (.nm 2) (.bin .add (.bin .mul (.con (.int 83)) (.var 1)) (.con (.int 59))), .ite (.cmp .lt (.var 1) (.bi .len [.var 0])) [.asg (.nm 2) (.ix (.var 0) (.var 1))] [], .asg (.nm 3) (.bin .mod (.bi .int [.bi .abs [.var 2]]) (.bin .pow (.bin .pow (.con (.int 10)) (.con (.int 60))) (.con (.int 10)))), .asg (.nm 4) (.bin .fdiv (.var 3) (.bin .pow (.con (.int 10)) (.con (.int 18)))), .asg (.nm 5) (.bin .add (.bin .add (.bin .add (.bin .mul (.bin .mod (.var 3) (.con (.int 2147482811))) (.con (.int 60509))) (.bin .mul (.con (.int 3499)) (.var 1))) (.bin .mul (.con (.int 73)) (.bi .int [.cmp .lt (.var 2) (.con (.int 0))]))) (.con (.int 101))), .ret (.lst [.var 4, .bin .mod (.var 5) (.con (.int 2147482801)), .con (.int 0)])]
def d__law_dice : Df := ⟨["_law_script", "_law_at"], ["_law_script", "_law_at", "_law_cell", "_law_great", "_law_left", "_law_mixed"], b__law_dice⟩
abbrev i__law_dice : Nat := 15
def b__law_roll : List Sm := [.asg (.nm 2) (.bi .int [.var 1]), .ite (.cmp .gt (.ix (.var 0) (.con (.int 0))) (.con (.int 0))) [.asg (.nm 5) (.bin .mod (.ix (.var 0) (.con (.int 0))) (.var 2)), .asg (.ix (.var 0) (.con (.int 0))) (.bin .fdiv (.ix (.var 0) (.con (.int 0))) (.var 2)), .ret (.bi .int [.var 5])] [], .asg (.ix (.var 0) (.con (.int 2))) (.bin .add (.ix (.var 0) (.con (.int 2))) (.con (.int 1))), .asg (.nm 3) (.bin .mod (.bin .add (.ix (.var 0) (.con (.int 1))) (.bin .mul (.con (.int 1000333)) (.ix (.var 0) (.con (.int 2))))) (.con (.int 2305843009213693951))), .asg (.nm 4) (.bin .add (.bin .mul (.bin .mod (.bin .mul (.var 3) (.var 3)) (.con (.int 2305843009213693921))) (.var 3)) (.bin .mul (.con (.int 9479)) (.ix (.var 0) (.con (.int 2))))), .asg (.nm 4) (.bin .mod (.var 4) (.con (.int 2305843009213693907))), .ret (.bi .int [.bin .mod (.bin .fdiv (.var 4) (.con (.int 4096))) (.var 2)])]
def d__law_roll : Df := ⟨["_law_dice_here", "_law_total"], ["_law_dice_here", "_law_total", "_law_size", "_law_one", "_law_two", "_law_drawn"], b__law_roll⟩
abbrev i__law_roll : Nat := 16
def b__law_one_of : List Sm := [.ret (.ix (.var 1) (.call 16 [.var 0, .bi .len [.var 1]]))]
def d__law_one_of : Df := ⟨["_law_dice_here", "_law_items"], ["_law_dice_here", "_law_items"], b__law_one_of⟩
abbrev i__law_one_of : Nat := 17
def b__law_stand : List Sm := [.asg (.tp [2, 3, 4]) (.tup [.lst [.tup [.con (.int 0), .con (.int 0)]], .con (.int 0), .con (.int 0)]), .for_ (.nm 1) .rng [.call 16 [.var 0, .con (.int 4)]] [.asg (.tp [3, 4]) (.tup [.bin .add (.bin .add (.var 3) (.con (.int 1))) (.call 16 [.var 0, .con (.int 2)]), .bin .add (.var 4) (.call 16 [.var 0, .con (.int 4)])]), .ex (.mt 0 .append (.var 2) [.tup [.var 3, .var 4]])], .ret (.tup [.bi .tuple [.var 2], .bin .add (.var 4) (.call 16 [.var 0, .con (.int 4)])])]
def d__law_stand : Df := ⟨["_law_dice_here"], ["_law_dice_here", "_law_turn", "_law_pairs", "_law_number", "_law_place"], b__law_stand⟩
abbrev i__law_stand : Nat := 18
def b__law_kin : List Sm := [.asg (.nm 2) (.call 16 [.var 0, .bin .add (.ix (.var 1) (.con (.int 1))) (.con (.int 1))]), .asg (.nm 3) (.lc (.var 4) [4] (.nm 4) .seq [.ix (.var 1) (.con (.int 0))] [.cmp .le (.ix (.var 4) (.con (.int 1))) (.var 2)]), .ite (.cmp .gt (.call 16 [.var 0, .con (.int 3)]) (.con (.int 0))) [.asg (.nm 3) (.bin .add (.var 3) (.lst [.tup [.bin .add (.bin .add (.ix (.ix (.var 3) (.neg (.con (.int 1)))) (.con (.int 0))) (.con (.int 1))) (.call 16 [.var 0, .con (.int 3)]), .var 2]]))] [], .ret (.tup [.bi .tuple [.var 3], .bin .add (.var 2) (.call 16 [.var 0, .con (.int 4)])])]
def d__law_kin : Df := ⟨["_law_dice_here", "_law_stand_here"], ["_law_dice_here", "_law_stand_here", "_law_place", "_law_pairs", "_law_pair"], b__law_kin⟩
abbrev i__law_kin : Nat := 19
def b__law_numbers : List Sm := [.asg (.nm 1) (.lst []), .for_ (.nm 2) .rng [.ix (.var 0) (.con (.int 1))] [.ex (.mt 0 .append (.var 1) [.bi .tuple [.lc (.var 3) [3] (.nm 3) .seq [.ix (.var 0) (.con (.int 0))] [.cmp .le (.ix (.var 3) (.con (.int 1))) (.var 2)]]])], .ret (.var 1)]
def d__law_numbers : Df := ⟨["_law_stand_here"], ["_law_stand_here", "_law_found", "_law_at", "_law_pair"], b__law_numbers⟩
abbrev i__law_numbers : Nat := 20
def b__law_shared : List Sm := [.asg (.tp [2, 3, 4]) (.tup [.call 20 [.var 0], .call 20 [.var 1], .con (.int 0)]), .wh (.and (.cmp .lt (.var 4) (.bi .min [.bi .len [.var 2], .bi .len [.var 3]])) (.cmp .eq (.ix (.var 2) (.var 4)) (.ix (.var 3) (.var 4)))) [.asg (.nm 4) (.bin .add (.var 4) (.con (.int 1)))], .ret (.var 4)]
def d__law_shared : Df := ⟨["_law_one", "_law_other"], ["_law_one", "_law_other", "_law_left", "_law_right_here", "_law_at"], b__law_shared⟩
abbrev i__law_shared : Nat := 21
def b__law_judged : List Sm := [.asg (.nm 2) (.call 21 [.var 0, .var 1]), .ite (.and (.cmp .eq (.ix (.var 0) (.con (.int 1))) (.var 2)) (.cmp .eq (.ix (.var 1) (.con (.int 1))) (.var 2))) [.ret (.tup [.con (.str [97, 108, 105, 107, 101]), .var 2])] [], .ite (.cmp .eq (.ix (.var 0) (.con (.int 1))) (.var 2)) [.ret (.tup [.con (.str [98, 101, 104, 105, 110, 100]), .var 2])] [], .ret (.ife (.cmp .eq (.ix (.var 1) (.con (.int 1))) (.var 2)) (.tup [.con (.str [97, 104, 101, 97, 100]), .var 2]) (.tup [.con (.str [112, 97, 114, 116, 101, 100]), .var 2]))]
def d__law_judged : Df := ⟨["_law_one", "_law_other"], ["_law_one", "_law_other", "_law_shared_here"], b__law_judged⟩
abbrev i__law_judged : Nat := 22
def b__law_is_stand : List Sm := [.ite (.or (.not (.bi .isinst [.var 0, .bty .tuple])) (.or (.cmp .ne (.bi .len [.var 0]) (.con (.int 2))) (.not (.bi .isinst [.ix (.var 0) (.con (.int 0)), .bty .tuple])))) [.ret (.con (.bl false))] [], .ite (.not (.chn .le .le (.con (.int 1)) (.bi .len [.ix (.var 0) (.con (.int 0))]) (.con (.int 20)))) [.ret (.con (.bl false))] [], .for_ (.nm 1) .seq [.ix (.var 0) (.con (.int 0))] [.ite (.or (.not (.bi .isinst [.var 1, .bty .tuple])) (.or (.cmp .ne (.bi .len [.var 1]) (.con (.int 2))) (.cmp .ne (.lc (.var 4) [4] (.nm 4) .seq [.var 1] [.not (.call 24 [.var 4])]) (.lst [])))) [.ret (.con (.bl false))] []], .ite (.or (.cmp .ne (.ix (.ix (.var 0) (.con (.int 0))) (.con (.int 0))) (.tup [.con (.int 0), .con (.int 0)])) (.or (.not (.call 24 [.ix (.var 0) (.con (.int 1))])) (.cmp .lt (.ix (.var 0) (.con (.int 1))) (.ix (.ix (.ix (.var 0) (.con (.int 0))) (.neg (.con (.int 1)))) (.con (.int 1)))))) [.ret (.con (.bl false))] [], .asg (.nm 2) (.lz [.ix (.var 0) (.con (.int 0)), .sl (.ix (.var 0) (.con (.int 0))) (.con (.int 1)) .nop]), .ret (.cmp .eq (.lc (.con (.int 1)) [1, 3] (.tp [1, 3]) .seq [.var 2] [.or (.cmp .ge (.ix (.var 1) (.con (.int 0))) (.ix (.var 3) (.con (.int 0)))) (.cmp .gt (.ix (.var 1) (.con (.int 1))) (.ix (.var 3) (.con (.int 1))))]) (.lst []))]
def d__law_is_stand : Df := ⟨["_law_value"], ["_law_value", "_law_pair", "_law_rows", "_law_later", "_law_one"], b__law_is_stand⟩
abbrev i__law_is_stand : Nat := 23
def b__law_is_number : List Sm := [.ret (.and (.bi .isinst [.var 0, .bty .int]) (.and (.not (.bi .isinst [.var 0, .bty .bool])) (.chn .le .le (.con (.int 0)) (.var 0) (.bin .pow (.con (.int 10)) (.con (.int 12))))))]
def d__law_is_number : Df := ⟨["_law_value"], ["_law_value"], b__law_is_number⟩
abbrev i__law_is_number : Nat := 24
def b__law_near : List Sm := [.asg (.tp [3, 4]) (.var 1), .asg (.tp [5, 6]) (.tup [.call 16 [.var 0, .bi .len [.var 3]], .call 16 [.var 0, .con (.int 8)]]), .ite (.cmp .lt (.var 6) (.con (.int 4))) [.asg (.tp [8, 9]) (.ix (.var 3) (.var 5)), .asg (.nm 7) (.ix (.lst [.tup [.bin .add (.var 8) (.con (.int 1)), .var 9], .tup [.var 8, .bin .add (.var 9) (.con (.int 1))], .tup [.bin .sub (.var 8) (.con (.int 1)), .con (.int 0)], .tup [.var 4, .var 4]]) (.var 6)), .ret (.tup [.bin .add (.bin .add (.sl (.var 3) .nop (.var 5)) (.tup [.var 7])) (.sl (.var 3) (.bin .add (.var 5) (.con (.int 1))) .nop), .var 4])] [], .ite (.cmp .eq (.var 6) (.con (.int 4))) [.ret (.tup [.sl (.var 3) (.var 5) .nop, .var 4])] [], .ite (.cmp .eq (.var 6) (.con (.int 5))) [.ret (.tup [.var 3, .bin .sub (.var 4) (.con (.int 1))])] [], .asg (.nm 2) (.lst [.con .non, .con (.int 0), .tup [], .var 3, .tup [.var 3], .tup [.var 3, .con .non], .tup [.var 3, .con (.bl true)], .tup [.bi .list [.var 3], .var 4], .bi .list [.var 1], .bin .add (.var 1) (.tup [.con (.int 0)])]), .asg (.nm 2) (.bin .add (.var 2) (.lst [.tup [.tup [], .var 4], .tup [.bin .add (.var 3) (.sl (.var 3) (.neg (.con (.int 1))) .nop), .var 4], .tup [.bin .add (.var 3) (.tup [.tup [.bin .add (.bin .pow (.con (.int 10)) (.con (.int 12))) (.con (.int 1)), .var 4]]), .var 4], .tup [.var 3, .con (.str [48])]])), .ret (.call 17 [.var 0, .bin .add (.var 2) (.lst [.tup [.bin .add (.var 3) (.tup [.tup [.con (.int 99), .var 4, .con (.int 0)]]), .var 4], .tup [.tup [.tup [.con (.int 0), .con (.int 0)], .tup [.con (.bl true), .con (.int 0)]], .con (.int 0)], .tup [.tup [.con (.int 0), .con (.int 0)], .con (.int 0)]])])]
def d__law_near : Df := ⟨["_law_dice_here", "_law_stand_here"], ["_law_dice_here", "_law_stand_here", "_law_some", "_law_pairs", "_law_place", "_law_at", "_law_way", "_law_one", "_law_number", "_law_begin"], b__law_near⟩
abbrev i__law_near : Nat := 25
def b__law_right : List Sm := [.asg (.nm 1) (.call 18 [.var 0]), .asg (.nm 2) (.call 19 [.var 0, .var 1]), .asg (.nm 3) (.ife (.cmp .eq (.call 16 [.var 0, .con (.int 2)]) (.con (.int 0))) (.call 19 [.var 0, .var 2]) (.call 18 [.var 0])), .for_ (.tp [7, 8]) .seq [.tup [.tup [.var 1, .var 2], .tup [.var 2, .var 1], .tup [.var 1, .var 3], .tup [.var 3, .var 2], .tup [.var 1, .var 1]]] [.ite (.or (.cmp .ne (.call 6 [.var 7, .var 8]) (.call 21 [.var 7, .var 8])) (.cmp .ne (.call 7 [.var 7, .var 8]) (.call 22 [.var 7, .var 8]))) [.ret (.con (.bl false))] [], .asg (.nm 9) (.cmp .gt (.tup [.ix (.ix (.ix (.var 7) (.con (.int 0))) (.neg (.con (.int 1)))) (.con (.int 0)), .ix (.var 7) (.con (.int 1))]) (.tup [.ix (.ix (.ix (.var 8) (.con (.int 0))) (.neg (.con (.int 1)))) (.con (.int 0)), .ix (.var 8) (.con (.int 1))])), .ite (.cmp .ne (.bi .repr [.call 8 [.var 7, .var 8]]) (.bi .repr [.var 9])) [.ret (.con (.bl false))] []], .asg (.nm 4) (.call 16 [.var 0, .bin .add (.ix (.var 1) (.con (.int 1))) (.con (.int 1))]), .asg (.nm 5) (.call 5 [.var 1, .var 4]), .ite (.or (.cmp .ne (.var 5) (.tup [.bi .tuple [.lc (.var 11) [11] (.nm 11) .seq [.ix (.var 1) (.con (.int 0))] [.cmp .le (.ix (.var 11) (.con (.int 1))) (.var 4)]], .var 4])) (.cmp .ne (.call 6 [.var 1, .var 5]) (.var 4))) [.ret (.con (.bl false))] [], .ite (.or (.cmp .ne (.call 7 [.var 5, .var 1]) (.tup [.ife (.cmp .eq (.var 4) (.ix (.var 1) (.con (.int 1)))) (.con (.str [97, 108, 105, 107, 101])) (.con (.str [98, 101, 104, 105, 110, 100])), .var 4])) (.not (.call 4 [.var 5]))) [.ret (.con (.bl false))] [], .for_ (.nm 6) .seq [.bin .add (.lst [.var 1, .var 2, .var 3]) (.lc (.call 25 [.var 0, .var 1]) [10] (.nm 10) .rng [.con (.int 8)] [])] [.ite (.cmp .ne (.bi .repr [.call 4 [.var 6]]) (.bi .repr [.call 23 [.var 6]])) [.ret (.con (.bl false))] []], .ret (.con (.bl true))]
def d__law_right : Df := ⟨["_law_dice_here"], ["_law_dice_here", "_law_one", "_law_other", "_law_third", "_law_place", "_law_kept", "_law_value", "_law_left", "_law_right_here", "_law_later", "_law_turn", "_law_pair"], b__law_right⟩
abbrev i__law_right : Nat := 26
def b_law : List Sm := [.for_ (.nm 1) .rng [.bi .max [.con (.int 1), .bi .min [.con (.int 5), .bi .len [.var 0]]]] [.asg (.nm 3) (.call 15 [.var 0, .var 1]), .for_ (.nm 4) .rng [.con (.int 2)] [.ite (.not (.call 26 [.var 3])) [.ret (.con (.bl false))] []]], .asg (.tp [5, 6]) (.tup [.tup [.tup [.tup [.con (.int 0), .con (.int 0)], .tup [.con (.int 1), .con (.int 5)]], .con (.int 8)], .tup [.tup [.tup [.con (.int 0), .con (.int 0)]], .con (.int 9)]]), .asg (.nm 2) (.lst [.call 7 [.var 5, .var 6], .call 7 [.var 6, .tup [.tup [.tup [.con (.int 0), .con (.int 0)]], .con (.int 4)]], .call 8 [.var 5, .var 6], .call 5 [.var 5, .con (.int 4)], .call 5 [.var 5, .con (.int 5)]]), .ret (.cmp .eq (.var 2) (.lst [.tup [.con (.str [112, 97, 114, 116, 101, 100]), .con (.int 5)], .tup [.con (.str [97, 104, 101, 97, 100]), .con (.int 4)], .con (.bl true), .tup [.tup [.tup [.con (.int 0), .con (.int 0)]], .con (.int 4)], .tup [.tup [.tup [.con (.int 0), .con (.int 0)], .tup [.con (.int 1), .con (.int 5)]], .con (.int 5)]]))]
def d_law : Df := ⟨["_law_script"], ["_law_script", "_law_at", "_law_told", "_law_dice_here", "_law_turn", "_law_one", "_law_other"], b_law⟩
abbrev i_law : Nat := 27
def defs : List Df := [d_is_within, d_check_within, d_is_branch, d__is_pair, d_is_stand, d_cut, d_shared_place, d_judged, d_is_later, d_lateness, d_check_stand, d__begun, d__cut, d__shared, d__limit, d__law_dice, d__law_roll, d__law_one_of, d__law_stand, d__law_kin, d__law_numbers, d__law_shared, d__law_judged, d__law_is_stand, d__law_is_number, d__law_near, d__law_right, d_law]
def gn : List Str := (["is_within", "check_within", "is_branch", "_is_pair", "is_stand", "cut", "shared_place", "judged", "is_later", "lateness", "check_stand", "_begun", "_cut", "_shared", "_limit", "_law_dice"] : List Str) ++ (["_law_roll", "_law_one_of", "_law_stand", "_law_kin", "_law_numbers", "_law_shared", "_law_judged", "_law_is_stand", "_law_is_number", "_law_near", "_law_right", "law", "MAX_PLACE", "MAX_BRANCH"] : List Str)
def nm : Nm := ⟨gn, []⟩
def T : Tb := ⟨[.fn 0, .fn 1, .fn 2, .fn 3, .fn 4, .fn 5, .fn 6, .fn 7, .fn 8, .fn 9, .fn 10, .fn 11, .fn 12, .fn 13, .fn 14, .fn 15, .fn 16, .fn 17, .fn 18, .fn 19, .fn 20, .fn 21, .fn 22, .fn 23, .fn 24, .fn 25, .fn 26, .fn 27, .int 1000000000000, .int 20], []⟩
abbrev s_is_within : Stmt := top 5
def D_is_within : He.DefD := ⟨("is_within", none), "is_within", "is_within", defArgs s_is_within, defBody s_is_within, defScope s_is_within, [], []⟩
abbrev s_check_within : Stmt := top 6
def D_check_within : He.DefD := ⟨("check_within", none), "check_within", "check_within", defArgs s_check_within, defBody s_check_within, defScope s_check_within, [], []⟩
abbrev s_is_branch : Stmt := top 10
def D_is_branch : He.DefD := ⟨("is_branch", none), "is_branch", "is_branch", defArgs s_is_branch, defBody s_is_branch, defScope s_is_branch, [], []⟩
abbrev s__is_pair : Stmt := top 11
def D__is_pair : He.DefD := ⟨("_is_pair", none), "_is_pair", "_is_pair", defArgs s__is_pair, defBody s__is_pair, defScope s__is_pair, [], []⟩
abbrev s_is_stand : Stmt := top 13
def D_is_stand : He.DefD := ⟨("is_stand", none), "is_stand", "is_stand", defArgs s_is_stand, defBody s_is_stand, defScope s_is_stand, [], []⟩
abbrev s_cut : Stmt := top 14
def D_cut : He.DefD := ⟨("cut", none), "cut", "cut", defArgs s_cut, defBody s_cut, defScope s_cut, [], []⟩
abbrev s_shared_place : Stmt := top 15
def D_shared_place : He.DefD := ⟨("shared_place", none), "shared_place", "shared_place", defArgs s_shared_place, defBody s_shared_place, defScope s_shared_place, [], []⟩
abbrev s_judged : Stmt := top 16
def D_judged : He.DefD := ⟨("judged", none), "judged", "judged", defArgs s_judged, defBody s_judged, defScope s_judged, [], []⟩
abbrev s_is_later : Stmt := top 17
def D_is_later : He.DefD := ⟨("is_later", none), "is_later", "is_later", defArgs s_is_later, defBody s_is_later, defScope s_is_later, [], []⟩
abbrev s_lateness : Stmt := top 18
def D_lateness : He.DefD := ⟨("lateness", none), "lateness", "lateness", defArgs s_lateness, defBody s_lateness, defScope s_lateness, [], []⟩
abbrev s_check_stand : Stmt := top 19
def D_check_stand : He.DefD := ⟨("check_stand", none), "check_stand", "check_stand", defArgs s_check_stand, defBody s_check_stand, defScope s_check_stand, [], []⟩
abbrev s__begun : Stmt := top 20
def D__begun : He.DefD := ⟨("_begun", none), "_begun", "_begun", defArgs s__begun, defBody s__begun, defScope s__begun, [], []⟩
abbrev s__cut : Stmt := top 21
def D__cut : He.DefD := ⟨("_cut", none), "_cut", "_cut", defArgs s__cut, defBody s__cut, defScope s__cut, [], []⟩
abbrev s__shared : Stmt := top 22
def D__shared : He.DefD := ⟨("_shared", none), "_shared", "_shared", defArgs s__shared, defBody s__shared, defScope s__shared, [], []⟩
abbrev s__limit : Stmt := top 23
def D__limit : He.DefD := ⟨("_limit", none), "_limit", "_limit", defArgs s__limit, defBody s__limit, defScope s__limit, [], []⟩
abbrev s__law_dice : Stmt := top 25
def D__law_dice : He.DefD := ⟨("_law_dice", none), "_law_dice", "_law_dice", defArgs s__law_dice, defBody s__law_dice, defScope s__law_dice, [], []⟩
abbrev s__law_roll : Stmt := top 26
def D__law_roll : He.DefD := ⟨("_law_roll", none), "_law_roll", "_law_roll", defArgs s__law_roll, defBody s__law_roll, defScope s__law_roll, [], []⟩
abbrev s__law_one_of : Stmt := top 27
def D__law_one_of : He.DefD := ⟨("_law_one_of", none), "_law_one_of", "_law_one_of", defArgs s__law_one_of, defBody s__law_one_of, defScope s__law_one_of, [], []⟩
abbrev s__law_stand : Stmt := top 28
def D__law_stand : He.DefD := ⟨("_law_stand", none), "_law_stand", "_law_stand", defArgs s__law_stand, defBody s__law_stand, defScope s__law_stand, [], []⟩
abbrev s__law_kin : Stmt := top 29
def D__law_kin : He.DefD := ⟨("_law_kin", none), "_law_kin", "_law_kin", defArgs s__law_kin, defBody s__law_kin, defScope s__law_kin, [], []⟩
abbrev s__law_numbers : Stmt := top 30
def D__law_numbers : He.DefD := ⟨("_law_numbers", none), "_law_numbers", "_law_numbers", defArgs s__law_numbers, defBody s__law_numbers, defScope s__law_numbers, [], []⟩
abbrev s__law_shared : Stmt := top 31
def D__law_shared : He.DefD := ⟨("_law_shared", none), "_law_shared", "_law_shared", defArgs s__law_shared, defBody s__law_shared, defScope s__law_shared, [], []⟩
abbrev s__law_judged : Stmt := top 32
def D__law_judged : He.DefD := ⟨("_law_judged", none), "_law_judged", "_law_judged", defArgs s__law_judged, defBody s__law_judged, defScope s__law_judged, [], []⟩
abbrev s__law_is_stand : Stmt := top 33
def D__law_is_stand : He.DefD := ⟨("_law_is_stand", none), "_law_is_stand", "_law_is_stand", defArgs s__law_is_stand, defBody s__law_is_stand, defScope s__law_is_stand, [], []⟩
abbrev s__law_is_number : Stmt := top 34
def D__law_is_number : He.DefD := ⟨("_law_is_number", none), "_law_is_number", "_law_is_number", defArgs s__law_is_number, defBody s__law_is_number, defScope s__law_is_number, [], []⟩
abbrev s__law_near : Stmt := top 35
def D__law_near : He.DefD := ⟨("_law_near", none), "_law_near", "_law_near", defArgs s__law_near, defBody s__law_near, defScope s__law_near, [], []⟩
abbrev s__law_right : Stmt := top 36
def D__law_right : He.DefD := ⟨("_law_right", none), "_law_right", "_law_right", defArgs s__law_right, defBody s__law_right, defScope s__law_right, [], []⟩
abbrev s_law : Stmt := top 37
def D_law : He.DefD := ⟨("law", none), "law", "law", defArgs s_law, defBody s_law, defScope s_law, [], []⟩
def fn : List He.DefD := [D_is_within, D_check_within, D_is_branch, D__is_pair, D_is_stand, D_cut, D_shared_place, D_judged, D_is_later, D_lateness, D_check_stand, D__begun, D__cut, D__shared, D__limit, D__law_dice, D__law_roll, D__law_one_of, D__law_stand, D__law_kin, D__law_numbers, D__law_shared, D__law_judged, D__law_is_stand, D__law_is_number, D__law_near, D__law_right, D_law]
def fa : List He.Fa := [.glo "is_within", .glo "check_within", .glo "is_branch", .glo "_is_pair", .glo "is_stand", .glo "cut", .glo "shared_place", .glo "judged", .glo "is_later", .glo "lateness", .glo "check_stand", .glo "_begun", .glo "_cut", .glo "_shared", .glo "_limit", .glo "_law_dice", .glo "_law_roll", .glo "_law_one_of", .glo "_law_stand", .glo "_law_kin", .glo "_law_numbers", .glo "_law_shared", .glo "_law_judged", .glo "_law_is_stand", .glo "_law_is_number", .glo "_law_near", .glo "_law_right", .glo "law", .int "MAX_PLACE" 1000000000000, .int "MAX_BRANCH" 20, .free "len", .free "abs", .free "max", .free "min", .free "int", .free "str", .free "bool", .free "list", .free "tuple", .free "sorted", .free "sum", .free "any", .free "all", .free "ord", .free "isinstance", .free "repr", .free "dict", .free "range", .free "enumerate", .free "zip", .free "reversed"]
def loose : List Str := (["__name__", "DeedError", "InvalidOperation", "InvalidNumber", "is_within", "check_within", "MAX_PLACE", "MAX_BRANCH", "is_branch", "_is_pair", "is_stand", "cut", "shared_place", "judged", "is_later", "lateness"] : List Str) ++ (["check_stand", "_begun", "_cut", "_shared", "_limit", "_law_dice", "_law_roll", "_law_one_of", "_law_stand", "_law_kin", "_law_numbers", "_law_shared", "_law_judged", "_law_is_stand", "_law_is_number", "_law_near"] : List Str) ++ (["_law_right"] : List Str)
abbrev lawTop : Nat := 37
section
variable {K : PySem.W.Frag} {h : Heap} {mg : Str → Option Value}
def names : List Str := ["is_within", "check_within", "is_branch", "_is_pair", "is_stand", "cut", "shared_place", "judged", "is_later", "lateness", "check_stand", "_begun", "_cut", "_shared", "_limit", "_law_dice", "_law_roll", "_law_one_of", "_law_stand", "_law_kin", "_law_numbers", "_law_shared", "_law_judged", "_law_is_stand", "_law_is_number", "_law_near", "_law_right", "law"]
def gm (K : PySem.W.Frag) : Gm := { K := K, fa := fun i => He.fAd K ((names.getD i Str.empty), none), ca := fun _ => 0, an := [] }
theorem c_is_within : chkSs T nm (d_is_within.fx (defScope s_is_within)) d_is_within.body (defBody s_is_within) = true := by decide +kernel
theorem S_is_within : FnScope d_is_within.N d_is_within.ps (defScope s_is_within) := ⟨rfl, rfl, rfl, by decide +kernel, rfl, by decide +kernel, by decide +kernel⟩
theorem k_is_within (c : He.SaysD fa fn K) : ∃ fd, DOk (gm K) T nm K 0 d_is_within fd := by
  obtain ⟨fd, F⟩ := c.def_ 0 (d := D_is_within) rfl
  exact ⟨fd, ⟨_, _, _, _, _, ⟨_, _, F⟩, S_is_within, .inl c_is_within⟩, F.bindsN fun _ _ _ _ _ _ us hl => match us, hl with | [_, _, _], _ => rfl, F.kp⟩
theorem c_check_within : chkSs T nm (d_check_within.fx (defScope s_check_within)) d_check_within.body (defBody s_check_within) = true := by decide +kernel
theorem S_check_within : FnScope d_check_within.N d_check_within.ps (defScope s_check_within) := ⟨rfl, rfl, rfl, by decide +kernel, rfl, by decide +kernel, by decide +kernel⟩
theorem k_check_within (c : He.SaysD fa fn K) : ∃ fd, DOk (gm K) T nm K 1 d_check_within fd := by
  obtain ⟨fd, F⟩ := c.def_ 1 (d := D_check_within) rfl
  exact ⟨fd, ⟨_, _, _, _, _, ⟨_, _, F⟩, S_check_within, .inl c_check_within⟩, F.bindsN fun _ _ _ _ _ _ us hl => match us, hl with | [_, _, _], _ => rfl, F.kp⟩
theorem c_is_branch : chkSs T nm (d_is_branch.fx (defScope s_is_branch)) d_is_branch.body (defBody s_is_branch) = true := by decide +kernel
theorem S_is_branch : FnScope d_is_branch.N d_is_branch.ps (defScope s_is_branch) := ⟨rfl, rfl, rfl, by decide +kernel, rfl, by decide +kernel, by decide +kernel⟩
theorem k_is_branch (c : He.SaysD fa fn K) : ∃ fd, DOk (gm K) T nm K 2 d_is_branch fd := by
  obtain ⟨fd, F⟩ := c.def_ 2 (d := D_is_branch) rfl
  exact ⟨fd, ⟨_, _, _, _, _, ⟨_, _, F⟩, S_is_branch, .inl c_is_branch⟩, F.bindsN fun _ _ _ _ _ _ us hl => match us, hl with | [_], _ => rfl, F.kp⟩
theorem c__is_pair : chkSs T nm (d__is_pair.fx (defScope s__is_pair)) d__is_pair.body (defBody s__is_pair) = true := by decide +kernel
theorem S__is_pair : FnScope d__is_pair.N d__is_pair.ps (defScope s__is_pair) := ⟨rfl, rfl, rfl, by decide +kernel, rfl, by decide +kernel, by decide +kernel⟩
theorem k__is_pair (c : He.SaysD fa fn K) : ∃ fd, DOk (gm K) T nm K 3 d__is_pair fd := by
  obtain ⟨fd, F⟩ := c.def_ 3 (d := D__is_pair) rfl
  exact ⟨fd, ⟨_, _, _, _, _, ⟨_, _, F⟩, S__is_pair, .inl c__is_pair⟩, F.bindsN fun _ _ _ _ _ _ us hl => match us, hl with | [_], _ => rfl, F.kp⟩
theorem c_is_stand : chkSs T nm (d_is_stand.fx (defScope s_is_stand)) d_is_stand.body (defBody s_is_stand) = true := by decide +kernel
theorem S_is_stand : FnScope d_is_stand.N d_is_stand.ps (defScope s_is_stand) := ⟨rfl, rfl, rfl, by decide +kernel, rfl, by decide +kernel, by decide +kernel⟩
theorem k_is_stand (c : He.SaysD fa fn K) : ∃ fd, DOk (gm K) T nm K 4 d_is_stand fd := by
  obtain ⟨fd, F⟩ := c.def_ 4 (d := D_is_stand) rfl
  exact ⟨fd, ⟨_, _, _, _, _, ⟨_, _, F⟩, S_is_stand, .inl c_is_stand⟩, F.bindsN fun _ _ _ _ _ _ us hl => match us, hl with | [_], _ => rfl, F.kp⟩
theorem c_cut : chkSs T nm (d_cut.fx (defScope s_cut)) d_cut.body (defBody s_cut) = true := by decide +kernel
theorem S_cut : FnScope d_cut.N d_cut.ps (defScope s_cut) := ⟨rfl, rfl, rfl, by decide +kernel, rfl, by decide +kernel, by decide +kernel⟩
theorem k_cut (c : He.SaysD fa fn K) : ∃ fd, DOk (gm K) T nm K 5 d_cut fd := by
  obtain ⟨fd, F⟩ := c.def_ 5 (d := D_cut) rfl
  exact ⟨fd, ⟨_, _, _, _, _, ⟨_, _, F⟩, S_cut, .inl c_cut⟩, F.bindsN fun _ _ _ _ _ _ us hl => match us, hl with | [_, _], _ => rfl, F.kp⟩
theorem c_shared_place : chkSs T nm (d_shared_place.fx (defScope s_shared_place)) d_shared_place.body (defBody s_shared_place) = true := by decide +kernel
theorem S_shared_place : FnScope d_shared_place.N d_shared_place.ps (defScope s_shared_place) := ⟨rfl, rfl, rfl, by decide +kernel, rfl, by decide +kernel, by decide +kernel⟩
theorem k_shared_place (c : He.SaysD fa fn K) : ∃ fd, DOk (gm K) T nm K 6 d_shared_place fd := by
  obtain ⟨fd, F⟩ := c.def_ 6 (d := D_shared_place) rfl
  exact ⟨fd, ⟨_, _, _, _, _, ⟨_, _, F⟩, S_shared_place, .inl c_shared_place⟩, F.bindsN fun _ _ _ _ _ _ us hl => match us, hl with | [_, _], _ => rfl, F.kp⟩
theorem c_judged : chkSs T nm (d_judged.fx (defScope s_judged)) d_judged.body (defBody s_judged) = true := by decide +kernel
theorem S_judged : FnScope d_judged.N d_judged.ps (defScope s_judged) := ⟨rfl, rfl, rfl, by decide +kernel, rfl, by decide +kernel, by decide +kernel⟩
theorem k_judged (c : He.SaysD fa fn K) : ∃ fd, DOk (gm K) T nm K 7 d_judged fd := by
  obtain ⟨fd, F⟩ := c.def_ 7 (d := D_judged) rfl
  exact ⟨fd, ⟨_, _, _, _, _, ⟨_, _, F⟩, S_judged, .inl c_judged⟩, F.bindsN fun _ _ _ _ _ _ us hl => match us, hl with | [_, _], _ => rfl, F.kp⟩
theorem c_is_later : chkSs T nm (d_is_later.fx (defScope s_is_later)) d_is_later.body (defBody s_is_later) = true := by decide +kernel
theorem S_is_later : FnScope d_is_later.N d_is_later.ps (defScope s_is_later) := ⟨rfl, rfl, rfl, by decide +kernel, rfl, by decide +kernel, by decide +kernel⟩
theorem k_is_later (c : He.SaysD fa fn K) : ∃ fd, DOk (gm K) T nm K 8 d_is_later fd := by
  obtain ⟨fd, F⟩ := c.def_ 8 (d := D_is_later) rfl
  exact ⟨fd, ⟨_, _, _, _, _, ⟨_, _, F⟩, S_is_later, .inl c_is_later⟩, F.bindsN fun _ _ _ _ _ _ us hl => match us, hl with | [_, _], _ => rfl, F.kp⟩
theorem c_lateness : chkSs T nm (d_lateness.fx (defScope s_lateness)) d_lateness.body (defBody s_lateness) = true := by decide +kernel
theorem S_lateness : FnScope d_lateness.N d_lateness.ps (defScope s_lateness) := ⟨rfl, rfl, rfl, by decide +kernel, rfl, by decide +kernel, by decide +kernel⟩
theorem k_lateness (c : He.SaysD fa fn K) : ∃ fd, DOk (gm K) T nm K 9 d_lateness fd := by
  obtain ⟨fd, F⟩ := c.def_ 9 (d := D_lateness) rfl
  exact ⟨fd, ⟨_, _, _, _, _, ⟨_, _, F⟩, S_lateness, .inl c_lateness⟩, F.bindsN fun _ _ _ _ _ _ us hl => match us, hl with | [_], _ => rfl, F.kp⟩
theorem c_check_stand : chkSs T nm (d_check_stand.fx (defScope s_check_stand)) d_check_stand.body (defBody s_check_stand) = true := by decide +kernel
theorem S_check_stand : FnScope d_check_stand.N d_check_stand.ps (defScope s_check_stand) := ⟨rfl, rfl, rfl, by decide +kernel, rfl, by decide +kernel, by decide +kernel⟩
theorem k_check_stand (c : He.SaysD fa fn K) : ∃ fd, DOk (gm K) T nm K 10 d_check_stand fd := by
  obtain ⟨fd, F⟩ := c.def_ 10 (d := D_check_stand) rfl
  exact ⟨fd, ⟨_, _, _, _, _, ⟨_, _, F⟩, S_check_stand, .inl c_check_stand⟩, F.bindsN fun _ _ _ _ _ _ us hl => match us, hl with | [_], _ => rfl, F.kp⟩
theorem c__begun : chkSs T nm (d__begun.fx (defScope s__begun)) d__begun.body (defBody s__begun) = true := by decide +kernel
theorem S__begun : FnScope d__begun.N d__begun.ps (defScope s__begun) := ⟨rfl, rfl, rfl, by decide +kernel, rfl, by decide +kernel, by decide +kernel⟩
theorem k__begun (c : He.SaysD fa fn K) : ∃ fd, DOk (gm K) T nm K 11 d__begun fd := by
  obtain ⟨fd, F⟩ := c.def_ 11 (d := D__begun) rfl
  exact ⟨fd, ⟨_, _, _, _, _, ⟨_, _, F⟩, S__begun, .inl c__begun⟩, F.bindsN fun _ _ _ _ _ _ us hl => match us, hl with | [_, _], _ => rfl, F.kp⟩
theorem c__cut : chkSs T nm (d__cut.fx (defScope s__cut)) d__cut.body (defBody s__cut) = true := by decide +kernel
theorem S__cut : FnScope d__cut.N d__cut.ps (defScope s__cut) := ⟨rfl, rfl, rfl, by decide +kernel, rfl, by decide +kernel, by decide +kernel⟩
theorem k__cut (c : He.SaysD fa fn K) : ∃ fd, DOk (gm K) T nm K 12 d__cut fd := by
  obtain ⟨fd, F⟩ := c.def_ 12 (d := D__cut) rfl
  exact ⟨fd, ⟨_, _, _, _, _, ⟨_, _, F⟩, S__cut, .inl c__cut⟩, F.bindsN fun _ _ _ _ _ _ us hl => match us, hl with | [_, _], _ => rfl, F.kp⟩
theorem c__shared : chkSs T nm (d__shared.fx (defScope s__shared)) d__shared.body (defBody s__shared) = true := by decide +kernel
theorem S__shared : FnScope d__shared.N d__shared.ps (defScope s__shared) := ⟨rfl, rfl, rfl, by decide +kernel, rfl, by decide +kernel, by decide +kernel⟩
theorem k__shared (c : He.SaysD fa fn K) : ∃ fd, DOk (gm K) T nm K 13 d__shared fd := by
  obtain ⟨fd, F⟩ := c.def_ 13 (d := D__shared) rfl
  exact ⟨fd, ⟨_, _, _, _, _, ⟨_, _, F⟩, S__shared, .inl c__shared⟩, F.bindsN fun _ _ _ _ _ _ us hl => match us, hl with | [_, _], _ => rfl, F.kp⟩
theorem c__limit : chkSs T nm (d__limit.fx (defScope s__limit)) d__limit.body (defBody s__limit) = true := by decide +kernel
theorem S__limit : FnScope d__limit.N d__limit.ps (defScope s__limit) := ⟨rfl, rfl, rfl, by decide +kernel, rfl, by decide +kernel, by decide +kernel⟩
theorem k__limit (c : He.SaysD fa fn K) : ∃ fd, DOk (gm K) T nm K 14 d__limit fd := by
  obtain ⟨fd, F⟩ := c.def_ 14 (d := D__limit) rfl
  exact ⟨fd, ⟨_, _, _, _, _, ⟨_, _, F⟩, S__limit, .inl c__limit⟩, F.bindsN fun _ _ _ _ _ _ us hl => match us, hl with | [_, _], _ => rfl, F.kp⟩
theorem c__law_dice : chkSs T nm (d__law_dice.fx (defScope s__law_dice)) d__law_dice.body (defBody s__law_dice) = true := by decide +kernel
theorem S__law_dice : FnScope d__law_dice.N d__law_dice.ps (defScope s__law_dice) := ⟨rfl, rfl, rfl, by decide +kernel, rfl, by decide +kernel, by decide +kernel⟩
theorem k__law_dice (c : He.SaysD fa fn K) : ∃ fd, DOk (gm K) T nm K 15 d__law_dice fd := by
  obtain ⟨fd, F⟩ := c.def_ 15 (d := D__law_dice) rfl
  exact ⟨fd, ⟨_, _, _, _, _, ⟨_, _, F⟩, S__law_dice, .inl c__law_dice⟩, F.bindsN fun _ _ _ _ _ _ us hl => match us, hl with | [_, _], _ => rfl, F.kp⟩
theorem c__law_roll : chkSs T nm (d__law_roll.fx (defScope s__law_roll)) d__law_roll.body (defBody s__law_roll) = true := by decide +kernel
theorem S__law_roll : FnScope d__law_roll.N d__law_roll.ps (defScope s__law_roll) := ⟨rfl, rfl, rfl, by decide +kernel, rfl, by decide +kernel, by decide +kernel⟩
theorem k__law_roll (c : He.SaysD fa fn K) : ∃ fd, DOk (gm K) T nm K 16 d__law_roll fd := by
  obtain ⟨fd, F⟩ := c.def_ 16 (d := D__law_roll) rfl
  exact ⟨fd, ⟨_, _, _, _, _, ⟨_, _, F⟩, S__law_roll, .inl c__law_roll⟩, F.bindsN fun _ _ _ _ _ _ us hl => match us, hl with | [_, _], _ => rfl, F.kp⟩
theorem c__law_one_of : chkSs T nm (d__law_one_of.fx (defScope s__law_one_of)) d__law_one_of.body (defBody s__law_one_of) = true := by decide +kernel
theorem S__law_one_of : FnScope d__law_one_of.N d__law_one_of.ps (defScope s__law_one_of) := ⟨rfl, rfl, rfl, by decide +kernel, rfl, by decide +kernel, by decide +kernel⟩
theorem k__law_one_of (c : He.SaysD fa fn K) : ∃ fd, DOk (gm K) T nm K 17 d__law_one_of fd := by
  obtain ⟨fd, F⟩ := c.def_ 17 (d := D__law_one_of) rfl
  exact ⟨fd, ⟨_, _, _, _, _, ⟨_, _, F⟩, S__law_one_of, .inl c__law_one_of⟩, F.bindsN fun _ _ _ _ _ _ us hl => match us, hl with | [_, _], _ => rfl, F.kp⟩
theorem c__law_stand : chkSs T nm (d__law_stand.fx (defScope s__law_stand)) d__law_stand.body (defBody s__law_stand) = true := by decide +kernel
theorem S__law_stand : FnScope d__law_stand.N d__law_stand.ps (defScope s__law_stand) := ⟨rfl, rfl, rfl, by decide +kernel, rfl, by decide +kernel, by decide +kernel⟩
theorem k__law_stand (c : He.SaysD fa fn K) : ∃ fd, DOk (gm K) T nm K 18 d__law_stand fd := by
  obtain ⟨fd, F⟩ := c.def_ 18 (d := D__law_stand) rfl
  exact ⟨fd, ⟨_, _, _, _, _, ⟨_, _, F⟩, S__law_stand, .inl c__law_stand⟩, F.bindsN fun _ _ _ _ _ _ us hl => match us, hl with | [_], _ => rfl, F.kp⟩
theorem c__law_kin : chkSs T nm (d__law_kin.fx (defScope s__law_kin)) d__law_kin.body (defBody s__law_kin) = true := by decide +kernel
theorem S__law_kin : FnScope d__law_kin.N d__law_kin.ps (defScope s__law_kin) := ⟨rfl, rfl, rfl, by decide +kernel, rfl, by decide +kernel, by decide +kernel⟩
theorem k__law_kin (c : He.SaysD fa fn K) : ∃ fd, DOk (gm K) T nm K 19 d__law_kin fd := by
  obtain ⟨fd, F⟩ := c.def_ 19 (d := D__law_kin) rfl
  exact ⟨fd, ⟨_, _, _, _, _, ⟨_, _, F⟩, S__law_kin, .inl c__law_kin⟩, F.bindsN fun _ _ _ _ _ _ us hl => match us, hl with | [_, _], _ => rfl, F.kp⟩
theorem c__law_numbers : chkSs T nm (d__law_numbers.fx (defScope s__law_numbers)) d__law_numbers.body (defBody s__law_numbers) = true := by decide +kernel
theorem S__law_numbers : FnScope d__law_numbers.N d__law_numbers.ps (defScope s__law_numbers) := ⟨rfl, rfl, rfl, by decide +kernel, rfl, by decide +kernel, by decide +kernel⟩
theorem k__law_numbers (c : He.SaysD fa fn K) : ∃ fd, DOk (gm K) T nm K 20 d__law_numbers fd := by
  obtain ⟨fd, F⟩ := c.def_ 20 (d := D__law_numbers) rfl
  exact ⟨fd, ⟨_, _, _, _, _, ⟨_, _, F⟩, S__law_numbers, .inl c__law_numbers⟩, F.bindsN fun _ _ _ _ _ _ us hl => match us, hl with | [_], _ => rfl, F.kp⟩
theorem c__law_shared : chkSs T nm (d__law_shared.fx (defScope s__law_shared)) d__law_shared.body (defBody s__law_shared) = true := by decide +kernel
theorem S__law_shared : FnScope d__law_shared.N d__law_shared.ps (defScope s__law_shared) := ⟨rfl, rfl, rfl, by decide +kernel, rfl, by decide +kernel, by decide +kernel⟩
theorem k__law_shared (c : He.SaysD fa fn K) : ∃ fd, DOk (gm K) T nm K 21 d__law_shared fd := by
  obtain ⟨fd, F⟩ := c.def_ 21 (d := D__law_shared) rfl
  exact ⟨fd, ⟨_, _, _, _, _, ⟨_, _, F⟩, S__law_shared, .inl c__law_shared⟩, F.bindsN fun _ _ _ _ _ _ us hl => match us, hl with | [_, _], _ => rfl, F.kp⟩
theorem c__law_judged : chkSs T nm (d__law_judged.fx (defScope s__law_judged)) d__law_judged.body (defBody s__law_judged) = true := by decide +kernel
theorem S__law_judged : FnScope d__law_judged.N d__law_judged.ps (defScope s__law_judged) := ⟨rfl, rfl, rfl, by decide +kernel, rfl, by decide +kernel, by decide +kernel⟩
theorem k__law_judged (c : He.SaysD fa fn K) : ∃ fd, DOk (gm K) T nm K 22 d__law_judged fd := by
  obtain ⟨fd, F⟩ := c.def_ 22 (d := D__law_judged) rfl
  exact ⟨fd, ⟨_, _, _, _, _, ⟨_, _, F⟩, S__law_judged, .inl c__law_judged⟩, F.bindsN fun _ _ _ _ _ _ us hl => match us, hl with | [_, _], _ => rfl, F.kp⟩
theorem c__law_is_stand : chkSs T nm (d__law_is_stand.fx (defScope s__law_is_stand)) d__law_is_stand.body (defBody s__law_is_stand) = true := by decide +kernel
theorem S__law_is_stand : FnScope d__law_is_stand.N d__law_is_stand.ps (defScope s__law_is_stand) := ⟨rfl, rfl, rfl, by decide +kernel, rfl, by decide +kernel, by decide +kernel⟩
theorem k__law_is_stand (c : He.SaysD fa fn K) : ∃ fd, DOk (gm K) T nm K 23 d__law_is_stand fd := by
  obtain ⟨fd, F⟩ := c.def_ 23 (d := D__law_is_stand) rfl
  exact ⟨fd, ⟨_, _, _, _, _, ⟨_, _, F⟩, S__law_is_stand, .inl c__law_is_stand⟩, F.bindsN fun _ _ _ _ _ _ us hl => match us, hl with | [_], _ => rfl, F.kp⟩
theorem c__law_is_number : chkSs T nm (d__law_is_number.fx (defScope s__law_is_number)) d__law_is_number.body (defBody s__law_is_number) = true := by decide +kernel
theorem S__law_is_number : FnScope d__law_is_number.N d__law_is_number.ps (defScope s__law_is_number) := ⟨rfl, rfl, rfl, by decide +kernel, rfl, by decide +kernel, by decide +kernel⟩
theorem k__law_is_number (c : He.SaysD fa fn K) : ∃ fd, DOk (gm K) T nm K 24 d__law_is_number fd := by
  obtain ⟨fd, F⟩ := c.def_ 24 (d := D__law_is_number) rfl
  exact ⟨fd, ⟨_, _, _, _, _, ⟨_, _, F⟩, S__law_is_number, .inl c__law_is_number⟩, F.bindsN fun _ _ _ _ _ _ us hl => match us, hl with | [_], _ => rfl, F.kp⟩
theorem c__law_near : chkSs T nm (d__law_near.fx (defScope s__law_near)) d__law_near.body (defBody s__law_near) = true := by decide +kernel
theorem S__law_near : FnScope d__law_near.N d__law_near.ps (defScope s__law_near) := ⟨rfl, rfl, rfl, by decide +kernel, rfl, by decide +kernel, by decide +kernel⟩
theorem k__law_near (c : He.SaysD fa fn K) : ∃ fd, DOk (gm K) T nm K 25 d__law_near fd := by
  obtain ⟨fd, F⟩ := c.def_ 25 (d := D__law_near) rfl
  exact ⟨fd, ⟨_, _, _, _, _, ⟨_, _, F⟩, S__law_near, .inl c__law_near⟩, F.bindsN fun _ _ _ _ _ _ us hl => match us, hl with | [_, _], _ => rfl, F.kp⟩
theorem c__law_right : chkSs T nm (d__law_right.fx (defScope s__law_right)) d__law_right.body (defBody s__law_right) = true := by decide +kernel
theorem S__law_right : FnScope d__law_right.N d__law_right.ps (defScope s__law_right) := ⟨rfl, rfl, rfl, by decide +kernel, rfl, by decide +kernel, by decide +kernel⟩
theorem k__law_right (c : He.SaysD fa fn K) : ∃ fd, DOk (gm K) T nm K 26 d__law_right fd := by
  obtain ⟨fd, F⟩ := c.def_ 26 (d := D__law_right) rfl
  exact ⟨fd, ⟨_, _, _, _, _, ⟨_, _, F⟩, S__law_right, .inl c__law_right⟩, F.bindsN fun _ _ _ _ _ _ us hl => match us, hl with | [_], _ => rfl, F.kp⟩
theorem c_law : chkSs T nm (d_law.fx (defScope s_law)) d_law.body (defBody s_law) = true := by decide +kernel
theorem S_law : FnScope d_law.N d_law.ps (defScope s_law) := ⟨rfl, rfl, rfl, by decide +kernel, rfl, by decide +kernel, by decide +kernel⟩
theorem k_law (c : He.SaysD fa fn K) : ∃ fd, DOk (gm K) T nm K 27 d_law fd := by
  obtain ⟨fd, F⟩ := c.def_ 27 (d := D_law) rfl
  exact ⟨fd, ⟨_, _, _, _, _, ⟨_, _, F⟩, S_law, .inl c_law⟩, F.bindsN fun _ _ _ _ _ _ us hl => match us, hl with | [_], _ => rfl, F.kp⟩
theorem dok (c : He.SaysD fa fn K) : ∀ i d, defs[i]? = some d → ∃ fd, DOk (gm K) T nm K i d fd
  | 0, _, e => by cases e; exact k_is_within c
  | 1, _, e => by cases e; exact k_check_within c
  | 2, _, e => by cases e; exact k_is_branch c
  | 3, _, e => by cases e; exact k__is_pair c
  | 4, _, e => by cases e; exact k_is_stand c
  | 5, _, e => by cases e; exact k_cut c
  | 6, _, e => by cases e; exact k_shared_place c
  | 7, _, e => by cases e; exact k_judged c
  | 8, _, e => by cases e; exact k_is_later c
  | 9, _, e => by cases e; exact k_lateness c
  | 10, _, e => by cases e; exact k_check_stand c
  | 11, _, e => by cases e; exact k__begun c
  | 12, _, e => by cases e; exact k__cut c
  | 13, _, e => by cases e; exact k__shared c
  | 14, _, e => by cases e; exact k__limit c
  | 15, _, e => by cases e; exact k__law_dice c
  | 16, _, e => by cases e; exact k__law_roll c
  | 17, _, e => by cases e; exact k__law_one_of c
  | 18, _, e => by cases e; exact k__law_stand c
  | 19, _, e => by cases e; exact k__law_kin c
  | 20, _, e => by cases e; exact k__law_numbers c
  | 21, _, e => by cases e; exact k__law_shared c
  | 22, _, e => by cases e; exact k__law_judged c
  | 23, _, e => by cases e; exact k__law_is_stand c
  | 24, _, e => by cases e; exact k__law_is_number c
  | 25, _, e => by cases e; exact k__law_near c
  | 26, _, e => by cases e; exact k__law_right c
  | 27, _, e => by cases e; exact k_law c
  | n + 28, _, e => by simp [defs] at e
theorem gls (X : K.In h) (G : h.Ns mainGlobals mg) (c : He.SaysD fa fn K) : ∀ (g : Nat) (x : Str) (v : PV), nm.gn[g]? = some x → T.glob[g]? = some v → ∃ u, mg x = some u ∧ RelG (gm K) v u
  | 0, _, _, e1, e2 => by cases e1; cases e2; exact ⟨_, He.glo_ok X G (c.fact 0 (f := .glo "is_within") rfl), .ref _, rfl, fun as H => by unfold RepV; rfl⟩
  | 1, _, _, e1, e2 => by cases e1; cases e2; exact ⟨_, He.glo_ok X G (c.fact 1 (f := .glo "check_within") rfl), .ref _, rfl, fun as H => by unfold RepV; rfl⟩
  | 2, _, _, e1, e2 => by cases e1; cases e2; exact ⟨_, He.glo_ok X G (c.fact 2 (f := .glo "is_branch") rfl), .ref _, rfl, fun as H => by unfold RepV; rfl⟩
  | 3, _, _, e1, e2 => by cases e1; cases e2; exact ⟨_, He.glo_ok X G (c.fact 3 (f := .glo "_is_pair") rfl), .ref _, rfl, fun as H => by unfold RepV; rfl⟩
  | 4, _, _, e1, e2 => by cases e1; cases e2; exact ⟨_, He.glo_ok X G (c.fact 4 (f := .glo "is_stand") rfl), .ref _, rfl, fun as H => by unfold RepV; rfl⟩
  | 5, _, _, e1, e2 => by cases e1; cases e2; exact ⟨_, He.glo_ok X G (c.fact 5 (f := .glo "cut") rfl), .ref _, rfl, fun as H => by unfold RepV; rfl⟩
  | 6, _, _, e1, e2 => by cases e1; cases e2; exact ⟨_, He.glo_ok X G (c.fact 6 (f := .glo "shared_place") rfl), .ref _, rfl, fun as H => by unfold RepV; rfl⟩
  | 7, _, _, e1, e2 => by cases e1; cases e2; exact ⟨_, He.glo_ok X G (c.fact 7 (f := .glo "judged") rfl), .ref _, rfl, fun as H => by unfold RepV; rfl⟩
  | 8, _, _, e1, e2 => by cases e1; cases e2; exact ⟨_, He.glo_ok X G (c.fact 8 (f := .glo "is_later") rfl), .ref _, rfl, fun as H => by unfold RepV; rfl⟩
  | 9, _, _, e1, e2 => by cases e1; cases e2; exact ⟨_, He.glo_ok X G (c.fact 9 (f := .glo "lateness") rfl), .ref _, rfl, fun as H => by unfold RepV; rfl⟩
  | 10, _, _, e1, e2 => by cases e1; cases e2; exact ⟨_, He.glo_ok X G (c.fact 10 (f := .glo "check_stand") rfl), .ref _, rfl, fun as H => by unfold RepV; rfl⟩
  | 11, _, _, e1, e2 => by cases e1; cases e2; exact ⟨_, He.glo_ok X G (c.fact 11 (f := .glo "_begun") rfl), .ref _, rfl, fun as H => by unfold RepV; rfl⟩
  | 12, _, _, e1, e2 => by cases e1; cases e2; exact ⟨_, He.glo_ok X G (c.fact 12 (f := .glo "_cut") rfl), .ref _, rfl, fun as H => by unfold RepV; rfl⟩
  | 13, _, _, e1, e2 => by cases e1; cases e2; exact ⟨_, He.glo_ok X G (c.fact 13 (f := .glo "_shared") rfl), .ref _, rfl, fun as H => by unfold RepV; rfl⟩
  | 14, _, _, e1, e2 => by cases e1; cases e2; exact ⟨_, He.glo_ok X G (c.fact 14 (f := .glo "_limit") rfl), .ref _, rfl, fun as H => by unfold RepV; rfl⟩
  | 15, _, _, e1, e2 => by cases e1; cases e2; exact ⟨_, He.glo_ok X G (c.fact 15 (f := .glo "_law_dice") rfl), .ref _, rfl, fun as H => by unfold RepV; rfl⟩
  | 16, _, _, e1, e2 => by cases e1; cases e2; exact ⟨_, He.glo_ok X G (c.fact 16 (f := .glo "_law_roll") rfl), .ref _, rfl, fun as H => by unfold RepV; rfl⟩
  | 17, _, _, e1, e2 => by cases e1; cases e2; exact ⟨_, He.glo_ok X G (c.fact 17 (f := .glo "_law_one_of") rfl), .ref _, rfl, fun as H => by unfold RepV; rfl⟩
  | 18, _, _, e1, e2 => by cases e1; cases e2; exact ⟨_, He.glo_ok X G (c.fact 18 (f := .glo "_law_stand") rfl), .ref _, rfl, fun as H => by unfold RepV; rfl⟩
  | 19, _, _, e1, e2 => by cases e1; cases e2; exact ⟨_, He.glo_ok X G (c.fact 19 (f := .glo "_law_kin") rfl), .ref _, rfl, fun as H => by unfold RepV; rfl⟩
  | 20, _, _, e1, e2 => by cases e1; cases e2; exact ⟨_, He.glo_ok X G (c.fact 20 (f := .glo "_law_numbers") rfl), .ref _, rfl, fun as H => by unfold RepV; rfl⟩
  | 21, _, _, e1, e2 => by cases e1; cases e2; exact ⟨_, He.glo_ok X G (c.fact 21 (f := .glo "_law_shared") rfl), .ref _, rfl, fun as H => by unfold RepV; rfl⟩
  | 22, _, _, e1, e2 => by cases e1; cases e2; exact ⟨_, He.glo_ok X G (c.fact 22 (f := .glo "_law_judged") rfl), .ref _, rfl, fun as H => by unfold RepV; rfl⟩
  | 23, _, _, e1, e2 => by cases e1; cases e2; exact ⟨_, He.glo_ok X G (c.fact 23 (f := .glo "_law_is_stand") rfl), .ref _, rfl, fun as H => by unfold RepV; rfl⟩
  | 24, _, _, e1, e2 => by cases e1; cases e2; exact ⟨_, He.glo_ok X G (c.fact 24 (f := .glo "_law_is_number") rfl), .ref _, rfl, fun as H => by unfold RepV; rfl⟩
  | 25, _, _, e1, e2 => by cases e1; cases e2; exact ⟨_, He.glo_ok X G (c.fact 25 (f := .glo "_law_near") rfl), .ref _, rfl, fun as H => by unfold RepV; rfl⟩
  | 26, _, _, e1, e2 => by cases e1; cases e2; exact ⟨_, He.glo_ok X G (c.fact 26 (f := .glo "_law_right") rfl), .ref _, rfl, fun as H => by unfold RepV; rfl⟩
  | 27, _, _, e1, e2 => by cases e1; cases e2; exact ⟨_, He.glo_ok X G (c.fact 27 (f := .glo "law") rfl), .ref _, rfl, fun as H => by unfold RepV; rfl⟩
  | 28, _, _, e1, e2 => by cases e1; cases e2; obtain ⟨t, e⟩ := He.int_ok X G (c.fact 28 (f := .int "MAX_PLACE" 1000000000000) rfl); exact ⟨_, e, .int _, ⟨t, rfl⟩, fun as H => .int _⟩
  | 29, _, _, e1, e2 => by cases e1; cases e2; obtain ⟨t, e⟩ := He.int_ok X G (c.fact 29 (f := .int "MAX_BRANCH" 20) rfl); exact ⟨_, e, .int _, ⟨t, rfl⟩, fun as H => .int _⟩
  | n + 30, _, _, e1, e2 => by simp [T] at e2
theorem bls (X : K.In h) (G : h.Ns mainGlobals mg) (c : He.SaysD fa fn K) : ∀ f : Bi, mg f.nm = none
  | .len => He.free_ok X G (c.fact 30 (f := .free "len") rfl)
  | .abs => He.free_ok X G (c.fact 31 (f := .free "abs") rfl)
  | .max => He.free_ok X G (c.fact 32 (f := .free "max") rfl)
  | .min => He.free_ok X G (c.fact 33 (f := .free "min") rfl)
  | .int => He.free_ok X G (c.fact 34 (f := .free "int") rfl)
  | .str => He.free_ok X G (c.fact 35 (f := .free "str") rfl)
  | .bool => He.free_ok X G (c.fact 36 (f := .free "bool") rfl)
  | .list => He.free_ok X G (c.fact 37 (f := .free "list") rfl)
  | .tuple => He.free_ok X G (c.fact 38 (f := .free "tuple") rfl)
  | .sorted => He.free_ok X G (c.fact 39 (f := .free "sorted") rfl)
  | .sum => He.free_ok X G (c.fact 40 (f := .free "sum") rfl)
  | .any => He.free_ok X G (c.fact 41 (f := .free "any") rfl)
  | .all => He.free_ok X G (c.fact 42 (f := .free "all") rfl)
  | .ord => He.free_ok X G (c.fact 43 (f := .free "ord") rfl)
  | .isinst => He.free_ok X G (c.fact 44 (f := .free "isinstance") rfl)
  | .repr => He.free_ok X G (c.fact 45 (f := .free "repr") rfl)
  | .dict => He.free_ok X G (c.fact 46 (f := .free "dict") rfl)
theorem lts : ∀ (g f : Nat), T.glob[g]? = some (.fn f) → f < defs.length
  | 0, _, e => by cases e; decide
  | 1, _, e => by cases e; decide
  | 2, _, e => by cases e; decide
  | 3, _, e => by cases e; decide
  | 4, _, e => by cases e; decide
  | 5, _, e => by cases e; decide
  | 6, _, e => by cases e; decide
  | 7, _, e => by cases e; decide
  | 8, _, e => by cases e; decide
  | 9, _, e => by cases e; decide
  | 10, _, e => by cases e; decide
  | 11, _, e => by cases e; decide
  | 12, _, e => by cases e; decide
  | 13, _, e => by cases e; decide
  | 14, _, e => by cases e; decide
  | 15, _, e => by cases e; decide
  | 16, _, e => by cases e; decide
  | 17, _, e => by cases e; decide
  | 18, _, e => by cases e; decide
  | 19, _, e => by cases e; decide
  | 20, _, e => by cases e; decide
  | 21, _, e => by cases e; decide
  | 22, _, e => by cases e; decide
  | 23, _, e => by cases e; decide
  | 24, _, e => by cases e; decide
  | 25, _, e => by cases e; decide
  | 26, _, e => by cases e; decide
  | 27, _, e => by cases e; decide
  | 28, _, e => by cases e
  | 29, _, e => by cases e
  | n + 30, _, e => by simp [T] at e
theorem gok (X : K.In h) (G : h.Ns mainGlobals mg) (c : He.SaysD fa fn K) : GOk (gm K) T nm defs K mg where
  K := rfl
  gl := gls X G c
  bl := bls X G c
  rng := He.free_ok X G (c.fact 47 (f := .free "range") rfl)
  enm := He.free_ok X G (c.fact 48 (f := .free "enumerate") rfl)
  zp := He.free_ok X G (c.fact 49 (f := .free "zip") rfl)
  rvs := He.free_ok X G (c.fact 50 (f := .free "reversed") rfl)
  cls := cok_none rfl rfl
  gnl := by decide
  an := rfl
  mlt := fun c ci f h => by simp [T] at h
  lt := lts
end
end K56
set_option Elab.async false
set_option linter.all false
set_option maxRecDepth 100000
set_option maxHeartbeats 1000000
namespace Mn
open PySem PySem.Spec L2 PyProof.Rows CwR
def bDice : List Sm := [.asg (.nm 2) (.bin .add (.bin .mul (.con (.int 83)) (.var 1)) (.con (.int 59))), .ite (.cmp .lt (.var 1) (.bi .len [.var 0])) [.asg (.nm 2) (.ix (.var 0) (.var 1))] [], .asg (.nm 3) (.bin .mod (.bi .int [.bi .abs [.var 2]]) (.bin .pow (.bin .pow (.con (.int 10)) (.con (.int 60))) (.con (.int 10)))), .asg (.nm 4) (.bin .fdiv (.var 3) (.bin .pow (.con (.int 10)) (.con (.int 18)))), .asg (.nm 5) (.bin .add (.bin .add (.bin .add (.bin .mul (.bin .mod (.var 3) (.con (.int 2147482811))) (.con (.int 60509))) (.bin .mul (.con (.int 3499)) (.var 1))) (.bin .mul (.con (.int 73)) (.bi .int [.cmp .lt (.var 2) (.con (.int 0))]))) (.con (.int 101))), .ret (.lst [.var 4, .bin .mod (.var 5) (.con (.int 2147482801)), .con (.int 0)])]
def bRoll : List Sm := [.asg (.nm 2) (.bi .int [.var 1]), .ite (.cmp .gt (.ix (.var 0) (.con (.int 0))) (.con (.int 0))) [.asg (.nm 5) (.bin .mod (.ix (.var 0) (.con (.int 0))) (.var 2)), .asg (.ix (.var 0) (.con (.int 0))) (.bin .fdiv (.ix (.var 0) (.con (.int 0))) (.var 2)), .ret (.bi .int [.var 5])] [], .asg (.ix (.var 0) (.con (.int 2))) (.bin .add (.ix (.var 0) (.con (.int 2))) (.con (.int 1))), .asg (.nm 3) (.bin .mod (.bin .add (.ix (.var 0) (.con (.int 1))) (.bin .mul (.con (.int 1000333)) (.ix (.var 0) (.con (.int 2))))) (.con (.int 2305843009213693951))), .asg (.nm 4) (.bin .add (.bin .mul (.bin .mod (.bin .mul (.var 3) (.var 3)) (.con (.int 2305843009213693921))) (.var 3)) (.bin .mul (.con (.int 9479)) (.ix (.var 0) (.con (.int 2))))), .asg (.nm 4) (.bin .mod (.var 4) (.con (.int 2305843009213693907))), .ret (.bi .int [.bin .mod (.bin .fdiv (.var 4) (.con (.int 4096))) (.var 2)])]
def spRoll (xs : List PV) (h : PH) : Res PV := match xs with
  | [.ref l, .int n] => (match h[l]? with
    | some (.dice (b + 1)) => if 0 < n ∧ n < 2 ^ 62 then .all n.toNat fun r => .ok (.int r) (h.set l (.dice b)) else .stuck
    | _ => .stuck)
  | _ => .stuck
def spDice (xs : List PV) (h : PH) : Res PV := match xs with
  | [.frk xs, .int i] => if (intsOf xs).isSome ∧ 0 ≤ i ∧ i < 2 ^ 20 then .ok (.ref h.length) (h ++ [.dice (2 ^ 63)]) else .stuck
  | _ => .stuck
section
variable {T : Tb} {cl : Nat → List PV → PH → Res PV} {W : Nat}
theorem D_nx {s : Sm} {r : List Sm} {ρ ρ1 : PEnv} {h h1 : PH} {z : Res Fl} (e : exS T cl W s ρ h = .ok (.nx ρ1) h1) (k : exSs T cl W r ρ1 h1 = z) : exSs T cl W (s :: r) ρ h = z := by
  simp only [exSs, e, Res.bind_ok]
  exact k
theorem D_rt {s : Sm} {r : List Sm} {ρ : PEnv} {h h1 : PH} {v : PV} (e : exS T cl W s ρ h = .ok (.rt v) h1) : exSs T cl W (s :: r) ρ h = .ok (.rt v) h1 := by
  simp only [exSs, e, Res.bind_ok]
theorem run_rt {d : Df} {vs : List PV} {h h1 : PH} {v : PV} (hl : vs.length = d.ps.length) (e : exSs T cl W d.body (vs.map some ++ List.replicate (d.N.length - vs.length) none) h = .ok (.rt v) h1) : runD T W cl d vs h = .ok v h1 := by
  unfold runD
  rw [if_pos hl]
  unfold runBody
  rw [e]
  rfl
theorem nat_log {x k : Nat} (h : x < 2 ^ k) (hk : k ≤ 400000) : x.log2 < 400000 + 1 := by
  by_cases hz : x = 0
  · rw [hz]; decide
  · have := (Nat.log2_lt hz).mpr h
    omega
theorem big_nat {a b : Int} {k : Nat} (ha : a.natAbs < 2 ^ k) (hb : b.natAbs < 2 ^ k) (hk : k ≤ 400000) : big a b = true := by
  unfold big
  have h1 := nat_log ha hk
  have h2 := nat_log hb hk
  simp
  omega
theorem roll_great {l : Nat} {n i j k : Int} {h : PH} (e : h[l]? = some (.lst [.int i, .int j, .int k])) (hn : 0 < n) (hs : n < 2 ^ 62) (hi : 0 < i) :
    exSs T cl W bRoll [some (.ref l), some (.int n), none, none, none, none] h = .ok (.rt (.int (i % n))) (h.set l (.lst [.int (i / n), .int j, .int k])) := by
  have hl : n.natAbs.log2 < 9000 := by
    have h1 : n.natAbs < 2 ^ 62 := by omega
    have := nat_log h1 (by decide)
    by_cases hz : n.natAbs = 0
    · rw [hz]; decide
    · have := (Nat.log2_lt hz).mpr h1
      omega
  unfold bRoll
  refine D_nx (ρ1 := [some (.ref l), some (.int n), some (.int n), none, none, none]) (h1 := h) (by simp [exSs, exS, evE, evEs, evT, evIf, asgTa, bindTg, pBin, pCmp, pBi, pTru, ob, pIx, atI, ixN, Res.bind, pSet]) ?_
  refine D_rt ?_
  have c : evT T cl (.cmp .gt (.ix (.var 0) (.con (.int 0))) (.con (.int 0))) [some (.ref l), some (.int n), some (.int n), none, none, none] h = .ok true h := by simp [exSs, exS, evE, evEs, evT, evIf, asgTa, bindTg, pBin, pCmp, pBi, pTru, ob, pIx, atI, ixN, Res.bind, pSet, e, hi]
  simp only [exS, c, Res.bind_ok, if_true]
  refine D_nx (ρ1 := [some (.ref l), some (.int n), some (.int n), none, none, some (.int (i % n))]) (h1 := h) (by simp [exSs, exS, evE, evEs, evT, evIf, asgTa, bindTg, pBin, pCmp, pBi, pTru, ob, pIx, atI, ixN, Res.bind, pSet, e, hn]) ?_
  refine D_nx (ρ1 := [some (.ref l), some (.int n), some (.int n), none, none, some (.int (i % n))]) (h1 := h.set l (.lst [.int (i / n), .int j, .int k])) (by simp [exSs, exS, evE, evEs, evT, evIf, asgTa, bindTg, pBin, pCmp, pBi, pTru, ob, pIx, atI, ixN, Res.bind, pSet, e, hn, hl]) ?_
  exact D_rt (by simp [exSs, exS, evE, evEs, evT, evIf, asgTa, bindTg, pBin, pCmp, pBi, pTru, ob, pIx, atI, ixN, Res.bind, pSet])
theorem roll_small {l : Nat} {n i j k : Int} {h : PH} (e : h[l]? = some (.lst [.int i, .int j, .int k])) (hn : 0 < n) (hs : n < 2 ^ 62) (hi : ¬ 0 < i) (hj : 0 ≤ j ∧ j < 2 ^ 40) (hk : 0 ≤ k ∧ k < 2 ^ 64) :
    ∃ r : Int, 0 ≤ r ∧ r < n ∧ exSs T cl W bRoll [some (.ref l), some (.int n), none, none, none, none] h = .ok (.rt (.int r)) (h.set l (.lst [.int i, .int j, .int (k + 1)])) := by
  have hl : l < h.length := (List.getElem?_eq_some_iff.mp e).1
  have e2 : (h.set l (.lst [.int i, .int j, .int (k + 1)]))[l]? = some (.lst [.int i, .int j, .int (k + 1)]) := List.getElem?_set_self hl
  have l4 : Nat.log2 4096 = 12 := by decide
  obtain ⟨o, ho⟩ : ∃ o, (j + 1000333 * (k + 1)) % 2305843009213693951 = o := ⟨_, rfl⟩
  have o1 : 0 ≤ o := by rw [← ho]; exact Int.emod_nonneg _ (by decide)
  have o2 : o < 2305843009213693951 := by rw [← ho]; exact Int.emod_lt_of_pos _ (by decide)
  obtain ⟨q, hq⟩ : ∃ q, o * o % 2305843009213693921 = q := ⟨_, rfl⟩
  have q1 : 0 ≤ q := by rw [← hq]; exact Int.emod_nonneg _ (by decide)
  have q2 : q < 2305843009213693921 := by rw [← hq]; exact Int.emod_lt_of_pos _ (by decide)
  have b1 : big 1000333 (k + 1) = true := big_nat (k := 70) (by decide) (by omega) (by decide)
  have b2 : big o o = true := big_nat (k := 70) (by omega) (by omega) (by decide)
  have b3 : big q o = true := big_nat (k := 70) (by omega) (by omega) (by decide)
  have b4 : big 9479 (k + 1) = true := big_nat (k := 70) (by decide) (by omega) (by decide)
  refine ⟨(q * o + 9479 * (k + 1)) % 2305843009213693907 / 4096 % n, Int.emod_nonneg _ (by omega), Int.emod_lt_of_pos _ hn, ?_⟩
  unfold bRoll
  refine D_nx (ρ1 := [some (.ref l), some (.int n), some (.int n), none, none, none]) (h1 := h) (by simp [exSs, exS, evE, evEs, evT, evIf, asgTa, bindTg, pBin, pCmp, pBi, pTru, ob, pIx, atI, ixN, Res.bind, pSet]) ?_
  refine D_nx (ρ1 := [some (.ref l), some (.int n), some (.int n), none, none, none]) (h1 := h) ?_ ?_
  · have c : evT T cl (.cmp .gt (.ix (.var 0) (.con (.int 0))) (.con (.int 0))) [some (.ref l), some (.int n), some (.int n), none, none, none] h = .ok false h := by simp [exSs, exS, evE, evEs, evT, evIf, asgTa, bindTg, pBin, pCmp, pBi, pTru, ob, pIx, atI, ixN, Res.bind, pSet, e, hi]
    simp only [exS, c, Res.bind_ok, exSs]
    rfl
  refine D_nx (ρ1 := [some (.ref l), some (.int n), some (.int n), none, none, none]) (h1 := h.set l (.lst [.int i, .int j, .int (k + 1)])) (by simp [exSs, exS, evE, evEs, evT, evIf, asgTa, bindTg, pBin, pCmp, pBi, pTru, ob, pIx, atI, ixN, Res.bind, pSet, e]) ?_
  generalize h.set l (.lst [.int i, .int j, .int (k + 1)]) = h2 at e2 ⊢
  refine D_nx (ρ1 := [some (.ref l), some (.int n), some (.int n), some (.int o), none, none]) (h1 := h2) (by simp [exSs, exS, evE, evEs, evT, evIf, asgTa, bindTg, pBin, pCmp, pBi, pTru, ob, pIx, atI, ixN, Res.bind, pSet, e2, b1, ho]) ?_
  refine D_nx (ρ1 := [some (.ref l), some (.int n), some (.int n), some (.int o), some (.int (q * o + 9479 * (k + 1))), none]) (h1 := h2) (by simp [exSs, exS, evE, evEs, evT, evIf, asgTa, bindTg, pBin, pCmp, pBi, pTru, ob, pIx, atI, ixN, Res.bind, pSet, e2, b2, b3, b4, hq]) ?_
  generalize (q * o + 9479 * (k + 1)) = t
  refine D_nx (ρ1 := [some (.ref l), some (.int n), some (.int n), some (.int o), some (.int (t % 2305843009213693907)), none]) (h1 := h2) (by simp [exSs, exS, evE, evEs, evT, evIf, asgTa, bindTg, pBin, pCmp, pBi, pTru, ob, pIx, atI, ixN, Res.bind, pSet]) ?_
  exact D_rt (by simp [exSs, exS, evE, evEs, evT, evIf, asgTa, bindTg, pBin, pCmp, pBi, pTru, ob, pIx, atI, ixN, Res.bind, pSet, l4, hn])
theorem ten_pow : Builtin.Int.intBits 10 = 4 ∧ Builtin.Int.intBits (10 ^ 60) = 200 := by decide +kernel
theorem dice_run {xs : List PV} {at_ : Int} {is : List Int} {h : PH} (e : intsOf xs = some is) (h0 : 0 ≤ at_) (h1 : at_ < 2 ^ 20) :
    ∃ a b : Int, (0 ≤ a ∧ a < 10 ^ 600) ∧ (0 ≤ b ∧ b < 2 ^ 40) ∧ exSs T cl W bDice [some (.frk xs), some (.int at_), none, none, none, none] h = .ok (.rt (.ref h.length)) (h ++ [.lst [.int a, .int b, .int 0]]) := by
  have gets : ∀ (xs : List PV) (is : List Int), intsOf xs = some is → xs.length = is.length ∧ ∀ (m : Nat) (x : PV), xs[m]? = some x → ∃ c : Int, x = .int c := fun xs => by
    induction xs with
    | nil => intro is e; simp only [intsOf] at e; cases e; exact ⟨rfl, fun m x q => by simp at q⟩
    | cons y ys ih =>
      intro is e
      cases y with
      | int c =>
        simp only [intsOf] at e
        cases q : intsOf ys with
        | none => rw [q] at e; cases e
        | some js =>
          rw [q] at e
          cases e
          obtain ⟨l1, l2⟩ := ih js q
          refine ⟨by simp [l1], fun m x z => ?_⟩
          cases m with
          | zero => simp at z; exact ⟨c, z.symm⟩
          | succ m => exact l2 m x (by simpa using z)
      | _ => simp only [intsOf] at e; cases e
  obtain ⟨_, gx⟩ := gets xs is e
  -- the cell
  obtain ⟨c, hc⟩ : ∃ c : Int, exSs T cl W (bDice.take 2) [some (.frk xs), some (.int at_), none, none, none, none] h = .ok (.nx [some (.frk xs), some (.int at_), some (.int c), none, none, none]) h := by
    have b1 : big 83 at_ = true := big_nat (k := 70) (by decide) (by omega) (by decide)
    unfold bDice
    by_cases q : at_ < xs.length
    · obtain ⟨m, rfl⟩ : ∃ m : Nat, at_ = m := ⟨at_.toNat, by omega⟩
      have hm : m < xs.length := by omega
      obtain ⟨c, hx⟩ := gx m xs[m] (List.getElem?_eq_getElem hm)
      refine ⟨c, ?_⟩
      have hb2 : big 83 (m : Int) = true := b1
      have ea : atI xs (m : Int) = some (.int c) := by
        unfold atI ixN
        rw [if_pos (by omega), if_pos q]
        simp [hm, hx]
      refine D_nx (ρ1 := [some (.frk xs), some (.int m), some (.int (83 * m + 59)), none, none, none]) (h1 := h) (by simp [exSs, exS, evE, evEs, evT, evIf, asgTa, bindTg, pBin, pCmp, pBi, pTru, ob, pIx, atI, ixN, Res.bind, pSet, hb2]) ?_
      generalize (83 * (m : Int) + 59) = z
      have cc : evT T cl (.cmp .lt (.var 1) (.bi .len [.var 0])) [some (.frk xs), some (.int m), some (.int z), none, none, none] h = .ok true h := by simp [exSs, exS, evE, evEs, evT, evIf, asgTa, bindTg, pBin, pCmp, pBi, pTru, ob, pIx, atI, ixN, Res.bind, pSet, hm]
      refine D_nx (ρ1 := [some (.frk xs), some (.int m), some (.int c), none, none, none]) (h1 := h) ?_ (by simp only [List.take_zero, exSs])
      simp only [exS, cc, Res.bind_ok, if_true, exSs, evE, asgTa, List.getElem?_cons_zero, List.getElem?_cons_succ, pIx, ea]
      rfl
    · refine ⟨83 * at_ + 59, ?_⟩
      refine D_nx (ρ1 := [some (.frk xs), some (.int at_), some (.int (83 * at_ + 59)), none, none, none]) (h1 := h) (by simp [exSs, exS, evE, evEs, evT, evIf, asgTa, bindTg, pBin, pCmp, pBi, pTru, ob, pIx, atI, ixN, Res.bind, pSet, b1]) ?_
      generalize (83 * at_ + 59) = z
      have cc : evT T cl (.cmp .lt (.var 1) (.bi .len [.var 0])) [some (.frk xs), some (.int at_), some (.int z), none, none, none] h = .ok false h := by simp [exSs, exS, evE, evEs, evT, evIf, asgTa, bindTg, pBin, pCmp, pBi, pTru, ob, pIx, atI, ixN, Res.bind, pSet, q]
      refine D_nx (ρ1 := [some (.frk xs), some (.int at_), some (.int z), none, none, none]) (h1 := h) ?_ (by simp only [List.take_zero, exSs])
      simp only [exS, cc, Res.bind_ok, exSs]
      rfl
  have split : ∀ (a b : List Sm) (ρ ρ1 : PEnv) (h h1 : PH), exSs T cl W a ρ h = .ok (.nx ρ1) h1 → exSs T cl W (a ++ b) ρ h = exSs T cl W b ρ1 h1 := fun a => by
    induction a with
    | nil => intro b ρ ρ1 h h1 q; simp only [exSs] at q; cases q; rfl
    | cons s r ih =>
      intro b ρ ρ1 h h1 q
      simp only [List.cons_append, exSs] at q ⊢
      cases w : exS T cl W s ρ h with
      | ok f h2 =>
        rw [w, Res.bind_ok] at q
        rw [Res.bind_ok]
        cases f with
        | nx ρ2 => exact ih b ρ2 ρ1 h2 h1 q
        | _ => simp at q
      | _ => rw [w] at q; simp [Res.bind] at q
  have main := split (bDice.take 2) (bDice.drop 2) _ _ _ _ hc
  rw [List.take_append_drop] at main
  obtain ⟨g, hg⟩ : ∃ g : Int, (if c < 0 then -c else c) % ((10 : Int) ^ 60) ^ 10 = g := ⟨_, rfl⟩
  have p600 : ((10 : Int) ^ 60) ^ 10 = 10 ^ 600 := by decide +kernel
  have g1 : 0 ≤ g := by rw [← hg]; exact Int.emod_nonneg _ (by rw [p600]; decide +kernel)
  have g2 : g < 10 ^ 600 := by rw [← hg, ← p600]; exact Int.emod_lt_of_pos _ (by rw [p600]; decide +kernel)
  have s3 : 3 ≤ sizeLine := Nat.le_trans (show 3 ≤ 16 by decide) (by decide)
  have hp1 : ∀ (ρ : PEnv) (h : PH), evE T cl (.bin .pow (.bin .pow (.con (.int 10)) (.con (.int 60))) (.con (.int 10))) ρ h = .ok (.int (((10 : Int) ^ 60) ^ 10)) h := fun ρ h => by
    simp only [evE, Res.bind_ok, pBin]
    rw [if_pos (by decide +kernel)]
    simp only [Res.bind_ok]
    rw [if_pos (by decide +kernel)]
    rfl
  have hp2 : ∀ (ρ : PEnv) (h : PH), evE T cl (.bin .pow (.con (.int 10)) (.con (.int 18))) ρ h = .ok (.int 1000000000000000000) h := fun ρ h => by
    simp only [evE, Res.bind_ok, pBin]
    rw [if_pos (by decide +kernel)]
    rfl
  have pos : (0 : Int) < ((10 : Int) ^ 60) ^ 10 := by rw [p600]; decide +kernel
  have l18 : (1000000000000000000 : Int).natAbs.log2 < 9000 := by decide +kernel
  obtain ⟨m, hm⟩ : ∃ m : Int, g % 2147482811 = m := ⟨_, rfl⟩
  have m1 : 0 ≤ m := by rw [← hm]; exact Int.emod_nonneg _ (by decide)
  have m2 : m < 2147482811 := by rw [← hm]; exact Int.emod_lt_of_pos _ (by decide)
  have b1 : big m 60509 = true := big_nat (k := 70) (by omega) (by decide) (by decide)
  have b2 : big 3499 at_ = true := big_nat (k := 70) (by decide) (by omega) (by decide)
  have b3 : big 73 (if c < 0 then 1 else 0) = true := big_nat (k := 70) (by decide) (by split <;> decide) (by decide)
  have d1 : g / 1000000000000000000 ≤ g := Int.ediv_le_self _ g1
  have d2 : 0 ≤ g / 1000000000000000000 := Int.ediv_nonneg g1 (by decide)
  refine ⟨g / 1000000000000000000, (m * 60509 + 3499 * at_ + 73 * (if c < 0 then 1 else 0) + 101) % 2147482801, ⟨d2, Int.lt_of_le_of_lt d1 g2⟩, ⟨Int.emod_nonneg _ (by decide), Int.lt_trans (Int.emod_lt_of_pos _ (by decide)) (by decide)⟩, ?_⟩
  rw [main]
  clear main hc split d1 d2 g2
  unfold bDice
  refine D_nx (ρ1 := [some (.frk xs), some (.int at_), some (.int c), some (.int g), none, none]) (h1 := h) ?_ ?_
  · have ea : evE T cl (.bi .int [.bi .abs [.var 2]]) [some (.frk xs), some (.int at_), some (.int c), none, none, none] h = .ok (.int (if c < 0 then -c else c)) h := by
      simp only [evE, evEs, List.getElem?_cons_succ, List.getElem?_cons_zero, Res.bind_ok, pBi]
    unfold exS
    rw [show evE T cl (.bin .mod (.bi .int [.bi .abs [.var 2]]) (.bin .pow (.bin .pow (.con (.int 10)) (.con (.int 60))) (.con (.int 10)))) [some (.frk xs), some (.int at_), some (.int c), none, none, none] h = .ok (.int g) h by
      rw [evE, ea, Res.bind_ok, hp1, Res.bind_ok]
      simp only [pBin]
      rw [if_pos (decide_eq_true pos), hg]]
    rfl
  clear hp1 hg pos p600
  refine D_nx (ρ1 := [some (.frk xs), some (.int at_), some (.int c), some (.int g), some (.int (g / 1000000000000000000)), none]) (h1 := h) ?_ ?_
  · unfold exS
    rw [show evE T cl (.bin .fdiv (.var 3) (.bin .pow (.con (.int 10)) (.con (.int 18)))) [some (.frk xs), some (.int at_), some (.int c), some (.int g), none, none] h = .ok (.int (g / 1000000000000000000)) h by
      rw [evE, show evE T cl (.var 3) [some (.frk xs), some (.int at_), some (.int c), some (.int g), none, none] h = .ok (.int g) h from rfl, Res.bind_ok, hp2, Res.bind_ok]
      simp only [pBin]
      rw [if_pos (by rw [decide_eq_true l18]; rfl)]]
    rfl
  generalize g / 1000000000000000000 = gl
  have e8 : evE T cl (.bi .int [.cmp .lt (.var 2) (.con (.int 0))]) [some (.frk xs), some (.int at_), some (.int c), some (.int g), some (.int gl), none] h = .ok (.int (if c < 0 then 1 else 0)) h := by
    simp only [evE, evEs, List.getElem?_cons_succ, List.getElem?_cons_zero, Res.bind_ok, pCmp, pBi]
    by_cases q : c < 0 <;> simp [q]
  generalize (if c < 0 then (1 : Int) else 0) = sg at b3 e8 ⊢
  refine D_nx (ρ1 := [some (.frk xs), some (.int at_), some (.int c), some (.int g), some (.int gl), some (.int (m * 60509 + 3499 * at_ + 73 * sg + 101))]) (h1 := h) ?_ ?_
  · unfold exS
    rw [show evE T cl (.bin .add (.bin .add (.bin .add (.bin .mul (.bin .mod (.var 3) (.con (.int 2147482811))) (.con (.int 60509))) (.bin .mul (.con (.int 3499)) (.var 1))) (.bin .mul (.con (.int 73)) (.bi .int [.cmp .lt (.var 2) (.con (.int 0))]))) (.con (.int 101))) [some (.frk xs), some (.int at_), some (.int c), some (.int g), some (.int gl), none] h = .ok (.int (m * 60509 + 3499 * at_ + 73 * sg + 101)) h by
      generalize hx : (Ex.bi .int [.cmp .lt (.var 2) (.con (.int 0))]) = ex at e8
      simp [evE, e8, pBin, hm, b1, b2, b3]]
    rfl
  generalize (m * 60509 + 3499 * at_ + 73 * sg + 101) = t
  refine D_rt ?_
  simp [exS, evE, evEs, pBin, s3]
end
end Mn
set_option Elab.async false
set_option linter.all false
set_option maxRecDepth 100000
set_option maxHeartbeats 1000000
namespace Mn
open PySem PySem.Spec L2 PyProof.Rows CwR
section
variable {G : Gm} {as as' : List Addr} {H H' : Hp} {h : PH}
theorem SR.say (s : SR G as H h) {l : Nat} {o : PO} (k : ∀ a, as[l]? = some a → RepO G as H o a) : SR G as H (h.set l o) := by
  refine ⟨s.nd, by simp [s.len], fun m ob b e1 e2 => ?_⟩
  by_cases hm : m = l
  · subst hm
    have hl : m < h.length := by
      have := (List.getElem?_eq_some_iff.mp e1).1
      simpa using this
    rw [List.getElem?_set_self hl] at e1
    cases e1
    exact k b e2
  · rw [List.getElem?_set_ne (Ne.symm hm)] at e1
    exact s.at_ m ob b e1 e2
theorem Fut.say {h' : PH} (f : Fut G as H as' H' h') {l : Nat} {o : PO} (k : ∀ a, as'[l]? = some a → RepO G as' H' o a) : Fut G as H as' H' (h'.set l o) := ⟨f.pre, f.kp, f.sr.say k, f.fresh, f.frame⟩
theorem rep_ints {a : Addr} {i j k : Int} (r : RepO G as H (.lst [.int i, .int j, .int k]) a) : H a = some (.lst [.int i, .int j, .int k]) := by
  obtain ⟨vs, e, q⟩ := r
  simp only [RepVs, RepV] at q
  obtain ⟨v, r1, rfl, rfl, v2, r2, rfl, rfl, v3, r3, rfl, rfl, rfl⟩ := q
  exact e
theorem ints_rep {a : Addr} {i j k : Int} (e : H a = some (.lst [.int i, .int j, .int k])) : RepO G as H (.lst [.int i, .int j, .int k]) a := by
  refine ⟨_, e, .cons ?_ (.cons ?_ (.cons ?_ .nil))⟩ <;> (unfold RepV; rfl)
theorem dice_ok {T : Tb} {W : Nat} {cl : Nat → List PV → PH → Res PV} {d : Df} {xs : List PV} {Q : VK} {E : XK} (hp : d.ps.length = 2) (hN : d.N.length = 6) (hb : d.body = bDice) (hx : xs.length = 2) (o : OkV G E as H Q (spDice xs h)) :
    OkV G E as H Q (runD T W cl d xs h) := by
  match xs, hx with
  | [x, y], _ =>
    unfold spDice at o
    split at o
    · rename_i ys i ee
      cases ee
      split at o
      · rename_i q
        obtain ⟨is, e⟩ := Option.isSome_iff_exists.mp q.1
        obtain ⟨a, b, ha, hb', er⟩ := dice_run (T := T) (cl := cl) (W := W) (h := h) e q.2.1 q.2.2
        have : runD T W cl d [.frk ys, .int i] h = .ok (.ref h.length) (h ++ [.lst [.int a, .int b, .int 0]]) := by
          refine run_rt (by simp [hp]) ?_
          rw [hb, hN]
          exact er
        rw [this]
        intro as1 H1 v1 f1 r1
        refine o as1 H1 v1 ?_ r1
        have f2 := f1.say (l := h.length) (o := .dice (2 ^ 63)) fun c ec => by
          obtain ⟨c', ec', rc⟩ := f1.sr.addr (l := h.length) (o := .lst [.int a, .int b, .int 0]) (by simp)
          rw [ec] at ec'
          cases ec'
          exact ⟨a, b, 0, rep_ints rc, ha, hb', by decide, by decide⟩
        simpa using f2
      · exact False.elim o
    · exact False.elim o
theorem roll_ok {T : Tb} {W : Nat} {cl : Nat → List PV → PH → Res PV} {d : Df} {xs : List PV} {Q : VK} {E : XK} (hp : d.ps.length = 2) (hN : d.N.length = 6) (hb : d.body = bRoll) (s : SR G as H h) (hx : xs.length = 2) (o : OkV G E as H Q (spRoll xs h)) :
    ∃ h', SR G as H h' ∧ OkV G E as H Q (runD T W cl d xs h') := by
  match xs, hx with
  | [x, y], _ =>
    unfold spRoll at o
    split at o
    · rename_i l n ee
      cases ee
      split at o
      · rename_i b el
        split at o
        · rename_i q
          obtain ⟨a, ea, ro⟩ := s.addr el
          obtain ⟨i, j, k, eh, hi, hj, hk⟩ := ro
          have hl : l < h.length := (List.getElem?_eq_some_iff.mp el).1
          have eget : (h.set l (.lst [.int i, .int j, .int k]))[l]? = some (.lst [.int i, .int j, .int k]) := List.getElem?_set_self hl
          refine ⟨h.set l (.lst [.int i, .int j, .int k]), s.say fun c ec => ?_, ?_⟩
          · rw [ea] at ec
            cases ec
            exact ints_rep eh
          have fin : ∀ (r i' k' : Int), 0 ≤ r → r < n → (0 ≤ i' ∧ i' < 10 ^ 600) → (0 ≤ k' ∧ k' + b ≤ 2 ^ 64) → exSs T cl W bRoll [some (.ref l), some (.int n), none, none, none, none] (h.set l (.lst [.int i, .int j, .int k])) = .ok (.rt (.int r)) ((h.set l (.lst [.int i, .int j, .int k])).set l (.lst [.int i', .int j, .int k'])) →
              OkV G E as H Q (runD T W cl d [.ref l, .int n] (h.set l (.lst [.int i, .int j, .int k]))) := by
            intro r i' k' r0 rn hi' hk' er
            have e2 : runD T W cl d [.ref l, .int n] (h.set l (.lst [.int i, .int j, .int k])) = .ok (.int r) (h.set l (.lst [.int i', .int j, .int k'])) := by
              rw [List.set_set] at er
              refine run_rt (by simp [hp]) ?_
              rw [hb, hN]
              exact er
            rw [e2]
            intro as1 H1 v1 f1 r1
            have o2 : OkV G E as H Q (.ok (.int (r.toNat : Int)) (h.set l (.dice b))) := o r.toNat (by omega)
            rw [Int.toNat_of_nonneg r0] at o2
            refine o2 as1 H1 v1 ?_ r1
            have f2 := f1.say (l := l) (o := .dice b) fun c ec => by
              obtain ⟨c', ec', rc⟩ := f1.sr.addr (l := l) (o := .lst [.int i', .int j, .int k']) (List.getElem?_set_self hl)
              rw [ec] at ec'
              cases ec'
              exact ⟨i', j, k', rep_ints rc, hi', hj, hk'⟩
            rw [List.set_set] at f2
            exact f2
          by_cases hz : 0 < i
          · refine fin (i % n) (i / n) k (Int.emod_nonneg _ (by omega)) (Int.emod_lt_of_pos _ q.1) ⟨Int.ediv_nonneg hi.1 (by omega), Int.lt_of_le_of_lt (Int.ediv_le_self _ hi.1) hi.2⟩ ⟨hk.1, by omega⟩ (roll_great eget q.1 q.2 hz)
          · obtain ⟨r, r0, rn, er⟩ := roll_small (T := T) (cl := cl) (W := W) eget q.1 q.2 hz hj ⟨hk.1, by omega⟩
            exact fin r i (k + 1) r0 rn hi ⟨by omega, by omega⟩ er
        · exact False.elim o
      · exact False.elim o
    · exact False.elim o
end
end Mn
set_option Elab.async false
set_option linter.all false
set_option maxRecDepth 100000
set_option maxHeartbeats 1000000
namespace Mn
open PySem PySem.Spec L2 PyProof.Rows CwR
inductive Al {α : Type} (P : α → PH → Prop) : Res α → Prop
  | ret {a : α} {h : PH} (p : P a h) : Al P (.ok a h)
  | draw {n : Nat} {k : Nat → Res α} (q : ∀ i < n, Al P (k i)) : Al P (.all n k)
theorem Al.bind {α β : Type} {P : β → PH → Prop} {r : Res α} {k : α → PH → Res β} (h : Al (fun a h1 => Al P (k a h1)) r) : Al P (r.bind k) := by
  induction h with
  | ret p => exact p
  | draw q ih => exact .draw ih
theorem Al.imp {α : Type} {P Q : α → PH → Prop} {r : Res α} (h : Al P r) (k : ∀ a h1, P a h1 → Q a h1) : Al Q r := by
  induction h with
  | ret p => exact .ret (k _ _ p)
  | draw q ih => exact .draw ih
theorem Al.ok {α : Type} {P : α → PH → Prop} {r : Res α} {a : α} {h : PH} (e : r = .ok a h) (p : P a h) : Al P r := by rw [e]; exact .ret p
theorem Al.noer {α : Type} {P : α → PH → Prop} {r : Res α} (h : Al P r) : Al P r.noer := by
  induction h with
  | ret p => exact .ret p
  | draw q ih => exact .draw ih
theorem al_forRun {body : PV → PEnv → PH → Res Fl} {w : Wk} {N : Nat} {Inv : Nat → PEnv → PH → Prop} {P : Fl → PH → Prop}
    (hb : ∀ i < N, ∀ ρ h, Inv i ρ h → ∃ x, wkAt h i w = some (some x) ∧ Al (fun f h1 => match f with
      | .nx ρ1 => Inv (i + 1) ρ1 h1
      | .ct ρ1 => Inv (i + 1) ρ1 h1
      | .bk ρ1 => P (.nx ρ1) h1
      | .rt v => P (.rt v) h1) (body x ρ h))
    (he : ∀ ρ h, Inv N ρ h → wkAt h N w = some none ∧ P (.nx ρ) h) :
    ∀ m i ρ h, i + m = N → Inv i ρ h → Al P (forRun body w (m + 1) i ρ h) := fun m => by
  induction m with
  | zero =>
    intro i ρ h hi I
    have : i = N := by omega
    subst this
    obtain ⟨e, p⟩ := he ρ h I
    unfold forRun
    rw [e]
    exact Al.ok rfl p
  | succ m ih =>
    intro i ρ h hi I
    obtain ⟨x, e, q⟩ := hb i (by omega) ρ h I
    unfold forRun
    rw [e]
    refine Al.bind (q.imp fun f h1 z => ?_)
    cases f with
    | nx ρ1 => exact ih (i + 1) ρ1 h1 (by omega) z
    | ct ρ1 => exact ih (i + 1) ρ1 h1 (by omega) z
    | bk ρ1 => exact Al.ok rfl z
    | rt v => exact Al.ok rfl z
section
variable {T : Tb} {W : Nat} {cl : Nat → List PV → PH → Res PV} {ρ : PEnv} {h : PH}
theorem al_call {P : PV → PH → Prop} {g f : Nat} {es : List Ex} (hg : T.glob[g]? = some (.fn f)) (k : Al (fun vs h1 => Al P (cl f vs h1)) (evEs T cl es ρ h)) : Al P (evE T cl (.call g es) ρ h) := by
  simp only [evE, hg, callG]
  exact Al.bind k
theorem al_ix {P : PV → PH → Prop} {o i : Ex} (k : Al (fun v h1 => Al (fun w h2 => Al P (pIx v w h2)) (evE T cl i ρ h1)) (evE T cl o ρ h)) : Al P (evE T cl (.ix o i) ρ h) := by
  simp only [evE]
  exact Al.bind (k.imp fun v h1 q => Al.bind q)
theorem al_bin {P : PV → PH → Prop} {op : Bop} {o i : Ex} (k : Al (fun v h1 => Al (fun w h2 => Al P (pBin op v w h2)) (evE T cl i ρ h1)) (evE T cl o ρ h)) : Al P (evE T cl (.bin op o i) ρ h) := by
  simp only [evE]
  exact Al.bind (k.imp fun v h1 q => Al.bind q)
theorem al_cmp {P : PV → PH → Prop} {op : Cop} {o i : Ex} (k : Al (fun v h1 => Al (fun w h2 => Al P (pCmp op v w h2)) (evE T cl i ρ h1)) (evE T cl o ρ h)) : Al P (evE T cl (.cmp op o i) ρ h) := by
  simp only [evE]
  exact Al.bind (k.imp fun v h1 q => Al.bind q)
theorem al_bi {P : PV → PH → Prop} {f : Bi} {es : List Ex} (k : Al (fun vs h1 => Al P (pBi T f vs h1)) (evEs T cl es ρ h)) : Al P (evE T cl (.bi f es) ρ h) := by
  simp only [evE]
  exact Al.bind k
theorem al_nil {P : List PV → PH → Prop} (k : P [] h) : Al P (evEs T cl [] ρ h) := by
  simp only [evEs]
  exact .ret k
theorem al_cons {P : List PV → PH → Prop} {e : Ex} {es : List Ex} (he : ∀ x, e ≠ .star x) (k : Al (fun v h1 => Al (fun vs h2 => P (v :: vs) h2) (evEs T cl es ρ h1)) (evE T cl e ρ h)) : Al P (evEs T cl (e :: es) ρ h) := by
  rw [evEs_cons he]
  exact Al.bind (k.imp fun v h1 q => Al.bind (q.imp fun vs h2 z => .ret z))
theorem al_var {P : PV → PH → Prop} {i : Nat} {v : PV} (e : ρ[i]? = some (some v)) (k : P v h) : Al P (evE T cl (.var i) ρ h) := by
  simp only [evE, e]
  exact .ret k
theorem al_con {P : PV → PH → Prop} {v : PV} (k : P v h) : Al P (evE T cl (.con v) ρ h) := by
  simp only [evE]
  exact .ret k
theorem al_ife {P : PV → PH → Prop} {c a b : Ex} (k : Al (fun v h1 => ∃ t, pTru h1 v = some t ∧ if t then Al P (evE T cl a ρ h1) else Al P (evE T cl b ρ h1)) (evE T cl c ρ h)) : Al P (evE T cl (.ife c a b) ρ h) := by
  simp only [evE]
  refine Al.bind (k.imp fun v h1 ⟨t, e, q⟩ => ?_)
  rw [e]
  cases t <;> exact q
theorem al_evT {P : Bool → PH → Prop} {c : Ex} (k : Al (fun v h1 => ∃ t, pTru h1 v = some t ∧ P t h1) (evE T cl c ρ h)) : Al P (evT T cl c ρ h) := by
  unfold evT
  refine Al.bind (k.imp fun v h1 ⟨t, e, q⟩ => ?_)
  rw [e]
  exact .ret q
theorem al_ss {P : Fl → PH → Prop} {s : Sm} {r : List Sm} (k : Al (fun f h1 => match f with
    | .nx ρ1 => Al P (exSs T cl W r ρ1 h1)
    | f => P f h1) (exS T cl W s ρ h)) : Al P (exSs T cl W (s :: r) ρ h) := by
  simp only [exSs]
  refine Al.bind (k.imp fun f h1 q => ?_)
  cases f
  · exact q
  all_goals exact .ret q
theorem al_asg {P : Fl → PH → Prop} {i : Nat} {e : Ex} (k : Al (fun v h1 => P (.nx (ρ.set i (some v))) h1) (evE T cl e ρ h)) : Al P (exS T cl W (.asg (.nm i) e) ρ h) := by
  simp only [exS]
  exact Al.bind (k.imp fun v h1 q => .ret q)
theorem al_ret {P : Fl → PH → Prop} {e : Ex} (k : Al (fun v h1 => P (.rt v) h1) (evE T cl e ρ h)) : Al P (exS T cl W (.ret e) ρ h) := by
  simp only [exS]
  exact Al.bind (k.imp fun v h1 q => .ret q)
theorem al_ite {P : Fl → PH → Prop} {c : Ex} {a b : List Sm} (k : Al (fun t h1 => if t then Al P (exSs T cl W a ρ h1) else Al P (exSs T cl W b ρ h1)) (evT T cl c ρ h)) : Al P (exS T cl W (.ite c a b) ρ h) := by
  simp only [exS]
  refine Al.bind (k.imp fun t h1 q => ?_)
  cases t <;> exact q
theorem al_run {P : PV → PH → Prop} {d : Df} {vs : List PV} (hl : vs.length = d.ps.length) (k : Al (fun f h1 => match f with
    | .nx _ => P .non h1
    | .rt v => P v h1
    | _ => False) (exSs T cl W d.body (vs.map some ++ List.replicate (d.N.length - vs.length) none) h)) : Al P (runD T W cl d vs h) := by
  unfold runD runBody
  rw [if_pos hl]
  refine Al.bind (k.imp fun f h1 q => ?_)
  cases f
  · exact .ret q
  · exact False.elim q
  · exact False.elim q
  · exact .ret q
theorem al_mt {P : PV → PH → Prop} {m : Nat} {b : Bm} {o : Ex} {es : List Ex} (hb : notNone b = true) (k : Al (fun v h1 => ∃ q, Bq.of b (kindAt h1 v) = some q ∧ Al (fun vs h2 => Al P (pBq q v vs h2)) (evEs T cl es ρ h1)) (evE T cl o ρ h)) : Al P (evE T cl (.mt m b o es) ρ h) := by
  rw [evE_mt hb]
  refine Al.bind (k.imp fun v h1 ⟨q, e, z⟩ => ?_)
  rw [e]
  exact Al.bind z
theorem al_lc {P : PV → PH → Prop} {e : Ex} {own : List Nat} {t : Tg} {k : Ik} {its ifs : List Ex} (q : Al (fun vs h1 => ∃ p, wkOf k vs h1 = some p ∧ Al P (lcRun (lcB T cl e own t ifs ρ) p.1 h1.length (p.2 + 1) 0 (h1 ++ [.lst []]))) (evEs T cl its ρ h)) : Al P (evE T cl (.lc e own t k its ifs) ρ h) := by
  rw [evE_lc]
  unfold evI
  rw [Res.bind_assoc]
  refine Al.bind (q.imp fun vs h1 ⟨p, e1, z⟩ => ?_)
  rw [e1]
  exact z
theorem al_lst {P : PV → PH → Prop} {es : List Ex} (k : Al (fun vs h1 => vs.length ≤ sizeLine ∧ P (.ref h1.length) (h1 ++ [.lst vs])) (evEs T cl es ρ h)) : Al P (evE T cl (.lst es) ρ h) := by
  simp only [evE]
  refine Al.bind (k.imp fun vs h1 ⟨q, z⟩ => ?_)
  rw [if_pos q]
  exact Al.ok rfl z
theorem al_tup {P : PV → PH → Prop} {es : List Ex} (k : Al (fun vs h1 => vs.length ≤ sizeLine ∧ P (.tup vs) h1) (evEs T cl es ρ h)) : Al P (evE T cl (.tup es) ρ h) := by
  simp only [evE]
  refine Al.bind (k.imp fun vs h1 ⟨q, z⟩ => ?_)
  rw [if_pos q]
  exact Al.ok rfl z
theorem al_repl {P : PV → PH → Prop} {o : Ex} {y z : List Nat} (hyz : y ≠ z) (k : Al (fun v h1 => ∃ x : List Nat, v = .str x ∧ x.length + (x.length + 1) * z.length ≤ 16777216 ∧ P (.str (Txt.replace ⟨x.toArray⟩ ⟨y.toArray⟩ ⟨z.toArray⟩).cps.toList) h1) (evE T cl o ρ h)) : Al P (evE T cl (.repl o y z) ρ h) := by
  simp only [evE]
  refine Al.bind (k.imp fun v h1 ⟨x, e, q, p⟩ => ?_)
  subst e
  simp only
  rw [if_pos (by simp [q, hyz])]
  exact Al.ok rfl p
theorem al_nx {P : Fl → PH → Prop} (k : P (.nx ρ) h) : Al P (exSs T cl W [] ρ h) := Al.ok (by simp only [exSs]) k
theorem al_for {t : Tg} {k : Ik} {its : List Ex} {b : List Sm} {w : Wk} {N : Nat} {h1 : PH} {Inv : Nat → PEnv → PH → Prop} {P : Fl → PH → Prop} (hv : evI T cl k its ρ h = .ok (w, N) h1)
    (hb : ∀ i < N, ∀ ρ h, Inv i ρ h → ∃ x, wkAt h i w = some (some x) ∧ Al (fun f h1 => match f with
      | .nx ρ1 => Inv (i + 1) ρ1 h1
      | .ct ρ1 => Inv (i + 1) ρ1 h1
      | .bk ρ1 => P (.nx ρ1) h1
      | .rt v => P (.rt v) h1) (forB T cl W t b x ρ h))
    (he : ∀ ρ h, Inv N ρ h → wkAt h N w = some none ∧ P (.nx ρ) h) (h0 : Inv 0 ρ h1) : Al P (exS T cl W (.for_ t k its b) ρ h) := by
  rw [exS_for, hv, Res.bind_ok]
  exact al_forRun hb he N 0 ρ h1 (by omega) h0
theorem al_asgt {P : Fl → PH → Prop} {is : List Nat} {e : Ex} (k : Al (fun v h1 => ∃ ρ1, bindTg (.tp is) v ρ = some ρ1 ∧ P (.nx ρ1) h1) (evE T cl e ρ h)) : Al P (exS T cl W (.asg (.tp is) e) ρ h) := by
  simp only [exS, asgTa]
  refine Al.bind (k.imp fun v h1 ⟨ρ1, e1, q⟩ => ?_)
  rw [e1]
  exact Al.ok rfl q
theorem al_no {P : Fl → PH → Prop} {c : Ex} {a r : List Sm} {h1 : PH} (e : evE T cl c ρ h = .ok (.bl false) h1) (k : Al P (exSs T cl W r ρ h1)) : Al P (exSs T cl W (.ite c a [] :: r) ρ h) :=
  al_ss (al_ite (al_evT (Al.ok e ⟨false, rfl, by simpa using al_nx k⟩)))
theorem al_yes {P : Fl → PH → Prop} {c : Ex} {a r : List Sm} {h1 : PH} (e : evE T cl c ρ h = .ok (.bl true) h1) (k : Al (fun f h2 => match f with
    | .nx ρ1 => Al P (exSs T cl W r ρ1 h2)
    | f => P f h2) (exSs T cl W a ρ h1)) : Al P (exSs T cl W (.ite c a [] :: r) ρ h) :=
  al_ss (al_ite (al_evT (Al.ok e ⟨true, rfl, by rw [if_pos rfl]; exact k⟩)))
theorem al_or {P : PV → PH → Prop} {a b : Ex} (k : Al (fun v h1 => ∃ t, pTru h1 v = some t ∧ if t then P v h1 else Al P (evE T cl b ρ h1)) (evE T cl a ρ h)) : Al P (evE T cl (.or a b) ρ h) := by
  simp only [evE]
  refine Al.bind (k.imp fun v h1 ⟨t, e, q⟩ => ?_)
  rw [e]
  cases t with
  | true => exact Al.ok rfl (by simpa using q)
  | false => simpa using q
theorem al_not {P : PV → PH → Prop} {a : Ex} (k : Al (fun v h1 => ∃ t, pTru h1 v = some t ∧ P (.bl (!t)) h1) (evE T cl a ρ h)) : Al P (evE T cl (.not a) ρ h) := by
  simp only [evE]
  refine Al.bind (k.imp fun v h1 ⟨t, e, q⟩ => ?_)
  rw [e]
  exact Al.ok rfl q
end
theorem for_det {body : PV → PEnv → PH → Res Fl} {w : Wk} {N : Nat} {item : Nat → PV} {f : Nat → PEnv} {hp : Nat → PH} (hi : ∀ i < N, wkAt (hp i) i w = some (some (item i))) (he : wkAt (hp N) N w = some none) (hb : ∀ i < N, body (item i) (f i) (hp i) = .ok (.nx (f (i + 1))) (hp (i + 1))) :
    forRun body w (N + 1) 0 (f 0) (hp 0) = .ok (.nx (f N)) (hp N) := by
  have gen : ∀ m i, i + m = N → forRun body w (m + 1) i (f i) (hp i) = .ok (.nx (f N)) (hp N) := fun m => by
    induction m with
    | zero =>
      intro i hi'
      have : i = N := by omega
      subst this
      unfold forRun
      rw [he]
    | succ m ih =>
      intro i hi'
      unfold forRun
      rw [hi i (by omega)]
      simp only
      rw [hb i (by omega)]
      exact ih (i + 1) (by omega)
  exact gen N 0 (by omega)
theorem fix_at {xs : List PV} {h : PH} {i : Nat} {x : PV} (e : xs[i]? = some x) : wkAt h i (.fix xs) = some (some x) := by simp only [wkAt, e]
theorem fix_end {xs : List PV} {h : PH} : wkAt h xs.length (.fix xs) = some none := by simp [wkAt]
section
variable {T : Tb} {W : Nat} {cl : Nat → List PV → PH → Res PV}
theorem st_nx {s : Sm} {r : List Sm} {ρ ρ1 : PEnv} {h h1 : PH} {z : Res Fl} (e : exS T cl W s ρ h = .ok (.nx ρ1) h1) (k : exSs T cl W r ρ1 h1 = z) : exSs T cl W (s :: r) ρ h = z := by
  simp only [exSs, e, Res.bind_ok]
  exact k
theorem st_rt {s : Sm} {r : List Sm} {ρ : PEnv} {h h1 : PH} {v : PV} (e : exS T cl W s ρ h = .ok (.rt v) h1) : exSs T cl W (s :: r) ρ h = .ok (.rt v) h1 := by
  simp only [exSs, e, Res.bind_ok]
theorem rb_rt {ns : Nat} {b : List Sm} {vs : List PV} {h h1 : PH} {v : PV} (e : exSs T cl W b (vs.map some ++ List.replicate (ns - vs.length) none) h = .ok (.rt v) h1) : runBody T cl W ns b vs h = .ok v h1 := by
  unfold runBody
  rw [e]
  rfl
theorem rd_rt {d : Df} {vs : List PV} {h h1 : PH} {v : PV} (hl : vs.length = d.ps.length) (e : exSs T cl W d.body (vs.map some ++ List.replicate (d.N.length - vs.length) none) h = .ok (.rt v) h1) : runD T W cl d vs h = .ok v h1 := by
  unfold runD
  rw [if_pos hl]
  exact rb_rt e
theorem for_st {t : Tg} {k : Ik} {its : List Ex} {b : List Sm} {w : Wk} {N : Nat} {ρ : PEnv} {h : PH} (item : Nat → PV) (f : Nat → PEnv) (hp : Nat → PH) (hv : evI T cl k its ρ h = .ok (w, N) (hp 0)) (h0 : ρ = f 0)
    (hi : ∀ i < N, wkAt (hp i) i w = some (some (item i))) (he : wkAt (hp N) N w = some none) (hb : ∀ i < N, forB T cl W t b (item i) (f i) (hp i) = .ok (.nx (f (i + 1))) (hp (i + 1))) :
    exS T cl W (.for_ t k its b) ρ h = .ok (.nx (f N)) (hp N) := by
  rw [exS_for, hv, Res.bind_ok, h0]
  exact for_det hi he hb
end
theorem wk_rng {b : Nat} {h : PH} (hb : b ≤ 1000000) : wkOf .rng [.int b] h = some (.fix ((List.range b).map fun (i : Nat) => .int i), b) := by
  have h3 : (b : Int) < 4611686018427387904 := by omega
  have h4 : (-4611686018427387904 : Int) ≤ b := by omega
  simp [wkOf, h3, h4]
theorem evI_rng {T : Tb} {cl : Nat → List PV → PH → Res PV} {its : List Ex} {ρ : PEnv} {h h1 : PH} {b : Nat} (he : evEs T cl its ρ h = .ok [.int b] h1) (hb : b ≤ 1000000) : evI T cl .rng its ρ h = .ok (.fix ((List.range b).map fun (i : Nat) => .int i), b) h1 := by
  unfold evI
  rw [he, Res.bind_ok, wk_rng hb]
def Dc (l b : Nat) (h : PH) : Prop := ∃ b', h[l]? = some (.dice b') ∧ b ≤ b'
def Gr (l : Nat) (h h' : PH) : Prop := h.length ≤ h'.length ∧ ∀ m, m < h.length → m ≠ l → h'[m]? = h[m]?
theorem Gr.refl (l : Nat) (h : PH) : Gr l h h := ⟨Nat.le_refl _, fun _ _ _ => rfl⟩
theorem Gr.trans {l : Nat} {a b c : PH} (x : Gr l a b) (y : Gr l b c) : Gr l a c := ⟨Nat.le_trans x.1 y.1, fun m hm hn => (y.2 m (Nat.lt_of_lt_of_le hm x.1) hn).trans (x.2 m hm hn)⟩
theorem Gr.app (l : Nat) (h g : PH) : Gr l h (h ++ g) := ⟨by simp, fun m hm _ => List.getElem?_append_left hm⟩
theorem Gr.get {l m : Nat} {h h' : PH} {o : PO} (g : Gr l h h') (e : h[m]? = some o) (hn : m ≠ l) : h'[m]? = some o := by
  rw [g.2 m (List.getElem?_eq_some_iff.mp e).1 hn]
  exact e
theorem Dc.le {l b c : Nat} {h : PH} (d : Dc l b h) (hc : c ≤ b) : Dc l c h := let ⟨b', e, q⟩ := d; ⟨b', e, Nat.le_trans hc q⟩
theorem Dc.lt {l b : Nat} {h : PH} (d : Dc l b h) : l < h.length := let ⟨_, e, _⟩ := d; (List.getElem?_eq_some_iff.mp e).1
theorem Dc.app {l b : Nat} {h : PH} (d : Dc l b h) (g : PH) : Dc l b (h ++ g) := let ⟨b', e, q⟩ := d; ⟨b', by rw [List.getElem?_append_left d.lt]; exact e, q⟩
theorem atI_lt {xs : List PV} {r : Nat} (hr : r < xs.length) : atI xs r = some xs[r] := by
  exact atI_nat (List.getElem?_eq_getElem hr)
theorem get_last {h : PH} {o : PO} : (h ++ [o])[h.length]? = some o := by simp
theorem set_last {h : PH} {o o' : PO} : (h ++ [o]).set h.length o' = h ++ [o'] := by simp
theorem lc_det {body : PV → PH → Res (Option PV)} {w : Wk} {N : Nat} {item y : Nat → PV} {h : PH} (hN : N ≤ 1000) (hi : ∀ i < N, ∀ h', wkAt h' i w = some (some (item i))) (he : ∀ h', wkAt h' N w = some none) (hb : ∀ i < N, ∀ h', body (item i) h' = .ok (some (y i)) h') :
    lcRun body w h.length (N + 1) 0 (h ++ [.lst []]) = .ok (.ref h.length) (h ++ [.lst ((List.range N).map y)]) := by
  have gen : ∀ m i, i + m = N → lcRun body w h.length (m + 1) i (h ++ [.lst ((List.range i).map y)]) = .ok (.ref h.length) (h ++ [.lst ((List.range N).map y)]) := fun m => by
    induction m with
    | zero =>
      intro i hi'
      have : i = N := by omega
      subst this
      unfold lcRun
      rw [he]
    | succ m ih =>
      intro i hi'
      unfold lcRun
      rw [hi i (by omega)]
      simp only
      rw [hb i (by omega), Res.bind_ok]
      simp only [get_last, set_last]
      have hs : ((List.range i).map y).length < sizeLine := by
        rw [List.length_map, List.length_range]
        exact Nat.lt_of_lt_of_le (Nat.lt_of_le_of_lt (by omega : i ≤ 1000) (by decide : 1000 < 1001)) (by decide)
      rw [if_pos hs]
      have := ih (i + 1) (by omega)
      rw [List.range_succ, List.map_append] at this
      exact this
  exact gen N 0 (by omega)
theorem lc_al {body : PV → PH → Res (Option PV)} {w : Wk} {N l : Nat} {item : Nat → PV} {C : PV → Prop} {h0 : PH} {P : PV → PH → Prop} (hN : N ≤ 1000) (hl : l < h0.length)
    (hi : ∀ i < N, ∀ h', wkAt h' i w = some (some (item i))) (he : ∀ h', wkAt h' N w = some none)
    (hb : ∀ i < N, ∀ b h', Dc l (b + 1) h' → Gr l h0 h' → Al (fun y h2 => (∃ v, y = some v ∧ C v) ∧ Dc l b h2 ∧ Gr l h' h2) (body (item i) h')) :
    ∀ m i b h' acc, i + m = N → h'[h0.length]? = some (.lst acc) → acc.length = i → (∀ v ∈ acc, C v) → Dc l (b + m) h' → Gr l h0 h' →
      (∀ h2 ys, h2[h0.length]? = some (.lst ys) → ys.length = N → (∀ v ∈ ys, C v) → Dc l b h2 → Gr l h0 h2 → P (.ref h0.length) h2) → Al P (lcRun body w h0.length (m + 1) i h') := fun m => by
  induction m with
  | zero =>
    intro i b h' acc hi' ea hl2 hc d g k
    have : i = N := by omega
    subst this
    unfold lcRun
    rw [he]
    exact Al.ok rfl (k h' acc ea hl2 hc d g)
  | succ m ih =>
    intro i b h' acc hi' ea hl2 hc d g k
    unfold lcRun
    rw [hi i (by omega)]
    refine Al.bind ((hb i (by omega) (b + m) h' d g).imp fun y h2 ⟨⟨v, ey, cv⟩, d2, g2⟩ => ?_)
    subst ey
    have e2 : h2[h0.length]? = some (.lst acc) := g2.get ea (Nat.ne_of_gt hl)
    have hs : acc.length < sizeLine := Nat.lt_of_lt_of_le (show acc.length < 1001 by omega) (by decide)
    have hlt : h0.length < h2.length := (List.getElem?_eq_some_iff.mp e2).1
    simp only [e2]
    rw [if_pos hs]
    refine ih (i + 1) b _ (acc ++ [v]) (by omega) ?_ (by simp [hl2]) (fun u hu => ?_) ?_ ?_ k
    · rw [List.getElem?_set_self hlt]
    · rcases List.mem_append.mp hu with hu | hu
      · exact hc u hu
      · rw [List.mem_singleton.mp hu]; exact cv
    · obtain ⟨b', q1, q2⟩ := d2
      exact ⟨b', by rw [List.getElem?_set_ne (Nat.ne_of_gt hl)]; exact q1, q2⟩
    · have g3 := g.trans g2
      exact ⟨by simpa using g3.1, fun m' hm hn => by rw [List.getElem?_set_ne (Nat.ne_of_gt hm)]; exact g3.2 m' hm hn⟩
theorem datum_int {h : PH} {a : Int} : datum h (.int a) = some (.int a) := rfl
theorem pEq_int {h : PH} {a b : Int} : pEq h (.int a) (.int b) = some (decide (a = b)) := by
  have e : pEq h (.int a) (.int b) = some (PyData.eqv (.int a) (.int b)) := by
    unfold pEq
    rw [datum_int, datum_int]
  rw [e]
  unfold PyData.eqv
  by_cases q : a = b <;> simp [q]
theorem pEq_bb {h : PH} {a b : Bool} : pEq h (.bl a) (.bl b) = some (a == b) := by
  show some (PyData.eqv (.bool a) (.bool b)) = _
  unfold PyData.eqv
  rfl
theorem datum_str {h : PH} {x : List Nat} (hx : PyData.strOk ⟨x.toArray⟩ = true) : datum h (.str x) = some (.str ⟨x.toArray⟩) := by
  unfold datum
  simp only [toD]
  rw [if_pos]
  unfold SeqAt.shaped
  simp [PyData.canLay0, hx, PyData.depth]
theorem pEq_ss {h : PH} {x y : List Nat} (hx : PyData.strOk ⟨x.toArray⟩ = true) (hy : PyData.strOk ⟨y.toArray⟩ = true) : pEq h (.str x) (.str y) = some (decide (x = y)) := by
  unfold pEq
  rw [datum_str hx, datum_str hy]
  simp only [PyData.eqv]
  congr 1
  by_cases e : x = y
  · subst e; simp
  · simp [e]
section
variable {T : Tb} {W : Nat} {cl : Nat → List PV → PH → Res PV} {ρ : PEnv} {h : PH}
theorem sIx_k {n d k : Nat} (h : k ≤ n) : HT.sIx n d (some (k : Int)) = k := by rw [HT.sIx_nat]; omega
theorem sl_to {x : List Nat} {i j k : Nat} (hi : ρ[i]? = some (some (.str x))) (hj : ρ[j]? = some (some (.int k))) (hk : k ≤ x.length) (hs : x.length ≤ sizeLine) : evE T cl (.sl (.var i) .nop (.var j)) ρ h = .ok (.str (x.take k)) h := by
  simp only [evE, partR, hi, hj, Res.bind_ok, pSl, hs, if_true, cut, HT.sIx_none, sIx_k hk, List.drop_zero, Nat.sub_zero]
theorem sl_from {x : List Nat} {i j k : Nat} (hi : ρ[i]? = some (some (.str x))) (hj : ρ[j]? = some (some (.int k))) (hk : k + 1 ≤ x.length) (hs : x.length ≤ sizeLine) : evE T cl (.sl (.var i) (.bin .add (.var j) (.con (.int 1))) .nop) ρ h = .ok (.str (x.drop (k + 1))) h := by
  have e : (k : Int) + 1 = ((k + 1 : Nat) : Int) := by omega
  simp only [evE, partR, hi, hj, Res.bind_ok, pBin, pSl, hs, if_true, cut, HT.sIx_none, e, sIx_k hk]
  rw [List.take_of_length_le (by simp)]
theorem sl_mid {x : List Nat} {i j m k q : Nat} (hi : ρ[i]? = some (some (.str x))) (hj : ρ[j]? = some (some (.int k))) (hm : ρ[m]? = some (some (.int q))) (hk : k + 1 ≤ x.length) (hq : q ≤ x.length) (hs : x.length ≤ sizeLine) : evE T cl (.sl (.var i) (.bin .add (.var j) (.con (.int 1))) (.var m)) ρ h = .ok (.str ((x.drop (k + 1)).take (q - (k + 1)))) h := by
  have e : (k : Int) + 1 = ((k + 1 : Nat) : Int) := by omega
  simp only [evE, partR, hi, hj, hm, Res.bind_ok, pBin, pSl, hs, if_true, cut, HT.sIx_none, e, sIx_k hk, sIx_k hq]
theorem e_add {a b : Ex} {x y : List Nat} {h1 h2 : PH} (ha : evE T cl a ρ h = .ok (.str x) h1) (hb : evE T cl b ρ h1 = .ok (.str y) h2) (hs : x.length + y.length ≤ sizeLine) : evE T cl (.bin .add a b) ρ h = .ok (.str (x ++ y)) h2 := by
  simp only [evE, ha, hb, Res.bind_ok, pBin, hs, if_true]
theorem e_ixs {x : List Nat} {i j k : Nat} (hi : ρ[i]? = some (some (.str x))) (hj : ρ[j]? = some (some (.int k))) (hk : k < x.length) (hs : x.length ≤ sizeLine) : evE T cl (.ix (.var i) (.var j)) ρ h = .ok (.str [x.getD k 0]) h := by
  have e : atI x (k : Int) = some (x.getD k 0) := by
    rw [show x.getD k 0 = x[k] by simp [hk]]
    simp [atI, ixN, hk]
  simp only [evE, hi, hj, Res.bind_ok, pIx, hs, if_true, e]
theorem e_var {i : Nat} {v : PV} (e : ρ[i]? = some (some v)) : evE T cl (.var i) ρ h = .ok v h := by simp only [evE, e]
theorem e_eqs {a b : Ex} {x y : List Nat} {h1 h2 : PH} (ha : evE T cl a ρ h = .ok (.str x) h1) (hb : evE T cl b ρ h1 = .ok (.str y) h2) (hx : PyData.strOk ⟨x.toArray⟩ = true) (hy : PyData.strOk ⟨y.toArray⟩ = true) : evE T cl (.cmp .eq a b) ρ h = .ok (.bl (decide (x = y))) h2 := by
  simp only [evE, ha, hb, Res.bind_ok, pCmp, pEq_ss hx hy, ob]
theorem e_eqi {a b : Ex} {x y : Int} {h1 h2 : PH} (ha : evE T cl a ρ h = .ok (.int x) h1) (hb : evE T cl b ρ h1 = .ok (.int y) h2) : evE T cl (.cmp .eq a b) ρ h = .ok (.bl (decide (x = y))) h2 := by
  simp only [evE, ha, hb, Res.bind_ok, pCmp, pEq_int, ob]
theorem e_nei {a b : Ex} {x y : Int} {h1 h2 : PH} (ha : evE T cl a ρ h = .ok (.int x) h1) (hb : evE T cl b ρ h1 = .ok (.int y) h2) : evE T cl (.cmp .ne a b) ρ h = .ok (.bl (!decide (x = y))) h2 := by
  simp only [evE, ha, hb, Res.bind_ok, pCmp, pEq_int, ob, Option.map_some]
theorem e_eqb {a b : Ex} {x y : Bool} {h1 h2 : PH} (ha : evE T cl a ρ h = .ok (.bl x) h1) (hb : evE T cl b ρ h1 = .ok (.bl y) h2) : evE T cl (.cmp .eq a b) ρ h = .ok (.bl (x == y)) h2 := by
  simp only [evE, ha, hb, Res.bind_ok, pCmp, pEq_bb, ob]
theorem e_neb {a b : Ex} {x y : Bool} {h1 h2 : PH} (ha : evE T cl a ρ h = .ok (.bl x) h1) (hb : evE T cl b ρ h1 = .ok (.bl y) h2) : evE T cl (.cmp .ne a b) ρ h = .ok (.bl (!(x == y))) h2 := by
  simp only [evE, ha, hb, Res.bind_ok, pCmp, pEq_bb, ob, Option.map_some]
theorem e_call1 {g f i : Nat} {v w : PV} {h1 : PH} (hg : T.glob[g]? = some (.fn f)) (e : ρ[i]? = some (some v)) (k : cl f [v] h = .ok w h1) : evE T cl (.call g [.var i]) ρ h = .ok w h1 := by
  simp only [evE, evEs, hg, e, Res.bind_ok, callG, k]
end
theorem callS_run {T : Tb} {W : Nat} {D : List Df} {sp : Nat → Option (List PV → PH → Res PV)} {n i : Nat} {d : Df} {vs : List PV} {h : PH} (hd : D[i]? = some d) (hs : sp i = none) : callS T W D sp (n + 1) i vs h = runD T W (callS T W D sp n) d vs h := by
  simp only [callS, hd, hs]
theorem callS_sp {T : Tb} {W : Nat} {D : List Df} {sp : Nat → Option (List PV → PH → Res PV)} {n i : Nat} {d : Df} {r : List PV → PH → Res PV} {vs : List PV} {h : PH} (hd : D[i]? = some d) (hs : sp i = some r) (hl : vs.length = d.ps.length) : callS T W D sp (n + 1) i vs h = r vs h := by
  simp only [callS, hd, hs]
  rw [if_pos hl]
theorem al_roll {l b : Nat} {k : Int} {h : PH} (d : Dc l (b + 1) h) (h0 : 0 < k) (h1 : k < 2 ^ 62) : Al (fun v h' => (∃ r : Nat, (r : Int) < k ∧ v = .int r) ∧ Dc l b h' ∧ Gr l h h') (spRoll [.ref l, .int k] h) := by
  obtain ⟨b', e, hb⟩ := d
  obtain ⟨b2, rfl⟩ : ∃ b2, b' = b2 + 1 := ⟨b' - 1, by omega⟩
  unfold spRoll
  simp only [e]
  rw [if_pos ⟨h0, h1⟩]
  refine .draw fun r hr => .ret ⟨⟨r, by omega, rfl⟩, ⟨b2, ?_, by omega⟩, by simp, fun m hm hn => ?_⟩
  · rw [List.getElem?_set_self (List.getElem?_eq_some_iff.mp e).1]
  · rw [List.getElem?_set_ne (Ne.symm hn)]
theorem al_dice {i : Nat} {xs : List PV} {h : PH} (hx : (intsOf xs).isSome = true) (hi : i < 100) : spDice [.frk xs, .int i] h = .ok (.ref h.length) (h ++ [.dice (2 ^ 63)]) := if_pos ⟨hx, by omega, by omega⟩
theorem ints_some : ∀ l : List Int, (intsOf (l.map .int)).isSome = true
  | [] => rfl
  | a :: l => by
    obtain ⟨w, e⟩ := Option.isSome_iff_exists.mp (ints_some l)
    simp only [List.map_cons, intsOf, e, Option.map_some, Option.isSome_some]
end Mn
set_option Elab.async false
set_option linter.all false
set_option maxRecDepth 100000
set_option maxHeartbeats 4000000
namespace K56
open PySem PySem.Spec PyProof.Rows L2 Mn
abbrev Br := List (Int × Int)
def pv (p : Int × Int) : PV := .tup [.int p.1, .int p.2]
def bv (b : Br) : PV := .tup (b.map pv)
def sv (b : Br) (q : Int) : PV := .tup [bv b, .int q]
def dp (p : Int × Int) : PyData := .tuple [.int p.1, .int p.2]
mutual
theorem toD_mono {de : Nat → Option PyData} : ∀ {v : PV} {d : PyData}, toD (fun _ => none) v = some d → toD de v = some d
  | .non, _, e => e
  | .bl _, _, e => e
  | .int _, _, e => e
  | .str _, _, e => e
  | .tup xs, d, e => by
    simp only [toD] at e ⊢
    obtain ⟨ds, e1, rfl⟩ := Option.map_eq_some_iff.mp e
    rw [toDs_mono e1]
    rfl
  | .ref _, _, e => by simp [toD] at e
  | .frk _, _, e => by simp [toD] at e
  | .fn _, _, e => by simp [toD] at e
  | .cls _, _, e => by simp [toD] at e
  | .ty _, _, e => by simp [toD] at e
theorem toDs_mono {de : Nat → Option PyData} : ∀ {vs : List PV} {ds : List PyData}, toDs (fun _ => none) vs = some ds → toDs de vs = some ds
  | [], _, e => e
  | v :: vs, ds, e => by
    simp only [toDs] at e ⊢
    cases q : toD (fun _ => none) v with
    | none => rw [q] at e; cases e
    | some d =>
      rw [q] at e
      obtain ⟨ds', e1, rfl⟩ := Option.map_eq_some_iff.mp e
      rw [toD_mono q, toDs_mono e1]
      rfl
end
theorem datum_pure {h : PH} {v : PV} {d : PyData} (e : toD (fun _ => none) v = some d) (s : SeqAt.shaped d = true) : datum h v = some d := by
  unfold datum
  rw [toD_mono e]
  simp only [s, if_true]
theorem toDs_map {α : Type} {f : α → PV} {g : α → PyData} (k : ∀ x, toD (fun _ => none) (f x) = some (g x)) : ∀ xs : List α, toDs (fun _ => none) (xs.map f) = some (xs.map g)
  | [] => rfl
  | x :: xs => by simp only [List.map_cons, toDs, k x, toDs_map k xs, Option.map_some]
theorem toD_pv (p : Int × Int) : toD (fun _ => none) (pv p) = some (dp p) := rfl
theorem toD_bv (b : Br) : toD (fun _ => none) (bv b) = some (.tuple (b.map dp)) := by
  unfold bv
  simp only [toD, toDs_map toD_pv b, Option.map_some]
theorem toD_sv (b : Br) (q : Int) : toD (fun _ => none) (sv b q) = some (.tuple [.tuple (b.map dp), .int q]) := by
  unfold sv
  simp only [toD, toDs, toD_bv, Option.map_some]
theorem lay_dps : ∀ b : Br, PyData.canLayAll0 (b.map dp) = true
  | [] => rfl
  | p :: b => by simp [PyData.canLayAll0, PyData.canLay0, dp, lay_dps b]
theorem deep_dps : ∀ b : Br, PyData.depthAll (b.map dp) ≤ 1
  | [] => by simp [PyData.depthAll]
  | p :: b => by
    have := deep_dps b
    simp [PyData.depthAll, dp, PyData.depth]
    omega
theorem shaped_dp (p : Int × Int) : SeqAt.shaped (dp p) = true := by
  unfold SeqAt.shaped
  simp [dp, PyData.canLay0, PyData.canLayAll0, PyData.depth, PyData.depthAll]
theorem shaped_b (b : Br) : SeqAt.shaped (.tuple (b.map dp)) = true := by
  unfold SeqAt.shaped
  have := deep_dps b
  simp [PyData.canLay0, lay_dps b, PyData.depth]
  omega
theorem shaped_s (b : Br) (q : Int) : SeqAt.shaped (.tuple [.tuple (b.map dp), .int q]) = true := by
  unfold SeqAt.shaped
  have := deep_dps b
  simp [PyData.canLay0, PyData.canLayAll0, lay_dps b, PyData.depth, PyData.depthAll]
  omega
theorem eqv_dp (p q : Int × Int) : PyData.eqv (dp p) (dp q) = decide (p = q) := by
  obtain ⟨a, b⟩ := p
  obtain ⟨c, d⟩ := q
  simp only [dp, PyData.eqv, PyData.eqvAll, Bool.and_true]
  by_cases h1 : a = c <;> by_cases h2 : b = d <;> simp [h1, h2]
theorem eqvAll_dps : ∀ a b : Br, PyData.eqvAll (a.map dp) (b.map dp) = decide (a = b)
  | [], [] => rfl
  | [], _ :: _ => rfl
  | _ :: _, [] => rfl
  | p :: a, q :: b => by
    simp only [List.map_cons, PyData.eqvAll, eqv_dp, eqvAll_dps a b]
    by_cases h1 : p = q <;> by_cases h2 : a = b <;> simp [h1, h2]
theorem pEq_pp {h : PH} (p q : Int × Int) : pEq h (pv p) (pv q) = some (decide (p = q)) := by
  unfold pEq
  rw [datum_pure (toD_pv p) (shaped_dp p), datum_pure (toD_pv q) (shaped_dp q)]
  simp only [eqv_dp]
theorem pEq_b {h : PH} (a b : Br) : pEq h (bv a) (bv b) = some (decide (a = b)) := by
  unfold pEq
  rw [datum_pure (toD_bv a) (shaped_b a), datum_pure (toD_bv b) (shaped_b b)]
  simp only [PyData.eqv, eqvAll_dps]
theorem pEq_s {h : PH} (a b : Br) (p q : Int) : pEq h (sv a p) (sv b q) = some (decide (a = b ∧ p = q)) := by
  unfold pEq
  rw [datum_pure (toD_sv a p) (shaped_s a p), datum_pure (toD_sv b q) (shaped_s b q)]
  simp only [PyData.eqv, PyData.eqvAll, eqvAll_dps, Bool.and_true]
  by_cases h1 : a = b <;> by_cases h2 : p = q <;> simp [h1, h2]
def Asc : Br → Prop
  | [] => True
  | [_] => True
  | p :: q :: r => (p.1 < q.1 ∧ p.2 ≤ q.2) ∧ Asc (q :: r)
theorem Asc.tail {p : Int × Int} {b : Br} (a : Asc (p :: b)) : Asc b := by
  cases b with
  | nil => trivial
  | cons q r => exact a.2
theorem Asc.le {p : Int × Int} : ∀ {b : Br}, Asc (p :: b) → ∀ q ∈ b, p.2 ≤ q.2
  | [], _, q, h => by simp at h
  | r :: b, a, q, h => by
    rcases List.mem_cons.mp h with e | e
    · rw [e]; exact a.1.2
    · exact Int.le_trans a.1.2 (Asc.le a.2 q e)
def fl (t : Int) (b : Br) : Br := b.filter fun p => decide (p.2 ≤ t)
theorem fl_none {t : Int} {p : Int × Int} {b : Br} (a : Asc (p :: b)) (h : t < p.2) : fl t (p :: b) = [] := by
  unfold fl
  rw [List.filter_eq_nil_iff]
  intro q hq
  have : p.2 ≤ q.2 := by
    rcases List.mem_cons.mp hq with e | e
    · rw [e]; exact Int.le_refl _
    · exact a.le q e
  simp
  omega
theorem fl_cons {t : Int} {p : Int × Int} {b : Br} (h : p.2 ≤ t) : fl t (p :: b) = p :: fl t b := by
  unfold fl
  rw [List.filter_cons_of_pos (by simpa using h)]
def cp : Br → Br → Nat
  | x :: a, y :: b => if x = y then cp a b + 1 else 0
  | _, _ => 0
def ends (a b : Br) : List Int := ((a.drop (cp a b)).take 1 ++ (b.drop (cp a b)).take 1).map (·.2)
def lim (a b : Br) : Int := match ends a b with
  | [] => 0
  | x :: r => lmin x r
theorem lim_step {x : Int × Int} {a b : Br} : lim (x :: a) (x :: b) = lim a b := by
  unfold lim ends
  simp [cp]
theorem key : ∀ (a b : Br) (t : Int), Asc a → Asc b → (fl t a = fl t b ↔ a = b ∨ t < lim a b)
  | [], [], t, _, _ => by simp
  | [], y :: b, t, _, hb => by
    have e : lim [] (y :: b) = y.2 := by simp [lim, ends, cp, lmin]
    rw [e]
    by_cases h : y.2 ≤ t
    · rw [fl_cons h]
      simp [fl]
      omega
    · rw [fl_none hb (by omega)]
      simp [fl]
      omega
  | x :: a, [], t, ha, _ => by
    have e : lim (x :: a) [] = x.2 := by simp [lim, ends, cp, lmin]
    rw [e]
    by_cases h : x.2 ≤ t
    · rw [fl_cons h]
      simp [fl]
      omega
    · rw [fl_none ha (by omega)]
      simp [fl]
      omega
  | x :: a, y :: b, t, ha, hb => by
    by_cases hxy : x = y
    · subst hxy
      rw [lim_step]
      have ih := key a b t ha.tail hb.tail
      by_cases h : x.2 ≤ t
      · rw [fl_cons h, fl_cons h]
        simp only [List.cons.injEq, true_and]
        exact ih
      · rw [fl_none ha (by omega), fl_none hb (by omega)]
        simp only [List.cons.injEq, true_and]
        refine iff_of_true trivial (ih.mp ?_)
        have n1 : fl t a = [] := by
          cases a with
          | nil => rfl
          | cons q r => exact fl_none ha.tail (by have := ha.1.2; omega)
        have n2 : fl t b = [] := by
          cases b with
          | nil => rfl
          | cons q r => exact fl_none hb.tail (by have := hb.1.2; omega)
        rw [n1, n2]
    · have e : lim (x :: a) (y :: b) = if y.2 < x.2 then y.2 else x.2 := by simp [lim, ends, cp, hxy, lmin]
      rw [e]
      have ne : x :: a ≠ y :: b := fun q => hxy (List.cons.inj q).1
      by_cases h1 : x.2 ≤ t <;> by_cases h2 : y.2 ≤ t
      · rw [fl_cons h1, fl_cons h2]
        refine iff_of_false (fun q => hxy (List.cons.inj q).1) ?_
        rintro (q | q)
        · exact ne q
        · split at q <;> omega
      · rw [fl_cons h1, fl_none hb (by omega)]
        refine iff_of_false (by simp) ?_
        rintro (q | q)
        · exact ne q
        · split at q <;> omega
      · rw [fl_none ha (by omega), fl_cons h2]
        refine iff_of_false (by simp) ?_
        rintro (q | q)
        · exact ne q
        · split at q <;> omega
      · rw [fl_none ha (by omega), fl_none hb (by omega)]
        refine iff_of_true rfl (.inr ?_)
        split <;> omega
theorem fl_fl (t : Int) (b : Br) : fl t (fl t b) = fl t b := by
  unfold fl
  rw [List.filter_filter]
  simp
theorem asc_fl (t : Int) : ∀ {b : Br}, Asc b → Asc (fl t b)
  | [], _ => trivial
  | p :: b, a => by
    by_cases h : p.2 ≤ t
    · rw [fl_cons h]
      cases b with
      | nil => trivial
      | cons q r =>
        have ih := asc_fl t a.tail
        by_cases h2 : q.2 ≤ t
        · rw [fl_cons h2] at ih ⊢
          exact ⟨a.1, ih⟩
        · rw [fl_none a.tail (by omega)]
          trivial
    · rw [fl_none a (by omega)]
      trivial
def sh (a : Br) (p : Int) (b : Br) (q : Int) : Int := if a = b then lmin p [q] else lmin p [q, lim a b]
end K56
set_option Elab.async false
set_option linter.all false
set_option maxRecDepth 100000
set_option maxHeartbeats 1000000
namespace Mn
open PySem PySem.Spec L2 PyProof.Rows CwR
section
variable {T : Tb} {W : Nat} {cl : Nat → List PV → PH → Res PV} {ρ : PEnv} {h h1 h2 h3 : PH}
theorem e_con {v : PV} : evE T cl (.con v) ρ h = .ok v h := by simp only [evE]
theorem e_glob {g : Nat} {v : PV} (e : T.glob[g]? = some v) : evE T cl (.glob g) ρ h = .ok v h := by simp only [evE, e]
theorem e_bty {f : Bi} {n : String} (e : f.tyn = some n) : evE T cl (.bty f) ρ h = .ok (.ty n) h := by simp only [evE, e]
theorem e_bin {op : Bop} {a b : Ex} {v w : PV} {r : Res PV} (ha : evE T cl a ρ h = .ok v h1) (hb : evE T cl b ρ h1 = .ok w h2) (k : pBin op v w h2 = r) : evE T cl (.bin op a b) ρ h = r := by
  simp only [evE, ha, hb, Res.bind_ok]; exact k
theorem e_addi {a b : Ex} {x y : Int} (ha : evE T cl a ρ h = .ok (.int x) h1) (hb : evE T cl b ρ h1 = .ok (.int y) h2) : evE T cl (.bin .add a b) ρ h = .ok (.int (x + y)) h2 := e_bin ha hb rfl
theorem e_subi {a b : Ex} {x y : Int} (ha : evE T cl a ρ h = .ok (.int x) h1) (hb : evE T cl b ρ h1 = .ok (.int y) h2) : evE T cl (.bin .sub a b) ρ h = .ok (.int (x - y)) h2 := e_bin ha hb rfl
theorem e_neg {a : Ex} {x : Int} (ha : evE T cl a ρ h = .ok (.int x) h1) : evE T cl (.neg a) ρ h = .ok (.int (-x)) h1 := by
  simp only [evE, ha, Res.bind_ok]
theorem e_cmp {op : Cop} {a b : Ex} {v w : PV} {r : Res PV} (ha : evE T cl a ρ h = .ok v h1) (hb : evE T cl b ρ h1 = .ok w h2) (k : pCmp op v w h2 = r) : evE T cl (.cmp op a b) ρ h = r := by
  simp only [evE, ha, hb, Res.bind_ok]; exact k
theorem e_chn {o1 o2 : Cop} {a b c : Ex} {u v w : PV} {t t2 : Bool} (ha : evE T cl a ρ h = .ok u h1) (hb : evE T cl b ρ h1 = .ok v h2) (k : pCmp o1 u v h2 = .ok (.bl t) h2) (hc : t = true → evE T cl c ρ h2 = .ok w h3 ∧ pCmp o2 v w h3 = .ok (.bl t2) h2) :
    evE T cl (.chn o1 o2 a b c) ρ h = .ok (.bl (t && t2)) h2 := by
  simp only [evE, ha, hb, Res.bind_ok, k]
  cases t with
  | true =>
    obtain ⟨k1, k2⟩ := hc rfl
    simp only [k1, Res.bind_ok, k2, Bool.true_and]
  | false => simp only [Bool.false_and]
theorem e_ix {o i : Ex} {v w : PV} {r : Res PV} (ha : evE T cl o ρ h = .ok v h1) (hb : evE T cl i ρ h1 = .ok w h2) (k : pIx v w h2 = r) : evE T cl (.ix o i) ρ h = r := by
  simp only [evE, ha, hb, Res.bind_ok]; exact k
theorem e_ixT {o i : Ex} {xs : List PV} {j : Int} {x : PV} (ha : evE T cl o ρ h = .ok (.tup xs) h1) (hb : evE T cl i ρ h1 = .ok (.int j) h2) (k : atI xs j = some x) : evE T cl (.ix o i) ρ h = .ok x h2 := e_ix ha hb (by simp only [pIx, k])
def isPart (e : Ex) : Prop := ∀ r h, partR e r h = r.bind fun v h1 => match v with
  | .int i => .ok (some i) h1
  | _ => .stuck
theorem partR_nop (r : Res PV) (h : PH) : partR .nop r h = .ok none h := rfl
theorem e_slT {o lo hi : Ex} {xs : List PV} {i j : Int} (pl : isPart lo) (pu : isPart hi) (ha : evE T cl o ρ h = .ok (.tup xs) h1) (hl : evE T cl lo ρ h1 = .ok (.int i) h2) (hu : evE T cl hi ρ h2 = .ok (.int j) h3) : evE T cl (.sl o lo hi) ρ h = .ok (.tup (cut xs (some i) (some j))) h3 := by
  simp only [evE, ha, Res.bind_ok, pl _ _, pu _ _, hl, hu, pSl]
theorem e_slF {o lo : Ex} {xs : List PV} {i : Int} (pl : isPart lo) (ha : evE T cl o ρ h = .ok (.tup xs) h1) (hl : evE T cl lo ρ h1 = .ok (.int i) h2) : evE T cl (.sl o lo .nop) ρ h = .ok (.tup (cut xs (some i) none)) h2 := by
  simp only [evE, ha, Res.bind_ok, pl _ _, hl, pSl, partR_nop]
theorem e_slU {o hi : Ex} {xs : List PV} {j : Int} (pu : isPart hi) (ha : evE T cl o ρ h = .ok (.tup xs) h1) (hu : evE T cl hi ρ h1 = .ok (.int j) h2) : evE T cl (.sl o .nop hi) ρ h = .ok (.tup (cut xs none (some j))) h2 := by
  simp only [evE, ha, Res.bind_ok, pu _ _, hu, pSl, partR_nop]
theorem e_nil : evEs T cl [] ρ h = .ok [] h := by simp only [evEs]
theorem e_cons {e : Ex} {es : List Ex} {v : PV} {vs : List PV} (he : evE T cl e ρ h = .ok v h1) (hs : evEs T cl es ρ h1 = .ok vs h2) (hn : ∀ x, e ≠ .star x := by intro x q; cases q) : evEs T cl (e :: es) ρ h = .ok (v :: vs) h2 := by
  rw [evEs_cons hn, he, Res.bind_ok, hs, Res.bind_ok]
theorem e_one {e : Ex} {v : PV} (he : evE T cl e ρ h = .ok v h1) (hn : ∀ x, e ≠ .star x := by intro x q; cases q) : evEs T cl [e] ρ h = .ok [v] h1 := e_cons he e_nil hn
theorem e_two {e e' : Ex} {v w : PV} (he : evE T cl e ρ h = .ok v h1) (he' : evE T cl e' ρ h1 = .ok w h2) (hn : ∀ x, e ≠ .star x := by intro x q; cases q) (hn' : ∀ x, e' ≠ .star x := by intro x q; cases q) : evEs T cl [e, e'] ρ h = .ok [v, w] h2 := e_cons he (e_one he' hn') hn
theorem e_tup {es : List Ex} {vs : List PV} (he : evEs T cl es ρ h = .ok vs h1) (hl : vs.length ≤ 1000) : evE T cl (.tup es) ρ h = .ok (.tup vs) h1 := by
  simp only [evE, he, Res.bind_ok]
  rw [if_pos (Nat.le_trans hl (by decide))]
theorem e_lst {es : List Ex} {vs : List PV} (he : evEs T cl es ρ h = .ok vs h1) (hl : vs.length ≤ 1000) : evE T cl (.lst es) ρ h = .ok (.ref h1.length) (h1 ++ [.lst vs]) := by
  simp only [evE, he, Res.bind_ok]
  rw [if_pos (Nat.le_trans hl (by decide))]
theorem e_bi {f : Bi} {es : List Ex} {vs : List PV} {r : Res PV} (he : evEs T cl es ρ h = .ok vs h1) (k : pBi T f vs h1 = r) : evE T cl (.bi f es) ρ h = r := by
  simp only [evE, he, Res.bind_ok]; exact k
theorem e_call {g f : Nat} {es : List Ex} {vs : List PV} {r : Res PV} (hg : T.glob[g]? = some (.fn f)) (he : evEs T cl es ρ h = .ok vs h1) (k : cl f vs h1 = r) : evE T cl (.call g es) ρ h = r := by
  simp only [evE, hg, callG, he, Res.bind_ok]; exact k
theorem e_not {a : Ex} {b : Bool} (ha : evE T cl a ρ h = .ok (.bl b) h1) : evE T cl (.not a) ρ h = .ok (.bl (!b)) h1 := by
  simp only [evE, ha, Res.bind_ok, pTru]
theorem e_and {a b : Ex} {t u : Bool} (ha : evE T cl a ρ h = .ok (.bl t) h1) (hb : t = true → evE T cl b ρ h1 = .ok (.bl u) h1) : evE T cl (.and a b) ρ h = .ok (.bl (t && u)) h1 := by
  simp only [evE, ha, Res.bind_ok, pTru]
  cases t with
  | true => simp only [hb rfl, Bool.true_and]
  | false => simp only [Bool.false_and]
theorem e_or {a b : Ex} {t u : Bool} (ha : evE T cl a ρ h = .ok (.bl t) h1) (hb : t = false → evE T cl b ρ h1 = .ok (.bl u) h1) : evE T cl (.or a b) ρ h = .ok (.bl (t || u)) h1 := by
  simp only [evE, ha, Res.bind_ok, pTru]
  cases t with
  | true => simp only [Bool.true_or]
  | false => simp only [hb rfl, Bool.false_or]
theorem e_andF {a b : Ex} (ha : evE T cl a ρ h = .ok (.bl false) h1) : evE T cl (.and a b) ρ h = .ok (.bl false) h1 := by
  simp only [evE, ha, Res.bind_ok, pTru]
theorem e_andT {a b : Ex} {r : Res PV} (ha : evE T cl a ρ h = .ok (.bl true) h1) (hb : evE T cl b ρ h1 = r) : evE T cl (.and a b) ρ h = r := by
  simp only [evE, ha, Res.bind_ok, pTru]; exact hb
theorem e_orT {a b : Ex} (ha : evE T cl a ρ h = .ok (.bl true) h1) : evE T cl (.or a b) ρ h = .ok (.bl true) h1 := by
  simp only [evE, ha, Res.bind_ok, pTru]
theorem e_orF {a b : Ex} {r : Res PV} (ha : evE T cl a ρ h = .ok (.bl false) h1) (hb : evE T cl b ρ h1 = r) : evE T cl (.or a b) ρ h = r := by
  simp only [evE, ha, Res.bind_ok, pTru]; exact hb
theorem e_ife {c a b : Ex} {t : Bool} {r : Res PV} (hc : evE T cl c ρ h = .ok (.bl t) h1) (ha : t = true → evE T cl a ρ h1 = r) (hb : t = false → evE T cl b ρ h1 = r) : evE T cl (.ife c a b) ρ h = r := by
  simp only [evE, hc, Res.bind_ok, pTru]
  cases t with
  | true => exact ha rfl
  | false => exact hb rfl
theorem t_bl {c : Ex} {b : Bool} (hc : evE T cl c ρ h = .ok (.bl b) h1) : evT T cl c ρ h = .ok b h1 := by
  simp only [evT, hc, Res.bind_ok, pTru]
theorem s_asg {i : Nat} {e : Ex} {v : PV} (he : evE T cl e ρ h = .ok v h1) : exS T cl W (.asg (.nm i) e) ρ h = .ok (.nx (ρ.set i (some v))) h1 := by
  simp only [exS, he, Res.bind_ok, asgTa]
theorem s_asgt {is : List Nat} {e : Ex} {v : PV} {ρ1 : PEnv} (he : evE T cl e ρ h = .ok v h1) (hb : bindTg (.tp is) v ρ = some ρ1) : exS T cl W (.asg (.tp is) e) ρ h = .ok (.nx ρ1) h1 := by
  simp only [exS, he, Res.bind_ok, asgTa, hb]
theorem s_ex {e : Ex} {v : PV} (he : evE T cl e ρ h = .ok v h1) : exS T cl W (.ex e) ρ h = .ok (.nx ρ) h1 := by
  simp only [exS, he, Res.bind_ok]
theorem s_ret {e : Ex} {v : PV} (he : evE T cl e ρ h = .ok v h1) : exS T cl W (.ret e) ρ h = .ok (.rt v) h1 := by
  simp only [exS, he, Res.bind_ok]
theorem s_nil : exSs T cl W [] ρ h = .ok (.nx ρ) h := by simp only [exSs]
theorem st_no {c : Ex} {a r : List Sm} {z : Res Fl} (hc : evE T cl c ρ h = .ok (.bl false) h1) (k : exSs T cl W r ρ h1 = z) : exSs T cl W (.ite c a [] :: r) ρ h = z :=
  st_nx (by simp only [exS, t_bl hc, Res.bind_ok, Bool.false_eq_true, if_false]; exact s_nil) k
theorem st_yes {c e : Ex} {r : List Sm} {v : PV} (hc : evE T cl c ρ h = .ok (.bl true) h1) (he : evE T cl e ρ h1 = .ok v h2) : exSs T cl W (.ite c [.ret e] [] :: r) ρ h = .ok (.rt v) h2 :=
  st_rt (by simp only [exS, t_bl hc, Res.bind_ok, if_true]; exact st_rt (s_ret he))
end
section
variable {T : Tb} {W : Nat} {cl : Nat → List PV → PH → Res PV} {ρ : PEnv} {h h1 : PH}
theorem lc_gen {e : Ex} {own : List Nat} {t : Tg} {k : Ik} {its ifs : List Ex} {xs : List PV} {w : Wk} (p : PV → Bool) (f : PV → PV) (hv : evI T cl k its ρ h = .ok (w, xs.length) h1) (hw : ∀ h' : PH, (∀ m < h1.length, h'[m]? = h1[m]?) → ∀ i, wkAt h' i w = some xs[i]?) (hN : xs.length ≤ 1000)
    (hb : ∀ x ∈ xs, ∀ h' : PH, h1.length ≤ h'.length → (∀ m < h1.length, h'[m]? = h1[m]?) → lcB T cl e own t ifs ρ x h' = .ok (if p x then some (f x) else none) h') :
    evE T cl (.lc e own t k its ifs) ρ h = .ok (.ref h1.length) (h1 ++ [.lst ((xs.filter p).map f)]) := by
  rw [evE_lc, hv]
  simp only [Res.bind_ok]
  have gen : ∀ m i, i + m = xs.length → lcRun (lcB T cl e own t ifs ρ) w h1.length (m + 1) i (h1 ++ [.lst (((xs.take i).filter p).map f)]) = .ok (.ref h1.length) (h1 ++ [.lst ((xs.filter p).map f)]) := fun m => by
    induction m with
    | zero =>
      intro i hi
      have : i = xs.length := by omega
      subst this
      unfold lcRun
      rw [hw _ (fun m hm => List.getElem?_append_left hm), List.getElem?_eq_none (Nat.le_refl _), List.take_length]
    | succ m ih =>
      intro i hi
      have hlt : i < xs.length := by omega
      unfold lcRun
      rw [hw _ (fun m hm => List.getElem?_append_left hm), List.getElem?_eq_getElem hlt]
      simp only
      rw [hb _ (List.getElem_mem hlt) _ (by simp) (fun m hm => List.getElem?_append_left hm), Res.bind_ok]
      have et : (xs.take (i + 1)).filter p = (xs.take i).filter p ++ (if p xs[i] then [xs[i]] else []) := by
        rw [List.take_succ, List.getElem?_eq_getElem hlt, List.filter_append]
        simp [List.filter_cons]
      by_cases hp : p xs[i] = true
      · simp only [hp, if_true, get_last, set_last]
        have hsz : (((xs.take i).filter p).map f).length < sizeLine := by
          rw [List.length_map]
          have := List.length_filter_le p (xs.take i)
          have h2 : (xs.take i).length ≤ 1000 := by simp; omega
          exact Nat.lt_of_lt_of_le (show _ < 1001 by omega) (by decide)
        rw [if_pos hsz]
        have k := ih (i + 1) (by omega)
        rw [et, if_pos hp, List.map_append] at k
        exact k
      · rw [if_neg hp]
        simp only
        have k := ih (i + 1) (by omega)
        rw [et, if_neg hp, List.append_nil] at k
        exact k
  have k := gen xs.length 0 (by omega)
  simpa using k
theorem evI_row {src : Ex} {xs : List PV} (hs : evE T cl src ρ h = .ok (.tup xs) h1) : evI T cl .seq [src] ρ h = .ok (.fix xs, xs.length) h1 := by
  have ns : ∀ x, src ≠ .star x := fun x q => by subst q; simp [evE] at hs
  unfold evI
  rw [evEs_cons ns, hs]
  simp only [Res.bind_ok, evEs, wkOf]
theorem evI_ref {src : Ex} {xs : List PV} {l : Nat} (hs : evE T cl src ρ h = .ok (.ref l) h1) (hl : h1[l]? = some (.lst xs)) : evI T cl .seq [src] ρ h = .ok (.lst l, xs.length) h1 := by
  have ns : ∀ x, src ≠ .star x := fun x q => by subst q; simp [evE] at hs
  unfold evI
  rw [evEs_cons ns, hs]
  simp only [Res.bind_ok, evEs, wkOf, lstAt, hl, Option.map_some]
theorem lc_row {e src : Ex} {own : List Nat} {t : Tg} {ifs : List Ex} {xs : List PV} (p : PV → Bool) (f : PV → PV) (hs : evE T cl src ρ h = .ok (.tup xs) h1) (hN : xs.length ≤ 1000)
    (hb : ∀ x ∈ xs, ∀ h' : PH, h1.length ≤ h'.length → (∀ m < h1.length, h'[m]? = h1[m]?) → lcB T cl e own t ifs ρ x h' = .ok (if p x then some (f x) else none) h') :
    evE T cl (.lc e own t .seq [src] ifs) ρ h = .ok (.ref h1.length) (h1 ++ [.lst ((xs.filter p).map f)]) := lc_gen p f (evI_row hs) (fun _ _ _ => rfl) hN hb
theorem lc_ref {e src : Ex} {own : List Nat} {t : Tg} {ifs : List Ex} {xs : List PV} {l : Nat} (p : PV → Bool) (f : PV → PV) (hs : evE T cl src ρ h = .ok (.ref l) h1) (hl : h1[l]? = some (.lst xs)) (hN : xs.length ≤ 1000)
    (hb : ∀ x ∈ xs, ∀ h' : PH, h1.length ≤ h'.length → (∀ m < h1.length, h'[m]? = h1[m]?) → lcB T cl e own t ifs ρ x h' = .ok (if p x then some (f x) else none) h') :
    evE T cl (.lc e own t .seq [src] ifs) ρ h = .ok (.ref h1.length) (h1 ++ [.lst ((xs.filter p).map f)]) := lc_gen p f (evI_ref hs hl) (fun h' hh i => by simp only [wkAt, lstAt, hh l (List.getElem?_eq_some_iff.mp hl).1, hl, Option.map_some]) hN hb
theorem lc_all {e : Ex} {own : List Nat} {t : Tg} {k : Ik} {its : List Ex} {xs : List PV} {w : Wk} (f : PV → PV) (hv : evI T cl k its ρ h = .ok (w, xs.length) h1) (hw : ∀ h' : PH, (∀ m < h1.length, h'[m]? = h1[m]?) → ∀ i, wkAt h' i w = some xs[i]?) (hN : xs.length ≤ 1000)
    (hb : ∀ x ∈ xs, ∀ h' : PH, h1.length ≤ h'.length → (∀ m < h1.length, h'[m]? = h1[m]?) → lcB T cl e own t [] ρ x h' = .ok (some (f x)) h') :
    evE T cl (.lc e own t k its []) ρ h = .ok (.ref h1.length) (h1 ++ [.lst (xs.map f)]) := by
  have k := lc_gen (fun _ => true) f hv hw hN (fun x hx h' a b => by simpa using hb x hx h' a b)
  rw [List.filter_eq_self.mpr (fun _ _ => rfl)] at k
  exact k
theorem fix_all {xs : List PV} {h' : PH} (i : Nat) : wkAt h' i (.fix xs) = some xs[i]? := rfl
theorem lst_all {xs : List PV} {l : Nat} (hl : h1[l]? = some (.lst xs)) (h' : PH) (hh : ∀ m < h1.length, h'[m]? = h1[m]?) (i : Nat) : wkAt h' i (.lst l) = some xs[i]? := by
  simp only [wkAt, lstAt, hh l (List.getElem?_eq_some_iff.mp hl).1, hl, Option.map_some]
theorem evI_rng2 {its : List Ex} {a b : Int} (he : evEs T cl its ρ h = .ok [.int a, .int b] h1) (ha : -1000000 ≤ a) (ha' : a ≤ 1000000) (hb : -1000000 ≤ b) (hb' : b ≤ 1000000) : evI T cl .rng its ρ h = .ok (.fix ((List.range (b - a).toNat).map fun (m : Nat) => .int (a + m)), (b - a).toNat) h1 := by
  unfold evI
  rw [he]
  have h3 : (-4611686018427387904 : Int) ≤ a := by omega
  have h4 : a < 4611686018427387904 := by omega
  have h5 : (-4611686018427387904 : Int) ≤ b := by omega
  have h6 : b < 4611686018427387904 := by omega
  simp [wkOf, h3, h4, h5, h6]
theorem e_app {m : Nat} {o e : Ex} {l : Nat} {xs ys : List PV} {x : PV} {h2 : PH} (ho : evE T cl o ρ h = .ok (.ref l) h1) (hl : h1[l]? = some (.lst xs)) (he : evE T cl e ρ h1 = .ok x h2) (hl2 : h2[l]? = some (.lst ys)) (hs : ys.length ≤ 1000) (hn : ∀ x, e ≠ .star x := by intro x q; cases q) :
    evE T cl (.mt m .append o [e]) ρ h = .ok .non (h2.set l (.lst (ys ++ [x]))) := by
  rw [evE_mt rfl, ho]
  simp only [Res.bind_ok, kindAt, hl, Bq.of]
  rw [evEs_cons hn, he]
  simp only [Res.bind_ok, evEs, pBq, hl2]
  rw [if_pos (Nat.lt_of_le_of_lt hs (by decide))]
theorem lcB_all {e : Ex} {own : List Nat} {t : Tg} {x y : PV} {ρ1 : PEnv} (hb : bindTg t x (own.foldr (fun i r => r.set i none) ρ) = some ρ1) (he : evE T cl e ρ1 h = .ok y h) : lcB T cl e own t [] ρ x h = .ok (some y) h := by
  unfold lcB
  rw [hb]
  simp only [evIf, Res.bind_ok, if_true, he]
  rfl
theorem lcB_if {e c : Ex} {own : List Nat} {t : Tg} {x y : PV} {b : Bool} {ρ1 : PEnv} (hb : bindTg t x (own.foldr (fun i r => r.set i none) ρ) = some ρ1) (hc : evE T cl c ρ1 h = .ok (.bl b) h) (he : b = true → evE T cl e ρ1 h = .ok y h) : lcB T cl e own t [c] ρ x h = .ok (if b then some y else none) h := by
  unfold lcB
  rw [hb]
  cases b with
  | true =>
    simp only [evIf, hc, pTru, Res.bind_ok, if_true, he rfl]
    rfl
  | false =>
    simp only [evIf, hc, pTru, Res.bind_ok, Bool.false_eq_true, if_false]
    rfl
theorem wh_det {c : PEnv → PH → Res Bool} {body : PEnv → PH → Res Fl} {f : Nat → PEnv} {N : Nat} {h : PH} (hc : ∀ i < N, c (f i) h = .ok true h) (he : c (f N) h = .ok false h) (hb : ∀ i < N, body (f i) h = .ok (.nx (f (i + 1))) h) :
    ∀ m i W, i + m = N → m < W → whRun c body W (f i) h = .ok (.nx (f N)) h := fun m => by
  induction m with
  | zero =>
    intro i W hi hW
    obtain ⟨W', rfl⟩ : ∃ W', W = W' + 1 := ⟨W - 1, by omega⟩
    have : i = N := by omega
    subst this
    unfold whRun
    rw [he]
    rfl
  | succ m ih =>
    intro i W hi hW
    obtain ⟨W', rfl⟩ : ∃ W', W = W' + 1 := ⟨W - 1, by omega⟩
    unfold whRun
    rw [hc i (by omega)]
    simp only [Res.bind_ok, if_true]
    rw [hb i (by omega)]
    simp only [Res.bind_ok]
    exact ih (i + 1) W' (by omega) (by omega)
theorem intsOf_map : ∀ l : List Int, intsOf (l.map .int) = some l
  | [] => rfl
  | x :: l => by simp [intsOf, intsOf_map l]
theorem blsOf_map : ∀ l : List Bool, blsOf (l.map .bl) = some l
  | [] => rfl
  | x :: l => by simp [blsOf, blsOf_map l]
theorem lst_last {h : PH} {xs : List PV} : lstAt (h ++ [.lst xs]) h.length = some xs := by unfold lstAt; rw [get_last]
end
end Mn
set_option Elab.async false
set_option linter.all false
set_option maxRecDepth 100000
set_option maxHeartbeats 4000000
namespace K56
open PySem PySem.Spec PyProof.Rows L2 Mn
def spec : Nat → Option (List PV → PH → Res PV)
  | 15 => some spDice
  | 16 => some spRoll
  | _ => none
abbrev call (n : Nat) : Nat → List PV → PH → Res PV := callS T 100 defs spec n
theorem call_run {n i : Nat} {d : Df} {vs : List PV} {h : PH} (hd : defs[i]? = some d) (hs : spec i = none) : call (n + 1) i vs h = runD T 100 (call n) d vs h := callS_run hd hs
theorem cut1 {α : Type} (xs : List α) (k : Nat) : cut xs (some (k : Int)) (some ((k : Int) + 1)) = (xs.drop k).take 1 := by
  have e : (k : Int) + 1 = ((k + 1 : Nat) : Int) := by omega
  unfold cut
  rw [e, HT.sIx_nat, HT.sIx_nat]
  by_cases h : k < xs.length
  · rw [show min k xs.length = k by omega, show min (k + 1) xs.length - k = 1 by omega]
  · rw [List.drop_eq_nil_of_le (by omega), List.drop_eq_nil_of_le (by omega)]
    simp
theorem cp_le : ∀ a b : Br, cp a b ≤ a.length
  | [], _ => by simp [cp]
  | _ :: _, [] => by simp [cp]
  | x :: a, y :: b => by
    unfold cp
    split
    · simpa using cp_le a b
    · simp
theorem cp_eq : ∀ (a b : Br) (k : Nat), k < cp a b → (a.drop k).take 1 = (b.drop k).take 1
  | [], _, k, h => by simp [cp] at h
  | _ :: _, [], k, h => by simp [cp] at h
  | x :: a, y :: b, k, h => by
    unfold cp at h
    split at h
    · rename_i e
      subst e
      cases k with
      | zero => rfl
      | succ k => exact cp_eq a b k (by omega)
    · omega
theorem cp_ne : ∀ (a b : Br), a ≠ b → (a.drop (cp a b)).take 1 ≠ (b.drop (cp a b)).take 1
  | [], [], h => absurd rfl h
  | [], y :: b, _ => by simp [cp]
  | x :: a, [], _ => by simp [cp]
  | x :: a, y :: b, h => by
    unfold cp
    split
    · rename_i e
      subst e
      simp only [List.drop_succ_cons]
      exact cp_ne a b fun q => h (by rw [q])
    · rename_i e
      simp [e]
theorem take_map1 (a : Br) (k : Nat) : ((a.map pv).drop k).take 1 = ((a.drop k).take 1).map pv := by rw [List.map_take, List.map_drop]
def sel : PV → PV
  | .tup [_, y] => y
  | y => y
theorem sel_map : ∀ l : Br, (l.map pv).map sel = (l.map (·.2)).map .int
  | [] => rfl
  | p :: l => by simp only [List.map_cons, sel_map l]; rfl
theorem e_limit {n : Nat} {a b : Br} {h : PH} (hab : a ≠ b) (la : a.length ≤ 50) (lb : b.length ≤ 50) : ∃ g, call (n + 1) 14 [bv a, bv b] h = .ok (.int (lim a b)) (h ++ g) := by
  refine ⟨[.lst ((ends a b).map .int)], ?_⟩
  rw [call_run (d := d__limit) rfl rfl]
  refine rd_rt rfl ?_
  show exSs T (call n) 100 b__limit [some (bv a), some (bv b), none, none, none] h = _
  have q1 : ∀ (k : Nat) (z1 z2 : Option PV), evE T (call n) (.sl (.var 0) (.var 2) (.bin .add (.var 2) (.con (.int 1)))) [some (bv a), some (bv b), some (.int k), z1, z2] h = .ok (bv ((a.drop k).take 1)) h := fun k z1 z2 => by
    have e := e_slT (T := T) (cl := call n) (o := .var 0) (lo := .var 2) (hi := .bin .add (.var 2) (.con (.int 1))) (ρ := [some (bv a), some (bv b), some (.int k), z1, z2]) (h := h) (fun _ _ => rfl) (fun _ _ => rfl) (e_var rfl) (e_var rfl) (e_addi (e_var rfl) e_con)
    rw [cut1, take_map1] at e
    exact e
  have q2 : ∀ (k : Nat) (z1 z2 : Option PV), evE T (call n) (.sl (.var 1) (.var 2) (.bin .add (.var 2) (.con (.int 1)))) [some (bv a), some (bv b), some (.int k), z1, z2] h = .ok (bv ((b.drop k).take 1)) h := fun k z1 z2 => by
    have e := e_slT (T := T) (cl := call n) (o := .var 1) (lo := .var 2) (hi := .bin .add (.var 2) (.con (.int 1))) (ρ := [some (bv a), some (bv b), some (.int k), z1, z2]) (h := h) (fun _ _ => rfl) (fun _ _ => rfl) (e_var rfl) (e_var rfl) (e_addi (e_var rfl) e_con)
    rw [cut1, take_map1] at e
    exact e
  refine st_nx (ρ1 := [some (bv a), some (bv b), some (.int 0), none, none]) (h1 := h) (s_asg e_con) ?_
  refine st_nx (ρ1 := [some (bv a), some (bv b), some (.int (cp a b : Nat)), none, none]) (h1 := h) ?_ ?_
  · show exS T (call n) 100 (.wh _ _) _ _ = _
    simp only [exS]
    refine wh_det (f := fun k => [some (bv a), some (bv b), some (.int (k : Nat)), none, none]) (N := cp a b) (fun i hi => t_bl ?_) (t_bl ?_) (fun i hi => ?_) (cp a b) 0 100 (by omega) (by have := cp_le a b; omega)
    · exact e_cmp (q1 i none none) (q2 i none none) (by simp only [pCmp, pEq_b, ob, cp_eq a b i hi, decide_true])
    · exact e_cmp (q1 _ none none) (q2 _ none none) (by simp only [pCmp, pEq_b, ob, decide_eq_false (cp_ne a b hab)])
    · refine st_nx (ρ1 := [some (bv a), some (bv b), some (.int ((i : Int) + 1)), none, none]) (h1 := h) ?_ s_nil
      simp only [exS, evE]
      rfl
  · refine st_rt (s_ret ?_)
    have hs : evE T (call n) (.bin .add (.sl (.var 0) (.var 2) (.bin .add (.var 2) (.con (.int 1)))) (.sl (.var 1) (.var 2) (.bin .add (.var 2) (.con (.int 1))))) [some (bv a), some (bv b), some (.int (cp a b : Nat)), none, none] h = .ok (bv ((a.drop (cp a b)).take 1 ++ (b.drop (cp a b)).take 1)) h := by
      refine e_bin (q1 _ none none) (q2 _ none none) ?_
      simp only [pBin, bv]
      rw [if_pos (Nat.le_trans (show _ ≤ 2 by simp; omega) (by decide)), List.map_append]
    have hl := lc_row (T := T) (cl := call n) (e := .var 4) (own := [3, 4]) (t := .tp [3, 4]) (ifs := []) (fun _ => true) sel hs (by simp; omega) (fun x hx h' _ _ => by
      obtain ⟨p, _, rfl⟩ := List.mem_map.mp hx
      exact lcB_all (ρ1 := [some (bv a), some (bv b), some (.int (cp a b : Nat)), some (.int p.1), some (.int p.2)]) rfl (e_var rfl))
    refine e_bi (e_one hl) ?_
    have ee : (List.filter (fun _ => true) (((a.drop (cp a b)).take 1 ++ (b.drop (cp a b)).take 1).map pv)).map sel = (ends a b).map .int := by
      rw [List.filter_eq_self.mpr (fun _ _ => rfl), sel_map]
      rfl
    rw [ee]
    simp only [pBi, lst_last, intsOf_map]
    have ne : ends a b ≠ [] := by
      intro q
      unfold ends at q
      have q' := List.map_eq_nil_iff.mp q
      obtain ⟨z1, z2⟩ := List.append_eq_nil_iff.mp q'
      exact cp_ne a b hab (z1.trans z2.symm)
    unfold lim
    cases hq : ends a b with
    | nil => exact absurd hq ne
    | cons x r => rfl
end K56
set_option Elab.async false
set_option linter.all false
set_option maxRecDepth 100000
set_option maxHeartbeats 2000000
namespace K56
open PySem PySem.Spec PyProof.Rows L2 Mn
inductive Kd (h : PH) : PV → Prop
  | non : Kd h .non
  | bl (b : Bool) : Kd h (.bl b)
  | int (i : Int) : Kd h (.int i)
  | str (x : List Nat) : Kd h (.str x)
  | tup (xs : List PV) (k : ∀ x ∈ xs, Kd h x) : Kd h (.tup xs)
  | lst (l : Nat) (xs : List PV) (e : h[l]? = some (.lst xs)) : Kd h (.ref l)
theorem Kd.app {h : PH} {v : PV} (k : Kd h v) (g : PH) : Kd (h ++ g) v := by
  induction k with
  | non => exact .non
  | bl b => exact .bl b
  | int i => exact .int i
  | str x => exact .str x
  | tup xs k ih => exact .tup xs ih
  | lst l xs e => exact .lst l xs (by rw [List.getElem?_append_left (List.getElem?_eq_some_iff.mp e).1]; exact e)
theorem Kd.same {h h' : PH} {v : PV} (k : Kd h v) (e : ∀ m < h.length, h'[m]? = h[m]?) : Kd h' v := by
  induction k with
  | non => exact .non
  | bl b => exact .bl b
  | int i => exact .int i
  | str x => exact .str x
  | tup xs k ih => exact .tup xs ih
  | lst l xs q => exact .lst l xs (by rw [e l (List.getElem?_eq_some_iff.mp q).1]; exact q)
theorem kd_pv {h : PH} (p : Int × Int) : Kd h (pv p) := .tup _ fun x hx => by
  rcases List.mem_cons.mp hx with e | e
  · rw [e]; exact .int _
  · rw [List.mem_singleton.mp e]; exact .int _
theorem kd_bv {h : PH} (b : Br) : Kd h (bv b) := .tup _ fun x hx => by
  obtain ⟨p, _, rfl⟩ := List.mem_map.mp hx
  exact kd_pv p
theorem kd_sv {h : PH} (b : Br) (q : Int) : Kd h (sv b q) := .tup _ fun x hx => by
  rcases List.mem_cons.mp hx with e | e
  · rw [e]; exact kd_bv b
  · rw [List.mem_singleton.mp e]; exact .int _
abbrev M : Int := 1000000000000
def isTup : PV → Bool
  | .tup _ => true
  | _ => false
def isI : PV → Bool
  | .int _ => true
  | .bl _ => true
  | _ => false
def isB : PV → Bool
  | .bl _ => true
  | _ => false
def nIn (v : PV) (lo hi : Int) : Bool := match v with
  | .int i => decide (lo ≤ i) && decide (i ≤ hi)
  | _ => false
def isP : PV → Bool
  | .tup [a, b] => nIn a 0 M && nIn b 0 M
  | _ => false
def prOf : PV → Int × Int
  | .tup [.int a, .int b] => (a, b)
  | _ => (0, 0)
def ascB (b : Br) : Bool := (b.zip b.tail).all fun q => decide (q.1.1 < q.2.1) && decide (q.1.2 ≤ q.2.2)
def isBr : PV → Bool
  | .tup ps => (decide (1 ≤ ps.length) && decide (ps.length ≤ 20)) && (ps.all isP && (decide ((ps.map prOf).head? = some (0, 0)) && ascB (ps.map prOf)))
  | _ => false
def lastB : PV → Int
  | .tup ps => (((ps.map prOf).getLast?).map (·.2)).getD 0
  | _ => 0
def isSt : PV → Bool
  | .tup [x, y] => isBr x && nIn y (lastB x) M
  | _ => false
theorem isP_pv {x : PV} (h : isP x = true) : x = pv (prOf x) := by
  unfold isP at h
  split at h
  · rename_i a b
    simp only [Bool.and_eq_true] at h
    obtain ⟨h1, h2⟩ := h
    unfold nIn at h1 h2
    split at h1
    · split at h2
      · rfl
      · cases h2
    · cases h1
  · cases h
theorem all_pv : ∀ {xs : List PV}, xs.all isP = true → xs = (xs.map prOf).map pv
  | [], _ => rfl
  | x :: xs, h => by
    rw [List.all_cons, Bool.and_eq_true] at h
    simp only [List.map_cons]
    rw [← isP_pv h.1, ← all_pv h.2]
section
variable {cl : Nat → List PV → PH → Res PV} {ρ : PEnv} {h h1 : PH}
theorem e_isT {o : Ex} {v : PV} (ho : evE T cl o ρ h = .ok v h1) (k : Kd h1 v) (hn : ∀ x, o ≠ .star x := by intro x q; cases q) : evE T cl (.bi .isinst [o, .bty .tuple]) ρ h = .ok (.bl (isTup v)) h1 := by
  refine e_bi (e_two ho (e_bty rfl) hn) ?_
  cases k with
  | lst l xs e => simp [pBi, isTy, tyOf, subC, tyB, tyNames, ob, isTup, e]
  | _ => simp [pBi, isTy, tyOf, subC, tyB, tyNames, ob, isTup]
theorem e_isI {o : Ex} {v : PV} (ho : evE T cl o ρ h = .ok v h1) (k : Kd h1 v) (hn : ∀ x, o ≠ .star x := by intro x q; cases q) : evE T cl (.bi .isinst [o, .bty .int]) ρ h = .ok (.bl (isI v)) h1 := by
  refine e_bi (e_two ho (e_bty rfl) hn) ?_
  cases k with
  | lst l xs e => simp [pBi, isTy, tyOf, subC, tyB, tyNames, ob, isI, e]
  | _ => simp [pBi, isTy, tyOf, subC, tyB, tyNames, ob, isI]
theorem e_isB {o : Ex} {v : PV} (ho : evE T cl o ρ h = .ok v h1) (k : Kd h1 v) (hn : ∀ x, o ≠ .star x := by intro x q; cases q) : evE T cl (.bi .isinst [o, .bty .bool]) ρ h = .ok (.bl (isB v)) h1 := by
  refine e_bi (e_two ho (e_bty rfl) hn) ?_
  cases k with
  | lst l xs e => simp [pBi, isTy, tyOf, subC, tyB, tyNames, ob, isB, e]
  | _ => simp [pBi, isTy, tyOf, subC, tyB, tyNames, ob, isB]
theorem e_len {o : Ex} {xs : List PV} (ho : evE T cl o ρ h = .ok (.tup xs) h1) (hn : ∀ x, o ≠ .star x := by intro x q; cases q) : evE T cl (.bi .len [o]) ρ h = .ok (.int xs.length) h1 := e_bi (e_one ho hn) rfl
theorem c_le {i j : Int} : pCmp .le (.int i) (.int j) h = .ok (.bl (decide (i ≤ j))) h := rfl
theorem c_lt {i j : Int} : pCmp .lt (.int i) (.int j) h = .ok (.bl (decide (i < j))) h := rfl
theorem c_ge {i j : Int} : pCmp .ge (.int i) (.int j) h = .ok (.bl (decide (j ≤ i))) h := rfl
theorem c_gt {i j : Int} : pCmp .gt (.int i) (.int j) h = .ok (.bl (decide (j < i))) h := rfl
theorem c_eqi {i j : Int} : pCmp .eq (.int i) (.int j) h = .ok (.bl (decide (i = j))) h := by simp only [pCmp, pEq_int, ob]
theorem c_nei {i j : Int} : pCmp .ne (.int i) (.int j) h = .ok (.bl (!decide (i = j))) h := by simp only [pCmp, pEq_int, ob, Option.map_some]
theorem c_neT {i j : Int} (e : i ≠ j) : pCmp .ne (.int i) (.int j) h = .ok (.bl true) h := by rw [c_nei, decide_eq_false e]; rfl
theorem c_neF {i j : Int} (e : i = j) : pCmp .ne (.int i) (.int j) h = .ok (.bl false) h := by rw [c_nei, decide_eq_true e]; rfl
end
theorem e_within {n : Nat} {v : PV} {lo hi : Int} {h : PH} (k : Kd h v) : call (n + 1) 0 [v, .int lo, .int hi] h = .ok (.bl (nIn v lo hi)) h := by
  rw [call_run (d := d_is_within) rfl rfl]
  refine rd_rt rfl ?_
  show exSs T (call n) 100 b_is_within [some v, some (.int lo), some (.int hi)] h = _
  refine st_rt (s_ret ?_)
  have a1 := e_isI (cl := call n) (ρ := [some v, some (.int lo), some (.int hi)]) (o := .var 0) (h := h) (e_var rfl) k
  have a2 := e_isB (cl := call n) (ρ := [some v, some (.int lo), some (.int hi)]) (o := .var 0) (h := h) (e_var rfl) k
  cases v with
  | int i => exact e_andT a1 (e_andT (e_not a2) (e_chn (e_var rfl) (e_var rfl) c_le fun _ => ⟨e_var rfl, c_le⟩))
  | bl b => exact e_andT a1 (e_andF (e_not a2))
  | _ => exact e_andF a1
theorem e_is_pair {n : Nat} {v : PV} {h : PH} (k : Kd h v) : call (n + 2) 3 [v] h = .ok (.bl (isP v)) h := by
  rw [call_run (d := d__is_pair) rfl rfl]
  refine rd_rt rfl ?_
  show exSs T (call (n + 1)) 100 b__is_pair [some v] h = _
  have a1 := e_isT (cl := call (n + 1)) (ρ := [some v]) (o := .var 0) (h := h) (e_var rfl) k
  cases v with
  | tup xs =>
    have a2 := e_len (cl := call (n + 1)) (ρ := [some (.tup xs)]) (o := .var 0) (h := h) (e_var rfl)
    by_cases hl : xs.length = 2
    · match xs, hl, k, a1, a2 with
      | [a, b], _, k, a1, a2 =>
        cases k with
        | tup _ k =>
          refine st_no (e_orF (e_not a1) (e_cmp a2 e_con (c_neF rfl))) (st_rt (s_ret ?_))
          have w1 : evE T (call (n + 1)) (.call 0 [.ix (.var 0) (.con (.int 0)), .con (.int 0), .glob 28]) [some (.tup [a, b])] h = .ok (.bl (nIn a 0 M)) h :=
            e_call rfl (e_cons (e_ixT (e_var rfl) e_con rfl) (e_two e_con (e_glob rfl))) (e_within (k a (by simp)))
          have w2 : evE T (call (n + 1)) (.call 0 [.ix (.var 0) (.con (.int 1)), .con (.int 0), .glob 28]) [some (.tup [a, b])] h = .ok (.bl (nIn b 0 M)) h :=
            e_call rfl (e_cons (e_ixT (e_var rfl) e_con rfl) (e_two e_con (e_glob rfl))) (e_within (k b (by simp)))
          exact e_and w1 fun _ => w2
    · have : isP (.tup xs) = false := by
        unfold isP
        split
        · rename_i a b e
          cases e
          simp at hl
        · rfl
      rw [this]
      exact st_yes (e_orF (e_not a1) (e_cmp a2 e_con (c_neT (by omega)))) e_con
  | _ => exact st_yes (e_orT (e_not a1)) e_con
end K56
set_option Elab.async false
set_option linter.all false
set_option maxRecDepth 100000
set_option maxHeartbeats 2000000
namespace K56
open PySem PySem.Spec PyProof.Rows L2 Mn
theorem atI_zero {x : PV} {xs : List PV} : atI (x :: xs) 0 = some x := by
  have := atI_nat (xs := x :: xs) (j := 0) (v := x) rfl
  simpa using this
theorem p_all {h : PH} {l : List Bool} : pBi T .all [.ref h.length] (h ++ [.lst (l.map .bl)]) = .ok (.bl (l.all id)) (h ++ [.lst (l.map .bl)]) := by
  simp only [pBi, lst_last, blsOf_map]
theorem all_map (xs : List PV) : (xs.map isP).all id = xs.all isP := by rw [List.all_map]; rfl
def nbs (b : Br) : List PV := (b.zip b.tail).map fun q => .tup [pv q.1, pv q.2]
theorem nbs_len (b : Br) : (nbs b).length = b.length - 1 := by unfold nbs; simp
theorem nbs_get {b : Br} {i : Nat} (hi : i + 1 < b.length) : (nbs b)[i]? = some (.tup [pv b[i], pv b[i + 1]]) := by
  unfold nbs
  rw [List.getElem?_map, List.getElem?_eq_getElem (by simp; omega)]
  simp [List.getElem_zip]
def ltP : PV → Bool
  | .tup [p, q] => decide ((prOf p).1 < (prOf q).1) && decide ((prOf p).2 ≤ (prOf q).2)
  | _ => false
theorem nbs_asc (b : Br) : ((nbs b).map ltP).all id = ascB b := by
  unfold nbs ascB
  rw [List.map_map, List.all_map]
  rfl
def nbAt (b : Br) : PV → PV
  | .int i => ((nbs b)[(i - 1).toNat]?).getD .non
  | _ => .non
theorem nb_all (p : Int × Int) (r : Br) : ((List.range r.length).map fun (m : Nat) => PV.int (1 + m)).map (nbAt (p :: r)) = nbs (p :: r) := by
  rw [List.map_map]
  refine List.ext_getElem? fun i => ?_
  by_cases hi : i < r.length
  · rw [List.getElem?_map, List.getElem?_range hi]
    have hq : (1 + (i : Int) - 1).toNat = i := by omega
    simp only [Option.map_some, Function.comp, nbAt, hq]
    rw [nbs_get (b := p :: r) (i := i) (by simp; omega)]
    rfl
  · rw [List.getElem?_eq_none (by simp; omega), List.getElem?_eq_none (by rw [nbs_len]; simp; omega)]
theorem e_is_branch {n : Nat} {v : PV} {h : PH} (k : Kd h v) : ∃ g, call (n + 3) 2 [v] h = .ok (.bl (isBr v)) (h ++ g) := by
  have a1 := e_isT (cl := call (n + 2)) (ρ := [some v, none, none, none, none, none]) (o := .var 0) (h := h) (e_var rfl) k
  cases v with
  | tup xs =>
    have a2 := e_len (cl := call (n + 2)) (ρ := [some (.tup xs), none, none, none, none, none]) (o := .var 0) (h := h) (e_var rfl)
    have a3 : evE T (call (n + 2)) (.chn .le .le (.con (.int 1)) (.bi .len [.var 0]) (.glob 29)) [some (.tup xs), none, none, none, none, none] h = .ok (.bl (decide ((1 : Int) ≤ xs.length) && decide ((xs.length : Int) ≤ 20))) h := e_chn e_con a2 c_le fun _ => ⟨e_glob rfl, c_le⟩
    have b1 : evE T (call (n + 2)) (.or (.not (.bi .isinst [.var 0, .bty .tuple])) (.not (.chn .le .le (.con (.int 1)) (.bi .len [.var 0]) (.glob 29)))) [some (.tup xs), none, none, none, none, none] h = .ok (.bl (!(decide ((1 : Int) ≤ xs.length) && decide ((xs.length : Int) ≤ 20)))) h := e_orF (e_not a1) (e_not a3)
    by_cases hl : (decide ((1 : Int) ≤ xs.length) && decide ((xs.length : Int) ≤ 20)) = true
    · have hl2 : 1 ≤ xs.length ∧ xs.length ≤ 20 := by simp at hl; omega
      cases k with
      | tup _ k =>
        have c1 := lc_all (T := T) (cl := call (n + 2)) (xs := xs) (ρ := [some (.tup xs), none, none, none, none, none]) (h := h) (e := .call 3 [.var 5]) (own := [5]) (t := .nm 5) (fun x => .bl (isP x)) (evI_row (e_var (i := 0) rfl)) (fun _ _ _ => rfl) (by omega) (fun x hx h' _ same => by
          refine lcB_all (ρ1 := [some (.tup xs), none, none, none, none, some x]) rfl (e_call rfl (e_one (e_var rfl)) (e_is_pair ((k x hx).same same))))
        have c1' : (xs.map fun x => PV.bl (isP x)) = (xs.map isP).map .bl := by rw [List.map_map]; rfl
        rw [c1'] at c1
        have c2 := e_bi (T := T) (f := .all) (e_one c1) (p_all (l := xs.map isP))
        rw [all_map] at c2
        by_cases hp : xs.all isP = true
        · have ex := all_pv hp
          have hlen : xs.length = (xs.map prOf).length := by simp
          have eb : isBr (.tup xs) = (decide ((xs.map prOf).head? = some (0, 0)) && ascB (xs.map prOf)) := by
            unfold isBr
            simp [hl2.1, hl2.2]
            have hp2 : ∀ x ∈ xs, isP x = true := by simpa using hp
            intros
            apply hp2
            assumption
          generalize hb : xs.map prOf = b at *
          rw [eb]
          subst ex
          rw [hp] at c2
          obtain ⟨p, r, rfl⟩ : ∃ p r, b = p :: r := by
            cases b with
            | nil => simp at hl2
            | cons p r => exact ⟨p, r, rfl⟩
          have c3 : evE T (call (n + 2)) (.cmp .ne (.ix (.var 0) (.con (.int 0))) (.tup [.con (.int 0), .con (.int 0)])) [some (.tup ((p :: r).map pv)), none, none, none, none, none] (h ++ [.lst (((p :: r).map pv).map isP |>.map .bl)]) = .ok (.bl (!decide (p = (0, 0)))) (h ++ [.lst (((p :: r).map pv).map isP |>.map .bl)]) := by
            refine e_cmp (e_ixT (e_var rfl) e_con atI_zero) (e_tup (e_two e_con e_con) (by decide)) ?_
            show pCmp .ne (pv p) (pv (0, 0)) _ = _
            simp only [pCmp, pEq_pp, ob, Option.map_some]
          generalize hg : h ++ [PO.lst (((p :: r).map pv).map isP |>.map .bl)] = h1 at c2 c3
          by_cases h0 : p = (0, 0)
          · have hz : decide ((p :: r).head? = some (0, 0)) = true := by simp [h0]
            rw [hz, Bool.true_and]
            rw [decide_eq_true h0] at c3
            have d1 := e_orF (e_not c2) c3
            -- the pairs
            have f1 : evE T (call (n + 2)) (.lc (.tup [.ix (.var 0) (.bin .sub (.var 2) (.con (.int 1))), .ix (.var 0) (.var 2)]) [2] (.nm 2) .rng [.con (.int 1), .bi .len [.var 0]] []) [some (.tup ((p :: r).map pv)), none, none, none, none, none] h1 = .ok (.ref h1.length) (h1 ++ [.lst (nbs (p :: r))]) := by
              have hlr : ((((p :: r).map pv).length : Int) - 1).toNat = r.length := by simp
              have e1 := evI_rng2 (T := T) (cl := call (n + 2)) (ρ := [some (.tup ((p :: r).map pv)), none, none, none, none, none]) (h := h1) (its := [.con (.int 1), .bi .len [.var 0]]) (e_two e_con (e_len (e_var rfl))) (by decide) (by decide) (by omega) (by have := hl2.2; omega)
              rw [hlr] at e1
              have k1 := lc_all (T := T) (cl := call (n + 2)) (ρ := [some (.tup ((p :: r).map pv)), none, none, none, none, none]) (h := h1) (e := .tup [.ix (.var 0) (.bin .sub (.var 2) (.con (.int 1))), .ix (.var 0) (.var 2)]) (own := [2]) (t := .nm 2) (k := .rng) (its := [.con (.int 1), .bi .len [.var 0]])
                (xs := (List.range r.length).map fun (m : Nat) => PV.int (1 + m)) (nbAt (p :: r)) (by simpa using e1) (fun _ _ _ => rfl) (by simp; have := hl2.2; simp at this; omega) (fun x hx h' _ _ => by
                  obtain ⟨i, hi, rfl⟩ := List.mem_map.mp hx
                  have hi' : i < r.length := List.mem_range.mp hi
                  refine lcB_all (ρ1 := [some (.tup ((p :: r).map pv)), none, some (.int (1 + i)), none, none, none]) rfl ?_
                  have hg2 := nbs_get (b := p :: r) (i := i) (by simp; omega)
                  have hq : (1 + (i : Int) - 1).toNat = i := by omega
                  simp only [nbAt, hq, hg2, Option.getD_some]
                  refine e_tup (e_two (e_ixT (e_var rfl) (e_subi (e_var rfl) e_con) ?_) (e_ixT (e_var rfl) (e_var rfl) ?_)) (by simp)
                  · rw [show (1 : Int) + i - 1 = (i : Nat) by omega]
                    exact atI_nat (by rw [List.getElem?_map, List.getElem?_eq_getElem (by simp; omega)]; rfl)
                  · rw [show (1 : Int) + i = ((i + 1 : Nat) : Int) by omega]
                    exact atI_nat (by rw [List.getElem?_map, List.getElem?_eq_getElem (by simp; omega)]; rfl))
              rw [nb_all] at k1
              exact k1
            have f2 := lc_all (T := T) (cl := call (n + 2)) (ρ := [some (.tup ((p :: r).map pv)), some (.ref h1.length), none, none, none, none]) (h := h1 ++ [.lst (nbs (p :: r))]) (e := .and (.cmp .lt (.ix (.var 3) (.con (.int 0))) (.ix (.var 4) (.con (.int 0)))) (.cmp .le (.ix (.var 3) (.con (.int 1))) (.ix (.var 4) (.con (.int 1))))) (own := [3, 4]) (t := .tp [3, 4])
              (fun x => .bl (ltP x)) (evI_ref (e_var (i := 1) rfl) get_last) (fun h' hh i => lst_all get_last h' hh i) (by rw [nbs_len]; have := hl2.2; simp at this; simp; omega) (fun x hx h' _ _ => by
                unfold nbs at hx
                obtain ⟨q, _, rfl⟩ := List.mem_map.mp hx
                refine lcB_all (ρ1 := [some (.tup ((p :: r).map pv)), some (.ref h1.length), none, some (pv q.1), some (pv q.2), none]) rfl ?_
                exact e_and (e_cmp (e_ixT (e_var rfl) e_con rfl) (e_ixT (e_var rfl) e_con rfl) c_lt) fun _ => e_cmp (e_ixT (e_var rfl) e_con rfl) (e_ixT (e_var rfl) e_con rfl) c_le)
            have f2' : ((nbs (p :: r)).map fun x => PV.bl (ltP x)) = ((nbs (p :: r)).map ltP).map .bl := by rw [List.map_map]; rfl
            rw [f2'] at f2
            have f3 := e_bi (T := T) (f := .all) (e_one f2) (p_all (l := (nbs (p :: r)).map ltP))
            rw [nbs_asc] at f3
            refine ⟨[.lst (((p :: r).map pv).map isP |>.map .bl)] ++ [.lst (nbs (p :: r))] ++ [.lst (((nbs (p :: r)).map ltP).map .bl)], ?_⟩
            rw [call_run (d := d_is_branch) rfl rfl]
            refine rd_rt rfl ?_
            show exSs T (call (n + 2)) 100 b_is_branch [some (.tup ((p :: r).map pv)), none, none, none, none, none] h = _
            rw [hl] at b1
            refine st_no b1 (st_no d1 (st_nx (s_asg f1) (st_rt (s_ret ?_))))
            rw [← List.append_assoc, ← List.append_assoc, hg]
            exact f3
          · have hz : decide ((p :: r).head? = some (0, 0)) = false := by simp [h0]
            rw [hz, Bool.false_and]
            rw [decide_eq_false h0] at c3
            refine ⟨[.lst (((p :: r).map pv).map isP |>.map .bl)], ?_⟩
            rw [call_run (d := d_is_branch) rfl rfl]
            refine rd_rt rfl ?_
            show exSs T (call (n + 2)) 100 b_is_branch [some (.tup ((p :: r).map pv)), none, none, none, none, none] h = _
            rw [hl] at b1
            rw [hg]
            exact st_no b1 (st_yes (e_orF (e_not c2) c3) e_con)
        · have eb : isBr (.tup xs) = false := by
            simp only [isBr, Bool.eq_false_iff.mpr hp, Bool.false_and, Bool.and_false]
          rw [eb]
          rw [Bool.eq_false_iff.mpr hp] at c2
          refine ⟨[.lst ((xs.map isP).map .bl)], ?_⟩
          rw [call_run (d := d_is_branch) rfl rfl]
          refine rd_rt rfl ?_
          show exSs T (call (n + 2)) 100 b_is_branch [some (.tup xs), none, none, none, none, none] h = _
          rw [hl] at b1
          exact st_no b1 (st_yes (e_orT (e_not c2)) e_con)
    · have eb : isBr (.tup xs) = false := by
        unfold isBr
        have : (decide (1 ≤ xs.length) && decide (xs.length ≤ 20)) = false := by simp at hl ⊢; omega
        simp only [this, Bool.false_and]
      rw [eb]
      refine ⟨[], ?_⟩
      rw [List.append_nil, call_run (d := d_is_branch) rfl rfl]
      refine rd_rt rfl ?_
      show exSs T (call (n + 2)) 100 b_is_branch [some (.tup xs), none, none, none, none, none] h = _
      rw [Bool.eq_false_iff.mpr hl] at b1
      exact st_yes b1 e_con
  | _ =>
    refine ⟨[], ?_⟩
    rw [List.append_nil, call_run (d := d_is_branch) rfl rfl]
    exact rd_rt rfl (st_yes (e_orT (e_not a1)) e_con)
end K56
set_option Elab.async false
set_option linter.all false
set_option maxRecDepth 100000
set_option maxHeartbeats 2000000
namespace K56
open PySem PySem.Spec PyProof.Rows L2 Mn
theorem atI_last {xs : List PV} {x : PV} (e : xs.getLast? = some x) : atI xs (-1) = some x := by
  have hne : xs ≠ [] := by intro q; rw [q] at e; cases e
  have hlen : 0 < xs.length := List.length_pos_iff.mpr hne
  have hi : ixN xs.length (-1) = some (xs.length - 1) := by
    unfold ixN
    simp
    omega
  unfold atI
  rw [hi]
  simp only [Option.bind_some]
  rw [← e, List.getLast?_eq_getElem?]
def lst2 (b : Br) : Int := ((b.getLast?).map (·.2)).getD 0
structure Good (b : Br) (q : Int) : Prop where
  lo : 1 ≤ b.length
  hi : b.length ≤ 20
  num : ∀ p ∈ b, (0 ≤ p.1 ∧ p.1 ≤ M) ∧ (0 ≤ p.2 ∧ p.2 ≤ M)
  hd : b.head? = some (0, 0)
  asc : Asc b
  last : lst2 b ≤ q
  top : q ≤ M
theorem prOf_pv (p : Int × Int) : prOf (pv p) = p := rfl
theorem prOf_map (b : Br) : (b.map pv).map prOf = b := by
  rw [List.map_map]
  exact List.map_id' b
theorem ascB_ok : ∀ {b : Br}, Asc b → ascB b = true
  | [], _ => rfl
  | [_], _ => rfl
  | p :: q :: r, a => by
    have ih := ascB_ok a.2
    unfold ascB at ih ⊢
    simp only [List.tail_cons, List.zip_cons_cons, List.all_cons, Bool.and_eq_true, decide_eq_true_eq] at ih ⊢
    exact ⟨a.1, ih⟩
theorem isP_ok {p : Int × Int} (k : (0 ≤ p.1 ∧ p.1 ≤ M) ∧ (0 ≤ p.2 ∧ p.2 ≤ M)) : isP (pv p) = true := by
  simp only [isP, pv, nIn, Bool.and_eq_true, decide_eq_true_eq]
  exact k
theorem Good.br {b : Br} {q : Int} (g : Good b q) : isBr (bv b) = true := by
  simp only [isBr, bv, List.length_map, prOf_map, ascB_ok g.asc, g.hd, Bool.and_eq_true, decide_eq_true_eq, List.all_map, List.all_eq_true]
  exact ⟨⟨g.lo, g.hi⟩, fun p hp => isP_ok (g.num p hp), trivial, trivial⟩
theorem lastB_bv (b : Br) : lastB (bv b) = lst2 b := by
  simp only [lastB, bv, prOf_map, lst2]
theorem Good.st {b : Br} {q : Int} (g : Good b q) : isSt (sv b q) = true := by
  simp only [isSt, sv, g.br, lastB_bv, nIn, Bool.and_eq_true, decide_eq_true_eq]
  exact ⟨trivial, g.last, g.top⟩
theorem isBr_bv {v : PV} (h : isBr v = true) : ∃ b, v = bv b ∧ b ≠ [] := by
  unfold isBr at h
  split at h
  · rename_i ps
    simp only [Bool.and_eq_true, decide_eq_true_eq] at h
    refine ⟨ps.map prOf, ?_, ?_⟩
    · unfold bv
      rw [← all_pv h.2.1]
    · intro q
      have := congrArg List.length q
      simp at this
      have := h.1.1
      subst_vars
      simp at this
  · cases h
theorem e_is_stand {n : Nat} {v : PV} {h : PH} (k : Kd h v) : ∃ g, call (n + 4) 4 [v] h = .ok (.bl (isSt v)) (h ++ g) := by
  have a1 := e_isT (cl := call (n + 3)) (ρ := [some v, none, none]) (o := .var 0) (h := h) (e_var rfl) k
  cases v with
  | tup xs =>
    have a2 := e_len (cl := call (n + 3)) (ρ := [some (.tup xs), none, none]) (o := .var 0) (h := h) (e_var rfl)
    by_cases hl : xs.length = 2
    · match xs, hl, k, a1, a2 with
      | [x, y], _, k, a1, a2 =>
        cases k with
        | tup _ k =>
          obtain ⟨g, hb⟩ := e_is_branch (n := n) (k x (by simp))
          have ky : Kd (h ++ g) y := (k y (by simp)).app g
          have c1 : evE T (call (n + 3)) (.call 2 [.var 1]) [some (.tup [x, y]), some x, some y] h = .ok (.bl (isBr x)) (h ++ g) := e_call rfl (e_one (e_var rfl)) hb
          have f1 : exS T (call (n + 3)) 100 (.asg (.tp [1, 2]) (.var 0)) [some (.tup [x, y]), none, none] h = .ok (.nx [some (.tup [x, y]), some x, some y]) h := s_asgt (e_var rfl) rfl
          refine ⟨g, ?_⟩
          rw [call_run (d := d_is_stand) rfl rfl]
          refine rd_rt rfl ?_
          show exSs T (call (n + 3)) 100 b_is_stand [some (.tup [x, y]), none, none] h = _
          refine st_no (e_orF (e_not a1) (e_cmp a2 e_con (c_neF rfl))) (st_nx f1 (st_rt (s_ret ?_)))
          unfold isSt
          refine e_and c1 fun hx => ?_
          obtain ⟨b, rfl, hne⟩ := isBr_bv hx
          obtain ⟨p, hp⟩ : ∃ p, b.getLast? = some p := ⟨_, List.getLast?_eq_some_getLast hne⟩
          have el : lastB (bv b) = p.2 := by rw [lastB_bv]; unfold lst2; rw [hp]; rfl
          rw [el]
          exact e_call rfl (e_cons (e_var rfl) (e_two (e_ixT (e_ixT (xs := b.map pv) (e_var rfl) (e_neg e_con) (atI_last (x := pv p) (by rw [List.getLast?_map, hp]; rfl))) e_con rfl) (e_glob rfl))) (e_within ky)
    · have eb : isSt (.tup xs) = false := by
        unfold isSt
        split
        · rename_i a b e
          cases e
          simp at hl
        · rfl
      rw [eb]
      refine ⟨[], ?_⟩
      rw [List.append_nil, call_run (d := d_is_stand) rfl rfl]
      exact rd_rt rfl (st_yes (e_orF (e_not a1) (e_cmp a2 e_con (c_neT (by omega)))) e_con)
  | _ =>
    refine ⟨[], ?_⟩
    rw [List.append_nil, call_run (d := d_is_stand) rfl rfl]
    exact rd_rt rfl (st_yes (e_orT (e_not a1)) e_con)
theorem rd_nx {cl : Nat → List PV → PH → Res PV} {W : Nat} {d : Df} {vs : List PV} {h h1 : PH} {ρ : PEnv} (hl : vs.length = d.ps.length) (e : exSs T cl W d.body (vs.map some ++ List.replicate (d.N.length - vs.length) none) h = .ok (.nx ρ) h1) : runD T W cl d vs h = .ok .non h1 := by
  unfold runD
  rw [if_pos hl]
  unfold runBody
  rw [e]
  rfl
theorem e_check {n : Nat} {b : Br} {q : Int} {h : PH} (g : Good b q) : ∃ g, call (n + 5) 10 [sv b q] h = .ok .non (h ++ g) := by
  obtain ⟨g1, e⟩ := e_is_stand (n := n) (kd_sv (h := h) b q)
  rw [g.st] at e
  refine ⟨g1, ?_⟩
  rw [call_run (d := d_check_stand) rfl rfl]
  have e1 : evE T (call (n + 4)) (.not (.call 4 [.var 0])) [some (sv b q)] h = .ok (.bl false) (h ++ g1) := e_not (e_call rfl (e_one (e_var rfl)) e)
  exact rd_nx rfl (st_no e1 s_nil)
theorem e_checkw {n : Nat} {i lo hi : Int} {h : PH} (k : lo ≤ i ∧ i ≤ hi) : call (n + 2) 1 [.int i, .int lo, .int hi] h = .ok .non h := by
  have e := e_within (n := n) (lo := lo) (hi := hi) (Kd.int (h := h) i)
  have ek : nIn (.int i) lo hi = true := by simp [nIn, k.1, k.2]
  rw [ek] at e
  rw [call_run (d := d_check_within) rfl rfl]
  have e1 : evE T (call (n + 1)) (.not (.call 0 [.var 0, .var 1, .var 2])) [some (.int i), some (.int lo), some (.int hi)] h = .ok (.bl false) h := e_not (e_call rfl (e_cons (e_var rfl) (e_two (e_var rfl) (e_var rfl))) e)
  exact rd_nx rfl (st_no e1 s_nil)
end K56
set_option Elab.async false
set_option linter.all false
set_option maxRecDepth 100000
set_option maxHeartbeats 2000000
namespace K56
open PySem PySem.Spec PyProof.Rows L2 Mn
theorem set_mid {h g : PH} {o o' : PO} : (h ++ [o] ++ g).set h.length o' = h ++ [o'] ++ g := by simp
theorem get_mid {h g : PH} {o : PO} : (h ++ [o] ++ g)[h.length]? = some o := by simp
theorem lst_mid {h g : PH} {xs : List PV} : lstAt (h ++ [.lst xs] ++ g) h.length = some xs := by unfold lstAt; rw [get_mid]
theorem st_then {T : Tb} {cl : Nat → List PV → PH → Res PV} {W : Nat} {ρ : PEnv} {h h1 h2 : PH} {c : Ex} {a r : List Sm} {ρ1 : PEnv} {z : Res Fl} (hc : evE T cl c ρ h = .ok (.bl true) h1) (ha : exSs T cl W a ρ h1 = .ok (.nx ρ1) h2) (k : exSs T cl W r ρ1 h2 = z) : exSs T cl W (.ite c a [] :: r) ρ h = z :=
  st_nx (by simp only [exS, t_bl hc, Res.bind_ok, if_true]; exact ha) k
theorem e_shared {n : Nat} {a b : Br} {p q : Int} {h : PH} (ga : Good a p) (gb : Good b q) : ∃ g, call (n + 2) 13 [sv a p, sv b q] h = .ok (.int (sh a p b q)) (h ++ g) := by
  have f1 : exS T (call (n + 1)) 100 (.asg (.nm 2) (.lst [.ix (.var 0) (.con (.int 1)), .ix (.var 1) (.con (.int 1))])) [some (sv a p), some (sv b q), none] h = .ok (.nx [some (sv a p), some (sv b q), some (.ref h.length)]) (h ++ [.lst [.int p, .int q]]) :=
    s_asg (e_lst (e_two (e_ixT (xs := [bv a, .int p]) (e_var rfl) e_con rfl) (e_ixT (xs := [bv b, .int q]) (e_var rfl) e_con rfl)) (by simp))
  have x1 : ∀ h', evE T (call (n + 1)) (.ix (.var 0) (.con (.int 0))) [some (sv a p), some (sv b q), some (.ref h.length)] h' = .ok (bv a) h' := fun h' => e_ixT (xs := [bv a, .int p]) (e_var rfl) e_con rfl
  have x2 : ∀ h', evE T (call (n + 1)) (.ix (.var 1) (.con (.int 0))) [some (sv a p), some (sv b q), some (.ref h.length)] h' = .ok (bv b) h' := fun h' => e_ixT (xs := [bv b, .int q]) (e_var rfl) e_con rfl
  have c1 := e_cmp (op := .ne) (x1 (h ++ [.lst [.int p, .int q]])) (x2 (h ++ [.lst [.int p, .int q]])) (r := .ok (.bl (!decide (a = b))) (h ++ [.lst [.int p, .int q]])) (by simp only [pCmp, pEq_b, ob, Option.map_some])
  by_cases e : a = b
  · refine ⟨[.lst [.int p, .int q]], ?_⟩
    rw [call_run (d := d__shared) rfl rfl]
    refine rd_rt rfl ?_
    show exSs T (call (n + 1)) 100 b__shared [some (sv a p), some (sv b q), none] h = _
    rw [decide_eq_true e] at c1
    refine st_nx f1 (st_no c1 (st_rt (s_ret (e_bi (e_one (e_var rfl)) ?_))))
    unfold sh
    rw [if_pos e]
    simp only [pBi, lst_last, intsOf, Option.map_some]
  · rw [decide_eq_false e] at c1
    obtain ⟨g, k⟩ := e_limit (n := n) (h := h ++ [.lst [.int p, .int q]]) e (by have := ga.hi; omega) (by have := gb.hi; omega)
    have f2 : evE T (call (n + 1)) (.mt 0 .append (.var 2) [.call 14 [.ix (.var 0) (.con (.int 0)), .ix (.var 1) (.con (.int 0))]]) [some (sv a p), some (sv b q), some (.ref h.length)] (h ++ [.lst [.int p, .int q]]) = .ok .non (h ++ [.lst [.int p, .int q, .int (lim a b)]] ++ g) := by
      have kc : evE T (call (n + 1)) (.call 14 [.ix (.var 0) (.con (.int 0)), .ix (.var 1) (.con (.int 0))]) [some (sv a p), some (sv b q), some (.ref h.length)] (h ++ [.lst [.int p, .int q]]) = .ok (.int (lim a b)) (h ++ [.lst [.int p, .int q]] ++ g) := e_call rfl (e_two (x1 _) (x2 _)) k
      have gm : (h ++ [PO.lst [.int p, .int q]] ++ g)[h.length]? = some (.lst [.int p, .int q]) := get_mid
      have gl : (h ++ [PO.lst [.int p, .int q]])[h.length]? = some (.lst [.int p, .int q]) := get_last
      have hv : evE T (call (n + 1)) (.var 2) [some (sv a p), some (sv b q), some (.ref h.length)] (h ++ [.lst [.int p, .int q]]) = .ok (.ref h.length) (h ++ [.lst [.int p, .int q]]) := e_var rfl
      have := e_app (m := 0) hv gl kc gm (by simp)
      rw [set_mid] at this
      exact this
    refine ⟨[.lst [.int p, .int q, .int (lim a b)]] ++ g, ?_⟩
    rw [call_run (d := d__shared) rfl rfl]
    refine rd_rt rfl ?_
    show exSs T (call (n + 1)) 100 b__shared [some (sv a p), some (sv b q), none] h = _
    refine st_nx f1 (st_then c1 (st_nx (s_ex f2) s_nil) (st_rt (s_ret (e_bi (e_one (e_var rfl)) ?_))))
    unfold sh
    rw [if_neg e, ← List.append_assoc]
    simp only [pBi, lst_mid, intsOf, Option.map_some]
theorem e_shared_place {n : Nat} {a b : Br} {p q : Int} {h : PH} (ga : Good a p) (gb : Good b q) : ∃ g, call (n + 6) 6 [sv a p, sv b q] h = .ok (.int (sh a p b q)) (h ++ g) := by
  obtain ⟨g1, k1⟩ := e_check (n := n) (h := h) ga
  obtain ⟨g2, k2⟩ := e_check (n := n) (h := h ++ g1) gb
  obtain ⟨g3, k3⟩ := e_shared (n := n + 3) (h := h ++ g1 ++ g2) ga gb
  refine ⟨g1 ++ g2 ++ g3, ?_⟩
  rw [call_run (d := d_shared_place) rfl rfl]
  refine rd_rt rfl ?_
  show exSs T (call (n + 5)) 100 b_shared_place [some (sv a p), some (sv b q)] h = _
  rw [← List.append_assoc, ← List.append_assoc]
  exact st_nx (s_ex (e_call rfl (e_one (e_var rfl)) k1)) (st_nx (s_ex (e_call rfl (e_one (e_var rfl)) k2)) (st_rt (s_ret (e_call rfl (e_two (e_var rfl) (e_var rfl)) k3))))
def jw (x y : Bool) : List Nat := if x && y then [97, 108, 105, 107, 101] else if x then [98, 101, 104, 105, 110, 100] else if y then [97, 104, 101, 97, 100] else [112, 97, 114, 116, 101, 100]
def jd (p q s : Int) : PV := .tup [.str (jw (decide (p = s)) (decide (q = s))), .int s]
theorem e_judged {n : Nat} {a b : Br} {p q : Int} {h : PH} (ga : Good a p) (gb : Good b q) : ∃ g, call (n + 7) 7 [sv a p, sv b q] h = .ok (jd p q (sh a p b q)) (h ++ g) := by
  obtain ⟨g, k⟩ := e_shared_place (n := n) (h := h) ga gb
  refine ⟨g, ?_⟩
  rw [call_run (d := d_judged) rfl rfl]
  refine rd_rt rfl ?_
  show exSs T (call (n + 6)) 100 b_judged [some (sv a p), some (sv b q), none, none, none] h = _
  generalize sh a p b q = s at k
  have f1 : exS T (call (n + 6)) 100 (.asg (.nm 2) (.call 6 [.var 0, .var 1])) [some (sv a p), some (sv b q), none, none, none] h = .ok (.nx [some (sv a p), some (sv b q), some (.int s), none, none]) (h ++ g) := s_asg (e_call rfl (e_two (e_var rfl) (e_var rfl)) k)
  have f2 : exS T (call (n + 6)) 100 (.asg (.tp [3, 4]) (.tup [.cmp .eq (.ix (.var 0) (.con (.int 1))) (.var 2), .cmp .eq (.ix (.var 1) (.con (.int 1))) (.var 2)])) [some (sv a p), some (sv b q), some (.int s), none, none] (h ++ g) = .ok (.nx [some (sv a p), some (sv b q), some (.int s), some (.bl (decide (p = s))), some (.bl (decide (q = s)))]) (h ++ g) :=
    s_asgt (e_tup (e_two (e_cmp (e_ixT (xs := [bv a, .int p]) (e_var rfl) e_con rfl) (e_var rfl) c_eqi) (e_cmp (e_ixT (xs := [bv b, .int q]) (e_var rfl) e_con rfl) (e_var rfl) c_eqi)) (by simp)) rfl
  refine st_nx f1 (st_nx f2 ?_)
  unfold jd
  generalize decide (p = s) = x
  generalize decide (q = s) = y
  cases x with
  | true =>
    cases y with
    | true => exact st_yes (e_andT (e_var rfl) (e_var rfl)) (e_tup (e_two e_con (e_var rfl)) (by simp))
    | false => exact st_no (e_andT (e_var rfl) (e_var rfl)) (st_yes (e_var rfl) (e_tup (e_two e_con (e_var rfl)) (by simp)))
  | false =>
    refine st_no (e_andF (e_var rfl)) (st_no (e_var rfl) (st_rt (s_ret (e_tup (e_two ?_ (e_var rfl)) (by simp)))))
    refine e_ife (e_var rfl) (fun hy => ?_) (fun hy => ?_)
    · subst hy; exact e_con
    · subst hy; exact e_con
def later (a : Br) (p : Int) (b : Br) (q : Int) : Bool := PySem.W.dataLt (dp ((((b.getLast?).map (·.1)).getD 0), q)) (dp ((((a.getLast?).map (·.1)).getD 0), p))
def lastN (b : Br) : Int := ((b.getLast?).map (·.1)).getD 0
theorem Good.end {b : Br} {q : Int} (g : Good b q) : atI (b.map pv) (-1) = some (pv (lastN b, lst2 b)) := by
  have hne : b ≠ [] := by intro e; have := g.lo; simp [e] at this
  obtain ⟨p, hp⟩ : ∃ p, b.getLast? = some p := ⟨_, List.getLast?_eq_some_getLast hne⟩
  refine atI_last ?_
  rw [List.getLast?_map, hp]
  simp [lastN, lst2, hp]
theorem e_lateness {n : Nat} {b : Br} {q : Int} {h : PH} (g : Good b q) : call (n + 1) 9 [sv b q] h = .ok (pv (lastN b, q)) h := by
  rw [call_run (d := d_lateness) rfl rfl]
  refine rd_rt rfl ?_
  show exSs T (call n) 100 b_lateness [some (sv b q), none, none] h = _
  refine st_nx (ρ1 := [some (sv b q), some (bv b), some (.int q)]) (s_asgt (e_var rfl) rfl) (st_rt (s_ret ?_))
  exact e_tup (e_two (e_ixT (e_ixT (xs := b.map pv) (e_var rfl) (e_neg e_con) g.end) e_con rfl) (e_var rfl)) (by simp)
theorem c_gtp {x y : Int × Int} {h : PH} : pCmp .gt (pv x) (pv y) h = .ok (.bl (PySem.W.dataLt (dp y) (dp x))) h := by
  show Mn.ob (dLt h (pv y) (pv x)) h = _
  unfold dLt
  rw [datum_pure (toD_pv y) (shaped_dp y), datum_pure (toD_pv x) (shaped_dp x)]
  rfl
theorem e_is_later {n : Nat} {a b : Br} {p q : Int} {h : PH} (ga : Good a p) (gb : Good b q) : ∃ g, call (n + 6) 8 [sv a p, sv b q] h = .ok (.bl (later a p b q)) (h ++ g) := by
  obtain ⟨g1, k1⟩ := e_check (n := n) (h := h) ga
  obtain ⟨g2, k2⟩ := e_check (n := n) (h := h ++ g1) gb
  refine ⟨g1 ++ g2, ?_⟩
  rw [call_run (d := d_is_later) rfl rfl]
  refine rd_rt rfl ?_
  show exSs T (call (n + 5)) 100 b_is_later [some (sv a p), some (sv b q)] h = _
  rw [← List.append_assoc]
  exact st_nx (s_ex (e_call rfl (e_one (e_var rfl)) k1)) (st_nx (s_ex (e_call rfl (e_one (e_var rfl)) k2)) (st_rt (s_ret (e_cmp (e_call rfl (e_one (e_var rfl)) (e_lateness ga)) (e_call rfl (e_one (e_var rfl)) (e_lateness gb)) c_gtp))))
theorem e_fl {cl : Nat → List PV → PH → Res PV} {ρ : PEnv} {h h1 : PH} {src : Ex} {b : Br} {i j : Nat} {t : Int} (hs : evE T cl src ρ h = .ok (bv b) h1) (hb : b.length ≤ 100) (hi : ρ[i]? = some (some (.int t))) (hj : j < ρ.length) (hij : i ≠ j) :
    evE T cl (.lc (.var j) [j] (.nm j) .seq [src] [.cmp .le (.ix (.var j) (.con (.int 1))) (.var i)]) ρ h = .ok (.ref h1.length) (h1 ++ [.lst ((fl t b).map pv)]) := by
  have k := lc_row (T := T) (cl := cl) (e := .var j) (own := [j]) (t := .nm j) (ifs := [.cmp .le (.ix (.var j) (.con (.int 1))) (.var i)]) (fun x => decide ((prOf x).2 ≤ t)) id hs (by simp; omega) (fun x hx h' _ _ => by
    obtain ⟨p, _, rfl⟩ := List.mem_map.mp hx
    refine lcB_if (ρ1 := (ρ.set j none).set j (some (pv p))) rfl (e_cmp (e_ixT (xs := [.int p.1, .int p.2]) (e_var (by simp [hj, pv])) e_con rfl) (e_var (by simp [hij.symm, hi])) c_le) fun _ => e_var (by simp [hj]))
  rw [k]
  congr 3
  rw [List.map_id, List.filter_map]
  rfl
theorem e_begun {n : Nat} {b : Br} {t : Int} {h : PH} (hb : b.length ≤ 100) : ∃ g, call (n + 1) 11 [bv b, .int t] h = .ok (bv (fl t b)) (h ++ g) := by
  refine ⟨[.lst ((fl t b).map pv)], ?_⟩
  rw [call_run (d := d__begun) rfl rfl]
  refine rd_rt rfl ?_
  show exSs T (call n) 100 b__begun [some (bv b), some (.int t), none] h = _
  have hl : (fl t b).length ≤ b.length := List.length_filter_le _ _
  refine st_rt (s_ret (e_bi (e_one (e_fl (e_var rfl) hb rfl (by simp) (by decide))) ?_))
  simp only [pBi, lst_last]
  rfl
theorem e_cut {n : Nat} {b : Br} {q t : Int} {h : PH} (g : Good b q) (ht : 0 ≤ t ∧ t ≤ q) : ∃ g, call (n + 6) 5 [sv b q, .int t] h = .ok (sv (fl t b) t) (h ++ g) := by
  obtain ⟨g1, k1⟩ := e_check (n := n) (h := h) g
  obtain ⟨g2, k2⟩ := e_begun (n := n + 3) (b := b) (t := t) (h := h ++ g1) (by have := g.hi; omega)
  refine ⟨g1 ++ g2, ?_⟩
  rw [call_run (d := d_cut) rfl rfl]
  refine rd_rt rfl ?_
  show exSs T (call (n + 5)) 100 b_cut [some (sv b q), some (.int t)] h = _
  rw [← List.append_assoc]
  have k3 : call (n + 5) 12 [sv b q, .int t] (h ++ g1) = .ok (sv (fl t b) t) (h ++ g1 ++ g2) := by
    rw [call_run (d := d__cut) rfl rfl]
    refine rd_rt rfl ?_
    show exSs T (call (n + 4)) 100 b__cut [some (sv b q), some (.int t), none, none] (h ++ g1) = _
    refine st_nx (ρ1 := [some (sv b q), some (.int t), some (bv b), some (.int q)]) (s_asgt (e_var rfl) rfl) (st_rt (s_ret ?_))
    exact e_tup (e_two (e_call rfl (e_two (e_var rfl) (e_var rfl)) k2) (e_var rfl)) (by simp)
  exact st_nx (s_ex (e_call rfl (e_one (e_var rfl)) k1)) (st_nx (s_ex (e_call rfl (e_cons (e_var rfl) (e_two e_con (e_ixT (xs := [bv b, .int q]) (e_var rfl) e_con rfl))) (e_checkw ht))) (st_rt (s_ret (e_call rfl (e_two (e_var rfl) (e_var rfl)) k3))))
end K56
set_option Elab.async false
set_option linter.all false
set_option maxRecDepth 100000
set_option maxHeartbeats 2000000
namespace K56
open PySem PySem.Spec PyProof.Rows L2 Mn
def nrow (b : Br) (k : Nat) : List PV := (List.range k).map fun (i : Nat) => bv (fl i b)
def nout (b : Br) (k : Nat) : PH := (List.range k).map fun (i : Nat) => .lst ((fl i b).map pv)
theorem nrow_succ (b : Br) (k : Nat) : nrow b (k + 1) = nrow b k ++ [bv (fl k b)] := by simp [nrow, List.range_succ]
theorem nout_succ (b : Br) (k : Nat) : nout b (k + 1) = nout b k ++ [.lst ((fl k b).map pv)] := by simp [nout, List.range_succ]
theorem nrow_len (b : Br) (k : Nat) : (nrow b k).length = k := by simp [nrow]
theorem nrow_get {b : Br} {k i : Nat} (h : i < k) : (nrow b k)[i]? = some (bv (fl i b)) := by
  simp [nrow, List.getElem?_range h]
def nfr (b : Br) (k l : Nat) : Nat → PEnv
  | 0 => [some (sv b k), some (.ref l), none, none]
  | i + 1 => [some (sv b k), some (.ref l), some (.int i), none]
theorem nfr_0 {b : Br} {k l i : Nat} : (nfr b k l i)[0]? = some (some (sv b k)) := by cases i <;> rfl
theorem nfr_1 {b : Br} {k l i : Nat} : (nfr b k l i)[1]? = some (some (.ref l)) := by cases i <;> rfl
theorem nfr_set {b : Br} {k l i : Nat} : (nfr b k l i).set 2 (some (.int i)) = nfr b k l (i + 1) := by cases i <;> rfl
theorem e_numbers {n k : Nat} {b : Br} {h : PH} (hb : b.length ≤ 50) (hk : k ≤ 90) : call (n + 1) 20 [sv b k] h = .ok (.ref h.length) (h ++ [.lst (nrow b k)] ++ nout b k) := by
  rw [call_run (d := d__law_numbers) rfl rfl]
  refine rd_rt rfl ?_
  show exSs T (call n) 100 b__law_numbers [some (sv b k), none, none, none] h = _
  have f1 : exS T (call n) 100 (.asg (.nm 1) (.lst [])) [some (sv b k), none, none, none] h = .ok (.nx (nfr b k h.length 0)) (h ++ [.lst (nrow b 0)] ++ nout b 0) := by
    have := s_asg (T := T) (cl := call n) (W := 100) (i := 1) (e := .lst []) (ρ := [some (sv b k), none, none, none]) (h := h) (e_lst e_nil (by simp))
    simpa [nout, nrow, nfr] using this
  have hv : evI T (call n) .rng [.ix (.var 0) (.con (.int 1))] (nfr b k h.length 0) (h ++ [.lst (nrow b 0)] ++ nout b 0) = .ok (.fix ((List.range k).map fun (i : Nat) => .int i), k) (h ++ [.lst (nrow b 0)] ++ nout b 0) :=
    evI_rng (e_one (e_ixT (xs := [bv b, .int k]) (e_var rfl) e_con rfl)) (by omega)
  have f2 := for_st (T := T) (W := 100) (cl := call n) (t := .nm 2) (b := [.ex (.mt 0 .append (.var 1) [.bi .tuple [.lc (.var 3) [3] (.nm 3) .seq [.ix (.var 0) (.con (.int 0))] [.cmp .le (.ix (.var 3) (.con (.int 1))) (.var 2)]]])]) (item := fun i => .int i) (f := nfr b k h.length) (hp := fun i => h ++ [.lst (nrow b i)] ++ nout b i) hv rfl
    (fun i hi => fix_at (by simp [List.getElem?_range hi])) (by have := fix_end (xs := (List.range k).map fun (i : Nat) => PV.int i) (h := h ++ [.lst (nrow b k)] ++ nout b k); simpa using this)
    (fun i hi => by
      unfold forB
      have eb : bindTg (.nm 2) (.int i) (nfr b k h.length i) = some (nfr b k h.length (i + 1)) := by
        show some ((nfr b k h.length i).set 2 (some (.int i))) = _
        rw [nfr_set]
      rw [eb]
      simp only
      have k1 : evE T (call n) (.bi .tuple [.lc (.var 3) [3] (.nm 3) .seq [.ix (.var 0) (.con (.int 0))] [.cmp .le (.ix (.var 3) (.con (.int 1))) (.var 2)]]) (nfr b k h.length (i + 1)) (h ++ [.lst (nrow b i)] ++ nout b i) = .ok (bv (fl i b)) (h ++ [.lst (nrow b i)] ++ nout b i ++ [.lst ((fl i b).map pv)]) := by
        refine e_bi (e_one (e_fl (i := 2) (j := 3) (t := i) (b := b) (e_ixT (xs := [bv b, .int k]) (e_var nfr_0) e_con rfl) (by omega) rfl (by simp [nfr]) (by decide))) ?_
        simp only [pBi, lst_last]
        rfl
      have g1 : (h ++ [PO.lst (nrow b i)] ++ nout b i)[h.length]? = some (.lst (nrow b i)) := get_mid
      have g2 : (h ++ [PO.lst (nrow b i)] ++ nout b i ++ [PO.lst ((fl i b).map pv)])[h.length]? = some (.lst (nrow b i)) := by
        rw [List.append_assoc (h ++ _)]; exact get_mid
      have k2 := e_app (T := T) (cl := call n) (m := 0) (o := .var 1) (ρ := nfr b k h.length (i + 1)) (e_var nfr_1) g1 k1 g2 (by rw [nrow_len]; omega)
      refine st_nx (s_ex k2) ?_
      rw [List.append_assoc (h ++ _), set_mid, nrow_succ, nout_succ]
      exact s_nil)
  exact st_nx f1 (st_nx f2 (st_rt (s_ret (e_var nfr_1))))
theorem Good.lim0 {a b : Br} {p q : Int} (ga : Good a p) (gb : Good b q) : 0 ≤ lim a b := by
  unfold lim
  have all : ∀ x ∈ ends a b, 0 ≤ x := fun x hx => by
    unfold ends at hx
    obtain ⟨y, hy, rfl⟩ := List.mem_map.mp hx
    rcases List.mem_append.mp hy with e | e
    · exact ((ga.num y (List.mem_of_mem_drop (List.mem_of_mem_take e))).2).1
    · exact ((gb.num y (List.mem_of_mem_drop (List.mem_of_mem_take e))).2).1
  have ll : ∀ (r : List Int) (x : Int), 0 ≤ x → (∀ y ∈ r, 0 ≤ y) → 0 ≤ lmin x r := fun r => by
    induction r with
    | nil => intro x hx _; exact hx
    | cons z r ih =>
      intro x hx hr
      simp only [lmin]
      refine ih _ ?_ fun y hy => hr y (List.mem_cons_of_mem _ hy)
      split
      · exact hr z List.mem_cons_self
      · exact hx
  cases hq : ends a b with
  | nil => exact Int.le_refl _
  | cons x r =>
    rw [hq] at all
    exact ll r x (all x List.mem_cons_self) fun y hy => all y (List.mem_cons_of_mem _ hy)
theorem lt_lmin {t : Int} : ∀ {r : List Int} {m : Int}, t < lmin m r ↔ t < m ∧ ∀ x ∈ r, t < x
  | [], m => by simp [lmin]
  | x :: r, m => by
    simp only [lmin]
    rw [lt_lmin]
    constructor
    · rintro ⟨h1, h2⟩
      split at h1
      · refine ⟨by omega, fun y hy => ?_⟩
        rcases List.mem_cons.mp hy with e | e
        · rw [e]; exact h1
        · exact h2 y e
      · refine ⟨h1, fun y hy => ?_⟩
        rcases List.mem_cons.mp hy with e | e
        · rw [e]; omega
        · exact h2 y e
    · rintro ⟨h1, h2⟩
      refine ⟨?_, fun y hy => h2 y (List.mem_cons_of_mem _ hy)⟩
      split
      · exact h2 x List.mem_cons_self
      · exact h1
theorem sh_lt {a b : Br} {p q t : Int} (ga : Good a p) (gb : Good b q) : t < sh a p b q ↔ (t < p ∧ t < q) ∧ fl t a = fl t b := by
  rw [key a b t ga.asc gb.asc]
  unfold sh
  by_cases e : a = b
  · rw [if_pos e, lt_lmin]
    simp [e]
  · rw [if_neg e, lt_lmin]
    simp [e, and_assoc]
theorem sh_0 {a b : Br} {p q : Int} (ga : Good a p) (gb : Good b q) (hp : 0 ≤ p) (hq : 0 ≤ q) : 0 ≤ sh a p b q := by
  have l0 := ga.lim0 gb
  have : -1 < sh a p b q := by
    unfold sh
    by_cases e : a = b
    · rw [if_pos e, lt_lmin]
      simp
      omega
    · rw [if_neg e, lt_lmin]
      simp
      omega
  omega
theorem sh_le {a b : Br} {p q : Int} (ga : Good a p) (gb : Good b q) : sh a p b q ≤ p := by
  have := (sh_lt (t := p) ga gb)
  exact Int.not_lt.mp fun h => by have := (this.mp h).1.1; omega
end K56
set_option Elab.async false
set_option linter.all false
set_option maxRecDepth 100000
set_option maxHeartbeats 2000000
namespace K56
open PySem PySem.Spec PyProof.Rows L2 Mn
theorem e_ixL {T : Tb} {cl : Nat → List PV → PH → Res PV} {ρ : PEnv} {h h1 h2 : PH} {o i : Ex} {l : Nat} {xs : List PV} {j : Int} {x : PV} (ha : evE T cl o ρ h = .ok (.ref l) h1) (hb : evE T cl i ρ h1 = .ok (.int j) h2) (hl : h2[l]? = some (.lst xs)) (k : atI xs j = some x) : evE T cl (.ix o i) ρ h = .ok x h2 := e_ix ha hb (by simp only [pIx, hl, k])
theorem e_lenL {T : Tb} {cl : Nat → List PV → PH → Res PV} {ρ : PEnv} {h h1 : PH} {o : Ex} {l : Nat} {xs : List PV} (ha : evE T cl o ρ h = .ok (.ref l) h1) (hl : h1[l]? = some (.lst xs)) (hn : ∀ x, o ≠ .star x := by intro x q; cases q) : evE T cl (.bi .len [o]) ρ h = .ok (.int xs.length) h1 := e_bi (e_one ha hn) (by simp only [pBi, hl])
theorem e_law_shared {n k m : Nat} {a b : Br} {h : PH} (ga : Good a k) (gb : Good b m) (hk : k ≤ 90) (hm : m ≤ 90) : ∃ g, call (n + 2) 21 [sv a k, sv b m] h = .ok (.int (sh a k b m)) (h ++ g) := by
  have k1 := e_numbers (n := n) (k := k) (b := a) (h := h) (by have := ga.hi; omega) hk
  generalize hg1 : h ++ [PO.lst (nrow a k)] ++ nout a k = h1 at k1
  have k2 := e_numbers (n := n) (k := m) (b := b) (h := h1) (by have := gb.hi; omega) hm
  generalize hg2 : h1 ++ [PO.lst (nrow b m)] ++ nout b m = h2 at k2
  have g1 : h2[h.length]? = some (.lst (nrow a k)) := by
    rw [← hg2, ← hg1]
    simp
  have g2 : h2[h1.length]? = some (.lst (nrow b m)) := by
    rw [← hg2]
    simp
  refine ⟨[PO.lst (nrow a k)] ++ nout a k ++ ([PO.lst (nrow b m)] ++ nout b m), ?_⟩
  rw [call_run (d := d__law_shared) rfl rfl]
  refine rd_rt rfl ?_
  show exSs T (call (n + 1)) 100 b__law_shared [some (sv a k), some (sv b m), none, none, none] h = _
  have eh : h ++ ([PO.lst (nrow a k)] ++ nout a k ++ ([PO.lst (nrow b m)] ++ nout b m)) = h2 := by
    rw [← hg2, ← hg1]
    simp
  rw [eh]
  have f1 : exS T (call (n + 1)) 100 (.asg (.tp [2, 3, 4]) (.tup [.call 20 [.var 0], .call 20 [.var 1], .con (.int 0)])) [some (sv a k), some (sv b m), none, none, none] h = .ok (.nx [some (sv a k), some (sv b m), some (.ref h.length), some (.ref h1.length), some (.int 0)]) h2 :=
    s_asgt (e_tup (e_cons (e_call rfl (e_one (e_var rfl)) k1) (e_two (e_call rfl (e_one (e_var rfl)) k2) e_con)) (by simp)) rfl
  have s0 := sh_0 ga gb (by omega) (by omega)
  obtain ⟨N, hN⟩ : ∃ N : Nat, sh a k b m = N := ⟨(sh a k b m).toNat, by omega⟩
  have hNk : N ≤ k := by have := sh_le ga gb; omega
  have m1 : ∀ i : Nat, evE T (call (n + 1)) (.cmp .lt (.var 4) (.bi .min [.bi .len [.var 2], .bi .len [.var 3]])) [some (sv a k), some (sv b m), some (.ref h.length), some (.ref h1.length), some (.int i)] h2 = .ok (.bl (decide ((i : Int) < k ∧ (i : Int) < m))) h2 := fun i => by
    refine e_cmp (e_var rfl) (e_bi (e_two (e_lenL (e_var rfl) g1) (e_lenL (e_var rfl) g2)) rfl) ?_
    rw [c_lt, nrow_len, nrow_len]
    have e : decide ((i : Int) < if (m : Int) < k then (m : Int) else k) = decide ((i : Int) < k ∧ (i : Int) < m) := by
      refine decide_eq_decide.mpr ?_
      split <;> omega
    rw [e]
  have m2 : ∀ i : Nat, i < k → i < m → evE T (call (n + 1)) (.cmp .eq (.ix (.var 2) (.var 4)) (.ix (.var 3) (.var 4))) [some (sv a k), some (sv b m), some (.ref h.length), some (.ref h1.length), some (.int i)] h2 = .ok (.bl (decide (fl i a = fl i b))) h2 := fun i hi hj => by
    refine e_cmp (e_ixL (e_var rfl) (e_var rfl) g1 (atI_nat (nrow_get hi))) (e_ixL (e_var rfl) (e_var rfl) g2 (atI_nat (nrow_get hj))) ?_
    simp only [pCmp, pEq_b, ob]
  have f2 : exS T (call (n + 1)) 100 (.wh (.and (.cmp .lt (.var 4) (.bi .min [.bi .len [.var 2], .bi .len [.var 3]])) (.cmp .eq (.ix (.var 2) (.var 4)) (.ix (.var 3) (.var 4)))) [.asg (.nm 4) (.bin .add (.var 4) (.con (.int 1)))]) [some (sv a k), some (sv b m), some (.ref h.length), some (.ref h1.length), some (.int 0)] h2 = .ok (.nx [some (sv a k), some (sv b m), some (.ref h.length), some (.ref h1.length), some (.int N)]) h2 := by
    simp only [exS]
    refine wh_det (f := fun i => [some (sv a k), some (sv b m), some (.ref h.length), some (.ref h1.length), some (.int (i : Nat))]) (N := N) (fun i hi => t_bl ?_) (t_bl ?_) (fun i hi => ?_) N 0 100 (by omega) (by omega)
    · have hlt := (sh_lt ga gb (t := i)).mp (by omega)
      have e := e_and (m1 i) fun _ => m2 i (by omega) (by omega)
      rw [decide_eq_true hlt.1, decide_eq_true hlt.2] at e
      exact e
    · have hnl := (not_congr (sh_lt ga gb (t := N))).mp (by omega)
      by_cases hc : (N : Int) < k ∧ (N : Int) < m
      · have e := e_and (m1 N) fun _ => m2 N (by omega) (by omega)
        rw [decide_eq_false (fun q => hnl ⟨hc, q⟩), Bool.and_false] at e
        exact e
      · have e := m1 N
        rw [decide_eq_false hc] at e
        exact e_andF e
    · exact st_nx (s_asg (e_addi (e_var rfl) e_con)) s_nil
  rw [hN]
  exact st_nx f1 (st_nx f2 (st_rt (s_ret (e_var rfl))))
theorem e_law_judged {n k m : Nat} {a b : Br} {h : PH} (ga : Good a k) (gb : Good b m) (hk : k ≤ 90) (hm : m ≤ 90) : ∃ g, call (n + 3) 22 [sv a k, sv b m] h = .ok (jd k m (sh a k b m)) (h ++ g) := by
  obtain ⟨g, q⟩ := e_law_shared (n := n) (h := h) ga gb hk hm
  refine ⟨g, ?_⟩
  rw [call_run (d := d__law_judged) rfl rfl]
  refine rd_rt rfl ?_
  show exSs T (call (n + 2)) 100 b__law_judged [some (sv a k), some (sv b m), none] h = _
  generalize sh a k b m = s at q
  have f1 : exS T (call (n + 2)) 100 (.asg (.nm 2) (.call 21 [.var 0, .var 1])) [some (sv a k), some (sv b m), none] h = .ok (.nx [some (sv a k), some (sv b m), some (.int s)]) (h ++ g) := s_asg (e_call rfl (e_two (e_var rfl) (e_var rfl)) q)
  have c1 : evE T (call (n + 2)) (.cmp .eq (.ix (.var 0) (.con (.int 1))) (.var 2)) [some (sv a k), some (sv b m), some (.int s)] (h ++ g) = .ok (.bl (decide ((k : Int) = s))) (h ++ g) := e_cmp (e_ixT (xs := [bv a, .int k]) (e_var rfl) e_con rfl) (e_var rfl) c_eqi
  have c2 : evE T (call (n + 2)) (.cmp .eq (.ix (.var 1) (.con (.int 1))) (.var 2)) [some (sv a k), some (sv b m), some (.int s)] (h ++ g) = .ok (.bl (decide ((m : Int) = s))) (h ++ g) := e_cmp (e_ixT (xs := [bv b, .int m]) (e_var rfl) e_con rfl) (e_var rfl) c_eqi
  refine st_nx f1 ?_
  unfold jd
  generalize decide ((k : Int) = s) = x at *
  generalize decide ((m : Int) = s) = y at *
  cases x with
  | true =>
    cases y with
    | true => exact st_yes (e_andT c1 c2) (e_tup (e_two e_con (e_var rfl)) (by simp))
    | false => exact st_no (e_andT c1 c2) (st_yes c1 (e_tup (e_two e_con (e_var rfl)) (by simp)))
  | false =>
    refine st_no (e_andF c1) (st_no c1 (st_rt (s_ret ?_)))
    refine e_ife c2 (fun hy => ?_) (fun hy => ?_)
    · subst hy; exact e_tup (e_two e_con (e_var rfl)) (by simp)
    · subst hy; exact e_tup (e_two e_con (e_var rfl)) (by simp)
theorem e_is_number {n : Nat} {v : PV} {h : PH} (k : Kd h v) : call (n + 1) 24 [v] h = .ok (.bl (nIn v 0 M)) h := by
  rw [call_run (d := d__law_is_number) rfl rfl]
  refine rd_rt rfl ?_
  show exSs T (call n) 100 b__law_is_number [some v] h = _
  refine st_rt (s_ret ?_)
  have a1 := e_isI (cl := call n) (ρ := [some v]) (o := .var 0) (h := h) (e_var rfl) k
  have a2 := e_isB (cl := call n) (ρ := [some v]) (o := .var 0) (h := h) (e_var rfl) k
  have a3 : evE T (call n) (.bin .pow (.con (.int 10)) (.con (.int 12))) [some v] h = .ok (.int M) h := e_bin e_con e_con rfl
  cases v with
  | int i => exact e_andT a1 (e_andT (e_not a2) (e_chn e_con (e_var rfl) c_le fun _ => ⟨a3, c_le⟩))
  | bl b => exact e_andT a1 (e_andF (e_not a2))
  | _ => exact e_andF a1
end K56
set_option Elab.async false
set_option linter.all false
set_option maxRecDepth 100000
set_option maxHeartbeats 2000000
namespace K56
open PySem PySem.Spec PyProof.Rows L2 Mn
theorem for_chk {T : Tb} {cl : Nat → List PV → PH → Res PV} {W : Nat} {t : Tg} {k : Ik} {its : List Ex} {b : List Sm} {h h1 : PH} {xs : List PV} {f : Option PV → PEnv} {P : PV → Bool} {r : PV} (hv : evI T cl k its (f none) h = .ok (.fix xs, xs.length) h1)
    (hb : ∀ x ∈ xs, ∀ z g, ∃ g', forB T cl W t b x (f z) (h1 ++ g) = .ok (if P x then .nx (f (some x)) else .rt r) (h1 ++ g ++ g')) :
    ∃ g z, exS T cl W (.for_ t k its b) (f none) h = .ok (if xs.all P then .nx (f z) else .rt r) (h1 ++ g) := by
  rw [exS_for, hv]
  simp only [Res.bind_ok]
  have gen : ∀ m i z g, i + m = xs.length → ∃ g' z', forRun (forB T cl W t b) (.fix xs) (m + 1) i (f z) (h1 ++ g) = .ok (if (xs.drop i).all P then .nx (f z') else .rt r) (h1 ++ g') := fun m => by
    induction m with
    | zero =>
      intro i z g hi
      refine ⟨g, z, ?_⟩
      have : i = xs.length := by omega
      subst this
      unfold forRun
      rw [fix_end, List.drop_eq_nil_of_le (Nat.le_refl _)]
      rfl
    | succ m ih =>
      intro i z g hi
      have hlt : i < xs.length := by omega
      have e : xs.drop i = xs[i] :: xs.drop (i + 1) := List.drop_eq_getElem_cons hlt
      unfold forRun
      rw [fix_at (List.getElem?_eq_getElem hlt)]
      simp only
      obtain ⟨g1, k1⟩ := hb _ (List.getElem_mem hlt) z g
      rw [k1, e, List.all_cons]
      by_cases hP : P xs[i] = true
      · simp only [hP, if_true, Res.bind_ok, Bool.true_and]
        rw [List.append_assoc]
        exact ih (i + 1) _ _ (by omega)
      · have hP' : P xs[i] = false := by simpa using hP
        simp only [hP', Bool.false_eq_true, if_false, Res.bind_ok, Bool.false_and]
        exact ⟨g ++ g1, none, by rw [List.append_assoc]⟩
  have := gen xs.length 0 none [] (by omega)
  simpa using this
def dI : PV → PyData
  | .int i => .int i
  | .bl b => .bool b
  | _ => .none
theorem toDs_I {de : Nat → Option PyData} : ∀ {L : List PV}, (∀ y ∈ L, isI y = true) → toDs de L = some (L.map dI)
  | [], _ => rfl
  | y :: L, k => by
    have h1 := k y List.mem_cons_self
    have h2 := toDs_I (de := de) (L := L) fun z hz => k z (List.mem_cons_of_mem _ hz)
    unfold isI at h1
    split at h1
    · simp [toDs, toD, h2, dI]
    · simp [toDs, toD, h2, dI]
    · cases h1
theorem lay_I : ∀ {L : List PV}, (∀ y ∈ L, isI y = true) → PyData.canLayAll0 (L.map dI) = true ∧ PyData.depthAll (L.map dI) ≤ 1
  | [], _ => ⟨rfl, by simp [PyData.depthAll]⟩
  | y :: L, k => by
    have h1 := k y List.mem_cons_self
    obtain ⟨h2, h3⟩ := lay_I (L := L) fun z hz => k z (List.mem_cons_of_mem _ hz)
    unfold isI at h1
    split at h1
    · simp [PyData.canLayAll0, PyData.canLay0, dI, h2, PyData.depthAll, PyData.depth] at h3 ⊢
      omega
    · simp [PyData.canLayAll0, PyData.canLay0, dI, h2, PyData.depthAll, PyData.depth] at h3 ⊢
      omega
    · cases h1
theorem datum_L {h : PH} {l : Nat} {L : List PV} (e : h[l]? = some (.lst L)) (k : ∀ y ∈ L, isI y = true) : datum h (.ref l) = some (.list (L.map dI)) := by
  unfold datum
  simp only [toD, deref, e, toDs_I k, Option.map_some]
  have hs : SeqAt.shaped (.list (L.map dI)) = true := by
    obtain ⟨h2, h3⟩ := lay_I k
    unfold SeqAt.shaped
    simp [PyData.canLay0, h2, PyData.depth]
    omega
  rw [if_pos hs]
theorem pEq_nil {h : PH} {l m : Nat} {L : List PV} (e : h[l]? = some (.lst L)) (k : ∀ y ∈ L, isI y = true) (e2 : h[m]? = some (.lst [])) : pEq h (.ref l) (.ref m) = some L.isEmpty := by
  unfold pEq
  rw [datum_L e k, datum_L e2 (by simp)]
  cases L with
  | nil => rfl
  | cons y L => simp [PyData.eqv, PyData.eqvAll]
def Fl1 (x : PV) : Prop := ∀ ys, x = .tup ys → ∀ y ∈ ys, isI y = true
theorem cut_tail {α : Type} (xs : List α) : cut xs (some 1) none = xs.tail := by
  unfold cut
  rw [show (1 : Int) = ((1 : Nat) : Int) from rfl, HT.sIx_nat]
  cases xs with
  | nil => simp
  | cons x r => simp [HT.sIx]
theorem e_pairs {n : Nat} {v x : PV} {z2 z3 : Option PV} {h : PH} (kx : Kd h x) (fx : Fl1 x) : ∃ g, exSs T (call (n + 1)) 100 [.ite (.or (.not (.bi .isinst [.var 1, .bty .tuple])) (.or (.cmp .ne (.bi .len [.var 1]) (.con (.int 2))) (.cmp .ne (.lc (.var 4) [4] (.nm 4) .seq [.var 1] [.not (.call 24 [.var 4])]) (.lst [])))) [.ret (.con (.bl false))] []] [some v, some x, z2, z3, none] h = .ok (if isP x then .nx [some v, some x, z2, z3, none] else .rt (.bl false)) (h ++ g) := by
  have a1 := e_isT (cl := call (n + 1)) (ρ := [some v, some x, z2, z3, none]) (o := .var 1) (h := h) (e_var rfl) kx
  cases x with
  | tup ys =>
    have a2 := e_len (cl := call (n + 1)) (ρ := [some v, some (.tup ys), z2, z3, none]) (o := .var 1) (h := h) (e_var rfl)
    by_cases hl : ys.length = 2
    · match ys, hl, kx, fx, a1, a2 with
      | [a, b], _, kx, fx, a1, a2 =>
        cases kx with
        | tup _ kx =>
          have ff := fx [a, b] rfl
          have k1 := lc_row (T := T) (cl := call (n + 1)) (ρ := [some v, some (.tup [a, b]), z2, z3, none]) (e := .var 4) (own := [4]) (t := .nm 4) (ifs := [.not (.call 24 [.var 4])]) (src := .var 1) (xs := [a, b]) (h := h) (fun y => !nIn y 0 M) id (e_var rfl) (by simp) (fun y hy h' _ same => by
            refine lcB_if (ρ1 := [some v, some (.tup [a, b]), z2, z3, some y]) rfl (e_not (e_call rfl (e_one (e_var rfl)) (e_is_number ((kx y hy).same same)))) fun _ => e_var rfl)
          rw [List.map_id] at k1
          generalize hL : List.filter (fun y => !nIn y 0 M) [a, b] = L at k1
          have kL : ∀ y ∈ L, isI y = true := fun y hy => ff y (by rw [← hL] at hy; exact (List.mem_filter.mp hy).1)
          have k2 : evE T (call (n + 1)) (.lst []) [some v, some (.tup [a, b]), z2, z3, none] (h ++ [.lst L]) = .ok (.ref (h ++ [PO.lst L]).length) (h ++ [.lst L] ++ [.lst []]) := e_lst e_nil (by simp)
          have k3 := e_cmp (op := .ne) k1 k2 (r := .ok (.bl (!L.isEmpty)) (h ++ [.lst L] ++ [.lst []])) (by
            simp only [pCmp, pEq_nil (l := h.length) (m := (h ++ [PO.lst L]).length) get_mid kL get_last, ob, Option.map_some])
          have eP : isP (.tup [a, b]) = L.isEmpty := by
            rw [← hL]
            simp only [isP]
            by_cases ha : nIn a 0 M = true <;> by_cases hb : nIn b 0 M = true <;> simp [List.filter_cons, ha, hb]
          refine ⟨[.lst L, .lst []], ?_⟩
          rw [eP]
          have k4 := e_orF (e_not a1) (e_orF (e_cmp a2 (e_con (v := .int 2)) (c_neF rfl)) k3)
          rw [show h ++ [PO.lst L] ++ [PO.lst []] = h ++ [.lst L, .lst []] by simp] at k4
          generalize L.isEmpty = t at k4 ⊢
          cases t with
          | true => exact st_no k4 s_nil
          | false => exact st_yes k4 e_con
    · have eb : isP (.tup ys) = false := by
        unfold isP
        split
        · rename_i a b e
          cases e
          simp at hl
        · rfl
      rw [eb]
      refine ⟨[], ?_⟩
      rw [List.append_nil]
      exact st_yes (e_orF (e_not a1) (e_orT (e_cmp a2 e_con (c_neT (by omega))))) e_con
  | _ =>
    refine ⟨[], ?_⟩
    rw [List.append_nil]
    exact st_yes (e_orT (e_not a1)) e_con
end K56
set_option Elab.async false
set_option linter.all false
set_option maxRecDepth 100000
set_option maxHeartbeats 2000000
namespace K56
open PySem PySem.Spec PyProof.Rows L2 Mn
def Flv (v : PV) : Prop := ∀ xs y, v = .tup [.tup xs, y] → ∀ x ∈ xs, Fl1 x
theorem isSt_ntup {v : PV} (h : isTup v = false) : isSt v = false := by
  cases v with
  | tup xs => cases h
  | _ => rfl
theorem zip_nbs : ∀ b : Br, List.zipWith (fun x y => PV.tup [x, y]) (b.map pv) (b.map pv).tail = nbs b := fun b => by
  unfold nbs
  rw [← List.map_tail, List.zipWith_map, List.zip, List.map_zipWith]
theorem nIn_low {y : PV} {lo : Int} (h : 0 ≤ lo) : nIn y lo M = (nIn y 0 M && match y with | .int i => decide (lo ≤ i) | _ => false) := by
  cases y with
  | int i =>
    simp only [nIn]
    by_cases h1 : lo ≤ i <;> by_cases h2 : i ≤ M <;> by_cases h3 : 0 ≤ i <;> simp [h1, h2, h3] <;> omega
  | _ => rfl
theorem last_num {b : Br} (hb : ∀ p ∈ b, 0 ≤ p.2) : 0 ≤ lst2 b := by
  unfold lst2
  cases e : b.getLast? with
  | none => exact Int.le_refl _
  | some p => exact hb p (List.mem_of_getLast? e)
theorem isP_num {p : Int × Int} (h : isP (pv p) = true) : 0 ≤ p.2 := by
  simp only [isP, pv, nIn, Bool.and_eq_true, decide_eq_true_eq] at h
  exact h.2.1
def ltF (x : PV) : PV := .int 1
theorem two {α : Type} {vs : List α} (h : vs.length = 2) : ∃ x y, vs = [x, y] := match vs, h with
  | [x, y], _ => ⟨x, y, rfl⟩
theorem not_lt (q : (Int × Int) × (Int × Int)) : (decide (q.2.1 ≤ q.1.1) || decide (q.2.2 < q.1.2)) = !ltP (.tup [pv q.1, pv q.2]) := by
  show _ = !(decide (q.1.1 < q.2.1) && decide (q.1.2 ≤ q.2.2))
  by_cases h1 : q.1.1 < q.2.1 <;> by_cases h2 : q.1.2 ≤ q.2.2
  · rw [decide_eq_true h1, decide_eq_true h2, decide_eq_false (by omega), decide_eq_false (by omega)]; rfl
  · rw [decide_eq_true h1, decide_eq_false h2, decide_eq_false (by omega), decide_eq_true (by omega)]; rfl
  · rw [decide_eq_false h1, decide_eq_true (by omega)]; rfl
  · rw [decide_eq_false h1, decide_eq_true (by omega)]; rfl
theorem e_rows {n l : Nat} {v : PV} {z : Option PV} {b : Br} {h : PH} (hl : h[l]? = some (.lst (nbs b))) (hb : b.length ≤ 20) : ∃ g, evE T (call (n + 1)) (.cmp .eq (.lc (.con (.int 1)) [1, 3] (.tp [1, 3]) .seq [.var 2] [.or (.cmp .ge (.ix (.var 1) (.con (.int 0))) (.ix (.var 3) (.con (.int 0)))) (.cmp .gt (.ix (.var 1) (.con (.int 1))) (.ix (.var 3) (.con (.int 1))))]) (.lst [])) [some v, z, some (.ref l), none, none] h = .ok (.bl (ascB b)) (h ++ g) := by
  have f6 := lc_ref (T := T) (cl := call (n + 1)) (ρ := [some v, z, some (.ref l), none, none]) (h := h) (h1 := h) (xs := nbs b) (l := l) (e := .con (.int 1)) (own := [1, 3]) (t := .tp [1, 3]) (ifs := [.or (.cmp .ge (.ix (.var 1) (.con (.int 0))) (.ix (.var 3) (.con (.int 0)))) (.cmp .gt (.ix (.var 1) (.con (.int 1))) (.ix (.var 3) (.con (.int 1))))]) (src := .var 2)
    (fun x => !ltP x) ltF (e_var rfl) hl (by rw [nbs_len]; omega) (fun x hx h' _ _ => by
      unfold nbs at hx
      obtain ⟨q, _, rfl⟩ := List.mem_map.mp hx
      have e1 : evE T (call (n + 1)) (.or (.cmp .ge (.ix (.var 1) (.con (.int 0))) (.ix (.var 3) (.con (.int 0)))) (.cmp .gt (.ix (.var 1) (.con (.int 1))) (.ix (.var 3) (.con (.int 1))))) [some v, some (pv q.1), some (.ref l), some (pv q.2), none] h' = .ok (.bl (decide (q.2.1 ≤ q.1.1) || decide (q.2.2 < q.1.2))) h' :=
        e_or (e_cmp (e_ixT (xs := [.int q.1.1, .int q.1.2]) (e_var rfl) e_con rfl) (e_ixT (xs := [.int q.2.1, .int q.2.2]) (e_var rfl) e_con rfl) c_ge) fun _ => e_cmp (e_ixT (xs := [.int q.1.1, .int q.1.2]) (e_var rfl) e_con rfl) (e_ixT (xs := [.int q.2.1, .int q.2.2]) (e_var rfl) e_con rfl) c_gt
      rw [not_lt] at e1
      exact lcB_if (ρ1 := [some v, some (pv q.1), some (.ref l), some (pv q.2), none]) rfl e1 fun _ => e_con)
  generalize hL : ((nbs b).filter fun x => !ltP x).map ltF = L at f6
  have kL : ∀ y ∈ L, isI y = true := fun y hy => by
    rw [← hL] at hy
    obtain ⟨_, _, rfl⟩ := List.mem_map.mp hy
    rfl
  have eL : L.isEmpty = ascB b := by
    rw [← nbs_asc, ← hL]
    rw [Bool.eq_iff_iff]
    simp [List.filter_eq_nil_iff]
  have f7 : evE T (call (n + 1)) (.lst []) [some v, z, some (.ref l), none, none] (h ++ [.lst L]) = .ok (.ref (h ++ [PO.lst L]).length) (h ++ [.lst L] ++ [.lst []]) := e_lst e_nil (by simp)
  have f8 := e_cmp (op := .eq) f6 f7 (r := .ok (.bl L.isEmpty) (h ++ [.lst L] ++ [.lst []])) (by
    simp only [pCmp, pEq_nil (l := h.length) (m := (h ++ [PO.lst L]).length) get_mid kL get_last, ob])
  rw [eL] at f8
  refine ⟨[.lst L, .lst []], ?_⟩
  rw [f8]
  congr 1
  simp
theorem e_law_is_stand {n : Nat} {v : PV} {h : PH} (k : Kd h v) (fv : Flv v) : ∃ g, call (n + 2) 23 [v] h = .ok (.bl (isSt v)) (h ++ g) := by
  have a1 := e_isT (cl := call (n + 1)) (ρ := [some v, none, none, none, none]) (o := .var 0) (h := h) (e_var rfl) k
  have fin : ∀ {g : PH} {w : PV}, exSs T (call (n + 1)) 100 b__law_is_stand [some v, none, none, none, none] h = .ok (.rt w) (h ++ g) → call (n + 2) 23 [v] h = .ok w (h ++ g) := fun {g w} e => by
    rw [call_run (d := d__law_is_stand) rfl rfl]
    exact rd_rt rfl e
  cases v with
  | tup vs =>
    have a2 := e_len (cl := call (n + 1)) (ρ := [some (.tup vs), none, none, none, none]) (o := .var 0) (h := h) (e_var rfl)
    by_cases hl : vs.length = 2
    · obtain ⟨x, y, rfl⟩ : ∃ x y, vs = [x, y] := two hl
      have k' : ∀ z ∈ [x, y], Kd h z := by
        cases k with
        | tup _ k => exact k
      have kx : Kd h x := k' x (by simp)
      have ky : Kd h y := k' y (by simp)
      have x0 : ∀ z1 z2 z3 z4 h', evE T (call (n + 1)) (.ix (.var 0) (.con (.int 0))) [some (.tup [x, y]), z1, z2, z3, z4] h' = .ok x h' := fun _ _ _ _ _ => e_ixT (xs := [x, y]) (e_var rfl) e_con rfl
      have y0 : ∀ z1 z2 z3 z4 h', evE T (call (n + 1)) (.ix (.var 0) (.con (.int 1))) [some (.tup [x, y]), z1, z2, z3, z4] h' = .ok y h' := fun _ _ _ _ _ => e_ixT (xs := [x, y]) (e_var rfl) e_con rfl
      have a3 := e_isT (x0 none none none none h) kx
      by_cases ht : isTup x = true
      · obtain ⟨xs, rfl⟩ : ∃ xs, x = .tup xs := by
          cases x with
          | tup xs => exact ⟨xs, rfl⟩
          | _ => cases ht
        have b1 := e_orF (b := .or (.cmp .ne (.bi .len [.var 0]) (.con (.int 2))) (.not (.bi .isinst [.ix (.var 0) (.con (.int 0)), .bty .tuple]))) (e_not a1) (e_orF (e_cmp a2 (e_con (v := .int 2)) (c_neF rfl)) (e_not a3))
        have a4 := e_len (x0 none none none none h)
        have b2 : evE T (call (n + 1)) (.not (.chn .le .le (.con (.int 1)) (.bi .len [.ix (.var 0) (.con (.int 0))]) (.con (.int 20)))) [some (.tup [.tup xs, y]), none, none, none, none] h = .ok (.bl (!(decide ((1 : Int) ≤ xs.length) && decide ((xs.length : Int) ≤ 20)))) h := e_not (e_chn e_con a4 c_le fun _ => ⟨e_con, c_le⟩)
        by_cases hn : (decide ((1 : Int) ≤ xs.length) && decide ((xs.length : Int) ≤ 20)) = true
        · rw [hn] at b2
          have hn2 : 1 ≤ xs.length ∧ xs.length ≤ 20 := by simp at hn; omega
          have fx := fv xs y rfl
          have kxs : ∀ z ∈ xs, Kd h z := by
            cases kx with
            | tup _ k => exact k
          obtain ⟨g1, z, f3⟩ := for_chk (T := T) (cl := call (n + 1)) (W := 100) (t := .nm 1) (k := .seq) (its := [.ix (.var 0) (.con (.int 0))]) (b := [.ite (.or (.not (.bi .isinst [.var 1, .bty .tuple])) (.or (.cmp .ne (.bi .len [.var 1]) (.con (.int 2))) (.cmp .ne (.lc (.var 4) [4] (.nm 4) .seq [.var 1] [.not (.call 24 [.var 4])]) (.lst [])))) [.ret (.con (.bl false))] []]) (h := h) (h1 := h) (xs := xs) (f := fun z => [some (.tup [.tup xs, y]), z, none, none, none]) (P := isP) (r := .bl false)
            (evI_row (x0 _ _ _ _ _)) (fun x hx z g => e_pairs ((kxs x hx).app g) (fx x hx))
          by_cases hp : xs.all isP = true
          · rw [if_pos hp] at f3
            obtain ⟨b, rfl⟩ : ∃ b : Br, xs = b.map pv := ⟨xs.map prOf, all_pv hp⟩
            have pn : ∀ p ∈ b, isP (pv p) = true := fun p hq => List.all_eq_true.mp hp _ (List.mem_map_of_mem hq)
            obtain ⟨p, r, rfl⟩ : ∃ p r, b = p :: r := by
              cases b with
              | nil => simp at hn2
              | cons p r => exact ⟨p, r, rfl⟩
            have el : isSt (.tup [.tup ((p :: r).map pv), y]) = ((decide (p = (0, 0)) && ascB (p :: r)) && nIn y (lst2 (p :: r)) M) := by
              have e1 : (decide (1 ≤ ((p :: r).map pv).length) && decide (((p :: r).map pv).length ≤ 20)) = true := by simp only [Bool.and_eq_true, decide_eq_true_eq]; exact hn2
              have e2 : decide ((p :: r).head? = some (0, 0)) = decide (p = (0, 0)) := by simp
              have e3 := lastB_bv (p :: r)
              unfold bv at e3
              simp only [isSt, isBr, prOf_map, e1, hp, e2, Bool.true_and, e3]
            rw [el]
            have q1 : evE T (call (n + 1)) (.cmp .ne (.ix (.ix (.var 0) (.con (.int 0))) (.con (.int 0))) (.tup [.con (.int 0), .con (.int 0)])) [some (.tup [.tup ((p :: r).map pv), y]), z, none, none, none] (h ++ g1) = .ok (.bl (!decide (p = (0, 0)))) (h ++ g1) := by
              refine e_cmp (e_ixT (x0 _ _ _ _ _) e_con atI_zero) (e_tup (e_two e_con e_con) (by simp)) ?_
              show pCmp .ne (pv p) (pv (0, 0)) _ = _
              simp only [pCmp, pEq_pp, ob, Option.map_some]
            have low := last_num (b := p :: r) fun p hq => isP_num (pn p hq)
            have q2 : evE T (call (n + 1)) (.not (.call 24 [.ix (.var 0) (.con (.int 1))])) [some (.tup [.tup ((p :: r).map pv), y]), z, none, none, none] (h ++ g1) = .ok (.bl (!nIn y 0 M)) (h ++ g1) := e_not (e_call rfl (e_one (y0 _ _ _ _ _)) (e_is_number (ky.app g1)))
            have elast : atI ((p :: r).map pv) (-1) = some (pv ((((p :: r).getLast?).map (·.1)).getD 0, lst2 (p :: r))) := by
              obtain ⟨q, hq⟩ : ∃ q, (p :: r).getLast? = some q := ⟨_, List.getLast?_eq_some_getLast (by simp)⟩
              refine atI_last ?_
              rw [List.getLast?_map, hq]
              simp [lst2, hq]
            have big : evE T (call (n + 1)) (.or (.cmp .ne (.ix (.ix (.var 0) (.con (.int 0))) (.con (.int 0))) (.tup [.con (.int 0), .con (.int 0)])) (.or (.not (.call 24 [.ix (.var 0) (.con (.int 1))])) (.cmp .lt (.ix (.var 0) (.con (.int 1))) (.ix (.ix (.ix (.var 0) (.con (.int 0))) (.neg (.con (.int 1)))) (.con (.int 1)))))) [some (.tup [.tup ((p :: r).map pv), y]), z, none, none, none] (h ++ g1) = .ok (.bl (!(decide (p = (0, 0)) && nIn y (lst2 (p :: r)) M))) (h ++ g1) := by
              have := e_or q1 (b := .or (.not (.call 24 [.ix (.var 0) (.con (.int 1))])) (.cmp .lt (.ix (.var 0) (.con (.int 1))) (.ix (.ix (.ix (.var 0) (.con (.int 0))) (.neg (.con (.int 1)))) (.con (.int 1))))) (u := !nIn y (lst2 (p :: r)) M) fun _ => by
                rw [nIn_low low]
                cases y with
                | int i =>
                  have q3 : evE T (call (n + 1)) (.cmp .lt (.ix (.var 0) (.con (.int 1))) (.ix (.ix (.ix (.var 0) (.con (.int 0))) (.neg (.con (.int 1)))) (.con (.int 1)))) [some (.tup [.tup ((p :: r).map pv), .int i]), z, none, none, none] (h ++ g1) = .ok (.bl (decide (i < lst2 (p :: r)))) (h ++ g1) :=
                    e_cmp (y0 _ _ _ _ _) (e_ixT (e_ixT (x0 _ _ _ _ _) (e_neg e_con) elast) e_con rfl) c_lt
                  have q4 := e_or q2 fun _ => q3
                  have eb : (!nIn (.int i) 0 M || decide (i < lst2 (p :: r))) = !(nIn (.int i) 0 M && decide (lst2 (p :: r) ≤ i)) := by
                    by_cases c : i < lst2 (p :: r)
                    · rw [decide_eq_true c, decide_eq_false (by omega : ¬ lst2 (p :: r) ≤ i)]; simp
                    · rw [decide_eq_false c, decide_eq_true (by omega : lst2 (p :: r) ≤ i)]; simp
                  rw [eb] at q4
                  exact q4
                | _ => exact e_orT q2
              rw [← Bool.not_and] at this
              exact this
            by_cases hc : (decide (p = (0, 0)) && nIn y (lst2 (p :: r)) M) = true
            · rw [hc] at big
              have e2 : ((decide (p = (0, 0)) && ascB (p :: r)) && nIn y (lst2 (p :: r)) M) = ascB (p :: r) := by
                rw [Bool.and_eq_true] at hc
                rw [hc.1, hc.2]
                simp
              rw [e2]
              have f5 : exS T (call (n + 1)) 100 (.asg (.nm 2) (.lz [.ix (.var 0) (.con (.int 0)), .sl (.ix (.var 0) (.con (.int 0))) (.con (.int 1)) .nop])) [some (.tup [.tup ((p :: r).map pv), y]), z, none, none, none] (h ++ g1) = .ok (.nx [some (.tup [.tup ((p :: r).map pv), y]), z, some (.ref (h ++ g1).length), none, none]) (h ++ g1 ++ [.lst (nbs (p :: r))]) := by
                refine s_asg ?_
                have e1 := e_two (x0 z none none none (h ++ g1)) (e_slF (lo := .con (.int 1)) (fun _ _ => rfl) (x0 z none none none (h ++ g1)) e_con)
                rw [cut_tail] at e1
                simp only [evE, e1, Res.bind_ok, zip_nbs]
              obtain ⟨g2, f8⟩ := e_rows (n := n) (v := .tup [.tup ((p :: r).map pv), y]) (z := z) (b := p :: r) (l := (h ++ g1).length) (h := h ++ g1 ++ [.lst (nbs (p :: r))]) get_last (by have := hn2.2; simpa using this)
              refine ⟨g1 ++ [.lst (nbs (p :: r))] ++ g2, fin ?_⟩
              rw [← List.append_assoc, ← List.append_assoc]
              exact st_no b1 (st_no b2 (st_nx f3 (st_no big (st_nx f5 (st_rt (s_ret f8))))))
            · have hc' : (decide (p = (0, 0)) && nIn y (lst2 (p :: r)) M) = false := by simpa using hc
              rw [hc'] at big
              have e2 : ((decide (p = (0, 0)) && ascB (p :: r)) && nIn y (lst2 (p :: r)) M) = false := by
                rw [Bool.and_right_comm, hc', Bool.false_and]
              rw [e2]
              exact ⟨g1, fin (st_no b1 (st_no b2 (st_nx f3 (st_yes big e_con))))⟩
          · have hp' : xs.all isP = false := by simpa using hp
            rw [if_neg hp] at f3
            have eb : isSt (.tup [.tup xs, y]) = false := by simp only [isSt, isBr, hp', Bool.false_and, Bool.and_false]
            rw [eb]
            exact ⟨g1, fin (st_no b1 (st_no b2 (st_rt f3)))⟩
        · have hn' : (decide ((1 : Int) ≤ xs.length) && decide ((xs.length : Int) ≤ 20)) = false := by simpa using hn
          rw [hn'] at b2
          have e0 : (decide (1 ≤ xs.length) && decide (xs.length ≤ 20)) = false := by simp at hn ⊢; omega
          have eb : isSt (.tup [.tup xs, y]) = false := by simp only [isSt, isBr, e0, Bool.false_and]
          rw [eb]
          refine ⟨[], fin ?_⟩
          rw [List.append_nil]
          exact st_no b1 (st_yes b2 e_con)
      · have eb : isSt (.tup [x, y]) = false := by
          cases x with
          | tup xs => exact absurd rfl ht
          | _ => rfl
        have ht' : isTup x = false := by simpa using ht
        rw [ht'] at a3
        rw [eb]
        refine ⟨[], fin ?_⟩
        rw [List.append_nil]
        exact st_yes (e_orF (e_not a1) (e_orF (e_cmp a2 (e_con (v := .int 2)) (c_neF rfl)) (e_not a3))) e_con
    · have eb : isSt (.tup vs) = false := by
        unfold isSt
        split
        · rename_i a b e
          cases e
          simp at hl
        · rfl
      rw [eb]
      refine ⟨[], fin ?_⟩
      rw [List.append_nil]
      exact st_yes (e_orF (e_not a1) (e_orT (e_cmp a2 e_con (c_neT (by omega))))) e_con
  | _ =>
    refine ⟨[], fin ?_⟩
    rw [List.append_nil]
    exact st_yes (e_orT (e_not a1)) e_con
end K56
set_option Elab.async false
set_option linter.all false
set_option maxRecDepth 100000
set_option maxHeartbeats 2000000
namespace K56
open PySem PySem.Spec PyProof.Rows L2 Mn
theorem asc_bounds : ∀ {b : Br} {p : Int × Int}, Asc (p :: b) → ∀ q ∈ p :: b, (p.1 ≤ q.1 ∧ q.1 ≤ lastN (p :: b)) ∧ (p.2 ≤ q.2 ∧ q.2 ≤ lst2 (p :: b))
  | [], p, _, q, hq => by
    rw [List.mem_singleton.mp hq]
    simp [lastN, lst2]
  | r :: b, p, a, q, hq => by
    have ih := asc_bounds a.2
    have e1 : lastN (p :: r :: b) = lastN (r :: b) := by simp [lastN]
    have e2 : lst2 (p :: r :: b) = lst2 (r :: b) := by simp [lst2]
    rw [e1, e2]
    have ir := ih r List.mem_cons_self
    have := a.1
    rcases List.mem_cons.mp hq with e | e
    · rw [e]; omega
    · have := ih q e; omega
theorem head_cons {b : Br} {p : Int × Int} (h : b.head? = some p) : ∃ r, b = p :: r := by
  cases b with
  | nil => cases h
  | cons x r =>
    simp at h
    exact ⟨r, by rw [h]⟩
theorem good_of {b : Br} {q : Int} (hd : b.head? = some (0, 0)) (hl : b.length ≤ 20) (a : Asc b) (hx : lastN b ≤ M) (ht : lst2 b ≤ q) (hq : q ≤ M) : Good b q := by
  obtain ⟨r, rfl⟩ := head_cons hd
  refine ⟨by simp, hl, fun p hp => ?_, hd, a, ht, hq⟩
  have := asc_bounds a p hp
  simp only at this
  omega
theorem asc_snoc {x t : Int} : ∀ {b : Br}, Asc b → lastN b < x → lst2 b ≤ t → b ≠ [] → Asc (b ++ [(x, t)])
  | [], _, _, _, h => absurd rfl h
  | [p], _, h1, h2, _ => by
    simp [lastN, lst2] at h1 h2
    exact ⟨⟨h1, h2⟩, trivial⟩
  | p :: r :: b, a, h1, h2, _ => ⟨a.1, asc_snoc a.2 (by simpa [lastN] using h1) (by simpa [lst2] using h2) (by simp)⟩
theorem lastN_snoc {b : Br} {x t : Int} : lastN (b ++ [(x, t)]) = x := by simp [lastN]
theorem lst2_snoc {b : Br} {x t : Int} : lst2 (b ++ [(x, t)]) = t := by simp [lst2]
theorem head_snoc {b : Br} {p q : Int × Int} (h : b.head? = some q) : (b ++ [p]).head? = some q := by
  obtain ⟨r, rfl⟩ := head_cons h
  rfl
structure Drn (j : Nat) (b : Br) (q : Nat) : Prop where
  good : Good b q
  len : b.length ≤ 4 + j
  num : lastN b ≤ 100 * (j + 1)
  place : q ≤ 25 * (j + 1)
theorem fl_head {b : Br} {t : Int} (h : b.head? = some (0, 0)) (ht : 0 ≤ t) : (fl t b).head? = some (0, 0) := by
  obtain ⟨r, rfl⟩ := head_cons h
  rw [fl_cons ht]
  rfl
theorem fl_mem {b : Br} {t : Int} {p : Int × Int} (h : p ∈ fl t b) : p ∈ b ∧ p.2 ≤ t := by
  have := List.mem_filter.mp h
  exact ⟨this.1, by simpa using this.2⟩
theorem last_mem {b : Br} (hne : b ≠ []) : ∃ p ∈ b, lastN b = p.1 ∧ lst2 b = p.2 := by
  obtain ⟨p, hp⟩ : ∃ p, b.getLast? = some p := ⟨_, List.getLast?_eq_some_getLast hne⟩
  exact ⟨p, List.mem_of_getLast? hp, by simp [lastN, hp], by simp [lst2, hp]⟩
theorem fl_last {b : Br} {t : Int} (a : Asc b) (h : b.head? = some (0, 0)) (ht : 0 ≤ t) : lastN (fl t b) ≤ lastN b ∧ lst2 (fl t b) ≤ t ∧ 0 ≤ lastN (fl t b) := by
  obtain ⟨r, e⟩ := head_cons (fl_head h ht)
  obtain ⟨p, hp, e1, e2⟩ := last_mem (b := fl t b) (by rw [e]; simp)
  obtain ⟨hm, hle⟩ := fl_mem hp
  obtain ⟨r', rfl⟩ := head_cons h
  have := asc_bounds a p hm
  simp only at this
  rw [e1, e2]
  omega
theorem fl_good {b : Br} {q t : Int} (g : Good b q) (ht : 0 ≤ t ∧ t ≤ q) : Good (fl t b) t := by
  have := fl_last g.asc g.hd ht.1
  have hl : (fl t b).length ≤ b.length := List.length_filter_le _ _
  obtain ⟨p, hp, e1, e2⟩ := last_mem (b := b) (by intro e; have := g.lo; simp [e] at this)
  have := (g.num p hp).1.2
  refine good_of (fl_head g.hd ht.1) (by have := g.hi; omega) (asc_fl t g.asc) (by omega) (by omega) (by have := g.top; omega)
section
variable {n l c : Nat} {ρ : PEnv} {h : PH}
theorem al_r {k : Int} {e : Ex} {P : PV → PH → Prop} (h0 : ρ[0]? = some (some (.ref l))) (he : evE T (call (n + 1)) e ρ h = .ok (.int k) h) (d : Dc l (c + 1) h) (k0 : 0 < k) (k1 : k < 2 ^ 62) (q : ∀ r : Nat, (r : Int) < k → ∀ h', Dc l c h' → Gr l h h' → P (.int r) h') (hn : ∀ x, e ≠ .star x := by intro x q; cases q) :
    Al P (evE T (call (n + 1)) (.call 16 [.var 0, e]) ρ h) := by
  refine al_call rfl (Al.ok (e_two (e_var h0) he (fun _ q => nomatch q) hn) ?_)
  rw [show call (n + 1) 16 [.ref l, .int k] h = spRoll [.ref l, .int k] h from callS_sp (d := d__law_roll) rfl rfl rfl]
  exact (al_roll d k0 k1).imp fun v h' ⟨⟨r, hr, ev⟩, d', g⟩ => by subst ev; exact q r hr h' d' g
theorem al_for2 {T : Tb} {cl : Nat → List PV → PH → Res PV} {W : Nat} {t : Tg} {k : Ik} {its : List Ex} {b : List Sm} {P : Fl → PH → Prop} (hv : Al (fun p h1 => Al P (forRun (forB T cl W t b) p.1 (p.2 + 1) 0 ρ h1)) (evI T cl k its ρ h)) : Al P (exS T cl W (.for_ t k its b) ρ h) := by
  rw [exS_for]
  exact Al.bind hv
theorem al_evI {T : Tb} {cl : Nat → List PV → PH → Res PV} {k : Ik} {its : List Ex} {Q : Wk × Nat → PH → Prop} (q : Al (fun vs h1 => ∃ p, wkOf k vs h1 = some p ∧ Q p h1) (evEs T cl its ρ h)) : Al Q (evI T cl k its ρ h) := by
  unfold evI
  refine Al.bind (q.imp fun vs h1 ⟨p, e1, z⟩ => ?_)
  rw [e1]
  exact Al.ok rfl z
end
theorem al_stand {n l c : Nat} {h : PH} (d : Dc l (c + 8) h) : Al (fun v h' => (∃ b q, v = sv b (q : Nat) ∧ Drn 0 b q) ∧ Dc l c h' ∧ Gr l h h') (call (n + 2) 18 [.ref l] h) := by
  rw [call_run (d := d__law_stand) rfl rfl]
  refine al_run rfl ?_
  show Al _ (exSs T (call (n + 1)) 100 b__law_stand [some (.ref l), none, none, none, none] h)
  have f1 : exS T (call (n + 1)) 100 (.asg (.tp [2, 3, 4]) (.tup [.lst [.tup [.con (.int 0), .con (.int 0)]], .con (.int 0), .con (.int 0)])) [some (.ref l), none, none, none, none] h = .ok (.nx [some (.ref l), none, some (.ref h.length), some (.int 0), some (.int 0)]) (h ++ [.lst [pv (0, 0)]]) :=
    s_asgt (e_tup (e_cons (e_lst (vs := [pv (0, 0)]) (e_one (e_tup (e_two e_con e_con) (by simp))) (by simp)) (e_two e_con e_con)) (by simp)) rfl
  refine al_ss (Al.ok f1 ?_)
  have hlt := d.lt
  refine al_ss (al_for2 (al_evI (al_cons (fun _ q => nomatch q) (al_r (c := c + 7) rfl e_con (d.app _) (by decide) (by decide) fun r hr h1 d1 g1 => al_nil ?_))))
  refine ⟨_, wk_rng (b := r) (by omega), ?_⟩
  refine al_forRun (N := r) (Inv := fun i ρ h' => ∃ z b, ρ = [some (.ref l), z, some (.ref h.length), some (.int (lastN b)), some (.int (lst2 b))] ∧ h'[h.length]? = some (.lst (b.map pv)) ∧ b.head? = some (0, 0) ∧ Asc b ∧ b.length = i + 1 ∧ lastN b ≤ 2 * i ∧ lst2 b ≤ 3 * i ∧ 0 ≤ lst2 b ∧ Dc l (c + 1 + 2 * (r - i)) h' ∧ Gr l h h') ?_ ?_ r 0 _ _ (by omega) ?_
  · rintro i hi ρ h2 ⟨z, b, rfl, e2, hd, ha, hlen, hx, ht, ht0, d2, g2⟩
    refine ⟨.int i, fix_at (by simp [List.getElem?_range hi]), ?_⟩
    unfold forB
    show Al _ (exSs T (call (n + 1)) 100 _ [some (.ref l), some (.int i), some (.ref h.length), some (.int (lastN b)), some (.int (lst2 b))] h2)
    refine al_ss (al_asgt (al_tup (al_cons (fun _ q => nomatch q) (al_bin (Al.ok (e_addi (e_var rfl) e_con) (al_r (c := c + 1 + 2 * (r - (i + 1)) + 1) rfl e_con (d2.le (by omega)) (by decide) (by decide) fun r1 hr1 h3 d3 g3 => Al.ok rfl ?_))))))
    refine al_cons (fun _ q => nomatch q) (al_bin (Al.ok (e_var rfl) (al_r (c := c + 1 + 2 * (r - (i + 1))) rfl e_con d3 (by decide) (by decide) fun r2 hr2 h4 d4 g4 => Al.ok rfl (al_nil ⟨by simp [sizeLine], _, rfl, ?_⟩))))
    have e4 : h4[h.length]? = some (.lst (b.map pv)) := g4.get (g3.get e2 (Nat.ne_of_gt hlt)) (Nat.ne_of_gt hlt)
    refine al_ss (Al.ok (s_ex (e_app (o := .var 2) (e_var rfl) e4 (e_tup (e_two (e_var rfl) (e_var rfl)) (by simp)) e4 (by simp; omega))) (al_nx ?_))
    have hne : b ≠ [] := by intro e; rw [e] at hlen; simp at hlen
    refine ⟨some (.int i), b ++ [(lastN b + 1 + r1, lst2 b + r2)], ?_, ?_, head_snoc hd, asc_snoc ha (by omega) (by omega) hne, by simp; omega, ?_, ?_, ?_, ?_, ?_⟩
    · rw [lastN_snoc, lst2_snoc]
      rfl
    · rw [List.getElem?_set_self (List.getElem?_eq_some_iff.mp e4).1]
      simp [pv]
    · rw [lastN_snoc]; omega
    · rw [lst2_snoc]; omega
    · rw [lst2_snoc]; omega
    · obtain ⟨b', q1, q2⟩ := d4
      exact ⟨b', by rw [List.getElem?_set_ne (Nat.ne_of_gt hlt)]; exact q1, q2⟩
    · have g5 := (g2.trans g3).trans g4
      exact ⟨by simpa using g5.1, fun m' hm hn => by rw [List.getElem?_set_ne (Nat.ne_of_gt hm)]; exact g5.2 m' hm hn⟩
  · rintro ρ h2 ⟨z, b, rfl, e2, hd, ha, hlen, hx, ht, ht0, d2, g2⟩
    refine ⟨by have := fix_end (xs := (List.range r).map fun (i : Nat) => PV.int i) (h := h2); simpa using this, ?_⟩
    refine al_ss (al_ret (al_tup (al_cons (fun _ q => nomatch q) (Al.ok (e_bi (r := .ok (bv b) h2) (e_one (e_var rfl)) (by simp only [pBi, lstAt, e2]; rfl)) ?_))))
    refine al_cons (fun _ q => nomatch q) (al_bin (Al.ok (e_var rfl) (al_r (c := c) rfl e_con (d2.le (by omega)) (by decide) (by decide) fun r2 hr2 h4 d4 g4 => Al.ok rfl (al_nil ⟨by simp [sizeLine], ?_⟩))))
    refine ⟨⟨b, (lst2 b).toNat + r2, ?_, ?_, ?_, ?_, ?_⟩, d4, g2.trans g4⟩
    · show PV.tup [bv b, .int (lst2 b + r2)] = sv b _
      have e : lst2 b + (r2 : Int) = (((lst2 b).toNat + r2 : Nat) : Int) := by omega
      rw [e]
      rfl
    · have hM : M = 1000000000000 := rfl
      exact good_of hd (by omega) ha (by omega) (by omega) (by omega)
    · omega
    · omega
    · omega
  · exact ⟨none, [(0, 0)], rfl, g1.get get_last (Nat.ne_of_gt hlt), rfl, trivial, rfl, by simp [lastN], by simp [lst2], by simp [lst2], d1.le (by omega), (Gr.app l h _).trans g1⟩
end K56
set_option Elab.async false
set_option linter.all false
set_option maxRecDepth 100000
set_option maxHeartbeats 2000000
namespace K56
open PySem PySem.Spec PyProof.Rows L2 Mn
theorem kin_tail {n l c j m r : Nat} {h h2 : PH} {x : PV} {b : Br} (hj : j ≤ 5) (d : Dc l (c + 1) h2) (g : Gr l h h2) (e : h2[m]? = some (.lst (b.map pv))) (hd : b.head? = some (0, 0)) (a : Asc b) (hl : b.length ≤ 4 + j) (hx : lastN b ≤ 100 * (j + 1)) (ht : lst2 b ≤ r) (hr : r ≤ 25 * j) :
    Al (fun f h' => match f with
      | .nx _ => ((∃ b' q', PV.non = sv b' (q' : Nat) ∧ Drn j b' q') ∧ Dc l c h' ∧ Gr l h h')
      | .rt v => ((∃ b' q', v = sv b' (q' : Nat) ∧ Drn j b' q') ∧ Dc l c h' ∧ Gr l h h')
      | _ => False) (exSs T (call (n + 1)) 100 [.ret (.tup [.bi .tuple [.var 3], .bin .add (.var 2) (.call 16 [.var 0, .con (.int 4)])])] [some (.ref l), some x, some (.int r), some (.ref m), none] h2) := by
  refine al_ss (al_ret (al_tup (al_cons (fun _ q => nomatch q) (Al.ok (e_bi (r := .ok (bv b) h2) (e_one (e_var rfl)) (by simp only [pBi, lstAt, e]; rfl)) ?_))))
  refine al_cons (fun _ q => nomatch q) (al_bin (Al.ok (e_var rfl) (al_r (c := c) rfl e_con d (by decide) (by decide) fun r2 hr2 h4 d4 g4 => Al.ok rfl (al_nil ⟨by simp [sizeLine], ?_⟩))))
  have hM : M = 1000000000000 := rfl
  refine ⟨⟨b, r + r2, ?_, good_of hd (by omega) a (by omega) (by omega) (by omega), hl, hx, by omega⟩, d4, g.trans g4⟩
  have e : (r : Int) + (r2 : Int) = ((r + r2 : Nat) : Int) := by omega
  rw [e]
  rfl
theorem al_kin {n l c j q : Nat} {h : PH} {b : Br} (w : Drn j b q) (hj : j ≤ 4) (d : Dc l (c + 4) h) : Al (fun v h' => (∃ b' q', v = sv b' (q' : Nat) ∧ Drn (j + 1) b' q') ∧ Dc l c h' ∧ Gr l h h') (call (n + 2) 19 [.ref l, sv b q] h) := by
  rw [call_run (d := d__law_kin) rfl rfl]
  refine al_run rfl ?_
  show Al _ (exSs T (call (n + 1)) 100 b__law_kin [some (.ref l), some (sv b q), none, none, none] h)
  have hw := w.place
  have hwl := w.len
  refine al_ss (al_asg (al_r (c := c + 3) (k := q + 1) rfl (e_addi (e_ixT (xs := [bv b, .int q]) (e_var rfl) e_con rfl) e_con) d (by omega) (by omega) fun r hr h1 d1 g1 => ?_))
  show Al _ (exSs T (call (n + 1)) 100 _ [some (.ref l), some (sv b q), some (.int r), none, none] h1)
  refine al_ss (al_asg (Al.ok (e_fl (i := 2) (j := 4) (b := b) (t := r) (e_ixT (xs := [bv b, .int q]) (e_var rfl) e_con rfl) (by omega) rfl (by simp) (by decide)) ?_))
  show Al _ (exSs T (call (n + 1)) 100 _ [some (.ref l), some (sv b q), some (.int r), some (.ref h1.length), none] (h1 ++ [.lst ((fl r b).map pv)]))
  have el : (h1 ++ [PO.lst ((fl (r : Int) b).map pv)])[h1.length]? = some (.lst ((fl r b).map pv)) := get_last
  have hlt := d1.lt
  have d2 := d1.app [PO.lst ((fl (r : Int) b).map pv)]
  have g2 := g1.trans (Gr.app l h1 [PO.lst ((fl (r : Int) b).map pv)])
  generalize h1 ++ [PO.lst ((fl (r : Int) b).map pv)] = h2 at el d2 g2
  generalize h1.length = m at el hlt
  have hf := fl_last (t := (r : Int)) w.good.asc w.good.hd (by omega)
  have hfl : (fl (r : Int) b).length ≤ b.length := List.length_filter_le _ _
  have hnum := w.num
  refine al_ss (al_ite (al_evT (al_cmp (al_r (c := c + 2) rfl e_con d2 (by decide) (by decide) fun s hs h3 d3 g3 => Al.ok e_con (Al.ok c_gt ⟨_, rfl, ?_⟩)))))
  have e3 := g3.get el (Nat.ne_of_gt hlt)
  by_cases hs0 : (0 : Int) < s
  · rw [if_pos (decide_eq_true hs0)]
    obtain ⟨p, rr, hp⟩ : ∃ p rr, fl (r : Int) b = p :: rr := by
      obtain ⟨rr, e⟩ := head_cons (fl_head (t := (r : Int)) w.good.hd (by omega))
      exact ⟨_, rr, e⟩
    have elast : atI ((fl (r : Int) b).map pv) (-1) = some (pv (lastN (fl r b), lst2 (fl r b))) := by
      obtain ⟨z, hz⟩ : ∃ z, (fl (r : Int) b).getLast? = some z := ⟨_, List.getLast?_eq_some_getLast (by rw [hp]; simp)⟩
      refine atI_last ?_
      rw [List.getLast?_map, hz]
      simp [lastN, lst2, hz]
    refine al_ss (al_asg (al_bin (Al.ok (e_var rfl) (al_lst (al_cons (fun _ q => nomatch q) (al_tup (al_cons (fun _ q => nomatch q) (al_bin (Al.ok (e_addi (e_ixT (e_ixL (e_var rfl) (e_neg e_con) e3 elast) e_con rfl) e_con) (al_r (c := c + 1) rfl e_con d3 (by decide) (by decide) fun s2 hs2 h4 d4 g4 => Al.ok rfl ?_))))))))))
    refine al_cons (fun _ q => nomatch q) (Al.ok (e_var rfl) (al_nil ⟨by simp [sizeLine], al_nil ⟨by simp [sizeLine], ?_⟩⟩))
    have e4 := g4.get e3 (Nat.ne_of_gt hlt)
    have hm4 := (List.getElem?_eq_some_iff.mp e4).1
    have e5 : (h4 ++ [PO.lst [PV.tup [.int (lastN (fl r b) + 1 + s2), .int r]]])[m]? = some (.lst ((fl r b).map pv)) := by rw [List.getElem?_append_left hm4]; exact e4
    refine Al.ok (a := .ref (h4.length + 1)) (h := h4 ++ [PO.lst [PV.tup [.int (lastN (fl r b) + 1 + s2), .int r]]] ++ [.lst ((fl r b ++ [(lastN (fl r b) + 1 + s2, (r : Int))]).map pv)]) ?_ (al_nx ?_)
    · simp only [pBin, e5, get_last]
      rw [if_pos (Nat.le_trans (show _ ≤ 100 by simp; omega) (by decide))]
      simp [pv]
    · refine kin_tail (n := n) (j := j + 1) (r := r) (b := fl r b ++ [(lastN (fl r b) + 1 + s2, (r : Int))]) (m := h4.length + 1) (by omega) ((d4.app _).app _) (((g2.trans g3).trans g4).trans ((Gr.app _ _ _).trans (Gr.app _ _ _))) ?_ (head_snoc (fl_head w.good.hd (by omega))) (asc_snoc (asc_fl _ w.good.asc) (by omega) (by omega) (by rw [hp]; simp)) (by simp; omega) (by rw [lastN_snoc]; omega) (by rw [lst2_snoc]; omega) (by omega)
      rw [List.getElem?_append_right (by simp)]
      simp
  · rw [if_neg (by simpa using hs0)]
    exact al_nx (kin_tail (n := n) (j := j + 1) (m := m) (by omega) (d3.le (by omega)) (g2.trans g3) e3 (fl_head w.good.hd (by omega)) (asc_fl _ w.good.asc) (by omega) (by omega) (by omega) (by omega))
end K56
set_option Elab.async false
set_option linter.all false
set_option maxRecDepth 100000
set_option maxHeartbeats 2000000
namespace K56
open PySem PySem.Spec PyProof.Rows L2 Mn
theorem Kd.gr {l b : Nat} {h h' : PH} {v : PV} (k : Kd h v) (d : Dc l b h) (g : Gr l h h') : Kd h' v := by
  induction k with
  | non => exact .non
  | bl b => exact .bl b
  | int i => exact .int i
  | str x => exact .str x
  | tup xs k ih => exact .tup xs ih
  | lst m xs e =>
    refine .lst m xs (g.get e fun q => ?_)
    obtain ⟨b', e', _⟩ := d
    rw [q, e'] at e
    cases e
def Fz (z : PV) : Prop := ∃ ys, z = .tup ys ∧ ∀ y ∈ ys, isI y = true
theorem kd_I {h : PH} {y : PV} (k : isI y = true) : Kd h y := by
  unfold isI at k
  split at k
  · exact .int _
  · exact .bl _
  · cases k
theorem Fz.kd {h : PH} {z : PV} (k : Fz z) : Kd h z := by
  obtain ⟨ys, rfl, k⟩ := k
  exact .tup _ fun y hy => kd_I (k y hy)
theorem Fz.fl {z : PV} (k : Fz z) : Fl1 z := by
  obtain ⟨ys, rfl, k⟩ := k
  intro ys' e
  cases e
  exact k
theorem fz_pv (p : Int × Int) : Fz (pv p) := ⟨_, rfl, by simp [isI]⟩
theorem fz_rows {b : Br} : ∀ z ∈ b.map pv, Fz z := fun z hz => by
  obtain ⟨p, _, rfl⟩ := List.mem_map.mp hz
  exact fz_pv p
def Nv (h : PH) (v : PV) : Prop := Kd h v ∧ Flv v
theorem nv_row {h : PH} {zs : List PV} {y : PV} (hz : ∀ z ∈ zs, Fz z) (hy : Kd h y) : Nv h (.tup [.tup zs, y]) := by
  refine ⟨.tup _ fun x hx => ?_, fun xs y' e => ?_⟩
  · rcases List.mem_cons.mp hx with e | e
    · rw [e]; exact .tup _ fun z hz' => (hz z hz').kd
    · rw [List.mem_singleton.mp e]; exact hy
  · cases e
    exact fun x hx => (hz x hx).fl
theorem mem_cut {α : Type} {xs : List α} {i j : Option Int} {x : α} (h : x ∈ cut xs i j) : x ∈ xs := by
  unfold cut at h
  exact List.mem_of_mem_drop (List.mem_of_mem_take h)
theorem cut_len {α : Type} {xs : List α} {i j : Option Int} : (cut xs i j).length ≤ xs.length := by
  unfold cut
  simp
  omega
theorem nv_sv {h : PH} {b : Br} {q : Int} : Nv h (sv b q) := nv_row fz_rows (.int _)
theorem Nv.gr {l b : Nat} {h h' : PH} {v : PV} (k : Nv h v) (d : Dc l b h) (g : Gr l h h') : Nv h' v := ⟨k.1.gr d g, k.2⟩
theorem e_addT {T : Tb} {cl : Nat → List PV → PH → Res PV} {ρ : PEnv} {h h1 h2 : PH} {a b : Ex} {xs ys : List PV} (ha : evE T cl a ρ h = .ok (.tup xs) h1) (hb : evE T cl b ρ h1 = .ok (.tup ys) h2) (hl : xs.length + ys.length ≤ 1000) : evE T cl (.bin .add a b) ρ h = .ok (.tup (xs ++ ys)) h2 := e_bin ha hb (by simp only [pBin]; rw [if_pos (Nat.le_trans hl (by decide))])
theorem e_addL {T : Tb} {cl : Nat → List PV → PH → Res PV} {ρ : PEnv} {h h1 h2 : PH} {a b : Ex} {l m : Nat} {xs ys : List PV} (ha : evE T cl a ρ h = .ok (.ref l) h1) (hb : evE T cl b ρ h1 = .ok (.ref m) h2) (el : h2[l]? = some (.lst xs)) (em : h2[m]? = some (.lst ys)) (hl : xs.length + ys.length ≤ 1000) : evE T cl (.bin .add a b) ρ h = .ok (.ref h2.length) (h2 ++ [.lst (xs ++ ys)]) := e_bin ha hb (by simp only [pBin, el, em]; rw [if_pos (Nat.le_trans hl (by decide))])
theorem al_one {n l m c : Nat} {h : PH} {xs : List PV} (e : h[m]? = some (.lst xs)) (hx : 0 < xs.length) (hx2 : xs.length < 1000) (d : Dc l (c + 1) h) : Al (fun v h' => v ∈ xs ∧ Dc l c h' ∧ Gr l h h') (call (n + 2) 17 [.ref l, .ref m] h) := by
  have hm : m ≠ l := fun q => by
    obtain ⟨b', e', _⟩ := d
    rw [q, e'] at e
    cases e
  rw [call_run (d := d__law_one_of) rfl rfl]
  refine al_run rfl ?_
  show Al _ (exSs T (call (n + 1)) 100 b__law_one_of [some (.ref l), some (.ref m)] h)
  refine al_ss (al_ret (al_ix (Al.ok (e_var rfl) (al_r (c := c) (k := xs.length) rfl (e_lenL (e_var rfl) e) d (by omega) (by omega) fun r hr h1 d1 g1 => ?_))))
  have e1 := g1.get e hm
  have hr' : r < xs.length := by omega
  refine Al.ok (a := xs[r]) (h := h1) ?_ ⟨List.getElem_mem hr', d1, g1⟩
  simp only [pIx, e1, atI_lt hr']
def L1 (b : Br) (q : Int) (m : Nat) : List PV := [.non, .int 0, .tup [], bv b, .tup [bv b], .tup [bv b, .non], .tup [bv b, .bl true], .tup [.ref m, .int q], .ref (m + 1), .tup [bv b, .int q, .int 0]]
def L2' (b : Br) (q : Int) : List PV := [.tup [.tup [], .int q], .tup [.tup (b.map pv ++ cut (b.map pv) (some (-1)) none), .int q], .tup [.tup (b.map pv ++ [pv (1000000000001, q)]), .int q], .tup [bv b, .str [48]]]
def L3 (b : Br) (q : Int) : List PV := [.tup [.tup (b.map pv ++ [.tup [.int 99, .int q, .int 0]]), .int q], .tup [.tup [pv (0, 0), .tup [.bl true, .int 0]], .int 0], .tup [pv (0, 0), .int 0]]
theorem flv_no {v : PV} (h : ∀ xs y, v ≠ .tup [.tup xs, y]) : Flv v := fun xs y e => absurd e (h xs y)
theorem nv_L1 {b : Br} {q : Int} {m : Nat} {h : PH} (e1 : h[m]? = some (.lst (b.map pv))) (e2 : h[m + 1]? = some (.lst [bv b, .int q])) : ∀ v ∈ L1 b q m, Nv h v := by
  intro v hv
  simp only [L1, List.mem_cons, List.not_mem_nil, or_false] at hv
  rcases hv with rfl | rfl | rfl | rfl | rfl | rfl | rfl | rfl | rfl | rfl
  · exact ⟨.non, flv_no fun _ _ e => nomatch e⟩
  · exact ⟨.int _, flv_no fun _ _ e => nomatch e⟩
  · exact ⟨.tup _ (by simp), flv_no fun _ _ e => nomatch e⟩
  · refine ⟨kd_bv b, fun xs y e => ?_⟩
    unfold bv at e
    injection e with e
    have : ∀ z ∈ b.map pv, Fz z := fz_rows
    rw [e] at this
    obtain ⟨ys, e', k⟩ := this (.tup xs) (by simp)
    injection e' with e'
    subst e'
    intro x hx ys' e''
    subst e''
    exact absurd (k _ hx) (by simp [isI])
  · exact ⟨.tup _ (by simp [kd_bv]), flv_no fun _ _ e => nomatch e⟩
  · exact nv_row fz_rows .non
  · exact nv_row fz_rows (.bl _)
  · refine ⟨.tup _ fun x hx => ?_, flv_no fun _ _ e => nomatch e⟩
    rcases List.mem_cons.mp hx with e | e
    · rw [e]; exact .lst _ _ e1
    · rw [List.mem_singleton.mp e]; exact .int _
  · exact ⟨.lst _ _ e2, flv_no fun _ _ e => nomatch e⟩
  · refine ⟨.tup _ fun x hx => ?_, flv_no fun _ _ e => nomatch e⟩
    simp only [List.mem_cons, List.not_mem_nil, or_false] at hx
    rcases hx with rfl | rfl | rfl
    · exact kd_bv b
    · exact .int _
    · exact .int _
theorem fz_app {xs ys : List PV} (hx : ∀ z ∈ xs, Fz z) (hy : ∀ z ∈ ys, Fz z) : ∀ z ∈ xs ++ ys, Fz z := fun z hz => by
  rcases List.mem_append.mp hz with e | e
  · exact hx z e
  · exact hy z e
theorem nv_L2 {b : Br} {q : Int} {h : PH} : ∀ v ∈ L2' b q, Nv h v := by
  intro v hv
  simp only [L2', List.mem_cons, List.not_mem_nil, or_false] at hv
  rcases hv with rfl | rfl | rfl | rfl
  · exact nv_row (by simp) (.int _)
  · exact nv_row (fz_app fz_rows fun z hz => fz_rows z (mem_cut hz)) (.int _)
  · exact nv_row (fz_app fz_rows fun z hz => by rw [List.mem_singleton.mp hz]; exact fz_pv _) (.int _)
  · exact nv_row fz_rows (.str _)
theorem nv_L3 {b : Br} {q : Int} {h : PH} : ∀ v ∈ L3 b q, Nv h v := by
  intro v hv
  simp only [L3, List.mem_cons, List.not_mem_nil, or_false] at hv
  rcases hv with rfl | rfl | rfl
  · exact nv_row (fz_app fz_rows fun z hz => by rw [List.mem_singleton.mp hz]; exact ⟨_, rfl, by simp [isI]⟩) (.int _)
  · refine nv_row (fun z hz => ?_) (.int _)
    rcases List.mem_cons.mp hz with e | e
    · rw [e]; exact fz_pv _
    · rw [List.mem_singleton.mp e]; exact ⟨_, rfl, by simp [isI]⟩
  · refine ⟨.tup _ fun x hx => ?_, fun xs y e => ?_⟩
    · rcases List.mem_cons.mp hx with e | e
      · rw [e]; exact kd_pv _
      · rw [List.mem_singleton.mp e]; exact .int _
    · cases e
      intro x hx ys e
      subst e
      simp at hx
end K56
set_option Elab.async false
set_option linter.all false
set_option maxRecDepth 100000
set_option maxHeartbeats 2000000
namespace K56
open PySem PySem.Spec PyProof.Rows L2 Mn
theorem al_near {n l c j q : Nat} {h : PH} {b : Br} (w : Drn j b q) (hj : j ≤ 5) (d : Dc l (c + 3) h) : Al (fun v h' => Nv h' v ∧ Dc l c h' ∧ Gr l h h') (call (n + 3) 25 [.ref l, sv b q] h) := by
  rw [call_run (d := d__law_near) rfl rfl]
  refine al_run rfl ?_
  show Al _ (exSs T (call (n + 2)) 100 b__law_near [some (.ref l), some (sv b q), none, none, none, none, none, none, none, none] h)
  have hw := w.place
  have hwl := w.len
  have hlo := w.good.lo
  have f1 : exS T (call (n + 2)) 100 (.asg (.tp [3, 4]) (.var 1)) [some (.ref l), some (sv b q), none, none, none, none, none, none, none, none] h = .ok (.nx [some (.ref l), some (sv b q), none, some (bv b), some (.int q), none, none, none, none, none]) h := s_asgt (e_var rfl) rfl
  refine al_ss (Al.ok f1 ?_)
  refine al_ss (al_asgt (al_tup (al_cons (fun _ q => nomatch q) (al_r (n := n + 1) (c := c + 2) (k := b.length) rfl (by have := e_len (cl := call (n + 2)) (ρ := [some (.ref l), some (sv b q), none, some (bv b), some (.int q), none, none, none, none, none]) (o := .var 3) (h := h) (xs := b.map pv) (e_var rfl); rwa [List.length_map] at this) d (by omega) (by omega) fun at_ hat h1 d1 g1 => ?_))))
  refine al_cons (fun _ q => nomatch q) (al_r (n := n + 1) (c := c + 1) rfl e_con d1 (by decide) (by decide) fun way hway h2 d2 g2 => al_nil ⟨by simp [sizeLine], _, rfl, ?_⟩)
  have g3 := g1.trans g2
  have hat' : at_ < b.length := by omega
  show Al _ (exSs T (call (n + 2)) 100 _ [some (.ref l), some (sv b q), none, some (bv b), some (.int q), some (.int at_), some (.int way), none, none, none] h2)
  have c1 : evE T (call (n + 2)) (.cmp .lt (.var 6) (.con (.int 4))) [some (.ref l), some (sv b q), none, some (bv b), some (.int q), some (.int at_), some (.int way), none, none, none] h2 = .ok (.bl (decide ((way : Int) < 4))) h2 := e_cmp (e_var rfl) e_con c_lt
  have c2 : evE T (call (n + 2)) (.cmp .eq (.var 6) (.con (.int 4))) [some (.ref l), some (sv b q), none, some (bv b), some (.int q), some (.int at_), some (.int way), none, none, none] h2 = .ok (.bl (decide ((way : Int) = 4))) h2 := e_cmp (e_var rfl) e_con c_eqi
  have c3 : evE T (call (n + 2)) (.cmp .eq (.var 6) (.con (.int 5))) [some (.ref l), some (sv b q), none, some (bv b), some (.int q), some (.int at_), some (.int way), none, none, none] h2 = .ok (.bl (decide ((way : Int) = 5))) h2 := e_cmp (e_var rfl) e_con c_eqi
  by_cases hw4 : (way : Int) < 4
  · rw [decide_eq_true hw4] at c1
    have ex : atI (b.map pv) (at_ : Int) = some (pv b[at_]) := atI_nat (by rw [List.getElem?_map, List.getElem?_eq_getElem hat']; rfl)
    have f2 : exS T (call (n + 2)) 100 (.asg (.tp [8, 9]) (.ix (.var 3) (.var 5))) [some (.ref l), some (sv b q), none, some (bv b), some (.int q), some (.int at_), some (.int way), none, none, none] h2 = .ok (.nx [some (.ref l), some (sv b q), none, some (bv b), some (.int q), some (.int at_), some (.int way), none, some (.int b[at_].1), some (.int b[at_].2)]) h2 := s_asgt (e_ixT (e_var rfl) (e_var rfl) ex) rfl
    obtain ⟨p, h4, gg, e4⟩ : ∃ (p : Int × Int) (h4 : PH), (∃ g, h4 = h2 ++ g) ∧ evE T (call (n + 2)) (.ix (.lst [.tup [.bin .add (.var 8) (.con (.int 1)), .var 9], .tup [.var 8, .bin .add (.var 9) (.con (.int 1))], .tup [.bin .sub (.var 8) (.con (.int 1)), .con (.int 0)], .tup [.var 4, .var 4]]) (.var 6)) [some (.ref l), some (sv b q), none, some (bv b), some (.int q), some (.int at_), some (.int way), none, some (.int b[at_].1), some (.int b[at_].2)] h2 = .ok (pv p) h4 := by
      have k1 : evE T (call (n + 2)) (.lst [.tup [.bin .add (.var 8) (.con (.int 1)), .var 9], .tup [.var 8, .bin .add (.var 9) (.con (.int 1))], .tup [.bin .sub (.var 8) (.con (.int 1)), .con (.int 0)], .tup [.var 4, .var 4]]) [some (.ref l), some (sv b q), none, some (bv b), some (.int q), some (.int at_), some (.int way), none, some (.int b[at_].1), some (.int b[at_].2)] h2 = .ok (.ref h2.length) (h2 ++ [.lst ([(b[at_].1 + 1, b[at_].2), (b[at_].1, b[at_].2 + 1), (b[at_].1 - 1, 0), ((q : Int), (q : Int))].map pv)]) := by
        refine e_lst (e_cons (e_tup (e_two (e_addi (e_var rfl) e_con) (e_var rfl)) (by simp)) (e_cons (e_tup (e_two (e_var rfl) (e_addi (e_var rfl) e_con)) (by simp)) (e_cons (e_tup (e_two (e_subi (e_var rfl) e_con) e_con) (by simp)) (e_one (e_tup (e_two (e_var rfl) (e_var rfl)) (by simp)))))) (by simp)
      have hw4' : way < [(b[at_].1 + 1, b[at_].2), (b[at_].1, b[at_].2 + 1), (b[at_].1 - 1, 0), ((q : Int), (q : Int))].length := by simp; omega
      refine ⟨[(b[at_].1 + 1, b[at_].2), (b[at_].1, b[at_].2 + 1), (b[at_].1 - 1, 0), ((q : Int), (q : Int))][way], _, ⟨_, rfl⟩, e_ixL k1 (e_var rfl) get_last (atI_nat ?_)⟩
      rw [List.getElem?_map, List.getElem?_eq_getElem hw4']
      rfl
    obtain ⟨g, rfl⟩ := gg
    have k9 : evE T (call (n + 2)) (.tup [.bin .add (.bin .add (.sl (.var 3) .nop (.var 5)) (.tup [.var 7])) (.sl (.var 3) (.bin .add (.var 5) (.con (.int 1))) .nop), .var 4]) [some (.ref l), some (sv b q), none, some (bv b), some (.int q), some (.int at_), some (.int way), some (pv p), some (.int b[at_].1), some (.int b[at_].2)] (h2 ++ g) = .ok (.tup [.tup (cut (b.map pv) none (some (at_ : Int)) ++ [pv p] ++ cut (b.map pv) (some ((at_ : Int) + 1)) none), .int q]) (h2 ++ g) := by
      have n1 := cut_len (xs := b.map pv) (i := none) (j := some (at_ : Int))
      have n2 := cut_len (xs := b.map pv) (i := some ((at_ : Int) + 1)) (j := none)
      rw [List.length_map] at n1 n2
      exact e_tup (e_two (e_addT (e_addT (e_slU (fun _ _ => rfl) (e_var rfl) (e_var rfl)) (e_tup (vs := [pv p]) (e_one (e_var rfl)) (by simp)) (by simp; omega)) (e_slF (fun _ _ => rfl) (e_var rfl) (e_addi (e_var rfl) e_con)) (by simp; omega)) (e_var rfl)) (by simp)
    refine al_yes c1 (al_ss (Al.ok f2 (al_ss (Al.ok (s_asg e4) (al_ss (al_ret (Al.ok k9 ?_)))))))
    exact ⟨nv_row (fz_app (fz_app (fun z hz => fz_rows z (mem_cut hz)) fun z hz => by rw [List.mem_singleton.mp hz]; exact fz_pv _) fun z hz => fz_rows z (mem_cut hz)) (.int _), (d2.le (by omega)).app _, g3.trans (Gr.app _ _ _)⟩
  · rw [decide_eq_false hw4] at c1
    refine al_no c1 ?_
    by_cases hw5 : (way : Int) = 4
    · rw [decide_eq_true hw5] at c2
      refine al_yes c2 (al_ss (al_ret (Al.ok (e_tup (e_two (e_slF (fun _ _ => rfl) (e_var rfl) (e_var rfl)) (e_var rfl)) (by simp)) ?_)))
      exact ⟨nv_row (fun z hz => fz_rows z (mem_cut hz)) (.int _), d2.le (by omega), g3⟩
    · rw [decide_eq_false hw5] at c2
      refine al_no c2 ?_
      by_cases hw6 : (way : Int) = 5
      · rw [decide_eq_true hw6] at c3
        refine al_yes c3 (al_ss (al_ret (Al.ok (e_tup (e_two (e_var rfl) (e_subi (e_var rfl) e_con)) (by simp)) ?_)))
        exact ⟨nv_row fz_rows (.int _), d2.le (by omega), g3⟩
      · rw [decide_eq_false hw6] at c3
        refine al_no c3 ?_
        have x1 : evE T (call (n + 2)) (.lst [.con .non, .con (.int 0), .tup [], .var 3, .tup [.var 3], .tup [.var 3, .con .non], .tup [.var 3, .con (.bl true)], .tup [.bi .list [.var 3], .var 4], .bi .list [.var 1], .bin .add (.var 1) (.tup [.con (.int 0)])]) [some (.ref l), some (sv b q), none, some (bv b), some (.int q), some (.int at_), some (.int way), none, none, none] h2 = .ok (.ref (h2.length + 2)) (h2 ++ [.lst (b.map pv)] ++ [.lst [bv b, .int q]] ++ [.lst (L1 b q h2.length)]) := by
          have y1 : evE T (call (n + 2)) (.bi .list [.var 3]) [some (.ref l), some (sv b q), none, some (bv b), some (.int q), some (.int at_), some (.int way), none, none, none] h2 = .ok (.ref h2.length) (h2 ++ [.lst (b.map pv)]) := e_bi (e_one (e_var rfl)) rfl
          have y2 : evE T (call (n + 2)) (.bi .list [.var 1]) [some (.ref l), some (sv b q), none, some (bv b), some (.int q), some (.int at_), some (.int way), none, none, none] (h2 ++ [.lst (b.map pv)]) = .ok (.ref (h2.length + 1)) (h2 ++ [.lst (b.map pv)] ++ [.lst [bv b, .int q]]) := by
            have k : pBi T .list [sv b q] (h2 ++ [.lst (b.map pv)]) = .ok (.ref (h2 ++ [PO.lst (b.map pv)]).length) (h2 ++ [.lst (b.map pv)] ++ [.lst [bv b, .int q]]) := rfl
            rw [List.length_append] at k
            exact e_bi (e_one (e_var rfl)) k
          have y3 : evE T (call (n + 2)) (.bin .add (.var 1) (.tup [.con (.int 0)])) [some (.ref l), some (sv b q), none, some (bv b), some (.int q), some (.int at_), some (.int way), none, none, none] (h2 ++ [.lst (b.map pv)] ++ [.lst [bv b, .int q]]) = .ok (.tup [bv b, .int q, .int 0]) (h2 ++ [.lst (b.map pv)] ++ [.lst [bv b, .int q]]) := e_addT (xs := [bv b, .int q]) (ys := [.int 0]) (e_var rfl) (e_tup (e_one e_con) (by simp)) (by simp)
          have y4 : evE T (call (n + 2)) (.lst [.con .non, .con (.int 0), .tup [], .var 3, .tup [.var 3], .tup [.var 3, .con .non], .tup [.var 3, .con (.bl true)], .tup [.bi .list [.var 3], .var 4], .bi .list [.var 1], .bin .add (.var 1) (.tup [.con (.int 0)])]) [some (.ref l), some (sv b q), none, some (bv b), some (.int q), some (.int at_), some (.int way), none, none, none] h2 = .ok (.ref (h2 ++ [PO.lst (b.map pv)] ++ [PO.lst [bv b, .int q]]).length) (h2 ++ [.lst (b.map pv)] ++ [.lst [bv b, .int q]] ++ [.lst (L1 b q h2.length)]) := e_lst (vs := L1 b q h2.length) (e_cons e_con (e_cons e_con (e_cons (e_tup (vs := []) e_nil (by simp)) (e_cons (e_var rfl) (e_cons (e_tup (vs := [bv b]) (e_one (e_var rfl)) (by simp)) (e_cons (e_tup (vs := [bv b, .non]) (e_two (e_var rfl) e_con) (by simp)) (e_cons (e_tup (vs := [bv b, .bl true]) (e_two (e_var rfl) e_con) (by simp)) (e_cons (e_tup (vs := [.ref h2.length, .int q]) (e_two y1 (e_var rfl)) (by simp)) (e_cons y2 (e_one y3)))))))))) (by simp [L1])
          rw [y4]
          simp
        generalize hH1 : h2 ++ [PO.lst (b.map pv)] ++ [.lst [bv b, .int q]] ++ [.lst (L1 b q h2.length)] = h5 at x1
        have i1 : h5[h2.length]? = some (.lst (b.map pv)) := by rw [← hH1]; simp
        have i2 : h5[h2.length + 1]? = some (.lst [bv b, .int q]) := by rw [← hH1, List.append_assoc, List.append_assoc, List.getElem?_append_right (by omega)]; simp
        have i3 : h5[h2.length + 2]? = some (.lst (L1 b q h2.length)) := by rw [← hH1, List.append_assoc, List.append_assoc, List.getElem?_append_right (by omega)]; simp
        have gg1 : Gr l h2 h5 := by rw [← hH1, List.append_assoc, List.append_assoc]; exact Gr.app _ _ _
        have dd1 : Dc l (c + 1) h5 := by rw [← hH1, List.append_assoc, List.append_assoc]; exact d2.app _
        refine al_ss (Al.ok (s_asg x1) ?_)
        show Al _ (exSs T (call (n + 2)) 100 _ [some (.ref l), some (sv b q), some (.ref (h2.length + 2)), some (bv b), some (.int q), some (.int at_), some (.int way), none, none, none] h5)
        have ap : ∀ (h : PH) (o : PO) (m : Nat) (o' : PO), h[m]? = some o' → (h ++ [o])[m]? = some o' := fun h o m o' e => by rw [List.getElem?_append_left (List.getElem?_eq_some_iff.mp e).1]; exact e
        have x2 : evE T (call (n + 2)) (.bin .add (.var 2) (.lst [.tup [.tup [], .var 4], .tup [.bin .add (.var 3) (.sl (.var 3) (.neg (.con (.int 1))) .nop), .var 4], .tup [.bin .add (.var 3) (.tup [.tup [.bin .add (.bin .pow (.con (.int 10)) (.con (.int 12))) (.con (.int 1)), .var 4]]), .var 4], .tup [.var 3, .con (.str [48])]])) [some (.ref l), some (sv b q), some (.ref (h2.length + 2)), some (bv b), some (.int q), some (.int at_), some (.int way), none, none, none] h5 = .ok (.ref (h5.length + 1)) (h5 ++ [.lst (L2' b q)] ++ [.lst (L1 b q h2.length ++ L2' b q)]) := by
          have hc := cut_len (xs := b.map pv) (i := some (-1)) (j := none)
          rw [List.length_map] at hc
          have y1 : evE T (call (n + 2)) (.lst [.tup [.tup [], .var 4], .tup [.bin .add (.var 3) (.sl (.var 3) (.neg (.con (.int 1))) .nop), .var 4], .tup [.bin .add (.var 3) (.tup [.tup [.bin .add (.bin .pow (.con (.int 10)) (.con (.int 12))) (.con (.int 1)), .var 4]]), .var 4], .tup [.var 3, .con (.str [48])]]) [some (.ref l), some (sv b q), some (.ref (h2.length + 2)), some (bv b), some (.int q), some (.int at_), some (.int way), none, none, none] h5 = .ok (.ref h5.length) (h5 ++ [.lst (L2' b q)]) := by
            refine e_lst (e_cons (e_tup (e_two (e_tup e_nil (by simp)) (e_var rfl)) (by simp)) (e_cons (e_tup (e_two (e_addT (xs := b.map pv) (e_var rfl) (e_slF (xs := b.map pv) (i := -1) (fun _ _ => rfl) (e_var rfl) (e_neg e_con)) (by simp; omega)) (e_var rfl)) (by simp)) (e_cons (e_tup (e_two (e_addT (xs := b.map pv) (ys := [pv (1000000000001, q)]) (e_var rfl) (e_tup (e_one (e_tup (e_two (e_addi (x := 1000000000000) (e_bin e_con e_con rfl) e_con) (e_var rfl)) (by simp))) (by simp)) (by simp; omega)) (e_var rfl)) (by simp)) (e_one (e_tup (e_two (e_var rfl) e_con) (by simp)))))) (by simp [L2'])
          have y2 := e_addL (e_var (T := T) (cl := call (n + 2)) (i := 2) (h := h5) (ρ := [some (.ref l), some (sv b q), some (.ref (h2.length + 2)), some (bv b), some (.int q), some (.int at_), some (.int way), none, none, none]) rfl) y1 (ap _ _ _ _ i3) get_last (by simp [L1, L2'])
          rw [y2]
          simp
        generalize hH2 : h5 ++ [PO.lst (L2' b q)] ++ [.lst (L1 b q h2.length ++ L2' b q)] = h6 at x2
        have j1 : h6[h2.length]? = some (.lst (b.map pv)) := by rw [← hH2]; exact ap _ _ _ _ (ap _ _ _ _ i1)
        have j2 : h6[h2.length + 1]? = some (.lst [bv b, .int q]) := by rw [← hH2]; exact ap _ _ _ _ (ap _ _ _ _ i2)
        have j3 : h6[h5.length + 1]? = some (.lst (L1 b q h2.length ++ L2' b q)) := by rw [← hH2, List.append_assoc, List.getElem?_append_right (by omega)]; simp
        have gg2 : Gr l h5 h6 := by rw [← hH2, List.append_assoc]; exact Gr.app _ _ _
        have dd2 : Dc l (c + 1) h6 := by rw [← hH2, List.append_assoc]; exact dd1.app _
        refine al_ss (Al.ok (s_asg x2) ?_)
        show Al _ (exSs T (call (n + 2)) 100 _ [some (.ref l), some (sv b q), some (.ref (h5.length + 1)), some (bv b), some (.int q), some (.int at_), some (.int way), none, none, none] h6)
        have x3 : evE T (call (n + 2)) (.bin .add (.var 2) (.lst [.tup [.bin .add (.var 3) (.tup [.tup [.con (.int 99), .var 4, .con (.int 0)]]), .var 4], .tup [.tup [.tup [.con (.int 0), .con (.int 0)], .tup [.con (.bl true), .con (.int 0)]], .con (.int 0)], .tup [.tup [.con (.int 0), .con (.int 0)], .con (.int 0)]])) [some (.ref l), some (sv b q), some (.ref (h5.length + 1)), some (bv b), some (.int q), some (.int at_), some (.int way), none, none, none] h6 = .ok (.ref (h6.length + 1)) (h6 ++ [.lst (L3 b q)] ++ [.lst (L1 b q h2.length ++ L2' b q ++ L3 b q)]) := by
          have y1 : evE T (call (n + 2)) (.lst [.tup [.bin .add (.var 3) (.tup [.tup [.con (.int 99), .var 4, .con (.int 0)]]), .var 4], .tup [.tup [.tup [.con (.int 0), .con (.int 0)], .tup [.con (.bl true), .con (.int 0)]], .con (.int 0)], .tup [.tup [.con (.int 0), .con (.int 0)], .con (.int 0)]]) [some (.ref l), some (sv b q), some (.ref (h5.length + 1)), some (bv b), some (.int q), some (.int at_), some (.int way), none, none, none] h6 = .ok (.ref h6.length) (h6 ++ [.lst (L3 b q)]) := by
            refine e_lst (e_cons (e_tup (e_two (e_addT (xs := b.map pv) (e_var rfl) (e_tup (e_one (e_tup (e_cons e_con (e_two (e_var rfl) e_con)) (by simp))) (by simp)) (by simp; omega)) (e_var rfl)) (by simp)) (e_cons (e_tup (e_two (e_tup (e_two (e_tup (e_two e_con e_con) (by simp)) (e_tup (e_two e_con e_con) (by simp))) (by simp)) e_con) (by simp)) (e_one (e_tup (e_two (e_tup (e_two e_con e_con) (by simp)) e_con) (by simp))))) (by simp [L3])
          have y2 := e_addL (e_var (T := T) (cl := call (n + 2)) (i := 2) (h := h6) (ρ := [some (.ref l), some (sv b q), some (.ref (h5.length + 1)), some (bv b), some (.int q), some (.int at_), some (.int way), none, none, none]) rfl) y1 (ap _ _ _ _ j3) get_last (by simp [L1, L2', L3])
          rw [y2]
          simp
        generalize hH3 : h6 ++ [PO.lst (L3 b q)] ++ [.lst (L1 b q h2.length ++ L2' b q ++ L3 b q)] = h7 at x3
        have k1 : h7[h2.length]? = some (.lst (b.map pv)) := by rw [← hH3]; exact ap _ _ _ _ (ap _ _ _ _ j1)
        have k2 : h7[h2.length + 1]? = some (.lst [bv b, .int q]) := by rw [← hH3]; exact ap _ _ _ _ (ap _ _ _ _ j2)
        have k3 : h7[h6.length + 1]? = some (.lst (L1 b q h2.length ++ L2' b q ++ L3 b q)) := by rw [← hH3, List.append_assoc, List.getElem?_append_right (by omega)]; simp
        have gg3 : Gr l h6 h7 := by rw [← hH3, List.append_assoc]; exact Gr.app _ _ _
        have dd3 : Dc l (c + 1) h7 := by rw [← hH3, List.append_assoc]; exact dd2.app _
        refine al_ss (al_ret (al_call rfl (Al.ok (e_two (e_var rfl) x3) ((al_one (n := n) k3 (by simp [L1]) (by simp [L1, L2', L3]) dd3).imp fun v h8 ⟨hv, d8, g8⟩ => ?_))))
        refine ⟨Nv.gr (l := l) ?_ dd3 g8, d8, (((g3.trans gg1).trans gg2).trans gg3).trans g8⟩
        rcases List.mem_append.mp hv with e | e
        · rcases List.mem_append.mp e with e | e
          · exact nv_L1 k1 k2 v e
          · exact nv_L2 v e
        · exact nv_L3 v e
end K56
set_option Elab.async false
set_option linter.all false
set_option maxRecDepth 100000
set_option maxHeartbeats 2000000
namespace K56
open PySem PySem.Spec PyProof.Rows L2 Mn
abbrev fr (l : Nat) (v1 v2 v3 z4 z5 z6 z7 z8 z9 : Option PV) : PEnv := [some (.ref l), v1, v2, v3, z4, z5, z6, z7, z8, z9, none, none]
theorem jw_ok (x y : Bool) : PyData.strOk ⟨(jw x y).toArray⟩ = true := by cases x <;> cases y <;> decide +kernel
theorem datum_w {h : PH} {x : List Nat} {s : Int} (hx : PyData.strOk ⟨x.toArray⟩ = true) : datum h (.tup [.str x, .int s]) = some (.tuple [.str ⟨x.toArray⟩, .int s]) := by
  refine datum_pure rfl ?_
  unfold SeqAt.shaped
  simp [PyData.canLay0, PyData.canLayAll0, PyData.depth, PyData.depthAll, hx]
theorem c_new {h : PH} {x : List Nat} {s : Int} (hx : PyData.strOk ⟨x.toArray⟩ = true) : pCmp .ne (.tup [.str x, .int s]) (.tup [.str x, .int s]) h = .ok (.bl false) h := by
  have : pEq h (.tup [.str x, .int s]) (.tup [.str x, .int s]) = some true := by
    unfold pEq
    rw [datum_w hx]
    simp [PyData.eqv, PyData.eqvAll]
  simp only [pCmp, this, ob, Option.map_some]
  rfl
def rb (t : Bool) : List Nat := if t then [84, 114, 117, 101] else [70, 97, 108, 115, 101]
theorem c_rb {h : PH} (t : Bool) : pCmp .ne (.str (rb t)) (.str (rb t)) h = .ok (.bl false) h := by
  have hx : PyData.strOk ⟨(rb t).toArray⟩ = true := by cases t <;> decide +kernel
  simp only [pCmp, pEq_ss hx hx, ob, Option.map_some, decide_true]
  rfl
theorem e_repr {T : Tb} {cl : Nat → List PV → PH → Res PV} {ρ : PEnv} {h h1 : PH} {o : Ex} {t : Bool} (ho : evE T cl o ρ h = .ok (.bl t) h1) (hn : ∀ x, o ≠ .star x := by intro x q; cases q) : evE T cl (.bi .repr [o]) ρ h = .ok (.str (rb t)) h1 := e_bi (e_one ho hn) rfl
theorem c_nes {h : PH} {b : Br} {q : Int} : pCmp .ne (sv b q) (sv b q) h = .ok (.bl false) h := by
  simp only [pCmp, pEq_s, ob, Option.map_some, and_self, decide_true]
  rfl
theorem e_last {T : Tb} {cl : Nat → List PV → PH → Res PV} {ρ : PEnv} {h : PH} {i : Nat} {b : Br} {q : Int} (g : Good b q) (e : ρ[i]? = some (some (sv b q))) : evE T cl (.tup [.ix (.ix (.ix (.var i) (.con (.int 0))) (.neg (.con (.int 1)))) (.con (.int 0)), .ix (.var i) (.con (.int 1))]) ρ h = .ok (pv (lastN b, q)) h :=
  e_tup (e_two (e_ixT (e_ixT (e_ixT (xs := [bv b, .int q]) (e_var e) e_con rfl) (e_neg e_con) g.end) e_con rfl) (e_ixT (xs := [bv b, .int q]) (e_var e) e_con rfl)) (by simp)
def body5 : List Sm := [.ite (.or (.cmp .ne (.call 6 [.var 7, .var 8]) (.call 21 [.var 7, .var 8])) (.cmp .ne (.call 7 [.var 7, .var 8]) (.call 22 [.var 7, .var 8]))) [.ret (.con (.bl false))] [], .asg (.nm 9) (.cmp .gt (.tup [.ix (.ix (.ix (.var 7) (.con (.int 0))) (.neg (.con (.int 1)))) (.con (.int 0)), .ix (.var 7) (.con (.int 1))]) (.tup [.ix (.ix (.ix (.var 8) (.con (.int 0))) (.neg (.con (.int 1)))) (.con (.int 0)), .ix (.var 8) (.con (.int 1))])), .ite (.cmp .ne (.bi .repr [.call 8 [.var 7, .var 8]]) (.bi .repr [.var 9])) [.ret (.con (.bl false))] []]
theorem e_body5 {n l p q : Nat} {v1 v2 v3 z4 z5 z6 z9 : Option PV} {a b : Br} {h : PH} (ga : Good a p) (gb : Good b q) (hp : p ≤ 90) (hq : q ≤ 90) : ∃ g, exSs T (call (n + 7)) 100 body5 (fr l v1 v2 v3 z4 z5 z6 (some (sv a p)) (some (sv b q)) z9) h = .ok (.nx (fr l v1 v2 v3 z4 z5 z6 (some (sv a p)) (some (sv b q)) (some (.bl (later a p b q))))) (h ++ g) := by
  obtain ⟨g1, k1⟩ := e_shared_place (n := n + 1) (h := h) ga gb
  obtain ⟨g2, k2⟩ := e_law_shared (n := n + 5) (h := h ++ g1) ga gb hp hq
  obtain ⟨g3, k3⟩ := e_judged (n := n) (h := h ++ g1 ++ g2) ga gb
  obtain ⟨g4, k4⟩ := e_law_judged (n := n + 4) (h := h ++ g1 ++ g2 ++ g3) ga gb hp hq
  obtain ⟨g5, k5⟩ := e_is_later (n := n + 1) (h := h ++ g1 ++ g2 ++ g3 ++ g4) ga gb
  refine ⟨g1 ++ g2 ++ g3 ++ g4 ++ g5, ?_⟩
  have vs : ∀ h', evEs T (call (n + 7)) [.var 7, .var 8] (fr l v1 v2 v3 z4 z5 z6 (some (sv a p)) (some (sv b q)) z9) h' = .ok [sv a p, sv b q] h' := fun h' => e_two (e_var rfl) (e_var rfl)
  have vs' : ∀ h', evEs T (call (n + 7)) [.var 7, .var 8] (fr l v1 v2 v3 z4 z5 z6 (some (sv a p)) (some (sv b q)) (some (.bl (later a p b q)))) h' = .ok [sv a p, sv b q] h' := fun h' => e_two (e_var rfl) (e_var rfl)
  have c1 : evE T (call (n + 7)) (.or (.cmp .ne (.call 6 [.var 7, .var 8]) (.call 21 [.var 7, .var 8])) (.cmp .ne (.call 7 [.var 7, .var 8]) (.call 22 [.var 7, .var 8]))) (fr l v1 v2 v3 z4 z5 z6 (some (sv a p)) (some (sv b q)) z9) h = .ok (.bl false) (h ++ g1 ++ g2 ++ g3 ++ g4) :=
    e_orF (e_cmp (e_call rfl (vs _) k1) (e_call rfl (vs _) k2) (c_neF rfl)) (e_cmp (e_call rfl (vs _) k3) (e_call rfl (vs _) k4) (c_new (jw_ok _ _)))
  have c2 : evE T (call (n + 7)) (.cmp .gt (.tup [.ix (.ix (.ix (.var 7) (.con (.int 0))) (.neg (.con (.int 1)))) (.con (.int 0)), .ix (.var 7) (.con (.int 1))]) (.tup [.ix (.ix (.ix (.var 8) (.con (.int 0))) (.neg (.con (.int 1)))) (.con (.int 0)), .ix (.var 8) (.con (.int 1))])) (fr l v1 v2 v3 z4 z5 z6 (some (sv a p)) (some (sv b q)) z9) (h ++ g1 ++ g2 ++ g3 ++ g4) = .ok (.bl (later a p b q)) (h ++ g1 ++ g2 ++ g3 ++ g4) :=
    e_cmp (e_last ga rfl) (e_last gb rfl) c_gtp
  have c3 : evE T (call (n + 7)) (.cmp .ne (.bi .repr [.call 8 [.var 7, .var 8]]) (.bi .repr [.var 9])) (fr l v1 v2 v3 z4 z5 z6 (some (sv a p)) (some (sv b q)) (some (.bl (later a p b q)))) (h ++ g1 ++ g2 ++ g3 ++ g4) = .ok (.bl false) (h ++ g1 ++ g2 ++ g3 ++ g4 ++ g5) :=
    e_cmp (e_repr (e_call rfl (vs' _) k5)) (e_repr (e_var rfl)) (c_rb _)
  rw [show h ++ (g1 ++ g2 ++ g3 ++ g4 ++ g5) = h ++ g1 ++ g2 ++ g3 ++ g4 ++ g5 by simp only [List.append_assoc]]
  exact st_no c1 (st_nx (s_asg c2) (st_no c3 s_nil))
theorem fl_le {s t : Int} (b : Br) (h : s ≤ t) : fl s (fl t b) = fl s b := by
  unfold fl
  rw [List.filter_filter]
  refine List.filter_congr fun p _ => ?_
  by_cases c : p.2 ≤ s
  · rw [decide_eq_true c, decide_eq_true (Int.le_trans c h)]; rfl
  · rw [decide_eq_false c]; rfl
theorem sh_kept {b : Br} {q t : Int} (g : Good b q) (ht : 0 ≤ t ∧ t ≤ q) : sh b q (fl t b) t = t := by
  have gf := fl_good g ht
  have k1 := sh_lt (t := t) g gf
  have k2 := sh_lt (t := sh b q (fl t b) t) g gf
  have n1 : ¬ t < sh b q (fl t b) t := fun h => by have := (k1.mp h).1.2; omega
  have n2 : ¬ sh b q (fl t b) t < t := fun h => by
    have := k2.mpr ⟨⟨by omega, h⟩, by rw [fl_le b (by omega)]⟩
    omega
  omega
theorem sh_kept' {b : Br} {q t : Int} (g : Good b q) (ht : 0 ≤ t ∧ t ≤ q) : sh (fl t b) t b q = t := by
  have gf := fl_good g ht
  have k1 := sh_lt (t := t) gf g
  have k2 := sh_lt (t := sh (fl t b) t b q) gf g
  have n1 : ¬ t < sh (fl t b) t b q := fun h => by have := (k1.mp h).1.1; omega
  have n2 : ¬ sh (fl t b) t b q < t := fun h => by
    have := k2.mpr ⟨⟨h, by omega⟩, by rw [fl_le b (by omega)]⟩
    omega
  omega
def rest5 : List Sm := [.asg (.nm 5) (.call 5 [.var 1, .var 4]), .ite (.or (.cmp .ne (.var 5) (.tup [.bi .tuple [.lc (.var 11) [11] (.nm 11) .seq [.ix (.var 1) (.con (.int 0))] [.cmp .le (.ix (.var 11) (.con (.int 1))) (.var 4)]], .var 4])) (.cmp .ne (.call 6 [.var 1, .var 5]) (.var 4))) [.ret (.con (.bl false))] [], .ite (.or (.cmp .ne (.call 7 [.var 5, .var 1]) (.tup [.ife (.cmp .eq (.var 4) (.ix (.var 1) (.con (.int 1)))) (.con (.str [97, 108, 105, 107, 101])) (.con (.str [98, 101, 104, 105, 110, 100])), .var 4])) (.not (.call 4 [.var 5]))) [.ret (.con (.bl false))] []]
theorem ss_app {T : Tb} {cl : Nat → List PV → PH → Res PV} {W : Nat} : ∀ {a r : List Sm} {ρ ρ1 : PEnv} {h h1 : PH} {z : Res Fl}, exSs T cl W a ρ h = .ok (.nx ρ1) h1 → exSs T cl W r ρ1 h1 = z → exSs T cl W (a ++ r) ρ h = z
  | [], r, ρ, ρ1, h, h1, z, e, k => by
    simp only [exSs, Res.ok.injEq, Fl.nx.injEq] at e
    obtain ⟨rfl, rfl⟩ := e
    exact k
  | s :: a, r, ρ, ρ1, h, h1, z, e, k => by
    simp only [List.cons_append, exSs] at e ⊢
    cases q : exS T cl W s ρ h with
    | ok f h2 =>
      rw [q, Res.bind_ok] at e
      rw [Res.bind_ok]
      cases f with
      | nx ρ2 => exact ss_app e k
      | _ => cases e
    | all n k' =>
      rw [q] at e
      cases e
    | stuck =>
      rw [q] at e
      cases e
    | _ =>
      rw [q] at e
      cases e
end K56
set_option Elab.async false
set_option linter.all false
set_option maxRecDepth 100000
set_option maxHeartbeats 2000000
namespace K56
open PySem PySem.Spec PyProof.Rows L2 Mn
theorem jd_kept {t q : Int} : jd t q t = .tup [.str (if decide (t = q) then [97, 108, 105, 107, 101] else [98, 101, 104, 105, 110, 100]), .int t] := by
  unfold jd jw
  by_cases e : t = q
  · simp [e]
  · have e' : ¬ q = t := fun x => e x.symm
    simp [e, e']
theorem e_rest5 {n l q t : Nat} {v2 v3 z5 z6 z7 z8 z9 : Option PV} {b : Br} {h : PH} (g : Good b q) (ht : t ≤ q) : ∃ g', exSs T (call (n + 7)) 100 rest5 (fr l (some (sv b q)) v2 v3 (some (.int t)) z5 z6 z7 z8 z9) h = .ok (.nx (fr l (some (sv b q)) v2 v3 (some (.int t)) (some (sv (fl t b) t)) z6 z7 z8 z9)) (h ++ g') := by
  have ht' : (0 : Int) ≤ t ∧ (t : Int) ≤ q := by omega
  have gf := fl_good g ht'
  obtain ⟨g1, k1⟩ := e_cut (n := n + 1) (h := h) g ht'
  obtain ⟨g2, k2⟩ := e_shared_place (n := n + 1) (h := h ++ g1 ++ [.lst ((fl t b).map pv)]) g gf
  rw [sh_kept g ht'] at k2
  obtain ⟨g3, k3⟩ := e_judged (n := n) (h := h ++ g1 ++ [.lst ((fl t b).map pv)] ++ g2) gf g
  rw [sh_kept' g ht', jd_kept] at k3
  obtain ⟨g4, k4⟩ := e_is_stand (n := n + 3) (kd_sv (h := h ++ g1 ++ [.lst ((fl t b).map pv)] ++ g2 ++ g3) (fl t b) t)
  rw [gf.st] at k4
  refine ⟨g1 ++ [.lst ((fl t b).map pv)] ++ g2 ++ g3 ++ g4, ?_⟩
  rw [show h ++ (g1 ++ [.lst ((fl t b).map pv)] ++ g2 ++ g3 ++ g4) = h ++ g1 ++ [.lst ((fl t b).map pv)] ++ g2 ++ g3 ++ g4 by simp only [List.append_assoc]]
  have c1 : evE T (call (n + 7)) (.or (.cmp .ne (.var 5) (.tup [.bi .tuple [.lc (.var 11) [11] (.nm 11) .seq [.ix (.var 1) (.con (.int 0))] [.cmp .le (.ix (.var 11) (.con (.int 1))) (.var 4)]], .var 4])) (.cmp .ne (.call 6 [.var 1, .var 5]) (.var 4))) (fr l (some (sv b q)) v2 v3 (some (.int t)) (some (sv (fl t b) t)) z6 z7 z8 z9) (h ++ g1) = .ok (.bl false) (h ++ g1 ++ [.lst ((fl t b).map pv)] ++ g2) := by
    have x1 : evE T (call (n + 7)) (.bi .tuple [.lc (.var 11) [11] (.nm 11) .seq [.ix (.var 1) (.con (.int 0))] [.cmp .le (.ix (.var 11) (.con (.int 1))) (.var 4)]]) (fr l (some (sv b q)) v2 v3 (some (.int t)) (some (sv (fl t b) t)) z6 z7 z8 z9) (h ++ g1) = .ok (bv (fl t b)) (h ++ g1 ++ [.lst ((fl t b).map pv)]) := by
      refine e_bi (e_one (e_fl (i := 4) (j := 11) (b := b) (t := t) (e_ixT (xs := [bv b, .int q]) (e_var rfl) e_con rfl) (by have := g.hi; omega) rfl (by simp) (by decide))) ?_
      simp only [pBi, lst_last]
      rfl
    exact e_orF (e_cmp (e_var rfl) (e_tup (vs := [bv (fl t b), .int t]) (e_two x1 (e_var rfl)) (by simp)) c_nes) (e_cmp (e_call rfl (e_two (e_var rfl) (e_var rfl)) k2) (e_var rfl) (c_neF rfl))
  have c2 : evE T (call (n + 7)) (.or (.cmp .ne (.call 7 [.var 5, .var 1]) (.tup [.ife (.cmp .eq (.var 4) (.ix (.var 1) (.con (.int 1)))) (.con (.str [97, 108, 105, 107, 101])) (.con (.str [98, 101, 104, 105, 110, 100])), .var 4])) (.not (.call 4 [.var 5]))) (fr l (some (sv b q)) v2 v3 (some (.int t)) (some (sv (fl t b) t)) z6 z7 z8 z9) (h ++ g1 ++ [.lst ((fl t b).map pv)] ++ g2) = .ok (.bl false) (h ++ g1 ++ [.lst ((fl t b).map pv)] ++ g2 ++ g3 ++ g4) := by
    have x1 : evE T (call (n + 7)) (.ife (.cmp .eq (.var 4) (.ix (.var 1) (.con (.int 1)))) (.con (.str [97, 108, 105, 107, 101])) (.con (.str [98, 101, 104, 105, 110, 100]))) (fr l (some (sv b q)) v2 v3 (some (.int t)) (some (sv (fl t b) t)) z6 z7 z8 z9) (h ++ g1 ++ [.lst ((fl t b).map pv)] ++ g2 ++ g3) = .ok (.str (if decide ((t : Int) = q) then [97, 108, 105, 107, 101] else [98, 101, 104, 105, 110, 100])) (h ++ g1 ++ [.lst ((fl t b).map pv)] ++ g2 ++ g3) := by
      refine e_ife (e_cmp (e_var rfl) (e_ixT (xs := [bv b, .int q]) (e_var rfl) e_con rfl) c_eqi) (fun hy => ?_) (fun hy => ?_)
      · rw [hy, if_pos rfl]; exact e_con
      · rw [hy]; exact e_con
    refine e_orF (e_cmp (e_call rfl (e_two (e_var rfl) (e_var rfl)) k3) (e_tup (e_two x1 (e_var rfl)) (by simp)) (c_new ?_)) (e_not (e_call rfl (e_one (e_var rfl)) k4))
    cases decide ((t : Int) = q) <;> decide +kernel
  exact st_nx (ρ1 := fr l (some (sv b q)) v2 v3 (some (.int t)) (some (sv (fl t b) t)) z6 z7 z8 z9) (s_asg (e_call rfl (e_two (e_var rfl) (e_var rfl)) k1)) (st_no c1 (st_no c2 s_nil))
theorem Kd.setl {h : PH} {m : Nat} {xs ys : List PV} {v : PV} (k : Kd h v) (e : h[m]? = some (.lst xs)) : Kd (h.set m (.lst ys)) v := by
  induction k with
  | non => exact .non
  | bl b => exact .bl b
  | int i => exact .int i
  | str x => exact .str x
  | tup xs k ih => exact .tup xs ih
  | lst l zs q =>
    by_cases c : m = l
    · exact .lst l ys (by rw [← c, List.getElem?_set_self (List.getElem?_eq_some_iff.mp e).1])
    · exact .lst l zs (by rw [List.getElem?_set_ne c]; exact q)
theorem lc_near {body : PV → PH → Res (Option PV)} {w : Wk} {N l : Nat} {item : Nat → PV} {h0 : PH} {P : PV → PH → Prop} (hN : N ≤ 1000) (hl : l < h0.length)
    (hi : ∀ i < N, ∀ h', wkAt h' i w = some (some (item i))) (he : ∀ h', wkAt h' N w = some none)
    (hb : ∀ i < N, ∀ b h', Dc l (b + 3) h' → Gr l h0 h' → Al (fun y h2 => (∃ v, y = some v ∧ Nv h2 v) ∧ Dc l b h2 ∧ Gr l h' h2) (body (item i) h')) :
    ∀ m i b h' acc, i + m = N → h'[h0.length]? = some (.lst acc) → acc.length = i → (∀ v ∈ acc, Nv h' v) → Dc l (b + 3 * m) h' → Gr l h0 h' →
      (∀ h2 ys, h2[h0.length]? = some (.lst ys) → ys.length = N → (∀ v ∈ ys, Nv h2 v) → Dc l b h2 → Gr l h0 h2 → P (.ref h0.length) h2) → Al P (lcRun body w h0.length (m + 1) i h') := fun m => by
  induction m with
  | zero =>
    intro i b h' acc hi' ea hl2 hc d g k
    have : i = N := by omega
    subst this
    unfold lcRun
    rw [he]
    exact Al.ok rfl (k h' acc ea hl2 hc d g)
  | succ m ih =>
    intro i b h' acc hi' ea hl2 hc d g k
    unfold lcRun
    rw [hi i (by omega)]
    refine Al.bind ((hb i (by omega) (b + 3 * m) h' d g).imp fun y h2 ⟨⟨v, ey, cv⟩, d2, g2⟩ => ?_)
    subst ey
    have e2 : h2[h0.length]? = some (.lst acc) := g2.get ea (Nat.ne_of_gt hl)
    have hs : acc.length < sizeLine := Nat.lt_of_lt_of_le (show acc.length < 1001 by omega) (by decide)
    have hlt : h0.length < h2.length := (List.getElem?_eq_some_iff.mp e2).1
    simp only [e2]
    rw [if_pos hs]
    refine ih (i + 1) b _ (acc ++ [v]) (by omega) ?_ (by simp [hl2]) (fun u hu => ?_) ?_ ?_ k
    · rw [List.getElem?_set_self hlt]
    · have : Nv h2 u := by
        rcases List.mem_append.mp hu with hu | hu
        · exact (hc u hu).gr d g2
        · rw [List.mem_singleton.mp hu]; exact cv
      exact ⟨this.1.setl e2, this.2⟩
    · obtain ⟨b', q1, q2⟩ := d2
      exact ⟨b', by rw [List.getElem?_set_ne (Nat.ne_of_gt hl)]; exact q1, q2⟩
    · have g3 := g.trans g2
      exact ⟨by simpa using g3.1, fun m' hm hn => by rw [List.getElem?_set_ne (Nat.ne_of_gt hm)]; exact g3.2 m' hm hn⟩
theorem e_judge_value {n l : Nat} {v : PV} {v1 v2 v3 z4 z5 z7 z8 z9 : Option PV} {h : PH} (k : Nv h v) : ∃ g, exSs T (call (n + 7)) 100 [.ite (.cmp .ne (.bi .repr [.call 4 [.var 6]]) (.bi .repr [.call 23 [.var 6]])) [.ret (.con (.bl false))] []] (fr l v1 v2 v3 z4 z5 (some v) z7 z8 z9) h = .ok (.nx (fr l v1 v2 v3 z4 z5 (some v) z7 z8 z9)) (h ++ g) := by
  obtain ⟨g1, k1⟩ := e_is_stand (n := n + 3) k.1
  obtain ⟨g2, k2⟩ := e_law_is_stand (n := n + 5) (k.1.app g1) k.2
  refine ⟨g1 ++ g2, ?_⟩
  rw [← List.append_assoc]
  exact st_no (e_cmp (e_repr (e_call rfl (e_one (e_var rfl)) k1)) (e_repr (e_call rfl (e_one (e_var rfl)) k2)) (c_rb _)) s_nil
end K56
set_option Elab.async false
set_option linter.all false
set_option maxRecDepth 100000
set_option maxHeartbeats 2000000
namespace K56
open PySem PySem.Spec PyProof.Rows L2 Mn
theorem Drn.up {j k q : Nat} {b : Br} (w : Drn j b q) (h : j ≤ k) : Drn k b q := ⟨w.good, by have := w.len; omega, by have := w.num; omega, by have := w.place; omega⟩
theorem al_lcB0 {T : Tb} {cl : Nat → List PV → PH → Res PV} {e : Ex} {own : List Nat} {t : Tg} {ρ ρ1 : PEnv} {x : PV} {h : PH} {P : Option PV → PH → Prop} (hb : bindTg t x (own.foldr (fun i r => r.set i none) ρ) = some ρ1) (k : Al (fun y h1 => P (some y) h1) (evE T cl e ρ1 h)) : Al P (lcB T cl e own t [] ρ x h) := by
  unfold lcB
  rw [hb]
  simp only [evIf, Res.bind_ok, if_true]
  exact Al.noer (Al.bind (k.imp fun y h1 q => .ret q))
def pr2 (a : Br) (p : Nat) (b : Br) (q : Nat) : PV := .tup [sv a p, sv b q]
def loop6 : List Sm := [.ite (.cmp .ne (.bi .repr [.call 4 [.var 6]]) (.bi .repr [.call 23 [.var 6]])) [.ret (.con (.bl false))] []]
theorem al_pairs {n l c : Nat} {b1 b2 b3 : Br} {q1 q2 q3 : Nat} {z4 z5 z6 z7 z8 z9 : Option PV} {h : PH} {P : Fl → PH → Prop} (w1 : Drn 2 b1 q1) (w2 : Drn 2 b2 q2) (w3 : Drn 2 b3 q3) (d : Dc l c h)
    (k : ∀ z7 z8 z9 h', Dc l c h' → Gr l h h' → P (.nx (fr l (some (sv b1 q1)) (some (sv b2 q2)) (some (sv b3 q3)) z4 z5 z6 z7 z8 z9)) h') :
    Al P (exS T (call (n + 7)) 100 (.for_ (.tp [7, 8]) .seq [.tup [.tup [.var 1, .var 2], .tup [.var 2, .var 1], .tup [.var 1, .var 3], .tup [.var 3, .var 2], .tup [.var 1, .var 1]]] body5) (fr l (some (sv b1 q1)) (some (sv b2 q2)) (some (sv b3 q3)) z4 z5 z6 z7 z8 z9) h) := by
  have g1 := w1.good
  have g2 := w2.good
  have g3 := w3.good
  have p1 := w1.place
  have p2 := w2.place
  have p3 := w3.place
  have hv : evI T (call (n + 7)) .seq [.tup [.tup [.var 1, .var 2], .tup [.var 2, .var 1], .tup [.var 1, .var 3], .tup [.var 3, .var 2], .tup [.var 1, .var 1]]] (fr l (some (sv b1 q1)) (some (sv b2 q2)) (some (sv b3 q3)) z4 z5 z6 z7 z8 z9) h = .ok (.fix [pr2 b1 q1 b2 q2, pr2 b2 q2 b1 q1, pr2 b1 q1 b3 q3, pr2 b3 q3 b2 q2, pr2 b1 q1 b1 q1], 5) h :=
    evI_row (xs := [pr2 b1 q1 b2 q2, pr2 b2 q2 b1 q1, pr2 b1 q1 b3 q3, pr2 b3 q3 b2 q2, pr2 b1 q1 b1 q1]) (e_tup (e_cons (e_tup (e_two (e_var rfl) (e_var rfl)) (by simp)) (e_cons (e_tup (e_two (e_var rfl) (e_var rfl)) (by simp)) (e_cons (e_tup (e_two (e_var rfl) (e_var rfl)) (by simp)) (e_two (e_tup (e_two (e_var rfl) (e_var rfl)) (by simp)) (e_tup (e_two (e_var rfl) (e_var rfl)) (by simp)))))) (by simp))
  have one : ∀ (a b : Br) (p q : Nat) (z7 z8 z9 : Option PV) (h' : PH), Good a p → Good b q → p ≤ 90 → q ≤ 90 → Dc l c h' → Gr l h h' →
      Al (fun f h1 => match f with
        | .nx ρ1 => ∃ z7 z8 z9, ρ1 = fr l (some (sv b1 q1)) (some (sv b2 q2)) (some (sv b3 q3)) z4 z5 z6 z7 z8 z9 ∧ Dc l c h1 ∧ Gr l h h1
        | .ct ρ1 => ∃ z7 z8 z9, ρ1 = fr l (some (sv b1 q1)) (some (sv b2 q2)) (some (sv b3 q3)) z4 z5 z6 z7 z8 z9 ∧ Dc l c h1 ∧ Gr l h h1
        | .bk ρ1 => P (.nx ρ1) h1
        | .rt v => P (.rt v) h1) (forB T (call (n + 7)) 100 (.tp [7, 8]) body5 (pr2 a p b q) (fr l (some (sv b1 q1)) (some (sv b2 q2)) (some (sv b3 q3)) z4 z5 z6 z7 z8 z9) h') := by
    intro a b p q z7 z8 z9 h' ga gb hp hq d' g'
    obtain ⟨g, e⟩ := e_body5 (n := n) (l := l) (v1 := some (sv b1 q1)) (v2 := some (sv b2 q2)) (v3 := some (sv b3 q3)) (z4 := z4) (z5 := z5) (z6 := z6) (z9 := z9) (h := h') ga gb hp hq
    exact Al.ok e ⟨_, _, _, rfl, d'.app _, g'.trans (Gr.app _ _ _)⟩
  refine al_for (Inv := fun _ ρ h' => ∃ z7 z8 z9, ρ = fr l (some (sv b1 q1)) (some (sv b2 q2)) (some (sv b3 q3)) z4 z5 z6 z7 z8 z9 ∧ Dc l c h' ∧ Gr l h h') hv ?_ ?_ ⟨_, _, _, rfl, d, Gr.refl _ _⟩
  · rintro i hi ρ h' ⟨z7, z8, z9, rfl, d', g'⟩
    match i, hi with
    | 0, _ => exact ⟨_, rfl, one b1 b2 q1 q2 z7 z8 z9 h' g1 g2 (by omega) (by omega) d' g'⟩
    | 1, _ => exact ⟨_, rfl, one b2 b1 q2 q1 z7 z8 z9 h' g2 g1 (by omega) (by omega) d' g'⟩
    | 2, _ => exact ⟨_, rfl, one b1 b3 q1 q3 z7 z8 z9 h' g1 g3 (by omega) (by omega) d' g'⟩
    | 3, _ => exact ⟨_, rfl, one b3 b2 q3 q2 z7 z8 z9 h' g3 g2 (by omega) (by omega) d' g'⟩
    | 4, _ => exact ⟨_, rfl, one b1 b1 q1 q1 z7 z8 z9 h' g1 g1 (by omega) (by omega) d' g'⟩
  · rintro ρ h' ⟨z7, z8, z9, rfl, d', g'⟩
    exact ⟨rfl, k z7 z8 z9 h' d' g'⟩
theorem al_nears {n l c q : Nat} {b : Br} {v2 v3 z4 z5 z6 z7 z8 z9 : Option PV} {h : PH} {P : PV → PH → Prop} (w : Drn 2 b q) (d : Dc l (c + 24) h) (k : ∀ h2 ys, h2[h.length]? = some (.lst ys) → ys.length = 8 → (∀ v ∈ ys, Nv h2 v) → Dc l c h2 → Gr l h h2 → P (.ref h.length) h2) :
    Al P (evE T (call (n + 7)) (.lc (.call 25 [.var 0, .var 1]) [10] (.nm 10) .rng [.con (.int 8)] []) (fr l (some (sv b q)) v2 v3 z4 z5 z6 z7 z8 z9) h) := by
  refine al_lc (Al.ok (e_one e_con) ⟨_, wk_rng (b := 8) (by decide), ?_⟩)
  have hb : ∀ i < 8, ∀ b' h', Dc l (b' + 3) h' → Gr l h h' → Al (fun y h2 => (∃ v, y = some v ∧ Nv h2 v) ∧ Dc l b' h2 ∧ Gr l h' h2) (lcB T (call (n + 7)) (.call 25 [.var 0, .var 1]) [10] (.nm 10) [] (fr l (some (sv b q)) v2 v3 z4 z5 z6 z7 z8 z9) (.int (i : Nat)) h') := fun i hi b' h' d' g' => by
    refine al_lcB0 (ρ1 := [some (.ref l), some (sv b q), v2, v3, z4, z5, z6, z7, z8, z9, some (.int i), none]) rfl ?_
    exact al_call rfl (Al.ok (e_two (e_var rfl) (e_var rfl)) ((al_near (n := n + 4) w (by decide) d').imp fun v h2 ⟨nv, d2, g2⟩ => ⟨⟨v, rfl, nv⟩, d2, g2⟩))
  have d' : Dc l (c + 3 * 8) (h ++ [PO.lst []]) := by
    rw [show c + 3 * 8 = c + 24 from rfl]
    exact d.app _
  have hi' : ∀ i < 8, ∀ h', wkAt h' i (.fix ((List.range 8).map fun (i : Nat) => PV.int i)) = some (some ((fun i : Nat => PV.int i) i)) := fun i hi h' => fix_at (by simp [hi])
  have he' : ∀ h', wkAt h' 8 (.fix ((List.range 8).map fun (i : Nat) => PV.int i)) = some none := fun h' => by simpa using fix_end (xs := (List.range 8).map fun (i : Nat) => PV.int i) (h := h')
  have key := lc_near (P := P) (N := 8) (l := l) (item := fun i => .int i) (h0 := h) (by decide) d.lt hi' he' hb 8 0 c (h ++ [.lst []]) [] rfl get_last rfl (by simp) d' (Gr.app _ _ _) k
  exact key
theorem al_values {n l c : Nat} {b1 b2 b3 : Br} {q1 q2 q3 : Nat} {z4 z5 z6 z7 z8 z9 : Option PV} {h : PH} {P : Fl → PH → Prop} (w1 : Drn 2 b1 q1) (w2 : Drn 2 b2 q2) (w3 : Drn 2 b3 q3) (d : Dc l (c + 24) h)
    (k : ∀ z6 h', Dc l c h' → Gr l h h' → P (.nx (fr l (some (sv b1 q1)) (some (sv b2 q2)) (some (sv b3 q3)) z4 z5 z6 z7 z8 z9)) h') :
    Al P (exS T (call (n + 7)) 100 (.for_ (.nm 6) .seq [.bin .add (.lst [.var 1, .var 2, .var 3]) (.lc (.call 25 [.var 0, .var 1]) [10] (.nm 10) .rng [.con (.int 8)] [])] loop6) (fr l (some (sv b1 q1)) (some (sv b2 q2)) (some (sv b3 q3)) z4 z5 z6 z7 z8 z9) h) := by
  have hll := d.lt
  refine al_for2 (al_evI (al_cons (fun _ q => nomatch q) (al_bin (Al.ok (e_lst (vs := [sv b1 q1, sv b2 q2, sv b3 q3]) (e_cons (e_var rfl) (e_two (e_var rfl) (e_var rfl))) (by simp)) ?_))))
  have d1 := d.app [PO.lst [sv b1 q1, sv b2 q2, sv b3 q3]]
  have g1 : Gr l h (h ++ [PO.lst [sv b1 q1, sv b2 q2, sv b3 q3]]) := Gr.app _ _ _
  have e1 : (h ++ [PO.lst [sv b1 q1, sv b2 q2, sv b3 q3]])[h.length]? = some (.lst [sv b1 q1, sv b2 q2, sv b3 q3]) := get_last
  have n1 : ∀ v ∈ [sv b1 q1, sv b2 q2, sv b3 q3], Nv (h ++ [PO.lst [sv b1 q1, sv b2 q2, sv b3 q3]]) v := fun v hv => by
    simp only [List.mem_cons, List.not_mem_nil, or_false] at hv
    rcases hv with rfl | rfl | rfl <;> exact nv_sv
  generalize h ++ [PO.lst [sv b1 q1, sv b2 q2, sv b3 q3]] = h1 at d1 g1 e1 n1
  refine al_nears w1 d1 fun h2 ys e2 hys nys d2 g2 => ?_
  have hm : h.length ≠ l := Nat.ne_of_gt hll
  have e3 := g2.get e1 hm
  refine Al.ok (a := .ref h2.length) (h := h2 ++ [.lst ([sv b1 q1, sv b2 q2, sv b3 q3] ++ ys)]) ?_ (al_nil ⟨(.lst h2.length, ([sv b1 q1, sv b2 q2, sv b3 q3] ++ ys).length), by simp only [wkOf, lst_last, Option.map_some], ?_⟩)
  · simp only [pBin, e3, e2]
    rw [if_pos (Nat.le_trans (show _ ≤ 100 by simp; omega) (by decide))]
  · have n3 : ∀ v ∈ [sv b1 q1, sv b2 q2, sv b3 q3] ++ ys, Nv (h2 ++ [PO.lst ([sv b1 q1, sv b2 q2, sv b3 q3] ++ ys)]) v := fun v hv => by
      rcases List.mem_append.mp hv with hv | hv
      · have := (n1 v hv).gr d1 g2
        exact ⟨this.1.app _, this.2⟩
      · exact ⟨(nys v hv).1.app _, (nys v hv).2⟩
    have e4 : (h2 ++ [PO.lst ([sv b1 q1, sv b2 q2, sv b3 q3] ++ ys)])[h2.length]? = some (.lst ([sv b1 q1, sv b2 q2, sv b3 q3] ++ ys)) := get_last
    have d4 := d2.app [PO.lst ([sv b1 q1, sv b2 q2, sv b3 q3] ++ ys)]
    have g4 : Gr l h (h2 ++ [PO.lst ([sv b1 q1, sv b2 q2, sv b3 q3] ++ ys)]) := (g1.trans g2).trans (Gr.app _ _ _)
    have hl2 : h2.length ≠ l := Nat.ne_of_gt (Nat.lt_of_lt_of_le hll (g1.trans g2).1)
    generalize [sv b1 q1, sv b2 q2, sv b3 q3] ++ ys = zs at n3 e4 d4 g4
    generalize hL : h2.length = L at e4 hl2
    generalize h2 ++ [PO.lst zs] = h4 at n3 e4 d4 g4
    refine al_forRun (N := zs.length) (Inv := fun i ρ h' => ∃ z6, ρ = fr l (some (sv b1 q1)) (some (sv b2 q2)) (some (sv b3 q3)) z4 z5 z6 z7 z8 z9 ∧ h'[L]? = some (.lst zs) ∧ (∀ v ∈ zs, Nv h' v) ∧ Dc l c h' ∧ Gr l h h') ?_ ?_ zs.length 0 _ _ (by omega) ⟨z6, rfl, e4, n3, d4, g4⟩
    · rintro i hi ρ h' ⟨z6, rfl, e5, n5, d5, g5⟩
      refine ⟨zs[i], by simp only [wkAt, lstAt, e5, Option.map_some, List.getElem?_eq_getElem hi], ?_⟩
      obtain ⟨g, e6⟩ := e_judge_value (n := n) (l := l) (v1 := some (sv b1 q1)) (v2 := some (sv b2 q2)) (v3 := some (sv b3 q3)) (z4 := z4) (z5 := z5) (z7 := z7) (z8 := z8) (z9 := z9) (n5 _ (List.getElem_mem hi))
      exact Al.ok e6 ⟨_, rfl, by rw [List.getElem?_append_left (List.getElem?_eq_some_iff.mp e5).1]; exact e5, fun v hv => ⟨(n5 v hv).1.app _, (n5 v hv).2⟩, d5.app _, g5.trans (Gr.app _ _ _)⟩
    · rintro ρ h' ⟨z6, rfl, e5, n5, d5, g5⟩
      exact ⟨by simp only [wkAt, lstAt, e5, Option.map_some, List.getElem?_eq_none (Nat.le_refl _)], k z6 h' d5 g5⟩
end K56
set_option Elab.async false
set_option linter.all false
set_option maxRecDepth 100000
set_option maxHeartbeats 2000000
namespace K56
open PySem PySem.Spec PyProof.Rows L2 Mn
theorem al_app {T : Tb} {cl : Nat → List PV → PH → Res PV} {W : Nat} {a r : List Sm} {ρ ρ1 : PEnv} {h h1 : PH} {P : Fl → PH → Prop} (e : exSs T cl W a ρ h = .ok (.nx ρ1) h1) (k : Al P (exSs T cl W r ρ1 h1)) : Al P (exSs T cl W (a ++ r) ρ h) := by
  have := ss_app (r := r) e rfl
  rw [this]
  exact k
def tail5 : List Sm := .for_ (.tp [7, 8]) .seq [.tup [.tup [.var 1, .var 2], .tup [.var 2, .var 1], .tup [.var 1, .var 3], .tup [.var 3, .var 2], .tup [.var 1, .var 1]]] body5 :: .asg (.nm 4) (.call 16 [.var 0, .bin .add (.ix (.var 1) (.con (.int 1))) (.con (.int 1))]) :: (rest5 ++ [.for_ (.nm 6) .seq [.bin .add (.lst [.var 1, .var 2, .var 3]) (.lc (.call 25 [.var 0, .var 1]) [10] (.nm 10) .rng [.con (.int 8)] [])] loop6, .ret (.con (.bl true))])
theorem al_tail {n l c : Nat} {b1 b2 b3 : Br} {q1 q2 q3 : Nat} {h0 h : PH} (w1 : Drn 2 b1 q1) (w2 : Drn 2 b2 q2) (w3 : Drn 2 b3 q3) (d : Dc l (c + 25) h) (g : Gr l h0 h) :
    Al (fun f h' => match f with
      | .nx _ => (PV.non = .bl true ∧ Dc l c h' ∧ Gr l h0 h')
      | .rt v => (v = .bl true ∧ Dc l c h' ∧ Gr l h0 h')
      | _ => False) (exSs T (call (n + 7)) 100 tail5 (fr l (some (sv b1 q1)) (some (sv b2 q2)) (some (sv b3 q3)) none none none none none none) h) := by
  unfold tail5
  refine al_ss (al_pairs w1 w2 w3 d fun z7 z8 z9 h1 d1 g1 => ?_)
  refine al_ss (al_asg (al_r (n := n + 6) (c := c + 24) (k := q1 + 1) rfl (e_addi (e_ixT (xs := [bv b1, .int q1]) (e_var rfl) e_con rfl) e_con) d1 (by omega) (by have := w1.place; omega) fun t ht h2 d2 g2 => ?_))
  show Al _ (exSs T (call (n + 7)) 100 _ (fr l (some (sv b1 q1)) (some (sv b2 q2)) (some (sv b3 q3)) (some (.int t)) none none z7 z8 z9) h2)
  obtain ⟨gg, e⟩ := e_rest5 (n := n) (l := l) (t := t) (v2 := some (sv b2 q2)) (v3 := some (sv b3 q3)) (z5 := none) (z6 := none) (z7 := z7) (z8 := z8) (z9 := z9) (h := h2) w1.good (by omega)
  refine al_app e ?_
  refine al_ss (al_values w1 w2 w3 (d2.app _) fun z6 h3 d3 g3 => ?_)
  exact al_ss (al_ret (Al.ok e_con ⟨rfl, d3, ((g.trans g1).trans g2).trans ((Gr.app _ _ _).trans g3)⟩))
theorem al_right {n l c : Nat} {h : PH} (d : Dc l (c + 46) h) : Al (fun v h' => v = .bl true ∧ Dc l c h' ∧ Gr l h h') (call (n + 8) 26 [.ref l] h) := by
  rw [call_run (d := d__law_right) rfl rfl]
  refine al_run rfl ?_
  show Al _ (exSs T (call (n + 7)) 100 (.asg (.nm 1) (.call 18 [.var 0]) :: .asg (.nm 2) (.call 19 [.var 0, .var 1]) :: .asg (.nm 3) (.ife (.cmp .eq (.call 16 [.var 0, .con (.int 2)]) (.con (.int 0))) (.call 19 [.var 0, .var 2]) (.call 18 [.var 0])) :: tail5) (fr l none none none none none none none none none) h)
  refine al_ss (al_asg (al_call rfl (Al.ok (e_one (e_var rfl)) ((al_stand (n := n + 5) (c := c + 38) d).imp fun v h1 ⟨⟨b1, q1, ev, w1⟩, d1, g1⟩ => ?_))))
  subst ev
  show Al _ (exSs T (call (n + 7)) 100 _ (fr l (some (sv b1 q1)) none none none none none none none none) h1)
  refine al_ss (al_asg (al_call rfl (Al.ok (e_two (e_var rfl) (e_var rfl)) ((al_kin (n := n + 5) (c := c + 34) w1 (by decide) d1).imp fun v h2 ⟨⟨b2, q2, ev, w2⟩, d2, g2⟩ => ?_))))
  subst ev
  show Al _ (exSs T (call (n + 7)) 100 _ (fr l (some (sv b1 q1)) (some (sv b2 q2)) none none none none none none none) h2)
  refine al_ss (al_asg (al_ife (al_cmp (al_r (n := n + 6) (c := c + 33) rfl e_con d2 (by decide) (by decide) fun r hr h3 d3 g3 => Al.ok e_con (Al.ok c_eqi ⟨_, rfl, ?_⟩)))))
  have g4 := (g1.trans g2).trans g3
  by_cases hr0 : (r : Int) = 0
  · rw [if_pos (decide_eq_true hr0)]
    refine al_call rfl (Al.ok (e_two (e_var rfl) (e_var rfl)) ((al_kin (n := n + 5) (c := c + 29) w2 (by decide) d3).imp fun v h4 ⟨⟨b3, q3, ev, w3⟩, d4, g5⟩ => ?_))
    subst ev
    exact al_tail (w1.up (by decide)) (w2.up (by decide)) w3 (d4.le (by omega)) (g4.trans g5)
  · rw [if_neg (by simpa using hr0)]
    refine al_call rfl (Al.ok (e_one (e_var rfl)) ((al_stand (n := n + 5) (c := c + 25) d3).imp fun v h4 ⟨⟨b3, q3, ev, w3⟩, d4, g5⟩ => ?_))
    subst ev
    exact al_tail (w1.up (by decide)) (w2.up (by decide)) (w3.up (by decide)) (d4.le (by omega)) (g4.trans g5)
abbrev lf (ns : List Int) (z1 z2 z3 z4 z5 z6 : Option PV) : PEnv := [some (.frk (ns.map .int)), z1, z2, z3, z4, z5, z6]
theorem min_max (k : Nat) : ∃ N : Nat, N ≤ 5 ∧ (if (if (k : Int) < 5 then (k : Int) else 5) > 1 then (if (k : Int) < 5 then (k : Int) else 5) else 1) = (N : Int) := by
  by_cases h1 : (k : Int) < 5
  · rw [if_pos h1]
    by_cases h2 : (k : Int) > 1
    · exact ⟨k, by omega, if_pos h2⟩
    · exact ⟨1, by omega, if_neg h2⟩
  · rw [if_neg h1]
    exact ⟨5, by omega, rfl⟩
theorem law_len {n : Nat} {ns : List Int} (hn : ns.length ≤ 63) : ∃ N : Nat, N ≤ 5 ∧ ∀ ρ h, ρ[0]? = some (some (.frk (ns.map .int))) → evEs T (call n) [.bi .max [.con (.int 1), .bi .min [.con (.int 5), .bi .len [.var 0]]]] ρ h = .ok [.int N] h := by
  obtain ⟨N, hN, e⟩ := min_max ns.length
  refine ⟨N, hN, fun ρ h h0 => e_one (e_bi (e_two e_con (e_bi (e_two e_con (e_bi (e_one (e_var h0)) rfl)) rfl)) ?_)⟩
  simp only [pBi, List.length_map]
  rw [e]
def turn2 : List Sm := [.ite (.not (.call 26 [.var 3])) [.ret (.con (.bl false))] []]
theorem al_turns {n l : Nat} {ns : List Int} {z1 z2 z4 z5 z6 : Option PV} {h : PH} {P : Fl → PH → Prop} (d : Dc l 92 h) (k : ∀ z4 h', P (.nx (lf ns z1 z2 (some (.ref l)) z4 z5 z6)) h') :
    Al P (exS T (call (n + 8)) 100 (.for_ (.nm 4) .rng [.con (.int 2)] turn2) (lf ns z1 z2 (some (.ref l)) z4 z5 z6) h) := by
  refine al_for (N := 2) (Inv := fun i ρ h' => (∃ z4, ρ = lf ns z1 z2 (some (.ref l)) z4 z5 z6) ∧ Dc l (46 * (2 - i)) h') (evI_rng (b := 2) (e_one e_con) (by decide)) ?_ ?_ ⟨⟨_, rfl⟩, d⟩
  · rintro i hi ρ h' ⟨⟨z4, rfl⟩, d'⟩
    refine ⟨.int i, fix_at (by simp [hi]), ?_⟩
    unfold forB
    show Al _ (exSs T (call (n + 8)) 100 turn2 (lf ns z1 z2 (some (.ref l)) (some (.int i)) z5 z6) h')
    refine al_ss (al_ite (al_evT (al_not (al_call rfl (Al.ok (e_one (e_var rfl)) ((al_right (n := n) (c := 46 * (2 - (i + 1))) (d'.le (by omega))).imp fun v h2 ⟨ev, d2, g2⟩ => ?_))))))
    subst ev
    exact ⟨true, rfl, false, rfl, al_nx (al_nx ⟨⟨_, rfl⟩, d2⟩)⟩
  · rintro ρ h' ⟨⟨z4, rfl⟩, d'⟩
    exact ⟨by simpa using fix_end (xs := (List.range 2).map fun (i : Nat) => PV.int i) (h := h'), k z4 h'⟩
end K56
set_option Elab.async false
set_option linter.all false
set_option maxRecDepth 100000
set_option maxHeartbeats 2000000
namespace K56
open PySem PySem.Spec PyProof.Rows L2 Mn
abbrev bA : Br := [(0, 0), (1, 5)]
abbrev bB : Br := [(0, 0)]
theorem gA : Good bA (8 : Int) := good_of rfl (by decide) ⟨⟨by decide, by decide⟩, trivial⟩ (by decide) (by decide) (by decide)
theorem gB : Good bB (9 : Int) := good_of rfl (by decide) trivial (by decide) (by decide) (by decide)
theorem gC : Good bB (4 : Int) := good_of rfl (by decide) trivial (by decide) (by decide) (by decide)
def told : List PV := [.tup [.str [112, 97, 114, 116, 101, 100], .int 5], .tup [.str [97, 104, 101, 97, 100], .int 4], .bl true, sv bB 4, sv bA 5]
def toldD : List PyData := [.tuple [.str ⟨([112, 97, 114, 116, 101, 100] : List Nat).toArray⟩, .int 5], .tuple [.str ⟨([97, 104, 101, 97, 100] : List Nat).toArray⟩, .int 4], .bool true, .tuple [.tuple (bB.map dp), .int 4], .tuple [.tuple (bA.map dp), .int 5]]
theorem toD_told (de : Nat → Option PyData) : toDs de told = some toldD := rfl
theorem datum_told {h : PH} {l : Nat} (e : h[l]? = some (.lst told)) : datum h (.ref l) = some (.list toldD) := by
  have q : toD (deref h 8) (.ref l) = some (.list toldD) := by
    show deref h 8 l = _
    unfold deref
    rw [e]
    simp only [toD_told, Option.map_some]
  unfold datum
  rw [q]
  have s : SeqAt.shaped (.list toldD) = true := by decide +kernel
  simp only [s, if_true]
theorem told_eq {h : PH} {l m : Nat} (e1 : h[l]? = some (.lst told)) (e2 : h[m]? = some (.lst told)) : pEq h (.ref l) (.ref m) = some true := by
  unfold pEq
  rw [datum_told e1, datum_told e2]
  have : PyData.eqv (.list toldD) (.list toldD) = true := by decide +kernel
  simp only [this]
def lawEnd : List Sm := b_law.drop 1
theorem law_end {n : Nat} {ns : List Int} {z1 z2 z3 z4 z5 z6 : Option PV} {h : PH} : ∃ ρ g, exSs T (call (n + 8)) 100 lawEnd (lf ns z1 z2 z3 z4 z5 z6) h = .ok (.rt (.bl true)) (h ++ g) ∧ ρ = ([] : PEnv) := by
  obtain ⟨g1, k1⟩ := e_judged (n := n + 1) (h := h) gA gB
  obtain ⟨g2, k2⟩ := e_judged (n := n + 1) (h := h ++ g1) gB gC
  obtain ⟨g3, k3⟩ := e_is_later (n := n + 2) (h := h ++ g1 ++ g2) gA gB
  obtain ⟨g4, k4⟩ := e_cut (n := n + 2) (t := 4) (h := h ++ g1 ++ g2 ++ g3) gA (by decide)
  obtain ⟨g5, k5⟩ := e_cut (n := n + 2) (t := 5) (h := h ++ g1 ++ g2 ++ g3 ++ g4) gA (by decide)
  have j1 : jd 8 9 (sh bA 8 bB 9) = .tup [.str [112, 97, 114, 116, 101, 100], .int 5] := by rfl
  have j2 : jd 9 4 (sh bB 9 bB 4) = .tup [.str [97, 104, 101, 97, 100], .int 4] := by rfl
  have j3 : later bA 8 bB 9 = true := by decide +kernel
  have j4 : fl 4 bA = bB := by decide
  have j5 : fl 5 bA = bA := by decide
  rw [j1] at k1
  rw [j2] at k2
  rw [j3] at k3
  rw [j4] at k4
  rw [j5] at k5
  refine ⟨[], g1 ++ g2 ++ g3 ++ g4 ++ g5 ++ [.lst told] ++ [.lst told], ?_, rfl⟩
  rw [show h ++ (g1 ++ g2 ++ g3 ++ g4 ++ g5 ++ [PO.lst told] ++ [.lst told]) = h ++ g1 ++ g2 ++ g3 ++ g4 ++ g5 ++ [.lst told] ++ [.lst told] by simp only [List.append_assoc]]
  show exSs T (call (n + 8)) 100 [.asg (.tp [5, 6]) (.tup [.tup [.tup [.tup [.con (.int 0), .con (.int 0)], .tup [.con (.int 1), .con (.int 5)]], .con (.int 8)], .tup [.tup [.tup [.con (.int 0), .con (.int 0)]], .con (.int 9)]]), .asg (.nm 2) (.lst [.call 7 [.var 5, .var 6], .call 7 [.var 6, .tup [.tup [.tup [.con (.int 0), .con (.int 0)]], .con (.int 4)]], .call 8 [.var 5, .var 6], .call 5 [.var 5, .con (.int 4)], .call 5 [.var 5, .con (.int 5)]]), .ret (.cmp .eq (.var 2) (.lst [.tup [.con (.str [112, 97, 114, 116, 101, 100]), .con (.int 5)], .tup [.con (.str [97, 104, 101, 97, 100]), .con (.int 4)], .con (.bl true), .tup [.tup [.tup [.con (.int 0), .con (.int 0)]], .con (.int 4)], .tup [.tup [.tup [.con (.int 0), .con (.int 0)], .tup [.con (.int 1), .con (.int 5)]], .con (.int 5)]]))] (lf ns z1 z2 z3 z4 z5 z6) h = _
  have pp : ∀ (a b : Int) (ρ : PEnv) (h : PH), evE T (call (n + 8)) (.tup [.con (.int a), .con (.int b)]) ρ h = .ok (pv (a, b)) h := fun a b ρ h => e_tup (e_two e_con e_con) (by simp)
  have cA : ∀ (q : Int) (ρ : PEnv) (h : PH), evE T (call (n + 8)) (.tup [.tup [.tup [.con (.int 0), .con (.int 0)], .tup [.con (.int 1), .con (.int 5)]], .con (.int q)]) ρ h = .ok (sv bA q) h := fun q ρ h => e_tup (vs := [bv bA, .int q]) (e_two (e_tup (vs := bA.map pv) (e_two (pp _ _ _ _) (pp _ _ _ _)) (by simp)) e_con) (by simp)
  have cB : ∀ (q : Int) (ρ : PEnv) (h : PH), evE T (call (n + 8)) (.tup [.tup [.tup [.con (.int 0), .con (.int 0)]], .con (.int q)]) ρ h = .ok (sv bB q) h := fun q ρ h => e_tup (vs := [bv bB, .int q]) (e_two (e_tup (vs := bB.map pv) (e_one (pp _ _ _ _)) (by simp)) e_con) (by simp)
  refine st_nx (ρ1 := lf ns z1 z2 z3 z4 (some (sv bA 8)) (some (sv bB 9))) (s_asgt (e_tup (vs := [sv bA 8, sv bB 9]) (e_two (cA _ _ _) (cB _ _ _)) (by simp)) rfl) ?_
  refine st_nx (ρ1 := lf ns z1 (some (.ref (h ++ g1 ++ g2 ++ g3 ++ g4 ++ g5).length)) z3 z4 (some (sv bA 8)) (some (sv bB 9))) (h1 := h ++ g1 ++ g2 ++ g3 ++ g4 ++ g5 ++ [.lst told]) ?_ ?_
  · exact s_asg (e_lst (vs := told) (e_cons (e_call rfl (e_two (e_var rfl) (e_var rfl)) k1) (e_cons (e_call rfl (e_two (e_var rfl) (cB _ _ _)) k2) (e_cons (e_call rfl (e_two (e_var rfl) (e_var rfl)) k3) (e_two (e_call rfl (e_two (e_var rfl) e_con) k4) (e_call rfl (e_two (e_var rfl) e_con) k5))))) (by simp [told]))
  · refine st_rt (s_ret (e_cmp (e_var rfl) (e_lst (vs := told) (e_cons (e_tup (e_two e_con e_con) (by simp)) (e_cons (e_tup (e_two e_con e_con) (by simp)) (e_cons e_con (e_two (cB _ _ _) (cA _ _ _))))) (by simp [told])) ?_))
    generalize h ++ g1 ++ g2 ++ g3 ++ g4 ++ g5 = h9
    have q := told_eq (h := h9 ++ [.lst told] ++ [.lst told]) (l := h9.length) (m := (h9 ++ [PO.lst told]).length) (by rw [List.getElem?_append_left (by simp)]; exact get_last) get_last
    simp only [pCmp, q, ob]
theorem law_al {ns : List Int} (hn : ns.length ≤ 63) : Al (fun v _ => v = .bl true) (call 12 27 [.frk (ns.map .int)] []) := by
  rw [call_run (d := d_law) rfl rfl]
  refine al_run rfl ?_
  obtain ⟨N, hN, eN⟩ := law_len (n := 11) hn
  show Al _ (exSs T (call 11) 100 (.for_ (.nm 1) .rng [.bi .max [.con (.int 1), .bi .min [.con (.int 5), .bi .len [.var 0]]]] [.asg (.nm 3) (.call 15 [.var 0, .var 1]), .for_ (.nm 4) .rng [.con (.int 2)] turn2] :: lawEnd) (lf ns none none none none none none) [])
  refine al_ss (al_for (Inv := fun i ρ h' => ∃ z1 z3 z4, ρ = lf ns z1 none z3 z4 none none) (evI_rng (eN _ _ rfl) (by omega)) ?_ ?_ ⟨_, _, _, rfl⟩)
  · rintro i hi ρ h' ⟨z1, z3, z4, rfl⟩
    refine ⟨.int i, fix_at (by simp [hi]), ?_⟩
    unfold forB
    show Al _ (exSs T (call 11) 100 [.asg (.nm 3) (.call 15 [.var 0, .var 1]), .for_ (.nm 4) .rng [.con (.int 2)] turn2] (lf ns (some (.int i)) none z3 z4 none none) h')
    have ed : call 11 15 [.frk (ns.map .int), .int i] h' = .ok (.ref h'.length) (h' ++ [.dice (2 ^ 63)]) := by
      rw [show call 11 15 [.frk (ns.map .int), .int i] h' = spDice [.frk (ns.map .int), .int i] h' from callS_sp (d := d__law_dice) rfl rfl rfl]
      exact al_dice (ints_some ns) (by omega)
    refine al_ss (al_asg (al_call rfl (Al.ok (e_two (e_var rfl) (e_var rfl)) (Al.ok ed ?_))))
    show Al _ (exSs T (call 11) 100 _ (lf ns (some (.int i)) none (some (.ref h'.length)) z4 none none) _)
    exact al_ss (al_turns (n := 3) ⟨2 ^ 63, get_last, by decide⟩ fun z4 h2 => al_nx ⟨_, _, _, rfl⟩)
  · rintro ρ h' ⟨z1, z3, z4, rfl⟩
    refine ⟨by simpa using fix_end (xs := (List.range N).map fun (i : Nat) => PV.int i) (h := h'), ?_⟩
    obtain ⟨_, g, e, _⟩ := law_end (n := 3) (ns := ns) (z1 := z1) (z2 := none) (z3 := z3) (z4 := z4) (z5 := none) (z6 := none) (h := h')
    exact Al.ok e rfl
end K56
set_option Elab.async false
set_option linter.all false
set_option maxRecDepth 100000
set_option maxHeartbeats 0
namespace K56
open PySem PySem.Spec PyProof.Rows L2 Mn
def Tr : Res PV → Prop
  | .ok v _ => v = .bl true
  | .er _ _ => False
  | .stuck => False
  | .all n k => ∀ i < n, Tr (k i)
theorem Tr.ok {G : Gm} {E : XK} {as : List Addr} {H : Hp} {r : Res PV} (t : Tr r) : OkV G E as H (fun v _ => v = .bl true) r := by
  induction r with
  | ok v h =>
    intro as' H' v' f r
    have e : v = .bl true := t
    rw [e] at r
    exact RepV.blE r
  | er x h => exact False.elim t
  | stuck => exact False.elim t
  | all n f ih => exact fun i hi => ih i (t i hi)
theorem al_tr {r : Res PV} (h : Al (fun v _ => v = .bl true) r) : Tr r := by
  induction h with
  | ret p => exact p
  | draw q ih => exact ih
theorem core (ns : List Int) (h : ns.length ≤ 63) : Tr (call 12 27 [.frk (ns.map .int)] []) := al_tr (law_al h)
theorem spOk (K : PySem.W.Frag) : SpOk (gm K) T 100 defs spec := by
  intro i d r hd hs n as H h xs vs Q E S R hl o
  unfold spec at hs
  split at hs
  · cases hs
    cases hd
    exact ⟨as, h, S, R, dice_ok rfl rfl rfl hl o⟩
  · cases hs
    cases hd
    obtain ⟨h', S', o'⟩ := roll_ok (d := d__law_roll) rfl rfl rfl S hl o
    exact ⟨as, h', S', R, o'⟩
  · cases hs
def spLaw (K : PySem.W.Frag) : Sp := spF (gm K) (call 12) 27 1
theorem frk_ints {G : Gm} {as : List Addr} {H : Hp} : ∀ ns : List Int, RepVs G as H (ns.map .int) (ns.map V.int)
  | [] => .nil
  | n :: ns => .cons (.int n) (frk_ints ns)
theorem law_sp {K : PySem.W.Frag} {H : Hp} {a : Addr} {ns : List Int} (hl : ns.length ≤ 63) (hO : Only H) (hS : SqL K H a (ns.map V.int)) : spLaw K [.ref a] H (fun v _ => v = .bl true) fun _ _ _ => False := by
  have hF : SqF K H a (ns.map V.int) := by
    rcases hS with (h | ⟨o, h⟩) | h
    · rcases hO a with q | ⟨o, xs, q⟩
      · rw [q] at h; cases h
      · rw [q] at h; cases h
    · exact .inl ⟨o, h⟩
    · exact .inr h
  refine ⟨rfl, [], [], [.frk (ns.map .int)], ⟨List.nodup_nil, rfl, fun l o a e => by simp at e⟩, .cons ?_ .nil, (core ns hl).ok⟩
  unfold RepV
  exact ⟨a, ns.map V.int, rfl, hF, frk_ints ns⟩
abbrev RowK : PySem.W.OpenRow := PySem.W.OpenLaw.row PySem.Challenge.rw_deedline_k56_whole_stands_told_and_judge
abbrev hk : PySem.W.Hook := He.hookD 4 fa fn
def ob (s : PySem.W.SharedT) : He.AlD := He.obsDG 4 fa fn (HandSHeadRun.getT s)
theorem ob_eq (s : PySem.W.SharedT) : ob s = hk.obs s.abs := He.obsDG_eq (HandSHeadRun.getT_eq s)
theorem run (w : World) : HandSHeadRun.RunEq RowK (PySem.W.view RowK.prog [37]) hk ob 4000 loose w := by
  intro os
  kernel_rfl
def CXw (P : Program) : CXT := fun outer H s E e s' => ∃ w, L2.CX P w outer H s E e s'
theorem fnok_cx {P : Program} {w : World} {K : PySem.W.Frag} {mg : Str → Option Value} {base : Heap} {CX CX' : CXT} {k : Nat} {f : Addr} {fd : FuncData} {ps : List Str} {sp : Sp} (F : FnOk P w K mg base CX k f fd ps sp) (h : ∀ o H s E e s', CX o H s E e s' → CX' o H s E e s') : FnOk P w K mg base CX' k f fd ps sp :=
  ⟨F.len, fun A outer s H args us vs Q E hr he hb hv hs => codeAny_mono (F.run A outer s H args us vs Q E hr he hb hv hs) fun r s' q => by
    cases r with
    | error e => exact h _ _ _ _ _ _ q
    | ok fl => cases fl <;> exact q⟩
theorem facts {P : Program} {w : World} {K : PySem.W.Frag} {h : Heap} {mg : Str → Option Value} {f : Addr} (X : K.In h) (G : h.Ns mainGlobals mg) (hfa : mg ("law" : Str) = some (.ref f)) (c : He.SaysD fa fn K) :
    ∃ fd : FuncData, (∀ (s : Shared) (v : Value), BindsTo s fd ⟨[v], []⟩ [("_law_script", v)]) ∧ ∀ base : Heap, K.In base → base.Ns mainGlobals mg → FnOk P w K mg base (CXw P) 24 f fd ["_law_script"] (spLaw K) := by
  obtain ⟨fd, F⟩ := c.def_ 27 (d := D_law) rfl
  have e := hfa.symm.trans (He.glo_ok X G (c.fact 27 (f := .glo "law") rfl))
  cases e
  have b := FunD.bindsA (ps := ["_law_script"]) F fun _ _ _ _ _ _ us hl => match us, hl with | [_], _ => rfl
  refine ⟨fd, fun s v => b s [v] rfl, fun base _ _ => ?_⟩
  have D : DOk (gm K) T nm K 27 d_law fd := ⟨⟨_, _, _, _, _, ⟨_, _, F⟩, S_law, .inl c_law⟩, F.bindsN fun _ _ _ _ _ _ us hl => match us, hl with | [_], _ => rfl, F.kp⟩
  refine fnok_cx (CX := L2.CX P w) ?_ fun o H s E e s' q => ⟨w, q⟩
  exact fn_mini (W := 100) (i := 27) (gok X G c) D (all_fns (P := P) (w := w) (base := base) (gok X G c) (dok c) (spOk K) 11)
end K56
open PySem PySem.W PySem.Calls PyProof.Rows
theorem PySem.Challenge.cw_deedline_k56_whole_stands_told_and_judge_holds : PySem.Challenge.rw_deedline_k56_whole_stands_told_and_judge.Holds := by
  w_on; o_law
  refine HandSHeadRun.head_any (r := OpenLaw.row PySem.Challenge.rw_deedline_k56_whole_stands_told_and_judge) (q := view (OpenLaw.row PySem.Challenge.rw_deedline_k56_whole_stands_told_and_judge).prog [37]) (H := K56.hk) (ob := K56.ob) (M := 4000) (loose := K56.loose) (d := HandSHeadRun.topDef (OpenLaw.row PySem.Challenge.rw_deedline_k56_whole_stands_told_and_judge).prog 37) (kwd := []) K56.ob_eq
    (by kernel_rfl) (fun s => by kernel_rfl) K56.run (by kernel_rfl) (by kernel_rfl) (by kernel_rfl) (by rfl) (by first | assumption | decide +kernel) (by decide +kernel) ⟨rfl, rfl, rfl, rfl, rfl, by decide +kernel⟩ ?hw ?hc
  case hw => w_witness2
  case hc =>
    refine L2.walk_ofE (l := PySem.Challenge.rw_deedline_k56_whole_stands_told_and_judge) (n := 63) (k := 24) (x := "_law_script") (CX := K56.CXw (PySem.Challenge.rw_deedline_k56_whole_stands_told_and_judge).prog) rfl (by decide) (by kernel_rfl) ⟨rfl, by decide, by decide⟩ ?F ?G
    case G =>
      intro H s e s' h
      obtain ⟨_, _, _, _, _, _, _, _, _, _, _, _, _, q⟩ := h
      exact q
    intro w mg fa h Y G hmg0
    obtain ⟨K, KX, c⟩ := Y
    have hmg : mg ("law" : PySem.Str) = some (.ref fa) := by
      have e : (HandSHeadRun.topDef (OpenLaw.row PySem.Challenge.rw_deedline_k56_whole_stands_told_and_judge).prog 37).name = ("law" : PySem.Str) := by kernel_rfl
      rw [← e]
      exact hmg0
    obtain ⟨fd, hb, hF⟩ := K56.facts (P := (PySem.Challenge.rw_deedline_k56_whole_stands_told_and_judge).prog) (w := w) KX G hmg c
    exact ⟨K, fd, K56.spLaw K, KX, hb, fun H a ns hl hO hS => K56.law_sp hl hO hS, hF⟩
