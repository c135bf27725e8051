import PyProof.Rows.All
import HandS.ForMost
import HandS.Wide
import HandS.Exc
import HandS.IsInst
import HandS.Walk
import HandS.StrMore
import KE.DataCmp
import HandS.TupAny
import HandS.TupLe
import HandS.Deep
import KE.KIsAll
import PyProof.FactsAll.set
import PyProof.FactsAll.object
import HandS.SortRule
import HandS.Property
import HandS.RaiseMore
import HandS.SetFor
import HandS.More
import HandS.ExcOwn
import HandS.Flow
import KE.GoesMore
import PyProof.EnumMake
import PyProof.TupleIter
import HandS.Style
import HandS.Small
import HandS.NoneIn
import HandS.ReplaceDef
import HandS.CallLocal
import HandS.Dict
import HandS.Steps
import HandS.WordsExc
import KE.KDictZip
import KE.GoesZip
import PyProof.ListNew
import HandS.Iter
import HandS.RevRange
import HandS.Star
import HandS.ListItems
import HandS.TupSets
import HandS.ReplaceLit
import HandS.Defaults
import HandS.HeadNt
import Wide.All
import OpenK.AllK
import Wide.FinOn
import KE.KStateDown
import Lean
import HandS.Base
import HandS.Call
import HandS.Ends
import HandS.Words
import HandS.Head0
import HandS.Head1
import HandS.Head2
import HandS.HeadEnd
import HandS.HeadHook1
import HandS.HeadHook2
import PySem.Challenge.RW_deedline_k06_whole_scans_woven_with_chan
import KE.LtData
import KE.BitLaws
set_option Elab.async false
set_option linter.all false
set_option maxRecDepth 100000
set_option maxHeartbeats 2000000
namespace Mn
open PySem L2
inductive PV where
  | non | bl (b : Bool) | int (i : Int) | str (x : List Nat) | tup (xs : List PV) | ref (l : Nat) | frk (xs : List PV) | fn (i : Nat) | cls (c : Nat) | ty (n : String)
inductive PO where
  | lst (xs : List PV)
  | frz (xs : List PV)
  | dic (kvs : List (Key × PV))
  | ins (c : Nat) (fs : List (Nat × PV))
  | dice (b : Nat)
abbrev PH := List PO
abbrev PEnv := List (Option PV)
structure PX where
  c : Nat
  fs : List (Nat × PV)
inductive Res (α : Type) where
  | ok (a : α) (h : PH)
  | er (x : PX) (h : PH)
  | stuck
  | all (n : Nat) (k : Nat → Res α)
def Res.bind {α β : Type} (r : Res α) (k : α → PH → Res β) : Res β := match r with
  | .ok a h => k a h
  | .er x h => .er x h
  | .stuck => .stuck
  | .all n f => .all n fun i => (f i).bind k
@[simp] theorem Res.bind_ok {α β : Type} (a : α) (h : PH) (k : α → PH → Res β) : (Res.ok a h).bind k = k a h := rfl
@[simp] theorem Res.bind_er {α β : Type} (x : PX) (h : PH) (k : α → PH → Res β) : (Res.er x h : Res α).bind k = .er x h := rfl
@[simp] theorem Res.bind_stuck {α β : Type} (k : α → PH → Res β) : (Res.stuck : Res α).bind k = .stuck := rfl
@[simp] theorem Res.bind_all {α β : Type} (n : Nat) (f : Nat → Res α) (k : α → PH → Res β) : (Res.all n f).bind k = .all n fun i => (f i).bind k := rfl
structure Gm where
  K : PySem.W.Frag
  fa : Nat → Addr
  ca : Nat → Addr
  an : List Str
def SqF (K : PySem.W.Frag) (H : Hp) (a : Addr) (xs : List V) : Prop := (∃ o, H a = some (.frz o (.lst xs))) ∨ ∃ (o : Obj) (its : Array Value) (n : Nat), K.lookup a = some o ∧ o.cls = .type "list" ∧ o.dict = none ∧ o.data = .seq its n ∧ its.size ≤ sizeLine ∧ Vals xs its.toList
theorem SqF.sq {K : PySem.W.Frag} {H : Hp} {a : Addr} {xs : List V} (h : SqF K H a xs) : SqL K H a xs := by
  rcases h with ⟨o, h⟩ | h
  · exact .inl (.inr ⟨o, h⟩)
  · exact .inr h
section
variable (G : Gm) (as : List Addr) (H : Hp)
mutual
def RepV : PV → V → Prop
  | .non, v => v = .non
  | .bl b, v => v = .bl b
  | .int i, v => v = .int i
  | .str x, v => v = .str ⟨x.toArray⟩
  | .tup xs, v => ∃ a vs, v = .ref a ∧ SqT G.K H a vs ∧ RepVs xs vs
  | .ref l, v => ∃ a, as[l]? = some a ∧ v = .ref a
  | .frk xs, v => ∃ a vs, v = .ref a ∧ SqF G.K H a vs ∧ RepVs xs vs
  | .fn i, v => v = .ref (G.fa i)
  | .cls c, v => v = .ref (G.ca c)
  | .ty n, v => v = .ty n
def RepVs : List PV → List V → Prop
  | [], vs => vs = []
  | x :: xs, vs => ∃ v r, vs = v :: r ∧ RepV x v ∧ RepVs xs r
end
def RepK : List (Key × PV) → List (Key × V) → Prop
  | [], ks => ks = []
  | (k, x) :: xs, ks => ∃ v r, ks = (k, v) :: r ∧ RepV G as H x v ∧ RepK xs r
def RepF : List (Nat × PV) → List (Str × V) → Prop
  | [], ks => ks = []
  | (k, x) :: xs, ks => ∃ n v r, ks = (n, v) :: r ∧ G.an[k]? = some n ∧ RepV G as H x v ∧ RepF xs r
def RepO : PO → Addr → Prop
  | .lst xs, a => ∃ vs, H a = some (.lst vs) ∧ RepVs G as H xs vs
  | .frz xs, a => ∃ o vs, H a = some (.frz o (.lst vs)) ∧ RepVs G as H xs vs
  | .dic kvs, a => ∃ ks, H a = some (.dK ks) ∧ RepK G as H kvs ks
  | .ins c fs, a => ∃ dx gs, H a = some (.ins (G.ca c) dx gs) ∧ RepF G as H fs gs
  | .dice b, a => ∃ i j k : Int, H a = some (.lst [.int i, .int j, .int k]) ∧ (0 ≤ i ∧ i < 10 ^ 600) ∧ (0 ≤ j ∧ j < 2 ^ 40) ∧ (0 ≤ k ∧ k + b ≤ 2 ^ 64)
structure SR (h : PH) : Prop where
  nd : as.Nodup
  len : as.length = h.length
  at_ : ∀ (l : Nat) (o : PO) (a : Addr), h[l]? = some o → as[l]? = some a → RepO G as H o a
end
structure Kp (H H' : Hp) : Prop where
  tups : ∀ b xs, H b = some (.tup xs) → H' b = some (.tup xs)
  frzs : ∀ b o u, H b = some (.frz o u) → H' b = some (.frz o u)
theorem Kp.refl (H : Hp) : Kp H H := ⟨fun _ _ h => h, fun _ _ _ h => h⟩
theorem Kp.trans {H H1 H2 : Hp} (a : Kp H H1) (b : Kp H1 H2) : Kp H H2 := ⟨fun x o h => b.tups x o (a.tups x o h), fun x o u h => b.frzs x o u (a.frzs x o u h)⟩
theorem Kp.new {H : Hp} {p : Addr} {o : HO} (h : H p = none) : Kp H (upd H p o) := ⟨fun b xs e => by rw [upd_ne (ne_of_none e h)]; exact e, fun b ob u e => by rw [upd_ne (ne_of_none e h)]; exact e⟩
theorem Kp.rd {H H' : Hp} (k : Kp H H') {a : Addr} {xs : List V} (r : Rd H a (.tup xs)) : Rd H' a (.tup xs) := by
  rcases r with r | ⟨o, r⟩
  · exact .inl (k.tups _ _ r)
  · exact .inr ⟨o, k.frzs _ _ _ r⟩
theorem Kp.sqT {K : PySem.W.Frag} {H H' : Hp} (k : Kp H H') {a : Addr} {xs : List V} (r : SqT K H a xs) : SqT K H' a xs := by
  rcases r with r | r
  · exact .inl (k.rd r)
  · exact .inr r
theorem Kp.sqF {K : PySem.W.Frag} {H H' : Hp} (k : Kp H H') {a : Addr} {xs : List V} (r : SqF K H a xs) : SqF K H' a xs := by
  rcases r with ⟨o, r⟩ | r
  · exact .inl ⟨o, k.frzs _ _ _ r⟩
  · exact .inr r
theorem pre_get {as as' : List Addr} (h : as <+: as') {l : Nat} {a : Addr} (e : as[l]? = some a) : as'[l]? = some a := by
  obtain ⟨t, rfl⟩ := h
  rw [List.getElem?_append_left (List.getElem?_eq_some_iff.mp e).1]
  exact e
section
variable {G : Gm} {as as' : List Addr} {H H' : Hp}
mutual
theorem RepV.mono (hp : as <+: as') (k : Kp H H') : ∀ {x : PV} {v : V}, RepV G as H x v → RepV G as' H' x v
  | .non, _, h => h
  | .bl _, _, h => h
  | .int _, _, h => h
  | .str _, _, h => h
  | .tup xs, v, h => by
    unfold RepV at h ⊢
    obtain ⟨a, vs, e, s, r⟩ := h
    exact ⟨a, vs, e, k.sqT s, RepVs.mono hp k r⟩
  | .ref l, v, h => by
    unfold RepV at h ⊢
    obtain ⟨a, e, r⟩ := h
    exact ⟨a, pre_get hp e, r⟩
  | .frk xs, v, h => by
    unfold RepV at h ⊢
    obtain ⟨a, vs, e, s, r⟩ := h
    exact ⟨a, vs, e, k.sqF s, RepVs.mono hp k r⟩
  | .fn _, _, h => h
  | .cls _, _, h => h
  | .ty _, _, h => h
theorem RepVs.mono (hp : as <+: as') (k : Kp H H') : ∀ {xs : List PV} {vs : List V}, RepVs G as H xs vs → RepVs G as' H' xs vs
  | [], _, h => h
  | x :: xs, vs, h => by
    unfold RepVs at h ⊢
    obtain ⟨v, r, e, h1, h2⟩ := h
    exact ⟨v, r, e, RepV.mono hp k h1, RepVs.mono hp k h2⟩
end
theorem RepK.mono (hp : as <+: as') (k : Kp H H') : ∀ {xs : List (Key × PV)} {vs : List (Key × V)}, RepK G as H xs vs → RepK G as' H' xs vs
  | [], _, h => h
  | (_, x) :: xs, vs, h => by
    unfold RepK at h ⊢
    obtain ⟨v, r, e, h1, h2⟩ := h
    exact ⟨v, r, e, h1.mono hp k, RepK.mono hp k h2⟩
theorem RepF.mono (hp : as <+: as') (k : Kp H H') : ∀ {xs : List (Nat × PV)} {vs : List (Str × V)}, RepF G as H xs vs → RepF G as' H' xs vs
  | [], _, h => h
  | (_, x) :: xs, vs, h => by
    unfold RepF at h ⊢
    obtain ⟨n, v, r, e, en, h1, h2⟩ := h
    exact ⟨n, v, r, e, en, h1.mono hp k, RepF.mono hp k h2⟩
theorem RepO.mono (hp : as <+: as') (k : Kp H H') {o : PO} {a : Addr} (e : H' a = H a) (h : RepO G as H o a) : RepO G as' H' o a := by
  cases o with
  | lst xs => obtain ⟨vs, e1, r⟩ := h; exact ⟨vs, e.trans e1, r.mono hp k⟩
  | frz xs => obtain ⟨o, vs, e1, r⟩ := h; exact ⟨o, vs, e.trans e1, r.mono hp k⟩
  | dic kvs => obtain ⟨ks, e1, r⟩ := h; exact ⟨ks, e.trans e1, r.mono hp k⟩
  | ins c fs => obtain ⟨dx, gs, e1, r⟩ := h; exact ⟨dx, gs, e.trans e1, r.mono hp k⟩
  | dice b => obtain ⟨i, j, m, e1, r⟩ := h; exact ⟨i, j, m, e.trans e1, r⟩
theorem RepO.there {o : PO} {a : Addr} (h : RepO G as H o a) : H a ≠ none := by
  cases o with
  | lst xs => obtain ⟨vs, e1, r⟩ := h; rw [e1]; simp
  | frz xs => obtain ⟨o, vs, e1, r⟩ := h; rw [e1]; simp
  | dic kvs => obtain ⟨ks, e1, r⟩ := h; rw [e1]; simp
  | ins c fs => obtain ⟨dx, gs, e1, r⟩ := h; rw [e1]; simp
  | dice b => obtain ⟨i, j, m, e1, r⟩ := h; rw [e1]; simp
theorem RepO.noTup {o : PO} {a : Addr} (h : RepO G as H o a) (xs : List V) : H a ≠ .some (HO.tup xs) := by
  cases o with
  | lst xs => obtain ⟨vs, e1, r⟩ := h; rw [e1]; simp
  | frz xs => obtain ⟨o, vs, e1, r⟩ := h; rw [e1]; simp
  | dic kvs => obtain ⟨ks, e1, r⟩ := h; rw [e1]; simp
  | ins c fs => obtain ⟨dx, gs, e1, r⟩ := h; rw [e1]; simp
  | dice b => obtain ⟨i, j, m, e1, r⟩ := h; rw [e1]; simp
theorem RepVs.length : ∀ {xs : List PV} {vs : List V}, RepVs G as H xs vs → xs.length = vs.length
  | [], _, h => by unfold RepVs at h; subst h; rfl
  | x :: xs, vs, h => by
    unfold RepVs at h
    obtain ⟨v, r, rfl, _, h2⟩ := h
    simp [RepVs.length h2]
theorem RepVs.get : ∀ {xs : List PV} {vs : List V} {i : Nat} {x : PV}, RepVs G as H xs vs → xs[i]? = some x → ∃ v, vs[i]? = some v ∧ RepV G as H x v
  | [], _, i, x, _, e => by simp at e
  | y :: xs, vs, i, x, h, e => by
    unfold RepVs at h
    obtain ⟨v, r, rfl, h1, h2⟩ := h
    cases i with
    | zero => simp at e; subst e; exact ⟨v, rfl, h1⟩
    | succ i => simpa using RepVs.get (i := i) h2 (by simpa using e)
theorem RepVs.nil : RepVs G as H [] [] := by unfold RepVs; rfl
theorem RepVs.cons {x : PV} {v : V} {xs : List PV} {vs : List V} (h : RepV G as H x v) (r : RepVs G as H xs vs) : RepVs G as H (x :: xs) (v :: vs) := by
  unfold RepVs; exact ⟨v, vs, rfl, h, r⟩
theorem RepVs.append : ∀ {xs ys : List PV} {vs ws : List V}, RepVs G as H xs vs → RepVs G as H ys ws → RepVs G as H (xs ++ ys) (vs ++ ws)
  | [], _, _, _, h, r => by unfold RepVs at h; subst h; simpa using r
  | x :: xs, ys, vs, ws, h, r => by
    unfold RepVs at h
    obtain ⟨v, vs', rfl, h1, h2⟩ := h
    exact .cons h1 (RepVs.append h2 r)
theorem RepVs.set : ∀ {xs : List PV} {vs : List V} {x : PV} {v : V} (i : Nat), RepVs G as H xs vs → RepV G as H x v → RepVs G as H (xs.set i x) (vs.set i v)
  | [], _, _, _, _, h, _ => by unfold RepVs at h; subst h; simpa using RepVs.nil
  | y :: xs, vs, x, v, i, h, r => by
    unfold RepVs at h
    obtain ⟨w, vs', rfl, h1, h2⟩ := h
    cases i with
    | zero => exact .cons r h2
    | succ i => exact .cons h1 (RepVs.set i h2 r)
theorem RepVs.take : ∀ {xs : List PV} {vs : List V} (n : Nat), RepVs G as H xs vs → RepVs G as H (xs.take n) (vs.take n)
  | [], _, _, h => by unfold RepVs at h; subst h; simpa using RepVs.nil
  | y :: xs, vs, n, h => by
    unfold RepVs at h
    obtain ⟨w, vs', rfl, h1, h2⟩ := h
    cases n with
    | zero => simpa using RepVs.nil
    | succ n => exact .cons h1 (RepVs.take n h2)
theorem RepVs.drop : ∀ {xs : List PV} {vs : List V} (n : Nat), RepVs G as H xs vs → RepVs G as H (xs.drop n) (vs.drop n)
  | [], _, _, h => by unfold RepVs at h; subst h; simpa using RepVs.nil
  | y :: xs, vs, n, h => by
    unfold RepVs at h
    obtain ⟨w, vs', rfl, h1, h2⟩ := h
    cases n with
    | zero => exact .cons h1 h2
    | succ n => exact RepVs.drop n h2
theorem RepVs.reverse : ∀ {xs : List PV} {vs : List V}, RepVs G as H xs vs → RepVs G as H xs.reverse vs.reverse
  | [], _, h => by unfold RepVs at h; subst h; simpa using RepVs.nil
  | y :: xs, vs, h => by
    unfold RepVs at h
    obtain ⟨w, vs', rfl, h1, h2⟩ := h
    simp only [List.reverse_cons]
    exact (RepVs.reverse h2).append (.cons h1 .nil)
theorem RepVs.eraseIdx : ∀ {xs : List PV} {vs : List V} (n : Nat), RepVs G as H xs vs → RepVs G as H (xs.eraseIdx n) (vs.eraseIdx n)
  | [], _, _, h => by unfold RepVs at h; subst h; simpa using RepVs.nil
  | y :: xs, vs, n, h => by
    unfold RepVs at h
    obtain ⟨w, vs', rfl, h1, h2⟩ := h
    cases n with
    | zero => exact h2
    | succ n => exact .cons h1 (RepVs.eraseIdx n h2)
end
structure Fut (G : Gm) (as : List Addr) (H : Hp) (as' : List Addr) (H' : Hp) (h' : PH) : Prop where
  pre : as <+: as'
  kp : Kp H H'
  sr : SR G as' H' h'
  fresh : ∀ b ∈ as', b ∉ as → H b = none
  frame : ∀ b o, H b = some o → b ∉ as → H' b = some o
section
variable {G : Gm} {as as' as'' : List Addr} {H H' H'' : Hp} {h h' h'' : PH}
theorem Fut.refl (s : SR G as H h) : Fut G as H as H h := ⟨List.prefix_refl _, Kp.refl _, s, fun _ a b => absurd a b, fun _ _ e _ => e⟩
theorem Fut.trans (a : Fut G as H as' H' h') (b : Fut G as' H' as'' H'' h'') : Fut G as H as'' H'' h'' where
  pre := a.pre.trans b.pre
  kp := a.kp.trans b.kp
  sr := b.sr
  fresh := fun c hc hn => by
    by_cases h1 : c ∈ as'
    · exact a.fresh c h1 hn
    · have h2 := b.fresh c hc h1
      cases e : H c with
      | none => rfl
      | some o =>
        rw [a.frame c o e hn] at h2
        cases h2
  frame := fun c o e hn => by
    have e1 := a.frame c o e hn
    refine b.frame c o e1 fun h1 => ?_
    have h2 := a.fresh c h1 hn
    rw [e] at h2
    cases h2
theorem RepV.fut (f : Fut G as H as' H' h') {x : PV} {v : V} (r : RepV G as H x v) : RepV G as' H' x v := r.mono f.pre f.kp
theorem RepVs.fut (f : Fut G as H as' H' h') {x : List PV} {v : List V} (r : RepVs G as H x v) : RepVs G as' H' x v := r.mono f.pre f.kp
theorem SR.addr (s : SR G as H h) {l : Nat} {o : PO} (e : h[l]? = some o) : ∃ a, as[l]? = some a ∧ RepO G as H o a := by
  have hl : l < as.length := by rw [s.len]; exact (List.getElem?_eq_some_iff.mp e).1
  exact ⟨as[l], List.getElem?_eq_getElem hl, s.at_ l o _ e (List.getElem?_eq_getElem hl)⟩
theorem SR.upd_free (s : SR G as H h) {p : Addr} {o : HO} (hp : H p = none) : Fut G as H as (upd H p o) h := by
  refine ⟨List.prefix_refl _, Kp.new hp, ⟨s.nd, s.len, fun l ob a e1 e2 => ?_⟩, fun _ a b => absurd a b, fun b o e _ => by rw [upd_ne (ne_of_none e hp)]; exact e⟩
  have r := s.at_ l ob a e1 e2
  refine r.mono (List.prefix_refl _) (Kp.new hp) (upd_ne ?_)
  intro z
  subst z
  exact r.there hp
theorem SR.tup (s : SR G as H h) {p : Addr} {xs : List PV} {vs : List V} (hp : H p = none) (r : RepVs G as H xs vs) : Fut G as H as (upd H p (.tup vs)) h ∧ RepV G as (upd H p (.tup vs)) (.tup xs) (.ref p) := by
  have f := s.upd_free (o := .tup vs) hp
  refine ⟨f, ?_⟩
  unfold RepV
  exact ⟨p, vs, rfl, .of upd_same, r.fut f⟩
theorem SR.new (s : SR G as H h) {p : Addr} {o : PO} {ho : HO} (hp : H p = none) (r : RepO G (as ++ [p]) (upd H p ho) o p) : Fut G as H (as ++ [p]) (upd H p ho) (h ++ [o]) ∧ RepV G (as ++ [p]) (upd H p ho) (.ref h.length) (.ref p) := by
  have hn : p ∉ as := fun hm => by
    obtain ⟨l, hl, e⟩ := List.getElem_of_mem hm
    have e1 : as[l]? = some p := by rw [List.getElem?_eq_getElem hl, e]
    have hl2 : l < h.length := by rw [← s.len]; exact hl
    exact (s.at_ l _ p (List.getElem?_eq_getElem hl2) e1).there hp
  have pr : as <+: as ++ [p] := List.prefix_append _ _
  refine ⟨⟨pr, Kp.new hp, ⟨?_, by simp [s.len], fun l ob a e1 e2 => ?_⟩, fun b hb hn => by
    rw [List.mem_append] at hb
    rcases hb with hb | hb
    · exact absurd hb hn
    · simp at hb; subst hb; exact hp, fun b o e _ => by rw [upd_ne (ne_of_none e hp)]; exact e⟩, ?_⟩
  · rw [List.nodup_append]
    exact ⟨s.nd, by simp, fun a ha b hb e => by simp at hb; subst hb; subst e; exact hn ha⟩
  · by_cases hl : l < as.length
    · rw [List.getElem?_append_left hl] at e2
      rw [List.getElem?_append_left (by rw [← s.len]; exact hl)] at e1
      refine (s.at_ l ob a e1 e2).mono pr (Kp.new hp) (upd_ne ?_)
      intro z
      subst z
      exact hn (List.mem_of_getElem? e2)
    · have hl2 : l = as.length := by
        have := (List.getElem?_eq_some_iff.mp e2).1
        simp at this
        omega
      subst hl2
      rw [s.len, List.getElem?_append_right (Nat.le_refl _)] at e1
      rw [List.getElem?_append_right (Nat.le_refl _)] at e2
      simp at e1 e2
      subst e1 e2
      exact r
  · unfold RepV
    exact ⟨p, by rw [← s.len, List.getElem?_append_right (Nat.le_refl _)]; simp, rfl⟩
theorem SR.set (s : SR G as H h) {l : Nat} {a : Addr} {o : PO} {ho : HO} (ea : as[l]? = some a) (k : Kp H (upd H a ho)) (r : RepO G as (upd H a ho) o a) : Fut G as H as (upd H a ho) (h.set l o) := by
  refine ⟨List.prefix_refl _, k, ⟨s.nd, by simp [s.len], fun m ob b e1 e2 => ?_⟩, fun _ a b => absurd a b, fun b o e hn => by
    rw [upd_ne (fun z => hn (by rw [z]; exact List.mem_of_getElem? ea))]; exact e⟩
  by_cases hm : m = l
  · subst hm
    rw [ea] at e2
    cases e2
    have hl : m < h.length := by rw [← s.len]; exact (List.getElem?_eq_some_iff.mp ea).1
    rw [List.getElem?_set_self hl] at e1
    cases e1
    exact r
  · rw [List.getElem?_set_ne (Ne.symm hm)] at e1
    refine (s.at_ m ob b e1 e2).mono (List.prefix_refl _) k (upd_ne ?_)
    intro z
    subst z
    obtain ⟨h1, q1⟩ := List.getElem?_eq_some_iff.mp e2
    obtain ⟨h2, q2⟩ := List.getElem?_eq_some_iff.mp ea
    exact hm ((List.getElem_inj s.nd).mp (q1.trans q2.symm))
theorem Kp.mut {a : Addr} {ho u : HO} (e : H a = some u) (h1 : ∀ xs, u ≠ .tup xs) (h2 : ∀ o w, u ≠ .frz o w) : Kp H (upd H a ho) := ⟨fun b xs q => by
    rw [upd_ne (fun z => by subst z; rw [e] at q; exact h1 _ (Option.some.inj q))]; exact q, fun b o w q => by
    rw [upd_ne (fun z => by subst z; rw [e] at q; exact h2 _ _ (Option.some.inj q))]; exact q⟩
end
def RepX (G : Gm) (as : List Addr) (H : Hp) (x : PX) (e : Value) (d : Option Addr) : Prop :=
  e = .ref (G.ca x.c) ∧ ((x.fs = [] ∧ d = none) ∨ ∃ dx gs, d = some dx ∧ H dx = some (.xd gs) ∧ RepF G as H x.fs gs)
section
variable (G : Gm) (E : XK) (as : List Addr) (H : Hp)
def Ok {α β : Type} (rel : List Addr → Hp → α → β → Prop) (Q : β → Hp → Prop) : Res α → Prop
  | .ok v h' => ∀ as' H' v', Fut G as H as' H' h' → rel as' H' v v' → Q v' H'
  | .er x h' => ∀ as' H' e d, Fut G as H as' H' h' → RepX G as' H' x e d → E e d H'
  | .stuck => False
  | .all n k => ∀ i < n, Ok rel Q (k i)
end
abbrev OkV (G : Gm) (E : XK) (as : List Addr) (H : Hp) (Q : V → Hp → Prop) : Res PV → Prop := Ok G E as H (fun as' H' => RepV G as' H') Q
abbrev OkA (G : Gm) (E : XK) (as : List Addr) (H : Hp) (Q : List V → Hp → Prop) : Res (List PV) → Prop := Ok G E as H (fun as' H' => RepVs G as' H') Q
abbrev OkB (G : Gm) (E : XK) (as : List Addr) (H : Hp) (Q : Bool → Hp → Prop) : Res Bool → Prop := Ok G E as H (fun _ _ b c => b = c) Q
section
variable {G : Gm} {E : XK} {as as' : List Addr} {H H' : Hp} {h h' : PH} {α β γ δ : Type} {rel : List Addr → Hp → α → β → Prop} {rel2 : List Addr → Hp → γ → δ → Prop}
theorem Ok.fut {Q : β → Hp → Prop} {r : Res α} (f : Fut G as H as' H' h') (o : Ok G E as H rel Q r) : Ok G E as' H' rel Q r := by
  induction r with
  | ok v h1 => exact fun as1 H1 v1 f1 => o as1 H1 v1 (f.trans f1)
  | er x h1 => exact fun as1 H1 e d f1 => o as1 H1 e d (f.trans f1)
  | stuck => exact o
  | all n k ih => exact fun i hi => ih i (o i hi)
theorem Ok.imp {Q Q' : β → Hp → Prop} {r : Res α} (o : Ok G E as H rel Q r) (k : ∀ v H, Q v H → Q' v H) : Ok G E as H rel Q' r := by
  induction r with
  | ok v h1 => exact fun as1 H1 v1 f1 r1 => k _ _ (o as1 H1 v1 f1 r1)
  | er x h1 => exact o
  | stuck => exact o
  | all n f ih => exact fun i hi => ih i (o i hi)
theorem Ok.bind {r : Res α} {k : α → PH → Res γ} {Q : β → Hp → Prop} {Q2 : δ → Hp → Prop} (o : Ok G E as H rel2 Q2 (r.bind k))
    (next : ∀ v h1 as1 H1 v', Fut G as H as1 H1 h1 → rel as1 H1 v v' → Ok G E as1 H1 rel2 Q2 (k v h1) → Q v' H1) : Ok G E as H rel Q r := by
  induction r with
  | ok v h1 => exact fun as1 H1 v1 f1 r1 => next v h1 as1 H1 v1 f1 r1 (Ok.fut f1 o)
  | er x h1 => exact o
  | stuck => exact o
  | all n f ih => exact fun i hi => ih i (o i hi)
end
def RepE (G : Gm) (as : List Addr) (H : Hp) (ρ : PEnv) (σ : St) : Prop := ρ.length = σ.length ∧ ∀ (i : Nat) (v : PV), ρ[i]? = some (some v) → ∃ v', σ[i]? = some (some v') ∧ RepV G as H v v'
theorem RepE.fut {G : Gm} {as as' : List Addr} {H H' : Hp} {h' : PH} {ρ : PEnv} {σ : St} (f : Fut G as H as' H' h') (r : RepE G as H ρ σ) : RepE G as' H' ρ σ := ⟨r.1, fun i v e => by
  obtain ⟨v', e', q⟩ := r.2 i v e
  exact ⟨v', e', q.fut f⟩⟩
theorem RepE.set {G : Gm} {as : List Addr} {H : Hp} {ρ : PEnv} {σ : St} {x : PV} {v : V} (r : RepE G as H ρ σ) (i : Nat) (q : RepV G as H x v) : RepE G as H (ρ.set i (some x)) (σ.set i (some v)) := by
  refine ⟨by simp [r.1], fun j y e => ?_⟩
  by_cases hj : i = j
  · subst hj
    by_cases hl : i < ρ.length
    · rw [List.getElem?_set_self hl] at e
      cases e
      exact ⟨v, by rw [List.getElem?_set_self (by rw [← r.1]; exact hl)], q⟩
    · rw [List.getElem?_eq_none (by simpa using hl)] at e
      cases e
  · rw [List.getElem?_set_ne hj] at e
    rw [List.getElem?_set_ne hj]
    exact r.2 j y e
end Mn
set_option Elab.async false
set_option linter.all false
set_option maxRecDepth 100000
set_option maxHeartbeats 2000000
namespace Mn
open PySem L2
inductive Bop where
  | add | sub | mul | fdiv | mod | pow | band | bor | bxor | shl | shr
  deriving DecidableEq
inductive Cop where
  | eq | ne | lt | le | gt | ge | is_ | isn | in_ | nin
  deriving DecidableEq
inductive Bi where
  | len | abs | max | min | int | str | bool | list | tuple | sorted | sum | any | all | ord | isinst | repr | dict
  deriving DecidableEq
def Bi.tyn : Bi → Option String
  | .int => some "int"
  | .str => some "str"
  | .bool => some "bool"
  | .list => some "list"
  | .tuple => some "tuple"
  | .dict => some "dict"
  | _ => none
inductive Bm where
  | none | append | pop | insert | extend | reverse | index | remove | isascii | isprintable | isdigit | join | replace | removeprefix | find | get | keys | items | values | startswith
  deriving DecidableEq
inductive Ik where
  | seq | rng | enum | zip | rev | items | keys | values | rvr
  deriving DecidableEq
inductive Tg where
  | nm (i : Nat)
  | tp (is : List Nat)
inductive Ex where
  | var (i : Nat) | con (v : PV) | glob (g : Nat)
  | bin (op : Bop) (a b : Ex) | neg (a : Ex) | not (a : Ex) | and (a b : Ex) | or (a b : Ex)
  | cmp (op : Cop) (a b : Ex) | chn (o1 o2 : Cop) (a b c : Ex) | ife (c a b : Ex)
  | tup (es : List Ex) | lst (es : List Ex) | star (e : Ex)
  | ix (o i : Ex) | sl (o lo hi : Ex) | nop
  | callv (i : Nat) (es : List Ex) | call (g : Nat) (es : List Ex) | bi (f : Bi) (es : List Ex) | mt (m : Nat) (b : Bm) (o : Ex) (es : List Ex)
  | att (o : Ex) (f : Nat)
  | lc (e : Ex) (own : List Nat) (t : Tg) (k : Ik) (its : List Ex) (ifs : List Ex)
  | bty (f : Bi)
  | dsp
  | lz (es : List Ex)
  | lc2 (e : Ex) (own : List Nat) (t : Tg) (k : Ik) (its : List Ex) (ifs : List Ex) (own1 : List Nat) (t1 : Tg) (k1 : Ik) (its1 : List Ex) (ifs1 : List Ex)
  | lno (m : Nat) (o : Ex)
  | repl (o : Ex) (y z : List Nat)
  | calld (g : Nat) (es : List Ex) (j : Nat)
  | mtd (m : Nat) (o : Ex) (es : List Ex) (j : Nat)
  | oin (neg : Bool) (m : Nat) (a b : Ex)
  | oeq (a b : Ex)
  | lit (o : Ex)
  | lset (e : Ex)
  | never
inductive Ta where
  | nm (i : Nat) | tp (is : List Nat) | att (o : Ex) (f : Nat) | ix (o i : Ex) | sl (o lo hi : Ex)
inductive Sm where
  | asg (t : Ta) (e : Ex) | aug (t : Ta) (op : Bop) (e : Ex)
  | ex (e : Ex) | ret (e : Ex) | retn
  | ite (c : Ex) (a b : List Sm)
  | wh (c : Ex) (b : List Sm)
  | for_ (t : Tg) (k : Ik) (its : List Ex) (b : List Sm)
  | brk | cnt | pass
  | raise (g : Nat) (es : List Ex)
  | del (o i : Ex)
  | never
inductive Fl where
  | nx (ρ : PEnv) | bk (ρ : PEnv) | ct (ρ : PEnv) | rt (v : PV)
structure Ci where
  init : Option Nat
  meths : List (Nat × Nat)
  props : List (Nat × Nat)
  sups : List Nat
  eq : Option Nat := none
structure Tb where
  glob : List PV
  cls : List Ci
  dfl : List (Nat × List PV) := []
section
variable (de : Nat → Option PyData)
mutual
def toD : PV → Option PyData
  | .non => some .none
  | .bl b => some (.bool b)
  | .int i => some (.int i)
  | .str x => some (.str ⟨x.toArray⟩)
  | .tup xs => (toDs xs).map .tuple
  | .ref l => de l
  | .frk _ => none
  | .fn _ => none
  | .cls _ => none
  | .ty _ => none
def toDs : List PV → Option (List PyData)
  | [] => some []
  | x :: xs => match toD x with
    | none => none
    | some d => (toDs xs).map (d :: ·)
end
end
def deref (h : PH) : Nat → Nat → Option PyData
  | 0, _ => none
  | n + 1, l => match h[l]? with
    | some (.lst xs) => (toDs (deref h n) xs).map .list
    | some (.frz xs) => (toDs (deref h n) xs).map .list
    | _ => none
def datum (h : PH) (v : PV) : Option PyData := match toD (deref h 8) v with
  | some d => if SeqAt.shaped d then some d else none
  | none => none
def pEq (h : PH) (v w : PV) : Option Bool := match datum h v, datum h w with
  | some d, some e => some (PyData.eqv d e)
  | _, _ => none
def dLook (kvs : List (Key × PV)) (k : Key) : Option PV := (kvs.find? fun kv => decide (kv.1 = k)).map (·.2)
def dPut (kvs : List (Key × PV)) (k : Key) (v : PV) : List (Key × PV) :=
  if (kvs.any fun kv => decide (kv.1 = k)) = true then kvs.map (fun kv => if kv.1 = k then (kv.1, v) else kv) else kvs ++ [(k, v)]
def dDrop (kvs : List (Key × PV)) (k : Key) : List (Key × PV) := kvs.filter fun kv => decide (kv.1 ≠ k)
def isNon : PV → Bool
  | .non => true
  | _ => false
def pIn (h : PH) (v w : PV) : Option Bool := match w with
  | .tup ys => match datum h v, datum h w with
    | some d, some (.tuple es) => some (es.any fun z => PyData.eqv z d)
    | _, _ => none
  | .ref l => match h[l]? with
    | some (.lst _) => match datum h v, datum h w with
      | some d, some (.list es) => some (es.any fun z => PyData.eqv z d)
      | _, _ => none
    | some (.dic kvs) => match v with
      | .int i => some (dLook kvs (Sum.inl i)).isSome
      | .str x => some (dLook kvs (Sum.inr ⟨x.toArray⟩)).isSome
      | _ => none
    | _ => none
  | .str y => match v with
    | .str [c] => some (y.contains c)
    | _ => none
  | _ => none
def pTru (h : PH) (v : PV) : Option Bool := match v with
  | .non => some false
  | .bl b => some b
  | .int i => some (i != 0)
  | .str x => if x.length ≤ sizeLine then some (!x.isEmpty) else none
  | .tup xs => some (!xs.isEmpty)
  | .ref l => match h[l]? with
    | some (.lst xs) => some (!xs.isEmpty)
    | some (.frz xs) => some (!xs.isEmpty)
    | some (.dic kvs) => some (!kvs.isEmpty)
    | _ => none
  | _ => none
def lstAt (h : PH) (l : Nat) : Option (List PV) := match h[l]? with
  | some (.lst xs) => some xs
  | some (.frz xs) => some xs
  | _ => none
def big (i j : Int) : Bool := decide (i.natAbs.log2 + j.natAbs.log2 < 1000000)
def pBin (op : Bop) (v w : PV) (h : PH) : Res PV := match op, v, w with
  | .add, .int i, .int j => .ok (.int (i + j)) h
  | .add, .str x, .str y => if x.length + y.length ≤ sizeLine then .ok (.str (x ++ y)) h else .stuck
  | .add, .tup x, .tup y => if x.length + y.length ≤ sizeLine then .ok (.tup (x ++ y)) h else .stuck
  | .add, .ref l, .ref m => match h[l]?, h[m]? with
    | some (.lst x), some (.lst y) => if x.length + y.length ≤ sizeLine then .ok (.ref h.length) (h ++ [.lst (x ++ y)]) else .stuck
    | _, _ => .stuck
  | .sub, .int i, .int j => .ok (.int (i - j)) h
  | .mul, .int i, .int j => if big i j then .ok (.int (i * j)) h else .stuck
  | .mul, .ref l, .int k => match h[l]? with
    | some (.lst x) => if decide (-(2 ^ 63) ≤ k) && decide (k < 2 ^ 63) && decide (x.length * k.toNat ≤ sizeLine) then .ok (.ref h.length) (h ++ [.lst (List.replicate k.toNat x).flatten]) else .stuck
    | _ => .stuck
  | .mul, .str x, .int k => if decide (-(2 ^ 63) ≤ k) && decide (k < 2 ^ 63) && decide (x.length * k.toNat ≤ sizeLine) then .ok (.str (List.replicate k.toNat x).flatten) h else .stuck
  | .fdiv, .int i, .int j => if decide (0 < j) && decide (j.natAbs.log2 < 9000) then .ok (.int (i / j)) h else .stuck
  | .mod, .int i, .int j => if decide (0 < j) then .ok (.int (i % j)) h else .stuck
  | .pow, .int i, .int j => if decide (0 ≤ j) && decide ((Builtin.Int.intBits i : Int) * j ≤ 2 ^ 27) then .ok (.int (i ^ j.toNat)) h else .stuck
  | .shl, .int i, .int j => if decide (0 ≤ j) && decide (j ≤ 1000000) && decide (i.natAbs < 2 ^ 64) then .ok (.int (i * 2 ^ j.toNat)) h else .stuck
  | .shr, .int i, .int j => if decide (0 ≤ j) then .ok (.int (i / 2 ^ j.toNat)) h else .stuck
  | .band, .int i, .int j => .ok (.int (Builtin.bitAnd i j)) h
  | .bor, .int i, .int j => .ok (.int (Builtin.bitOr i j)) h
  | .bxor, .int i, .int j => .ok (.int (Builtin.bitXor i j)) h
  | _, _, _ => .stuck
def ob (b : Option Bool) (h : PH) : Res PV := match b with
  | some b => .ok (.bl b) h
  | none => .stuck
def dLt (h : PH) (v w : PV) : Option Bool := match datum h v, datum h w with
  | some d, some e => if PySem.W.alike d e then some (PySem.W.dataLt d e) else none
  | _, _ => none
def pCmp (op : Cop) (v w : PV) (h : PH) : Res PV := match op with
  | .eq => ob (pEq h v w) h
  | .ne => ob ((pEq h v w).map (!·)) h
  | .in_ => ob (pIn h v w) h
  | .nin => ob ((pIn h v w).map (!·)) h
  | .is_ => match w with
    | .non => .ok (.bl (isNon v)) h
    | _ => .stuck
  | .isn => match w with
    | .non => .ok (.bl (!isNon v)) h
    | _ => .stuck
  | .lt => match v, w with
    | .int i, .int j => .ok (.bl (decide (i < j))) h
    | .str x, .str y => .ok (.bl (decide (x < y))) h
    | .tup _, .tup _ => ob (dLt h v w) h
    | _, _ => .stuck
  | .le => match v, w with
    | .int i, .int j => .ok (.bl (decide (i ≤ j))) h
    | .str x, .str y => .ok (.bl (!decide (y < x))) h
    | .tup _, .tup _ => ob ((dLt h w v).map (!·)) h
    | _, _ => .stuck
  | .gt => match v, w with
    | .int i, .int j => .ok (.bl (decide (j < i))) h
    | .str x, .str y => .ok (.bl (decide (y < x))) h
    | .tup _, .tup _ => ob (dLt h w v) h
    | _, _ => .stuck
  | .ge => match v, w with
    | .int i, .int j => .ok (.bl (decide (j ≤ i))) h
    | .str x, .str y => .ok (.bl (!decide (x < y))) h
    | .tup _, .tup _ => ob ((dLt h v w).map (!·)) h
    | _, _ => .stuck
def pIx (v w : PV) (h : PH) : Res PV := match v, w with
  | .tup xs, .int i => match atI xs i with
    | some x => .ok x h
    | none => .stuck
  | .ref l, .int i => match h[l]? with
    | some (.lst xs) => (match atI xs i with
      | some x => .ok x h
      | none => .stuck)
    | some (.frz xs) => (match atI xs i with
      | some x => .ok x h
      | none => .stuck)
    | some (.dic kvs) => (match dLook kvs (Sum.inl i) with
      | some x => .ok x h
      | none => .stuck)
    | _ => .stuck
  | .ref l, .str y => match h[l]? with
    | some (.dic kvs) => (match dLook kvs (Sum.inr ⟨y.toArray⟩) with
      | some x => .ok x h
      | none => .stuck)
    | _ => .stuck
  | .frk xs, .int i => match atI xs i with
    | some x => .ok x h
    | none => .stuck
  | .str x, .int i => if x.length ≤ sizeLine then (match atI x i with
      | some c => .ok (.str [c]) h
      | none => .stuck) else .stuck
  | _, _ => .stuck
def cut {α : Type} (xs : List α) (lo hi : Option Int) : List α := (xs.drop (HT.sIx xs.length 0 lo)).take (HT.sIx xs.length xs.length hi - HT.sIx xs.length 0 lo)
def pSl (v : PV) (lo hi : Option Int) (h : PH) : Res PV := match v with
  | .tup xs => .ok (.tup (cut xs lo hi)) h
  | .str x => if x.length ≤ sizeLine then .ok (.str (cut x lo hi)) h else .stuck
  | .ref l => match lstAt h l with
    | some xs => .ok (.ref h.length) (h ++ [.lst (cut xs lo hi)])
    | none => .stuck
  | _ => .stuck
def part : PV → Option (Option Int)
  | .int i => some (some i)
  | _ => none
def strsOf : List PV → Option (List (List Nat))
  | [] => some []
  | .str x :: r => (strsOf r).map (x :: ·)
  | _ => none
def intsOf : List PV → Option (List Int)
  | [] => some []
  | .int x :: r => (intsOf r).map (x :: ·)
  | _ => none
def blsOf : List PV → Option (List Bool)
  | [] => some []
  | .bl x :: r => (blsOf r).map (x :: ·)
  | _ => none
def tyNames : List String := ["int", "bool", "str", "list", "tuple", "dict", "NoneType"]
def tyAll : List String := "function" :: tyNames
def tyB (a b : String) : Option Bool := if tyAll.contains a && tyNames.contains b then some (a == b || (a == "bool" && b == "int")) else none
def tyOf (h : PH) (v : PV) : Option PV := match v with
  | .non => some (.ty "NoneType")
  | .bl _ => some (.ty "bool")
  | .int _ => some (.ty "int")
  | .str _ => some (.ty "str")
  | .tup _ => some (.ty "tuple")
  | .fn _ => some (.ty "function")
  | .ref l => match h[l]? with
    | some (.lst _) => some (.ty "list")
    | some (.frz _) => some (.ty "list")
    | some (.dic _) => some (.ty "dict")
    | some (.ins c _) => some (.cls c)
    | _ => none
  | _ => none
def subC (T : Tb) (t c : PV) : Option Bool := match t, c with
  | .ty a, .ty b => tyB a b
  | .cls c, .cls d => (T.cls[c]?).bind fun ci => if d < T.cls.length then some (ci.sups.contains d) else none
  | .cls c, .ty b => if c < T.cls.length && tyNames.contains b then some false else none
  | .ty a, .cls d => if d < T.cls.length && tyAll.contains a then some false else none
  | _, _ => none
def isFnOf (f : Nat) : PV → Bool
  | .fn j => j == f
  | _ => false
def fnT (T : Tb) : PV → Bool
  | .fn f => T.glob.any (isFnOf f)
  | _ => true
def isTy (T : Tb) (h : PH) (v : PV) (c : PV) : Option Bool := if fnT T v = true then (tyOf h v).bind fun t => subC T t c else none
def isCl : PV → Bool
  | .ty _ => true
  | .cls _ => true
  | _ => false
def isTys (T : Tb) (h : PH) (v : PV) : List PV → Option Bool
  | [] => some false
  | t :: r => match isTy T h v t with
    | some true => some true
    | some false => isTys T h v r
    | none => none
def lmin : Int → List Int → Int
  | m, [] => m
  | m, x :: r => lmin (if x < m then x else m) r
def lmax : Int → List Int → Int
  | m, [] => m
  | m, x :: r => lmax (if x > m then x else m) r
def lexP (p q : Int × List Nat) : Bool := if p.1 = q.1 then decide (p.2 < q.2) else decide (p.1 < q.1)
def isP : PV → Option (Int × List Nat)
  | .tup [.int i, .str x] => some (i, x)
  | _ => none
def psOf : List PV → Option (List (Int × List Nat))
  | [] => some []
  | v :: r => match isP v, psOf r with
    | some p, some ps => some (p :: ps)
    | _, _ => none
def insP (p : Int × List Nat) : List (Int × List Nat) → List (Int × List Nat)
  | [] => [p]
  | q :: r => if lexP p q = true then p :: q :: r else q :: insP p r
def srtP : List (Int × List Nat) → List (Int × List Nat)
  | [] => []
  | p :: r => insP p (srtP r)
def ofP (p : Int × List Nat) : PV := .tup [.int p.1, .str p.2]
def pBi (T : Tb) (f : Bi) (vs : List PV) (h : PH) : Res PV := match f, vs with
  | .len, [.str x] => if x.length ≤ sizeLine then .ok (.int x.length) h else .stuck
  | .len, [.tup xs] => .ok (.int xs.length) h
  | .len, [.ref l] => (match h[l]? with
    | some (.lst xs) => .ok (.int xs.length) h
    | some (.frz xs) => .ok (.int xs.length) h
    | some (.dic kvs) => .ok (.int kvs.length) h
    | _ => .stuck)
  | .len, [.frk xs] => .ok (.int xs.length) h
  | .abs, [.int i] => .ok (.int (if i < 0 then -i else i)) h
  | .max, [.int i, .int j] => .ok (.int (if j > i then j else i)) h
  | .min, [.int i, .int j] => .ok (.int (if j < i then j else i)) h
  | .int, [.int i] => .ok (.int i) h
  | .int, [.bl b] => .ok (.int (if b then 1 else 0)) h
  | .str, [.int i] => if i.natAbs.log2 < 1920 then .ok (.str (toString i : Str).cps.toList) h else .stuck
  | .ord, [.str [c]] => .ok (.int c) h
  | .list, [.tup xs] => .ok (.ref h.length) (h ++ [.lst xs])
  | .list, [.ref l] => (match lstAt h l with
    | some xs => .ok (.ref h.length) (h ++ [.lst xs])
    | none => .stuck)
  | .list, [.str x] => if x.length ≤ sizeLine then .ok (.ref h.length) (h ++ [.lst (x.map fun c => .str [c])]) else .stuck
  | .tuple, [.tup xs] => .ok (.tup xs) h
  | .tuple, [.ref l] => (match lstAt h l with
    | some xs => .ok (.tup xs) h
    | none => .stuck)
  | .isinst, [v, .tup ts] => if !ts.isEmpty && ts.all isCl then ob (isTys T h v ts) h else .stuck
  | .isinst, [v, t] => ob (isTy T h v t) h
  | .sum, [.ref l] => (match lstAt h l with
    | some xs => (match intsOf xs with
      | some is => .ok (.int is.sum) h
      | none => .stuck)
    | none => .stuck)
  | .all, [.ref l] => (match lstAt h l with
    | some xs => (match blsOf xs with
      | some bs => .ok (.bl (bs.all id)) h
      | none => .stuck)
    | none => .stuck)
  | .any, [.ref l] => (match lstAt h l with
    | some xs => (match blsOf xs with
      | some bs => .ok (.bl (bs.any id)) h
      | none => .stuck)
    | none => .stuck)
  | .min, [.ref l] => (match lstAt h l with
    | some xs => (match intsOf xs with
      | some (i :: is) => .ok (.int (lmin i is)) h
      | _ => .stuck)
    | none => .stuck)
  | .max, [.ref l] => (match lstAt h l with
    | some xs => (match intsOf xs with
      | some (i :: is) => .ok (.int (lmax i is)) h
      | _ => .stuck)
    | none => .stuck)
  | .sorted, [.ref l] => (match lstAt h l with
    | some xs => (match psOf xs with
      | some ps => .ok (.ref h.length) (h ++ [.lst ((srtP ps).map ofP)])
      | none => .stuck)
    | none => .stuck)
  | .repr, [.bl b] => .ok (.str (if b then [84, 114, 117, 101] else [70, 97, 108, 115, 101])) h
  | .repr, [.non] => .ok (.str [78, 111, 110, 101]) h
  | .repr, [.int i] => if i.natAbs.log2 < 1920 then .ok (.str (toString i : Str).cps.toList) h else .stuck
  | .repr, [.str x] => if (reprText ⟨x.toArray⟩).length ≤ sizeLine then .ok (.str (reprText ⟨x.toArray⟩).cps.toList) h else .stuck
  | _, _ => .stuck
inductive Bq where
  | lappend | lpop | lpopl | lextend | lreverse | linsert | lindex | lremove
  | sisascii | sisprintable | sisdigit | sjoin | sremoveprefix
  | dget | dpop
  deriving DecidableEq
def Bq.of : Bm → Nat → Option Bq
  | .append, 0 => some .lappend
  | .pop, 0 => some .lpop
  | .extend, 0 => some .lextend
  | .reverse, 0 => some .lreverse
  | .insert, 0 => some .linsert
  | .index, 0 => some .lindex
  | .remove, 0 => some .lremove
  | .isascii, 2 => some .sisascii
  | .isprintable, 2 => some .sisprintable
  | .isdigit, 2 => some .sisdigit
  | .join, 2 => some .sjoin
  | .removeprefix, 2 => some .sremoveprefix
  | .get, 1 => some .dget
  | .pop, 1 => some .dpop
  | _, _ => none
def kindAt (h : PH) (v : PV) : Nat := match v with
  | .ref l => match h[l]? with
    | some (.lst _) => 0
    | some (.dic _) => 1
    | _ => 9
  | .str _ => 2
  | _ => 9
def keyOf : PV → Option Key
  | .int i => some (.inl i)
  | .str x => some (.inr ⟨x.toArray⟩)
  | _ => none
def pBq (q : Bq) (v : PV) (vs : List PV) (h : PH) : Res PV := match q with
  | .lappend => (match v, vs with
    | .ref l, [x] => (match h[l]? with
      | some (.lst xs) => if xs.length < sizeLine then .ok .non (h.set l (.lst (xs ++ [x]))) else .stuck
      | _ => .stuck)
    | _, _ => .stuck)
  | .lpop => (match v, vs with
    | .ref l, [.int i] => (match h[l]? with
      | some (.lst xs) => (match PySem.seqIndex? i xs.length with
        | some k => (match xs[k]? with
          | some y => if decide (-(2 ^ 63) ≤ i) && decide (i < 2 ^ 63) then .ok y (h.set l (.lst (xs.eraseIdx k))) else .stuck
          | none => .stuck)
        | none => .stuck)
      | _ => .stuck)
    | .ref l, [] => (match h[l]? with
      | some (.lst xs) => (match xs[xs.length - 1]? with
        | some y => .ok y (h.set l (.lst xs.dropLast))
        | none => .stuck)
      | _ => .stuck)
    | _, _ => .stuck)
  | .lextend => (match v, vs with
    | .ref l, [.ref m] => (match h[l]?, h[m]? with
      | some (.lst xs), some (.lst ys) => if xs.length + ys.length ≤ sizeLine then .ok .non (h.set l (.lst (xs ++ ys))) else .stuck
      | _, _ => .stuck)
    | _, _ => .stuck)
  | .linsert => (match v, vs with
    | .ref l, [.int i, y] => (match h[l]? with
      | some (.lst xs) => if decide (xs.length < sizeLine) && decide (0 ≤ i) && decide (i < 2 ^ 63) then .ok .non (h.set l (.lst (xs.take i.toNat ++ [y] ++ xs.drop i.toNat))) else .stuck
      | _ => .stuck)
    | _, _ => .stuck)
  | .lremove => (match v, vs with
    | .ref l, [.str y] => (match h[l]? with
      | some (.lst xs) => (match strsOf xs with
        | some ys => if y ∈ ys then .ok .non (h.set l (.lst ((ys.erase y).map .str))) else .stuck
        | none => .stuck)
      | _ => .stuck)
    | _, _ => .stuck)
  | .lreverse => (match v, vs with
    | .ref l, [] => (match h[l]? with
      | some (.lst xs) => .ok .non (h.set l (.lst xs.reverse))
      | _ => .stuck)
    | _, _ => .stuck)
  | .sisascii => (match v, vs with
    | .str x, [] => .ok (.bl (Txt.isascii ⟨x.toArray⟩)) h
    | _, _ => .stuck)
  | .sisprintable => (match v, vs with
    | .str x, [] => .ok (.bl (Txt.isprintable ⟨x.toArray⟩)) h
    | _, _ => .stuck)
  | .sisdigit => (match v, vs with
    | .str x, [] => .ok (.bl (Txt.isdigit ⟨x.toArray⟩)) h
    | _, _ => .stuck)
  | .sremoveprefix => (match v, vs with
    | .str x, [.str y] => if x.length ≤ sizeLine then .ok (.str (Txt.removeprefix ⟨x.toArray⟩ ⟨y.toArray⟩).cps.toList) h else .stuck
    | _, _ => .stuck)
  | .sjoin => (match v, vs with
    | .str x, [.ref l] => (match lstAt h l with
      | some xs => (match strsOf xs with
        | some ys => if (ys.map (·.length)).sum + ys.length * x.length ≤ 16777216 then .ok (.str (Txt.join ⟨x.toArray⟩ (ys.map fun y => ⟨y.toArray⟩)).cps.toList) h else .stuck
        | none => .stuck)
      | none => .stuck)
    | _, _ => .stuck)
  | .dget => (match v, vs with
    | .ref l, [k] => (match h[l]?, keyOf k with
      | some (.dic kvs), some k => .ok ((dLook kvs k).getD .non) h
      | _, _ => .stuck)
    | .ref l, [k, d] => (match h[l]?, keyOf k with
      | some (.dic kvs), some k => .ok ((dLook kvs k).getD d) h
      | _, _ => .stuck)
    | _, _ => .stuck)
  | .dpop => (match v, vs with
    | .ref l, [k] => (match h[l]?, keyOf k with
      | some (.dic kvs), some k => (match dLook kvs k with
        | some x => .ok x (h.set l (.dic (dDrop kvs k)))
        | none => .stuck)
      | _, _ => .stuck)
    | _, _ => .stuck)
  | _ => .stuck
def attK (T : Tb) (c f : Nat) : Option (Option Nat) := (T.cls[c]?).bind fun ci => match ci.meths.lookup f with
  | some _ => none
  | none => some (ci.props.lookup f)
def fldOf (T : Tb) (f : Nat) (v : PV) (h : PH) : Res PV := match v with
  | .ref l => match h[l]? with
    | some (.ins c fs) => (match attK T c f with
      | some none => (match fs.lookup f with
        | some x => .ok x h
        | none => .stuck)
      | _ => .stuck)
    | _ => .stuck
  | _ => .stuck
def Res.noer {α : Type} : Res α → Res α
  | .ok a h => .ok a h
  | .er _ _ => .stuck
  | .stuck => .stuck
  | .all n k => .all n fun i => (k i).noer
def bindTg (t : Tg) (x : PV) (ρ : PEnv) : Option PEnv := match t with
  | .nm i => some (ρ.set i (some x))
  | .tp is => match x with
    | .tup xs => if xs.length = is.length then some ((is.zip xs).foldl (fun r q => r.set q.1 (some q.2)) ρ) else none
    | _ => none
inductive Wk where
  | fix (xs : List PV)
  | lst (l : Nat)
  | enl (l : Nat)
  | rvl (l n : Nat)
  | zll (l m : Nat)
  | ens (x : List Nat)
  | ent (xs : List PV)
def wkAt (h : PH) (i : Nat) : Wk → Option (Option PV)
  | .fix xs => some xs[i]?
  | .lst l => (lstAt h l).map fun xs => xs[i]?
  | .enl l => (lstAt h l).map fun xs => xs[i]?.map fun x => .tup [.int i, x]
  | .rvl l n => (lstAt h l).bind fun xs => if xs.length = n then some (if i < n then xs[n - 1 - i]? else none) else none
  | .zll l m => (lstAt h l).bind fun xs => (lstAt h m).map fun ys => match xs[i]?, ys[i]? with
    | some x, some y => some (.tup [x, y])
    | _, _ => none
  | .ens x => if i ≤ x.length then some (x[i]?.map fun c => .tup [.int i, .str [c]]) else none
  | .ent xs => if i ≤ xs.length then some (xs[i]?.map fun x => .tup [.int i, x]) else none
def wkOf (k : Ik) (vs : List PV) (h : PH) : Option (Wk × Nat) := match k, vs with
  | .seq, [.tup xs] => some (.fix xs, xs.length)
  | .seq, [.str x] => some (.fix (x.map fun c => .str [c]), x.length)
  | .seq, [.ref l] => (lstAt h l).map fun xs => (.lst l, xs.length)
  | .rng, [.int j] => if decide (-(2 ^ 62) ≤ j) && decide (j < 2 ^ 62) then some (.fix ((List.range j.toNat).map fun (i : Nat) => .int i), j.toNat) else none
  | .rng, [.int i, .int j] => if decide (-(2 ^ 62) ≤ i) && decide (i < 2 ^ 62) && decide (-(2 ^ 62) ≤ j) && decide (j < 2 ^ 62) then some (.fix ((List.range (j - i).toNat).map fun (m : Nat) => .int (i + m)), (j - i).toNat) else none
  | .rng, [.int i, .int j, .int c] => if decide (c = -1) && decide (-(2 ^ 62) ≤ i) && decide (i < 2 ^ 62) && decide (-(2 ^ 62) ≤ j) && decide (j < 2 ^ 62) then some (.fix ((List.range (i - j).toNat).map fun (m : Nat) => .int (i - m)), (i - j).toNat) else none
  | .rvr, [.int j] => if decide (-(2 ^ 62) ≤ j) && decide (j < 2 ^ 62) then some (.fix ((List.range j.toNat).map fun (m : Nat) => .int (j - 1 - m)), j.toNat) else none
  | .enum, [.ref l] => (lstAt h l).map fun xs => (.enl l, xs.length)
  | .enum, [.str x] => if x.length ≤ sizeLine then some (.ens x, x.length) else none
  | .enum, [.tup xs] => some (.ent xs, xs.length)
  | .zip, [.ref l, .ref m] => (lstAt h l).bind fun xs => (lstAt h m).map fun ys => (.zll l m, min xs.length ys.length)
  | .rev, [.ref l] => (lstAt h l).map fun xs => (.rvl l xs.length, xs.length)
  | _, _ => none
section
variable (T : Tb) (call : Nat → List PV → PH → Res PV)
def callG (v : PV) (vs : List PV) (h : PH) : Res PV := match v with
  | .fn f => call f vs h
  | .cls c => match (T.cls[c]?).bind (·.init) with
    | some f => (call f (.ref h.length :: vs) (h ++ [.ins c []])).bind fun v h1 => match v with
      | .non => .ok (.ref h.length) h1
      | _ => .stuck
    | none => .stuck
  | _ => .stuck
def oinP (neg : Bool) (m : Nat) (v w : PV) (h : PH) : Res PV := match w with
  | .ref l => (match h[l]? with
    | some (.ins c _) => (match (T.cls[c]?).bind fun ci => ci.meths.lookup m with
      | some f => (call f [.ref l, v] h).bind fun r h3 => (match r with
        | .bl b => .ok (.bl (b != neg)) h3
        | _ => .stuck)
      | none => .stuck)
    | _ => .stuck)
  | _ => .stuck
def oeqP (v w : PV) (h : PH) : Res PV := match v, w with
  | .ref l, .ref l2 => (match h[l]?, h[l2]? with
    | some (.ins c _), some (.ins c2 _) => if c2 = c then (match (T.cls[c]?).bind (·.eq) with
      | some f => (call f [.ref l, .ref l2] h).bind fun r h3 => (match r with
        | .bl b => .ok (.bl b) h3
        | _ => .stuck)
      | none => .stuck) else .stuck
    | _, _ => .stuck)
  | _, _ => .stuck
def ofKey : Key → PV
  | .inl i => .int i
  | .inr x => .str x.cps.toList
def ddI (ns : List Int) : List Int := ns.foldl (fun a n => if a.contains n then a else a ++ [n]) []
def lcRun (body : PV → PH → Res (Option PV)) (w : Wk) (D : Nat) : Nat → Nat → PH → Res PV
  | 0, _, _ => .stuck
  | n + 1, i, h => match wkAt h i w with
    | none => .stuck
    | some none => .ok (.ref D) h
    | some (some x) => (body x h).bind fun y h1 => match y with
      | none => lcRun body w D n (i + 1) h1
      | some v => match h1[D]? with
        | some (.lst acc) => if acc.length < sizeLine then lcRun body w D n (i + 1) (h1.set D (.lst (acc ++ [v]))) else .stuck
        | _ => .stuck
def accRun (body : PV → PH → Res Unit) (w : Wk) : Nat → Nat → PH → Res Unit
  | 0, _, _ => .stuck
  | n + 1, i, h => match wkAt h i w with
    | none => .stuck
    | some none => .ok () h
    | some (some x) => (body x h).bind fun _ h1 => accRun body w n (i + 1) h1
def accPut (D : Nat) (v : PV) (h : PH) : Res Unit := match h[D]? with
  | some (.lst acc) => if acc.length < sizeLine then .ok () (h.set D (.lst (acc ++ [v]))) else .stuck
  | _ => .stuck
def isNop : Ex → Bool
  | .nop => true
  | _ => false
def partR (e : Ex) (r : Res PV) (h : PH) : Res (Option Int) := match e with
  | .nop => .ok none h
  | _ => r.bind fun v h1 => match v with
    | .int i => .ok (some i) h1
    | _ => .stuck
mutual
def evE : Ex → PEnv → PH → Res PV
  | .var i, ρ, h => match ρ[i]? with
    | some (some v) => .ok v h
    | _ => .stuck
  | .con v, _, h => .ok v h
  | .glob g, _, h => match T.glob[g]? with
    | some v => .ok v h
    | none => .stuck
  | .bin op a b, ρ, h => (evE a ρ h).bind fun v h1 => (evE b ρ h1).bind fun w h2 => pBin op v w h2
  | .neg a, ρ, h => (evE a ρ h).bind fun v h1 => match v with
    | .int i => .ok (.int (-i)) h1
    | _ => .stuck
  | .not a, ρ, h => (evE a ρ h).bind fun v h1 => match pTru h1 v with
    | some b => .ok (.bl (!b)) h1
    | none => .stuck
  | .and a b, ρ, h => (evE a ρ h).bind fun v h1 => match pTru h1 v with
    | some true => evE b ρ h1
    | some false => .ok v h1
    | none => .stuck
  | .or a b, ρ, h => (evE a ρ h).bind fun v h1 => match pTru h1 v with
    | some true => .ok v h1
    | some false => evE b ρ h1
    | none => .stuck
  | .cmp op a b, ρ, h => (evE a ρ h).bind fun v h1 => (evE b ρ h1).bind fun w h2 => pCmp op v w h2
  | .chn o1 o2 a b c, ρ, h => (evE a ρ h).bind fun v h1 => (evE b ρ h1).bind fun w h2 => (pCmp o1 v w h2).bind fun t h3 => match t with
    | .bl true => (evE c ρ h3).bind fun u h4 => pCmp o2 w u h4
    | .bl false => .ok (.bl false) h3
    | _ => .stuck
  | .ife c a b, ρ, h => (evE c ρ h).bind fun v h1 => match pTru h1 v with
    | some true => evE a ρ h1
    | some false => evE b ρ h1
    | none => .stuck
  | .tup es, ρ, h => (evEs es ρ h).bind fun vs h1 => if vs.length ≤ sizeLine then .ok (.tup vs) h1 else .stuck
  | .lst es, ρ, h => (evEs es ρ h).bind fun vs h1 => if vs.length ≤ sizeLine then .ok (.ref h1.length) (h1 ++ [.lst vs]) else .stuck
  | .star _, _, _ => .stuck
  | .ix o i, ρ, h => (evE o ρ h).bind fun v h1 => (evE i ρ h1).bind fun w h2 => pIx v w h2
  | .sl o lo hi, ρ, h => (evE o ρ h).bind fun v h1 => (partR lo (evE lo ρ h1) h1).bind fun l h2 => (partR hi (evE hi ρ h2) h2).bind fun u h3 => pSl v l u h3
  | .nop, _, _ => .stuck
  | .call g es, ρ, h => match T.glob[g]? with
    | some f => (evEs es ρ h).bind fun vs h1 => callG T call f vs h1
    | none => .stuck
  | .callv i es, ρ, h => (match ρ[i]? with
    | some (some (.fn f)) => if T.glob.any (isFnOf f) = true then (evEs es ρ h).bind fun vs h1 => call f vs h1 else .stuck
    | _ => .stuck)
  | .bi f es, ρ, h => (evEs es ρ h).bind fun vs h1 => pBi T f vs h1
  | .mt m b o es, ρ, h => (match b with
    | .none => (match evE o ρ h with
      | .ok (.ref l) h1 => (match h1[l]? with
        | some (.ins c fs) => (match fs.lookup m, (T.cls[c]?).bind fun ci => ci.meths.lookup m with
          | none, some f => (evEs es ρ h1).bind fun vs h2 => call f (.ref l :: vs) h2
          | some (.fn f), none => if T.glob.any (isFnOf f) = true ∧ attK T c m = some none then (evEs es ρ h1).bind fun vs h2 => call f vs h2 else .stuck
          | _, _ => .stuck)
        | _ => .stuck)
      | _ => .stuck)
    | b => (evE o ρ h).bind fun v h1 => (match Bq.of b (kindAt h1 v) with
      | some q => (evEs es ρ h1).bind fun vs h2 => pBq q v vs h2
      | none => .stuck))
  | .repl o y z, ρ, h => (evE o ρ h).bind fun v h1 => match v with
    | .str x => if decide (x.length + (x.length + 1) * z.length ≤ 16777216) && decide (y ≠ z) then .ok (.str (Txt.replace ⟨x.toArray⟩ ⟨y.toArray⟩ ⟨z.toArray⟩).cps.toList) h1 else .stuck
    | _ => .stuck
  | .att o f, ρ, h => (match evE o ρ h with
    | .ok (.ref l) h1 => (match h1[l]? with
      | some (.ins c fs) => (match attK T c f with
        | some (some g) => (call g [.ref l] h1).noer
        | _ => fldOf T f (.ref l) h1)
      | _ => .stuck)
    | r => r.bind fun v h1 => fldOf T f v h1)
  | .lc e own t k its ifs, ρ, h => ((evEs its ρ h).bind fun vs h1 => match wkOf k vs h1 with
    | none => .stuck
    | some (w, n) => lcRun (fun x h2 => match bindTg t x (own.foldr (fun i r => r.set i none) ρ) with
      | none => .stuck
      | some ρ1 => ((evIf ifs ρ1 h2).bind fun b h3 => if b then (evE e ρ1 h3).bind fun y h4 => .ok (some y) h4 else .ok none h3).noer) w h1.length (n + 1) 0 (h1 ++ [.lst []]))
  | .bty f, _, h => match f.tyn with
    | some n => .ok (.ty n) h
    | none => .stuck
  | .dsp, _, h => .ok (.ref h.length) (h ++ [.dic []])
  | .lz es, ρ, h => (evEs es ρ h).bind fun vs h1 => match vs with
    | [.tup xs, .tup ys] => .ok (.ref h1.length) (h1 ++ [.lst (List.zipWith (fun x y => .tup [x, y]) xs ys)])
    | _ => .stuck
  | .lc2 e own t k its ifs own1 t1 k1 its1 ifs1, ρ, h => ((evEs its ρ h).bind fun vs h1 => match wkOf k vs h1 with
    | none => .stuck
    | some (w, n) => (accRun (fun x h2 => match bindTg t x (own.foldr (fun i r => r.set i none) ρ) with
      | none => .stuck
      | some ρ1 => ((evIf ifs ρ1 h2).noer.bind fun b h3 => if b then ((evEs its1 ρ1 h3).noer.bind fun ws h4 => match wkOf k1 ws h4 with
        | none => .stuck
        | some (w1, n1) => accRun (fun y h5 => match bindTg t1 y (own1.foldr (fun i r => r.set i none) ρ1) with
          | none => .stuck
          | some ρ2 => ((evIf ifs1 ρ2 h5).noer.bind fun b h6 => if b then (evE e ρ2 h6).noer.bind fun z h7 => accPut h1.length z h7 else .ok () h6)) w1 (n1 + 1) 0 h4) else .ok () h3)) w (n + 1) 0 (h1 ++ [.lst []])).bind fun _ h9 => .ok (.ref h1.length) h9)
  | .lno m o, ρ, h => (evE o ρ h).bind fun v h1 => (match v with
    | .ref l => (match h1[l]? with
      | some (.ins c _) => (match (T.cls[c]?).bind fun ci => ci.meths.lookup m with
        | some f => (call f [.ref l] h1).noer.bind fun w h2 => (match w with
          | .int i => if decide (0 ≤ i) && decide (i < 2 ^ 63) then .ok (.int i) h2 else .stuck
          | _ => .stuck)
        | none => .stuck)
      | _ => .stuck)
    | _ => .stuck)
  | .calld g es j, ρ, h => (match T.glob[g]?, T.dfl[j]? with
    | some f, some q => (evEs es ρ h).bind fun vs h1 => callG T call f (vs ++ q.2) h1
    | _, _ => .stuck)
  | .mtd m o es j, ρ, h => (match evE o ρ h with
      | .ok (.ref l) h1 => (match h1[l]? with
        | some (.ins c fs) => (match fs.lookup m, (T.cls[c]?).bind (fun ci => ci.meths.lookup m), T.dfl[j]? with
          | none, some f, some q => if f = q.1 then (evEs es ρ h1).bind fun vs h2 => call f (.ref l :: (vs ++ q.2)) h2 else .stuck
          | _, _, _ => .stuck)
        | _ => .stuck)
      | _ => .stuck)
  | .oin neg m a b, ρ, h => (evE a ρ h).bind fun v h1 => (evE b ρ h1).bind fun w h2 => oinP T call neg m v w h2
  | .oeq a b, ρ, h => (evE a ρ h).bind fun v h1 => (evE b ρ h1).bind fun w h2 => oeqP T call v w h2
  | .lit o, ρ, h => (evE o ρ h).bind fun v h1 => (match v with
    | .ref l => (match h1[l]? with
      | some (.dic kvs) => .ok (.ref h1.length) (h1 ++ [.lst (kvs.map fun q => .tup [ofKey q.1, q.2])])
      | _ => .stuck)
    | _ => .stuck)
  | .lset e, ρ, h => (evE e ρ h).bind fun v h1 => (match v with
    | .ref l => (match lstAt h1 l with
      | some xs => (match intsOf xs with
        | some ns => if ns.length < 1000 then .ok (.int (ddI ns).length) h1 else .stuck
        | none => .stuck)
      | none => .stuck)
    | _ => .stuck)
  | .never, _, _ => .stuck
def evEs : List Ex → PEnv → PH → Res (List PV)
  | [], _, h => .ok [] h
  | .star e :: es, ρ, h => (evE e ρ h).bind fun v h1 => match v with
    | .tup xs => (evEs es ρ h1).bind fun vs h2 => .ok (xs ++ vs) h2
    | .ref l => (match lstAt h1 l with
      | some xs => (evEs es ρ h1).bind fun vs h2 => .ok (xs ++ vs) h2
      | none => .stuck)
    | _ => .stuck
  | e :: es, ρ, h => (evE e ρ h).bind fun v h1 => (evEs es ρ h1).bind fun vs h2 => .ok (v :: vs) h2
def evIf : List Ex → PEnv → PH → Res Bool
  | [], _, h => .ok true h
  | e :: es, ρ, h => (evE e ρ h).bind fun v h1 => match pTru h1 v with
    | some true => evIf es ρ h1
    | some false => .ok false h1
    | none => .stuck
end
def evT (e : Ex) (ρ : PEnv) (h : PH) : Res Bool := (evE T call e ρ h).bind fun v h1 => match pTru h1 v with
  | some b => .ok b h1
  | none => .stuck
def putN (f : Nat) (v : PV) : List (Nat × PV) → List (Nat × PV)
  | [] => [(f, v)]
  | (g, x) :: r => if g = f then (f, v) :: r else (g, x) :: putN f v r
def pSet (w k v : PV) (h : PH) : Option PH := match w with
  | .ref l => match h[l]? with
    | some (.lst xs) => (match k with
      | .int j => (match ixN xs.length j with
        | some m => some (h.set l (.lst (xs.set m v)))
        | none => none)
      | _ => none)
    | some (.dic kvs) => (match keyOf k with
      | some k => if kvs.length < sizeLine then some (h.set l (.dic (dPut kvs k v))) else none
      | none => none)
    | _ => none
  | _ => none
def spl {α : Type} (xs ys : List α) (lo hi : Option Int) : List α := xs.take (HT.sIx xs.length 0 lo) ++ ys ++ xs.drop (max (HT.sIx xs.length 0 lo) (HT.sIx xs.length xs.length hi))
def pSlS (w : PV) (lo hi : Option Int) (v : PV) (h : PH) : Option PH := match w, v with
  | .ref l, .ref m => match h[l]?, h[m]? with
    | some (.lst xs), some (.lst ys) => if l ≠ m ∧ xs.length + ys.length ≤ sizeLine then some (h.set l (.lst (spl xs ys lo hi))) else none
    | _, _ => none
  | _, _ => none
def pFld (T : Tb) (w : PV) (f : Nat) (v : PV) (h : PH) : Option PH := match w with
  | .ref l => match h[l]? with
    | some (.ins c fs) => if attK T c f = some none ∧ fs.length < 1000 then some (h.set l (.ins c (putN f v fs))) else none
    | _ => none
  | _ => none
def pDel (v w : PV) (h : PH) : Option PH := match v with
  | .ref l => match h[l]? with
    | some (.lst xs) => (match w with
      | .int i => (match PySem.seqIndex? i xs.length with
        | some k => if decide (-(2 ^ 63) ≤ i) && decide (i < 2 ^ 63) then some (h.set l (.lst (xs.eraseIdx k))) else none
        | none => none)
      | _ => none)
    | some (.dic kvs) => (match keyOf w with
      | some k => if (dLook kvs k).isSome then some (h.set l (.dic (dDrop kvs k))) else none
      | none => none)
    | _ => none
  | _ => none
def pAug (op : Bop) (v w : PV) (h : PH) : Res PV := match op, v, w with
  | .add, .int a, .int b => .ok (.int (a + b)) h
  | .sub, .int a, .int b => .ok (.int (a - b)) h
  | .add, .str a, .str b => if a.length + b.length ≤ sizeLine then .ok (.str (a ++ b)) h else .stuck
  | _, _, _ => .stuck
def bindL (is : List Nat) (v : PV) (ρ : PEnv) (h : PH) : Option PEnv := match v with
  | .ref l => (match lstAt h l with
    | some xs => if xs.length = is.length then some ((is.zip xs).foldl (fun r q => r.set q.1 (some q.2)) ρ) else none
    | none => none)
  | _ => none
def asgTa (t : Ta) (v : PV) (ρ : PEnv) (h : PH) : Res PEnv := match t with
  | .nm i => .ok (ρ.set i (some v)) h
  | .tp is => match bindTg (.tp is) v ρ with
    | some ρ1 => .ok ρ1 h
    | none => match bindL is v ρ h with
      | some ρ1 => .ok ρ1 h
      | none => .stuck
  | .att o f => (evE T call o ρ h).bind fun w h1 => match pFld T w f v h1 with
    | some h2 => .ok ρ h2
    | none => .stuck
  | .ix o i => (evE T call o ρ h).bind fun w h1 => (evE T call i ρ h1).bind fun k h2 => match pSet w k v h2 with
    | some h3 => .ok ρ h3
    | none => .stuck
  | .sl o lo hi => (evE T call o ρ h).bind fun w h1 => (partR lo (evE T call lo ρ h1) h1).bind fun l h2 => (partR hi (evE T call hi ρ h2) h2).bind fun u h3 => match pSlS w l u v h3 with
    | some h4 => .ok ρ h4
    | none => .stuck
def forRun (body : PV → PEnv → PH → Res Fl) (w : Wk) : Nat → Nat → PEnv → PH → Res Fl
  | 0, _, _, _ => .stuck
  | n + 1, i, ρ, h => match wkAt h i w with
    | none => .stuck
    | some none => .ok (.nx ρ) h
    | some (some x) => (body x ρ h).bind fun f h1 => match f with
      | .nx ρ1 => forRun body w n (i + 1) ρ1 h1
      | .ct ρ1 => forRun body w n (i + 1) ρ1 h1
      | .bk ρ1 => .ok (.nx ρ1) h1
      | .rt v => .ok (.rt v) h1
def whRun (c : PEnv → PH → Res Bool) (body : PEnv → PH → Res Fl) : Nat → PEnv → PH → Res Fl
  | 0, _, _ => .stuck
  | n + 1, ρ, h => (c ρ h).bind fun b h1 => if b then (body ρ h1).bind fun f h2 => match f with
      | .nx ρ1 => whRun c body n ρ1 h2
      | .ct ρ1 => whRun c body n ρ1 h2
      | .bk ρ1 => .ok (.nx ρ1) h2
      | .rt v => .ok (.rt v) h2
    else .ok (.nx ρ) h1
mutual
def exS (W : Nat) : Sm → PEnv → PH → Res Fl
  | .asg t e, ρ, h => (evE T call e ρ h).bind fun v h1 => (asgTa T call t v ρ h1).bind fun ρ1 h2 => .ok (.nx ρ1) h2
  | .aug t op e, ρ, h => match t with
    | .nm i => (match ρ[i]? with
      | some (some v) => (evE T call e ρ h).bind fun w h1 => match op, v, w with
        | .add, .int a, .int b => .ok (.nx (ρ.set i (some (.int (a + b))))) h1
        | .sub, .int a, .int b => .ok (.nx (ρ.set i (some (.int (a - b))))) h1
        | .mul, .int a, .int b => if big a b then .ok (.nx (ρ.set i (some (.int (a * b))))) h1 else .stuck
        | _, _, _ => .stuck
      | _ => .stuck)
    | .att o f => (evE T call o ρ h).bind fun w h1 => (match w with
      | .ref l => (match h1[l]? with
        | some (.ins c fs) => (match attK T c f with
          | some none => (match fs.lookup f with
            | some v => (evE T call e ρ h1).bind fun x h3 => (pAug op v x h3).bind fun y h4 => (match h4[l]? with
              | some (.ins c' fs') => if c' = c ∧ fs'.length < 1000 then .ok (.nx ρ) (h4.set l (.ins c (putN f y fs'))) else .stuck
              | _ => .stuck)
            | none => .stuck)
          | _ => .stuck)
        | _ => .stuck)
      | _ => .stuck)
    | _ => .stuck
  | .ex e, ρ, h => (evE T call e ρ h).bind fun _ h1 => .ok (.nx ρ) h1
  | .ret e, ρ, h => (evE T call e ρ h).bind fun v h1 => .ok (.rt v) h1
  | .retn, _, h => .ok (.rt .non) h
  | .ite c a b, ρ, h => (evT T call c ρ h).bind fun t h1 => if t then exSs W a ρ h1 else exSs W b ρ h1
  | .wh c b, ρ, h => whRun (evT T call c) (exSs W b) W ρ h
  | .for_ t k its b, ρ, h => (evEs T call its ρ h).bind fun vs h1 => match wkOf k vs h1 with
    | none => .stuck
    | some (w, n) => forRun (fun x ρ1 h2 => match bindTg t x ρ1 with
      | none => .stuck
      | some ρ2 => exSs W b ρ2 h2) w (n + 1) 0 ρ h1
  | .brk, ρ, h => .ok (.bk ρ) h
  | .cnt, ρ, h => .ok (.ct ρ) h
  | .pass, ρ, h => .ok (.nx ρ) h
  | .raise _ _, _, _ => .stuck
  | .del o i, ρ, h => (evE T call o ρ h).bind fun v h1 => (evE T call i ρ h1).bind fun w h2 => match pDel v w h2 with
    | some h3 => .ok (.nx ρ) h3
    | none => .stuck
  | .never, _, _ => .stuck
def exSs (W : Nat) : List Sm → PEnv → PH → Res Fl
  | [], ρ, h => .ok (.nx ρ) h
  | s :: r, ρ, h => (exS W s ρ h).bind fun f h1 => match f with
    | .nx ρ1 => exSs W r ρ1 h1
    | f => .ok f h1
end
def runBody (W ns : Nat) (b : List Sm) (vs : List PV) (h : PH) : Res PV :=
  (exSs T call W b (vs.map some ++ List.replicate (ns - vs.length) none) h).bind fun f h1 => match f with
    | .nx _ => .ok .non h1
    | .rt v => .ok v h1
    | _ => .stuck
end
end Mn
set_option Elab.async false
set_option linter.all false
set_option maxRecDepth 100000
set_option maxHeartbeats 4000000
namespace Mn
open PySem PySem.Spec L2 PyProof.Rows
def Bop.py : Bop → Operator
  | .add => .Add | .sub => .Sub | .mul => .Mult | .fdiv => .FloorDiv | .mod => .Mod | .pow => .Pow | .band => .BitAnd | .bor => .BitOr | .bxor => .BitXor | .shl => .LShift | .shr => .RShift
def Cop.py : Cop → CmpOp
  | .eq => .Eq | .ne => .NotEq | .lt => .Lt | .le => .LtE | .gt => .Gt | .ge => .GtE | .is_ => .Is | .isn => .IsNot | .in_ => .In | .nin => .NotIn
section
variable {G : Gm} {E : XK} {X : Cx} {as : List Addr} {H : Hp} {h : PH}
theorem RepV.refE {l : Nat} {v : V} (r : RepV G as H (.ref l) v) : ∃ a, as[l]? = some a ∧ v = .ref a := by unfold RepV at r; exact r
theorem RepV.intE {i : Int} {v : V} (r : RepV G as H (.int i) v) : v = .int i := by unfold RepV at r; exact r
theorem RepV.blE {i : Bool} {v : V} (r : RepV G as H (.bl i) v) : v = .bl i := by unfold RepV at r; exact r
theorem RepV.nonE {v : V} (r : RepV G as H .non v) : v = .non := by unfold RepV at r; exact r
theorem RepV.strE {x : List Nat} {v : V} (r : RepV G as H (.str x) v) : v = .str ⟨x.toArray⟩ := by unfold RepV at r; exact r
theorem RepV.tupE {xs : List PV} {v : V} (r : RepV G as H (.tup xs) v) : ∃ a vs, v = .ref a ∧ SqT G.K H a vs ∧ RepVs G as H xs vs := by unfold RepV at r; exact r
theorem RepV.frkE {xs : List PV} {v : V} (r : RepV G as H (.frk xs) v) : ∃ a vs, v = .ref a ∧ SqF G.K H a vs ∧ RepVs G as H xs vs := by unfold RepV at r; exact r
theorem RepV.tyE {n : String} {v : V} (r : RepV G as H (.ty n) v) : v = .ty n := by unfold RepV at r; exact r
theorem RepV.int (i : Int) : RepV G as H (.int i) (.int i) := by unfold RepV; rfl
theorem RepV.bl (i : Bool) : RepV G as H (.bl i) (.bl i) := by unfold RepV; rfl
theorem RepV.non : RepV G as H .non .non := by unfold RepV; rfl
theorem RepV.str (x : List Nat) : RepV G as H (.str x) (.str ⟨x.toArray⟩) := by unfold RepV; rfl
theorem RepV.strO (x : Str) : RepV G as H (.str x.cps.toList) (.str x) := by unfold RepV; rfl
theorem SR.obj (S : SR G as H h) {l : Nat} {a : Addr} {o : PO} (e : h[l]? = some o) (ea : as[l]? = some a) : RepO G as H o a := S.at_ l o a e ea
theorem SR.lst (S : SR G as H h) {l : Nat} {a : Addr} {xs : List PV} (e : lstAt h l = some xs) (ea : as[l]? = some a) : ∃ vs, SqL G.K H a vs ∧ RepVs G as H xs vs := by
  unfold lstAt at e
  split at e
  · rename_i ys q
    cases e
    obtain ⟨vs, e1, r⟩ := S.obj q ea
    exact ⟨vs, .of e1, r⟩
  · rename_i ys q
    cases e
    obtain ⟨o, vs, e1, r⟩ := S.obj q ea
    exact ⟨vs, .inl (.inr ⟨o, e1⟩), r⟩
  · cases e
theorem lstAt_of {l : Nat} {xs : List PV} (e : h[l]? = some (.lst xs)) : lstAt h l = some xs := by unfold lstAt; rw [e]
theorem lstAt_frz {l : Nat} {xs : List PV} (e : h[l]? = some (.frz xs)) : lstAt h l = some xs := by unfold lstAt; rw [e]
theorem SR.lstM (S : SR G as H h) {l : Nat} {a : Addr} {xs : List PV} (e : h[l]? = some (.lst xs)) (ea : as[l]? = some a) : ∃ vs, H a = some (.lst vs) ∧ RepVs G as H xs vs := S.obj e ea
theorem SR.setL (S : SR G as H h) {l : Nat} {a : Addr} {vs ws : List V} {ys : List PV} (ea : as[l]? = some a) (e : H a = some (.lst vs)) (r : RepVs G as H ys ws) : Fut G as H as (upd H a (.lst ws)) (h.set l (.lst ys)) := by
  have k : Kp H (upd H a (.lst ws)) := Kp.mut e (fun _ z => by cases z) (fun _ _ z => by cases z)
  exact S.set ea k ⟨ws, upd_same, r.mono (List.prefix_refl _) k⟩
theorem SR.newL (S : SR G as H h) {p : Addr} {ys : List PV} {ws : List V} (hp : H p = none) (r : RepVs G as H ys ws) : Fut G as H (as ++ [p]) (upd H p (.lst ws)) (h ++ [.lst ys]) ∧ RepV G (as ++ [p]) (upd H p (.lst ws)) (.ref h.length) (.ref p) :=
  S.new hp ⟨ws, upd_same, r.mono (List.prefix_append _ _) (Kp.new hp)⟩
mutual
theorem toD_ok {de : Nat → Option PyData} (hd : ∀ l d a, de l = some d → as[l]? = some a → Dp G.K H (.ref a) d) : ∀ {v : PV} {x : V} {d : PyData}, toD de v = some d → RepV G as H v x → Dp G.K H x d
  | .non, x, d, e, r => by
    simp only [toD] at e; cases e; rw [r.nonE]; exact .non
  | .bl b, x, d, e, r => by
    simp only [toD] at e; cases e; rw [r.blE]; exact .bl b
  | .int i, x, d, e, r => by
    simp only [toD] at e; cases e; rw [r.intE]; exact .int i
  | .str y, x, d, e, r => by
    simp only [toD] at e; cases e; rw [r.strE]; exact .str _
  | .tup xs, x, d, e, r => by
    simp only [toD] at e
    obtain ⟨ds, e1, e2⟩ := Option.map_eq_some_iff.mp e
    subst e2
    obtain ⟨a, vs, rfl, s, rv⟩ := r.tupE
    exact .tup s (toDs_ok hd e1 rv)
  | .ref l, x, d, e, r => by
    simp only [toD] at e
    obtain ⟨a, ea, rfl⟩ := r.refE
    exact hd l d a e ea
  | .frk _, _, _, e, _ => by simp [toD] at e
  | .fn _, _, _, e, _ => by simp [toD] at e
  | .cls _, _, _, e, _ => by simp [toD] at e
  | .ty _, _, _, e, _ => by simp [toD] at e
theorem toDs_ok {de : Nat → Option PyData} (hd : ∀ l d a, de l = some d → as[l]? = some a → Dp G.K H (.ref a) d) : ∀ {vs : List PV} {xs : List V} {ds : List PyData}, toDs de vs = some ds → RepVs G as H vs xs → DpAll G.K H xs ds
  | [], xs, ds, e, r => by
    simp only [toDs] at e; cases e
    unfold RepVs at r; subst r; exact .nil
  | v :: vs, xs, ds, e, r => by
    simp only [toDs] at e
    unfold RepVs at r
    obtain ⟨x, rest, rfl, r1, r2⟩ := r
    split at e
    · cases e
    · rename_i d q
      obtain ⟨es, e1, e2⟩ := Option.map_eq_some_iff.mp e
      subst e2
      exact .cons (toD_ok hd q r1) (toDs_ok hd e1 r2)
end
theorem deref_ok (S : SR G as H h) : ∀ (n l : Nat) (d : PyData) (a : Addr), deref h n l = some d → as[l]? = some a → Dp G.K H (.ref a) d
  | 0, l, d, a, e, _ => by simp [deref] at e
  | n + 1, l, d, a, e, ea => by
    simp only [deref] at e
    split at e
    · rename_i xs q
      obtain ⟨ds, e1, e2⟩ := Option.map_eq_some_iff.mp e
      subst e2
      obtain ⟨vs, s, r⟩ := S.lst (lstAt_of q) ea
      exact .lst s (toDs_ok (deref_ok S n) e1 r)
    · rename_i xs q
      obtain ⟨ds, e1, e2⟩ := Option.map_eq_some_iff.mp e
      subst e2
      obtain ⟨vs, s, r⟩ := S.lst (lstAt_frz q) ea
      exact .lst s (toDs_ok (deref_ok S n) e1 r)
    · cases e
theorem datum_ok (S : SR G as H h) {v : PV} {x : V} {d : PyData} (e : datum h v = some d) (r : RepV G as H v x) : Dp G.K H x d ∧ SeqAt.shaped d = true := by
  unfold datum at e
  split at e
  · rename_i d' q
    split at e
    · rename_i sh
      cases e
      exact ⟨toD_ok (deref_ok S 8) q r, sh⟩
    · cases e
  · cases e
theorem pEq_ok (S : SR G as H h) {v w : PV} {x y : V} {b : Bool} (e : pEq h v w = some b) (r1 : RepV G as H v x) (r2 : RepV G as H w y) :
    ∃ d d', Dp G.K H x d ∧ Dp G.K H y d' ∧ SeqAt.shaped d = true ∧ SeqAt.shaped d' = true ∧ b = PyData.eqv d d' := by
  unfold pEq at e
  split at e
  · rename_i d d' q1 q2
    cases e
    obtain ⟨a1, a2⟩ := datum_ok S q1 r1
    obtain ⟨b1, b2⟩ := datum_ok S q2 r2
    exact ⟨d, d', a1, b1, a2, b2, rfl⟩
  · cases e
abbrev rP2 (G : Gm) (E : XK) (pr : PV → PV → PH → Res PV) : R2 := fun x y H Q => ∃ as h va vb, SR G as H h ∧ RepV G as H va x ∧ RepV G as H vb y ∧ OkV G E as H Q (pr va vb h)
theorem okv {Q : V → Hp → Prop} {w : PV} {v : V} (S : SR G as H h) (o : OkV G E as H Q (.ok w h)) (r : RepV G as H w v) : Q v H := o as H v (Fut.refl S) r
theorem okn {Q : V → Hp → Prop} {w : PV} {v : V} {as' : List Addr} {H' : Hp} {h' : PH} (o : OkV G E as H Q (.ok w h')) (f : Fut G as H as' H' h') (r : RepV G as' H' w v) : Q v H' := o as' H' v f r
theorem str_app (x y : List Nat) : (⟨x.toArray⟩ : Str) ++ (⟨y.toArray⟩ : Str) = ⟨(x ++ y).toArray⟩ := by
  show Str.append _ _ = _
  unfold Str.append
  simp
theorem str_len (x : List Nat) : (⟨x.toArray⟩ : Str).length = x.length := by unfold Str.length; simp
theorem pow_any {pins : List (Addr × Obj)} {s : Shared} {σ : L2.St} {x y : V} {v u : Value} {Q : VK} {i j : Int} (I : Inv X pins σ H s) (rx : RelV (.int i) v) (ry : RelV (.int j) u) (h0 : 0 ≤ j) (hsz : (Builtin.Int.intBits i : Int) * j ≤ 2 ^ 27) (q : Q (.int (i ^ j.toNat)) H) :
    wpAny (model X.prog X.w) X.A (binaryOp .Pow v u) (EP X pins σ Q) X.xe s := by
  obtain ⟨t, rfl⟩ := rx
  obtain ⟨t', rfl⟩ := ry
  exact pow_int h0 hsz ⟨.int _, H, I.tok _, ⟨_, rfl⟩, q⟩
open PySem.P in
theorem mul_strP {prog : Program} {w : World} {A : Around} {E : Value → Shared → Prop} {s : Shared} {x : Str} {n : Int} {t u : Tok} {Q : Value → Shared → Prop} (hr : (decide (n < -(2 ^ 63 : Int)) || decide (n ≥ 2 ^ 63)) = false)
    (hb : ¬ n < 1 → (n == 1 || x.length == 0) = false → ¬ ((x.length : Int) > (2 ^ 63 - 1) / n)) (hl : ¬ n < 1 → (n == 1 || x.length == 0) = false → Builtin.Str.tooLong (x.length * n.toNat) = false)
    (h : (if n < 1 then Made.str Str.empty else if (n == 1 || x.length == 0) = true then Made.val (.str x t) else Made.str ⟨(List.replicate n.toNat x.cps).foldl (· ++ ·) #[]⟩).post Q s) :
    wpAny (model prog w) A (binaryOp .Mult (.str x t) (.int n u)) Q E s := mul_str hr hb hl h
theorem op_bin (hk : X.K = G.K) (op : Bop) : OpR X (binaryOp op.py) (rP2 G E (pBin op)) := by
  intro pins s σ H x y v u Q I rx ry ⟨as, h, va, vb, S, ra, rb, o⟩
  unfold pBin at o
  split at o
  · -- int + int
    rw [ra.intE] at rx; rw [rb.intE] at ry
    exact op_add pins s σ H _ _ v u Q I rx ry ⟨_, _, rfl, rfl, okv S o (.int _)⟩
  · -- str + str
    split at o
    · rename_i hl
      rw [ra.strE] at rx; rw [rb.strE] at ry
      refine op_add_str pins s σ H _ _ v u Q I rx ry ⟨_, _, rfl, rfl, by simpa [str_len] using hl, ?_⟩
      rw [str_app]
      exact okv S o (.str _)
    · exact False.elim o
  · -- tuple + tuple
    split at o
    · rename_i hl
      obtain ⟨a, vs, rfl, sa, r1⟩ := ra.tupE
      obtain ⟨b, ws, rfl, sb, r2⟩ := rb.tupE
      rename_i xs ys
      refine op_catA pins s σ H _ _ v u Q I rx ry ⟨a, b, vs, ws, rfl, rfl, by rw [hk]; exact sa, by rw [hk]; exact sb, by rw [← r1.length, ← r2.length]; exact hl, fun e => ?_, fun _ e => ?_, fun _ _ p hp => ?_⟩
      · have e2 : xs = [] := List.eq_nil_of_length_eq_zero (by rw [r1.length, e]; rfl)
        subst e2
        exact okv S o (by unfold RepV; exact ⟨b, ws, rfl, sb, by simpa using r2⟩)
      · have e2 : ys = [] := List.eq_nil_of_length_eq_zero (by rw [r2.length, e]; rfl)
        subst e2
        exact okv S o (by unfold RepV; exact ⟨a, vs, rfl, sa, by simpa using r1⟩)
      · obtain ⟨f, r⟩ := S.tup hp (r1.append r2)
        exact okn o f r
    · exact False.elim o
  · -- list + list
    obtain ⟨a, ea, rfl⟩ := ra.refE
    obtain ⟨b, eb, rfl⟩ := rb.refE
    split at o
    · rename_i x1 y1 q1 q2
      split at o
      · rename_i hl
        obtain ⟨vs, e1, r1⟩ := S.lstM q1 ea
        obtain ⟨ws, e2, r2⟩ := S.lstM q2 eb
        refine op_cat pins s σ H _ _ v u Q I rx ry ⟨a, b, vs, ws, rfl, rfl, e1, e2, by rw [← r1.length, ← r2.length]; exact hl, fun p hp => ?_⟩
        obtain ⟨f, r⟩ := S.newL hp (r1.append r2)
        exact okn o f r
      · exact False.elim o
    · exact False.elim o
  · rw [ra.intE] at rx; rw [rb.intE] at ry
    exact op_sub pins s σ H _ _ v u Q I rx ry ⟨_, _, rfl, rfl, okv S o (.int _)⟩
  · -- int * int
    split at o
    · rename_i hb
      rw [ra.intE] at rx; rw [rb.intE] at ry
      exact op_mulW pins s σ H _ _ v u Q I rx ry ⟨_, _, rfl, rfl, (show _ < 1000000 from of_decide_eq_true hb), okv S o (.int _)⟩
    · exact False.elim o
  · -- list * int
    obtain ⟨a, ea, rfl⟩ := ra.refE
    rw [rb.intE] at ry
    split at o
    · rename_i x1 q1
      split at o
      · rename_i hl
        simp only [Bool.and_eq_true, decide_eq_true_eq] at hl
        obtain ⟨vs, e1, r1⟩ := S.lstM q1 ea
        refine op_rep pins s σ H _ _ v u Q I rx ry ⟨a, _, vs, rfl, rfl, e1, hl.1.1, hl.1.2, by rw [← r1.length]; exact hl.2, fun p hp => ?_⟩
        have rr : ∀ n : Nat, RepVs G as H (List.replicate n x1).flatten (List.replicate n vs).flatten := fun n => by
          induction n with
          | zero => simpa using RepVs.nil
          | succ n ih => simpa [List.replicate_succ] using r1.append ih
        obtain ⟨f, r⟩ := S.newL hp (rr _)
        exact okn o f r
      · exact False.elim o
    · exact False.elim o
  · -- str * int
    split at o
    · rename_i x1 k1 hl
      simp only [Bool.and_eq_true, decide_eq_true_eq] at hl
      rw [ra.strE] at rx; rw [rb.intE] at ry
      obtain ⟨t, rfl⟩ := rx
      obtain ⟨t', rfl⟩ := ry
      obtain ⟨⟨h1, h2⟩, h3⟩ := hl
      have hlen : (⟨x1.toArray⟩ : Str).length = x1.length := by rw [str_len]
      refine mul_strP (by rw [decide_eq_false (by omega), decide_eq_false (by omega)]; rfl) ?_ (fun a b => ?_) ?_
      · intro a b
        rw [hlen]
        have hk1 : 0 < k1 := by omega
        have h4 : x1.length * k1.toNat ≤ 16777216 := h3
        have h5 : (x1.length : Int) * k1 ≤ 16777216 := by
          have e : ((x1.length * k1.toNat : Nat) : Int) = (x1.length : Int) * k1 := by
            push_cast
            rw [Int.toNat_of_nonneg (by omega)]
          omega
        have h6 : (x1.length : Int) ≤ (2 ^ 63 - 1) / k1 := (Int.le_ediv_iff_mul_le hk1).mpr (by omega)
        omega
      · unfold Builtin.Str.tooLong
        rw [hlen]
        exact decide_eq_false (by omega)
      · have key : ∀ n : Nat, ((List.replicate n (⟨x1.toArray⟩ : Str).cps).foldl (· ++ ·) #[] : Array Nat) = ((List.replicate n x1).flatten).toArray := fun n => by
          have gen : ∀ (n : Nat) (acc : List Nat), (List.replicate n (x1.toArray)).foldl (· ++ ·) acc.toArray = (acc ++ (List.replicate n x1).flatten).toArray := fun n => by
            induction n with
            | zero => intro acc; simp
            | succ n ih =>
              intro acc
              rw [List.replicate_succ, List.foldl_cons, List.append_toArray, ih]
              simp [List.replicate_succ]
          simpa using gen n []
        have fin : ∀ (z : Str), z = ⟨(List.replicate k1.toNat x1).flatten.toArray⟩ → Q (.str z) H := fun z e => by
          rw [e]
          exact okv S o (.str _)
        split
        · rename_i hn
          refine ⟨by decide, ?_⟩
          have e0 : k1.toNat = 0 := by omega
          exact ⟨.str Str.empty, H, I.tok _, ⟨_, rfl⟩, fin _ (by rw [e0]; rfl)⟩
        · split
          · rename_i hc
            have e1 : (⟨x1.toArray⟩ : Str) = ⟨(List.replicate k1.toNat x1).flatten.toArray⟩ := by
              simp only [Bool.or_eq_true, beq_iff_eq] at hc
              rcases hc with hc | hc
              · subst hc; simp
              · rw [hlen] at hc
                have : x1 = [] := List.eq_nil_of_length_eq_zero hc
                subst this
                congr 1
                have : ∀ n : Nat, (List.replicate n ([] : List Nat)).flatten = [] := fun n => by induction n <;> simp_all [List.replicate_succ]
                rw [this]
            exact ⟨.str _, H, I, ⟨_, rfl⟩, fin _ e1⟩
          · refine ⟨?_, ⟨.str _, H, I.tok _, ⟨_, rfl⟩, fin _ (by rw [key])⟩⟩
            rw [key, str_len]
            have ln : ∀ n : Nat, (List.replicate n x1).flatten.length = x1.length * n := fun n => by
              induction n with
              | zero => simp
              | succ n ih => simp [List.replicate_succ, ih, Nat.mul_succ, Nat.add_comm]
            rw [ln]
            exact h3
    · exact False.elim o
  · -- //
    split at o
    · rename_i hb
      simp only [Bool.and_eq_true, decide_eq_true_eq] at hb
      rw [ra.intE] at rx; rw [rb.intE] at ry
      exact op_fdivW pins s σ H _ _ v u Q I rx ry ⟨_, _, rfl, rfl, hb, okv S o (.int _)⟩
    · exact False.elim o
  · split at o
    · rename_i hb
      rw [ra.intE] at rx; rw [rb.intE] at ry
      exact op_mod pins s σ H _ _ v u Q I rx ry ⟨_, _, rfl, rfl, of_decide_eq_true hb, okv S o (.int _)⟩
    · exact False.elim o
  · split at o
    · rename_i hb
      simp only [Bool.and_eq_true, decide_eq_true_eq] at hb
      rw [ra.intE] at rx; rw [rb.intE] at ry
      exact pow_any (x := x) (y := y) I rx ry hb.1 hb.2 (okv S o (.int _))
    · exact False.elim o
  · split at o
    · rename_i hb
      simp only [Bool.and_eq_true, decide_eq_true_eq] at hb
      rw [ra.intE] at rx; rw [rb.intE] at ry
      exact op_shl pins s σ H _ _ v u Q I rx ry ⟨_, _, rfl, rfl, ⟨hb.1.1, hb.1.2, hb.2⟩, okv S o (.int _)⟩
    · exact False.elim o
  · split at o
    · rename_i hb
      rw [ra.intE] at rx; rw [rb.intE] at ry
      exact op_shr pins s σ H _ _ v u Q I rx ry ⟨_, _, rfl, rfl, of_decide_eq_true hb, okv S o (.int _)⟩
    · exact False.elim o
  · rw [ra.intE] at rx; rw [rb.intE] at ry
    exact op_and pins s σ H _ _ v u Q I rx ry ⟨_, _, rfl, rfl, okv S o (.int _)⟩
  · rw [ra.intE] at rx; rw [rb.intE] at ry
    exact op_or pins s σ H _ _ v u Q I rx ry ⟨_, _, rfl, rfl, okv S o (.int _)⟩
  · rw [ra.intE] at rx; rw [rb.intE] at ry
    exact op_xor pins s σ H _ _ v u Q I rx ry ⟨_, _, rfl, rfl, okv S o (.int _)⟩
  · exact False.elim o
theorem ob_ok {b : Option Bool} {Q : V → Hp → Prop} (o : OkV G E as H Q (ob b h)) (S : SR G as H h) : ∃ c, b = some c ∧ Q (.bl c) H := by
  unfold ob at o
  split at o
  · exact ⟨_, rfl, okv S o (.bl _)⟩
  · exact False.elim o
theorem flat_in {y : List Nat} {c : Nat} : decide (c ∈ (⟨y.toArray⟩ : Str).cps.toList) = y.contains c := by
  show decide (c ∈ y.toArray.toList) = _
  rw [Bool.eq_iff_iff]
  simp
theorem op_inT (hu : X.A.units + 65 < cLine) : OpR X (compareOp .In) (fun x y H Q => ∃ d ds, Dp X.K H x d ∧ Dp X.K H y (.tuple ds) ∧ SeqAt.shaped d = true ∧ SeqAt.shaped (.tuple ds) = true ∧ Q (.bl (ds.any fun z => PyData.eqv z d)) H) := by
  intro pins s σ H x y v u Q I rx ry h
  obtain ⟨d, ds, hd, he, sd, se, q⟩ := h
  obtain ⟨as, r1⟩ := Dp.reads I d x v hd rx
  obtain ⟨bs, r2⟩ := Dp.reads I (.tuple ds) y u he ry
  exact SeqAt.in_tuple_reads r2 r1 (SeqAt.canLay_of_shaped se) (SeqAt.canLay_of_shaped sd) (room_in_shaped sd hu) ⟨.bl _, H, I, rfl, q⟩
theorem op_notInT (hu : X.A.units + 65 < cLine) : OpR X (compareOp .NotIn) (fun x y H Q => ∃ d ds, Dp X.K H x d ∧ Dp X.K H y (.tuple ds) ∧ SeqAt.shaped d = true ∧ SeqAt.shaped (.tuple ds) = true ∧ Q (.bl (!ds.any fun z => PyData.eqv z d)) H) := by
  intro pins s σ H x y v u Q I rx ry h
  obtain ⟨d, ds, hd, he, sd, se, q⟩ := h
  obtain ⟨as, r1⟩ := Dp.reads I d x v hd rx
  obtain ⟨bs, r2⟩ := Dp.reads I (.tuple ds) y u he ry
  exact SeqAt.notIn_tuple_reads r2 r1 (SeqAt.canLay_of_shaped se) (SeqAt.canLay_of_shaped sd) (room_in_shaped sd hu) ⟨.bl _, H, I, rfl, q⟩
theorem dLook_ok : ∀ {kvs : List (Key × PV)} {ks : List (Key × V)} (k : Key), RepK G as H kvs ks → (∀ x, dLook kvs k = some x → ∃ v, valV ks k = some v ∧ RepV G as H x v) ∧ (dLook kvs k = none → valV ks k = none)
  | [], ks, k, r => by
    unfold RepK at r; subst r
    exact ⟨fun x e => by simp [dLook] at e, fun _ => rfl⟩
  | (k', x) :: kvs, ks, k, r => by
    unfold RepK at r
    obtain ⟨v, rest, rfl, r1, r2⟩ := r
    obtain ⟨i1, i2⟩ := dLook_ok k r2
    by_cases e : k' = k
    · subst e
      refine ⟨fun y q => ?_, fun q => ?_⟩
      · simp [dLook] at q
        subst q
        exact ⟨v, by simp [valV], r1⟩
      · simp [dLook] at q
    · have a : dLook ((k', x) :: kvs) k = dLook kvs k := by simp [dLook, List.find?_cons, e]
      have b : valV ((k', v) :: rest) k = valV rest k := by simp [valV, List.find?_cons, e]
      rw [a, b]
      exact ⟨i1, i2⟩
theorem dLook_iff {kvs : List (Key × PV)} {ks : List (Key × V)} (k : Key) (r : RepK G as H kvs ks) : (dLook kvs k).isSome = (valV ks k).isSome := by
  obtain ⟨a, b⟩ := dLook_ok k r
  cases e : dLook kvs k with
  | none => rw [b e]; rfl
  | some x => obtain ⟨v, e1, _⟩ := a x e; rw [e1]; rfl
theorem RepK.length : ∀ {kvs : List (Key × PV)} {ks : List (Key × V)}, RepK G as H kvs ks → kvs.length = ks.length
  | [], ks, r => by unfold RepK at r; subst r; rfl
  | (k', x) :: kvs, ks, r => by
    unfold RepK at r
    obtain ⟨v, rest, rfl, r1, r2⟩ := r
    simp [RepK.length r2]
theorem RepK.append : ∀ {kvs : List (Key × PV)} {ks : List (Key × V)} {k : Key} {x : PV} {v : V}, RepK G as H kvs ks → RepV G as H x v → RepK G as H (kvs ++ [(k, x)]) (ks ++ [(k, v)])
  | [], ks, k, x, v, r, q => by unfold RepK at r; subst r; unfold RepK; exact ⟨v, [], rfl, q, by unfold RepK; rfl⟩
  | (k', y) :: kvs, ks, k, x, v, r, q => by
    unfold RepK at r
    obtain ⟨w, rest, rfl, r1, r2⟩ := r
    show RepK G as H ((k', y) :: (kvs ++ [(k, x)])) ((k', w) :: (rest ++ [(k, v)]))
    unfold RepK
    exact ⟨w, _, rfl, r1, RepK.append r2 q⟩
theorem RepK.mapP : ∀ {kvs : List (Key × PV)} {ks : List (Key × V)} {k : Key} {x : PV} {v : V}, RepK G as H kvs ks → RepV G as H x v →
    RepK G as H (kvs.map fun kv => if kv.1 = k then (kv.1, x) else kv) (ks.map fun kv => if kv.1 = k then (kv.1, v) else kv)
  | [], ks, k, x, v, r, q => by unfold RepK at r; subst r; unfold RepK; rfl
  | (k', y) :: kvs, ks, k, x, v, r, q => by
    unfold RepK at r
    obtain ⟨w, rest, rfl, r1, r2⟩ := r
    by_cases e : k' = k
    · simp only [List.map_cons, e, if_true]
      unfold RepK
      exact ⟨v, _, rfl, q, RepK.mapP r2 q⟩
    · simp only [List.map_cons, e, if_false]
      unfold RepK
      exact ⟨w, _, rfl, r1, RepK.mapP r2 q⟩
theorem dPut_ok {kvs : List (Key × PV)} {ks : List (Key × V)} {k : Key} {x : PV} {v : V} (r : RepK G as H kvs ks) (q : RepV G as H x v) : RepK G as H (dPut kvs k x) (putK ks k v) := by
  have e : (kvs.any fun kv => decide (kv.1 = k)) = (ks.any fun kv => decide (kv.1 = k)) := by
    clear q
    induction kvs generalizing ks with
    | nil => unfold RepK at r; subst r; rfl
    | cons p kvs ih =>
      obtain ⟨k', y⟩ := p
      unfold RepK at r
      obtain ⟨w, rest, rfl, r1, r2⟩ := r
      simp only [List.any_cons, ih r2]
  unfold dPut putK
  rw [e]
  split
  · exact r.mapP q
  · exact r.append q
theorem dDrop_ok : ∀ {kvs : List (Key × PV)} {ks : List (Key × V)} {k : Key}, RepK G as H kvs ks → RepK G as H (dDrop kvs k) (dropK ks k)
  | [], ks, k, r => by unfold RepK at r; subst r; unfold dDrop dropK RepK; rfl
  | (k', y) :: kvs, ks, k, r => by
    unfold RepK at r
    obtain ⟨w, rest, rfl, r1, r2⟩ := r
    have ih := dDrop_ok (k := k) r2
    unfold dDrop dropK at ih ⊢
    by_cases e : k' = k
    · simp only [List.filter_cons, e, ne_eq, not_true_eq_false, decide_false]
      simpa using ih
    · simp only [List.filter_cons, e, ne_eq, not_false_eq_true, decide_true, if_true]
      unfold RepK
      exact ⟨w, _, rfl, r1, ih⟩
theorem SR.dic (S : SR G as H h) {l : Nat} {a : Addr} {kvs : List (Key × PV)} (e : h[l]? = some (.dic kvs)) (ea : as[l]? = some a) : ∃ ks, H a = some (.dK ks) ∧ RepK G as H kvs ks := S.obj e ea
theorem SR.setD (S : SR G as H h) {l : Nat} {a : Addr} {ks ws : List (Key × V)} {ys : List (Key × PV)} (ea : as[l]? = some a) (e : H a = some (.dK ks)) (r : RepK G as H ys ws) : Fut G as H as (upd H a (.dK ws)) (h.set l (.dic ys)) := by
  have k : Kp H (upd H a (.dK ws)) := Kp.mut e (fun _ z => by cases z) (fun _ _ z => by cases z)
  exact S.set ea k ⟨ws, upd_same, r.mono (List.prefix_refl _) k⟩
theorem pIn_ok (hk : X.K = G.K) (hu : X.A.units + 70 < cLine) {va vb : PV} {x y : V} {b : Bool} {Q : V → Hp → Prop} {pins : List (Addr × Obj)} {s : Shared} {σ : L2.St} {v u : Value} (S : SR G as H h) (I : Inv X pins σ H s) (rx : RelV x v) (ry : RelV y u) (ra : RepV G as H va x) (rb : RepV G as H vb y) (e : pIn h va vb = some b) :
    (Q (.bl b) H → wpAny (model X.prog X.w) X.A (compareOp .In v u) (EP X pins σ Q) X.xe s) ∧ (Q (.bl (!b)) H → wpAny (model X.prog X.w) X.A (compareOp .NotIn v u) (EP X pins σ Q) X.xe s) := by
  unfold pIn at e
  split at e
  · split at e
    · rename_i d ds q1 q2
      cases e
      obtain ⟨a1, a2⟩ := datum_ok S q1 ra
      obtain ⟨b1, b2⟩ := datum_ok S q2 rb
      exact ⟨fun q => op_inT (by omega) pins s σ H x y v u Q I rx ry ⟨d, ds, by rw [hk]; exact a1, by rw [hk]; exact b1, a2, b2, q⟩,
        fun q => op_notInT (by omega) pins s σ H x y v u Q I rx ry ⟨d, ds, by rw [hk]; exact a1, by rw [hk]; exact b1, a2, b2, q⟩⟩
    · cases e
  · split at e
    · split at e
      · rename_i d ds q1 q2
        cases e
        obtain ⟨a1, a2⟩ := datum_ok S q1 ra
        obtain ⟨b1, b2⟩ := datum_ok S q2 rb
        exact ⟨fun q => op_inD (by omega) pins s σ H x y v u Q I rx ry ⟨d, ds, by rw [hk]; exact a1, by rw [hk]; exact b1, a2, b2, q⟩,
          fun q => op_notInD (by omega) pins s σ H x y v u Q I rx ry ⟨d, ds, by rw [hk]; exact a1, by rw [hk]; exact b1, a2, b2, q⟩⟩
      · cases e
    · rename_i l kvs ql
      obtain ⟨a, ea, rfl⟩ := rb.refE
      obtain ⟨ks, ed, rk⟩ := S.dic ql ea
      obtain rfl : u = Value.ref a := ry
      split at e
      · rename_i i
        cases e
        rw [ra.intE] at rx
        refine ⟨fun q => d_in (by omega) I (DGet.k (k := Sum.inl i) ed) rx fun s' I' => ⟨.bl _, H, I', rfl, by rw [← dLook_iff _ rk]; exact q⟩,
          fun q => d_notIn (by omega) I (DGet.k (k := Sum.inl i) ed) rx fun s' I' => ⟨.bl _, H, I', rfl, by rw [← dLook_iff _ rk]; exact q⟩⟩
      · rename_i z
        cases e
        rw [ra.strE] at rx
        refine ⟨fun q => d_in (by omega) I (DGet.k (k := Sum.inr ⟨z.toArray⟩) ed) rx fun s' I' => ⟨.bl _, H, I', rfl, by rw [← dLook_iff _ rk]; exact q⟩,
          fun q => d_notIn (by omega) I (DGet.k (k := Sum.inr ⟨z.toArray⟩) ed) rx fun s' I' => ⟨.bl _, H, I', rfl, by rw [← dLook_iff _ rk]; exact q⟩⟩
      · cases e
    · cases e
  · split at e
    · rename_i y c
      cases e
      rw [ra.strE] at rx; rw [rb.strE] at ry
      refine ⟨fun q => op_in_sign pins s σ H _ _ v u Q I rx ry ⟨c, _, by simp, rfl, by rw [flat_in]; exact q⟩,
        fun q => op_notIn_sign pins s σ H _ _ v u Q I rx ry ⟨c, _, by simp, rfl, by rw [flat_in]; exact q⟩⟩
    · cases e
  · cases e
theorem repNon {v : PV} {x : V} (r : RepV G as H v x) : decide (x = .non) = isNon v := by
  unfold isNon
  cases v with
  | non => rw [r.nonE]; simp
  | bl b => rw [r.blE]; simp
  | int b => rw [r.intE]; simp
  | str b => rw [r.strE]; simp
  | tup xs => obtain ⟨a, vs, rfl, _⟩ := r.tupE; simp
  | ref l => obtain ⟨a, _, rfl⟩ := r.refE; simp
  | frk l => obtain ⟨a, _, rfl, _⟩ := r.frkE; simp
  | fn i => unfold RepV at r; subst r; simp
  | cls i => unfold RepV at r; subst r; simp
  | ty i => unfold RepV at r; subst r; simp
theorem dLt_ok (hk : X.K = G.K) (S : SR G as H h) (hu : X.A.units + 70 < cLine) {vs ws : List PV} {x y : V} {b : Bool} (e : dLt h (.tup vs) (.tup ws) = some b) (r1 : RepV G as H (.tup vs) x) (r2 : RepV G as H (.tup ws) y) {pins : List (Addr × Obj)} {s : Shared} {σ : L2.St} {v u : Value} (I : Inv X pins σ H s) (rx : RelV x v) (ry : RelV y u) :
    ∃ d d' as bs, b = PySem.W.dataLt d d' ∧ Reads s.heap v d as ∧ Reads s.heap u d' bs ∧ PySem.W.alike d d' = true ∧ PySem.W.alike d' d = true ∧ d ≠ .none ∧ d' ≠ .none ∧ X.A.units + min d.depth d'.depth < cLine ∧ X.A.units + min d'.depth d.depth < cLine := by
  unfold dLt at e
  split at e
  · rename_i d d' q1 q2
    split at e
    · rename_i ha
      cases e
      obtain ⟨p1, s1⟩ := datum_ok S q1 r1
      obtain ⟨p2, s2⟩ := datum_ok S q2 r2
      rw [← hk] at p1 p2
      obtain ⟨as, g1⟩ := Dp.reads I d x v p1 rx
      obtain ⟨bs, g2⟩ := Dp.reads I d' y u p2 ry
      have dn : ∀ {zs : List PV} {z : PyData}, datum h (.tup zs) = some z → z ≠ .none := fun {zs z} q e => by
        subst e
        unfold datum at q
        simp only [toD] at q
        split at q
        · rename_i w hw
          split at q
          · cases q
            obtain ⟨_, _, q2⟩ := Option.map_eq_some_iff.mp hw
            cases q2
          · cases q
        · cases q
      have dd : d.depth ≤ 64 := by
        unfold SeqAt.shaped at s1
        simp only [Bool.and_eq_true, decide_eq_true_eq] at s1
        exact s1.2
      have dd' : d'.depth ≤ 64 := by
        unfold SeqAt.shaped at s2
        simp only [Bool.and_eq_true, decide_eq_true_eq] at s2
        exact s2.2
      exact ⟨d, d', as, bs, rfl, g1, g2, ha, by rw [PySem.W.alike_comm]; exact ha, dn q1, dn q2, by omega, by omega⟩
    · cases e
  · cases e
theorem op_cmp (hk : X.K = G.K) (hu : X.A.units + 70 < cLine) (op : Cop) : OpR X (compareOp op.py) (rP2 G E (pCmp op)) := by
  intro pins s σ H x y v u Q I rx ry ⟨as, h, va, vb, S, ra, rb, o⟩
  unfold pCmp at o
  cases op with
  | eq =>
    obtain ⟨b, e, q⟩ := ob_ok o S
    obtain ⟨d, d', h1, h2, h3, h4, rfl⟩ := pEq_ok S e ra rb
    exact op_eqD (by omega) pins s σ H x y v u Q I rx ry ⟨d, d', by rw [hk]; exact h1, by rw [hk]; exact h2, h3, h4, q⟩
  | ne =>
    obtain ⟨b, e, q⟩ := ob_ok o S
    obtain ⟨c, e1, rfl⟩ := Option.map_eq_some_iff.mp e
    obtain ⟨d, d', h1, h2, h3, h4, rfl⟩ := pEq_ok S e1 ra rb
    exact op_neD (by omega) pins s σ H x y v u Q I rx ry ⟨d, d', by rw [hk]; exact h1, by rw [hk]; exact h2, h3, h4, q⟩
  | in_ =>
    obtain ⟨b, e, q⟩ := ob_ok o S
    exact (pIn_ok hk hu S I rx ry ra rb e).1 q
  | nin =>
    obtain ⟨b, e, q⟩ := ob_ok o S
    obtain ⟨c, e1, rfl⟩ := Option.map_eq_some_iff.mp e
    exact (pIn_ok hk hu S I rx ry ra rb e1).2 q
  | is_ =>
    dsimp only at o
    split at o
    · rw [rb.nonE] at ry
      exact op_isN pins s σ H x _ v u Q I rx ry ⟨rfl, by rw [repNon ra]; exact okv S o (.bl _)⟩
    · exact False.elim o
  | isn =>
    dsimp only at o
    split at o
    · rw [rb.nonE] at ry
      refine op_notN pins s σ H x _ v u Q I rx ry ⟨rfl, by rw [repNon ra]; exact okv S o (.bl _)⟩
    · exact False.elim o
  | lt =>
    dsimp only at o
    split at o
    · rw [ra.intE] at rx; rw [rb.intE] at ry
      exact op_lt pins s σ H _ _ v u Q I rx ry ⟨_, _, rfl, rfl, okv S o (.bl _)⟩
    · rw [ra.strE] at rx; rw [rb.strE] at ry
      exact op_lt_str pins s σ H _ _ v u Q I rx ry ⟨_, _, rfl, rfl, okv S o (.bl _)⟩
    · obtain ⟨b, e, q⟩ := ob_ok o S
      obtain ⟨d, d', as, bs, rfl, g1, g2, h1, h2, n1, n2, u1, u2⟩ := dLt_ok hk S hu e ra rb I rx ry
      exact PySem.W.lt_data g1 g2 h1 n1 u1 ⟨.bl _, H, I, rfl, q⟩
    · exact False.elim o
  | le =>
    dsimp only at o
    split at o
    · rw [ra.intE] at rx; rw [rb.intE] at ry
      exact op_le pins s σ H _ _ v u Q I rx ry ⟨_, _, rfl, rfl, okv S o (.bl _)⟩
    · rw [ra.strE] at rx; rw [rb.strE] at ry
      exact op_le_str pins s σ H _ _ v u Q I rx ry ⟨_, _, rfl, rfl, okv S o (.bl _)⟩
    · obtain ⟨b, e0, q⟩ := ob_ok o S
      obtain ⟨b1, e, rfl⟩ := Option.map_eq_some_iff.mp e0
      obtain ⟨d, d', as, bs, rfl, g1, g2, h1, h2, n1, n2, u1, u2⟩ := dLt_ok hk S hu e rb ra I ry rx
      exact PySem.W.le_data g2 g1 h2 n2 u2 ⟨.bl _, H, I, rfl, q⟩
    · exact False.elim o
  | gt =>
    dsimp only at o
    split at o
    · rw [ra.intE] at rx; rw [rb.intE] at ry
      exact op_gt pins s σ H _ _ v u Q I rx ry ⟨_, _, rfl, rfl, okv S o (.bl _)⟩
    · rw [ra.strE] at rx; rw [rb.strE] at ry
      exact op_gt_str pins s σ H _ _ v u Q I rx ry ⟨_, _, rfl, rfl, okv S o (.bl _)⟩
    · obtain ⟨b, e, q⟩ := ob_ok o S
      obtain ⟨d, d', as, bs, rfl, g1, g2, h1, h2, n1, n2, u1, u2⟩ := dLt_ok hk S hu e rb ra I ry rx
      exact PySem.W.gt_data g2 g1 h2 n2 u2 ⟨.bl _, H, I, rfl, q⟩
    · exact False.elim o
  | ge =>
    dsimp only at o
    split at o
    · rw [ra.intE] at rx; rw [rb.intE] at ry
      exact op_ge pins s σ H _ _ v u Q I rx ry ⟨_, _, rfl, rfl, okv S o (.bl _)⟩
    · rw [ra.strE] at rx; rw [rb.strE] at ry
      exact op_ge_str pins s σ H _ _ v u Q I rx ry ⟨_, _, rfl, rfl, okv S o (.bl _)⟩
    · obtain ⟨b, e0, q⟩ := ob_ok o S
      obtain ⟨b1, e, rfl⟩ := Option.map_eq_some_iff.mp e0
      obtain ⟨d, d', as, bs, rfl, g1, g2, h1, h2, n1, n2, u1, u2⟩ := dLt_ok hk S hu e ra rb I rx ry
      exact PySem.W.ge_data g1 g2 h1 n1 u1 ⟨.bl _, H, I, rfl, q⟩
    · exact False.elim o
end
end Mn
set_option maxRecDepth 100000
namespace MnFn
open PySem
open Sem (wp)
set_option Elab.async false
set_option linter.all false
namespace F2
open PySem.F
theorem slot_function_getattribute : Slot "function" "__getattribute__" "object.__getattribute__" :=
  .of (owner := "object") (n := "__getattribute__") (by rw [typeLookup_type, builtinLookup_eq_fast]; kernel_rfl) (by decide +kernel) (by decide +kernel) (by decide +kernel)
    (by first | exact .inl (by decide +kernel) | exact .inr (by decide +kernel)) (by rw [isSubtype_type]; kernel_rfl)
theorem args_function_getattribute_2 (a b : Value) : argsOk "object.__getattribute__" ⟨[a, b], []⟩ := F.args_object_getattribute_2 a b
theorem entry_function_ga : entryFor table "object.__getattribute__" = some Builtin.«object.__getattribute__» := F.entry_object_getattribute
theorem lk_function_class : typeLookup (.type "function") "__class__" = pure (some (.builtin "object.__class__")) := by rw [typeLookup_type, builtinLookup_eq_fast]; kernel_rfl
theorem sub_function_class_owner : isSubtype (.type "function") (.type (".".intercalate ("object.__class__".cutAt '.').dropLast)) = pure true := by
  rw [owner_object_class, isSubtype_type]; kernel_rfl
end F2
section
variable {prog : Program} {w : World} {A : Around} {E : Value → Shared → Prop} {h : Heap} {g : Array GenState} {d : Drawn} {t : Nat} {os : OsState} {a : Addr} {o : Obj}
theorem class_get_function {R : Result → Shared → Prop} (hx : h.get? a = some o) (hc : o.cls = .type "function") (hq : R (.ok (.ret (.type "function"))) ⟨h, g, d, t, os⟩) :
    codeAny (model prog w) A (.call (.builtin "getset_descriptor.__get__") ⟨[.builtin "object.__class__", .ref a, .type "function"], []⟩) R ⟨h, g, d, t, os⟩ := by
  have hT : (⟨h, g, d, t, os⟩ : Shared).TypeIs (.ref a) "function" := ⟨_, hx, hc⟩
  have hT5 : (⟨h, g, d, t, os⟩ : Shared).TypeIs (.builtin "object.__class__") "getset_descriptor" := F.typeOf_object_class
  have f8 := F2.sub_function_class_owner
  refine codeAny_call_builtin F.slot_gs_get.plain F.entry_gs_get (F.slot_gs_get.check _ _ _ _ _ _ _ _ hT5 (F.args_gs_get _ _ _) ?_)
  repeat (any_goals (first | assumption | wp_step))
  refine ⟨Code.quiet_builtin _ (by decide +kernel), codeAny_builtin F.entry_object_class ?_⟩
  repeat (any_goals (first | assumption | wp_step))
theorem class_entry_function {tk : Tok} {Q : Fin → Shared → Prop} (hx : h.get? a = some o) (hc : o.cls = .type "function") (hq : Q (.done (.ret (.type "function"))) ⟨h, g, d, t, os⟩) :
    wpAny (model prog w) A (Builtin.«object.__getattribute__» ⟨[.ref a, .str "__class__" tk], []⟩) Q E ⟨h, g, d, t, os⟩ := by
  have hT : (⟨h, g, d, t, os⟩ : Shared).TypeIs (.ref a) "function" := ⟨_, hx, hc⟩
  have hT5 : (⟨h, g, d, t, os⟩ : Shared).TypeIs (.builtin "object.__class__") "getset_descriptor" := F.typeOf_object_class
  have f4 := F2.lk_function_class
  have f5 := F.typeOf_object_class
  have f6 := F.slot_gs_get.lookup
  have f7 := F.slot_gs_set.lookup
  repeat (any_goals (first | assumption | wp_step))
  refine class_get_function hx hc ?_
  repeat (any_goals (first | assumption | wp_step))
theorem class_call_function {tk : Tok} {R : Result → Shared → Prop} (hx : h.get? a = some o) (hc : o.cls = .type "function") (hq : R (.ok (.ret (.type "function"))) ⟨h, g, d, t, os⟩) :
    codeAny (model prog w) A (.call (.builtin "object.__getattribute__") ⟨[.ref a, .str "__class__" tk], []⟩) R ⟨h, g, d, t, os⟩ :=
  codeAny_call_builtin F2.slot_function_getattribute.plain F2.entry_function_ga (F2.slot_function_getattribute.check _ _ _ _ _ _ _ _ (show (⟨h, g, d, t, os⟩ : Shared).TypeIs (.ref a) "function" from ⟨_, hx, hc⟩) (F2.args_function_getattribute_2 _ _) (class_entry_function hx hc hq))
theorem class_by_function {tk : Tok} {Q : Value → Shared → Prop} (hx : h.get? a = some o) (hc : o.cls = .type "function") (hq : Q (.type "function") ⟨h, g, d, t, os⟩) : wpAny (model prog w) A (getAttrBy (.ref a) (.str "__class__" tk) false) Q E ⟨h, g, d, t, os⟩ := by
  have hT : (⟨h, g, d, t, os⟩ : Shared).TypeIs (.ref a) "function" := ⟨_, hx, hc⟩
  have f2 := F2.slot_function_getattribute.lookup
  have f3 := F2.slot_function_getattribute.bind (.ref a)
  repeat (any_goals (first | assumption | wp_step))
  refine class_call_function hx hc ?_
  repeat (any_goals (first | assumption | wp_step))
theorem class_attr_function {Q : Option Value → Shared → Prop} (hx : h.get? a = some o) (hc : o.cls = .type "function") (hq : Q (some (.type "function")) ⟨h, g, d, t + 1, os⟩) : wpAny (model prog w) A (getAttr? (.ref a) "__class__") Q E ⟨h, g, d, t, os⟩ := by
  unfold getAttr? getAttrBy?
  repeat (any_goals (first | assumption | with_reducible apply class_by_function hx hc | wp_step))
end
theorem kitx_function {K : PySem.W.Frag} {a : Addr} : PySem.W.KitX K (.ref a) (.type "function") (PySem.W.KitAt a "function") := PySem.W.kitx_of PySem.W.kitAt_ty (fun {_ _ _ _ _ s} p k => by obtain ⟨h, g, d, t, os⟩ := s; obtain ⟨o, h1, h2⟩ := p; exact class_attr_function h1 h2 k)
end MnFn
set_option Elab.async false
set_option linter.all false
set_option maxRecDepth 100000
set_option maxHeartbeats 2000000
namespace Mn
open PySem PySem.Spec L2 PyProof.Rows
theorem tot_str (x y : List Nat) : x < y ∨ x = y ∨ y < x := by
  rcases Decidable.em (x < y) with h | h
  · exact .inl h
  · rcases Decidable.em (y < x) with h2 | h2
    · exact .inr (.inr h2)
    · exact .inr (.inl (List.le_antisymm (List.not_lt.mp h2) (List.not_lt.mp h)))
theorem lexP_iff {p q : Int × List Nat} : lexP p q = true ↔ p.1 < q.1 ∨ (p.1 = q.1 ∧ p.2 < q.2) := by
  unfold lexP
  by_cases e : p.1 = q.1
  · rw [if_pos e, decide_eq_true_eq]
    constructor
    · exact fun h => .inr ⟨e, h⟩
    · rintro (h | h)
      · omega
      · exact h.2
  · rw [if_neg e, decide_eq_true_eq]
    constructor
    · exact .inl
    · rintro (h | h)
      · exact h
      · exact absurd h.1 e
theorem lexP_no {p q : Int × List Nat} : lexP p q = false ↔ ¬ (p.1 < q.1 ∨ (p.1 = q.1 ∧ p.2 < q.2)) := by
  rw [← lexP_iff]
  cases lexP p q <;> simp
theorem lexP_tot (p q : Int × List Nat) : lexP p q = true ∨ p = q ∨ lexP q p = true := by
  rcases Int.lt_trichotomy p.1 q.1 with h | h | h
  · exact .inl (lexP_iff.mpr (.inl h))
  · rcases tot_str p.2 q.2 with k | k | k
    · exact .inl (lexP_iff.mpr (.inr ⟨h, k⟩))
    · exact .inr (.inl (Prod.ext h k))
    · exact .inr (.inr (lexP_iff.mpr (.inr ⟨h.symm, k⟩)))
  · exact .inr (.inr (lexP_iff.mpr (.inl h)))
theorem lexP_asym {p q : Int × List Nat} (h : lexP p q = true) : lexP q p = false := by
  have a := lexP_iff.mp h
  refine lexP_no.mpr ?_
  rintro (b | ⟨b, c⟩)
  · rcases a with a | a <;> omega
  · rcases a with a | ⟨_, a⟩
    · omega
    · exact absurd c (List.lt_asymm a)
theorem lexP_trans {p q r : Int × List Nat} (h1 : lexP p q = true) (h2 : lexP q r = true) : lexP p r = true := by
  have a := lexP_iff.mp h1
  have b := lexP_iff.mp h2
  refine lexP_iff.mpr ?_
  rcases a with a | ⟨a, a2⟩
  · rcases b with b | ⟨b, b2⟩ <;> exact .inl (by omega)
  · rcases b with b | ⟨b, b2⟩
    · exact .inl (by omega)
    · exact .inr ⟨by omega, List.lt_trans a2 b2⟩
theorem lexP_tr {p q r : Int × List Nat} (h1 : lexP q p = false) (h2 : lexP r q = false) : lexP r p = false := by
  rcases lexP_tot p q with a | a | a
  · rcases lexP_tot q r with b | b | b
    · exact lexP_asym (lexP_trans a b)
    · subst b; exact h1
    · rw [h2] at b; cases b
  · subst a; exact h2
  · rw [h1] at a; cases a
theorem lexP_swo {α : Type} (k : α → Int × List Nat) : SrtO.Swo fun x y => lexP (k x) (k y) := ⟨fun x y h => lexP_asym h, fun x y z h1 h2 => lexP_tr h1 h2⟩
theorem insP_perm (p : Int × List Nat) : ∀ l, (insP p l).Perm (p :: l)
  | [] => .refl _
  | q :: r => by
    unfold insP
    split
    · exact .refl _
    · exact ((insP_perm p r).cons q).trans (.swap p q r)
theorem srtP_perm : ∀ l, (srtP l).Perm l
  | [] => .refl _
  | p :: r => (insP_perm p _).trans ((srtP_perm r).cons p)
theorem insP_srt (p : Int × List Nat) : ∀ {l}, l.Pairwise (fun a b => lexP b a = false) → (insP p l).Pairwise (fun a b => lexP b a = false)
  | [], _ => List.pairwise_singleton _ _
  | q :: r, h => by
    obtain ⟨h1, h2⟩ := List.pairwise_cons.mp h
    unfold insP
    split
    · rename_i hp
      refine List.pairwise_cons.mpr ⟨fun b hb => ?_, h⟩
      rcases List.mem_cons.mp hb with rfl | hb
      · exact lexP_asym hp
      · exact lexP_tr (lexP_asym hp) (h1 b hb)
    · rename_i hp
      refine List.pairwise_cons.mpr ⟨fun b hb => ?_, insP_srt p h2⟩
      rcases List.mem_cons.mp ((insP_perm p r).mem_iff.mp hb) with rfl | hb
      · simpa using hp
      · exact h1 b hb
theorem srtP_srt : ∀ l, (srtP l).Pairwise (fun a b => lexP b a = false)
  | [] => .nil
  | p :: r => insP_srt p (srtP_srt r)
theorem srt_uniq : ∀ {l m : List (Int × List Nat)}, l.Perm m → l.Pairwise (fun a b => lexP b a = false) → m.Pairwise (fun a b => lexP b a = false) → l = m
  | [], m, p, _, _ => (List.Perm.nil_eq p)
  | x :: l, [], p, _, _ => absurd p.length_eq (by simp)
  | x :: l, y :: m, p, hl, hm => by
    obtain ⟨l1, l2⟩ := List.pairwise_cons.mp hl
    obtain ⟨m1, m2⟩ := List.pairwise_cons.mp hm
    have e : x = y := by
      have h1 : lexP x y = false := by
        rcases List.mem_cons.mp (p.mem_iff.mp (List.mem_cons_self (a := x) (l := l))) with e | hx
        · rw [e]; exact lexP_no.mpr (by rintro (h | ⟨_, h⟩); exact absurd h (Int.lt_irrefl _); exact absurd h (List.lt_irrefl _))
        · exact m1 x hx
      have h2 : lexP y x = false := by
        rcases List.mem_cons.mp (p.mem_iff.mpr (List.mem_cons_self (a := y) (l := m))) with e | hx
        · rw [e]; exact lexP_no.mpr (by rintro (h | ⟨_, h⟩); exact absurd h (Int.lt_irrefl _); exact absurd h (List.lt_irrefl _))
        · exact l1 y hx
      rcases lexP_tot x y with a | a | a
      · rw [h1] at a; cases a
      · exact a
      · rw [h2] at a; cases a
    subst e
    rw [srt_uniq p.cons_inv l2 m2]
open SrtO in
section
variable {prog : Program} {w : World} {A : Around} {E : Value → Shared → Prop} {s : Shared}
def IsPS (h : Heap) (v : Value) (p : Int × List Nat) : Prop := ∃ a o t u n, v = .ref a ∧ h.get? a = some o ∧ o.cls = .type "tuple" ∧ o.data = .seq #[.int p.1 t, .str ⟨p.2.toArray⟩ u] n
theorem IsPS.keeps {h h' : Heap} {v : Value} {p : Int × List Nat} (q : IsPS h v p) (k : ∀ b o, h.get? b = some o → o.cls = .type "tuple" → h'.get? b = some o) : IsPS h' v p := by
  obtain ⟨a, o, t, u, n, e, ho, hc, hd⟩ := q
  exact ⟨a, o, t, u, n, e, k _ _ ho hc, hc, hd⟩
theorem psirsts {h : Heap} {k : Value → Int × List Nat} : ∀ {vs : List Value}, (∀ v ∈ vs, IsPS h v (k v)) → ∃ fs : List Value, PySem.W.KatTups h vs fs ∧ fs.length = vs.length ∧ ∀ f ∈ fs, ∃ x t, f = Value.int x t
  | [], _ => ⟨[], PySem.W.KatTups.nil, rfl, fun _ hm => by simp at hm⟩
  | v :: vs, hp => by
    obtain ⟨fs, h1, h2, h3⟩ := psirsts (vs := vs) fun v' hm => hp v' (List.mem_cons_of_mem _ hm)
    obtain ⟨a, o, t, u, n, e, ho, hc, hd⟩ := hp v (List.mem_cons_self ..)
    subst e
    refine ⟨.int _ t :: fs, PySem.W.KatTups.cons ho hc hd rfl h1, by rw [List.length_cons, List.length_cons, h2], fun f hm => ?_⟩
    rcases List.mem_cons.mp hm with rfl | hm
    · exact ⟨_, t, rfl⟩
    · exact h3 f hm
theorem ps_cmp {vs : List Value} {k : Value → Int × List Nat} (hp : ∀ v ∈ vs, IsPS s.heap v (k v)) : Cmp prog w A s (tuples' true) (fun p => p.1 ∈ vs) (lt2 fun v u => lexP (k v) (k u)) := by
  intro p q hm hm'
  have h1 := hp _ hm
  have h2 := hp _ hm'
  show wpAny (model prog w) A (keyLt' (tuples' true) p.1 q.1) (fun r s' => s' = s ∧ r = lexP (k p.1) (k q.1)) (fun _ _ => False) s
  unfold lexP
  generalize k p.1 = kp at h1 ⊢
  generalize k q.1 = kq at h2 ⊢
  obtain ⟨x, y⟩ := kp
  obtain ⟨x', y'⟩ := kq
  obtain ⟨a, o, t, u, n, e, ho, hc, hd⟩ := h1
  obtain ⟨a', o', t', u', n', e', ho', hc', hd'⟩ := h2
  rw [e, e']
  refine PySem.W.kat_lt ho hd ho' hd' ?_
  show PySem.W.KatLex prog w A true (decide (2 < 2)) _ [(.int x t, .int x' t'), (.str ⟨y.toArray⟩ u, .str ⟨y'.toArray⟩ u')] 0 s
  refine PySem.W.kat_cons (SeqAt.EqAt.int_int x t x' t' prog w _ _ ?_)
  refine PySem.W.kat_go (fun e1 => ?_) (fun e1 => ?_)
  · have ex : x = x' := by simpa using e1
    refine PySem.W.kat_yes (PySem.W.kat_cons (SeqAt.EqAt.str_str ⟨y.toArray⟩ u ⟨y'.toArray⟩ u' prog w _ _ ?_))
    refine PySem.W.kat_go (fun e2 => ?_) (fun e2 => ?_)
    · have ey : y = y' := by simpa using e2
      have e3 : (if x = x' then decide (y < y') else decide (x < x')) = false := by
        rw [if_pos ex, ey]
        exact decide_eq_false (List.lt_irrefl _)
      exact PySem.W.kat_yes (PySem.W.kat_nil ⟨rfl, e3.symm⟩)
    · have e3 : (if x = x' then decide (y < y') else decide (x < x')) = decide (y < y') := if_pos ex
      refine PySem.W.kat_no (PySem.W.kat_one _ _ (PyProof.Rows.lt_str ?_))
      exact (show s = s ∧ decide (y < y') = (if x = x' then decide (y < y') else decide (x < x')) from ⟨rfl, e3.symm⟩)
  · have ex : ¬ x = x' := by simpa using e1
    have e3 : (if x = x' then decide (y < y') else decide (x < x')) = decide (x < x') := if_neg ex
    exact PySem.W.kat_no (oneLt_int ⟨rfl, e3.symm⟩)
theorem ps_sortable {a : Addr} {vs : List Value} {k : Value → Int × List Nat} (h0 : 0 < vs.length) (hp : ∀ v ∈ vs, IsPS s.heap v (k v)) (ha : ∀ o, s.heap.get? a = some o → o.cls ≠ .type "tuple") : SortableO prog w A s a vs fun v u => lexP (k v) (k u) := by
  intro h' keep
  have hp' : ∀ v ∈ vs, IsPS h' v (k v) := fun v hm => (hp v hm).keeps fun b o e c => keep b o (fun z => by subst z; exact ha o e c) e
  obtain ⟨fs, h1, h2, h3⟩ := psirsts hp'
  refine ⟨tuples' true, fun Q E hq => ?_, ps_cmp hp'⟩
  refine PySem.W.kat_kind (T := .type "int") h1 (by omega) (fun f hm => ?_) (by rfl) ?_
  · obtain ⟨x, t, rfl⟩ := h3 f hm
    exact PySem.W.Looks.now
  · have e : (Value.type "int" != Value.type "tuple") = true := by first | decide +kernel | rfl | decide
    rw [e]
    exact hq
theorem sorted_ps {l : Addr} {vs : List Value} {k : Value → Int × List Nat} {Q : Value → Shared → Prop} (hl : s.heap.IsList l vs.toArray) (hz : vs.length ≤ sizeLine) (hp : ∀ v ∈ vs, IsPS s.heap v (k v))
    (h : ∀ (h' : Heap) (d : Addr) (out : List Value), Srtd (fun v u => lexP (k v) (k u)) out → out.Perm vs → (∀ b o, s.heap.get? b = some o → h'.get? b = some o) → s.heap.objs.size ≤ d → (∃ n, h'.get? d = some (seqObj "list" out.toArray n)) → Q (.ref d) { s with heap := h' }) :
    wpAny (model prog w) A (call (.builtin "sorted") [.ref l]) Q E s := by
  refine sorted_ord (lexP_swo k) hl hz (fun h2 h₁ a ha kk => ?_) fun out hs hb => ?_
  · refine ps_sortable (s := { s with heap := h₁ }) (by omega) (fun v hm => (hp v hm).keeps fun b o e _ => (kk b o e).2) fun o e => ?_
    have e' : some o = some (seqObj "list" vs.toArray 0) := e.symm.trans ha
    cases e'
    intro c
    exact absurd (Value.type.inj c) (by decide)
  · exact h _ _ out hs hb.perm (fun b o e => sortedAll_old e) (Nat.le_succ _) (sortedAll_at s.heap vs out.toArray)
end
section
variable {X : Cx} {G : Gm} {as : List Addr} {H : Hp}
theorem isP_ok {v : PV} {p : Int × List Nat} (e : isP v = some p) : v = ofP p := by
  unfold isP at e
  split at e
  · cases e; rfl
  · cases e
theorem psOf_ok : ∀ {vs : List PV} {ps : List (Int × List Nat)}, psOf vs = some ps → vs = ps.map ofP
  | [], ps, e => by simp only [psOf] at e; cases e; rfl
  | v :: r, ps, e => by
    simp only [psOf] at e
    split at e
    · rename_i p qs h1 h2
      cases e
      rw [isP_ok h1, psOf_ok h2]
      rfl
    · cases e
theorem rv_two {x y : PV} {xs : List V} (r : RepVs G as H [x, y] xs) : ∃ v w, xs = [v, w] ∧ RepV G as H x v ∧ RepV G as H y w := by
  unfold RepVs at r
  obtain ⟨v, r', rfl, h1, r⟩ := r
  unfold RepVs at r
  obtain ⟨w, r'', rfl, h2, r⟩ := r
  unfold RepVs at r
  subst r
  exact ⟨v, w, rfl, h1, h2⟩
theorem IsPS.uniq {h : Heap} {v : Value} {p q : Int × List Nat} (a : IsPS h v p) (b : IsPS h v q) : p = q := by
  obtain ⟨l, o, t, u, n, rfl, ho, hc, hd⟩ := a
  obtain ⟨l2, o2, t2, u2, n2, e, ho2, hc2, hd2⟩ := b
  cases e
  rw [ho] at ho2
  cases ho2
  rw [hd] at hd2
  have e := (Data.seq.inj hd2).1
  have e1 : p.1 = q.1 := by
    have := congrArg (fun a : Array Value => a[0]?) e
    simp at this
    exact this.1
  have e2 : p.2 = q.2 := by
    have := congrArg (fun a : Array Value => a[1]?) e
    simp at this
    exact this.1
  exact Prod.ext e1 e2
theorem ps_of (hk : X.K = G.K) {pins : List (Addr × Obj)} {σ : L2.St} {s : Shared} (I : Inv X pins σ H s) {p : Int × List Nat} {w : V} {v : Value} (r : RepV G as H (ofP p) w) (rv : RelV w v) : IsPS s.heap v p ∧ v = .ref (match v with | .ref a => a | _ => 0) ∧ backV v = w := by
  obtain ⟨a, vs, rfl, s1, r1⟩ := r.tupE
  obtain ⟨v1, w1, rfl, a1, a2⟩ := rv_two r1
  obtain rfl := a1.intE
  obtain rfl := a2.strE
  obtain rfl : v = Value.ref a := rv
  rw [← hk] at s1
  obtain ⟨its, rv, ⟨o, ho, hc, n, hd⟩, _⟩ := I.tuple s1
  obtain ⟨u1, u2, rfl, ⟨t, rfl⟩, ⟨u, rfl⟩⟩ := vals2 rv
  exact ⟨⟨a, o, t, u, n, rfl, ho, hc, by simpa using hd⟩, rfl, rfl⟩
theorem ps_all (hk : X.K = G.K) {pins : List (Addr × Obj)} {σ : L2.St} {s : Shared} (I : Inv X pins σ H s) {k : Value → Int × List Nat} (hu : ∀ v p, IsPS s.heap v p → k v = p) : ∀ {ps : List (Int × List Nat)} {ws : List V} {its : List Value}, RepVs G as H (ps.map ofP) ws → Vals ws its →
    (∀ v ∈ its, IsPS s.heap v (k v) ∧ RepV G as H (ofP (k v)) (backV v) ∧ ∃ a, v = .ref a) ∧ its.map k = ps
  | [], ws, its, r, rv => by
    simp only [List.map_nil] at r
    unfold RepVs at r
    subst r
    cases rv
    exact ⟨fun v hv => by simp at hv, rfl⟩
  | p :: ps, ws, its, r, rv => by
    simp only [List.map_cons] at r
    unfold RepVs at r
    obtain ⟨w, ws, rfl, r1, r2⟩ := r
    cases rv with
    | cons q1 q2 =>
      obtain ⟨a1, a2⟩ := ps_all hk I hu r2 q2
      obtain ⟨b1, b2, b3⟩ := ps_of hk I r1 q1
      have e := hu _ _ b1
      refine ⟨fun v hv => ?_, by rw [List.map_cons, e, a2]⟩
      rcases List.mem_cons.mp hv with rfl | hv
      · rw [e, b3]
        exact ⟨b1, r1, _, b2⟩
      · exact a1 v hv
theorem repVs_back {k : Value → Int × List Nat} : ∀ {out : List Value}, (∀ v ∈ out, RepV G as H (ofP (k v)) (backV v)) → RepVs G as H ((out.map k).map ofP) (out.map backV)
  | [], _ => by simp only [List.map_nil]; unfold RepVs; rfl
  | v :: out, h => by
    simp only [List.map_cons]
    unfold RepVs
    exact ⟨_, _, rfl, h v (List.mem_cons_self ..), repVs_back fun u hu => h u (List.mem_cons_of_mem _ hu)⟩
open Classical in
theorem call_srtP (hk : X.K = G.K) {pins : List (Addr × Obj)} {σ : L2.St} {s : Shared} {h : PH} (I : Inv X pins σ H s) (S : SR G as H h) {a : Addr} {ws : List V} {ps : List (Int × List Nat)} {E' : XK} {Q : VK} (sl : SqL G.K H a ws) (r : RepVs G as H (ps.map ofP) ws)
    (o : OkV G E' as H Q (.ok (.ref h.length) (h ++ [.lst ((srtP ps).map ofP)]))) : wpAny (model X.prog X.w) X.A (call (.builtin "sorted") [.ref a]) (EP X pins σ Q) X.xe s := by
  rw [← hk] at sl
  obtain ⟨its, rv, hl, hz⟩ := I.list sl
  let k : Value → Int × List Nat := fun v => if q : ∃ p, IsPS s.heap v p then choose q else (0, [])
  have hu : ∀ v p, IsPS s.heap v p → k v = p := fun v p q => by
    have e : ∃ p, IsPS s.heap v p := ⟨p, q⟩
    show (if q : ∃ p, IsPS s.heap v p then choose q else (0, [])) = p
    rw [dif_pos e]
    exact (choose_spec e).uniq q
  obtain ⟨a1, a2⟩ := ps_all hk I hu r rv
  refine sorted_ps (k := k) hl.isList (by rw [← rv.length]; exact hz) (fun v hv => (a1 v hv).1) fun h' d out h1 h2 kp hd hn => ?_
  obtain ⟨n, hn⟩ := hn
  have hm : ∀ v ∈ out, v ∈ its := fun v hv => h2.mem_iff.mp hv
  have e : out.map k = srtP ps := by
    refine srt_uniq ((h2.map k).trans ?_) (List.pairwise_map.mpr h1) (srtP_srt ps)
    rw [a2]
    exact (srtP_perm ps).symm
  have rr : RepVs G as H ((srtP ps).map ofP) (out.map backV) := by
    rw [← e]
    exact repVs_back fun v hv => (a1 v (hm v hv)).2.1
  have hf : H d = none := I.hok.fresh hd
  obtain ⟨f, r2⟩ := S.new (o := .lst ((srtP ps).map ofP)) (ho := .lst (out.map backV)) hf ⟨_, upd_same, rr.mono (List.prefix_append _ _) (Kp.new hf)⟩
  have hlen : out.length = its.length := h2.length_eq
  refine ⟨.ref d, upd H d (.lst (out.map backV)), I.laid (t' := s.toks) kp hd ⟨?_, out, n, vals_back fun u hu => (a1 u (hm u hu)).2.2, hn⟩, rfl, o _ _ _ f r2⟩
  rw [List.length_map, hlen, ← rv.length]
  exact hz
end
end Mn
set_option Elab.async false
set_option linter.all false
set_option maxRecDepth 100000
set_option maxHeartbeats 4000000
namespace Mn
open PySem PySem.Spec L2 PyProof.Rows
structure COk (G : Gm) (T : Tb) : Prop where
  cc : ∀ (c d : Nat) (ci : Ci), T.cls[c]? = some ci → d < T.cls.length → PySem.W.kitOne G.K (.ref (G.ca c)) (.ref (G.ca d)) = some (ci.sups.contains d)
  ct : ∀ (c : Nat) (n : String), c < T.cls.length → n ∈ tyNames → PySem.W.kitOne G.K (.ref (G.ca c)) (.type n) = some false
  tc : ∀ (c : Nat) (n : String), c < T.cls.length → n ∈ tyAll → PySem.W.kitOne G.K (.type n) (.ref (G.ca c)) = some false
  cl : ∀ c, c < T.cls.length → Cls G.K (G.ca c)
  ha : ∀ c, c < T.cls.length → PySem.W.findIn G.K (.ref (G.ca c)) "__class__" = some (some (.builtin "object.__class__"))
  hm : ∀ c, c < T.cls.length → PySem.W.mroIn G.K (G.ca c) (.type "object") = some true
  hn : T.cls ≠ [] → PySem.W.specialIn G.K (.builtin "object.__class__") "__get__" = some (some (.builtin "getset_descriptor.__get__"))
  htk : T.cls ≠ [] → PySem.W.takesIn G.K (.builtin "object.__class__") = some true
  nd : G.an.Nodup
  fnk : ∀ f, T.glob.any (isFnOf f) = true → PySem.W.isFn G.K (.ref (G.fa f)) = true
  eqm : ∀ (c : Nat) (ci : Ci) (f : Nat), T.cls[c]? = some ci → ci.eq = some f → PySem.W.findIn G.K (.ref (G.ca c)) "__eq__" = some (some (.ref (G.fa f))) ∧ PySem.W.isFn G.K (.ref (G.fa f)) = true
  at_ : ∀ (c f : Nat) (n : Str), attK T c f = some none → G.an[f]? = some n → NoAttr G.K (G.ca c) n
  me : ∀ (c : Nat) (ci : Ci) (m f : Nat) (n : Str), T.cls[c]? = some ci → ci.meths.lookup m = some f → G.an[m]? = some n → Meth G.K (G.ca c) n (G.fa f)
  mkr : ∀ (c : Nat) (ci : Ci) (f : Nat), T.cls[c]? = some ci → ci.init = some f → Mk G.K (G.ca c) (G.fa f)
  pr : ∀ (c : Nat) (ci : Ci) (m f : Nat) (n : Str), T.cls[c]? = some ci → ci.meths.lookup m = none → ci.props.lookup m = some f → G.an[m]? = some n → ∃ p, PropOf G.K (G.ca c) n p (G.fa f)
def Bi.py : Bi → Value
  | .len => .builtin "len" | .abs => .builtin "abs" | .max => .builtin "max" | .min => .builtin "min" | .int => .type "int" | .str => .type "str" | .bool => .type "bool" | .list => .type "list" | .tuple => .type "tuple"
  | .sorted => .builtin "sorted" | .sum => .builtin "sum" | .any => .builtin "any" | .all => .builtin "all" | .ord => .builtin "ord" | .isinst => .builtin "isinstance" | .repr => .builtin "repr" | .dict => .type "dict"
section
variable {G : Gm} {T : Tb} {E : XK} {X : Cx} {as : List Addr} {H : Hp} {h : PH}
abbrev rPn (G : Gm) (E : XK) (pr : List PV → PH → Res PV) : List V → Hp → VK → Prop := fun xs H Q => ∃ as h vs, SR G as H h ∧ RepVs G as H vs xs ∧ OkV G E as H Q (pr vs h)
theorem RepVs.one {x : PV} {xs : List V} (r : RepVs G as H [x] xs) : ∃ v, xs = [v] ∧ RepV G as H x v := by
  unfold RepVs at r
  obtain ⟨v, rest, rfl, r1, r2⟩ := r
  unfold RepVs at r2
  subst r2
  exact ⟨v, rfl, r1⟩
theorem RepVs.two {x y : PV} {xs : List V} (r : RepVs G as H [x, y] xs) : ∃ v w, xs = [v, w] ∧ RepV G as H x v ∧ RepV G as H y w := by
  unfold RepVs at r
  obtain ⟨v, rest, rfl, r1, r2⟩ := r
  obtain ⟨w, rfl, r3⟩ := r2.one
  exact ⟨v, w, rfl, r1, r3⟩
theorem RepVs.zero {xs : List V} (r : RepVs G as H [] xs) : xs = [] := by unfold RepVs at r; exact r
theorem intsOf_ok : ∀ {vs : List PV} {xs : List V} {is : List Int}, intsOf vs = some is → RepVs G as H vs xs → xs = is.map V.int
  | [], xs, is, e, r => by simp only [intsOf] at e; cases e; rw [r.zero]; rfl
  | .int i :: vs, xs, is, e, r => by
    simp only [intsOf] at e
    obtain ⟨js, e1, rfl⟩ := Option.map_eq_some_iff.mp e
    unfold RepVs at r
    obtain ⟨v, rest, rfl, r1, r2⟩ := r
    rw [r1.intE, intsOf_ok e1 r2]
    rfl
  | .non :: _, _, _, e, _ => by simp [intsOf] at e
  | .bl _ :: _, _, _, e, _ => by simp [intsOf] at e
  | .str _ :: _, _, _, e, _ => by simp [intsOf] at e
  | .tup _ :: _, _, _, e, _ => by simp [intsOf] at e
  | .ref _ :: _, _, _, e, _ => by simp [intsOf] at e
  | .fn _ :: _, _, _, e, _ => by simp [intsOf] at e
  | .cls _ :: _, _, _, e, _ => by simp [intsOf] at e
  | .ty _ :: _, _, _, e, _ => by simp [intsOf] at e
theorem blsOf_ok : ∀ {vs : List PV} {xs : List V} {is : List Bool}, blsOf vs = some is → RepVs G as H vs xs → xs = is.map V.bl
  | [], xs, is, e, r => by simp only [blsOf] at e; cases e; rw [r.zero]; rfl
  | v :: vs, xs, is, e, r => by
    cases v with
    | bl i =>
      simp only [blsOf] at e
      obtain ⟨js, e1, rfl⟩ := Option.map_eq_some_iff.mp e
      unfold RepVs at r
      obtain ⟨v, rest, rfl, r1, r2⟩ := r
      rw [r1.blE, blsOf_ok e1 r2]
      rfl
    | _ => simp [blsOf] at e
theorem strsOf_ok : ∀ {vs : List PV} {xs : List V} {is : List (List Nat)}, strsOf vs = some is → RepVs G as H vs xs → xs = (is.map fun y => (⟨y.toArray⟩ : Str)).map V.str
  | [], xs, is, e, r => by simp only [strsOf] at e; cases e; rw [r.zero]; rfl
  | .str i :: vs, xs, is, e, r => by
    simp only [strsOf] at e
    obtain ⟨js, e1, rfl⟩ := Option.map_eq_some_iff.mp e
    unfold RepVs at r
    obtain ⟨v, rest, rfl, r1, r2⟩ := r
    rw [r1.strE, strsOf_ok e1 r2]
    rfl
  | .non :: _, _, _, e, _ => by simp [strsOf] at e
  | .bl _ :: _, _, _, e, _ => by simp [strsOf] at e
  | .int _ :: _, _, _, e, _ => by simp [strsOf] at e
  | .tup _ :: _, _, _, e, _ => by simp [strsOf] at e
  | .ref _ :: _, _, _, e, _ => by simp [strsOf] at e
  | .fn _ :: _, _, _, e, _ => by simp [strsOf] at e
  | .cls _ :: _, _, _, e, _ => by simp [strsOf] at e
  | .ty _ :: _, _, _, e, _ => by simp [strsOf] at e
theorem tyB_kit {K : PySem.W.Frag} {a b : String} {r : Bool} (e : tyB a b = some r) : PySem.W.kitOne K (.type a) (.type b) = some r := by
  unfold tyB at e
  split at e
  · rename_i hh
    cases e
    simp only [Bool.and_eq_true, List.contains_iff_mem] at hh
    obtain ⟨h1, h2⟩ := hh
    simp only [tyAll, tyNames, List.mem_cons, List.not_mem_nil, or_false] at h1 h2
    rcases h1 with rfl | rfl | rfl | rfl | rfl | rfl | rfl | rfl <;> rcases h2 with rfl | rfl | rfl | rfl | rfl | rfl | rfl <;> exact kit_ty (by decide +kernel)
  · cases e
def clV (G : Gm) : PV → Value
  | .ty n => .type n
  | .cls c => .ref (G.ca c)
  | _ => .none
theorem subC_kit (C : COk G T) {t c : PV} {b : Bool} (e : subC T t c = some b) : PySem.W.kitOne G.K (clV G t) (clV G c) = some b := by
  unfold subC at e
  split at e
  · exact tyB_kit e
  · obtain ⟨ci, e1, e2⟩ := Option.bind_eq_some_iff.mp e
    split at e2
    · cases e2
      exact C.cc _ _ ci e1 (by assumption)
    · cases e2
  · split at e
    · rename_i hh
      cases e
      simp only [Bool.and_eq_true, decide_eq_true_eq, List.contains_iff_mem] at hh
      exact C.ct _ _ hh.1 hh.2
    · cases e
  · split at e
    · rename_i hh
      cases e
      simp only [Bool.and_eq_true, decide_eq_true_eq, List.contains_iff_mem] at hh
      exact C.tc _ _ hh.1 hh.2
    · cases e
  · cases e
theorem subC_lt {c : Nat} {d : PV} {b : Bool} (e : subC T (.cls c) d = some b) : c < T.cls.length := by
  cases d with
  | ty n =>
    simp only [subC] at e
    split at e
    · rename_i hh
      simp only [Bool.and_eq_true, decide_eq_true_eq] at hh
      exact hh.1
    · cases e
  | cls d =>
    simp only [subC] at e
    obtain ⟨ci, e2, _⟩ := Option.bind_eq_some_iff.mp e
    exact (List.getElem?_eq_some_iff.mp e2).1
  | _ => simp [subC] at e
theorem tyOf_ok (hk : X.K = G.K) (C : COk G T) (S : SR G as H h) {v t c : PV} {x : V} {b : Bool} (hn : ∀ f, v ≠ .fn f) (e : tyOf h v = some t) (eb : subC T t c = some b) (r : RepV G as H v x) : TyX X.K H x (clV G t) := by
  unfold tyOf at e
  split at e
  · cases e; rw [r.nonE]; exact .base .non
  · cases e; rw [r.blE]; exact .base (.bl _)
  · cases e; rw [r.intE]; exact .base (.int _)
  · cases e; rw [r.strE]; exact .base (.str _)
  · cases e
    obtain ⟨a, vs, rfl, s, rv⟩ := r.tupE
    rw [hk]
    rcases s with s | s
    · rcases s with s | ⟨o, s⟩
      · exact .base (.tup s)
      · exact .fTuple s
    · obtain ⟨o, its, n, e1, e2, _⟩ := s
      exact .kTuple e1 e2
  · exact absurd rfl (hn _)
  · obtain ⟨a, ea, rfl⟩ := r.refE
    split at e
    · rename_i q
      cases e
      obtain ⟨vs, e1, _⟩ := S.obj q ea
      exact .base (.lst e1)
    · rename_i q
      cases e
      obtain ⟨o, vs, e1, _⟩ := S.obj q ea
      exact .base (.frz e1)
    · rename_i q
      cases e
      obtain ⟨vs, e1, _⟩ := S.obj q ea
      exact .base (.dK e1)
    · rename_i cc fs q
      cases e
      obtain ⟨dx, gs, e1, _⟩ := S.obj q ea
      have hc : cc < T.cls.length := subC_lt eb
      rw [hk]
      exact .base (.ins e1 (C.cl _ hc) (C.ha _ hc) (C.hn fun z => by rw [z] at hc; simp at hc) (C.htk fun z => by rw [z] at hc; simp at hc) (C.hm _ hc))
    · cases e
  · cases e
theorem kit_all (hk : X.K = G.K) (C : COk G T) {pins : List (Addr × Obj)} {σ : L2.St} {s : Shared} (I : Inv X pins σ H s) (S : SR G as H h) {v t c : PV} {x : V} {u : Value} {b : Bool} (hv : fnT T v = true) (e : tyOf h v = some t) (eb : subC T t c = some b) (r : RepV G as H v x) (rx : RelV x u) :
    ∃ P : Heap → Prop, PySem.W.KitX X.K u (clV G t) P ∧ P s.heap ∧ u ≠ .builtin "__main__.__loader__#opaque" := by
  by_cases hf : ∃ f, v = .fn f
  · obtain ⟨f, rfl⟩ := hf
    simp only [tyOf] at e
    cases e
    have hq := C.fnk f hv
    have ex : x = .ref (G.fa f) := by unfold RepV at r; exact r
    subst ex
    obtain rfl : u = Value.ref (G.fa f) := rx
    unfold PySem.W.isFn PySem.W.typeIn at hq
    have hq := eq_of_beq hq
    obtain ⟨o, e1, e2⟩ := Option.map_eq_some_iff.mp hq
    exact ⟨_, MnFn.kitx_function, ⟨o, I.kIn _ o (by rw [hk]; exact e1), e2⟩, fun z => nomatch z⟩
  · exact kit_of I rx (tyOf_ok hk C S (fun f z => hf ⟨f, z⟩) e eb r)
theorem clV_ok {c : PV} {t : PV} {b : Bool} {x : V} (e : subC T t c = some b) (r : RepV G as H c x) : ClsV x (clV G c) := by
  cases c with
  | ty n => rw [r.tyE]; exact .ty n
  | cls d => unfold RepV at r; subst r; exact .own _
  | _ => simp [subC] at e
theorem clVs_ok : ∀ {ts : List PV} {ws : List V} {its : List Value}, ts.all isCl = true → RepVs G as H ts ws → Vals ws its → its = ts.map (clV G)
  | [], ws, its, _, r, rv => by
    rw [r.zero] at rv
    cases rv
    rfl
  | t :: ts, ws, its, h, r, rv => by
    simp only [List.all_cons, Bool.and_eq_true] at h
    unfold RepVs at r
    obtain ⟨v, rest, rfl, r1, r2⟩ := r
    cases rv with
    | cons a b =>
      rename_i u us
      have e : u = clV G t := by
        cases t with
        | ty n => rw [r1.tyE] at a; exact a
        | cls c => unfold RepV at r1; subst r1; exact a
        | _ => simp [isCl] at h
      rw [e, clVs_ok h.2 r2 b]
      rfl
theorem isTys_fn {v t : PV} {ts : List PV} {b : Bool} (e : isTys T h v (t :: ts) = some b) : fnT T v = true := by
  unfold isTys isTy at e
  by_cases q : fnT T v = true
  · exact q
  · rw [if_neg q] at e; cases e
theorem isTy_eq {v t : PV} (q : fnT T v = true) : isTy T h v t = (tyOf h v).bind fun tt => subC T tt t := by unfold isTy; rw [if_pos q]
theorem isTys_ty {v t : PV} {ts : List PV} {b : Bool} (e : isTys T h v (t :: ts) = some b) : ∃ tt, tyOf h v = some tt := by
  have hf := isTys_fn e
  unfold isTys at e
  rw [isTy_eq hf] at e
  cases q : tyOf h v with
  | none => rw [q] at e; simp at e
  | some tt => exact ⟨tt, rfl⟩
theorem isTys_sub {v t tt : PV} {ts : List PV} {b : Bool} (q : tyOf h v = some tt) (e : isTys T h v (t :: ts) = some b) : ∃ b0, subC T tt t = some b0 := by
  have hf := isTys_fn e
  unfold isTys at e
  rw [isTy_eq hf] at e
  rw [q] at e
  simp only [Option.bind_some] at e
  cases q2 : subC T tt t with
  | none => rw [q2] at e; simp at e
  | some b0 => exact ⟨b0, rfl⟩
theorem isTys_kit (C : COk G T) {v tt : PV} (q : tyOf h v = some tt) : ∀ {ts : List PV} {b : Bool}, isTys T h v ts = some b → PySem.W.kitAny G.K (clV G tt) (ts.map (clV G)) = some b
  | [], b, e => by
    simp only [isTys] at e
    cases e
    rfl
  | t :: ts, b, e => by
    have hf := isTys_fn e
    unfold isTys at e
    rw [isTy_eq hf] at e
    rw [q] at e
    simp only [Option.bind_some] at e
    cases q2 : subC T tt t with
    | none => rw [q2] at e; simp at e
    | some b0 =>
      rw [q2] at e
      have k := subC_kit C q2
      refine kitAny_cons k (fun hb => ?_) (fun hb => ?_)
      · subst hb
        exact isTys_kit C q e
      · subst hb
        simpa using e.symm
theorem vals_get : ∀ {xs : List V} {us : List Value}, xs.length = us.length → (∀ (j : Nat) (w : Value), us[j]? = some w → ∃ v, xs[j]? = some v ∧ RelV v w) → Vals xs us
  | [], [], _, _ => .nil
  | x :: xs, u :: us, hl, h => by
    obtain ⟨v, e, r⟩ := h 0 u rfl
    cases e
    exact .cons r (vals_get (by simpa using hl) fun j w hw => by simpa using h (j + 1) w (by simpa using hw))
  | [], _ :: _, hl, _ => by simp at hl
  | _ :: _, [], hl, _ => by simp at hl
theorem repVs_signs : ∀ x : List Nat, RepVs G as H (x.map fun c => PV.str [c]) (x.map fun c => V.str ⟨#[c]⟩)
  | [] => .nil
  | c :: x => .cons (.str [c]) (repVs_signs x)
theorem lmin_mem : ∀ (i : Int) (is : List Int), lmin i is ∈ i :: is
  | i, [] => by simp [lmin]
  | i, x :: r => by
    unfold lmin
    have := lmin_mem (if x < i then x else i) r
    split at this
    · rename_i h; rw [if_pos h]; exact List.mem_cons_of_mem _ this
    · rename_i h
      rw [if_neg h]
      rcases List.mem_cons.mp this with q | q
      · rw [q]; exact List.mem_cons_self
      · exact List.mem_cons_of_mem _ (List.mem_cons_of_mem _ q)
theorem lmin_le : ∀ (i : Int) (is : List Int) (y : Int), y ∈ i :: is → lmin i is ≤ y
  | i, [], y, h => by rw [List.mem_singleton.mp h]; exact Int.le_refl _
  | i, x :: r, y, h => by
    unfold lmin
    have hy : y = i ∨ y = x ∨ y ∈ r := by
      rcases List.mem_cons.mp h with q | q
      · exact .inl q
      · exact .inr (List.mem_cons.mp q)
    by_cases hh : x < i
    · rw [if_pos hh]
      have k := lmin_le x r
      have k0 := k x List.mem_cons_self
      rcases hy with q | q | q
      · omega
      · omega
      · exact k y (List.mem_cons_of_mem _ q)
    · rw [if_neg hh]
      have k := lmin_le i r
      have k0 := k i List.mem_cons_self
      rcases hy with q | q | q
      · omega
      · omega
      · exact k y (List.mem_cons_of_mem _ q)
theorem lmax_mem : ∀ (i : Int) (is : List Int), lmax i is ∈ i :: is
  | i, [] => by simp [lmax]
  | i, x :: r => by
    unfold lmax
    have := lmax_mem (if x > i then x else i) r
    split at this
    · rename_i h; rw [if_pos h]; exact List.mem_cons_of_mem _ this
    · rename_i h
      rw [if_neg h]
      rcases List.mem_cons.mp this with q | q
      · rw [q]; exact List.mem_cons_self
      · exact List.mem_cons_of_mem _ (List.mem_cons_of_mem _ q)
theorem lmax_le : ∀ (i : Int) (is : List Int) (y : Int), y ∈ i :: is → y ≤ lmax i is
  | i, [], y, h => by rw [List.mem_singleton.mp h]; exact Int.le_refl _
  | i, x :: r, y, h => by
    unfold lmax
    have hy : y = i ∨ y = x ∨ y ∈ r := by
      rcases List.mem_cons.mp h with q | q
      · exact .inl q
      · exact .inr (List.mem_cons.mp q)
    by_cases hh : x > i
    · rw [if_pos hh]
      have k := lmax_le x r
      have k0 := k x List.mem_cons_self
      rcases hy with q | q | q
      · omega
      · omega
      · exact k y (List.mem_cons_of_mem _ q)
    · rw [if_neg hh]
      have k := lmax_le i r
      have k0 := k i List.mem_cons_self
      rcases hy with q | q | q
      · omega
      · omega
      · exact k y (List.mem_cons_of_mem _ q)
theorem call_bi (hk : X.K = G.K) (hc : X.calm = true) (C : COk G T) (f : Bi) : CallR X f.py (rPn G E (pBi T f)) := by
  intro pins s σ H xs us Q I rx ⟨as, h, vs, S, r, o⟩
  unfold pBi at o
  split at o
  · -- len of a text
    split at o
    · rename_i hl
      obtain ⟨v, rfl, r1⟩ := r.one
      rw [r1.strE] at rx
      refine call_len pins s σ H _ us Q I rx ⟨_, _, rfl, ⟨by rw [str_len]; exact hl, rfl⟩, ?_⟩
      rw [str_len]
      exact okv S o (.int _)
    · exact False.elim o
  · -- len of a tuple
    obtain ⟨v, rfl, r1⟩ := r.one
    obtain ⟨a, ws, rfl, sa, r2⟩ := r1.tupE
    refine call_len pins s σ H _ us Q I rx ⟨_, _, rfl, .inr ⟨ws, by rw [hk]; exact sa, rfl⟩, ?_⟩
    rw [← r2.length]
    exact okv S o (.int _)
  · -- len of what stands at a place
    obtain ⟨v, rfl, r1⟩ := r.one
    obtain ⟨a, ea, rfl⟩ := r1.refE
    split at o
    · rename_i q
      obtain ⟨ws, sl, r2⟩ := S.lst (lstAt_of q) ea
      refine call_len pins s σ H _ us Q I rx ⟨_, _, rfl, .inl ⟨ws, by rw [hk]; exact sl, rfl⟩, ?_⟩
      rw [← r2.length]
      exact okv S o (.int _)
    · rename_i q
      obtain ⟨ws, sl, r2⟩ := S.lst (lstAt_frz q) ea
      refine call_len pins s σ H _ us Q I rx ⟨_, _, rfl, .inl ⟨ws, by rw [hk]; exact sl, rfl⟩, ?_⟩
      rw [← r2.length]
      exact okv S o (.int _)
    · rename_i q
      obtain ⟨ks, ed, rk⟩ := S.dic q ea
      obtain ⟨u, rfl, ru⟩ := vals1 rx
      obtain rfl : u = Value.ref a := ru
      refine d_len I (.of ed) fun t s' I' => ⟨.int _, H, I', ⟨t, rfl⟩, ?_⟩
      rw [← rk.length]
      exact okv S o (.int _)
    · exact False.elim o
  · obtain ⟨v, rfl, r1⟩ := r.one
    obtain ⟨a, ws, rfl, sf, r2⟩ := r1.frkE
    refine call_len pins s σ H _ us Q I rx ⟨_, _, rfl, .inl ⟨ws, by rw [hk]; exact sf.sq, rfl⟩, ?_⟩
    rw [← r2.length]
    exact okv S o (.int _)
  · obtain ⟨v, rfl, r1⟩ := r.one
    rw [r1.intE] at rx
    exact call_abs pins s σ H _ us Q I rx ⟨_, rfl, okv S o (.int _)⟩
  · obtain ⟨v, w, rfl, r1, r2⟩ := r.two
    rw [r1.intE, r2.intE] at rx
    exact call_max2 hc pins s σ H _ us Q I rx ⟨_, _, rfl, okv S o (.int _)⟩
  · obtain ⟨v, w, rfl, r1, r2⟩ := r.two
    rw [r1.intE, r2.intE] at rx
    exact call_min2 hc pins s σ H _ us Q I rx ⟨_, _, rfl, okv S o (.int _)⟩
  · obtain ⟨v, rfl, r1⟩ := r.one
    rw [r1.intE] at rx
    exact call_int1 pins s σ H _ us Q I rx (.inl ⟨_, rfl, okv S o (.int _)⟩)
  · obtain ⟨v, rfl, r1⟩ := r.one
    rw [r1.blE] at rx
    exact call_int1 pins s σ H _ us Q I rx (.inr ⟨_, rfl, okv S o (.int _)⟩)
  · split at o
    · rename_i hl
      obtain ⟨v, rfl, r1⟩ := r.one
      rw [r1.intE] at rx
      exact call_str_int pins s σ H _ us Q I rx ⟨_, rfl, hl, okv S o (.strO _)⟩
    · exact False.elim o
  · obtain ⟨v, rfl, r1⟩ := r.one
    rw [r1.strE] at rx
    exact call_ord pins s σ H _ us Q I rx ⟨_, rfl, by rw [str_len]; rfl, okv S o (.int _)⟩
  · -- list of a tuple
    obtain ⟨v, rfl, r1⟩ := r.one
    obtain ⟨a, ws, rfl, sa, r2⟩ := r1.tupE
    refine call_list_of pins s σ H _ us Q I rx ⟨_, _, rfl, .inr (by rw [hk]; exact sa), fun l hl => ?_⟩
    obtain ⟨f, rr⟩ := S.newL hl r2
    exact okn o f rr
  · obtain ⟨v, rfl, r1⟩ := r.one
    obtain ⟨a, ea, rfl⟩ := r1.refE
    split at o
    · rename_i ys q
      obtain ⟨ws, sl, r2⟩ := S.lst q ea
      refine call_list_of pins s σ H _ us Q I rx ⟨_, _, rfl, .inl (by rw [hk]; exact sl), fun l hl => ?_⟩
      obtain ⟨f, rr⟩ := S.newL hl r2
      exact okn o f rr
    · exact False.elim o
  · -- list of a str
    split at o
    · rename_i x1 hl
      obtain ⟨v, rfl, r1⟩ := r.one
      rw [r1.strE] at rx
      obtain ⟨u, rfl, rx1⟩ := vals1 rx
      obtain ⟨t, rfl⟩ := rx1
      refine PySem.call_list_str (I.ok.hd hc) _ t (hn := by simpa using hl) fun h' tk acc' c' hkeep hS' hacc => ?_
      have rv : Vals (x1.map fun c => V.str ⟨#[c]⟩) acc'.toList := by
        refine vals_get (by have := hacc.1; simp at this ⊢; omega) fun j w hw => ?_
        obtain ⟨c, u, ec, rfl⟩ := hacc.2 j w (by simpa using hw)
        refine ⟨.str ⟨#[c]⟩, ?_, ⟨u, rfl⟩⟩
        rw [List.getElem?_map]
        have : x1[j]? = some c := by simpa using ec
        rw [this]; rfl
      obtain ⟨f, rr⟩ := S.newL (p := s.heap.objs.size) (I.hok.fresh (Nat.le_refl _)) (repVs_signs (G := G) (as := as) (H := H) x1)
      refine ⟨.ref s.heap.objs.size, _, I.laid (o := .lst (x1.map fun c => V.str ⟨#[c]⟩)) (t' := tk) hkeep (Nat.le_refl _) (show ObjOk X.prog X.w _ h' _ (.lst _) from ⟨by simpa using hl, acc'.toList, c', rv, by simpa using hS'⟩), rfl, okn o f rr⟩
    · exact False.elim o
  · obtain ⟨v, rfl, r1⟩ := r.one
    obtain ⟨a, ws, rfl, sa, r2⟩ := r1.tupE
    exact call_tuple_of pins s σ H _ us Q I rx ⟨_, _, rfl, .inr ⟨by rw [hk]; exact sa, okv S o r1⟩⟩
  · obtain ⟨v, rfl, r1⟩ := r.one
    obtain ⟨a, ea, rfl⟩ := r1.refE
    split at o
    · rename_i ys q
      obtain ⟨ws, sl, r2⟩ := S.lst q ea
      refine call_tuple_of pins s σ H _ us Q I rx ⟨_, _, rfl, .inl ⟨by rw [hk]; exact sl, fun l hl => ?_⟩⟩
      obtain ⟨f, rr⟩ := S.tup hl r2
      exact okn o f rr
    · exact False.elim o
  · -- isinstance, a tuple of classes
    split at o
    · rename_i v ts hcl
      simp only [Bool.and_eq_true] at hcl
      obtain ⟨hne, hcl⟩ := hcl
      obtain ⟨w, y, rfl, r1, r2⟩ := r.two
      obtain ⟨b, e, q⟩ := ob_ok o S
      obtain ⟨a, ws, rfl, sa, rw⟩ := r2.tupE
      obtain ⟨u1, u2, rfl, q1, q2⟩ := vals2 rx
      cases (show u2 = Value.ref a from q2)
      obtain ⟨its, rv, ⟨ob', h1, h2, n, h3⟩, _⟩ := I.tuple (show SqT X.K H a ws by rw [hk]; exact sa)
      have ei : its = ts.map (clV G) := clVs_ok hcl rw rv
      cases hts : ts with
      | nil =>
        rw [hts] at hne
        cases hne
      | cons t0 tr =>
        have e0 := e
        rw [hts] at e0
        obtain ⟨tt, et⟩ := isTys_ty e0
        have e2 : ∃ b0, subC T tt t0 = some b0 := isTys_sub et e0
        obtain ⟨b0, e2⟩ := e2
        obtain ⟨P, Z, p, hx⟩ := kit_all hk C I S (isTys_fn e0) et e2 r1 q1
        obtain ⟨oc, od, dt, sl⟩ := ob'
        simp only at h2 h3
        subst h2 h3
        refine PySem.W.kia_tup Z I.kIn p h1 (b := b) ?_ hx fun tk => ⟨.bl b, H, I.tok tk, rfl, q⟩
        rw [ei, hk]
        exact isTys_kit C et e
    · exact False.elim o
  · rename_i v t
    obtain ⟨w, y, rfl, r1, r2⟩ := r.two
    obtain ⟨b, e, q⟩ := ob_ok o S
    unfold isTy at e
    split at e
    · rename_i hf
      obtain ⟨tt, e1, e2⟩ := Option.bind_eq_some_iff.mp e
      obtain ⟨u1, u2, rfl, q1, q2⟩ := vals2 rx
      have e3 := (clV_ok e2 r2).eq q2
      subst e3
      obtain ⟨P, Z, p, hx⟩ := kit_all hk C I S hf e1 e2 r1 q1
      exact PySem.W.kia_one Z I.kIn p (by rw [hk]; exact subC_kit C e2) hx fun tk => ⟨.bl b, H, I.tok tk, rfl, q⟩
    · cases e
  · obtain ⟨v, rfl, r1⟩ := r.one
    obtain ⟨a, ea, rfl⟩ := r1.refE
    split at o
    · rename_i ys q
      split at o
      · rename_i is qi
        obtain ⟨ws, sl, r2⟩ := S.lst q ea
        have ew := intsOf_ok qi r2
        subst ew
        exact cr_sum hc pins s σ H _ us Q I rx ⟨_, _, rfl, by rw [hk]; exact sl, okv S o (.int _)⟩
      · exact False.elim o
    · exact False.elim o
  · obtain ⟨v, rfl, r1⟩ := r.one
    obtain ⟨a, ea, rfl⟩ := r1.refE
    split at o
    · rename_i ys q
      split at o
      · rename_i is qi
        obtain ⟨ws, sl, r2⟩ := S.lst q ea
        have ew := blsOf_ok qi r2
        subst ew
        exact cr_all hc pins s σ H _ us Q I rx ⟨_, _, rfl, by rw [hk]; exact sl, okv S o (.bl _)⟩
      · exact False.elim o
    · exact False.elim o
  · obtain ⟨v, rfl, r1⟩ := r.one
    obtain ⟨a, ea, rfl⟩ := r1.refE
    split at o
    · rename_i ys q
      split at o
      · rename_i is qi
        obtain ⟨ws, sl, r2⟩ := S.lst q ea
        have ew := blsOf_ok qi r2
        subst ew
        exact cr_any hc pins s σ H _ us Q I rx ⟨_, _, rfl, by rw [hk]; exact sl, okv S o (.bl _)⟩
      · exact False.elim o
    · exact False.elim o
  · obtain ⟨v, rfl, r1⟩ := r.one
    obtain ⟨a, ea, rfl⟩ := r1.refE
    split at o
    · rename_i ys q
      split at o
      · rename_i i is qi
        obtain ⟨ws, sl, r2⟩ := S.lst q ea
        have ew := intsOf_ok qi r2
        subst ew
        refine cr_min hc pins s σ H _ us Q I rx ⟨_, _, rfl, by rw [hk]; exact sl, by simp, fun m hm hle => ?_⟩
        rw [show m = lmin i is from Int.le_antisymm (hle _ (lmin_mem i is)) (lmin_le i is m hm)]
        exact okv S o (.int _)
      · exact False.elim o
    · exact False.elim o
  · obtain ⟨v, rfl, r1⟩ := r.one
    obtain ⟨a, ea, rfl⟩ := r1.refE
    split at o
    · rename_i ys q
      split at o
      · rename_i i is qi
        obtain ⟨ws, sl, r2⟩ := S.lst q ea
        have ew := intsOf_ok qi r2
        subst ew
        refine cr_max hc pins s σ H _ us Q I rx ⟨_, _, rfl, by rw [hk]; exact sl, by simp, fun m hm hle => ?_⟩
        rw [show m = lmax i is from Int.le_antisymm (lmax_le i is m hm) (hle _ (lmax_mem i is))]
        exact okv S o (.int _)
      · exact False.elim o
    · exact False.elim o
  · obtain ⟨v, rfl, r1⟩ := r.one
    obtain ⟨a, ea, rfl⟩ := r1.refE
    split at o
    · rename_i ys q
      split at o
      · rename_i ps qi
        obtain ⟨ws, sl, r2⟩ := S.lst q ea
        have ew := psOf_ok qi
        subst ew
        obtain ⟨u, rfl, rx1⟩ := vals1 rx
        obtain rfl : u = Value.ref a := rx1
        exact call_srtP hk I S sl r2 o
      · exact False.elim o
    · exact False.elim o
  · rename_i b
    obtain ⟨v, rfl, r1⟩ := r.one
    rw [r1.blE] at rx
    obtain ⟨u, rfl, e⟩ := vals1 rx
    cases e
    refine PySem.P.repr_of_bool ⟨.str (if b then "True" else "False"), H, I.tok _, ⟨_, by cases b <;> rfl⟩, ?_⟩
    have e : (V.str (if b = true then "True" else "False" : Str)) = V.str ⟨(if b = true then [84, 114, 117, 101] else [70, 97, 108, 115, 101] : List Nat).toArray⟩ := by cases b <;> rfl
    have k := okv S o (.str _)
    cases b <;> exact k
  · obtain ⟨v, rfl, r1⟩ := r.one
    rw [r1.nonE] at rx
    obtain ⟨u, rfl, e⟩ := vals1 rx
    cases e
    exact PySem.P.repr_of_none ⟨.str "None", H, I.tok _, ⟨_, rfl⟩, okv S o (.str _)⟩
  · split at o
    · rename_i hl
      obtain ⟨v, rfl, r1⟩ := r.one
      rw [r1.intE] at rx
      exact SkE.call_repr_int pins s σ H _ us Q I rx ⟨_, rfl, hl, okv S o (.strO _)⟩
    · exact False.elim o
  · split at o
    · rename_i hl
      obtain ⟨v, rfl, r1⟩ := r.one
      rw [r1.strE] at rx
      obtain ⟨u, rfl, t, rfl⟩ := vals1 rx
      exact PySem.P.repr_of_str ⟨.str _, H, I.tok _, ⟨_, rfl⟩, okv S o (.strO _)⟩ hl
    · exact False.elim o
  · exact False.elim o
end
end Mn
set_option Elab.async false
set_option linter.all false
set_option maxRecDepth 100000
set_option maxHeartbeats 2000000
namespace Mn
open PySem PySem.Spec L2 PyProof.Rows
def eqT (k : List Nat) (v : Value) : Bool := match v with
  | .str n _ => n.cps.toList == k
  | _ => false
def TxtsAre : List Value → List (List Nat) → Prop
  | [], [] => True
  | v :: vs, x :: xs => (∃ t, v = .str ⟨x.toArray⟩ t) ∧ TxtsAre vs xs
  | _, _ => False
theorem txts_of : ∀ {us : List Value} {ys : List (List Nat)}, Vals ((ys.map fun y => (⟨y.toArray⟩ : Str)).map V.str) us → TxtsAre us ys
  | us, [], h => by cases h; trivial
  | us, y :: ys, h => by
    cases h with
    | cons r t => exact ⟨r, txts_of t⟩
theorem TxtsAre.get : ∀ {us : List Value} {ys : List (List Nat)}, TxtsAre us ys → ∀ {j : Nat} {v : Value}, us[j]? = some v → ∃ y t, ys[j]? = some y ∧ v = .str ⟨y.toArray⟩ t
  | [], [], _, j, v, e => by simp at e
  | u :: us, y :: ys, h, 0, v, e => by
    obtain ⟨⟨t, rfl⟩, _⟩ := h
    cases e
    exact ⟨y, t, rfl, rfl⟩
  | u :: us, y :: ys, h, j + 1, v, e => TxtsAre.get h.2 (j := j) (by simpa using e)
  | [], _ :: _, h, _, _, _ => h.elim
  | _ :: _, [], h, _, _, _ => h.elim
theorem eqT_gives {k : List Nat} {t : Tok} {us : List Value} {ys : List (List Nat)} (h : TxtsAre us ys) : ∀ y ∈ us, MeetsSeq.EqGives y (.str ⟨k.toArray⟩ t) (eqT k y) := fun y hy => by
  obtain ⟨j, hj, e⟩ := List.getElem_of_mem hy
  obtain ⟨x, u, _, rfl⟩ := h.get (j := j) (v := y) (by rw [List.getElem?_eq_getElem hj, e])
  have q := SeqRoads2.EqGives.str ⟨x.toArray⟩ ⟨k.toArray⟩ u t
  simpa [eqT] using q
theorem first_txt : ∀ {ys : List (List Nat)} {k : List Nat}, k ∈ ys → ∃ j, j < ys.length ∧ ys[j]? = some k ∧ (∀ i, i < j → ys[i]? ≠ some k) ∧ ys.eraseIdx j = ys.erase k
  | [], k, h => absurd h (by simp)
  | a :: r, k, h => by
    by_cases e : a = k
    · refine ⟨0, Nat.succ_pos _, by rw [e] <;> rfl, fun i hi => absurd hi (Nat.not_lt_zero _), ?_⟩
      rw [e, List.erase_cons_head] <;> rfl
    · have hr : k ∈ r := by
        rcases List.mem_cons.mp h with z | z
        · exact absurd z.symm e
        · exact z
      obtain ⟨j, h1, h2, h3, h4⟩ := first_txt hr
      refine ⟨j + 1, Nat.succ_lt_succ h1, h2, fun i hi => ?_, ?_⟩
      · cases i with
        | zero => exact fun z => e (Option.some.inj z)
        | succ i => exact h3 i (Nat.lt_of_succ_lt_succ hi)
      · rw [List.erase_cons_tail (by rw [beq_iff_eq]; exact e), ← h4] <;> rfl
section
variable {X : Cx}
theorem mt_removeT {pins : List (Addr × Obj)} {s : Shared} {σ : L2.St} {H : Hp} {v : Value} {us : List Value} {Q : VK} {l : Addr} {ys : List (List Nat)} {k : List Nat} {j : Nat} (I : Inv X pins σ H s) (rx : RelV (.ref l) v) (rxs : Vals [.str ⟨k.toArray⟩] us) (hH : H l = some (.lst ((ys.map fun y => (⟨y.toArray⟩ : Str)).map V.str)))
    (hj : ys[j]? = some k) (hno : ∀ m, m < j → ys[m]? ≠ some k) (q : Q .non (upd H l (.lst (((ys.map fun y => (⟨y.toArray⟩ : Str)).map V.str).eraseIdx j)))) :
    wpAny (model X.prog X.w) X.A (call (.builtin "list.remove") (v :: us)) (EP X pins σ Q) X.xe s := by
  cases rx
  obtain ⟨u, rfl, ru⟩ := rxs.one
  obtain ⟨t, rfl⟩ := ru
  obtain ⟨z, its, n, r, hl, e⟩ := I.lstM hH
  have hi := txts_of r
  rw [List.length_map, List.length_map] at hl z
  have hjn : j < ys.length := (List.getElem?_eq_some_iff.mp hj).1
  have hjl : j < its.toArray.size := by rw [List.size_toArray]; omega
  refine call_meets PySem.F.slot_list_remove ⟨_, e, rfl⟩ PySem.F.entry_list_remove (PySem.F.args_list_remove_2 _ _)
    (MeetsSeq.list_remove l its.toArray n (.str ⟨k.toArray⟩ t) (eqT k) (fun y hy => eqT_gives hi y (by simpa using hy)) j hjl ?_ ?_ (by rw [List.size_toArray]; omega)) ⟨e, ?_⟩
  · obtain ⟨y, tj, e2, e1⟩ := hi.get (j := j) (v := its.toArray[j]) (by rw [List.getElem?_eq_getElem (by simpa using hjl)]; simp)
    rw [e1]
    rw [hj] at e2
    cases e2
    simp [eqT]
  · intro m hm hmj
    obtain ⟨y, tj, e2, e1⟩ := hi.get (j := m) (v := its.toArray[m]) (by rw [List.getElem?_eq_getElem (by simpa using hm)]; simp)
    rw [e1]
    refine beq_eq_false_iff_ne.mpr fun e3 => hno m hmj ?_
    rw [e2]
    have : y = k := by simpa using e3
    rw [this]
  · refine ⟨.non, _, I.lset (its' := its.eraseIdx j) hH e ?_ (r.eraseIdx j) ?_, rfl, q⟩
    · simp
    · rw [List.length_eraseIdx]
      simp only [List.length_map]
      split <;> omega
end
end Mn
set_option Elab.async false
set_option linter.all false
set_option maxRecDepth 100000
set_option maxHeartbeats 4000000
namespace Mn
open PySem PySem.Spec L2 PyProof.Rows
def Bq.T : Bq → String
  | .lappend | .lpop | .lpopl | .lextend | .lreverse | .linsert | .lindex | .lremove => "list"
  | .sisascii | .sisprintable | .sisdigit | .sjoin | .sremoveprefix => "str"
  | .dget | .dpop => "dict"
def Bm.nm : Bm → Str
  | .append => Str.ofString "append" | .pop => Str.ofString "pop" | .insert => Str.ofString "insert" | .extend => Str.ofString "extend" | .reverse => Str.ofString "reverse" | .index => Str.ofString "index" | .remove => Str.ofString "remove"
  | .isascii => Str.ofString "isascii" | .isprintable => Str.ofString "isprintable" | .isdigit => Str.ofString "isdigit" | .join => Str.ofString "join" | .replace => Str.ofString "replace" | .removeprefix => Str.ofString "removeprefix"
  | .find => Str.ofString "find" | .get => Str.ofString "get" | .keys => Str.ofString "keys" | .items => Str.ofString "items" | .values => Str.ofString "values" | .startswith => Str.ofString "startswith" | .none => Str.ofString ""
def Bq.id : Bq → String
  | .lappend => "list.append" | .lpop | .lpopl => "list.pop" | .lextend => "list.extend" | .lreverse => "list.reverse" | .linsert => "list.insert" | .lindex => "list.index" | .lremove => "list.remove"
  | .sisascii => "str.isascii" | .sisprintable => "str.isprintable" | .sisdigit => "str.isdigit" | .sjoin => "str.join" | .sremoveprefix => "str.removeprefix"
  | .dget => "dict.get" | .dpop => "dict.pop"
theorem bq_plain : ∀ q : Bq, PlainAttrs q.T
  | .lappend | .lpop | .lpopl | .lextend | .lreverse | .linsert | .lindex | .lremove => PySem.F.plainAttrs_list
  | .sisascii | .sisprintable | .sisdigit | .sjoin | .sremoveprefix => PySem.F.plainAttrs_str
  | .dget | .dpop => PySem.F.plainAttrs_dict
theorem bq_slot {m : Bm} {k : Nat} {q : Bq} (e : Bq.of m k = some q) : Slot q.T m.nm q.id := by
  unfold Bq.of at e
  split at e
  · cases e; exact PySem.F.slot_list_append
  · cases e; exact PySem.F.slot_list_pop
  · cases e; exact PySem.F.slot_list_extend
  · cases e; exact PySem.F.slot_list_reverse
  · cases e; exact PySem.F.slot_list_insert
  · cases e; exact PySem.F.slot_list_index
  · cases e; exact PySem.F.slot_list_remove
  · cases e; exact PySem.F.slot_str_isascii
  · cases e; exact PySem.F.slot_str_isprintable
  · cases e; exact PySem.F.slot_str_isdigit
  · cases e; exact PySem.F.slot_str_join
  · cases e; exact PySem.F.slot_str_removeprefix
  · cases e; exact PySem.F.slot_dict_get
  · cases e; exact PySem.F.slot_dict_pop
  · cases e
theorem bq_ty : ∀ q : Bq, typeOf (.builtin q.id) = pure (.type "method_descriptor")
  | .lappend => PySem.F.type_list_append
  | .lpop => PySem.F.type_list_pop
  | .lpopl => PySem.F.type_list_pop
  | .lextend => PySem.F.type_list_extend
  | .lreverse => PySem.F.type_list_reverse
  | .linsert => PySem.F.type_list_insert
  | .lindex => PySem.F.type_list_index
  | .lremove => PySem.F.type_list_remove
  | .sisascii => PySem.F.type_str_isascii
  | .sisprintable => PySem.F.type_str_isprintable
  | .sisdigit => PySem.F.type_str_isdigit
  | .sjoin => PySem.F.type_str_join
  | .sremoveprefix => PySem.F.type_str_removeprefix
  | .dget => PySem.F.type_dict_get
  | .dpop => PySem.F.type_dict_pop
theorem bq_T {m : Bm} {k : Nat} {q : Bq} (e : Bq.of m k = some q) : (k = 0 ∧ q.T = "list") ∨ (k = 1 ∧ q.T = "dict") ∨ (k = 2 ∧ q.T = "str") := by
  unfold Bq.of at e
  split at e
  · cases e; exact .inl ⟨rfl, rfl⟩
  · cases e; exact .inl ⟨rfl, rfl⟩
  · cases e; exact .inl ⟨rfl, rfl⟩
  · cases e; exact .inl ⟨rfl, rfl⟩
  · cases e; exact .inl ⟨rfl, rfl⟩
  · cases e; exact .inl ⟨rfl, rfl⟩
  · cases e; exact .inl ⟨rfl, rfl⟩
  · cases e; exact .inr (.inr ⟨rfl, rfl⟩)
  · cases e; exact .inr (.inr ⟨rfl, rfl⟩)
  · cases e; exact .inr (.inr ⟨rfl, rfl⟩)
  · cases e; exact .inr (.inr ⟨rfl, rfl⟩)
  · cases e; exact .inr (.inr ⟨rfl, rfl⟩)
  · cases e; exact .inr (.inl ⟨rfl, rfl⟩)
  · cases e; exact .inr (.inl ⟨rfl, rfl⟩)
  · cases e
section
variable {G : Gm} {T : Tb} {E : XK} {X : Cx} {as : List Addr} {H : Hp} {h : PH}
theorem kind_ty (hk : X.K = G.K) (S : SR G as H h) {m : Bm} {v : PV} {x : V} {q : Bq} (e : Bq.of m (kindAt h v) = some q) (r : RepV G as H v x) : tyV X.K q.T x H := by
  have t := bq_T e
  clear e
  generalize q.T = TT at t ⊢
  unfold kindAt at t
  split at t
  · rename_i l
    obtain ⟨a, ea, rfl⟩ := r.refE
    split at t
    · rename_i xs qq
      obtain ⟨vs, e1, _⟩ := S.obj qq ea
      rcases t with ⟨_, e⟩ | ⟨e, _⟩ | ⟨e, _⟩
      · exact .inl ⟨e, vs, .of e1⟩
      · cases e
      · cases e
    · rename_i xs qq
      obtain ⟨vs, e1, _⟩ := S.obj qq ea
      rcases t with ⟨e, _⟩ | ⟨_, e⟩ | ⟨e, _⟩
      · cases e
      · exact .inr (.inr (.inl ⟨e, .inl ⟨vs, e1⟩⟩))
      · cases e
    · rcases t with ⟨e, _⟩ | ⟨e, _⟩ | ⟨e, _⟩ <;> cases e
  · rw [r.strE]
    rcases t with ⟨e, _⟩ | ⟨e, _⟩ | ⟨_, e⟩
    · cases e
    · cases e
    · exact e
  · rcases t with ⟨e, _⟩ | ⟨e, _⟩ | ⟨e, _⟩ <;> cases e
abbrev rMq (G : Gm) (E : XK) (q : Bq) : V → List V → Hp → VK → Prop := fun x xs H Q => ∃ as h v vs, SR G as H h ∧ RepV G as H v x ∧ RepVs G as H vs xs ∧ OkV G E as H Q (pBq q v vs h)
theorem key_rel {v : PV} {x : V} {k : Key} (e : keyOf v = some k) (r : RepV G as H v x) : x = kV k := by
  unfold keyOf at e
  split at e
  · cases e; exact r.intE
  · cases e; exact r.strE
  · cases e
theorem strsOf_eq : ∀ {vs : List PV} {is : List (List Nat)}, strsOf vs = some is → vs = is.map .str
  | [], is, e => by simp only [strsOf] at e; cases e; rfl
  | v :: vs, is, e => by
    cases v with
    | str x =>
      simp only [strsOf] at e
      obtain ⟨r, e1, rfl⟩ := Option.map_eq_some_iff.mp e
      rw [strsOf_eq e1]
      rfl
    | _ => simp [strsOf] at e
theorem erase_mapG {α β : Type} (f : α → β) : ∀ (l : List α) (j : Nat), (l.map f).eraseIdx j = (l.eraseIdx j).map f
  | [], j => by simp
  | a :: r, 0 => by simp
  | a :: r, j + 1 => by
    have ih := erase_mapG f r j
    simp [ih]
theorem mt_bq (hk : X.K = G.K) (hu : X.A.units + 70 < cLine) (q : Bq) : MtR X q.id (rMq G E q) := by
  intro pins s σ H x xs v us Q I rx rs ⟨as, h, w, ws, S, r, rws, o⟩
  unfold pBq at o
  cases q with
  | lappend =>
    dsimp only at o
    split at o
    · obtain ⟨a, ea, rfl⟩ := r.refE
      obtain ⟨y, rfl, ry⟩ := rws.one
      split at o
      · rename_i qq
        split at o
        · rename_i hl
          obtain ⟨vs, e1, rl⟩ := S.lstM qq ea
          exact mt_append pins s σ H _ _ v us Q I rx rs ⟨a, vs, y, rfl, rfl, e1, by rw [← rl.length]; exact hl, okn o (S.setL ea e1 (rl.append (.cons ry .nil))) .non⟩
        · exact False.elim o
      · exact False.elim o
    · exact False.elim o
  | lpop =>
    dsimp only at o
    split at o
    · obtain ⟨a, ea, rfl⟩ := r.refE
      obtain ⟨y, rfl, ry⟩ := rws.one
      rw [ry.intE] at rs
      split at o
      · rename_i qq
        split at o
        · rename_i k qk
          split at o
          · rename_i y qy
            split at o
            · rename_i hl
              simp only [Bool.and_eq_true, decide_eq_true_eq] at hl
              obtain ⟨vs, e1, rl⟩ := S.lstM qq ea
              obtain ⟨z, ez, rz⟩ := rl.get qy
              have f := S.setL ea e1 (rl.eraseIdx k)
              exact mt_popAt pins s σ H _ _ v us Q I rx rs ⟨a, vs, _, k, z, rfl, rfl, e1, hl.1, hl.2, by rw [← rl.length]; exact qk, ez, okn o f (rz.fut f)⟩
            · exact False.elim o
          · exact False.elim o
        · exact False.elim o
      · exact False.elim o
    · obtain ⟨a, ea, rfl⟩ := r.refE
      have := rws.zero
      subst this
      split at o
      · rename_i xs0 qq
        split at o
        · rename_i y qy
          obtain ⟨vs, e1, rl⟩ := S.lstM qq ea
          obtain ⟨z, ez, rz⟩ := rl.get qy
          have rd : RepVs G as H xs0.dropLast vs.dropLast := by
            rw [List.dropLast_eq_take, List.dropLast_eq_take, rl.length]
            exact rl.take _
          have f := S.setL ea e1 rd
          exact mt_pop pins s σ H _ _ v us Q I rx rs ⟨a, vs, z, rfl, rfl, e1, by rw [← rl.length]; exact ez, okn o f (rz.fut f)⟩
        · exact False.elim o
      · exact False.elim o
    · exact False.elim o
  | lextend =>
    dsimp only at o
    split at o
    · obtain ⟨a, ea, rfl⟩ := r.refE
      obtain ⟨y, rfl, ry⟩ := rws.one
      obtain ⟨b, eb, rfl⟩ := ry.refE
      split at o
      · rename_i q1 q2
        split at o
        · rename_i hl
          obtain ⟨vs, e1, rl⟩ := S.lstM q1 ea
          obtain ⟨ws, e2, rl2⟩ := S.lstM q2 eb
          exact mt_extend pins s σ H _ _ v us Q I rx rs ⟨a, b, vs, ws, rfl, rfl, e1, e2, by rw [← rl.length, ← rl2.length]; exact hl, okn o (S.setL ea e1 (rl.append rl2)) .non⟩
        · exact False.elim o
      · exact False.elim o
    · exact False.elim o
  | linsert =>
    dsimp only at o
    split at o
    · obtain ⟨a, ea, rfl⟩ := r.refE
      obtain ⟨y1, y2, rfl, ry1, ry2⟩ := rws.two
      obtain rfl := ry1.intE
      split at o
      · rename_i qq
        split at o
        · rename_i hl
          simp only [Bool.and_eq_true, decide_eq_true_eq] at hl
          obtain ⟨vs, e1, rl⟩ := S.lstM qq ea
          exact mt_insert pins s σ H _ _ v us Q I rx rs ⟨a, vs, _, y2, rfl, rfl, e1, by rw [← rl.length]; exact hl.1.1, hl.1.2, hl.2, okn o (S.setL ea e1 (((rl.take _).append (.cons ry2 .nil)).append (rl.drop _))) .non⟩
        · exact False.elim o
      · exact False.elim o
    · exact False.elim o
  | lremove =>
    dsimp only at o
    split at o
    · rename_i l y
      obtain ⟨a, ea, rfl⟩ := r.refE
      obtain ⟨y1, rfl, ry1⟩ := rws.one
      obtain rfl := ry1.strE
      split at o
      · rename_i xs qq
        split at o
        · rename_i ys qy
          split at o
          · rename_i hm
            obtain ⟨vs, e1, rl⟩ := S.lstM qq ea
            have ev := strsOf_ok qy rl
            subst ev
            obtain ⟨j, h1, h2, h3, h4⟩ := first_txt hm
            refine mt_removeT I rx rs e1 h2 h3 (okn o (S.setL ea e1 ?_) .non)
            have exs : xs = ys.map .str := strsOf_eq qy
            rw [← h4, ← erase_mapG, ← exs]
            exact rl.eraseIdx j
          · exact False.elim o
        · exact False.elim o
      · exact False.elim o
    · exact False.elim o
  | lreverse =>
    dsimp only at o
    split at o
    · obtain ⟨a, ea, rfl⟩ := r.refE
      have := rws.zero
      subst this
      split at o
      · rename_i qq
        obtain ⟨vs, e1, rl⟩ := S.lstM qq ea
        exact mt_reverse pins s σ H _ _ v us Q I rx rs ⟨a, vs, rfl, rfl, e1, okn o (S.setL ea e1 rl.reverse) .non⟩
      · exact False.elim o
    · exact False.elim o
  | sisascii =>
    dsimp only at o
    split at o
    · have := rws.zero
      subst this
      rw [r.strE] at rx
      exact mt_isascii pins s σ H _ _ v us Q I rx rs ⟨_, rfl, rfl, True.intro, okv S o (.bl _)⟩
    · exact False.elim o
  | sisprintable =>
    dsimp only at o
    split at o
    · have := rws.zero
      subst this
      rw [r.strE] at rx
      exact mt_isprintable pins s σ H _ _ v us Q I rx rs ⟨_, rfl, rfl, True.intro, okv S o (.bl _)⟩
    · exact False.elim o
  | sisdigit =>
    dsimp only at o
    split at o
    · have := rws.zero
      subst this
      rw [r.strE] at rx
      exact mt_isdigit pins s σ H _ _ v us Q I rx rs ⟨_, rfl, rfl, True.intro, okv S o (.bl _)⟩
    · exact False.elim o
  | sremoveprefix =>
    dsimp only at o
    split at o
    · obtain ⟨y, rfl, ry⟩ := rws.one
      rw [r.strE] at rx
      rw [ry.strE] at rs
      split at o
      · rename_i hl
        exact mt_removeprefix pins s σ H _ _ v us Q I rx rs ⟨_, _, rfl, rfl, by rw [str_len]; exact hl, okv S o (.strO _)⟩
      · exact False.elim o
    · exact False.elim o
  | sjoin =>
    dsimp only at o
    split at o
    · obtain ⟨y, rfl, ry⟩ := rws.one
      obtain ⟨a, ea, rfl⟩ := ry.refE
      rw [r.strE] at rx
      split at o
      · rename_i ys q1
        split at o
        · rename_i zs q2
          split at o
          · rename_i hl
            obtain ⟨vs, sl, rl⟩ := S.lst q1 ea
            have e := strsOf_ok q2 rl
            subst e
            refine mt_join pins s σ H _ _ v us Q I rx rs ⟨_, a, _, rfl, rfl, .inl (by rw [hk]; exact sl), ?_, okv S o (.strO _)⟩
            rw [List.map_map, List.length_map, str_len]
            have : ((fun x : Str => x.length) ∘ fun y : List Nat => (⟨y.toArray⟩ : Str)) = fun y => y.length := by
              funext y
              exact str_len y
            rw [this]
            exact hl
          · exact False.elim o
        · exact False.elim o
      · exact False.elim o
    · exact False.elim o
  | dget =>
    dsimp only at o
    split at o
    · obtain ⟨a, ea, rfl⟩ := r.refE
      obtain ⟨y, rfl, ry⟩ := rws.one
      split at o
      · rename_i kvs k q1 q2
        obtain ⟨ks, ed, rk⟩ := S.dic q1 ea
        have ey := key_rel q2 ry
        subst ey
        obtain ⟨u, rfl, ru⟩ := vals1 rs
        obtain rfl : v = Value.ref a := rx
        refine d_get1 (by omega) I (DGet.k (k := k) ed) ru fun w' s' I' rw' => ⟨_, H, I', rw', ?_⟩
        obtain ⟨c1, c2⟩ := dLook_ok k rk
        cases qd : dLook kvs k with
        | none => rw [qd] at o; rw [c2 qd]; exact okv S o .non
        | some z => rw [qd] at o; obtain ⟨z', ez, rz⟩ := c1 z qd; rw [ez]; exact okv S o rz
      · exact False.elim o
    · obtain ⟨a, ea, rfl⟩ := r.refE
      obtain ⟨y, d, rfl, ry, rd⟩ := rws.two
      split at o
      · rename_i kvs k q1 q2
        obtain ⟨ks, ed, rk⟩ := S.dic q1 ea
        have ey := key_rel q2 ry
        subst ey
        obtain ⟨u, u2, rfl, ru, ru2⟩ := vals2 rs
        obtain rfl : v = Value.ref a := rx
        refine d_get2 (by omega) I (DGet.k (k := k) ed) ru ru2 fun w' s' I' rw' => ⟨_, H, I', rw', ?_⟩
        obtain ⟨c1, c2⟩ := dLook_ok k rk
        cases qd : dLook kvs k with
        | none => rw [qd] at o; rw [c2 qd]; exact okv S o rd
        | some z => rw [qd] at o; obtain ⟨z', ez, rz⟩ := c1 z qd; rw [ez]; exact okv S o rz
      · exact False.elim o
    · exact False.elim o
  | dpop =>
    dsimp only at o
    split at o
    · obtain ⟨a, ea, rfl⟩ := r.refE
      obtain ⟨y, rfl, ry⟩ := rws.one
      split at o
      · rename_i kvs k q1 q2
        split at o
        · rename_i z qd
          obtain ⟨ks, ed, rk⟩ := S.dic q1 ea
          have ey := key_rel q2 ry
          subst ey
          obtain ⟨u, rfl, ru⟩ := vals1 rs
          obtain rfl : v = Value.ref a := rx
          obtain ⟨z', ez, rz⟩ := (dLook_ok k rk).1 z qd
          have f := S.setD ea ed (dDrop_ok (k := k) rk)
          exact d_pop I ed ru ez (.inl rfl) fun w' s' I' rw' => ⟨_, _, I', rw', okn o f (rz.fut f)⟩
        · exact False.elim o
      · exact False.elim o
    · exact False.elim o
  | _ => exact False.elim o
theorem atI_ok {xs : List PV} {vs : List V} {i : Int} {x : PV} (r : RepVs G as H xs vs) (e : atI xs i = some x) : ∃ v, atI vs i = some v ∧ RepV G as H x v := by
  unfold atI at e ⊢
  rw [← r.length]
  obtain ⟨j, e1, e2⟩ := Option.bind_eq_some_iff.mp e
  obtain ⟨v, e3, rv⟩ := r.get e2
  exact ⟨v, by rw [e1]; exact e3, rv⟩
theorem ixd {value slice : Expr} {pins : List (Addr × Obj)} {s : Shared} {σ : L2.St} {a : Addr} {ks : List (Key × V)} {k : Key} {u : Value} {z : V} {Q : VK} (I : Inv X pins σ H s) (ed : H a = some (.dK ks)) (ry : RelV (kV k) u) (ez : valV ks k = some z)
    (hs : subscripted slice false (.ref a) u = operate [.ref a, u] (getItem (.ref a) u)) (hu : X.A.units + 1 < cLine) (q : Q z H) : wpAny (model X.prog X.w) X.A (subscriptTail value slice (.ref a) u) (EP X pins σ Q) X.xe s := by
  have g : DGet H a (kV k) (some z) := by rw [← ez]; exact DGet.k ed
  exact tail_any (dict_typeIs I g) PySem.F.slot_dict_getitem.lookup (d_getItem hu I g ry fun w' s3 I3 rw' => ⟨z, H, I3, rw', q⟩) hs
theorem op_ix (hk : X.K = G.K) (hu : X.A.units + 70 < cLine) : IxR X (rP2 G E pIx) := by
  intro value slice pins s σ H x y v u Q I rx ry ⟨as, h, va, vb, S, ra, rb, o⟩ hs
  unfold pIx at o
  split at o
  · split at o
    · rename_i q
      obtain ⟨a, vs, rfl, sa, r⟩ := ra.tupE
      obtain ⟨z, ez, rz⟩ := atI_ok r q
      rw [rb.intE] at ry
      exact ix_tup value slice pins s σ H _ _ v u Q I rx ry ⟨a, vs, _, z, rfl, rfl, by rw [hk]; exact sa, ez, okv S o rz⟩ hs
    · exact False.elim o
  · obtain ⟨a, ea, rfl⟩ := ra.refE
    rw [rb.intE] at ry
    split at o
    · rename_i ql
      split at o
      · rename_i q
        obtain ⟨vs, sl, r⟩ := S.lst (lstAt_of ql) ea
        obtain ⟨z, ez, rz⟩ := atI_ok r q
        exact ix_list value slice pins s σ H _ _ v u Q I rx ry ⟨a, vs, _, z, rfl, rfl, by rw [hk]; exact sl, ez, okv S o rz⟩ hs
      · exact False.elim o
    · rename_i ql
      split at o
      · rename_i q
        obtain ⟨vs, sl, r⟩ := S.lst (lstAt_frz ql) ea
        obtain ⟨z, ez, rz⟩ := atI_ok r q
        exact ix_list value slice pins s σ H _ _ v u Q I rx ry ⟨a, vs, _, z, rfl, rfl, by rw [hk]; exact sl, ez, okv S o rz⟩ hs
      · exact False.elim o
    · rename_i ql
      split at o
      · rename_i q
        obtain ⟨ks, ed, rk⟩ := S.dic ql ea
        obtain ⟨z, ez, rz⟩ := (dLook_ok _ rk).1 _ q
        obtain rfl : v = Value.ref a := rx
        exact ixd I ed (k := .inl _) ry ez hs (by omega) (okv S o rz)
      · exact False.elim o
    · exact False.elim o
  · obtain ⟨a, ea, rfl⟩ := ra.refE
    rw [rb.strE] at ry
    split at o
    · rename_i ql
      split at o
      · rename_i q
        obtain ⟨ks, ed, rk⟩ := S.dic ql ea
        obtain ⟨z, ez, rz⟩ := (dLook_ok _ rk).1 _ q
        obtain rfl : v = Value.ref a := rx
        exact ixd I ed (k := .inr _) ry ez hs (by omega) (okv S o rz)
      · exact False.elim o
    · exact False.elim o
  · split at o
    · rename_i q
      obtain ⟨a, vs, rfl, sf, r⟩ := ra.frkE
      rw [rb.intE] at ry
      obtain ⟨z, ez, rz⟩ := atI_ok r q
      exact ix_list value slice pins s σ H _ _ v u Q I rx ry ⟨a, vs, _, z, rfl, rfl, by rw [hk]; exact sf.sq, ez, okv S o rz⟩ hs
    · exact False.elim o
  · split at o
    · rename_i hl
      split at o
      · rename_i q
        rw [ra.strE] at rx
        rw [rb.intE] at ry
        exact ix_str value slice pins s σ H _ _ v u Q I rx ry ⟨_, _, _, rfl, rfl, by rw [str_len]; exact hl, by simpa using q, okv S o (.str _)⟩ hs
      · exact False.elim o
    · exact False.elim o
  · exact False.elim o
theorem cut_ok {xs : List PV} {vs : List V} (r : RepVs G as H xs vs) (lo hi : Option Int) : RepVs G as H (cut xs lo hi) (cutV vs lo hi) := by
  unfold cut cutV
  rw [r.length]
  exact (r.drop _).take _
theorem cut_str (x : List Nat) (lo hi : Option Int) : cutS ⟨x.toArray⟩ lo hi = ⟨(cut x lo hi).toArray⟩ := by
  unfold cutS cut
  rw [str_len]
abbrev rSp (G : Gm) (E : XK) : V → Option Int → Option Int → Hp → VK → Prop := fun x lo hi H Q => ∃ as h v, SR G as H h ∧ RepV G as H v x ∧ OkV G E as H Q (pSl v lo hi h)
theorem sl_all (hk : X.K = G.K) : SlR X (rSp G E) := by
  intro pins s σ H x v vl vu lo hi sl Q I rx hs pl pu ⟨as, h, va, S, ra, o⟩
  unfold pSl at o
  split at o
  · rename_i xs
    obtain ⟨a, vs, rfl, sa, r⟩ := ra.tupE
    refine sl_tupA pins s σ H _ v vl vu lo hi sl Q I rx hs pl pu ⟨a, vs, rfl, by rw [hk]; exact sa, fun hw => ?_, fun hw p hp => ?_⟩
    · have ew : cut xs lo hi = xs := by
        unfold cut
        rw [r.length, hw.1, hw.2, List.drop_zero, Nat.sub_zero, ← r.length, List.take_length]
      rw [ew] at o
      exact okv S o ra
    · obtain ⟨f, rr⟩ := S.tup hp (cut_ok r lo hi)
      exact okn o f rr
  · split at o
    · rename_i hl
      rw [ra.strE] at rx
      refine sl_str pins s σ H _ v vl vu lo hi sl Q I rx hs pl pu ⟨_, rfl, by rw [str_len]; exact hl, ?_⟩
      rw [cut_str]
      exact okv S o (.str _)
    · exact False.elim o
  · obtain ⟨a, ea, rfl⟩ := ra.refE
    split at o
    · rename_i q
      obtain ⟨vs, sq, r⟩ := S.lst q ea
      refine sl_list pins s σ H _ v vl vu lo hi sl Q I rx hs pl pu ⟨a, vs, rfl, by rw [hk]; exact sq, fun p hp => ?_⟩
      obtain ⟨f, rr⟩ := S.newL hp (cut_ok r lo hi)
      exact okn o f rr
    · exact False.elim o
  · exact False.elim o
theorem tru_p (hk : X.K = G.K) (S : SR G as H h) {v : PV} {x : V} {b : Bool} (e : pTru h v = some b) (r : RepV G as H v x) : TruV X.K x H b := by
  unfold pTru at e
  split at e
  · cases e; rw [r.nonE]; rfl
  · cases e; rw [r.blE]; rfl
  · cases e; rw [r.intE]; rfl
  · split at e
    · rename_i y hl
      cases e
      rw [r.strE]
      refine ⟨by rw [str_len]; exact hl, ?_⟩
      rw [str_len]
      cases y <;> simp
      omega
    · cases e
  · rename_i xs
    cases e
    obtain ⟨a, vs, rfl, sa, rv⟩ := r.tupE
    exact .inr (.inl ⟨vs, by rw [hk]; exact sa, by
      cases xs with
      | nil => rw [rv.zero]; rfl
      | cons y ys => unfold RepVs at rv; obtain ⟨w, rest, rfl, _⟩ := rv; rfl⟩)
  · obtain ⟨a, ea, rfl⟩ := r.refE
    have fin : ∀ {xs : List PV} {vs : List V}, RepVs G as H xs vs → (!xs.isEmpty) = !vs.isEmpty := fun {xs vs} rv => by
      cases xs with
      | nil => rw [rv.zero]; rfl
      | cons y ys => unfold RepVs at rv; obtain ⟨w, rest, rfl, _⟩ := rv; rfl
    split at e
    · rename_i q
      cases e
      obtain ⟨vs, sl, rv⟩ := S.lst (lstAt_of q) ea
      exact .inl ⟨vs, by rw [hk]; exact sl, fin rv⟩
    · rename_i q
      cases e
      obtain ⟨vs, sl, rv⟩ := S.lst (lstAt_frz q) ea
      exact .inl ⟨vs, by rw [hk]; exact sl, fin rv⟩
    · rename_i kvs q
      cases e
      obtain ⟨ks, ed, rk⟩ := S.dic q ea
      refine .inr (.inr ⟨ks, ed, ?_⟩)
      cases kvs with
      | nil => unfold RepK at rk; subst rk; rfl
      | cons y ys => obtain ⟨k, z⟩ := y; unfold RepK at rk; obtain ⟨w, rest, rfl, _⟩ := rk; rfl
    · cases e
  · cases e
end
end Mn
set_option Elab.async false
set_option linter.all false
set_option maxRecDepth 100000
set_option maxHeartbeats 4000000
namespace Mn
open PySem PySem.Spec L2 PyProof.Rows
structure Nm where
  gn : List Str
  an : List Str
structure Fx where
  N : List Str
  names : List (Str × NameKind)
  st : List Str
def Bi.nm : Bi → Str
  | .len => "len" | .abs => "abs" | .max => "max" | .min => "min" | .int => "int" | .str => "str" | .bool => "bool" | .list => "list" | .tuple => "tuple" | .sorted => "sorted" | .sum => "sum" | .any => "any" | .all => "all"
  | .ord => "ord" | .isinst => "isinstance" | .repr => "repr" | .dict => "dict"
theorem bi_boot (f : Bi) : bootBuiltins f.nm = some f.py := by cases f <;> decide +kernel
section
variable (G : Gm) (T : Tb) (nm : Nm) (call : Nat → List PV → PH → Res PV)
def RelG (v : PV) (u : Value) : Prop := ∃ x, RelV x u ∧ ∀ as H, RepV G as H v x
def spF (f np : Nat) : Sp := fun vs H Q E => vs.length = np ∧ ∃ as h xs, SR G as H h ∧ RepVs G as H xs vs ∧ OkV G E as H Q (call f xs h)
def DflK (K : PySem.W.Frag) (fd : FuncData) (ps : List Str) (f : Nat) : Prop := ∀ ds, (f, ds) ∈ T.dfl → ∃ (vs : List V) (us : List Value), (∀ as H, RepVs G as H ds vs) ∧ Vals vs us ∧ Binds K fd ps us
structure XOk (fx : Fx) (X : Cx) (E : XK) : Prop where
  K : X.K = G.K
  calm : X.calm = true
  hu : X.A.units + 70 < cLine
  N : X.N = fx.N
  nd : X.N.Nodup
  names : X.env.scope.names = fx.names
  gl : ∀ (g : Nat) (x : Str) (v : PV), nm.gn[g]? = some x → T.glob[g]? = some v → ∃ u, X.mg x = some u ∧ RelG G v u
  bl : ∀ f : Bi, X.mg f.nm = none
  st : ∀ x ∈ fx.st, Loc X.env.scope x ∧ (X.fn x = true ∨ X.env.scope.names.lookup x = some .local)
  rng : X.mg "range" = none
  enm : X.mg "enumerate" = none
  zp : X.mg "zip" = none
  rvs : X.mg "reversed" = none
  sts : X.mg "set" = none
  cls : COk G T
  kind : X.env.scope.kind = .function
  pass : Passes (L2.CX X.prog X.w) X E
  fns : ∀ (g : Nat) (x : Str) (f : Nat), nm.gn[g]? = some x → T.glob[g]? = some (.fn f) → ∃ (k : Nat) (fd : FuncData) (ps : List Str), FnOk X.prog X.w X.K X.mg X.base (L2.CX X.prog X.w) k (G.fa f) fd ps (spF G call f ps.length) ∧ Room k X.A ∧ PySem.W.keepIn X.K (.ref (G.fa f)) = true ∧ Binds X.K fd ps [] ∧ X.mg x = some (.ref (G.fa f)) ∧ (∀ xs h, xs.length ≠ ps.length → call f xs h = .stuck) ∧ DflK G T X.K fd ps f
  gnl : T.glob.length ≤ nm.gn.length
  an : nm.an = G.an
  mfn : ∀ (c : Nat) (ci : Ci) (f : Nat), T.cls[c]? = some ci → (ci.init = some f ∨ (∃ m, ci.meths.lookup m = some f) ∨ (∃ m, ci.props.lookup m = some f) ∨ ci.eq = some f) → ∃ (k : Nat) (fd : FuncData) (ps : List Str), FnOk X.prog X.w X.K X.mg X.base (L2.CX X.prog X.w) k (G.fa f) fd ps (spF G call f ps.length) ∧ Room (k + 1) X.A ∧ Binds X.K fd ps [] ∧ (∀ xs h, xs.length ≠ ps.length → call f xs h = .stuck) ∧ DflK G T X.K fd ps f
end
def visB (names : List (Str × NameKind)) (x : Str) : Bool := match names.lookup x with
  | some .local => true
  | some .cell => true
  | some .free => true
  | _ => false
def glB (names : List (Str × NameKind)) (x : Str) : Bool := match names.lookup x with
  | some .globalImplicit => true
  | _ => false
def plainName (x : Str) : Bool := !(x == ("__debug__" : Str)) && !(x == ("__classdict__" : Str)) && decide (x ≠ "__name__")
def isStar : Expr → Bool
  | .Starred .. => true
  | _ => false
def isSlice : Expr → Bool
  | .Slice .. => true
  | _ => false
def conOk : PV → Const → Bool
  | .non, .none => true
  | .bl b, .bool c => b == c
  | .int i, .int j => decide (i = j)
  | .str x, .str y => decide (x = y.cps.toList)
  | _, _ => false
def opB : Bop → Operator → Bool
  | .add, .Add | .sub, .Sub | .mul, .Mult | .fdiv, .FloorDiv | .mod, .Mod | .pow, .Pow | .band, .BitAnd | .bor, .BitOr | .bxor, .BitXor | .shl, .LShift | .shr, .RShift => true
  | _, _ => false
theorem opB_ok {a : Bop} {b : Operator} (h : opB a b = true) : b = a.py := by cases a <;> cases b <;> first | rfl | cases h
def cpB : Cop → CmpOp → Bool
  | .eq, .Eq | .ne, .NotEq | .lt, .Lt | .le, .LtE | .gt, .Gt | .ge, .GtE | .is_, .Is | .isn, .IsNot | .in_, .In | .nin, .NotIn => true
  | _, _ => false
theorem cpB_ok {a : Cop} {b : CmpOp} (h : cpB a b = true) : b = a.py := by cases a <;> cases b <;> first | rfl | cases h
def noSet : Expr → Bool
  | .Set .. => false
  | _ => true
theorem noSet_ok {e : Expr} {op : CmpOp} (h : noSet e = true) : behindInMarks op e = false := by cases e <;> first | rfl | cases h
section
variable (nm : Nm)
mutual
def chkE (fx : Fx) : Ex → Expr → Bool
  | .var i, .Name x _ => decide (fx.N[i]? = some x) && visB fx.names x && plainName x
  | .con v, .Constant c _ _ => conOk v c
  | .glob g, .Name x _ => decide (nm.gn[g]? = some x) && glB fx.names x && plainName x
  | .bin op a b, .BinOp x o y _ => opB op o && chkE fx a x && chkE fx b y
  | .neg a, .UnaryOp .USub x _ => chkE fx a x
  | .not a, .UnaryOp .Not x _ => chkE fx a x
  | .and a b, .BoolOp .And (x :: y :: r) p => chkE fx a x && (match r with
      | [] => chkE fx b y
      | _ :: _ => chkE fx b (.BoolOp .And (y :: r) p))
  | .or a b, .BoolOp .Or (x :: y :: r) p => chkE fx a x && (match r with
      | [] => chkE fx b y
      | _ :: _ => chkE fx b (.BoolOp .Or (y :: r) p))
  | .cmp op a b, .Compare x [o] [y] _ => cpB op o && noSet y && chkE fx a x && chkE fx b y
  | .chn o1 o2 a b c, .Compare x [p1, p2] [y, z] _ => cpB o1 p1 && cpB o2 p2 && noSet y && noSet z && chkE fx a x && chkE fx b y && chkE fx c z
  | .ife c a b, .IfExp z x y _ => chkE fx c z && chkE fx a x && chkE fx b y
  | .tup es, .Tuple xs _ _ => chkEs fx es xs
  | .lst es, .List xs _ => chkEs fx es xs
  | .ix o i, .Subscript x y _ => !isSlice y && chkE fx o x && chkE fx i y
  | .sl o lo hi, .Subscript x (.Slice l u none _) _ => chkE fx o x && (match l with
      | none => isNop lo
      | some e => !isNop lo && chkE fx lo e) && (match u with
      | none => isNop hi
      | some e => !isNop hi && chkE fx hi e)
  | .call g es, .Call (.Name x _) xs [] _ => decide (nm.gn[g]? = some x) && glB fx.names x && plainName x && chkEs fx es xs
  | .bi f es, .Call (.Name x _) xs [] _ => decide (x = f.nm) && glB fx.names x && chkEs fx es xs && !es.isEmpty
  | _, _ => false
def chkEs (fx : Fx) : List Ex → List Expr → Bool
  | [], [] => true
  | e :: es, x :: xs => chkE fx e x && chkEs fx es xs
  | _, _ => false
end
end
section
variable (G : Gm) (E : XK)
def tE (ev : PEnv → PH → Res PV) : TE := fun σ H Q => ∃ as ρ h, SR G as H h ∧ RepE G as H ρ σ ∧ OkV G E as H Q (ev ρ h)
def tT (ev : PEnv → PH → Res Bool) : TT := fun σ H Q => ∃ as ρ h, SR G as H h ∧ RepE G as H ρ σ ∧ OkB G E as H Q (ev ρ h)
def tA (ev : PEnv → PH → Res (List PV)) : TA := fun σ H Q => ∃ as ρ h, SR G as H h ∧ RepE G as H ρ σ ∧ OkA G E as H Q (ev ρ h)
def tO (ev : PEnv → PH → Res (Option Int)) : TO := fun σ H Q => ∃ as ρ h, SR G as H h ∧ RepE G as H ρ σ ∧ Ok G E as H (fun _ _ a b => b = a) Q (ev ρ h)
end
theorem _root_.L2.PE.imp {X : Cx} {e : Expr} {t t' : TE} (p : PE X e t) (h : ∀ σ H Q, t' σ H Q → t σ H Q) : PE X e t' := ⟨fun pins s σ H Q I q => p.run pins s σ H Q I (h σ H Q q)⟩
theorem _root_.L2.PT.imp {X : Cx} {e : Expr} {t t' : TT} (p : PT X e t) (h : ∀ σ H Q, t' σ H Q → t σ H Q) : PT X e t' := ⟨fun pins s σ H Q I q => p.run pins s σ H Q I (h σ H Q q)⟩
theorem _root_.L2.PA.imp {X : Cx} {e : List Expr} {t t' : TA} (p : PA X e t) (h : ∀ σ H Q, t' σ H Q → t σ H Q) : PA X e t' := ⟨fun pos pins s σ H Q I q => p.run pos pins s σ H Q I (h σ H Q q)⟩
section
variable {G : Gm} {T : Tb} {nm : Nm} {call : Nat → List PV → PH → Res PV} {fx : Fx} {X : Cx} {E : XK}
theorem plain_ok {x : Str} (h : plainName x = true) : (x == ("__debug__" : Str)) = false ∧ (x == ("__classdict__" : Str)) = false ∧ x ≠ "__name__" := by
  unfold plainName at h
  simp only [Bool.and_eq_true, Bool.not_eq_true', decide_eq_true_eq] at h
  exact ⟨h.1.1, h.1.2, h.2⟩
theorem vis_ok (O : XOk G T nm call fx X E) {x : Str} (h : visB fx.names x = true) : Vis X.env.scope x := by
  unfold visB at h
  unfold Vis
  rw [O.names]
  split at h
  · rename_i q; exact .inl q
  · rename_i q; exact .inr (.inl q)
  · rename_i q; exact .inr (.inr q)
  · cases h
theorem gl_ok (O : XOk G T nm call fx X E) {x : Str} (h : glB fx.names x = true) : Gl X x := by
  unfold glB at h
  unfold Gl Env.kindOf
  rw [O.names]
  split at h
  · rename_i q; exact q
  · cases h
theorem okE_var (O : XOk G T nm call fx X E) {i : Nat} {x : Str} {p : Pos} (h : chkE nm fx (.var i) (.Name x p) = true) : PE X (.Name x p) (tE G E (evE T call (.var i))) := by
  simp only [chkE, Bool.and_eq_true, decide_eq_true_eq] at h
  obtain ⟨⟨h1, h2⟩, h3⟩ := h
  obtain ⟨p1, p2, p3⟩ := plain_ok h3
  refine (pe_var (i := i) (by rw [O.N]; exact h1) (vis_ok O h2) p1 p2).imp fun σ H Q ⟨as, ρ, h, S, R, o⟩ => ?_
  simp only [evE] at o
  split at o
  · rename_i v q
    obtain ⟨v', e, r⟩ := R.2 i v q
    exact ⟨v', e, okv S o r⟩
  · exact False.elim o
theorem okE_con {v : PV} {c : Const} {j : Nat} {p : Pos} (h : conOk v c = true) : PE X (.Constant c j p) (tE G E (evE T call (.con v))) := by
  cases v with
  | non => cases c <;> first | exact pe_non.imp fun σ H Q ⟨as, ρ, h, S, R, o⟩ => okv S o .non | cases h
  | bl b =>
    cases c with
    | bool b' =>
      have e : b = b' := by simpa [conOk] using h
      subst e
      exact pe_bl.imp fun σ H Q ⟨as, ρ, h, S, R, o⟩ => okv S o (.bl _)
    | _ => cases h
  | int b =>
    cases c with
    | int b' =>
      have e : b = b' := by simpa [conOk] using h
      subst e
      exact pe_int.imp fun σ H Q ⟨as, ρ, h, S, R, o⟩ => okv S o (.int _)
    | _ => cases h
  | str b =>
    cases c with
    | str b' =>
      have e : b = b'.cps.toList := by simpa [conOk] using h
      subst e
      exact pe_str.imp fun σ H Q ⟨as, ρ, h, S, R, o⟩ => okv S o (.strO _)
    | _ => cases h
  | _ => cases c <;> cases h
def btyB (names : List (Str × NameKind)) (f : Bi) (x : Str) : Bool := decide (x = f.nm) && glB names x && f.tyn.isSome
theorem bi_dbg' (f : Bi) : (f.nm == ("__debug__" : Str)) = false := by cases f <;> decide +kernel
theorem bi_name' (f : Bi) : f.nm ≠ "__name__" := by cases f <;> decide +kernel
theorem bi_tyn {f : Bi} {n : String} (h : f.tyn = some n) : bootBuiltins f.nm = some (.type n) := by
  rw [bi_boot]
  cases f <;> cases h <;> rfl
theorem okE_bty (O : XOk G T nm call fx X E) {f : Bi} {x : Str} {p : Pos} (h : btyB fx.names f x = true) : PE X (.Name x p) (tE G E (evE T call (.bty f))) := by
  unfold btyB at h
  simp only [Bool.and_eq_true, decide_eq_true_eq] at h
  obtain ⟨⟨rfl, h2⟩, h3⟩ := h
  refine ⟨fun pins s σ H Q I ⟨as, ρ, h, S, R, o⟩ => ?_⟩
  simp only [evE] at o
  split at o
  · rename_i n q
    refine ld_blt I (gl_ok O h2) (O.bl f) (bi_tyn q) ?_ (bi_name' f) (bi_dbg' f)
    exact ⟨.ty n, H, I, rfl, okv S o (by unfold RepV; rfl)⟩
  · exact False.elim o
theorem okE_glob (O : XOk G T nm call fx X E) {g : Nat} {x : Str} {p : Pos} (h : chkE nm fx (.glob g) (.Name x p) = true) : PE X (.Name x p) (tE G E (evE T call (.glob g))) := by
  simp only [chkE, Bool.and_eq_true, decide_eq_true_eq] at h
  obtain ⟨⟨h1, h2⟩, h3⟩ := h
  obtain ⟨p1, p2, p3⟩ := plain_ok h3
  cases q : T.glob[g]? with
  | none =>
    exact ⟨fun pins s σ H Q I ⟨as, ρ, h, S, R, o⟩ => by simp only [evE, q] at o; exact False.elim o⟩
  | some v =>
    obtain ⟨u, e, y, ry, rep⟩ := O.gl g x v h1 q
    refine (pe_glob (gl_ok O h2) e ry p1).imp fun σ H Q ⟨as, ρ, h, S, R, o⟩ => ?_
    simp only [evE, q] at o
    exact okv S o (rep _ _)
theorem two_parts {a b : PEnv → PH → Res PV} {pr : PV → PV → PH → Res PV} {σ : L2.St} {H : Hp} {Q : VK} {r : R2} (hr : ∀ x y H Q, rP2 G E pr x y H Q → r x y H Q)
    (q : tE G E (fun ρ h => (a ρ h).bind fun v h1 => (b ρ h1).bind fun w h2 => pr v w h2) σ H Q) : tOp r (tE G E a) (tE G E b) σ H Q := by
  obtain ⟨as, ρ, h, S, R, o⟩ := q
  refine ⟨as, ρ, h, S, R, Ok.bind o fun v h1 as1 H1 v' f1 r1 o1 => ?_⟩
  refine ⟨as1, ρ, h1, f1.sr, R.fut f1, Ok.bind o1 fun w h2 as2 H2 w' f2 r2 o2 => ?_⟩
  exact hr _ _ _ _ ⟨as2, h2, v, w, f2.sr, r1.fut f2, r2, o2⟩
theorem okE_bin (O : XOk G T nm call fx X E) {op : Bop} {a b : Ex} {x y : Expr} {p : Pos} (ha : PE X x (tE G E (evE T call a))) (hb : PE X y (tE G E (evE T call b))) : PE X (.BinOp x op.py y p) (tE G E (evE T call (.bin op a b))) := by
  refine (pe_op (op_bin (E := E) O.K op) ha hb).imp fun σ H Q q => ?_
  refine two_parts (fun _ _ _ _ h => h) ?_
  simpa only [tE, evE] using q
theorem okE_cmp (O : XOk G T nm call fx X E) {op : Cop} {a b : Ex} {x y : Expr} {p : Pos} (hm : noSet y = true) (ha : PE X x (tE G E (evE T call a))) (hb : PE X y (tE G E (evE T call b))) : PE X (.Compare x [op.py] [y] p) (tE G E (evE T call (.cmp op a b))) := by
  refine (pe_cmpR (op_cmp (E := E) O.K O.hu op) ha hb (noSet_ok hm)).imp fun σ H Q q => ?_
  refine two_parts (fun _ _ _ _ h => h) ?_
  simpa only [tE, evE] using q
theorem okE_ix (O : XOk G T nm call fx X E) {a b : Ex} {x y : Expr} {p : Pos} (hy : isSlice y = false) (ha : PE X x (tE G E (evE T call a))) (hb : PE X y (tE G E (evE T call b))) : PE X (.Subscript x y p) (tE G E (evE T call (.ix a b))) := by
  have hs : PlainIx y := fun o i => by cases y <;> first | rfl | cases hy
  refine (pe_ix (op_ix (E := E) O.K O.hu) ha hb hs).imp fun σ H Q q => ?_
  refine two_parts (fun _ _ _ _ h => h) ?_
  simpa only [tE, evE] using q
theorem okE_neg {a : Ex} {x : Expr} {p : Pos} (ha : PE X x (tE G E (evE T call a))) : PE X (.UnaryOp .USub x p) (tE G E (evE T call (.neg a))) := by
  refine (pe_un un_neg ha).imp fun σ H Q ⟨as, ρ, h, S, R, o⟩ => ?_
  simp only [evE] at o
  refine ⟨as, ρ, h, S, R, Ok.bind o fun v h1 as1 H1 v' f1 r1 o1 => ?_⟩
  cases v with
  | int i => rw [r1.intE]; exact ⟨i, rfl, okv f1.sr o1 (.int _)⟩
  | _ => exact False.elim o1
theorem okT_of (O : XOk G T nm call fx X E) {a : Ex} {x : Expr} (ha : PE X x (tE G E (evE T call a))) (he : ∀ whole, isTrue x X.env whole = (do let v ← whole; standAt x.pos; holding [v] (truthy v))) : PT X x (tT G E (evT T call a)) := by
  refine (pt_truth ha he).imp fun σ H Q ⟨as, ρ, h, S, R, o⟩ => ?_
  simp only [evT] at o
  refine ⟨as, ρ, h, S, R, Ok.bind o fun v h1 as1 H1 v' f1 r1 o1 => ?_⟩
  split at o1
  · rename_i b q
    exact ⟨b, tru_p O.K f1.sr q r1, o1 as1 H1 b (Fut.refl f1.sr) rfl⟩
  · exact False.elim o1
end
end Mn
set_option Elab.async false
set_option linter.all false
set_option maxRecDepth 100000
set_option maxHeartbeats 4000000
namespace Mn
open PySem PySem.Spec L2 PyProof.Rows
theorem Res.bind_assoc {α β γ : Type} (r : Res α) (k : α → PH → Res β) (l : β → PH → Res γ) : (r.bind k).bind l = r.bind fun a h => (k a h).bind l := by
  induction r with
  | ok a h => rfl
  | er x h => rfl
  | stuck => rfl
  | all n f ih => simp only [Res.bind_all, ih]
theorem pCmp_form (op : Cop) (v w : PV) (h : PH) : pCmp op v w h = .stuck ∨ ∃ b, pCmp op v w h = .ok (.bl b) h := by
  have obf : ∀ b : Option Bool, ob b h = .stuck ∨ ∃ c, ob b h = .ok (.bl c) h := fun b => by
    cases b with
    | none => exact .inl rfl
    | some c => exact .inr ⟨c, rfl⟩
  unfold pCmp
  cases op <;> dsimp only <;> first
    | exact obf _
    | (split <;> first | exact obf _ | exact .inl rfl | exact .inr ⟨_, rfl⟩)
section
variable {G : Gm} {T : Tb} {nm : Nm} {call : Nat → List PV → PH → Res PV} {fx : Fx} {X : Cx} {E : XK}
theorem evT_not (a : Ex) (ρ : PEnv) (h : PH) : evT T call (.not a) ρ h = (evT T call a ρ h).bind fun b h1 => .ok (!b) h1 := by
  simp only [evT, evE, Res.bind_assoc]
  congr 1
  funext v h1
  cases e : pTru h1 v with
  | none => rfl
  | some b => rfl
theorem evT_and (a b : Ex) (ρ : PEnv) (h : PH) : evT T call (.and a b) ρ h = (evT T call a ρ h).bind fun t h1 => if t then evT T call b ρ h1 else .ok false h1 := by
  simp only [evT, evE, Res.bind_assoc]
  congr 1
  funext v h1
  cases e : pTru h1 v with
  | none => rfl
  | some t =>
    cases t with
    | true => rfl
    | false => simp only [Res.bind_ok, e]; rfl
theorem evT_or (a b : Ex) (ρ : PEnv) (h : PH) : evT T call (.or a b) ρ h = (evT T call a ρ h).bind fun t h1 => if t then .ok true h1 else evT T call b ρ h1 := by
  simp only [evT, evE, Res.bind_assoc]
  congr 1
  funext v h1
  cases e : pTru h1 v with
  | none => rfl
  | some t =>
    cases t with
    | false => rfl
    | true => simp only [Res.bind_ok, e]; rfl
theorem okT_not {a : Ex} {x : Expr} {p : Pos} (ha : PT X x (tT G E (evT T call a))) : PT X (.UnaryOp .Not x p) (tT G E (evT T call (.not a))) := by
  refine (pt_not ha).imp fun σ H Q ⟨as, ρ, h, S, R, o⟩ => ?_
  rw [evT_not] at o
  refine ⟨as, ρ, h, S, R, Ok.bind o fun b h1 as1 H1 b' f1 e o1 => ?_⟩
  subst e
  exact o1 as1 H1 _ (Fut.refl f1.sr) rfl
theorem okT_and {a b : Ex} {x y : Expr} {r : List Expr} {p : Pos} (ha : PT X x (tT G E (evT T call a))) (hb : PW X (.BoolOp .And (y :: r) p) (tT G E (evT T call b))) : PW X (.BoolOp .And (x :: y :: r) p) (tT G E (evT T call (.and a b))) := by
  refine ⟨fun whole pins s σ H Q I ⟨as, ρ, h, S, R, o⟩ => (pw_and ha hb).run whole pins s σ H Q I ?_⟩
  rw [evT_and] at o
  refine ⟨as, ρ, h, S, R, Ok.bind o fun b h1 as1 H1 b' f1 e o1 => ?_⟩
  subst e
  cases b with
  | true => exact ⟨as1, ρ, h1, f1.sr, R.fut f1, o1⟩
  | false => exact o1 as1 H1 _ (Fut.refl f1.sr) rfl
theorem okT_or {a b : Ex} {x y : Expr} {r : List Expr} {p : Pos} (ha : PT X x (tT G E (evT T call a))) (hb : PW X (.BoolOp .Or (y :: r) p) (tT G E (evT T call b))) : PW X (.BoolOp .Or (x :: y :: r) p) (tT G E (evT T call (.or a b))) := by
  refine ⟨fun whole pins s σ H Q I ⟨as, ρ, h, S, R, o⟩ => (pw_or ha hb).run whole pins s σ H Q I ?_⟩
  rw [evT_or] at o
  refine ⟨as, ρ, h, S, R, Ok.bind o fun b h1 as1 H1 b' f1 e o1 => ?_⟩
  subst e
  cases b with
  | false => exact ⟨as1, ρ, h1, f1.sr, R.fut f1, o1⟩
  | true => exact o1 as1 H1 _ (Fut.refl f1.sr) rfl
theorem okE_not (O : XOk G T nm call fx X E) {a : Ex} {x : Expr} {p : Pos} (ha : PE X x (tE G E (evE T call a))) : PE X (.UnaryOp .Not x p) (tE G E (evE T call (.not a))) := by
  refine (pe_notT ha).imp fun σ H Q ⟨as, ρ, h, S, R, o⟩ => ?_
  simp only [evE] at o
  refine ⟨as, ρ, h, S, R, Ok.bind o fun v h1 as1 H1 v' f1 r1 o1 => ?_⟩
  split at o1
  · rename_i b q
    exact ⟨b, tru_p O.K f1.sr q r1, okv f1.sr o1 (.bl _)⟩
  · exact False.elim o1
theorem okE_and (O : XOk G T nm call fx X E) {a b : Ex} {x y : Expr} {r : List Expr} {p : Pos} (ha : PE X x (tE G E (evE T call a))) (hb : PE X (.BoolOp .And (y :: r) p) (tE G E (evE T call b))) : PE X (.BoolOp .And (x :: y :: r) p) (tE G E (evE T call (.and a b))) := by
  refine (pe_andT ha hb).imp fun σ H Q ⟨as, ρ, h, S, R, o⟩ => ?_
  simp only [evE] at o
  refine ⟨as, ρ, h, S, R, Ok.bind o fun v h1 as1 H1 v' f1 r1 o1 => ?_⟩
  split at o1
  · rename_i q
    exact ⟨true, tru_p O.K f1.sr q r1, ⟨as1, ρ, h1, f1.sr, R.fut f1, o1⟩⟩
  · rename_i q
    exact ⟨false, tru_p O.K f1.sr q r1, okv f1.sr o1 r1⟩
  · exact False.elim o1
theorem okE_or (O : XOk G T nm call fx X E) {a b : Ex} {x y : Expr} {r : List Expr} {p : Pos} (ha : PE X x (tE G E (evE T call a))) (hb : PE X (.BoolOp .Or (y :: r) p) (tE G E (evE T call b))) : PE X (.BoolOp .Or (x :: y :: r) p) (tE G E (evE T call (.or a b))) := by
  refine (pe_orT ha hb).imp fun σ H Q ⟨as, ρ, h, S, R, o⟩ => ?_
  simp only [evE] at o
  refine ⟨as, ρ, h, S, R, Ok.bind o fun v h1 as1 H1 v' f1 r1 o1 => ?_⟩
  split at o1
  · rename_i q
    exact ⟨true, tru_p O.K f1.sr q r1, okv f1.sr o1 r1⟩
  · rename_i q
    exact ⟨false, tru_p O.K f1.sr q r1, ⟨as1, ρ, h1, f1.sr, R.fut f1, o1⟩⟩
  · exact False.elim o1
theorem okE_ife (O : XOk G T nm call fx X E) {c a b : Ex} {z x y : Expr} {p : Pos} (hc : PT X z (tT G E (evT T call c))) (ha : PE X x (tE G E (evE T call a))) (hb : PE X y (tE G E (evE T call b))) : PE X (.IfExp z x y p) (tE G E (evE T call (.ife c a b))) := by
  refine (pe_ifExp hc ha hb).imp fun σ H Q ⟨as, ρ, h, S, R, o⟩ => ?_
  have e : evE T call (.ife c a b) ρ h = (evT T call c ρ h).bind fun t h1 => if t then evE T call a ρ h1 else evE T call b ρ h1 := by
    simp only [evT, evE, Res.bind_assoc]
    congr 1
    funext v h1
    cases e : pTru h1 v with
    | none => rfl
    | some t => cases t <;> rfl
  rw [e] at o
  refine ⟨as, ρ, h, S, R, Ok.bind o fun b h1 as1 H1 b' f1 e o1 => ?_⟩
  subst e
  cases b with
  | true => exact ⟨as1, ρ, h1, f1.sr, R.fut f1, o1⟩
  | false => exact ⟨as1, ρ, h1, f1.sr, R.fut f1, o1⟩
theorem okT_cmp (O : XOk G T nm call fx X E) {op : Cop} {a b : Ex} {x y : Expr} {p : Pos} (hm : noSet y = true) (ha : PE X x (tE G E (evE T call a))) (hb : PE X y (tE G E (evE T call b))) : PT X (.Compare x [op.py] [y] p) (tT G E (evT T call (.cmp op a b))) := by
  refine (pt_cmpR (op_cmp (E := E) O.K O.hu op) ha hb (noSet_ok hm)).imp fun σ H Q ⟨as, ρ, h, S, R, o⟩ => ?_
  simp only [evT, evE, Res.bind_assoc] at o
  refine ⟨as, ρ, h, S, R, Ok.bind o fun v h1 as1 H1 v' f1 r1 o1 => ⟨as1, ρ, h1, f1.sr, R.fut f1, Ok.bind o1 fun w h2 as2 H2 w' f2 r2 o2 => ?_⟩⟩
  refine ⟨as2, h2, v, w, f2.sr, r1.fut f2, r2, ?_⟩
  rcases pCmp_form op v w h2 with e | ⟨b, e⟩
  · rw [e] at o2; exact False.elim o2
  · rw [e] at o2 ⊢
    exact fun as' H' v'' f r => ⟨b, r.blE, o2 as' H' b f rfl⟩
theorem lastM {o1 o2 : CmpOp} {y z : Expr} (h : noSet z = true) : lastMarks [o1, o2] [y, z] = false := by
  show behindInMarks o2 z = false
  exact noSet_ok h
theorem okE_chn (O : XOk G T nm call fx X E) {o1 o2 : Cop} {a b c : Ex} {x y z : Expr} {p : Pos} (hm : noSet z = true) (ha : PE X x (tE G E (evE T call a))) (hb : PE X y (tE G E (evE T call b))) (hc : PE X z (tE G E (evE T call c))) :
    PE X (.Compare x [o1.py, o2.py] [y, z] p) (tE G E (evE T call (.chn o1 o2 a b c))) := by
  refine (pe_chain (op_cmp (E := E) O.K O.hu o1) (op_cmp (E := E) O.K O.hu o2) ha hb hc (lastM hm)).imp fun σ H Q ⟨as, ρ, h, S, R, o⟩ => ?_
  simp only [evE] at o
  refine ⟨as, ρ, h, S, R, Ok.bind o fun v h1 as1 H1 v' f1 r1 q1 => ⟨as1, ρ, h1, f1.sr, R.fut f1, Ok.bind q1 fun w h2 as2 H2 w' f2 r2 q2 => ?_⟩⟩
  refine ⟨as2, h2, v, w, f2.sr, r1.fut f2, r2, ?_⟩
  rcases pCmp_form o1 v w h2 with e | ⟨b, e⟩
  · rw [e] at q2; exact False.elim q2
  · rw [e] at q2 ⊢
    refine fun as' H' v'' f r => ⟨b, r.blE, ?_⟩
    have q3 := Ok.fut f q2
    cases b with
    | false => exact okv f.sr q3 (.bl _)
    | true =>
      exact ⟨as', ρ, h2, f.sr, (R.fut (f1.trans f2)).fut f, Ok.bind q3 fun u h4 as4 H4 u' f4 r4 q4 => ⟨as4, h4, w, u, f4.sr, (r2.fut f).fut f4, r4, q4⟩⟩
theorem okT_chn (O : XOk G T nm call fx X E) {o1 o2 : Cop} {a b c : Ex} {x y z : Expr} {p : Pos} (hm : noSet z = true) (ha : PE X x (tE G E (evE T call a))) (hb : PE X y (tE G E (evE T call b))) (hc : PE X z (tE G E (evE T call c))) :
    PT X (.Compare x [o1.py, o2.py] [y, z] p) (tT G E (evT T call (.chn o1 o2 a b c))) := by
  refine (pt_chain (op_cmp (E := E) O.K O.hu o1) (op_cmp (E := E) O.K O.hu o2) ha hb hc (lastM hm)).imp fun σ H Q ⟨as, ρ, h, S, R, o⟩ => ?_
  simp only [evT, evE, Res.bind_assoc] at o
  refine ⟨as, ρ, h, S, R, Ok.bind o fun v h1 as1 H1 v' f1 r1 q1 => ⟨as1, ρ, h1, f1.sr, R.fut f1, Ok.bind q1 fun w h2 as2 H2 w' f2 r2 q2 => ?_⟩⟩
  refine ⟨as2, h2, v, w, f2.sr, r1.fut f2, r2, ?_⟩
  rcases pCmp_form o1 v w h2 with e | ⟨b, e⟩
  · rw [e] at q2; exact False.elim q2
  · rw [e] at q2 ⊢
    refine fun as' H' v'' f r => ⟨b, r.blE, ?_⟩
    have q3 := Ok.fut f q2
    cases b with
    | false => exact ⟨false, rfl, q3 as' H' false (Fut.refl f.sr) rfl⟩
    | true =>
      simp only [Res.bind_ok, Res.bind_assoc] at q3
      refine ⟨as', ρ, h2, f.sr, (R.fut (f1.trans f2)).fut f, Ok.bind q3 fun u h4 as4 H4 u' f4 r4 q4 => ⟨as4, h4, w, u, f4.sr, (r2.fut f).fut f4, r4, ?_⟩⟩
      rcases pCmp_form o2 w u h4 with e | ⟨b, e⟩
      · rw [e] at q4; exact False.elim q4
      · rw [e] at q4 ⊢
        exact fun as' H' v'' f r => ⟨b, r.blE, q4 as' H' b f rfl⟩
theorem okA_nil : PA X [] (tA G E (evEs T call [])) := by
  refine pa_nil.imp fun σ H Q ⟨as, ρ, h, S, R, o⟩ => ?_
  simp only [evEs] at o
  exact o as H [] (Fut.refl S) .nil
theorem evEs_cons {e : Ex} {es : List Ex} (he : ∀ x, e ≠ .star x) (ρ : PEnv) (h : PH) : evEs T call (e :: es) ρ h = (evE T call e ρ h).bind fun v h1 => (evEs T call es ρ h1).bind fun vs h2 => .ok (v :: vs) h2 := by
  cases e <;> first | rfl | exact absurd rfl (he _)
theorem star_cons {x : Expr} {xs : List Expr} {env : Env} (h : isStar x = false) : starEach (x :: xs) env = (false, eval x env) :: starEach xs env := by
  cases x <;> first | rfl | cases h
theorem okA_cons {e : Ex} {es : List Ex} {x : Expr} {xs : List Expr} (hs : isStar x = false) (he : ∀ y, e ≠ .star y) (h1 : PE X x (tE G E (evE T call e))) (h2 : PA X xs (tA G E (evEs T call es))) : PA X (x :: xs) (tA G E (evEs T call (e :: es))) := by
  refine (pa_cons h1 h2 (star_cons hs)).imp fun σ H Q ⟨as, ρ, h, S, R, o⟩ => ?_
  rw [evEs_cons he] at o
  refine ⟨as, ρ, h, S, R, Ok.bind o fun v h1 as1 H1 v' f1 r1 o1 => ⟨as1, ρ, h1, f1.sr, R.fut f1, Ok.bind o1 fun vs h2 as2 H2 vs' f2 r2 o2 => ?_⟩⟩
  exact o2 as2 H2 _ (Fut.refl f2.sr) (.cons (r1.fut f2) r2)
theorem okE_tup {es : List Ex} {xs : List Expr} {k : Nat} {p : Pos} (h : PA X xs (tA G E (evEs T call es))) : PE X (.Tuple xs k p) (tE G E (evE T call (.tup es))) := by
  refine (pe_tup h).imp fun σ H Q ⟨as, ρ, h, S, R, o⟩ => ?_
  simp only [evE] at o
  refine ⟨as, ρ, h, S, R, Ok.bind o fun vs h1 as1 H1 vs' f1 r1 o1 => ?_⟩
  split at o1
  · rename_i hl
    refine ⟨by rw [← r1.length]; exact hl, fun p hp => ?_⟩
    obtain ⟨f, r⟩ := f1.sr.tup hp r1
    exact okn o1 f r
  · exact False.elim o1
theorem okE_lst {es : List Ex} {xs : List Expr} {p : Pos} (h : PA X xs (tA G E (evEs T call es))) : PE X (.List xs p) (tE G E (evE T call (.lst es))) := by
  refine (pe_lst h).imp fun σ H Q ⟨as, ρ, h, S, R, o⟩ => ?_
  simp only [evE] at o
  refine ⟨as, ρ, h, S, R, Ok.bind o fun vs h1 as1 H1 vs' f1 r1 o1 => ?_⟩
  split at o1
  · rename_i hl
    refine ⟨by rw [← r1.length]; exact hl, fun p hp => ?_⟩
    obtain ⟨f, r⟩ := f1.sr.newL hp r1
    exact okn o1 f r
  · exact False.elim o1
theorem okP_none : L2.PO X none (tO G E fun ρ h => partR .nop (evE T call .nop ρ h) h) := by
  refine ⟨fun pins s σ H Q I ⟨as, ρ, h, S, R, o⟩ => po_none.run pins s σ H Q I ?_⟩
  exact o as H none (Fut.refl S) rfl
theorem partR_e {e : Ex} (h : isNop e = false) (r : Res PV) (hh : PH) : partR e r hh = r.bind fun v h1 => match v with
    | .int i => .ok (some i) h1
    | _ => .stuck := by cases e <;> first | rfl | cases h
theorem okP_some {e : Ex} {x : Expr} (hn : isNop e = false) (he : PE X x (tE G E (evE T call e))) : L2.PO X (some x) (tO G E fun ρ h => partR e (evE T call e ρ h) h) := by
  refine ⟨fun pins s σ H Q I ⟨as, ρ, h, S, R, o⟩ => (po_some he).run pins s σ H Q I ?_⟩
  dsimp only at o
  rw [partR_e hn] at o
  refine ⟨as, ρ, h, S, R, Ok.bind o fun v h1 as1 H1 v' f1 r1 o1 => ?_⟩
  cases v with
  | int i => rw [r1.intE]; exact ⟨i, rfl, o1 as1 H1 _ (Fut.refl f1.sr) rfl⟩
  | _ => exact False.elim o1
theorem okE_sl (O : XOk G T nm call fx X E) {a lo hi : Ex} {x : Expr} {l u : Option Expr} {p p2 : Pos} (ha : PE X x (tE G E (evE T call a))) (hl : L2.PO X l (tO G E fun ρ h => partR lo (evE T call lo ρ h) h)) (hu : L2.PO X u (tO G E fun ρ h => partR hi (evE T call hi ρ h) h)) :
    PE X (.Subscript x (.Slice l u none p2) p) (tE G E (evE T call (.sl a lo hi))) := by
  refine (pe_slice (sl_all (E := E) O.K) ha hl hu).imp fun σ H Q ⟨as, ρ, h, S, R, o⟩ => ?_
  simp only [evE] at o
  refine ⟨as, ρ, h, S, R, Ok.bind o fun v h1 as1 H1 v' f1 r1 o1 => ⟨as1, ρ, h1, f1.sr, R.fut f1, Ok.bind o1 fun w h2 as2 H2 w' f2 r2 o2 => ?_⟩⟩
  subst r2
  refine ⟨as2, ρ, h2, f2.sr, R.fut (f1.trans f2), Ok.bind o2 fun w h3 as3 H3 w' f3 r3 o3 => ?_⟩
  subst r3
  exact ⟨as3, h3, v, f3.sr, r1.fut (f2.trans f3), o3⟩
theorem noStars : ∀ {xs : List Expr} {env : Env} {pos : Pos}, xs.all (fun x => !isStar x) = true → (backTo pos (starEach xs env)).any (·.1) = false
  | [], _, _, _ => rfl
  | x :: xs, env, pos, h => by
    simp only [List.all_cons, Bool.and_eq_true, Bool.not_eq_true'] at h
    rw [star_cons h.1]
    show (false || (backTo pos (starEach xs env)).any (·.1)) = false
    rw [noStars h.2]
    rfl
theorem bi_dbg (f : Bi) : (f.nm == ("__debug__" : Str)) = false := by cases f <;> decide +kernel
theorem bi_name (f : Bi) : f.nm ≠ "__name__" := by cases f <;> decide +kernel
theorem okE_bi (O : XOk G T nm call fx X E) {f : Bi} {es : List Ex} {x : Expr} {xs : List Expr} {p pos : Pos} (hg : glB fx.names f.nm = true) (h : PA X (x :: xs) (tA G E (evEs T call es))) (hx : isStar x = false) (hxs : xs.all (fun x => !isStar x) = true) :
    PE X (.Call (.Name f.nm p) (x :: xs) [] pos) (tE G E (evE T call (.bi f es))) := by
  have key : PE X (.Call (.Name f.nm p) (x :: xs) [] pos) (tCB (rPn G E (pBi T f)) (tA G E (evEs T call es))) := by
    have c := call_bi (E := E) (T := T) O.K O.calm O.cls f
    have b := bi_boot f
    have hm := O.bl f
    have hgl := gl_ok O hg
    cases hf : f.py with
    | builtin id => rw [hf] at c b; exact pe_callB c hgl hm b h (bi_name f) (bi_dbg f) (star_cons hx) (noStars hxs)
    | type id => rw [hf] at c b; exact pe_callTy c hgl hm b h (bi_name f) (bi_dbg f) (star_cons hx) (noStars hxs)
    | _ => cases f <;> cases hf
  refine key.imp fun σ H Q ⟨as, ρ, h, S, R, o⟩ => ?_
  simp only [evE] at o
  exact ⟨as, ρ, h, S, R, Ok.bind o fun vs h1 as1 H1 vs' f1 r1 o1 => ⟨as1, h1, vs, f1.sr, r1, o1⟩⟩
end
end Mn
set_option Elab.async false
set_option linter.all false
set_option maxRecDepth 100000
set_option maxHeartbeats 4000000
namespace Mn
open PySem PySem.Spec L2 PyProof.Rows
def Itst (x : Str) : It :=
  ⟨fun i H => i < x.cps.size, fun i H v H' => ∃ T c, v = .ref T ∧ H T = none ∧ H' = upd H T (.tup [.int (i : Nat), .str ⟨#[c]⟩]) ∧ x.cps[i]? = some c, fun i H => i = x.cps.size⟩
theorem turn_ens {P : Program} {w : World} {K : PySem.W.Frag} {elts : List Expr} {kk : Nat} {tpos : Pos} (x : Str) (t : Tok) (e it : Addr) :
    Turn P w K (.Tuple elts kk tpos) (Itst x) [e, it] e (fun i h => (∃ old, IsEnum h e it ((i : Nat) : Int) old) ∧ h.IsStrIter it (strIterType x) x t i ∧ e ≠ it) where
  mem := by simp
  obj := fun i h st b hb => by
    obtain ⟨⟨old, he⟩, ⟨o, ho, hc, hd⟩, _⟩ := st
    have e' : b = e ∨ b = it := by simpa using hb
    rcases e' with z | z
    · rw [z]; exact ⟨_, he, fun v q => nomatch q⟩
    · rw [z]; exact ⟨o, ho, fun v q => by rw [hd] at q; cases q⟩
  keep := fun i h h' st k => let ⟨⟨old, he⟩, hi, hne⟩ := st; ⟨⟨old, k e (by simp) _ he⟩, let ⟨o, ho, r⟩ := hi; ⟨o, k it (by simp) o ho, r⟩, hne⟩
  item := by
    intro X hP hw hK hc i pins s σ H E I hf st hg
    subst hP hw hK
    obtain ⟨⟨old, he⟩, hit, hne⟩ := st
    have hef : e ∉ [it] := fun h => hne (List.mem_singleton.mp h)
    have hel : e < s.heap.objs.size := Heap.lt_size he
    have hil : it < s.heap.objs.size := by obtain ⟨_, q, _⟩ := hit; exact Heap.lt_size q
    refine wpAny_pyNext_enum_itemD (Draws.text (A := X.A.in1) (I.ok.hd hc) it x t) he hit hg hne hef fun u h' tk hPu ho hit' hT hsz hk => ?_
    obtain ⟨c, tc, ec, rfl⟩ := hPu
    refine ⟨_, rfl, wpAny_letOwnedTupleGo_enum (s := { s with heap := h', toks := tk + 1 }) ho fun h'' he' sb => ?_⟩
    have hT2 : h''.get? s.heap.objs.size = some { cls := .type "tuple", data := .seq #[.int i tk, .str ⟨#[c]⟩ tc] } := (sb.2 _ (Nat.ne_of_gt hel)).trans hT
    have new : ObjOk X.prog X.w (upd H s.heap.objs.size (.tup [.int (i : Nat), .str ⟨#[c]⟩])) h'' s.heap.objs.size (.tup [.int (i : Nat), .str ⟨#[c]⟩]) :=
      ⟨by show 2 ≤ sizeLine; decide, [.int i tk, .str ⟨#[c]⟩ tc], .cons ⟨_, rfl⟩ (.cons ⟨_, rfl⟩ .nil), ⟨_, hT2, rfl, _, rfl⟩⟩
    have I1 : Inv X pins σ (upd H s.heap.objs.size (.tup [.int (i : Nat), .str ⟨#[c]⟩])) { s with heap := h'', toks := tk + 1 } :=
      I.turnedNew (ch := [e, it]) (fun b ob hb q => (sb.2 b (fun z => hb (by simp [z]))).trans (hk b ob (fun z => hb (by simp [z])) (fun z => hb (by simp [z])) q)) hf (Nat.le_refl _) new
    refine ⟨.ref s.heap.objs.size, _, I1, rfl, ⟨_, c, rfl, I.hok.fresh (Nat.le_refl _), rfl, ec⟩, ⟨⟨.str ⟨#[c]⟩ tc, ?_⟩, ?_, hne⟩, fun b hb => ?_⟩
    · have e1 : ((i + 1 : Nat) : Int) = (i : Int) + 1 := by omega
      rw [e1]; exact he'
    · obtain ⟨o, ho2, r⟩ := hit'
      exact ⟨o, (sb.2 it (Ne.symm hne)).trans ho2, r⟩
    · have hb' : b < s.heap.objs.size := by
        have e' : b = e ∨ b = it := by simpa using hb
        rcases e' with z | z
        · rw [z]; exact hel
        · rw [z]; exact hil
      rw [upd_ne (Nat.ne_of_lt hb')]
      exact (hf b hb).1
  done := by
    intro X hP hw hK hc i pins s σ H E I hf st hg
    subst hP hw hK
    obtain ⟨⟨old, he⟩, hit, hne⟩ := st
    obtain ⟨f0, f1, f2, f3, f4, f5⟩ := hf it (by simp)
    have hg' : i = x.cps.size := hg
    subst hg'
    exact wpAny_pyNext_enum_endD (Draws.text (A := X.A.in1) (I.ok.hd hc) it x t) he hit fun h' eb => ⟨rfl, I.turned (t' := s.toks) (fun b o hb q => eb b o hb q) f0 f1 f3 f4 f5⟩
  self := fun A i s Q E st h => let ⟨⟨_, he⟩, _⟩ := st; wpAny_pyIter_enum he h
def iEnums (K : PySem.W.Frag) (ta : TA) : TI := fun σ H R => ta σ H fun vs H1 => (∃ a xs, vs = [.ref a] ∧ SqL K H1 a xs ∧ R (Ite K a) H1) ∨ ∃ x, vs = [.str x] ∧ R (Itst x) H1
theorem pi_enums {X : Cx} {e : Expr} {ta : TA} {p pos tpos : Pos} {elts : List Expr} {kk : Nat} (hg : Gl X "enumerate") (hm : X.mg "enumerate" = none) (ha : PA X [e] ta) (hs : starEach [e] X.env = [(false, eval e X.env)] := by rfl) :
    PI X (.Tuple elts kk tpos) (.Call (.Name "enumerate" p) [e] [] pos) (iEnums X.K ta) := by
  refine ⟨fun pins s σ H R I h => ?_⟩
  refine Call_ (ld_blt I hg hm boot_enumerate (PyProof.Rows.callWith_type1 (thn (ha.run pos pins s σ H _ I h) fun us s1 ⟨vs, H1, I1, r1, q1⟩ => ?_) hs rfl))
  rcases q1 with ⟨a, xs, ex, hq, q⟩ | ⟨x, ex, q⟩
  · subst ex
    cases r1 with
    | cons r rr =>
      cases rr
      cases r
      obtain ⟨its, rv, p', hz⟩ := I1.list hq
      refine call_enumerate_list p'.isList fun h' he hit hsz hk => wpAny_pyIter_enum he ?_
      have I2 : Inv X pins σ H1 { s1 with heap := h' } := I1.kept (t' := s1.toks) hk
      refine ⟨s1.heap.objs.size + 1, [s1.heap.objs.size + 1, s1.heap.objs.size], _, _, H1, rfl, I2, turn_enum a (s1.heap.objs.size + 1) s1.heap.objs.size, ⟨⟨.none, he⟩, hit, Nat.succ_ne_self _⟩, fun b hb => ?_, q⟩
      have e' : b = s1.heap.objs.size + 1 ∨ b = s1.heap.objs.size := by simpa using hb
      have hle : s1.heap.objs.size ≤ b := by
        rcases e' with z | z
        · rw [z]; exact Nat.le_add_right _ _
        · rw [z]; exact Nat.le_refl _
      exact I1.fpOk hle (I1.hok.fresh hle)
  · subst ex
    cases r1 with
    | cons r rr =>
      cases rr
      obtain ⟨t, rfl⟩ := r
      refine call_enumerate_str fun h' he hit hsz hk => wpAny_pyIter_enum he ?_
      have I2 : Inv X pins σ H1 { s1 with heap := h' } := I1.kept (t' := s1.toks) hk
      refine ⟨s1.heap.objs.size + 1, [s1.heap.objs.size + 1, s1.heap.objs.size], _, _, H1, rfl, I2, turn_ens x t (s1.heap.objs.size + 1) s1.heap.objs.size, ⟨⟨.none, he⟩, hit, Nat.succ_ne_self _⟩, fun b hb => ?_, q⟩
      have e' : b = s1.heap.objs.size + 1 ∨ b = s1.heap.objs.size := by simpa using hb
      have hle : s1.heap.objs.size ≤ b := by
        rcases e' with z | z
        · rw [z]; exact Nat.le_add_right _ _
        · rw [z]; exact Nat.le_refl _
      exact I1.fpOk hle (I1.hok.fresh hle)
end Mn
set_option Elab.async false
set_option linter.all false
set_option maxRecDepth 100000
set_option maxHeartbeats 4000000
namespace Mn
open PySem PySem.Spec L2 PyProof.Rows
def enT1 (h : Heap) (t : Addr) : Heap := h.push { cls := .type "tuple_iterator", data := .fields #[.ref t, .int 0 0] }
def enT2 (h : Heap) (t : Addr) : Heap := (enT1 h t).push { cls := .type "enumerate", data := .fields #[.none, .bool false, .ref h.objs.size, rawInt 0, .none, .none] }
open AutoSeq1 (wpAny_loadPart') in
theorem newT_meets (t : Addr) (its : Array Value) (n : Nat) (od : Option Addr) (os : Array (Option Value)) :
    Meets (Builtin.«enumerate.__new__» ⟨[.type "enumerate", .ref t], []⟩) (fun _ R z => z.heap.get? t = some { cls := .type "tuple", dict := od, data := .seq its n, slots := os } ∧
      R (.ok (.ret (.ref (enT1 z.heap t).objs.size))) { z with heap := enT2 z.heap t }) :=
  .of_wp fun P0 w0 A0 R0 z hz => by
    obtain ⟨hp, g, d, tk, oo⟩ := z
    obtain ⟨ht, hz⟩ := hz
    have hsub := sub_enumerate
    have hT : Heap.IsTuple (Shared.heap ⟨hp, g, d, tk, oo⟩) t its := ⟨_, ht, rfl, n, rfl⟩
    wp_walk using wpAny_loadPart' ht
    refine wpAny_stack_any fun _ => wpAny_pure ?_
    split
    · rename_i c _ _ _ _ _
      cases (c == Value.type "enumerate") <;> (wp_walk using wpAny_loadPart' ht, wpAny_pyIter_tuple hT; exact ⟨_, rfl, hz⟩)
    · wp_walk using wpAny_loadPart' ht, wpAny_pyIter_tuple hT
      exact ⟨_, rfl, hz⟩
theorem enumT_call {prog : Program} {w : World} {A : Around} {E : Value → Shared → Prop} {s : Shared} {t : Addr} {its : Array Value} {Q : Value → Shared → Prop} (hT : s.heap.IsTuple t its)
    (h : ∀ h1, IsEnum h1 (s.heap.objs.size + 1) s.heap.objs.size 0 .none → h1.IsTupleIter s.heap.objs.size t 0 → (∀ b o, s.heap.get? b = some o → h1.get? b = some o) → Q (.ref (s.heap.objs.size + 1)) { s with heap := h1 }) :
    wpAny (model prog w) A (call (.type "enumerate") [.ref t]) Q E s := by
  obtain ⟨⟨c, od, dt, os⟩, ht, hc, n, hd⟩ := hT
  replace hc : c = .type "tuple" := hc
  replace hd : dt = .seq its n := hd
  subst hc hd
  refine callType_new F.called_enumerate (by decide) (F.typeCall_enumerate_1 _) (F.newCall_enumerate_1 _) (fun o => F.args_object_init_2 o _) F.entry_enumerate_new (newT_meets t its n od os) ⟨ht, ?_⟩
  have z1 : (enT1 s.heap t).objs.size = s.heap.objs.size + 1 := Heap.size_push ..
  rw [z1]
  have he : IsEnum (enT2 s.heap t) (s.heap.objs.size + 1) s.heap.objs.size 0 .none := by
    have q := Heap.get?_push_size (enT1 s.heap t) (o := { cls := .type "enumerate", data := .fields #[.none, .bool false, .ref s.heap.objs.size, rawInt 0, .none, .none] }) rfl
    rw [z1] at q
    exact q
  exact ⟨⟨_, he, rfl⟩, h _ he ⟨_, Heap.get?_push_of_some _ (Heap.get?_push_size _ rfl), rfl, rfl⟩ fun b o x => Heap.get?_push_of_some _ (Heap.get?_push_of_some _ x)⟩
def Itet (K : PySem.W.Frag) (a : Addr) : It :=
  ⟨fun i H => ∃ (xs : List V) (x : V), SqT K H a xs ∧ xs[i]? = some x, fun i H v H' => ∃ N x, v = .ref N ∧ H N = none ∧ H' = upd H N (.tup [.int (i : Nat), x]) ∧ ∀ xs, SqT K H a xs → xs[i]? = some x, fun i H => ∃ xs : List V, SqT K H a xs ∧ xs.length = i⟩
theorem tup_apart {s : Heap} {t it : Addr} {its : Array Value} {i : Nat} (hT : s.IsTuple t its) (hi : s.IsTupleIter it t i) : t ≠ it := by
  rintro rfl
  obtain ⟨o, e, c, _⟩ := hT
  obtain ⟨o2, e2, c2, _⟩ := hi
  rw [e] at e2
  cases e2
  rw [c] at c2
  exact absurd c2 (by decide)
theorem tup_apart2 {s : Heap} {t e it : Addr} {its : Array Value} {i : Int} {old : Value} (hT : s.IsTuple t its) (he : IsEnum s e it i old) : e ≠ t := by
  rintro rfl
  obtain ⟨o, q, c, _⟩ := hT
  rw [show s.get? e = _ from he] at q
  cases q
  exact absurd (show Value.type "enumerate" = Value.type "tuple" from c) (by decide)
theorem turn_ent {P : Program} {w : World} {K : PySem.W.Frag} {elts : List Expr} {kk : Nat} {tpos : Pos} (a e it : Addr) :
    Turn P w K (.Tuple elts kk tpos) (Itet K a) [e, it] e (fun i h => (∃ old, IsEnum h e it ((i : Nat) : Int) old) ∧ h.IsTupleIter it a i ∧ e ≠ it) where
  mem := by simp
  obj := fun i h st b hb => by
    obtain ⟨⟨old, q1⟩, ⟨o, ho, hc, hd⟩, _⟩ := st
    rcases (show b = e ∨ b = it by simpa using hb) with z | z
    · rw [z]; exact ⟨_, q1, fun v q => nomatch q⟩
    · rw [z]; exact ⟨o, ho, fun v q => by rw [hd] at q; cases q⟩
  keep := fun i h h' st k => let ⟨⟨old, q1⟩, q2, q3⟩ := st; ⟨⟨old, k e (by simp) _ q1⟩, q2.at fun o q => k it (by simp) o q, q3⟩
  item := by
    intro X hP hw hK hc i pins s σ H E I hf st hg
    subst hP hw hK
    obtain ⟨⟨old, q1⟩, q2, q3⟩ := st
    obtain ⟨xs, x, hq, hx⟩ := hg
    obtain ⟨its, rv, p, hz⟩ := I.tuple hq
    have hT : s.heap.IsTuple a its.toArray := p
    obtain ⟨u, hu, ru⟩ := rv.get hx
    have hel : e < s.heap.objs.size := Heap.lt_size q1
    have hil : it < s.heap.objs.size := by obtain ⟨_, q, _⟩ := q2; exact Heap.lt_size q
    have hlt : i < its.toArray.size := by simpa using (List.getElem?_eq_some_iff.mp hu).1
    have hnot : e ∉ [it, a] := fun h => by
      rcases (show e = it ∨ e = a by simpa using h) with z | z
      · exact q3 z
      · exact tup_apart2 hT q1 z
    refine wpAny_pyNext_enum_itemD (Draws.tuple (A := X.A.in1) (I.ok.hd hc) it a (tup_apart hT q2) its.toArray) q1 ⟨q2, hT⟩ hlt q3 hnot fun u' h' tk hPu ho st' hN hsz hk => ?_
    have eu : u' = u := by
      have : its.toArray[i]? = some u := by simpa using hu
      rw [this] at hPu
      exact (Option.some.inj hPu).symm
    subst eu
    refine ⟨_, rfl, wpAny_letOwnedTupleGo_enum (s := { s with heap := h', toks := tk + 1 }) ho fun h2 he2 sb => ?_⟩
    have hN2 : h2.get? s.heap.objs.size = some { cls := .type "tuple", data := .seq #[.int i tk, u'] } := (sb.2 _ (Nat.ne_of_gt hel)).trans hN
    have new : ObjOk X.prog X.w (upd H s.heap.objs.size (.tup [.int (i : Nat), x])) h2 s.heap.objs.size (.tup [.int (i : Nat), x]) :=
      ⟨by show 2 ≤ sizeLine; decide, [.int i tk, u'], .cons ⟨_, rfl⟩ (.cons ru .nil), ⟨_, hN2, rfl, _, rfl⟩⟩
    have I1 : Inv X pins σ (upd H s.heap.objs.size (.tup [.int (i : Nat), x])) { s with heap := h2, toks := tk + 1 } :=
      I.turnedNew (ch := [e, it]) (fun b o hb q => (sb.2 b (fun z => hb (by simp [z]))).trans (hk b o (fun z => hb (by simp [z])) (fun z => hb (by simp [z])) q)) hf (Nat.le_refl _) new
    refine ⟨.ref s.heap.objs.size, _, I1, rfl, ⟨_, x, rfl, I.hok.fresh (Nat.le_refl _), rfl, fun ys hy => by rw [I.tuple_inj hy hq]; exact hx⟩, ⟨⟨u', ?_⟩, st'.1.at fun o q => (sb.2 it (Ne.symm q3)).trans q, q3⟩, fun b hb => ?_⟩
    · rw [show ((i + 1 : Nat) : Int) = (i : Int) + 1 by omega]
      exact he2
    · have hlb : b < s.heap.objs.size := by
        rcases (show b = e ∨ b = it by simpa using hb) with z | z
        · rw [z]; exact hel
        · rw [z]; exact hil
      rw [upd_ne (Nat.ne_of_lt hlb)]
      exact (hf b hb).1
  done := by
    intro X hP hw hK hc i pins s σ H E I hf st hg
    subst hP hw hK
    obtain ⟨⟨old, q1⟩, q2, q3⟩ := st
    obtain ⟨xs, hq, hx⟩ := hg
    obtain ⟨its, rv, p, hz⟩ := I.tuple hq
    have hT : s.heap.IsTuple a its.toArray := p
    obtain ⟨f0, f1, f2, f3, f4, f5⟩ := hf it (by simp)
    have hl : i = its.toArray.size := by have := rv.length; simp; omega
    subst hl
    exact wpAny_pyNext_enum_endD (Draws.tuple (A := X.A.in1) (I.ok.hd hc) it a (tup_apart hT q2) its.toArray) q1 ⟨q2, hT⟩ fun h' eb => ⟨rfl, I.turned (t' := s.toks) (fun b o hb q => eb b o hb q) f0 f1 f3 f4 f5⟩
  self := fun A i s Q E st h => let ⟨⟨_, q⟩, _⟩ := st; wpAny_pyIter_enum q h
def iEnum3 (K : PySem.W.Frag) (ta : TA) : TI := fun σ H R => ta σ H fun vs H1 => ((∃ a xs, vs = [.ref a] ∧ SqL K H1 a xs ∧ R (Ite K a) H1) ∨ ∃ x, vs = [.str x] ∧ R (Itst x) H1) ∨ ∃ a xs, vs = [.ref a] ∧ SqT K H1 a xs ∧ R (Itet K a) H1
theorem pi_enum3 {X : Cx} {e : Expr} {ta : TA} {p pos tpos : Pos} {elts : List Expr} {kk : Nat} (hg : Gl X "enumerate") (hm : X.mg "enumerate" = none) (ha : PA X [e] ta) (hs : starEach [e] X.env = [(false, eval e X.env)] := by rfl) :
    PI X (.Tuple elts kk tpos) (.Call (.Name "enumerate" p) [e] [] pos) (iEnum3 X.K ta) := by
  refine ⟨fun pins s σ H R I h => ?_⟩
  refine Call_ (ld_blt I hg hm boot_enumerate (PyProof.Rows.callWith_type1 (thn (ha.run pos pins s σ H _ I h) fun us s1 ⟨vs, H1, I1, r1, q1⟩ => ?_) hs rfl))
  rcases q1 with (⟨a, xs, ex, hq, q⟩ | ⟨x, ex, q⟩) | ⟨a, xs, ex, hq, q⟩
  · subst ex
    match r1 with
    | .cons r .nil =>
      cases r
      obtain ⟨its, rv, p', hz⟩ := I1.list hq
      refine call_enumerate_list p'.isList fun h' he hit hsz hk => wpAny_pyIter_enum he ?_
      have I2 : Inv X pins σ H1 { s1 with heap := h' } := I1.kept (t' := s1.toks) hk
      refine ⟨s1.heap.objs.size + 1, [s1.heap.objs.size + 1, s1.heap.objs.size], _, _, H1, rfl, I2, turn_enum a (s1.heap.objs.size + 1) s1.heap.objs.size, ⟨⟨.none, he⟩, hit, Nat.succ_ne_self _⟩, fun b hb => ?_, q⟩
      have hle : s1.heap.objs.size ≤ b := by
        rcases (show b = s1.heap.objs.size + 1 ∨ b = s1.heap.objs.size by simpa using hb) with z | z
        · rw [z]; exact Nat.le_succ _
        · rw [z]; exact Nat.le_refl _
      exact I1.fpOk hle (I1.hok.fresh hle)
  · subst ex
    match r1 with
    | .cons r .nil =>
      obtain ⟨t, rfl⟩ := r
      refine call_enumerate_str fun h' he hit hsz hk => wpAny_pyIter_enum he ?_
      have I2 : Inv X pins σ H1 { s1 with heap := h' } := I1.kept (t' := s1.toks) hk
      refine ⟨s1.heap.objs.size + 1, [s1.heap.objs.size + 1, s1.heap.objs.size], _, _, H1, rfl, I2, turn_ens x t (s1.heap.objs.size + 1) s1.heap.objs.size, ⟨⟨.none, he⟩, hit, Nat.succ_ne_self _⟩, fun b hb => ?_, q⟩
      have hle : s1.heap.objs.size ≤ b := by
        rcases (show b = s1.heap.objs.size + 1 ∨ b = s1.heap.objs.size by simpa using hb) with z | z
        · rw [z]; exact Nat.le_succ _
        · rw [z]; exact Nat.le_refl _
      exact I1.fpOk hle (I1.hok.fresh hle)
  · subst ex
    match r1 with
    | .cons r .nil =>
      cases r
      obtain ⟨its, rv, p', hz⟩ := I1.tuple hq
      refine enumT_call p' fun h' he hit hk => wpAny_pyIter_enum he ?_
      have I2 : Inv X pins σ H1 { s1 with heap := h' } := I1.kept (t' := s1.toks) hk
      refine ⟨s1.heap.objs.size + 1, [s1.heap.objs.size + 1, s1.heap.objs.size], _, _, H1, rfl, I2, turn_ent a (s1.heap.objs.size + 1) s1.heap.objs.size, ⟨⟨.none, he⟩, hit, Nat.succ_ne_self _⟩, fun b hb => ?_, q⟩
      have hle : s1.heap.objs.size ≤ b := by
        rcases (show b = s1.heap.objs.size + 1 ∨ b = s1.heap.objs.size by simpa using hb) with z | z
        · rw [z]; exact Nat.le_succ _
        · rw [z]; exact Nat.le_refl _
      exact I1.fpOk hle (I1.hok.fresh hle)
end Mn
set_option Elab.async false
set_option linter.all false
set_option maxRecDepth 100000
set_option maxHeartbeats 4000000
namespace Mn
open PySem PySem.Spec L2 PyProof.Rows
section
variable {G : Gm} {T : Tb} {nm : Nm} {call : Nat → List PV → PH → Res PV} {fx : Fx} {X : Cx} {E : XK}
def WkOk (G : Gm) (as0 : List Addr) (H0 : Hp) (w : Wk) (J : It) : Prop := ∀ as H h, as0 <+: as → Kp H0 H → SR G as H h → ∀ i,
  (wkAt h i w = some none → J.stop i H) ∧ ∀ x, wkAt h i w = some (some x) → J.go i H ∧ ∀ v H', J.yld i H v H' → Fut G as H as H' h ∧ RepV G as H' x v
def tI (G : Gm) (E : XK) (ev : PEnv → PH → Res (Wk × Nat)) : TI := fun σ H R => ∃ as ρ h, SR G as H h ∧ RepE G as H ρ σ ∧ Ok G E as H (fun as' H' (p : Wk × Nat) (J : It) => WkOk G as' H' p.1 J) R (ev ρ h)
def evI (T : Tb) (call : Nat → List PV → PH → Res PV) (k : Ik) (its : List Ex) (ρ : PEnv) (h : PH) : Res (Wk × Nat) := (evEs T call its ρ h).bind fun vs h1 => match wkOf k vs h1 with
  | none => .stuck
  | some p => .ok p h1
theorem WkOk.fixT {as : List Addr} {H : Hp} {a : Addr} {xs : List PV} {vs : List V} (s : SqT G.K H a vs) (r : RepVs G as H xs vs) : WkOk G as H (.fix xs) (Itt G.K a) := fun as' H' h hp kp S i => by
  have s' := kp.sqT s
  have r' := r.mono hp kp
  refine ⟨fun e => ⟨vs, s', ?_⟩, fun x e => ?_⟩
  · simp only [wkAt, Option.some.injEq] at e
    rw [← r'.length]
    exact List.getElem?_eq_none_iff.mp e
  · simp only [wkAt, Option.some.injEq] at e
    obtain ⟨v, ev, rv⟩ := r'.get e
    refine ⟨⟨vs, v, s', ev⟩, fun u H2 y => ?_⟩
    obtain ⟨rfl, q⟩ := y
    have := q vs s'
    rw [ev] at this
    cases this
    exact ⟨Fut.refl S, rv⟩
theorem WkOk.lst {as : List Addr} {H : Hp} {a : Addr} {l : Nat} (ea : as[l]? = some a) : WkOk G as H (.lst l) (Itl G.K a) := fun as' H' h hp kp S i => by
  have ea' := pre_get hp ea
  refine ⟨fun e => ?_, fun x e => ?_⟩
  · simp only [wkAt] at e
    obtain ⟨xs, e1, e2⟩ := Option.map_eq_some_iff.mp e
    obtain ⟨vs, s, r⟩ := S.lst e1 ea'
    exact ⟨vs, s, by rw [← r.length]; exact List.getElem?_eq_none_iff.mp e2⟩
  · simp only [wkAt] at e
    obtain ⟨xs, e1, e2⟩ := Option.map_eq_some_iff.mp e
    obtain ⟨vs, s, r⟩ := S.lst e1 ea'
    obtain ⟨v, ev, rv⟩ := r.get e2
    refine ⟨⟨vs, v, s, ev⟩, fun u H2 y => ?_⟩
    obtain ⟨rfl, q⟩ := y
    have := q vs s
    rw [ev] at this
    cases this
    exact ⟨Fut.refl S, rv⟩
theorem WkOk.str {as : List Addr} {H : Hp} {x : List Nat} : WkOk G as H (.fix (x.map fun c => .str [c])) (Its ⟨x.toArray⟩) := fun as' H' h hp kp S i => by
  refine ⟨fun e => ?_, fun y e => ?_⟩
  · simp only [wkAt, Option.some.injEq, List.getElem?_map, Option.map_eq_none_iff] at e
    show x.toArray.size ≤ i
    simpa using e
  · simp only [wkAt, Option.some.injEq, List.getElem?_map] at e
    obtain ⟨c, ec, rfl⟩ := Option.map_eq_some_iff.mp e
    refine ⟨by show i < x.toArray.size; simpa using (List.getElem?_eq_some_iff.mp ec).1, fun u H2 y => ?_⟩
    obtain ⟨rfl, c', ec', rfl⟩ := y
    have : some c = some c' := by rw [← ec, ← ec']; simp
    cases this
    refine ⟨Fut.refl S, ?_⟩
    have : (⟨#[c]⟩ : Str) = ⟨[c].toArray⟩ := by simp
    rw [this]
    exact .str _
theorem WkOk.rng {as : List Addr} {H : Hp} {lo : Int} {n : Nat} : WkOk G as H (.fix ((List.range n).map fun (m : Nat) => .int (lo + m))) (Itr lo n) := fun as' H' h hp kp S i => by
  refine ⟨fun e => ?_, fun y e => ?_⟩
  · simp only [wkAt, Option.some.injEq, List.getElem?_map, Option.map_eq_none_iff] at e
    show n ≤ i
    simpa using e
  · simp only [wkAt, Option.some.injEq, List.getElem?_map] at e
    obtain ⟨c, ec, rfl⟩ := Option.map_eq_some_iff.mp e
    obtain ⟨hl, e2⟩ := List.getElem?_eq_some_iff.mp ec
    simp at hl e2
    subst e2
    refine ⟨hl, fun u H2 y => ?_⟩
    obtain ⟨rfl, rfl⟩ := y
    exact ⟨Fut.refl S, .int _⟩
theorem WkOk.enl {as : List Addr} {H : Hp} {a : Addr} {l : Nat} (ea : as[l]? = some a) : WkOk G as H (.enl l) (Ite G.K a) := fun as' H' h hp kp S i => by
  have ea' := pre_get hp ea
  refine ⟨fun e => ?_, fun x e => ?_⟩
  · simp only [wkAt] at e
    obtain ⟨xs, e1, e2⟩ := Option.map_eq_some_iff.mp e
    obtain ⟨vs, s, r⟩ := S.lst e1 ea'
    rw [Option.map_eq_none_iff] at e2
    exact ⟨vs, s, by rw [← r.length]; exact List.getElem?_eq_none_iff.mp e2⟩
  · simp only [wkAt] at e
    obtain ⟨xs, e1, e2⟩ := Option.map_eq_some_iff.mp e
    obtain ⟨vs, s, r⟩ := S.lst e1 ea'
    obtain ⟨z, ez, rfl⟩ := Option.map_eq_some_iff.mp e2
    obtain ⟨v, ev, rv⟩ := r.get ez
    refine ⟨⟨vs, v, s, ev⟩, fun u H2 y => ?_⟩
    obtain ⟨TT, y, rfl, hn, rfl, q⟩ := y
    have := q vs s
    rw [ev] at this
    cases this
    exact S.tup hn (.cons (.int _) (.cons rv .nil))
theorem WkOk.ens {as : List Addr} {H : Hp} {x : List Nat} : WkOk G as H (.ens x) (Itst ⟨x.toArray⟩) := fun as' H' h hp kp S i => by
  refine ⟨fun e => ?_, fun y e => ?_⟩
  · simp only [wkAt] at e
    split at e
    · simp only [Option.some.injEq, Option.map_eq_none_iff, List.getElem?_eq_none_iff] at e
      show i = x.toArray.size
      simp
      omega
    · cases e
  · simp only [wkAt] at e
    split at e
    · simp only [Option.some.injEq] at e
      obtain ⟨c, ec, rfl⟩ := Option.map_eq_some_iff.mp e
      refine ⟨by show i < x.toArray.size; simpa using (List.getElem?_eq_some_iff.mp ec).1, fun u H2 y => ?_⟩
      obtain ⟨TT, c', rfl, hn, rfl, ec'⟩ := y
      have : some c = some c' := by rw [← ec, ← ec']; simp
      cases this
      exact S.tup hn (.cons (.int _) (.cons (.str [c]) .nil))
    · cases e
theorem WkOk.ent {as : List Addr} {H : Hp} {a : Addr} {xs : List PV} {vs : List V} (s : SqT G.K H a vs) (r : RepVs G as H xs vs) : WkOk G as H (.ent xs) (Itet G.K a) := fun as' H' h hp kp S i => by
  have s' := kp.sqT s
  have r' := r.mono hp kp
  refine ⟨fun e => ?_, fun x e => ?_⟩
  · simp only [wkAt] at e
    split at e
    · simp only [Option.some.injEq, Option.map_eq_none_iff, List.getElem?_eq_none_iff] at e
      exact ⟨vs, s', by rw [← r'.length]; omega⟩
    · cases e
  · simp only [wkAt] at e
    split at e
    · simp only [Option.some.injEq] at e
      obtain ⟨z, ez, rfl⟩ := Option.map_eq_some_iff.mp e
      obtain ⟨v, ev, rv⟩ := r'.get ez
      refine ⟨⟨vs, v, s', ev⟩, fun u H2 y => ?_⟩
      obtain ⟨N, y, rfl, hn, rfl, q⟩ := y
      have := q vs s'
      rw [ev] at this
      cases this
      exact S.tup hn (.cons (.int _) (.cons rv .nil))
    · cases e
theorem WkOk.zll {as : List Addr} {H : Hp} {a b : Addr} {l m : Nat} (ea : as[l]? = some a) (eb : as[m]? = some b) : WkOk G as H (.zll l m) (Itz G.K a b) := fun as' H' h hp kp S i => by
  have ea' := pre_get hp ea
  have eb' := pre_get hp eb
  refine ⟨fun e => ?_, fun x e => ?_⟩
  · simp only [wkAt] at e
    obtain ⟨xs, e1, e2⟩ := Option.bind_eq_some_iff.mp e
    obtain ⟨ys, e3, e4⟩ := Option.map_eq_some_iff.mp e2
    obtain ⟨vs, s, r⟩ := S.lst e1 ea'
    obtain ⟨ws, s2, r2⟩ := S.lst e3 eb'
    refine ⟨vs, ws, s, s2, ?_⟩
    rw [← r.length, ← r2.length]
    cases q1 : xs[i]? with
    | none => exact .inl (List.getElem?_eq_none_iff.mp q1)
    | some x =>
      cases q2 : ys[i]? with
      | none => exact .inr (List.getElem?_eq_none_iff.mp q2)
      | some y => rw [q1, q2] at e4; cases e4
  · simp only [wkAt] at e
    obtain ⟨xs, e1, e2⟩ := Option.bind_eq_some_iff.mp e
    obtain ⟨ys, e3, e4⟩ := Option.map_eq_some_iff.mp e2
    obtain ⟨vs, s, r⟩ := S.lst e1 ea'
    obtain ⟨ws, s2, r2⟩ := S.lst e3 eb'
    cases q1 : xs[i]? with
    | none => rw [q1] at e4; cases e4
    | some x' =>
      cases q2 : ys[i]? with
      | none => rw [q1, q2] at e4; cases e4
      | some y' =>
        rw [q1, q2] at e4
        cases e4
        obtain ⟨v, ev, rv⟩ := r.get q1
        obtain ⟨w, ew, rw'⟩ := r2.get q2
        refine ⟨⟨vs, ws, v, w, s, s2, ev, ew⟩, fun u H2 y => ?_⟩
        obtain ⟨TT, y, z, rfl, hn, rfl, q, q'⟩ := y
        have h1 := q vs s
        rw [ev] at h1
        cases h1
        have h2 := q' ws s2
        rw [ew] at h2
        cases h2
        exact S.tup hn (.cons rv (.cons rw' .nil))
theorem WkOk.rvl {as : List Addr} {H : Hp} {a : Addr} {l n : Nat} (ea : as[l]? = some a) : WkOk G as H (.rvl l n) (Itv G.K a n) := fun as' H' h hp kp S i => by
  have ea' := pre_get hp ea
  refine ⟨fun e => ?_, fun x e => ?_⟩
  · simp only [wkAt] at e
    obtain ⟨xs, e1, e2⟩ := Option.bind_eq_some_iff.mp e
    split at e2
    · rename_i hn
      split at e2
      · rename_i hi
        cases q : xs[n - 1 - i]? with
        | none => rw [List.getElem?_eq_none_iff] at q; omega
        | some y => rw [q] at e2; cases e2
      · rename_i hi
        show n ≤ i
        omega
    · cases e2
  · simp only [wkAt] at e
    obtain ⟨xs, e1, e2⟩ := Option.bind_eq_some_iff.mp e
    split at e2
    · split at e2
      · rename_i hn hi
        obtain ⟨vs, s, r⟩ := S.lst e1 ea'
        obtain ⟨v, ev, rv⟩ := r.get (Option.some.inj e2)
        refine ⟨⟨hi, vs, v, s, ev⟩, fun u H2 y => ?_⟩
        obtain ⟨rfl, q⟩ := y
        have := q vs s
        rw [ev] at this
        cases this
        exact ⟨Fut.refl S, rv⟩
      · cases e2
    · cases e2
theorem evI_one {k : Ik} {e : Ex} (he : ∀ x, e ≠ .star x) (ρ : PEnv) (h : PH) : evI T call k [e] ρ h = (evE T call e ρ h).bind fun v h1 => match wkOf k [v] h1 with
    | none => .stuck
    | some p => .ok p h1 := by
  unfold evI
  rw [evEs_cons he]
  simp only [Res.bind_assoc, evEs, Res.bind_ok]
theorem pi_list_at {pins : List (Addr × Obj)} {σ : L2.St} {H : Hp} {s : Shared} {R : It → Hp → Prop} {tg : Expr} {a : Addr} {xs : List V} {v : Value} (I1 : Inv X pins σ H s) (r : RelV (.ref a) v) (hq : SqL X.K H a xs) (q : R (Itl X.K a) H) :
    wpAny (model X.prog X.w) X.A (pyIter v) (PIE X pins σ tg R) X.xe s := by
  cases r
  obtain ⟨its, rv, p, hz⟩ := I1.list hq
  refine wpAny_pyIter_list p.isList ?_
  refine ⟨s.heap.objs.size, [s.heap.objs.size], _, _, H, rfl, I1.kept (t' := s.toks) fun b o e => Heap.get?_push_of_some _ e, turn_list a _, ⟨_, Heap.get?_push_size _ rfl, rfl, rfl⟩, fun b hb => ?_, q⟩
  have e : b = s.heap.objs.size := by simpa using hb
  subst e
  exact I1.fpOk (Nat.le_refl _) (I1.hok.fresh (Nat.le_refl _))
theorem pi_tup_at {pins : List (Addr × Obj)} {σ : L2.St} {H : Hp} {s : Shared} {R : It → Hp → Prop} {tg : Expr} {a : Addr} {xs : List V} {v : Value} (I1 : Inv X pins σ H s) (r : RelV (.ref a) v) (hq : SqT X.K H a xs) (q : R (Itt X.K a) H) :
    wpAny (model X.prog X.w) X.A (pyIter v) (PIE X pins σ tg R) X.xe s := by
  cases r
  obtain ⟨its, rv, p, hz⟩ := I1.tuple hq
  refine wpAny_pyIter_tuple (show s.heap.IsTuple a its.toArray from p) ?_
  refine ⟨s.heap.objs.size, [s.heap.objs.size], _, _, H, rfl, I1.kept (t' := s.toks) fun b o e => Heap.get?_push_of_some _ e, turn_tuple a _, ⟨_, Heap.get?_push_size _ rfl, rfl, rfl⟩, fun b hb => ?_, q⟩
  have e : b = s.heap.objs.size := by simpa using hb
  subst e
  exact I1.fpOk (Nat.le_refl _) (I1.hok.fresh (Nat.le_refl _))
theorem pi_str_at {pins : List (Addr × Obj)} {σ : L2.St} {H : Hp} {s : Shared} {R : It → Hp → Prop} {tg : Expr} {x : Str} {v : Value} (I1 : Inv X pins σ H s) (r : RelV (.str x) v) (q : R (Its x) H) :
    wpAny (model X.prog X.w) X.A (pyIter v) (PIE X pins σ tg R) X.xe s := by
  obtain ⟨t, rfl⟩ := r
  cases ha : x.cps.all (· < 128)
  · exact wpAny_pyIter_wide ha (pi_one (tk := s.toks) I1 _ (turn_str _ x t "str_iterator" (.inr rfl)) ⟨_, Heap.get?_push_size _ rfl, rfl, rfl⟩ q)
  · exact wpAny_pyIter_ascii ha (pi_one (tk := s.toks) I1 _ (turn_str _ x t "str_ascii_iterator" (.inl rfl)) ⟨_, Heap.get?_push_size _ rfl, rfl, rfl⟩ q)
theorem okI_seq (O : XOk G T nm call fx X E) {tg : Expr} {e : Ex} {x : Expr} (hs : ∀ y, e ≠ .star y) (he : PE X x (tE G E (evE T call e))) : PI X tg x (tI G E (evI T call .seq [e])) := by
  have key : ∀ as1 H1 h1 v v' (R : It → Hp → Prop), SR G as1 H1 h1 → RepV G as1 H1 v v' → Ok G E as1 H1 (fun as' H' (p : Wk × Nat) (J : It) => WkOk G as' H' p.1 J) R (match wkOf .seq [v] h1 with | none => .stuck | some p => .ok p h1) →
      (∃ a vs, v' = .ref a ∧ SqT X.K H1 a vs ∧ R (Itt X.K a) H1) ∨ (∃ a vs, v' = .ref a ∧ SqL X.K H1 a vs ∧ R (Itl X.K a) H1) ∨ ∃ z, v' = .str z ∧ R (Its z) H1 := fun as1 H1 h1 v v' R S r o => by
    rw [O.K]
    cases v with
    | tup xs =>
      obtain ⟨a, vs, rfl, s, rv⟩ := r.tupE
      exact .inl ⟨a, vs, rfl, s, o as1 H1 _ (Fut.refl S) (WkOk.fixT s rv)⟩
    | str z =>
      rw [r.strE]
      exact .inr (.inr ⟨_, rfl, o as1 H1 _ (Fut.refl S) WkOk.str⟩)
    | ref l =>
      obtain ⟨a, ea, rfl⟩ := r.refE
      simp only [wkOf] at o
      cases q : lstAt h1 l with
      | none => rw [q] at o; exact False.elim o
      | some xs =>
        rw [q] at o
        obtain ⟨vs, s, rv⟩ := S.lst q ea
        exact .inr (.inl ⟨a, vs, rfl, s, o as1 H1 _ (Fut.refl S) (WkOk.lst ea)⟩)
    | _ => exact False.elim o
  refine ⟨fun pins s σ H R I ⟨as, ρ, h, S, Rρ, o⟩ => ?_⟩
  rw [evI_one hs] at o
  -- which walk it is shows at the value
  have hv : tE G E (evE T call e) σ H (fun v' H1 => (∃ a vs, v' = .ref a ∧ SqT X.K H1 a vs ∧ R (Itt X.K a) H1) ∨ (∃ a vs, v' = .ref a ∧ SqL X.K H1 a vs ∧ R (Itl X.K a) H1) ∨ ∃ z, v' = .str z ∧ R (Its z) H1) :=
    ⟨as, ρ, h, S, Rρ, Ok.bind o fun v h1 as1 H1 v' f1 r1 o1 => key as1 H1 h1 v v' R f1.sr r1 o1⟩
  refine thn (he.run pins s σ H _ I hv) fun u s1 ⟨y, H1, I1, ry, q⟩ => ?_
  rcases q with ⟨a, vs, rfl, sq, q⟩ | ⟨a, vs, rfl, sq, q⟩ | ⟨z, rfl, q⟩
  · exact pi_tup_at I1 ry sq q
  · exact pi_list_at I1 ry sq q
  · exact pi_str_at I1 ry q
theorem Ok.bindK {α β γ δ ε : Type} {G : Gm} {E : XK} {as : List Addr} {H : Hp} {r : Res α} {k : α → PH → Res γ} {k' : α → PH → Res ε} {rel : List Addr → Hp → ε → β → Prop} {rel2 : List Addr → Hp → γ → δ → Prop} {Q : β → Hp → Prop} {Q2 : δ → Hp → Prop}
    (o : Ok G E as H rel2 Q2 (r.bind k)) (next : ∀ v h1, Ok G E as H rel2 Q2 (k v h1) → Ok G E as H rel Q (k' v h1)) : Ok G E as H rel Q (r.bind k') := by
  induction r with
  | ok v h1 => exact next v h1 o
  | er x h1 => exact o
  | stuck => exact o
  | all n f ih => exact fun i hi => ih i (o i hi)
theorem evEs_one {e : Ex} (he : ∀ x, e ≠ .star x) (ρ : PEnv) (h : PH) : evEs T call [e] ρ h = (evE T call e ρ h).bind fun v h1 => .ok [v] h1 := by
  rw [evEs_cons he]
  simp only [evEs, Res.bind_ok]
theorem evEs_two {e e2 : Ex} (he : ∀ x, e ≠ .star x) (he2 : ∀ x, e2 ≠ .star x) (ρ : PEnv) (h : PH) : evEs T call [e, e2] ρ h = (evE T call e ρ h).bind fun v h1 => (evE T call e2 ρ h1).bind fun w h2 => .ok [v, w] h2 := by
  rw [evEs_cons he]
  simp only [evEs_one he2, Res.bind_assoc, Res.bind_ok]
theorem evI_two {k : Ik} {e e2 : Ex} (he : ∀ x, e ≠ .star x) (he2 : ∀ x, e2 ≠ .star x) (ρ : PEnv) (h : PH) : evI T call k [e, e2] ρ h = (evE T call e ρ h).bind fun v h1 => (evE T call e2 ρ h1).bind fun w h2 => match wkOf k [v, w] h2 with
    | none => .stuck
    | some p => .ok p h2 := by
  unfold evI
  rw [evEs_two he he2]
  simp only [Res.bind_assoc, Res.bind_ok]
theorem tI_one {k : Ik} {e : Ex} (hs : ∀ y, e ≠ .star y) {σ : L2.St} {H : Hp} {R : It → Hp → Prop} {Q : List V → Hp → Prop} (q : tI G E (evI T call k [e]) σ H R)
    (next : ∀ v h1 as1 H1 v' p, SR G as1 H1 h1 → RepV G as1 H1 v v' → wkOf k [v] h1 = some p → (∀ J, WkOk G as1 H1 p.1 J → R J H1) → Q [v'] H1) : tA G E (evEs T call [e]) σ H Q := by
  obtain ⟨as, ρ, h, S, Rρ, o⟩ := q
  rw [evI_one hs] at o
  refine ⟨as, ρ, h, S, Rρ, ?_⟩
  rw [evEs_one hs]
  refine Ok.bindK o fun v h1 o1 as1 H1 vs' f r1 => ?_
  obtain ⟨v', rfl, rv⟩ := r1.one
  cases q : wkOf k [v] h1 with
  | none => rw [q] at o1; exact False.elim o1
  | some p =>
    rw [q] at o1
    exact next v h1 as1 H1 v' p f.sr rv q fun J hJ => o1 as1 H1 J f hJ
theorem tI_two {k : Ik} {e e2 : Ex} (hs : ∀ y, e ≠ .star y) (hs2 : ∀ y, e2 ≠ .star y) {σ : L2.St} {H : Hp} {R : It → Hp → Prop} {Q : List V → Hp → Prop} (q : tI G E (evI T call k [e, e2]) σ H R)
    (next : ∀ v w h1 as1 H1 v' w' p, SR G as1 H1 h1 → RepV G as1 H1 v v' → RepV G as1 H1 w w' → wkOf k [v, w] h1 = some p → (∀ J, WkOk G as1 H1 p.1 J → R J H1) → Q [v', w'] H1) : tA G E (evEs T call [e, e2]) σ H Q := by
  obtain ⟨as, ρ, h, S, Rρ, o⟩ := q
  rw [evI_two hs hs2] at o
  refine ⟨as, ρ, h, S, Rρ, ?_⟩
  rw [evEs_two hs hs2]
  refine Ok.bindK o fun v h1 o1 => Ok.bindK o1 fun w h2 o2 as1 H1 vs' f r1 => ?_
  obtain ⟨v', w', rfl, rv, rw'⟩ := r1.two
  cases q : wkOf k [v, w] h2 with
  | none => rw [q] at o2; exact False.elim o2
  | some p =>
    rw [q] at o2
    exact next v w h2 as1 H1 v' w' p f.sr rv rw' q fun J hJ => o2 as1 H1 J f hJ
theorem PI.imp {tg x : Expr} {t t' : TI} (p : PI X tg x t) (h : ∀ σ H R, t' σ H R → t σ H R) : PI X tg x t' := ⟨fun pins s σ H R I q => p.run pins s σ H R I (h σ H R q)⟩
theorem okI_rng1 (O : XOk G T nm call fx X E) {tg x : Expr} {p pos : Pos} {e : Ex} (hs : ∀ y, e ≠ .star y) (hx : isStar x = false) (hg : glB fx.names "range" = true) (ha : PA X [x] (tA G E (evEs T call [e]))) : PI X tg (.Call (.Name "range" p) [x] [] pos) (tI G E (evI T call .rng [e])) := by
  refine PI.imp (pi_range1 (gl_ok O hg) O.rng ha (star_cons hx)) fun σ H R q => tI_one hs q fun v h1 as1 H1 v' pr S r qw k => ?_
  cases v with
  | int j =>
    simp only [wkOf] at qw
    split at qw
    · rename_i hb
      cases qw
      simp only [Bool.and_eq_true, decide_eq_true_eq] at hb
      rw [r.intE]
      refine ⟨j, rfl, hb.1, hb.2, k _ ?_⟩
      have := WkOk.rng (G := G) (as := as1) (H := H1) (lo := 0) (n := j.toNat)
      simpa using this
    · cases qw
  | _ => simp [wkOf] at qw
theorem okI_rng2 (O : XOk G T nm call fx X E) {tg x y : Expr} {p pos : Pos} {e e2 : Ex} (hs : ∀ y, e ≠ .star y) (hs2 : ∀ y, e2 ≠ .star y) (hx : isStar x = false) (hy : isStar y = false) (hg : glB fx.names "range" = true) (ha : PA X [x, y] (tA G E (evEs T call [e, e2]))) :
    PI X tg (.Call (.Name "range" p) [x, y] [] pos) (tI G E (evI T call .rng [e, e2])) := by
  have s2 : starEach [y] X.env = [(false, eval y X.env)] := star_cons hy
  refine PI.imp (pi_range2 (gl_ok O hg) O.rng ha (by rw [star_cons hx, s2]) s2) fun σ H R q => tI_two hs hs2 q fun v w h1 as1 H1 v' w' pr S r r2 qw k => ?_
  cases v with
  | int i =>
    cases w with
    | int j =>
      simp only [wkOf] at qw
      split at qw
      · rename_i hb
        cases qw
        simp only [Bool.and_eq_true, decide_eq_true_eq] at hb
        rw [r.intE, r2.intE]
        exact ⟨i, j, rfl, ⟨hb.1.1.1, hb.1.1.2, hb.1.2, hb.2⟩, k _ WkOk.rng⟩
      · cases qw
    | _ => simp [wkOf] at qw
  | _ => simp [wkOf] at qw
theorem okI_enum (O : XOk G T nm call fx X E) {x : Expr} {p pos tpos : Pos} {elts : List Expr} {kk : Nat} {e : Ex} (hs : ∀ y, e ≠ .star y) (hx : isStar x = false) (hg : glB fx.names "enumerate" = true) (ha : PA X [x] (tA G E (evEs T call [e]))) : PI X (.Tuple elts kk tpos) (.Call (.Name "enumerate" p) [x] [] pos) (tI G E (evI T call .enum [e])) := by
  refine PI.imp (pi_enum3 (gl_ok O hg) O.enm ha (star_cons hx)) fun σ H R q => tI_one hs q fun v h1 as1 H1 v' pr S r qw k => ?_
  cases v with
  | ref l =>
    simp only [wkOf] at qw
    obtain ⟨xs, e1, rfl⟩ := Option.map_eq_some_iff.mp qw
    obtain ⟨a, ea, rfl⟩ := r.refE
    obtain ⟨vs, sl, rl⟩ := S.lst e1 ea
    rw [O.K]
    exact .inl (.inl ⟨a, vs, rfl, sl, k _ (WkOk.enl ea)⟩)
  | tup xs =>
    simp only [wkOf] at qw
    cases qw
    obtain ⟨a, vs, rfl, st, rs⟩ := r.tupE
    rw [O.K]
    exact .inr ⟨a, vs, rfl, st, k _ (WkOk.ent st rs)⟩
  | str x =>
    simp only [wkOf] at qw
    split at qw
    · cases qw
      rw [r.strE]
      exact .inl (.inr ⟨_, rfl, k _ WkOk.ens⟩)
    · cases qw
  | _ => simp [wkOf] at qw
theorem okI_zip (O : XOk G T nm call fx X E) {x y : Expr} {p pos tpos : Pos} {elts : List Expr} {kk : Nat} {e e2 : Ex} (hs : ∀ y, e ≠ .star y) (hs2 : ∀ y, e2 ≠ .star y) (hx : isStar x = false) (hy : isStar y = false) (hg : glB fx.names "zip" = true) (ha : PA X [x, y] (tA G E (evEs T call [e, e2]))) :
    PI X (.Tuple elts kk tpos) (.Call (.Name "zip" p) [x, y] [] pos) (tI G E (evI T call .zip [e, e2])) := by
  refine PI.imp (pi_zip (gl_ok O hg) O.zp ha (star_cons hx) (noStars (by simp [hy]))) fun σ H R q => tI_two hs hs2 q fun v w h1 as1 H1 v' w' pr S r r2 qw k => ?_
  cases v with
  | ref l =>
    cases w with
    | ref m =>
      simp only [wkOf] at qw
      obtain ⟨xs, e1, q2⟩ := Option.bind_eq_some_iff.mp qw
      obtain ⟨ys, e3, rfl⟩ := Option.map_eq_some_iff.mp q2
      obtain ⟨a, ea, rfl⟩ := r.refE
      obtain ⟨b, eb, rfl⟩ := r2.refE
      obtain ⟨vs, sl, rl⟩ := S.lst e1 ea
      obtain ⟨ws, sl2, rl2⟩ := S.lst e3 eb
      rw [O.K]
      exact ⟨a, b, vs, ws, rfl, sl, sl2, k _ (WkOk.zll ea eb)⟩
    | _ => simp [wkOf] at qw
  | _ => simp [wkOf] at qw
theorem okI_rev (O : XOk G T nm call fx X E) {tg x : Expr} {p pos : Pos} {e : Ex} (hs : ∀ y, e ≠ .star y) (hx : isStar x = false) (hg : glB fx.names "reversed" = true) (ha : PA X [x] (tA G E (evEs T call [e]))) : PI X tg (.Call (.Name "reversed" p) [x] [] pos) (tI G E (evI T call .rev [e])) := by
  refine PI.imp (pi_reversed (gl_ok O hg) O.rvs ha (star_cons hx)) fun σ H R q => tI_one hs q fun v h1 as1 H1 v' pr S r qw k => ?_
  cases v with
  | ref l =>
    simp only [wkOf] at qw
    obtain ⟨xs, e1, rfl⟩ := Option.map_eq_some_iff.mp qw
    obtain ⟨a, ea, rfl⟩ := r.refE
    obtain ⟨vs, sl, rl⟩ := S.lst e1 ea
    rw [O.K]
    exact ⟨a, vs, rfl, sl, k _ (by rw [← rl.length]; exact WkOk.rvl ea)⟩
  | _ => simp [wkOf] at qw
theorem foldl_set_ok {as : List Addr} {H : Hp} : ∀ {is : List Nat} {xs : List PV} {vs : List V} {ρ : PEnv} {σ : L2.St}, RepE G as H ρ σ → RepVs G as H xs vs →
    RepE G as H ((is.zip xs).foldl (fun r q => r.set q.1 (some q.2)) ρ) ((is.zip vs).foldl (fun r q => r.set q.1 (some q.2)) σ)
  | [], _, _, _, _, R, _ => R
  | i :: is, [], _, _, _, R, r => by rw [r.zero]; exact R
  | i :: is, x :: xs, vs, ρ, σ, R, r => by
    unfold RepVs at r
    obtain ⟨v, rest, rfl, r1, r2⟩ := r
    have := foldl_set_ok (is := is) (R.set i r1) r2
    exact this
def chkNm (fx : Fx) (i : Nat) : Expr → Bool
  | .Name x _ => decide (fx.N[i]? = some x) && fx.st.contains x
  | _ => false
def chkNms (fx : Fx) : List Nat → List Expr → Bool
  | [], [] => true
  | i :: is, x :: xs => chkNm fx i x && chkNms fx is xs
  | _, _ => false
def gNames (is : List Nat) : TGs := fun vs σ H Q => vs.length = is.length ∧ Q ((is.zip vs).foldl (fun r q => r.set q.1 (some q.2)) σ) H
theorem okG_name (O : XOk G T nm call fx X E) {i : Nat} {e : Expr} (h : chkNm fx i e = true) : PG X e (gName i) := by
  cases e with
  | Name x p =>
    simp only [chkNm, Bool.and_eq_true, decide_eq_true_eq, List.contains_iff_mem] at h
    obtain ⟨l, f⟩ := O.st x h.2
    exact pg_name O.nd (by rw [O.N]; exact h.1) l f
  | _ => cases h
theorem nm_assign {fx : Fx} {i : Nat} {e : Expr} {es : List Expr} {env : Env} (h : chkNm fx i e = true) : assignEach (e :: es) env = (false, assign e env) :: assignEach es env := by
  cases e <;> first | rfl | cases h
theorem okG_names (O : XOk G T nm call fx X E) : ∀ {is : List Nat} {es : List Expr}, chkNms fx is es = true → PGs X es (gNames is) ∧ (assignEach es X.env).length = is.length ∧ (assignEach es X.env).findIdx? (·.1) = none
  | [], [], _ => ⟨⟨fun pins s σ H vs us Q I r h => pgs_nil.run pins s σ H vs us Q I r ⟨List.eq_nil_of_length_eq_zero h.1, h.2⟩⟩, rfl, rfl⟩
  | i :: is, e :: es, h => by
    simp only [chkNms, Bool.and_eq_true] at h
    obtain ⟨i1, i2, i3⟩ := okG_names O h.2
    have na := nm_assign (es := es) (env := X.env) h.1
    refine ⟨⟨fun pins s σ H vs us Q I r hw => ?_⟩, ?_, ?_⟩
    · refine (pgs_cons (okG_name O h.1) i1 (by rw [na]; rfl)).run pins s σ H vs us Q I r ?_
      obtain ⟨hl, q⟩ := hw
      cases vs with
      | nil => simp at hl
      | cons v vr => exact ⟨v, vr, rfl, by simpa using hl, q⟩
    · rw [na]; simp [i2]
    · rw [na]
      rw [List.findIdx?_cons, i3]
      rfl
  | [], _ :: _, h => by cases h
  | _ :: _, [], h => by cases h
def chkTg (fx : Fx) : Tg → Expr → Bool
  | .nm i, e => chkNm fx i e
  | .tp is, .Tuple es _ _ => chkNms fx is es
  | .tp _, _ => false
def tG (G : Gm) (t : Tg) : TG := fun v σ H Q => ∃ as ρ h x ρ', SR G as H h ∧ RepE G as H ρ σ ∧ RepV G as H x v ∧ bindTg t x ρ = some ρ' ∧ ∀ σ', RepE G as H ρ' σ' → (∃ (is : List Nat) (vs : List V), σ' = (is.zip vs).foldl (fun r q => r.set q.1 (some q.2)) σ ∧ ∀ i ∈ is, i ∈ (match t with | .nm j => [j] | .tp js => js)) → Q σ' H
theorem okG_tg (O : XOk G T nm call fx X E) {t : Tg} {e : Expr} (h : chkTg fx t e = true) : PG X e (tG G t) := by
  cases t with
  | nm i =>
    refine ⟨fun pins s σ H v u Q I r ⟨as, ρ, hh, x, ρ', S, R, rx, eb, k⟩ => (okG_name O h).run pins s σ H v u Q I r ?_⟩
    simp only [bindTg] at eb
    cases eb
    exact k _ (R.set i rx) ⟨[i], [v], rfl, fun j hj => hj⟩
  | tp is =>
    cases e with
    | Tuple es kk pos =>
      obtain ⟨g, l, f⟩ := okG_names O (show chkNms fx is es = true from h)
      refine ⟨fun pins s σ H v u Q I r ⟨as, ρ, hh, x, ρ', S, R, rx, eb, k⟩ => (pg_tup O.calm g l f).run pins s σ H v u Q I r ?_⟩
      simp only [bindTg] at eb
      split at eb
      · rename_i xs
        split at eb
        · rename_i hl
          cases eb
          obtain ⟨a, vs, rfl, sa, rv⟩ := rx.tupE
          refine ⟨a, vs, rfl, by rw [O.K]; exact sa, by rw [← rv.length]; exact hl, by rw [← rv.length]; exact hl, k _ (foldl_set_ok R rv) ⟨is, vs, rfl, fun j hj => hj⟩⟩
        · cases eb
      · cases eb
    | _ => cases h
end
end Mn
set_option Elab.async false
set_option linter.all false
set_option maxRecDepth 100000
set_option maxHeartbeats 4000000
namespace Mn
open PySem PySem.Spec L2 PyProof.Rows
def rlb (fx : List (Str × NameKind)) (q : Str × NameKind) : Str × NameKind := if (q.2 == .free && fx.lookup q.1 == some .cell) then (q.1, .cell) else (q.1, q.2)
def fxB (fx : Fx) (sc : Scope) : Fx where
  N := fx.N
  names := sc.names.map (rlb fx.names)
  st := (sc.names.filter fun q => (match q.2 with | .local => true | .cell => true | _ => false)).map (·.1)
def ownsOf (fx : Fx) (own : List Nat) : List (Str × Nat) := own.map fun i => (fx.N.getD i Str.empty, i)
def scOf (fx : Fx) : Scope := { kind := .function, names := fx.names, isGenerator := false, isCoroutine := false }
section
variable {G : Gm} {T : Tb} {nm : Nm} {call : Nat → List PV → PH → Res PV} {fx : Fx} {X : Cx} {E : XK}
theorem blk_scope (O : XOk G T nm call fx X E) {sc : Scope} {cl : List (Str × Addr)} {C : Addr} : (compEnvC sc cl C X.env).scope.names = (fxB fx sc).names := by
  show (relabel sc X.env).names = _
  unfold relabel fxB Env.kindOf rlb
  rw [O.names, O.kind]
  have e : (ScopeKind.function == ScopeKind.function) = true := rfl
  simp only [e, Bool.and_true]
def uniqB (sc : Scope) : Bool := sc.names.all fun y => decide (sc.names.lookup y.1 = some y.2)
theorem relab_lookup {sc fx : List (Str × NameKind)} {x : Str} {k : NameKind} (h : sc.lookup x = some k) (hk : k = .local ∨ k = .cell) : (sc.map (rlb fx)).lookup x = some k := by
  induction sc with
  | nil => simp at h
  | cons p r ih =>
    obtain ⟨n, kn⟩ := p
    by_cases e : x = n
    · subst e
      simp at h
      subst h
      have e1 : rlb fx (x, kn) = (x, kn) := by
        rcases hk with rfl | rfl <;> rfl
      rw [List.map_cons, e1]
      simp
    · have e2 : (x == n) = false := by simpa using e
      rw [List.lookup_cons, e2] at h
      have ih' := ih h
      obtain ⟨k2, e1⟩ : ∃ k2, rlb fx (n, kn) = (n, k2) := by
        unfold rlb
        split <;> exact ⟨_, rfl⟩
      rw [List.map_cons, e1, List.lookup_cons, e2]
      exact ih'
theorem XOk.blk (O : XOk G T nm call fx X E) {sc : Scope} (hu : uniqB sc = true) (s : Shared) (H : Hp) (C : Addr) (cl : List (Str × Addr)) (fp : List Addr) (hk : sc.kind = .function) : XOk G T nm call (fxB fx sc) (X.blk s H sc (compEnvC sc cl C X.env) fp) E0 where
  K := O.K
  calm := O.calm
  hu := O.hu
  N := O.N
  nd := O.nd
  names := blk_scope O
  gl := O.gl
  bl := O.bl
  st := fun x hx => by
    obtain ⟨q, hq, rfl⟩ := List.mem_map.mp hx
    obtain ⟨h1, h2⟩ := List.mem_filter.mp hq
    have u := of_decide_eq_true (List.all_eq_true.mp hu q h1)
    have kk : q.2 = .local ∨ q.2 = .cell := by
      cases e : q.2 with
      | «local» => exact .inl rfl
      | cell => exact .inr rfl
      | _ => rw [e] at h2; cases h2
    have l2 : (compEnvC sc cl C X.env).scope.names.lookup q.1 = some q.2 := by
      rw [blk_scope O]
      exact relab_lookup u kk
    refine ⟨?_, ?_⟩
    · rcases kk with e | e
      · exact .inl (by rw [← e]; exact l2)
      · exact .inr (by rw [← e]; exact l2)
    · rcases kk with e | e
      · exact .inr (by rw [← e]; exact l2)
      · left
        show (sc.names.lookup q.1 == some .cell) = true
        rw [u, e]
        rfl
  rng := O.rng
  enm := O.enm
  zp := O.zp
  rvs := O.rvs
  sts := O.sts
  cls := O.cls
  kind := hk
  pass := fun pins σ H s e s' I c => by
    obtain ⟨_, _, _, _, _, _, _, _, _, _, _, _, q⟩ := c
    exact q
  fns := O.fns
  gnl := O.gnl
  an := O.an
  mfn := O.mfn
theorem noer_bind {α β : Type} (r : Res α) (k : α → PH → Res β) : (r.bind k).noer = r.noer.bind fun a h => (k a h).noer := by
  induction r with
  | ok a h => rfl
  | er x h => rfl
  | stuck => rfl
  | all n f ih => simp only [Res.bind_all, Res.noer, ih]
theorem Ok.noer {α β γ δ : Type} {G : Gm} {E E' : XK} {as : List Addr} {H : Hp} {r : Res α} {k : α → PH → Res γ} {rel : List Addr → Hp → α → β → Prop} {rel2 : List Addr → Hp → γ → δ → Prop} {Q : β → Hp → Prop} {Q2 : δ → Hp → Prop}
    (o : Ok G E as H rel2 Q2 (r.noer.bind k)) (next : ∀ v h1 as1 H1 v', Fut G as H as1 H1 h1 → rel as1 H1 v v' → Ok G E as1 H1 rel2 Q2 (k v h1) → Q v' H1) : Ok G E' as H rel Q r := by
  induction r with
  | ok v h1 => exact fun as1 H1 v1 f1 r1 => next v h1 as1 H1 v1 f1 r1 (Ok.fut f1 o)
  | er x h1 => exact False.elim o
  | stuck => exact o
  | all n f ih => exact fun i hi => ih i (o i hi)
theorem wipe_ok {as : List Addr} {H : Hp} {ρ : PEnv} {σ : L2.St} (R : RepE G as H ρ σ) : ∀ own : List Nat, RepE G as H (own.foldr (fun i r => r.set i none) ρ) (wipe σ own)
  | [] => R
  | i :: own => by
    have ih := wipe_ok R own
    show RepE G as H ((own.foldr (fun i r => r.set i none) ρ).set i none) ((wipe σ own).set i none)
    refine ⟨by simp [ih.1], fun j v e => ?_⟩
    by_cases hj : i = j
    · subst hj
      by_cases hl : i < (own.foldr (fun i r => r.set i none) ρ).length
      · rw [List.getElem?_set_self hl] at e; cases e
      · rw [List.getElem?_eq_none (by simpa using hl)] at e; cases e
    · rw [List.getElem?_set_ne hj] at e ⊢
      exact ih.2 j v e
theorem wipe_set {σ : L2.St} {i : Nat} {v : Option V} : ∀ {own : List Nat}, i ∈ own → wipe (σ.set i v) own = wipe σ own
  | [], h => by simp at h
  | j :: own, h => by
    unfold wipe
    by_cases hj : i ∈ own
    · rw [wipe_set hj]
    · have e : i = j := by simpa [hj] using h
      subst e
      clear h
      have key : ∀ own : List Nat, i ∉ own → wipe (σ.set i v) own = (wipe σ own).set i v := fun own => by
        induction own with
        | nil => intro _; rfl
        | cons k own ih =>
          intro hn
          simp only [List.mem_cons, not_or] at hn
          unfold wipe
          rw [ih hn.2, List.set_comm _ _ hn.1]
      rw [key own hj, List.set_set]
theorem wipe_fold {own : List Nat} : ∀ {is : List Nat} {vs : List V} {σ : L2.St}, (∀ i ∈ is, i ∈ own) → wipe ((is.zip vs).foldl (fun r q => r.set q.1 (some q.2)) σ) own = wipe σ own
  | [], _, _, _ => rfl
  | i :: is, [], _, _ => rfl
  | i :: is, v :: vs, σ, h => by
    show wipe ((is.zip vs).foldl _ (σ.set i (some v))) own = _
    rw [wipe_fold (fun j hj => h j (List.mem_cons_of_mem _ hj)), wipe_set (h i List.mem_cons_self)]
theorem wipe_wipe {σ : L2.St} (own : List Nat) : wipe (wipe σ own) own = wipe σ own := by
  have key : ∀ is : List Nat, (∀ i ∈ is, i ∈ own) → wipe (wipe σ is) own = wipe σ own := fun is => by
    induction is with
    | nil => intro _; rfl
    | cons i is ih =>
      intro h
      show wipe ((wipe σ is).set i none) own = _
      rw [wipe_set (h i List.mem_cons_self)]
      exact ih fun j hj => h j (List.mem_cons_of_mem _ hj)
  exact key own fun _ h => h
def tgIs : Tg → List Nat
  | .nm j => [j]
  | .tp js => js
def lcB (T : Tb) (call : Nat → List PV → PH → Res PV) (e : Ex) (own : List Nat) (t : Tg) (ifs : List Ex) (ρ : PEnv) (x : PV) (h2 : PH) : Res (Option PV) := match bindTg t x (own.foldr (fun i r => r.set i none) ρ) with
      | none => .stuck
      | some ρ1 => ((evIf T call ifs ρ1 h2).bind fun b h3 => if b then (evE T call e ρ1 h3).bind fun y h4 => .ok (some y) h4 else .ok none h3).noer
theorem evE_lc {e : Ex} {own : List Nat} {t : Tg} {k : Ik} {its ifs : List Ex} {ρ : PEnv} {h : PH} : evE T call (.lc e own t k its ifs) ρ h = (evI T call k its ρ h).bind fun p h1 => lcRun (lcB T call e own t ifs ρ) p.1 h1.length (p.2 + 1) 0 (h1 ++ [.lst []]) := by
  unfold evI
  simp only [evE, Res.bind_assoc]
  congr 1
  funext vs h1
  cases q : wkOf k vs h1 with
  | none => rfl
  | some p => rfl
theorem lc_core' (O : XOk G T nm call fx X E) {e : Ex} {own : List Nat} {t : Tg} {k : Ik} {its ifs : List Ex} {elt tg iter : Expr} {xifs : List Expr} {sc : Scope}
    (hi : PI X tg iter (tI G E (evI T call k its))) (hb : blkC fx.N (scOf fx) sc (ownsOf fx own) = true) (htg : ∀ i ∈ tgIs t, i ∈ own)
    (hg : ∀ (X' : Cx), XOk G T nm call (fxB fx sc) X' E0 → PG X' tg (tG G t)) (ht : ∀ (X' : Cx), XOk G T nm call (fxB fx sc) X' E0 → PTs X' xifs (tT G E0 (evIf T call ifs))) (he : ∀ (X' : Cx), XOk G T nm call (fxB fx sc) X' E0 → PE X' elt (tE G E0 (evE T call e)))
    (hs : noSet iter = true) (σ : L2.St) (H : Hp) (Q : VK) : tE G E (evE T call (.lc e own t k its ifs)) σ H Q → tLc (tI G E (evI T call k its)) (tG G t) (tT G E0 (evIf T call ifs)) (tE G E0 (evE T call e)) ((ownsOf fx own).map (·.2)) σ H Q := by
  have ow : (ownsOf fx own).map (·.2) = own := by unfold ownsOf; rw [List.map_map]; exact (List.map_congr_left (fun _ _ => rfl)).trans (List.map_id own)
  intro ⟨as, ρ, h, S, R, o⟩
  rw [ow]
  rw [evE_lc] at o
  refine ⟨as, ρ, h, S, R, Ok.bind o fun p h1 as1 H1 J f1 hJ o1 D hD => ?_⟩
  -- the new list
  obtain ⟨f2, rD⟩ := f1.sr.newL (ys := []) hD .nil
  have eD : (as1 ++ [D])[h1.length]? = some D := by
    rw [← f1.sr.len, List.getElem?_append_right (Nat.le_refl _)]
    simp
  have Rw : RepE G as1 H1 ρ σ := R.fut f1
  refine ⟨fun i m H => ∃ as2 h2, Fut G (as1 ++ [D]) (upd H1 D (.lst [])) as2 H h2 ∧ OkV G E as2 H Q (lcRun (lcB T call e own t ifs ρ) p.1 h1.length m i h2), ⟨p.2 + 1, as1 ++ [D], _, Fut.refl f2.sr, Ok.fut f2 o1⟩, ?_⟩
  rintro i m H' ⟨as2, h2, f3, o2⟩
  cases m with
  | zero => exact False.elim o2
  | succ m =>
    have f23 : Fut G as1 H1 as2 H' h2 := f2.trans f3
    obtain ⟨j1, j2⟩ := hJ as2 H' h2 f23.pre f23.kp f3.sr i
    unfold lcRun at o2
    have eD2 : as2[h1.length]? = some D := pre_get f3.pre eD
    split at o2
    · exact False.elim o2
    · rename_i q
      refine .inl ⟨j1 q, okv f3.sr o2 ?_⟩
      unfold RepV
      exact ⟨D, eD2, rfl⟩
    · rename_i x q
      obtain ⟨jg, jy⟩ := j2 x q
      refine .inr ⟨jg, fun H3 => ∃ as3 h3, Fut G (as1 ++ [D]) (upd H1 D (.lst [])) as3 H3 h3 ∧ OkV G E as3 H3 Q (lcRun (lcB T call e own t ifs ρ) p.1 h1.length m (i + 1) h3), fun H3 n => ⟨m, Nat.lt_succ_self _, n⟩, fun v H3 y => ?_⟩
      obtain ⟨f4, rv⟩ := jy v H3 y
      have o3 := Ok.fut f4 o2
      have f34 := f3.trans f4
      have R3 : RepE G as2 H3 ρ σ := (Rw.fut f23).fut f4
      unfold lcB at o3
      split at o3
      · exact False.elim o3
      · rename_i ρ1 qb
        refine ⟨as2, _, h2, x, ρ1, f4.sr, wipe_ok R3 own, rv, qb, fun σ1 R1 ⟨is, vs, e1, e2⟩ => ⟨?_, ?_⟩⟩
        · rw [e1, wipe_fold (fun j hj => htg j (by have := e2 j hj; cases t <;> exact this)), wipe_wipe]
        · rw [noer_bind, Res.bind_assoc] at o3
          refine ⟨as2, ρ1, h2, f4.sr, R1, Ok.noer o3 fun b h4 as4 H4 b' f5 eb o4 => ?_⟩
          subst eb
          cases b with
          | false =>
            simp only [Bool.false_eq_true, if_false] at o4 ⊢
            exact ⟨as4, h4, f34.trans f5, o4⟩
          | true =>
            simp only [if_true] at o4 ⊢
            rw [noer_bind, Res.bind_assoc] at o4
            refine ⟨as4, ρ1, h4, f5.sr, R1.fut f5, Ok.noer o4 fun y h5 as5 H5 y' f6 ry o5 => ?_⟩
            have o6 : Ok G E as5 H5 (fun as' H' => RepV G as' H') Q (match h5[h1.length]? with
              | some (.lst acc) => if acc.length < sizeLine then lcRun (lcB T call e own t ifs ρ) p.1 h1.length m (i + 1) (h5.set h1.length (.lst (acc ++ [y]))) else .stuck
              | _ => .stuck) := o5
            split at o6
            · rename_i acc qa
              split at o6
              · rename_i hl
                have eD5 := pre_get (f5.pre.trans f6.pre) eD2
                obtain ⟨ws, eH, rl⟩ := f6.sr.lstM qa eD5
                have f7 := f6.sr.setL eD5 eH (rl.append (.cons ry .nil))
                exact ⟨ws, eH, by rw [← rl.length]; exact hl, as5, _, ((f34.trans f5).trans f6).trans f7, Ok.fut f7 o6⟩
              · exact False.elim o6
            · exact False.elim o6
theorem lc_parts (O : XOk G T nm call fx X E) {e : Ex} {own : List Nat} {t : Tg} {k : Ik} {its ifs : List Ex} {elt tg iter : Expr} {xifs : List Expr} {sc : Scope}
    (hi : PI X tg iter (tI G E (evI T call k its))) (hb : blkC fx.N (scOf fx) sc (ownsOf fx own) = true) (htg : ∀ i ∈ tgIs t, i ∈ own)
    (hg : ∀ (X' : Cx), XOk G T nm call (fxB fx sc) X' E0 → PG X' tg (tG G t)) (ht : ∀ (X' : Cx), XOk G T nm call (fxB fx sc) X' E0 → PTs X' xifs (tT G E0 (evIf T call ifs))) (he : ∀ (X' : Cx), XOk G T nm call (fxB fx sc) X' E0 → PE X' elt (tE G E0 (evE T call e)))
    (hs : noSet iter = true) : BlkOk X.N X.env.scope sc (ownsOf fx own) ∧
      (∀ (s : Shared) (H : Hp) (C : Addr) (cl : List (Str × Addr)) (fp : List Addr), PG (X.blk s H sc (compEnvC sc cl C X.env) fp) tg (tG G t)) ∧
      (∀ (s : Shared) (H : Hp) (C : Addr) (cl : List (Str × Addr)) (fp : List Addr), PTs (X.blk s H sc (compEnvC sc cl C X.env) fp) xifs (tT G E0 (evIf T call ifs))) ∧
      (∀ (s : Shared) (H : Hp) (C : Addr) (cl : List (Str × Addr)) (fp : List Addr), PE (X.blk s H sc (compEnvC sc cl C X.env) fp) elt (tE G E0 (evE T call e))) ∧
      ∀ x, foldedSetIterable iter X.env x = pure x := by
  have hb0 := blkOk_by hb
  have hu : uniqB sc = true := List.all_eq_true.mpr fun y hy => decide_eq_true (hb0.uniq y hy)
  exact ⟨⟨hb0.kind, hb0.uniq, by rw [O.N]; exact hb0.ix, fun y hy e => by rw [O.names]; exact hb0.free y hy e, by rw [O.N]; exact hb0.own⟩,
    fun s H C cl fp => hg _ (O.blk hu s H C cl fp hb0.kind), fun s H C cl fp => ht _ (O.blk hu s H C cl fp hb0.kind), fun s H C cl fp => he _ (O.blk hu s H C cl fp hb0.kind), fun x => by cases iter <;> first | rfl | cases hs⟩
theorem okE_lc (O : XOk G T nm call fx X E) {e : Ex} {own : List Nat} {t : Tg} {k : Ik} {its ifs : List Ex} {elt tg iter : Expr} {xifs : List Expr} {sc : Scope} {pos : Pos}
    (hi : PI X tg iter (tI G E (evI T call k its))) (hb : blkC fx.N (scOf fx) sc (ownsOf fx own) = true) (htg : ∀ i ∈ tgIs t, i ∈ own)
    (hg : ∀ (X' : Cx), XOk G T nm call (fxB fx sc) X' E0 → PG X' tg (tG G t)) (ht : ∀ (X' : Cx), XOk G T nm call (fxB fx sc) X' E0 → PTs X' xifs (tT G E0 (evIf T call ifs))) (he : ∀ (X' : Cx), XOk G T nm call (fxB fx sc) X' E0 → PE X' elt (tE G E0 (evE T call e)))
    (hs : noSet iter = true) : PE X (.ListComp elt [⟨tg, iter, xifs, 0⟩] sc pos) (tE G E (evE T call (.lc e own t k its ifs))) := by
  obtain ⟨h1, h2, h3, h4, h5⟩ := lc_parts O hi hb htg hg ht he hs
  exact (pe_lc O.calm O.nd hi h1 h2 h3 h4 h5).imp (lc_core' O hi hb htg hg ht he hs)
theorem _root_.L2.PTs.imp {X : Cx} {es : List Expr} {t t' : TT} (p : PTs X es t) (h : ∀ σ H Q, t' σ H Q → t σ H Q) : PTs X es t' := ⟨fun pins s σ H Q I q => p.run pins s σ H Q I (h σ H Q q)⟩
theorem okTs_nil : PTs X [] (tT G E (evIf T call [])) := by
  refine pts_nil.imp fun σ H Q ⟨as, ρ, h, S, R, o⟩ => ?_
  simp only [evIf] at o
  exact o as H true (Fut.refl S) rfl
theorem okTs_one {c : Ex} {x : Expr} (h : PT X x (tT G E (evT T call c))) : PTs X [x] (tT G E (evIf T call [c])) := by
  refine (pts_one h).imp fun σ H Q ⟨as, ρ, h, S, R, o⟩ => ⟨as, ρ, h, S, R, ?_⟩
  have e : evIf T call [c] ρ h = evT T call c ρ h := by
    simp only [evIf, evT]
    congr 1
    funext v h1
    cases q : pTru h1 v with
    | none => rfl
    | some b => cases b <;> rfl
  rw [← e]
  exact o
end
end Mn
set_option Elab.async false
set_option linter.all false
set_option maxRecDepth 100000
set_option maxHeartbeats 4000000
namespace Mn
open PySem PySem.Spec L2 PyProof.Rows
inductive FlV where
  | nx (σ : L2.St) | bk (σ : L2.St) | ct (σ : L2.St) | rt (v : V)
def relF (G : Gm) (as : List Addr) (H : Hp) : Fl → FlV → Prop
  | .nx ρ, .nx σ => RepE G as H ρ σ
  | .bk ρ, .bk σ => RepE G as H ρ σ
  | .ct ρ, .ct σ => RepE G as H ρ σ
  | .rt v, .rt x => RepV G as H v x
  | _, _ => False
def endsQ (D : Ends) : FlV → Hp → Prop
  | .nx σ, H => D.nx σ H
  | .bk σ, H => D.bk σ H
  | .ct σ, H => D.ct σ H
  | .rt v, H => D.rt v H
def tS (G : Gm) (E : XK) (ev : PEnv → PH → Res Fl) : TS := fun D σ H => ∃ as ρ h, SR G as H h ∧ RepE G as H ρ σ ∧ Ok G E as H (fun as' H' => relF G as' H') (endsQ D) (ev ρ h)
section
variable {G : Gm} {T : Tb} {nm : Nm} {call : Nat → List PV → PH → Res PV} {fx : Fx} {X : Cx} {E : XK} {W : Nat}
theorem _root_.L2.PS.imp {X : Cx} {e : Stmt} {t t' : TS} (p : PS X e t) (h : ∀ D σ H, t' D σ H → t D σ H) : PS X e t' := ⟨fun pins s σ H D I q => p.run pins s σ H D I (h D σ H q)⟩
theorem _root_.L2.PSs.imp {X : Cx} {e : List Stmt} {t t' : TS} (p : PSs X e t) (h : ∀ D σ H, t' D σ H → t D σ H) : PSs X e t' := ⟨fun pins s σ H D I q => p.run pins s σ H D I (h D σ H q)⟩
theorem okSs_nil : PSs X [] (tS G E (exSs T call W [])) := by
  refine pss_nil.imp fun D σ H ⟨as, ρ, h, S, R, o⟩ => ?_
  simp only [exSs] at o
  exact o as H (.nx σ) (Fut.refl S) R
theorem okSs_cons {s : Sm} {r : List Sm} {x : Stmt} {xs : List Stmt} (h1 : PS X x (tS G E (exS T call W s))) (h2 : PSs X xs (tS G E (exSs T call W r))) : PSs X (x :: xs) (tS G E (exSs T call W (s :: r))) := by
  refine (pss_cons h1 h2).imp fun D σ H ⟨as, ρ, h, S, R, o⟩ => ?_
  simp only [exSs] at o
  refine ⟨as, ρ, h, S, R, Ok.bind o fun f h1 as1 H1 fv f1 r1 o1 => ?_⟩
  cases f with
  | nx ρ1 =>
    cases fv with
    | nx σ1 => exact ⟨as1, ρ1, h1, f1.sr, r1, o1⟩
    | _ => exact False.elim r1
  | bk ρ1 =>
    cases fv with
    | bk σ1 => exact o1 as1 H1 (.bk σ1) (Fut.refl f1.sr) r1
    | _ => exact False.elim r1
  | ct ρ1 =>
    cases fv with
    | ct σ1 => exact o1 as1 H1 (.ct σ1) (Fut.refl f1.sr) r1
    | _ => exact False.elim r1
  | rt v =>
    cases fv with
    | rt v1 => exact o1 as1 H1 (.rt v1) (Fut.refl f1.sr) r1
    | _ => exact False.elim r1
theorem okS_pass {p : Pos} : PS X (.Pass p) (tS G E (exS T call W .pass)) := ps_pass.imp fun D σ H ⟨as, ρ, h, S, R, o⟩ => by
  simp only [exS] at o
  exact o as H (.nx σ) (Fut.refl S) R
theorem okS_brk {p : Pos} : PS X (.Break p) (tS G E (exS T call W .brk)) := ps_break.imp fun D σ H ⟨as, ρ, h, S, R, o⟩ => by
  simp only [exS] at o
  exact o as H (.bk σ) (Fut.refl S) R
theorem okS_cnt {p : Pos} : PS X (.Continue p) (tS G E (exS T call W .cnt)) := ps_continue.imp fun D σ H ⟨as, ρ, h, S, R, o⟩ => by
  simp only [exS] at o
  exact o as H (.ct σ) (Fut.refl S) R
theorem okS_never {x : Stmt} : PS X x (tS G E (exS T call W .never)) := ⟨fun pins s σ H D I ⟨as, ρ, h, S, R, o⟩ => False.elim (by simp only [exS] at o; exact o)⟩
theorem okS_retn {p : Pos} : PS X (.Return none p) (tS G E (exS T call W .retn)) := ps_retN.imp fun D σ H ⟨as, ρ, h, S, R, o⟩ => by
  simp only [exS] at o
  exact o as H (.rt .non) (Fut.refl S) (show RepV G as H .non .non from .non)
theorem okS_ret {e : Ex} {x : Expr} {p : Pos} (he : PE X x (tE G E (evE T call e))) : PS X (.Return (some x) p) (tS G E (exS T call W (.ret e))) := by
  refine (ps_ret he).imp fun D σ H ⟨as, ρ, h, S, R, o⟩ => ?_
  simp only [exS] at o
  exact ⟨as, ρ, h, S, R, Ok.bind o fun v h1 as1 H1 v' f1 r1 o1 => o1 as1 H1 (.rt v') (Fut.refl f1.sr) r1⟩
def isComp : Expr → Bool
  | .ListComp .. | .SetComp .. | .DictComp .. => true
  | _ => false
theorem noSwap {e : Expr} {t : Option Expr} {l : Nat} {env : Env} (h : isComp e = false) : swapsWith e t l env = pure false := by cases e <;> first | rfl | cases h
theorem okS_ex {e : Ex} {x : Expr} {p : Pos} (hc : isComp x = false) (he : PE X x (tE G E (evE T call e))) : PS X (.Expr x p) (tS G E (exS T call W (.ex e))) := by
  refine (ps_expr he (noSwap hc)).imp fun D σ H ⟨as, ρ, h, S, R, o⟩ => ?_
  simp only [exS] at o
  exact ⟨as, ρ, h, S, R, Ok.bind o fun v h1 as1 H1 v' f1 r1 o1 => o1 as1 H1 (.nx σ) (Fut.refl f1.sr) (R.fut f1)⟩
theorem okS_ite {c : Ex} {a b : List Sm} {z : Expr} {xa xb : List Stmt} {p : Pos} (hc : PT X z (tT G E (evT T call c))) (ha : PSs X xa (tS G E (exSs T call W a))) (hb : PSs X xb (tS G E (exSs T call W b))) : PS X (.If z xa xb p) (tS G E (exS T call W (.ite c a b))) := by
  refine (ps_if hc ha hb).imp fun D σ H ⟨as, ρ, h, S, R, o⟩ => ?_
  simp only [exS] at o
  refine ⟨as, ρ, h, S, R, Ok.bind o fun t h1 as1 H1 t' f1 r1 o1 => ?_⟩
  subst r1
  cases t with
  | true => exact ⟨as1, ρ, h1, f1.sr, R.fut f1, o1⟩
  | false => exact ⟨as1, ρ, h1, f1.sr, R.fut f1, o1⟩
theorem okS_wh {c : Ex} {b : List Sm} {z : Expr} {xb : List Stmt} {p : Pos} (po : PassesOwn (model X.prog X.w) X.A X.env X.xe) (hc : PT X z (tT G E (evT T call c))) (hb : PSs X xb (tS G E (exSs T call W b))) : PS X (.While z xb [] p) (tS G E (exS T call W (.wh c b))) := by
  refine (ps_while po hc hb).imp fun D σ H ⟨as, ρ, h, S, R, o⟩ => ?_
  simp only [exS] at o
  refine ⟨fun m σ H => ∃ as ρ h, SR G as H h ∧ RepE G as H ρ σ ∧ Ok G E as H (fun as' H' => relF G as' H') (endsQ D) (whRun (evT T call c) (exSs T call W b) m ρ h), ⟨W, as, ρ, h, S, R, o⟩, ?_⟩
  rintro m σ H ⟨as, ρ, h, S, R, o⟩
  cases m with
  | zero => exact False.elim o
  | succ m =>
    unfold whRun at o
    refine ⟨as, ρ, h, S, R, Ok.bind o fun t h1 as1 H1 t' f1 r1 o1 => ?_⟩
    subst r1
    cases t with
    | false => exact o1 as1 H1 (.nx σ) (Fut.refl f1.sr) (R.fut f1)
    | true =>
      simp only [if_true] at o1 ⊢
      refine ⟨fun σ' H' => ∃ as ρ h, SR G as H' h ∧ RepE G as H' ρ σ' ∧ Ok G E as H' (fun as' H' => relF G as' H') (endsQ D) (whRun (evT T call c) (exSs T call W b) m ρ h), fun σ' H' n => ⟨m, Nat.lt_succ_self _, n⟩, ?_⟩
      refine ⟨as1, ρ, h1, f1.sr, R.fut f1, Ok.bind o1 fun f h2 as2 H2 fv f2 r2 o2 => ?_⟩
      cases f with
      | nx ρ1 =>
        cases fv with
        | nx σ1 => exact ⟨as2, ρ1, h2, f2.sr, r2, o2⟩
        | _ => exact False.elim r2
      | bk ρ1 =>
        cases fv with
        | bk σ1 => exact o2 as2 H2 (.nx σ1) (Fut.refl f2.sr) r2
        | _ => exact False.elim r2
      | ct ρ1 =>
        cases fv with
        | ct σ1 => exact ⟨as2, ρ1, h2, f2.sr, r2, o2⟩
        | _ => exact False.elim r2
      | rt v =>
        cases fv with
        | rt v1 => exact o2 as2 H2 (.rt v1) (Fut.refl f2.sr) r2
        | _ => exact False.elim r2
def forB (T : Tb) (call : Nat → List PV → PH → Res PV) (W : Nat) (t : Tg) (b : List Sm) (x : PV) (ρ1 : PEnv) (h2 : PH) : Res Fl := match bindTg t x ρ1 with
      | none => .stuck
      | some ρ2 => exSs T call W b ρ2 h2
theorem exS_for {t : Tg} {k : Ik} {its : List Ex} {b : List Sm} {ρ : PEnv} {h : PH} : exS T call W (.for_ t k its b) ρ h = (evI T call k its ρ h).bind fun p h1 => forRun (forB T call W t b) p.1 (p.2 + 1) 0 ρ h1 := by
  unfold evI
  simp only [exS, Res.bind_assoc]
  congr 1
  funext vs h1
  cases q : wkOf k vs h1 with
  | none => rfl
  | some p => rfl
theorem okS_for (O : XOk G T nm call fx X E) {t : Tg} {k : Ik} {its : List Ex} {b : List Sm} {tg iter : Expr} {xb : List Stmt} {p : Pos} (po : PassesOwn (model X.prog X.w) X.A X.env X.xe) (hi : PI X tg iter (tI G E (evI T call k its))) (hg : PG X tg (tG G t)) (hb : PSs X xb (tS G E (exSs T call W b))) (hs : noSet iter = true) :
    PS X (.For tg iter xb [] p) (tS G E (exS T call W (.for_ t k its b))) := by
  refine (ps_for po O.calm hi hg hb (fun x => by cases iter <;> first | rfl | cases hs)).imp fun D σ H ⟨as, ρ, h, S, R, o⟩ => ?_
  rw [exS_for] at o
  refine ⟨as, ρ, h, S, R, Ok.bind o fun p h1 as1 H1 J f1 hJ o1 => ?_⟩
  refine ⟨fun i m σ H => ∃ as2 ρ2 h2, Fut G as1 H1 as2 H h2 ∧ RepE G as2 H ρ2 σ ∧ Ok G E as2 H (fun as' H' => relF G as' H') (endsQ D) (forRun (forB T call W t b) p.1 m i ρ2 h2), ⟨p.2 + 1, as1, ρ, h1, Fut.refl f1.sr, R.fut f1, o1⟩, ?_⟩
  rintro i m σ2 H2 ⟨as2, ρ2, h2, f2, R2, o2⟩
  cases m with
  | zero => exact False.elim o2
  | succ m =>
    obtain ⟨j1, j2⟩ := hJ as2 H2 h2 f2.pre f2.kp f2.sr i
    unfold forRun at o2
    split at o2
    · exact False.elim o2
    · rename_i q
      exact .inl ⟨j1 q, o2 as2 H2 (.nx σ2) (Fut.refl f2.sr) R2⟩
    · rename_i x q
      obtain ⟨jg, jy⟩ := j2 x q
      refine .inr ⟨jg, fun σ3 H3 => ∃ as3 ρ3 h3, Fut G as1 H1 as3 H3 h3 ∧ RepE G as3 H3 ρ3 σ3 ∧ Ok G E as3 H3 (fun as' H' => relF G as' H') (endsQ D) (forRun (forB T call W t b) p.1 m (i + 1) ρ3 h3), fun σ3 H3 n => ⟨m, Nat.lt_succ_self _, n⟩, fun v H3 y => ?_⟩
      obtain ⟨f3, rv⟩ := jy v H3 y
      have o3 := Ok.fut f3 o2
      unfold forB at o3
      split at o3
      · exact False.elim o3
      · rename_i ρ3 qb
        refine ⟨as2, ρ2, h2, x, ρ3, f3.sr, R2.fut f3, rv, qb, fun σ3 R3 _ => ?_⟩
        refine ⟨as2, ρ3, h2, f3.sr, R3, Ok.bind o3 fun f h4 as4 H4 fv f4 r4 o4 => ?_⟩
        cases f with
        | nx ρ1 =>
          cases fv with
          | nx σ1 => exact ⟨as4, ρ1, h4, (f2.trans f3).trans f4, r4, o4⟩
          | _ => exact False.elim r4
        | bk ρ1 =>
          cases fv with
          | bk σ1 => exact o4 as4 H4 (.nx σ1) (Fut.refl f4.sr) r4
          | _ => exact False.elim r4
        | ct ρ1 =>
          cases fv with
          | ct σ1 => exact ⟨as4, ρ1, h4, (f2.trans f3).trans f4, r4, o4⟩
          | _ => exact False.elim r4
        | rt v =>
          cases fv with
          | rt v1 => exact o4 as4 H4 (.rt v1) (Fut.refl f4.sr) r4
          | _ => exact False.elim r4
theorem okS_nm (O : XOk G T nm call fx X E) {i : Nat} {e : Ex} {t x : Expr} {p : Pos} (ht : chkNm fx i t = true) (hc : isComp x = false) (he : PE X x (tE G E (evE T call e))) : PS X (.Assign [t] x p) (tS G E (exS T call W (.asg (.nm i) e))) := by
  cases t with
  | Name y q =>
    simp only [chkNm, Bool.and_eq_true, decide_eq_true_eq, List.contains_iff_mem] at ht
    obtain ⟨l, f⟩ := O.st y ht.2
    refine (ps_set (i := i) O.nd (by rw [O.N]; exact ht.1) l he (noSwap hc) f).imp fun D σ H ⟨as, ρ, h, S, R, o⟩ => ?_
    simp only [exS, asgTa, Res.bind_ok] at o
    exact ⟨as, ρ, h, S, R, Ok.bind o fun v h1 as1 H1 v' f1 r1 o1 => o1 as1 H1 (.nx _) (Fut.refl f1.sr) ((R.fut f1).set i r1)⟩
  | _ => cases ht
def lcLine (y : Str) (py pos : Pos) (sc : Scope) (l : Nat) : Bool := (py.line == pos.line) && !(sc.names.any fun (n, k) => n == y && (k == .local || k == .cell))
theorem okS_nmLc (O : XOk G T nm call fx X E) {i : Nat} {y : Str} {py spos : Pos} {e : Ex} {own : List Nat} {t : Tg} {k : Ik} {its ifs : List Ex} {elt tg iter : Expr} {xifs : List Expr} {sc : Scope} {pos : Pos}
    (hy : fx.N[i]? = some y) (hl : fx.names.lookup y = some .local) (hline : lcLine y py pos sc spos.line = true)
    (hi : PI X tg iter (tI G E (evI T call k its))) (hb : blkC fx.N (scOf fx) sc (ownsOf fx own) = true) (htg : ∀ i ∈ tgIs t, i ∈ own)
    (hg : ∀ (X' : Cx), XOk G T nm call (fxB fx sc) X' E0 → PG X' tg (tG G t)) (ht : ∀ (X' : Cx), XOk G T nm call (fxB fx sc) X' E0 → PTs X' xifs (tT G E0 (evIf T call ifs))) (he : ∀ (X' : Cx), XOk G T nm call (fxB fx sc) X' E0 → PE X' elt (tE G E0 (evE T call e)))
    (hs : noSet iter = true) : PS X (.Assign [.Name y py] (.ListComp elt [⟨tg, iter, xifs, 0⟩] sc pos) spos) (tS G E (exS T call W (.asg (.nm i) (.lc e own t k its ifs)))) := by
  obtain ⟨hbk, hpg, hpt, hpe, fs⟩ := lc_parts O hi hb htg hg ht he hs
  simp only [lcLine, Bool.and_eq_true, Bool.not_eq_true'] at hline
  refine (ps_setLc O.calm O.nd (i := i) (by rw [O.N]; exact hy) (by rw [O.names]; exact hl) (sw_true O.kind (by rw [O.names]; exact hl) hline.1 hline.2) hi hbk hpg hpt hpe fs).imp fun D σ H ⟨as, ρ, h, S, R, o⟩ => ?_
  simp only [exS, asgTa, Res.bind_ok] at o
  refine lc_core' O hi hb htg hg ht he hs σ H _ ⟨as, ρ, h, S, R, Ok.bind o fun v h1 as1 H1 v' f1 r1 o1 => ?_⟩
  exact o1 as1 H1 (.nx _) (Fut.refl f1.sr) ((R.fut f1).set i r1)
end
end Mn
set_option Elab.async false
set_option linter.all false
set_option maxRecDepth 100000
set_option maxHeartbeats 4000000
namespace Mn
open PySem PySem.Spec L2 PyProof.Rows
section
variable {G : Gm} {T : Tb} {nm : Nm} {call : Nat → List PV → PH → Res PV} {fx : Fx} {X : Cx} {E : XK} {W : Nat}
def rSet (G : Gm) : TSet := fun o i v H Q => ∃ as h x y z h', SR G as H h ∧ RepV G as H x o ∧ RepV G as H y i ∧ RepV G as H z v ∧ pSet x y z h = some h' ∧ ∀ H', Fut G as H as H' h' → Q H'
theorem keyOf_ok {y : PV} {k : Key} {as : List Addr} {H : Hp} {v : V} (e : keyOf y = some k) (r : RepV G as H y v) : v = kV k := by
  cases y with
  | int i => cases e; rw [r.intE]; rfl
  | str x => cases e; rw [r.strE]; rfl
  | _ => cases e
theorem set_all (hu : X.A.units + 70 < cLine) : PSet X (rSet G) := by
  intro pins s σ H o i v ov iv u Q I ro ri rv h
  obtain ⟨as, h, x, y, z, h', S, rx, ry, rz, e, q⟩ := h
  cases x with
  | ref l =>
    obtain ⟨a, ea, rfl⟩ := rx.refE
    simp only [pSet] at e
    split at e
    · rename_i xs q1
      split at e
      · rename_i j
        split at e
        · rename_i m qm
          cases e
          obtain ⟨vs, e1, rl⟩ := S.lstM q1 ea
          obtain rfl := ry.intE
          exact set_list pins s σ H _ _ v ov iv u Q I ro ri rv ⟨a, vs, j, m, rfl, rfl, e1, by rw [← rl.length]; exact qm, q _ (S.setL ea e1 (rl.set m rz))⟩
        · cases e
      · cases e
    · rename_i kvs q1
      split at e
      · rename_i k qk
        split at e
        · rename_i hl
          cases e
          obtain ⟨ks, ed, rk⟩ := S.dic q1 ea
          obtain rfl := keyOf_ok qk ry
          have hl2 : ks.length = kvs.length := by
            clear q hl q1 ed
            induction kvs generalizing ks with
            | nil => unfold RepK at rk; subst rk; rfl
            | cons p r ih =>
              obtain ⟨k', x'⟩ := p
              unfold RepK at rk
              obtain ⟨v', r', rfl, _, r2⟩ := rk
              simp [ih _ r2]
          refine set_dict (by omega) pins s σ H _ _ v ov iv u Q I ro ri rv ⟨a, _, rfl, DPut.k ed (by rw [hl2]; exact hl), q _ (S.setD ea ed (dPut_ok rk rz))⟩
        · cases e
      · cases e
    · cases e
  | _ => cases e
theorem noSwapIx {e o i : Expr} {l : Nat} {env : Env} {p : Pos} : swapsWithSole [.Subscript o i p] e l env = pure false := by cases e <;> rfl
theorem noStoresIx {e o i : Expr} {env : Env} {p : Pos} : swappedStores [.Subscript o i p] e env = pure none := by cases e <;> rfl
theorem okS_ix (O : XOk G T nm call fx X E) {e o i : Ex} {x xo xi : Expr} {p p2 : Pos} (hy : isSlice xi = false) (he : PE X x (tE G E (evE T call e))) (ho : PE X xo (tE G E (evE T call o))) (hi : PE X xi (tE G E (evE T call i))) :
    PS X (.Assign [.Subscript xo xi p2] x p) (tS G E (exS T call W (.asg (.ix o i) e))) := by
  refine (ps_asg he (pg_sub ho hi (set_all (G := G) O.hu) (fun v => by cases xi <;> first | rfl | cases hy)) noSwapIx noStoresIx).imp fun D σ H ⟨as, ρ, h, S, R, q⟩ => ?_
  simp only [exS, asgTa, Res.bind_assoc] at q
  refine ⟨as, ρ, h, S, R, Ok.bind q fun v h1 as1 H1 v' f1 r1 q1 => ⟨as1, ρ, h1, f1.sr, R.fut f1, Ok.bind q1 fun w h2 as2 H2 w' f2 r2 q2 => ⟨as2, ρ, h2, f2.sr, (R.fut f1).fut f2, Ok.bind q2 fun k h3 as3 H3 k' f3 r3 q3 => ?_⟩⟩⟩
  split at q3
  · rename_i h4 q4
    refine ⟨as3, h3, w, k, v, h4, f3.sr, r2.fut f3, r3, (r1.fut f2).fut f3, q4, fun H' f4 => ?_⟩
    simp only [Res.bind_ok] at q3
    exact q3 as3 H' (.nx σ) f4 (((R.fut f1).fut f2).fut f3 |>.fut f4)
  · exact False.elim q3
def swNone : Expr → Bool
  | .Tuple vs _ _ => vs.all (foldedForSure 8)
  | _ => true
theorem swNone_ok {ts : List Expr} {k : Nat} {p : Pos} {x : Expr} {env : Env} (h : swNone x = true) : swappedStores [.Tuple ts k p] x env = pure none := by
  cases x with
  | Tuple vs kk pp =>
    have hf : vs.all (foldedForSure 8) = true := h
    unfold swappedStores
    dsimp only
    rw [hf]
    split
    · rfl
    · split
      · rfl
      · split
        · rfl
        · rfl
  | _ => rfl
def swNo (names : List (Str × NameKind)) (ts : List Expr) (x : Expr) : Bool := swNone x || !(ts.length == 2 || ts.length == 3) || ts.any fun e => match e with
  | .Name id _ => !decide (names.lookup id = some .local)
  | _ => false
theorem filterMap_lt {α β : Type} {f : α → Option β} : ∀ {l : List α} {a : α}, a ∈ l → f a = none → (l.filterMap f).length < l.length
  | b :: r, a, h, e => by
    have hr : ∀ (l : List α), (l.filterMap f).length ≤ l.length := fun l => List.length_filterMap_le f l
    rcases List.mem_cons.mp h with q | h
    · rw [← q, List.filterMap_cons, e]
      exact Nat.lt_succ_of_le (hr r)
    · rw [List.filterMap_cons]
      have ih := filterMap_lt h e
      cases f b with
      | none => exact Nat.lt_succ_of_lt ih
      | some y => exact Nat.succ_lt_succ ih
theorem swNo_ok {ts : List Expr} {k : Nat} {p : Pos} {x : Expr} {env : Env} (h : swNo env.scope.names ts x = true) : swappedStores [.Tuple ts k p] x env = pure none := by
  unfold swNo at h
  simp only [Bool.or_eq_true] at h
  rcases h with (h | h) | h
  · exact swNone_ok h
  · cases x with
    | Tuple vs kk pp =>
      unfold swappedStores
      dsimp only
      have h2 : (ts.length == 2 || ts.length == 3) = false := by simpa using h
      rw [h2]
      rfl
    | _ => rfl
  · obtain ⟨e, he, q⟩ := List.any_eq_true.mp h
    cases x with
    | Tuple vs kk pp =>
      unfold swappedStores
      dsimp only
      split
      · rfl
      · split
        · rfl
        · generalize hf : List.filterMap _ ts = ns
          have hl : ns.length < ts.length := by
            rw [← hf]
            refine filterMap_lt he ?_
            cases e with
            | Name id pos =>
              have q2 : env.scope.names.lookup id ≠ some .local := by simpa using q
              have q3 : (env.kindOf id == some NameKind.local) = false := beq_eq_false_iff_ne.mpr q2
              simp only [q3, Bool.false_and, Bool.false_eq_true, if_false]
            | _ => cases q
          have h3 : (ns.length != ts.length) = true := by simp; omega
          rw [h3]
          rfl
    | _ => rfl
theorem noSwapTp {x : Expr} {ts : List Expr} {k l : Nat} {p : Pos} {env : Env} : swapsWithSole [.Tuple ts k p] x l env = pure false := by cases x <;> rfl
def tGL (G : Gm) (is : List Nat) : TG := fun v σ H Q => ∃ as ρ h l xs, SR G as H h ∧ RepE G as H ρ σ ∧ RepV G as H (.ref l) v ∧ lstAt h l = some xs ∧ xs.length = is.length ∧ ∀ σ', RepE G as H ((is.zip xs).foldl (fun r q => r.set q.1 (some q.2)) ρ) σ' → Q σ' H
theorem okG_tpL (O : XOk G T nm call fx X E) {is : List Nat} {es : List Expr} {kk : Nat} {pos : Pos} (h : chkNms fx is es = true) : PG X (.Tuple es kk pos) (tGL G is) := by
  obtain ⟨g, l, f⟩ := okG_names O h
  refine ⟨fun pins s σ H v u Q I r ⟨as, ρ, hh, l', xs, S, R, rx, el, hl, k⟩ => (pg_unl O.calm g l f).run pins s σ H v u Q I r ?_⟩
  obtain ⟨a, ea, rfl⟩ := rx.refE
  obtain ⟨vs, sl, rv⟩ := S.lst el ea
  exact ⟨a, vs, rfl, by rw [O.K]; exact sl, by rw [← rv.length]; exact hl, by rw [← rv.length]; exact hl, k _ (foldl_set_ok R rv)⟩
theorem PG.or {e : Expr} {a b : TG} (ha : PG X e a) (hb : PG X e b) : PG X e (fun v σ H Q => a v σ H Q ∨ b v σ H Q) := ⟨fun pins s σ H v u Q I r q => q.elim (ha.run pins s σ H v u Q I r) (hb.run pins s σ H v u Q I r)⟩
theorem okS_tp (O : XOk G T nm call fx X E) {e : Ex} {is : List Nat} {x : Expr} {ts : List Expr} {k : Nat} {p p2 : Pos} (hs : swNo fx.names ts x = true) (ht : chkNms fx is ts = true) (he : PE X x (tE G E (evE T call e))) :
    PS X (.Assign [.Tuple ts k p2] x p) (tS G E (exS T call W (.asg (.tp is) e))) := by
  refine (ps_asg he (PG.or (okG_tg (G := G) (T := T) (nm := nm) (call := call) (E := E) O (t := .tp is) (e := .Tuple ts k p2) ht) (okG_tpL (G := G) (T := T) (nm := nm) (call := call) (E := E) O ht)) noSwapTp (swNo_ok (by rw [O.names]; exact hs))).imp fun D σ H ⟨as, ρ, h, S, R, q⟩ => ?_
  simp only [exS, asgTa] at q
  refine ⟨as, ρ, h, S, R, Ok.bind q fun v h1 as1 H1 v' f1 r1 q1 => ?_⟩
  split at q1
  · rename_i ρ1 qb
    refine .inl ⟨as1, ρ, h1, v, ρ1, f1.sr, R.fut f1, r1, qb, fun σ' R' _ => ?_⟩
    exact q1 as1 H1 (.nx σ') (Fut.refl f1.sr) R'
  · split at q1
    · rename_i ρ1 qb
      unfold bindL at qb
      split at qb
      · split at qb
        · split at qb
          · cases qb
            rename_i l _ _ xs el hl
            exact .inr ⟨as1, ρ, h1, l, xs, f1.sr, R.fut f1, r1, el, hl, fun σ' R' => q1 as1 H1 (.nx σ') (Fut.refl f1.sr) R'⟩
          · cases qb
        · cases qb
      · cases qb
    · exact False.elim q1
def locB (names : List (Str × NameKind)) (x : Str) : Bool := match names.lookup x with
  | some .local => true
  | _ => false
theorem locB_ok {names : List (Str × NameKind)} {x : Str} (h : locB names x = true) : names.lookup x = some .local := by
  unfold locB at h
  split at h
  · rename_i q; exact q
  · cases h
def par2B (names : List (Str × NameKind)) (x y : Str) (px py : Pos) (a b : Expr) : Bool := locB names x && locB names y && decide (x ≠ y) && (py.line == px.line) && !isStar a && !isStar b && !(foldedForSure 8 a && foldedForSure 8 b) && !(constantsAlone 8 a && constantsAlone 8 b)
theorem bk_fn {env : Env} (h : env.scope.kind = .function) : env.blockKind = .function := by
  unfold Env.blockKind
  rw [h]
  rfl
theorem par2_ok {env : Env} {x y : Str} {px py p p2 : Pos} {k k2 : Nat} {a b : Expr} (hk : env.scope.kind = .function) (h : par2B env.scope.names x y px py a b = true) : swappedStores [.Tuple [.Name x px, .Name y py] k p] (.Tuple [a, b] k2 p2) env = pure (some [x, y]) := by
  unfold par2B at h
  simp only [Bool.and_eq_true, Bool.not_eq_true', decide_eq_true_eq] at h
  obtain ⟨⟨⟨⟨⟨⟨⟨h1, h2⟩, h3⟩, h4⟩, h5⟩, h6⟩, h7⟩, h8⟩ := h
  have k1 : env.kindOf x = some .local := locB_ok h1
  have k2 : env.kindOf y = some .local := locB_ok h2
  have hb := bk_fn hk
  have ha : ([a, b].any fun e => match e with | .Starred .. => true | _ => false) = false := by
    have q : ∀ e : Expr, isStar e = false → (match e with | .Starred .. => true | _ => false) = false := fun e he => by cases e <;> first | rfl | cases he
    simp only [List.any_cons, List.any_nil, q a h5, q b h6, Bool.or_false]
  have hf : [a, b].all (foldedForSure 8) = false := by simpa using h7
  have hc : [a, b].all (constantsAlone 8) = false := by simpa using h8
  have ed : [x, y].eraseDups.length = 2 := by
    rw [List.eraseDups_cons]
    have : [y].filter (fun b => !b == x) = [y] := by
      have hyx : (y == x) = false := by
        rw [beq_eq_false_iff_ne]
        exact fun z => h3 z.symm
      simp [hyx]
    rw [this]
    rfl
  have hb2 : (env.blockKind != ScopeKind.function) = false := by rw [hb]; rfl
  have l1 : (px.line == px.line) = true := by simp
  unfold swappedStores
  dsimp only
  simp only [hb2]
  generalize hA : List.any [a, b] _ = A
  have eA : A = false := by rw [← hA]; exact ha
  generalize hN : List.filterMap _ [Expr.Name x px, Expr.Name y py] = N
  have eN : N = [x, y] := by
    rw [← hN]
    simp only [List.filterMap_cons, List.filterMap_nil, k1, k2, List.head?, Option.map, Option.getD, Expr.pos, h4, l1]
    rfl
  rw [eA, eN, hf, hc]
  simp only [ed]
  rfl
end
end Mn
set_option Elab.async false
set_option linter.all false
set_option maxRecDepth 100000
set_option maxHeartbeats 4000000
namespace Mn
open PySem PySem.Spec L2 PyProof.Rows
section
variable {G : Gm} {T : Tb} {nm : Nm} {call : Nat → List PV → PH → Res PV} {fx : Fx} {X : Cx} {E : XK} {W : Nat}
theorem Ok.bind_call {f : Nat} {np : Nat} {as : List Addr} {H : Hp} {Q : V → Hp → Prop} {vs : List PV} {h : PH} {xs : List V} (ar : ∀ xs h, xs.length ≠ np → call f xs h = .stuck) (S : SR G as H h) (r : RepVs G as H vs xs) (o : OkV G E as H Q (call f vs h)) : spF G call f np xs H Q E := by
  by_cases hl : vs.length = np
  · exact ⟨by rw [← r.length]; exact hl, as, h, vs, S, r, o⟩
  · rw [ar vs h hl] at o
    exact False.elim o
theorem okE_call (O : XOk G T nm call fx X E) {g f : Nat} {es : List Ex} {x : Str} {y : Expr} {ys : List Expr} {p pos : Pos} (hg : nm.gn[g]? = some x) (hf : T.glob[g]? = some (.fn f)) (hb : glB fx.names x = true) (hp : plainName x = true)
    (hx : isStar y = false) (hxs : ys.all (fun x => !isStar x) = true) (ha : PA X (y :: ys) (tA G E (evEs T call es))) : PE X (.Call (.Name x p) (y :: ys) [] pos) (tE G E (evE T call (.call g es))) := by
  obtain ⟨k, fd, ps, F, hr, hk, hbd, hm, ar, _⟩ := O.fns g x f hg hf
  refine (pe_call F hr (gl_ok O hb) hm hk hbd .nil O.pass ha (plain_ok hp).1 (star_cons hx) (noStars hxs)).imp fun σ H Q ⟨as, ρ, h, S, R, o⟩ => ?_
  simp only [evE, hf, callG] at o
  refine ⟨as, ρ, h, S, R, Ok.bind o fun vs h1 as1 H1 vs' f1 r1 o1 => ?_⟩
  rw [List.append_nil]
  exact Ok.bind_call ar f1.sr r1 o1
theorem okE_call0 (O : XOk G T nm call fx X E) {g f : Nat} {x : Str} {p pos : Pos} (hg : nm.gn[g]? = some x) (hf : T.glob[g]? = some (.fn f)) (hb : glB fx.names x = true) (hp : plainName x = true) :
    PE X (.Call (.Name x p) [] [] pos) (tE G E (evE T call (.call g []))) := by
  obtain ⟨k, fd, ps, F, hr, hk, hbd, hm, ar, _⟩ := O.fns g x f hg hf
  refine (pe_call0 F hr (gl_ok O hb) hm hk hbd .nil O.pass (plain_ok hp).1).imp fun σ H Q ⟨as, ρ, h, S, R, o⟩ => ?_
  simp only [evE, hf, callG, evEs, Res.bind_ok] at o
  show spF G call f ps.length ([] ++ []) H Q E
  exact Ok.bind_call ar S .nil o
theorem noBase {o : Expr} {m : Str} {env : Env} (h : o.pos = o.pos) : True := trivial
def notCall : Expr → Bool
  | .Call .. => false
  | _ => true
theorem few_ok {xs : List Expr} {env : Env} {pos : Pos} (h : xs.all (fun x => !isStar x) = true) (hl : xs.length < 29) :
    ((backTo pos (starEach xs env)).all (fun x => !x.1) && (backToKw pos (keywordEach [] env)).all (fun x => x.1.isSome) && decide (xs.length + ([] : List Keyword).length + (if ([] : List Keyword).isEmpty then 0 else 1) < 30)) = true := by
  have h1 : (backTo pos (starEach xs env)).all (fun x => !x.1) = true := by
    clear hl
    induction xs with
    | nil => rfl
    | cons x xs ih =>
      simp only [List.all_cons, Bool.and_eq_true, Bool.not_eq_true'] at h
      rw [star_cons h.1]
      show (!false && (backTo pos (starEach xs env)).all (fun x => !x.1)) = true
      rw [ih h.2]
      rfl
  rw [h1]
  have h2 : (backToKw pos (keywordEach [] env)).all (fun x => x.1.isSome) = true := rfl
  rw [h2]
  simp only [List.length_nil, List.isEmpty_nil, if_true, Bool.true_and, decide_eq_true_eq]
  omega
def tMB (X : Cx) (name : Str) (to : TE) (t : TA) : TE := fun σ H Q => to σ H fun x H1 => ∃ (TT id : String) (r : V → List V → Hp → VK → Prop), PlainAttrs TT ∧ Slot TT name id ∧ typeOf (.builtin id) = pure (.type "method_descriptor") ∧ MtR X id r ∧ tyV X.K TT x H1 ∧ t σ H1 fun xs H2 => r x xs H2 Q
theorem pe_mtB {o e : Expr} {es : List Expr} {to : TE} {t : TA} {name : Str} {apos cpos : Pos} (ho : PE X o to) (ha : PA X (e :: es) t) (hbase : attributeBase o name X.env (eval o X.env) = eval o X.env)
    (hxs : (e :: es).all (fun x => !isStar x) = true) (hl : (e :: es).length < 29) (hline : (apos.endLine == cpos.line) = true) : PE X (.Call (.Attribute o name apos) (e :: es) [] cpos) (tMB X name to t) := by
  refine ⟨fun pins s σ H Q I h => ?_⟩
  refine wpAny_Call_method_late hbase (few_ok hxs hl) hline rfl (thn (ho.run pins s σ H _ I h) fun v s1 ⟨x, H1, I1, r1, TT, id, r, pa, slot, hty, hm, ty, q1⟩ => ?_)
  obtain ⟨h1, h2⟩ := tyV_is I1 r1 ty
  refine ⟨TT, id, pa, slot, hty, h1, h2, ?_⟩
  have hA := ha.run cpos pins s1 σ H1 _ I1 q1
  simp only [List.all_cons, Bool.and_eq_true, Bool.not_eq_true'] at hxs
  rw [star_cons hxs.1] at hA ⊢
  refine Calls.callWith_builtin (by show (false || (backTo cpos (starEach es X.env)).any (·.1)) = false; rw [noStars hxs.2] <;> rfl) (Calls.evalArgs_plain ?_)
  exact thn hA fun us s2 ⟨vs, H2, I2, r2, q2⟩ => hm pins s2 σ H2 x vs v us Q I2 r1 r2 q2
def tMB0 (X : Cx) (name : Str) (to : TE) : TE := fun σ H Q => to σ H fun x H1 => ∃ (TT id : String) (r : V → List V → Hp → VK → Prop), PlainAttrs TT ∧ Slot TT name id ∧ typeOf (.builtin id) = pure (.type "method_descriptor") ∧ MtR X id r ∧ tyV X.K TT x H1 ∧ r x [] H1 Q
theorem pe_mtB0 {o : Expr} {to : TE} {name : Str} {apos cpos : Pos} (ho : PE X o to) (hbase : attributeBase o name X.env (eval o X.env) = eval o X.env) (hline : (apos.endLine == cpos.line) = true) : PE X (.Call (.Attribute o name apos) [] [] cpos) (tMB0 X name to) := by
  refine ⟨fun pins s σ H Q I h => ?_⟩
  refine wpAny_Call_method0_late hbase hline (thn (ho.run pins s σ H _ I h) fun v s1 ⟨x, H1, I1, r1, TT, id, r, pa, slot, hty, hm, ty, q1⟩ => ?_)
  obtain ⟨h1, h2⟩ := tyV_is I1 r1 ty
  exact ⟨TT, id, pa, slot, hty, h1, h2, Calls.callWith_builtin rfl (PySem.evalArgs_none (hm pins s1 σ H1 x [] v [] Q I1 r1 .nil q1))⟩
def notNone : Bm → Bool
  | .none => false
  | _ => true
theorem evE_mt {m : Nat} {b : Bm} {o : Ex} {es : List Ex} (hb : notNone b = true) (ρ : PEnv) (h : PH) : evE T call (.mt m b o es) ρ h = (evE T call o ρ h).bind fun v h1 => match Bq.of b (kindAt h1 v) with
      | some q => (evEs T call es ρ h1).bind fun vs h2 => pBq q v vs h2
      | none => .stuck := by cases b <;> first | rfl | cases hb
theorem okE_mt (O : XOk G T nm call fx X E) {m : Nat} {b : Bm} {o : Ex} {es : List Ex} {xo y : Expr} {ys : List Expr} {apos pos : Pos} (hb : notNone b = true) (ho : PE X xo (tE G E (evE T call o))) (ha : PA X (y :: ys) (tA G E (evEs T call es)))
    (hbase : attributeBase xo b.nm X.env (eval xo X.env) = eval xo X.env) (hxs : (y :: ys).all (fun x => !isStar x) = true) (hl : (y :: ys).length < 29) (hline : (apos.endLine == pos.line) = true) :
    PE X (.Call (.Attribute xo b.nm apos) (y :: ys) [] pos) (tE G E (evE T call (.mt m b o es))) := by
  refine (pe_mtB ho ha hbase hxs hl hline).imp fun σ H Q ⟨as, ρ, h, S, R, o⟩ => ?_
  rw [evE_mt hb] at o
  refine ⟨as, ρ, h, S, R, Ok.bind o fun v h1 as1 H1 v' f1 r1 o1 => ?_⟩
  split at o1
  · rename_i q qe
    refine ⟨q.T, q.id, rMq G E q, bq_plain q, bq_slot qe, bq_ty q, mt_bq O.K O.hu q, kind_ty O.K f1.sr qe r1, as1, ρ, h1, f1.sr, R.fut f1, Ok.bind o1 fun vs h2 as2 H2 vs' f2 r2 o2 => ?_⟩
    exact ⟨as2, h2, v, vs, f2.sr, r1.fut f2, r2, o2⟩
  · exact False.elim o1
theorem okE_mt0 (O : XOk G T nm call fx X E) {m : Nat} {b : Bm} {o : Ex} {xo : Expr} {apos pos : Pos} (hb : notNone b = true) (ho : PE X xo (tE G E (evE T call o))) (hbase : attributeBase xo b.nm X.env (eval xo X.env) = eval xo X.env) (hline : (apos.endLine == pos.line) = true) :
    PE X (.Call (.Attribute xo b.nm apos) [] [] pos) (tE G E (evE T call (.mt m b o []))) := by
  refine (pe_mtB0 ho hbase hline).imp fun σ H Q ⟨as, ρ, h, S, R, o⟩ => ?_
  rw [evE_mt hb] at o
  refine ⟨as, ρ, h, S, R, Ok.bind o fun v h1 as1 H1 v' f1 r1 o1 => ?_⟩
  split at o1
  · rename_i q qe
    simp only [evEs, Res.bind_ok] at o1
    exact ⟨q.T, q.id, rMq G E q, bq_plain q, bq_slot qe, bq_ty q, mt_bq O.K O.hu q, kind_ty O.K f1.sr qe r1, as1, h1, v, [], f1.sr, r1, .nil, o1⟩
  · exact False.elim o1
end
end Mn
set_option Elab.async false
set_option linter.all false
set_option maxRecDepth 100000
set_option maxHeartbeats 4000000
namespace Mn
open PySem PySem.Spec L2 PyProof.Rows
def baseB : Expr → Bool
  | .Call (.Name ..) [] [] _ => false
  | _ => true
theorem base_ok {o : Expr} {m : Str} {env : Env} {w : Sem Value} (h : baseB o = true) : attributeBase o m env w = w := by
  unfold attributeBase
  split
  · cases h
  · rfl
section
variable {G : Gm} {T : Tb} {nm : Nm} {call : Nat → List PV → PH → Res PV} {fx : Fx} {X : Cx} {E : XK} {W : Nat}
theorem noStarE {e : Ex} (h : (match e with | .star _ => false | _ => true) = true) : ∀ x, e ≠ .star x := fun x e => by subst e; cases h
theorem okS_par2 (O : XOk G T nm call fx X E) {es : List Ex} {i j : Nat} {x y : Str} {px py p p2 pos : Pos} {k k2 : Nat} {a b : Expr} (hi : fx.N[i]? = some x) (hj : fx.N[j]? = some y) (hp : par2B fx.names x y px py a b = true) (ha : PA X [a, b] (tA G E (evEs T call es))) :
    PS X (.Assign [.Tuple [.Name x px, .Name y py] k p] (.Tuple [a, b] k2 p2) pos) (tS G E (exS T call W (.asg (.tp [i, j]) (.tup es)))) := by
  have hp2 := hp
  unfold par2B at hp2
  simp only [Bool.and_eq_true, Bool.not_eq_true', decide_eq_true_eq] at hp2
  obtain ⟨⟨⟨⟨⟨⟨⟨h1, h2⟩, h3⟩, _⟩, _⟩, _⟩, _⟩, _⟩ := hp2
  have hij : i ≠ j := fun e => by subst e; rw [hi] at hj; exact h3 (Option.some.inj hj)
  refine (ps_par (i := i) (j := j) O.calm O.nd (by rw [O.N]; exact hi) (by rw [O.N]; exact hj) hij (by rw [O.names]; exact locB_ok h1) (by rw [O.names]; exact locB_ok h2) ha (par2_ok O.kind (by rw [O.names]; exact hp))).imp fun D σ H ⟨as, ρ, h, S, R, o⟩ => ?_
  simp only [exS, evE, Res.bind_assoc] at o
  refine ⟨as, ρ, h, S, R, Ok.bind o fun vs h1 as1 H1 vs' f1 r1 o1 => ?_⟩
  split at o1
  · rename_i hl
    simp only [Res.bind_ok, asgTa, bindTg] at o1
    split at o1
    · rename_i ρ1 qb
      split at qb
      · rename_i hl2
        cases qb
        have hlen : vs.length = 2 := by simpa using hl2
        match vs, hlen, r1, o1 with
        | [v, w], _, r1, o1 =>
          obtain ⟨v', w', rfl, rv, rw'⟩ := r1.two
          refine ⟨v', w', rfl, ?_⟩
          have R1 := ((R.fut f1).set i rv).set j rw'
          exact o1 as1 H1 (.nx _) (Fut.refl f1.sr) R1
      · cases qb
    · exact False.elim o1
  · exact False.elim o1
def rMulA : V → V → Hp → VK → Prop := fun x y H Q => ∃ i j : Int, x = .int i ∧ y = .int j ∧ CMulW i j ∧ Q (.int (i * j)) H
theorem in_mulA : InOp X .Mult rMulA := by
  rintro pins s σ H x y u v Q I rx ry ⟨i, j, rfl, rfl, hc, q⟩
  obtain ⟨t, rfl⟩ := (show ∃ t, u = Value.int i t from rx)
  obtain ⟨t', rfl⟩ := (show ∃ t', v = Value.int j t' from ry)
  exact PyProof.Rows.imul_int ⟨.int (i * j), H, I.tok _, ⟨_, rfl⟩, q⟩ hc.ok
theorem okS_aug (O : XOk G T nm call fx X E) {op : Bop} {i : Nat} {e : Ex} {x : Str} {y : Expr} {px p : Pos} (hop : op = .add ∨ op = .sub ∨ op = .mul) (ht : chkNm fx i (.Name x px) = true) (he : PE X y (tE G E (evE T call e))) :
    PS X (.AugAssign (.Name x px) op.py y p) (tS G E (exS T call W (.aug (.nm i) op e))) := by
  simp only [chkNm, Bool.and_eq_true, decide_eq_true_eq, List.contains_iff_mem] at ht
  obtain ⟨l, f⟩ := O.st x ht.2
  rcases hop with rfl | rfl | rfl
  · refine (ps_aug (i := i) O.nd (by rw [O.N]; exact ht.1) l he (op := .Add) (ti := rAdd) (fun pins s σ H x y v u Q I rx ry h => in_add pins s σ H x y v u Q I rx ry h) f).imp fun D σ H ⟨as, ρ, h, S, R, o⟩ => ?_
    simp only [exS] at o
    split at o
    · rename_i v q
      obtain ⟨v', e', rv⟩ := R.2 i v q
      refine ⟨v', e', as, ρ, h, S, R, Ok.bind o fun w h1 as1 H1 w' f1 r1 o1 => ?_⟩
      cases v with
      | int a =>
        cases w with
        | int b =>
          obtain rfl := rv.intE
          obtain rfl := r1.intE
          exact ⟨_, _, rfl, rfl, o1 as1 H1 (.nx _) (Fut.refl f1.sr) ((R.fut f1).set i (.int _))⟩
        | _ => exact False.elim o1
      | _ => exact False.elim o1
    · exact False.elim o
  · refine (ps_aug (i := i) O.nd (by rw [O.N]; exact ht.1) l he (op := .Sub) (ti := rSub) (fun pins s σ H x y v u Q I rx ry h => in_sub pins s σ H x y v u Q I rx ry h) f).imp fun D σ H ⟨as, ρ, h, S, R, o⟩ => ?_
    simp only [exS] at o
    split at o
    · rename_i v q
      obtain ⟨v', e', rv⟩ := R.2 i v q
      refine ⟨v', e', as, ρ, h, S, R, Ok.bind o fun w h1 as1 H1 w' f1 r1 o1 => ?_⟩
      cases v with
      | int a =>
        cases w with
        | int b =>
          obtain rfl := rv.intE
          obtain rfl := r1.intE
          exact ⟨_, _, rfl, rfl, o1 as1 H1 (.nx _) (Fut.refl f1.sr) ((R.fut f1).set i (.int _))⟩
        | _ => exact False.elim o1
      | _ => exact False.elim o1
    · exact False.elim o
  · refine (ps_aug (i := i) O.nd (by rw [O.N]; exact ht.1) l he (op := .Mult) (ti := rMulA) (fun pins s σ H x y v u Q I rx ry h => in_mulA pins s σ H x y v u Q I rx ry h) f).imp fun D σ H ⟨as, ρ, h, S, R, o⟩ => ?_
    simp only [exS] at o
    split at o
    · rename_i v q
      obtain ⟨v', e', rv⟩ := R.2 i v q
      refine ⟨v', e', as, ρ, h, S, R, Ok.bind o fun w h1 as1 H1 w' f1 r1 o1 => ?_⟩
      cases v with
      | int a =>
        cases w with
        | int b =>
          obtain rfl := rv.intE
          obtain rfl := r1.intE
          dsimp only at o1
          split at o1
          · rename_i hb
            exact ⟨_, _, rfl, rfl, (show _ < 1000000 from of_decide_eq_true hb), o1 as1 H1 (.nx _) (Fut.refl f1.sr) ((R.fut f1).set i (.int _))⟩
          · exact False.elim o1
        | _ => exact False.elim o1
      | _ => exact False.elim o1
    · exact False.elim o
end
end Mn
set_option Elab.async false
set_option linter.all false
set_option maxRecDepth 100000
set_option maxHeartbeats 1000000
namespace Mn
open PySem PySem.Spec L2 PyProof.Rows
section
variable {G : Gm} {as as' : List Addr} {H H' : Hp} {h h' : PH}
theorem an_inj (nd : G.an.Nodup) {f g : Nat} {n : Str} (e1 : G.an[f]? = some n) (e2 : G.an[g]? = some n) : f = g := by
  obtain ⟨h1, q1⟩ := List.getElem?_eq_some_iff.mp e1
  obtain ⟨h2, q2⟩ := List.getElem?_eq_some_iff.mp e2
  exact (List.getElem_inj nd).mp (q1.trans q2.symm)
theorem RepF.there (nd : G.an.Nodup) {f : Nat} {x : PV} : ∀ {fs : List (Nat × PV)} {gs : List (Str × V)}, RepF G as H fs gs → fs.lookup f = some x → ∃ n v, G.an[f]? = some n ∧ gs.lookup n = some v ∧ RepV G as H x v
  | [], _, _, e => by cases e
  | (g, y) :: r, gs, q, e => by
    unfold RepF at q
    obtain ⟨n, v, gs', rfl, en, rv, rr⟩ := q
    rw [List.lookup_cons] at e
    by_cases hg : f = g
    · subst hg
      rw [beq_self_eq_true] at e
      cases e
      exact ⟨n, v, en, by rw [List.lookup_cons, beq_self_eq_true], rv⟩
    · rw [beq_eq_false_iff_ne.mpr hg] at e
      obtain ⟨m, w, em, lw, rw'⟩ := RepF.there nd rr e
      refine ⟨m, w, em, ?_, rw'⟩
      have hm : (m == n) = false := beq_eq_false_iff_ne.mpr fun z => hg (an_inj nd em (z ▸ en))
      rw [List.lookup_cons, hm]
      exact lw
theorem RepF.gone (nd : G.an.Nodup) {f : Nat} {n : Str} (hn : G.an[f]? = some n) : ∀ {fs : List (Nat × PV)} {gs : List (Str × V)}, RepF G as H fs gs → fs.lookup f = none → gs.lookup n = none
  | [], _, q, _ => by unfold RepF at q; subst q; rfl
  | (g, y) :: r, gs, q, e => by
    unfold RepF at q
    obtain ⟨m, v, gs', rfl, en, rv, rr⟩ := q
    rw [List.lookup_cons] at e
    by_cases hg : f = g
    · subst hg
      rw [beq_self_eq_true] at e
      cases e
    · rw [beq_eq_false_iff_ne.mpr hg] at e
      have hm : (n == m) = false := beq_eq_false_iff_ne.mpr fun z => hg (an_inj nd hn (z ▸ en))
      rw [List.lookup_cons, hm]
      exact RepF.gone nd hn rr e
theorem RepF.len : ∀ {fs : List (Nat × PV)} {gs : List (Str × V)}, RepF G as H fs gs → gs.length = fs.length
  | [], _, q => by unfold RepF at q; subst q; rfl
  | (g, y) :: r, gs, q => by
    unfold RepF at q
    obtain ⟨m, v, gs', rfl, en, rv, rr⟩ := q
    simp [RepF.len rr]
theorem RepF.cons {f : Nat} {n : Str} {x : PV} {v : V} {fs : List (Nat × PV)} {gs : List (Str × V)} (hn : G.an[f]? = some n) (r : RepV G as H x v) (q : RepF G as H fs gs) : RepF G as H ((f, x) :: fs) ((n, v) :: gs) := by
  unfold RepF
  exact ⟨n, v, gs, rfl, hn, r, q⟩
theorem RepF.put (nd : G.an.Nodup) {f : Nat} {n : Str} {x : PV} {v : V} (hn : G.an[f]? = some n) (rx : RepV G as H x v) : ∀ {fs : List (Nat × PV)} {gs : List (Str × V)}, RepF G as H fs gs → RepF G as H (putN f x fs) (putF n v gs)
  | [], _, q => by
    unfold RepF at q
    subst q
    exact .cons hn rx (by unfold RepF; rfl)
  | (g, y) :: r, gs, q => by
    unfold RepF at q
    obtain ⟨m, w, gs', rfl, en, rv, rr⟩ := q
    unfold putN putF
    by_cases hg : g = f
    · subst hg
      have : m = n := Option.some.inj (en.symm.trans hn)
      rw [if_pos rfl, if_pos this, this]
      exact .cons hn rx rr
    · have : m ≠ n := fun z => hg (an_inj nd (z ▸ en) hn)
      rw [if_neg hg, if_neg this]
      exact .cons en rv (RepF.put nd hn rx rr)
theorem SR.insM (S : SR G as H h) {l c : Nat} {a : Addr} {fs : List (Nat × PV)} (e : h[l]? = some (.ins c fs)) (ea : as[l]? = some a) : ∃ dx gs, H a = some (.ins (G.ca c) dx gs) ∧ RepF G as H fs gs := S.at_ l _ a e ea
theorem SR.setI (S : SR G as H h) {l c : Nat} {a dx : Addr} {gs ws : List (Str × V)} {ys : List (Nat × PV)} (ea : as[l]? = some a) (e : H a = some (.ins (G.ca c) dx gs)) (r : RepF G as H ys ws) : Fut G as H as (upd H a (.ins (G.ca c) dx ws)) (h.set l (.ins c ys)) := by
  have k : Kp H (upd H a (.ins (G.ca c) dx ws)) := Kp.mut e (fun _ z => by cases z) (fun _ _ z => by cases z)
  exact S.set ea k ⟨dx, ws, upd_same, r.mono (List.prefix_refl _) k⟩
theorem SR.newI (S : SR G as H h) {x dx : Addr} {c : Nat} (hx : H x = none) (hd : H dx = none) (hne : dx ≠ x) :
    Fut G as H (as ++ [x]) (upd (upd H dx (.own x)) x (.ins (G.ca c) dx [])) (h ++ [.ins c []]) ∧ RepV G (as ++ [x]) (upd (upd H dx (.own x)) x (.ins (G.ca c) dx [])) (.ref h.length) (.ref x) := by
  have f1 := S.upd_free (o := .own x) hd
  have hx2 : upd H dx (.own x) x = none := by rw [upd_ne (Ne.symm hne)]; exact hx
  obtain ⟨f2, r⟩ := f1.sr.new (o := .ins c []) (ho := .ins (G.ca c) dx []) hx2 ⟨dx, [], upd_same, by unfold RepF; rfl⟩
  exact ⟨f1.trans f2, r⟩
end
section
variable {G : Gm} {T : Tb} {nm : Nm} {call : Nat → List PV → PH → Res PV} {fx : Fx} {X : Cx} {E : XK} {W : Nat}
theorem Ok.noer1 {α β : Type} {G : Gm} {E E' : XK} {as : List Addr} {H : Hp} {r : Res α} {rel : List Addr → Hp → α → β → Prop} {Q : β → Hp → Prop} (o : Ok G E as H rel Q r.noer) : Ok G E' as H rel Q r := by
  induction r with
  | ok v h1 => exact o
  | er x h1 => exact False.elim o
  | stuck => exact o
  | all n f ih => exact fun i hi => ih i (o i hi)
theorem attK_cls {c f : Nat} {q : Option Nat} (e : attK T c f = some q) : ∃ ci, T.cls[c]? = some ci ∧ ci.meths.lookup f = none ∧ ci.props.lookup f = q := by
  unfold attK at e
  obtain ⟨ci, e1, e2⟩ := Option.bind_eq_some_iff.mp e
  refine ⟨ci, e1, ?_⟩
  split at e2
  · cases e2
  · rename_i z
    exact ⟨z, Option.some.inj e2⟩
theorem cls_lt {c : Nat} {ci : Ci} (e : T.cls[c]? = some ci) : c < T.cls.length := (List.getElem?_eq_some_iff.mp e).1
theorem fld_ok (O : XOk G T nm call fx X E) {as : List Addr} {H : Hp} {h : PH} {f : Nat} {n : Str} {v : PV} {x : V} {Q : VK} (hn : nm.an[f]? = some n) (S : SR G as H h) (r : RepV G as H v x) (o : OkV G E as H Q (fldOf T f v h)) :
    ∃ a C dx fs w, x = .ref a ∧ H a = some (.ins C dx fs) ∧ Cls X.K C ∧ NoAttr X.K C n ∧ fs.lookup n = some w ∧ Q w H := by
  cases v with
  | ref l =>
    obtain ⟨a, ea, rfl⟩ := r.refE
    simp only [fldOf] at o
    split at o
    · rename_i c fs q1
      split at o
      · rename_i qa
        split at o
        · rename_i y ql
          obtain ⟨dx, gs, eh, rf⟩ := S.insM q1 ea
          obtain ⟨m, w, em, lw, rw'⟩ := rf.there O.cls.nd ql
          rw [O.an] at hn
          have : m = n := Option.some.inj (em.symm.trans hn)
          subst this
          obtain ⟨ci, ec, _, _⟩ := attK_cls qa
          exact ⟨a, _, dx, gs, w, rfl, eh, by rw [O.K]; exact O.cls.cl c (cls_lt ec), by rw [O.K]; exact O.cls.at_ c f m qa hn, lw, o as H w (Fut.refl S) rw'⟩
        · exact False.elim o
      · exact False.elim o
    · exact False.elim o
  | _ => exact False.elim o
theorem okE_att (O : XOk G T nm call fx X E) {f : Nat} {n : Str} {o : Ex} {xo : Expr} {pos : Pos} (hn : nm.an[f]? = some n) (hbase : attributeBase xo n X.env (eval xo X.env) = eval xo X.env) (ho : PE X xo (tE G E (evE T call o))) :
    PE X (.Attribute xo n pos) (tE G E (evE T call (.att o f))) := by
  refine ⟨fun pins s σ H Q I ⟨as, ρ, h, S, R, q⟩ => ?_⟩
  have fld : ∀ r : Res PV, r = evE T call o ρ h → OkV G E as H Q (r.bind fun v h1 => fldOf T f v h1) → wpAny (model X.prog X.w) X.A (eval (.Attribute xo n pos) X.env) (EP X pins σ Q) X.xe s := fun r er q => by
    subst er
    refine (pe_fld ho hbase).run pins s σ H Q I ⟨as, ρ, h, S, R, Ok.bind q fun v h1 as1 H1 v' f1 r1 q1 => ?_⟩
    exact fld_ok O hn f1.sr r1 q1
  simp only [evE] at q
  split at q
  · rename_i l h1 er
    split at q
    · rename_i c fs ql
      split at q
      · rename_i g qa
        obtain ⟨ci, ec, em, ep⟩ := attK_cls qa
        rw [O.an] at hn
        obtain ⟨p, hp⟩ := O.cls.pr c ci f g n ec em ep hn
        obtain ⟨k, fd, ps, F, hr, hbd, ar, _⟩ := O.mfn c ci g ec (.inr (.inr (.inl ⟨f, ep⟩)))
        rw [← O.K] at hp
        refine (pe_prop (C := G.ca c) (sp := spF G call g ps.length) (ds := []) (dvs := []) ho (by rw [O.K]; exact O.cls.cl c (cls_lt ec)) hp F hr hbd .nil (E := E0) (L2.passL (X := X.nox)) hbase).run pins s σ H Q I ⟨as, ρ, h, S, R, ?_⟩
        rw [er]
        intro as1 H1 v1 f1 r1
        obtain ⟨a, ea, rfl⟩ := r1.refE
        obtain ⟨dx, gs, eh, rf⟩ := f1.sr.insM ql ea
        refine ⟨a, dx, gs, rfl, eh, ?_⟩
        exact Ok.bind_call (E := E0) ar f1.sr (.cons r1 .nil) (Ok.noer1 (q.fut f1))
      · refine fld (.ok (.ref l) h1) er.symm ?_
        exact q
    · exact False.elim q
  · exact fld _ rfl q
theorem meth_eq {o : Expr} {m : Str} {apos pos : Pos} {xs : List Expr} {env : Env} (hbase : attributeBase o m env (eval o env) = eval o env) (hxs : xs.all (fun x => !isStar x) = true) (hl : xs.length < 29) (hline : (apos.endLine == pos.line) = true) :
    eval (.Call (.Attribute o m apos) xs [] pos) env = (do
      let ov ← eval o env
      standAt apos.atName
      let (f, first) ← holding [ov] (getMethod ov m (do return (← importBound o env).getD true))
      callWith pos f first (backTo pos (starEach xs env)) (backToKw pos (keywordEach [] env))) := by
  have hform : methodCallForm (xs.length + ([] : List Keyword).length) (backTo pos (starEach xs env)) (backToKw pos (keywordEach [] env)) = true := few_ok hxs hl
  have hpos : methodCallPos true o env apos pos = pure pos := by unfold methodCallPos; simp [hline]
  rw [arm_eval_Call, hbase]
  unfold methodCall
  simp only [hform, hpos, calleeOf, if_true]
  rfl
theorem fcall_ok (O : XOk G T nm call fx X E) {m : Nat} {n : Str} {o : Ex} {es : List Ex} {xo : Expr} {ys : List Expr} {apos pos : Pos} (hn : nm.an[m]? = some n) (ho : PE X xo (tE G E (evE T call o))) (ha : PA X ys (tA G E (evEs T call es)))
    (hbase : attributeBase xo n X.env (eval xo X.env) = eval xo X.env) (hxs : ys.all (fun x => !isStar x) = true) (hl : ys.length < 29) (hline : (apos.endLine == pos.line) = true) (hlen : es.length = ys.length)
    {pins : List (Addr × Obj)} {s : Shared} {σ : L2.St} {H : Hp} {Q : VK} {as : List Addr} {ρ : PEnv} {h h1 : PH} {l c f : Nat} {fs : List (Nat × PV)} (I : Inv X pins σ H s) (S : SR G as H h) (R : RepE G as H ρ σ) (er : evE T call o ρ h = .ok (.ref l) h1)
    (ql : h1[l]? = some (.ins c fs)) (qf : fs.lookup m = some (.fn f)) (hf : T.glob.any (isFnOf f) = true) (hat : attK T c m = some none) (q : OkV G E as H Q ((evEs T call es ρ h1).bind fun vs h2 => call f vs h2)) :
    wpAny (model X.prog X.w) X.A (eval (.Call (.Attribute xo n apos) ys [] pos) X.env) (EP X pins σ Q) X.xe s := by
  have hn' := hn
  rw [O.an] at hn'
  obtain ⟨w, hw, hfw⟩ := List.any_eq_true.mp hf
  obtain ⟨g, hg, rfl⟩ := List.getElem_of_mem hw
  have hgf : T.glob[g]? = some (.fn f) := by
    rw [List.getElem?_eq_getElem hg]
    generalize T.glob[g] = w at hfw
    unfold isFnOf at hfw
    split at hfw
    · rw [eq_of_beq hfw]
    · cases hfw
  have hlt : g < nm.gn.length := Nat.lt_of_lt_of_le hg O.gnl
  have hgn : nm.gn[g]? = some nm.gn[g] := List.getElem?_eq_getElem hlt
  obtain ⟨k, fd, ps, F, hr, hk, hbd, hm, ar, _⟩ := O.fns g _ f hgn hgf
  obtain ⟨ci, ec, _, _⟩ := attK_cls hat
  have cc : Cls X.K (G.ca c) := by rw [O.K]; exact O.cls.cl c (cls_lt ec)
  have na : NoAttr X.K (G.ca c) n := by rw [O.K]; exact O.cls.at_ c m n hat hn'
  have go : tE G E (evE T call o) σ H fun x H1 => ∃ a dx gs, x = .ref a ∧ H1 a = some (.ins (G.ca c) dx gs) ∧ gs.lookup n = some (.ref (G.fa f)) ∧ tA G E (evEs T call es) σ H1 fun vs H2 => spF G call f ps.length (vs ++ []) H2 Q E := by
    refine ⟨as, ρ, h, S, R, ?_⟩
    rw [er]
    intro as1 H1 v1 f1 r1
    obtain ⟨a, ea, rfl⟩ := r1.refE
    obtain ⟨dx, gs, eh, rf⟩ := f1.sr.insM ql ea
    obtain ⟨n2, v, en, ev, rv⟩ := rf.there O.cls.nd qf
    have e1 : n2 = n := Option.some.inj (en.symm.trans hn')
    subst e1
    have e2 : v = .ref (G.fa f) := by unfold RepV at rv; exact rv
    subst e2
    refine ⟨a, dx, gs, rfl, eh, ev, as1, ρ, h1, f1.sr, R.fut f1, ?_⟩
    refine Ok.bind (Ok.fut f1 q) fun vs h2 as2 H2 vs' f2 r2 q2 => ?_
    rw [List.append_nil]
    exact Ok.bind_call ar f2.sr r2 q2
  refine PySem.W.methodCall_KW (thn (ho.run pins s σ H _ I go) fun u s1 ⟨x, H1, I1, rx, a, dx, gs, ex, ea, lv, q1⟩ => ?_) (meth_eq hbase hxs hl hline)
  subst ex
  obtain rfl : u = Value.ref a := rx
  obtain ⟨mA, Om, rr, _, _, _⟩ := ins_get I1.hok ea
  obtain ⟨od, J, _⟩ := Om.look
  refine PySem.W.method_usual (r := none) I1.kIn J (PySem.W.plainGet_of (cc.get n)).1 (PySem.W.plainGet_of (cc.get n)).2 na rfl ?_
  refine getattr_ok I1 ea cc na lv fun u' s2 I2 ru => ?_
  obtain rfl : u' = Value.ref (G.fa f) := ru
  cases ys with
  | nil =>
    cases es with
    | nil =>
      refine PySem.W.callWith_K0 I2.kIn hk (run_fn (us := []) (vs := []) (ds := []) (dvs := []) F hr hbd .nil O.pass I2 .nil ?_)
      obtain ⟨as3, ρ3, h3, S3, R3, q3⟩ := q1
      simp only [evEs] at q3
      exact q3 as3 H1 [] (Fut.refl S3) .nil
    | cons _ _ => simp at hlen
  | cons y ys =>
    refine PySem.W.callWith_K (h₀ := X.base) (first := []) I2.ok.mod.kin hk (thn (ha.run pos pins s2 σ H1 _ I2 q1) fun us s3 ⟨vs, H3, I3, r3, q3⟩ => ⟨I3.kIn, ?_⟩) (star_cons (by simpa using (Bool.and_eq_true_iff.mp hxs).1)) (noStars (Bool.and_eq_true_iff.mp hxs).2)
    exact run_fn (ds := []) (dvs := []) F hr hbd .nil O.pass I3 r3 q3
theorem okE_meth (O : XOk G T nm call fx X E) {m : Nat} {n : Str} {o : Ex} {es : List Ex} {xo : Expr} {ys : List Expr} {apos pos : Pos} (hn : nm.an[m]? = some n) (ho : PE X xo (tE G E (evE T call o))) (ha : PA X ys (tA G E (evEs T call es)))
    (hbase : attributeBase xo n X.env (eval xo X.env) = eval xo X.env) (hxs : ys.all (fun x => !isStar x) = true) (hl : ys.length < 29) (hline : (apos.endLine == pos.line) = true) (hlen : es.length = ys.length) :
    PE X (.Call (.Attribute xo n apos) ys [] pos) (tE G E (evE T call (.mt m .none o es))) := by
  refine ⟨fun pins s σ H Q I ⟨as, ρ, h, S, R, q⟩ => ?_⟩
  simp only [evE] at q
  split at q
  · rename_i l h1 er
    split at q
    · rename_i c fs ql
      split at q
      · rename_i fnum qf qm
        obtain ⟨ci, ec, em⟩ := Option.bind_eq_some_iff.mp qm
        have hn' := hn
        rw [O.an] at hn'
        have mm := O.cls.me c ci m fnum n ec em hn'
        obtain ⟨k, fd, ps, F, hr, hbd, ar, _⟩ := O.mfn c ci fnum ec (.inr (.inl ⟨m, em⟩))
        have cc : Cls X.K (G.ca c) := by rw [O.K]; exact O.cls.cl c (cls_lt ec)
        rw [← O.K] at mm
        have pre : tE G E (evE T call o) σ H fun x H1 => ∃ a dx gs, x = .ref a ∧ H1 a = some (.ins (G.ca c) dx gs) ∧ gs.lookup n = none ∧ tA G E (evEs T call es) σ H1 fun vs H2 => spF G call fnum ps.length (x :: (vs ++ [])) H2 Q E := by
          refine ⟨as, ρ, h, S, R, ?_⟩
          rw [er]
          intro as1 H1 v1 f1 r1
          obtain ⟨a, ea, rfl⟩ := r1.refE
          obtain ⟨dx, gs, eh, rf⟩ := f1.sr.insM ql ea
          refine ⟨a, dx, gs, rfl, eh, rf.gone O.cls.nd hn' qf, as1, ρ, h1, f1.sr, R.fut f1, ?_⟩
          refine Ok.bind (Ok.fut f1 q) fun vs h2 as2 H2 vs' f2 r2 q2 => ?_
          rw [List.append_nil]
          exact Ok.bind_call ar f2.sr (.cons (r1.fut f2) r2) q2
        cases ys with
        | nil =>
          cases es with
          | nil =>
            refine (pe_meth0 (sp := spF G call fnum ps.length) (ds := []) (dvs := []) ho cc mm F (hr.mono (Nat.le_succ k)) hbd .nil O.pass (meth_eq hbase rfl (by decide) hline)).run pins s σ H Q I ?_
            obtain ⟨as', ρ', h', S', R', q'⟩ := pre
            refine ⟨as', ρ', h', S', R', q'.imp fun v H1 ⟨a, dx, gs, e1, e2, e3, as3, ρ3, h3, S3, R3, q3⟩ => ⟨a, dx, gs, e1, e2, e3, ?_⟩⟩
            simp only [evEs] at q3
            exact q3 as3 H1 [] (Fut.refl S3) .nil
          | cons _ _ => simp at hlen
        | cons y ys =>
          exact (pe_meth (sp := spF G call fnum ps.length) (ds := []) (dvs := []) ho cc mm F (hr.mono (Nat.le_succ k)) hbd .nil O.pass ha (star_cons (by simpa using (Bool.and_eq_true_iff.mp hxs).1)) (noStars (Bool.and_eq_true_iff.mp hxs).2) (meth_eq hbase hxs hl hline)).run pins s σ H Q I pre
      · rename_i fnum qf qm
        split at q
        · rename_i hcond
          exact fcall_ok O hn ho ha hbase hxs hl hline hlen I S R er ql qf hcond.1 hcond.2 q
        · exact False.elim q
      · exact False.elim q
    · exact False.elim q
  · exact False.elim q
theorem mg_cls (O : XOk G T nm call fx X E) {g c : Nat} {x : Str} (hg : nm.gn[g]? = some x) (hf : T.glob[g]? = some (.cls c)) : X.mg x = some (.ref (G.ca c)) := by
  obtain ⟨u, e, y, ry, rep⟩ := O.gl g x _ hg hf
  have e2 : y = .ref (G.ca c) := by
    have := rep [] (fun _ => none)
    unfold RepV at this
    exact this
  subst e2
  cases ry
  exact e
theorem make_ok {as : List Addr} {H : Hp} {h : PH} {c f np : Nat} {vs : List PV} {xs : List V} {Q : VK} (ar : ∀ xs h, xs.length ≠ np → call f xs h = .stuck) (S : SR G as H h) (r : RepVs G as H vs xs)
    (o : OkV G E as H Q ((call f (.ref h.length :: vs) (h ++ [.ins c []])).bind fun v h1 => match v with
      | .non => .ok (.ref h.length) h1
      | _ => .stuck)) : ∀ x dx, H x = none → H dx = none → dx ≠ x → spF G call f np (.ref x :: (xs ++ [])) (upd (upd H dx (.own x)) x (.ins (G.ca c) dx [])) (fun v H2 => v = .non ∧ Q (.ref x) H2) E := by
  intro x dx hx hd hne
  obtain ⟨f1, r1⟩ := S.newI (c := c) hx hd hne
  rw [List.append_nil]
  refine Ok.bind_call ar f1.sr (.cons r1 (r.fut f1)) ?_
  refine Ok.bind (Ok.fut f1 o) fun v h2 as2 H2 v' f2 r2 q2 => ?_
  cases v with
  | non =>
    have e : v' = .non := by unfold RepV at r2; exact r2
    exact ⟨e, q2 as2 H2 (.ref x) (Fut.refl f2.sr) (r1.fut f2)⟩
  | _ => exact False.elim q2
theorem okE_make (O : XOk G T nm call fx X E) {g c f : Nat} {es : List Ex} {x : Str} {ys : List Expr} {p pos : Pos} (hg : nm.gn[g]? = some x) (hf : T.glob[g]? = some (.cls c)) (hi : (T.cls[c]?).bind (·.init) = some f) (hb : glB fx.names x = true) (hp : plainName x = true)
    (hxs : ys.all (fun x => !isStar x) = true) (hlen : es.length = ys.length) (ha : PA X ys (tA G E (evEs T call es))) : PE X (.Call (.Name x p) ys [] pos) (tE G E (evE T call (.call g es))) := by
  have hm := mg_cls O hg hf
  refine ⟨fun pins s σ H Q I ⟨as, ρ, h, S, R, o⟩ => ?_⟩
  simp only [evE, hf, callG] at o
  obtain ⟨ci, ec, ei⟩ := Option.bind_eq_some_iff.mp hi
  obtain ⟨k, fd, ps, F, hr, hbd, ar, _⟩ := O.mfn c ci f ec (.inl ei)
  have M : Mk X.K (G.ca c) (G.fa f) := by rw [O.K]; exact O.cls.mkr c ci f ec ei
  cases ys with
  | nil =>
    cases es with
    | nil =>
      refine (pe_make0 (sp := spF G call f ps.length) (ds := []) (dvs := []) M F hr (gl_ok O hb) hm hbd .nil O.pass (plain_ok hp).1).run pins s σ H Q I ?_
      simp only [evEs, Res.bind_ok, hi] at o
      exact make_ok ar S .nil o
    | cons _ _ => simp at hlen
  | cons y ys =>
    refine (pe_make (sp := spF G call f ps.length) (ds := []) (dvs := []) M F hr (gl_ok O hb) hm hbd .nil O.pass ha (plain_ok hp).1 (star_cons (by simpa using (Bool.and_eq_true_iff.mp hxs).1)) (noStars (Bool.and_eq_true_iff.mp hxs).2)).run pins s σ H Q I ⟨as, ρ, h, S, R, ?_⟩
    refine Ok.bind o fun vs h1 as1 H1 vs' f1 r1 o1 => ?_
    rw [hi] at o1
    exact make_ok ar f1.sr r1 o1
theorem okE_dsp {pos : Pos} : PE X (.Dict [] [] pos) (tE G E (evE T call .dsp)) := by
  refine (pe_dnewK (X := X) (pos := pos)).imp fun σ H Q hq => ?_
  obtain ⟨as, ρ, h, S, R, o⟩ := hq
  simp only [evE] at o
  intro p hp
  obtain ⟨f1, r1⟩ := S.new (o := .dic []) (ho := .dK []) hp ⟨[], upd_same, by unfold RepK; rfl⟩
  exact o _ _ _ f1 r1
theorem okE_callv (O : XOk G T nm call fx X E) {i : Nat} {es : List Ex} {x : Str} {y : Expr} {ys : List Expr} {p pos : Pos} (hN : fx.N[i]? = some x) (hv : visB fx.names x = true) (hp : plainName x = true)
    (hx : isStar y = false) (hxs : ys.all (fun x => !isStar x) = true) (ha : PA X (y :: ys) (tA G E (evEs T call es))) : PE X (.Call (.Name x p) (y :: ys) [] pos) (tE G E (evE T call (.callv i es))) := by
  refine ⟨fun pins s σ H Q I ⟨as, ρ, h, S, R, o⟩ => ?_⟩
  simp only [evE] at o
  split at o
  · rename_i f q
    obtain ⟨v', e, r⟩ := R.2 i _ q
    have ev : v' = .ref (G.fa f) := by unfold RepV at r; exact r
    subst ev
    split at o
    · rename_i ha2
      obtain ⟨w, hw, hf⟩ := List.any_eq_true.mp ha2
      obtain ⟨g, hg, rfl⟩ := List.getElem_of_mem hw
      have hgf : T.glob[g]? = some (.fn f) := by
        rw [List.getElem?_eq_getElem hg]
        generalize T.glob[g] = w at hf
        unfold isFnOf at hf
        split at hf
        · rw [eq_of_beq hf]
        · cases hf
      have hlt : g < nm.gn.length := Nat.lt_of_lt_of_le hg O.gnl
      have hgn : nm.gn[g]? = some nm.gn[g] := List.getElem?_eq_getElem hlt
      obtain ⟨k, fd, ps, F, hr, hk, hbd, hm, ar, _⟩ := O.fns g _ f hgn hgf
      refine (pe_callL (i := i) (sp := spF G call f ps.length) (ds := []) (dvs := []) F hr (by rw [O.N]; exact hN) (vis_ok O hv) hk hbd .nil O.pass ha (plain_ok hp).1 (plain_ok hp).2.1 (star_cons hx) (noStars hxs)).run pins s σ H Q I ⟨e, as, ρ, h, S, R, ?_⟩
      refine Ok.bind o fun vs h1 as1 H1 vs' f1 r1 o1 => ?_
      rw [List.append_nil]
      exact Ok.bind_call ar f1.sr r1 o1
    · exact False.elim o
  · exact False.elim o
theorem pFld_ok (O : XOk G T nm call fx X E) {as : List Addr} {H : Hp} {h h' : PH} {f : Nat} {n : Str} {w v : PV} {x y : V} (hn : nm.an[f]? = some n) (S : SR G as H h) (rw_ : RepV G as H w x) (rv : RepV G as H v y) (e : pFld T w f v h = some h') :
    ∃ a C dx gs, x = .ref a ∧ H a = some (.ins C dx gs) ∧ Cls X.K C ∧ NoAttr X.K C n ∧ gs.length < 1000 ∧ Fut G as H as (upd H a (.ins C dx (putF n y gs))) h' := by
  cases w with
  | ref l =>
    obtain ⟨a, ea, rfl⟩ := rw_.refE
    simp only [pFld] at e
    split at e
    · rename_i c fs q1
      split at e
      · rename_i q
        cases e
        obtain ⟨dx, gs, eh, rf⟩ := S.insM q1 ea
        obtain ⟨ci, ec, _, _⟩ := attK_cls q.1
        rw [O.an] at hn
        exact ⟨a, _, dx, gs, rfl, eh, by rw [O.K]; exact O.cls.cl c (cls_lt ec), by rw [O.K]; exact O.cls.at_ c f n q.1 hn, by rw [rf.len]; exact q.2, S.setI ea eh (rf.put O.cls.nd hn rv)⟩
      · cases e
    · cases e
  | _ => cases e
theorem okS_fld (O : XOk G T nm call fx X E) {e o : Ex} {f : Nat} {n : Str} {x xo : Expr} {p p2 : Pos} (hn : nm.an[f]? = some n) (he : PE X x (tE G E (evE T call e))) (ho : PE X xo (tE G E (evE T call o))) :
    PS X (.Assign [.Attribute xo n p2] x p) (tS G E (exS T call W (.asg (.att o f) e))) := by
  have hs : swapsWith x (some (.Attribute xo n p2)) p.line X.env = pure false := by cases x <;> rfl
  refine (ps_fld ho he hs).imp fun D σ H hq => ?_
  obtain ⟨as, ρ, h, S, R, q⟩ := hq
  simp only [exS, asgTa, Res.bind_assoc] at q
  show tE G E (evE T call e) σ H fun y H1 => tE G E (evE T call o) σ H1 fun x H2 => ∃ a C dx fs, x = .ref a ∧ H2 a = some (.ins C dx fs) ∧ Cls X.K C ∧ NoAttr X.K C n ∧ fs.length < 1000 ∧ D.nx σ (upd H2 a (.ins C dx (putF n y fs)))
  refine ⟨as, ρ, h, S, R, Ok.bind q fun v h1 as1 H1 v' f1 r1 q1 => ?_⟩
  refine ⟨as1, ρ, h1, f1.sr, R.fut f1, Ok.bind q1 fun w h2 as2 H2 w' f2 r2 q2 => ?_⟩
  split at q2
  · rename_i h3 q3
    obtain ⟨a, C, dx, gs, ex, eh, cc, na, hl, f3⟩ := pFld_ok O hn f2.sr r2 (r1.fut f2) q3
    refine ⟨a, C, dx, gs, ex, eh, cc, na, hl, ?_⟩
    simp only [Res.bind_ok] at q2
    exact q2 as2 _ (.nx σ) f3 (((R.fut f1).fut f2).fut f3)
  · exact False.elim q2
theorem fldaug_ok (O : XOk G T nm call fx X E) {op : Bop} {opy : Operator} {rd : V → V → Hp → VK → Prop} {e o : Ex} {f : Nat} {n : Str} {x xo : Expr} {p p2 : Pos} (hrd : InOp X opy rd) (hn : nm.an[f]? = some n) (he : PE X x (tE G E (evE T call e))) (ho : PE X xo (tE G E (evE T call o)))
    (hop : ∀ (as : List Addr) (H : Hp) (h : PH) (v w : PV) (y z : V) (Q : VK), SR G as H h → RepV G as H v y → RepV G as H w z → OkV G E as H Q (pAug op v w h) → rd y z H Q) :
    PS X (.AugAssign (.Attribute xo n p2) opy x p) (tS G E (exS T call W (.aug (.att o f) op e))) := by
  refine (ps_fldaug ho he hrd).imp fun D σ H ⟨as, ρ, h, S, R, q⟩ => ?_
  simp only [exS] at q
  show tE G E (evE T call o) σ H fun x H1 => ∃ a C dx fs v, x = .ref a ∧ H1 a = some (.ins C dx fs) ∧ Cls X.K C ∧ NoAttr X.K C n ∧ fs.lookup n = some v ∧
    tE G E (evE T call e) σ H1 fun y H2 => rd v y H2 fun z H3 => ∃ dx' fs', H3 a = some (.ins C dx' fs') ∧ fs'.length < 1000 ∧ D.nx σ (upd H3 a (.ins C dx' (putF n z fs')))
  refine ⟨as, ρ, h, S, R, Ok.bind q fun w h1 as1 H1 w' f1 r1 q1 => ?_⟩
  cases w with
  | ref l =>
    obtain ⟨a, ea, rfl⟩ := r1.refE
    simp only at q1
    split at q1
    · rename_i c fs ql
      split at q1
      · rename_i qa
        split at q1
        · rename_i v qv
          obtain ⟨dx, gs, eh, rf⟩ := f1.sr.insM ql ea
          obtain ⟨m, u, em, lw, ru⟩ := rf.there O.cls.nd qv
          obtain ⟨ci, ec, _, _⟩ := attK_cls qa
          have hn' := hn
          rw [O.an] at hn'
          have hmn : m = n := Option.some.inj (em.symm.trans hn')
          subst hmn
          refine ⟨a, _, dx, gs, u, rfl, eh, by rw [O.K]; exact O.cls.cl c (cls_lt ec), by rw [O.K]; exact O.cls.at_ c f m qa hn', lw, as1, ρ, h1, f1.sr, R.fut f1, ?_⟩
          refine Ok.bind q1 fun x h3 as3 H3 x' f3 r3 q3 => ?_
          refine hop as3 H3 h3 v x u x' _ f3.sr (ru.fut f3) r3 (Ok.bind q3 fun y h4 as4 H4 y' f4 r4 q4 => ?_)
          have ea4 : as4[l]? = some a := pre_get f4.pre (pre_get f3.pre ea)
          split at q4
          · rename_i c' fs' q5
            split at q4
            · rename_i q6
              obtain ⟨rfl, hl⟩ := q6
              obtain ⟨dx', gs', eh', rf'⟩ := f4.sr.insM q5 ea4
              refine ⟨dx', gs', eh', by rw [rf'.len]; exact hl, ?_⟩
              have f5 := f4.sr.setI ea4 eh' (rf'.put O.cls.nd em r4)
              exact q4 as4 _ (.nx σ) f5 ((((R.fut f1).fut f3).fut f4).fut f5)
            · exact False.elim q4
          · exact False.elim q4
        · exact False.elim q1
      · exact False.elim q1
    · exact False.elim q1
  | _ => exact False.elim q1
def rAug : V → V → Hp → VK → Prop := fun x y H Q => rAdd x y H Q ∨ rAddS x y H Q
theorem in_aug : InOp X .Add rAug := fun pins s σ H x y u v Q I rx ry h => by
  rcases h with h | h
  · exact in_add pins s σ H x y u v Q I rx ry h
  · exact in_addS pins s σ H x y u v Q I rx ry h
theorem okS_fldaug (O : XOk G T nm call fx X E) {op : Bop} {e o : Ex} {f : Nat} {n : Str} {x xo : Expr} {p p2 : Pos} (hop : op = .add ∨ op = .sub) (hn : nm.an[f]? = some n) (he : PE X x (tE G E (evE T call e))) (ho : PE X xo (tE G E (evE T call o))) :
    PS X (.AugAssign (.Attribute xo n p2) op.py x p) (tS G E (exS T call W (.aug (.att o f) op e))) := by
  rcases hop with rfl | rfl
  · refine fldaug_ok O (rd := rAug) in_aug hn he ho fun as H h v w y z Q S rv rw_ q => ?_
    unfold pAug at q
    split at q
    · have e1 := rv.intE
      have e2 := rw_.intE
      exact .inl ⟨_, _, e1, e2, q as H _ (Fut.refl S) (.int _)⟩
    · rename_i z1; cases z1
    · have e1 := rv.strE
      have e2 := rw_.strE
      split at q
      · rename_i a b _ hl
        refine .inr ⟨_, _, e1, e2, by simpa [Str.length] using hl, q as H _ (Fut.refl S) ?_⟩
        rw [str_app]
        exact .str _
      · exact False.elim q
    · exact False.elim q
  · refine fldaug_ok O (rd := rSub) (fun pins s σ H x y v u Q I rx ry h => in_sub pins s σ H x y v u Q I rx ry h) hn he ho fun as H h v w y z Q S rv rw_ q => ?_
    unfold pAug at q
    split at q
    · rename_i z1; cases z1
    · have e1 := rv.intE
      have e2 := rw_.intE
      exact ⟨_, _, e1, e2, q as H _ (Fut.refl S) (.int _)⟩
    · rename_i z1; cases z1
    · exact False.elim q
end
end Mn
set_option Elab.async false
set_option linter.all false
set_option maxRecDepth 100000
set_option maxHeartbeats 1000000
namespace MnZ
open PySem
open Sem (wp)
section
variable {prog : Program} {w : World} {A : Around} {E : Value → Shared → Prop} {s : Shared} {z TI TO T i1 i2 : Addr} {fp1 fp2 : List Addr} {n1 n2 i : Nat} {P1 P2 : Nat → Value → Prop} {St1 St2 : Nat → Heap → Prop} {f : Bool} {oT : Obj}
theorem held_next {Q : Value → Shared → Prop} (Sp : ZipSep2 z TI TO i1 i2 fp1 fp2) (D1 : Draws prog w A i1 fp1 n1 P1 St1) (D2 : Draws prog w A i2 fp2 n2 P2 St2)
    (zz : IsZipHeld s.heap z TI TO T f) (zT : s.heap.get? T = some oT) (zI : IsTupOf2 s.heap TI (.ref i1) (.ref i2)) (q1 : St1 i s.heap) (q2 : St2 i s.heap) (l1 : i < n1) (l2 : i < n2)
    (k : ∀ x1 x2 h' tk, P1 i x1 → P2 i x2 → IsZipHeld h' z TI TO T true → St1 (i + 1) h' → St2 (i + 1) h' → IsTupOf2 h' s.heap.objs.size x1 x2 → h'.objs.size = s.heap.objs.size + 1 →
      (∀ c o, c ≠ z → c ≠ i1 → c ≠ i2 → s.heap.get? c = some o → h'.get? c = some o) → Q (.ref s.heap.objs.size) { s with heap := h', toks := tk }) :
    wpAny (model prog w) A (Builtin.«zip.__next__» ⟨[.ref z], []⟩) (fun fin s' => ∃ v, fin = .done (.ret v) ∧ Q v s') E s := by
  obtain ⟨hp, gg, dd, tk0, os⟩ := s
  show wpAny _ _ (field (.ref z) 2 >>= _) _ _ ⟨hp, gg, dd, tk0, os⟩
  refine wpAny_bind (wpAny_field zz rfl (x := .bool false) rfl (show wpAny _ _ (field (.ref z) 3 >>= _) _ _ ⟨hp, gg, dd, tk0, os⟩ from wpAny_bind (wpAny_field zz rfl (x := .ref TI) rfl (wpAny_bind (wpAny_seqItems zI rfl ?_)))))
  show wpAny _ _ (Builtin.SmallTypes.ownedTupleIsFree (.ref z) >>= _) _ _ ⟨hp, gg, dd, tk0, os⟩
  refine wpAny_bind (wpAny_tupleHeld_zip zz zT fun h₁ zz₁ sb₁ => ?_)
  simp only [Bool.false_eq_true, if_false]
  refine wpAny_bind ?_
  rw [← Array.forIn_toList]
  simp only [List.forIn_cons, List.forIn_nil]
  replace sb₁ : Heap.SameBut z hp h₁ := sb₁
  refine wpAny_bind (wpAny_bind (wpAny_holding (show wpAny _ _ (Builtin.SmallTypes.nextOf (.ref i1) >>= _) _ _ ⟨h₁, gg, dd, tk0, os⟩ from ?_)))
  refine wpAny_bind (D1.item i _ _ _ l1 (D1.over q1 sb₁ Sp.zf1) fun x1 g₁ tk1 hx1 sn1 sg₁ => wpAny_pure (wpAny_pure ?_))
  replace sg₁ : Heap.SameBut i1 h₁ g₁ := sg₁
  refine wpAny_bind (wpAny_bind (wpAny_holding (show wpAny _ _ (Builtin.SmallTypes.nextOf (.ref i2) >>= _) _ _ ⟨g₁, gg, dd, tk1, os⟩ from ?_)))
  refine wpAny_bind (D2.item i _ _ _ l2 (D2.over (D2.over q2 sb₁ Sp.zf2) sg₁ Sp.sep1_2) fun x2 g₂ tk2 hx2 sn2 sg₂ => wpAny_pure (wpAny_pure (wpAny_pure ?_)))
  replace sg₂ : Heap.SameBut i2 g₁ g₂ := sg₂
  show wpAny _ _ (newTuple [x1, x2] >>= _) _ _ ⟨g₂, gg, dd, tk2, os⟩
  refine wpAny_bind (wpAny_newTuple (wpAny_pure ⟨_, rfl, ?_⟩))
  have zs : g₂.objs.size = hp.objs.size := by rw [sg₂.1, sg₁.1, sb₁.1]
  have keep : ∀ c o, c ≠ z → c ≠ i1 → c ≠ i2 → hp.get? c = some o → g₂.get? c = some o := fun c o cz c1 c2 e => sg₂.extBut _ _ c2 (sg₁.extBut _ _ c1 (sb₁.extBut _ _ cz e))
  have zz2 : IsZipHeld g₂ z TI TO T true := sg₂.extBut _ _ Sp.zi2 (sg₁.extBut _ _ Sp.zi1 zz₁)
  have up : ∀ c o, g₂.get? c = some o → (g₂.push { cls := .type "tuple", data := .seq #[x1, x2] }).get? c = some o := fun c o e => Heap.get?_push_of_some _ e
  have pT : IsTupOf2 (g₂.push { cls := .type "tuple", data := .seq #[x1, x2] }) g₂.objs.size x1 x2 := Heap.get?_push_size _ rfl
  have pz : (g₂.push { cls := .type "tuple", data := .seq #[x1, x2] }).objs.size = g₂.objs.size + 1 := Heap.size_push ..
  show Q (.ref g₂.objs.size) ⟨g₂.push { cls := .type "tuple", data := .seq #[x1, x2] }, gg, dd, tk2, os⟩
  have kk := k x1 x2 (g₂.push { cls := .type "tuple", data := .seq #[x1, x2] }) tk2 hx1 hx2 (up _ _ zz2) (D1.frame _ _ _ (D1.over sn1 sg₂ Sp.sep2_1) fun b _ o e => up b o e) (D2.frame _ _ _ sn2 fun b _ o e => up b o e)
  rw [← show g₂.objs.size = (⟨hp, gg, dd, tk0, os⟩ : Shared).heap.objs.size from zs] at kk
  exact kk pT pz fun c o cz c1 c2 e => up c o (keep c o cz c1 c2 e)
theorem held_end {Q : Fin → Shared → Prop} (Sp : ZipSep2 z TI TO i1 i2 fp1 fp2) (D1 : Draws prog w A i1 fp1 n1 P1 St1) (D2 : Draws prog w A i2 fp2 n2 P2 St2)
    (zz : IsZipHeld s.heap z TI TO T f) (zT : s.heap.get? T = some oT) (zI : IsTupOf2 s.heap TI (.ref i1) (.ref i2)) (q1 : St1 i s.heap) (q2 : St2 i s.heap) (l1 : i ≤ n1) (l2 : i ≤ n2) (le : i = n1 ∨ i = n2)
    (k : ∀ h' tk e, (∀ c o, c ≠ z → c ≠ i1 → c ≠ i2 → s.heap.get? c = some o → h'.get? c = some o) → (∃ o, h'.get? e = some o ∧ o.cls = .type "StopIteration") → E (.ref e) { s with heap := h', toks := tk }) :
    wpAny (model prog w) A (Builtin.«zip.__next__» ⟨[.ref z], []⟩) Q E s := by
  obtain ⟨hp, gg, dd, tk0, os⟩ := s
  show wpAny _ _ (field (.ref z) 2 >>= _) _ _ ⟨hp, gg, dd, tk0, os⟩
  refine wpAny_bind (wpAny_field zz rfl (x := .bool false) rfl (show wpAny _ _ (field (.ref z) 3 >>= _) _ _ ⟨hp, gg, dd, tk0, os⟩ from wpAny_bind (wpAny_field zz rfl (x := .ref TI) rfl (wpAny_bind (wpAny_seqItems zI rfl ?_)))))
  show wpAny _ _ (Builtin.SmallTypes.ownedTupleIsFree (.ref z) >>= _) _ _ ⟨hp, gg, dd, tk0, os⟩
  refine wpAny_bind (wpAny_tupleHeld_zip zz zT fun h₁ zz₁ sb₁ => ?_)
  simp only [Bool.false_eq_true, if_false]
  refine wpAny_bind ?_
  rw [← Array.forIn_toList]
  simp only [List.forIn_cons, List.forIn_nil]
  replace sb₁ : Heap.SameBut z hp h₁ := sb₁
  refine wpAny_bind (wpAny_bind (wpAny_holding (show wpAny _ _ (Builtin.SmallTypes.nextOf (.ref i1) >>= _) _ _ ⟨h₁, gg, dd, tk0, os⟩ from ?_)))
  by_cases lt1 : i < n1
  · refine wpAny_bind (D1.item i _ _ _ lt1 (D1.over q1 sb₁ Sp.zf1) fun x1 g₁ tk1 hx1 sn1 sg₁ => wpAny_pure (wpAny_pure ?_))
    replace sg₁ : Heap.SameBut i1 h₁ g₁ := sg₁
    have e2 : i = n2 := by omega
    refine wpAny_bind (wpAny_bind (wpAny_holding (show wpAny _ _ (Builtin.SmallTypes.nextOf (.ref i2) >>= _) _ _ ⟨g₁, gg, dd, tk1, os⟩ from ?_)))
    refine wpAny_bind (D2.done ⟨g₁, gg, dd, tk1, os⟩ _ _ (by rw [← e2]; exact D2.over (D2.over q2 sb₁ Sp.zf2) sg₁ Sp.sep1_2) fun g e hg he => ?_)
    exact k g tk1 e (fun c o cz c1 c2 x => hg _ _ c2 (sg₁.extBut _ _ c1 (sb₁.extBut _ _ cz x))) he
  · have e1 : i = n1 := by omega
    refine wpAny_bind (D1.done ⟨h₁, gg, dd, tk0, os⟩ _ _ (by rw [← e1]; exact D1.over q1 sb₁ Sp.zf1) fun g e hg he => ?_)
    exact k g tk0 e (fun c o cz c1 c2 x => hg _ _ c1 (sb₁.extBut _ _ cz x)) he
theorem held_item {Q : Option Value → Shared → Prop} (Sp : ZipSep2 z TI TO i1 i2 fp1 fp2) (D1 : Draws prog w A.in1 i1 fp1 n1 P1 St1) (D2 : Draws prog w A.in1 i2 fp2 n2 P2 St2)
    (zz : IsZipHeld s.heap z TI TO T f) (zT : s.heap.get? T = some oT) (zI : IsTupOf2 s.heap TI (.ref i1) (.ref i2)) (q1 : St1 i s.heap) (q2 : St2 i s.heap) (l1 : i < n1) (l2 : i < n2)
    (k : ∀ x1 x2 h' tk, P1 i x1 → P2 i x2 → IsZipHeld h' z TI TO T true → St1 (i + 1) h' → St2 (i + 1) h' → IsTupOf2 h' s.heap.objs.size x1 x2 → h'.objs.size = s.heap.objs.size + 1 →
      (∀ c o, c ≠ z → c ≠ i1 → c ≠ i2 → s.heap.get? c = some o → h'.get? c = some o) → Q (some (.ref s.heap.objs.size)) { s with heap := h', toks := tk }) :
    wpAny (model prog w) A (pyNext (.ref z)) Q E s := by
  have ty : s.TypeIs (.ref z) "zip" := ⟨_, zz, rfl⟩
  unfold pyNext
  exact wpAny_bind (wpAny_attempt (wpAny_callSpecial?_slot (name := Str.ofString "__next__") ty F.slot_zip_next (wpAny_call_entry F.slot_zip_next ty F.entry_zip_next
    (held_next Sp D1 D2 zz zT zI q1 q2 l1 l2 fun x1 x2 h' tk a b c d e g m n => wpAny_pure (k x1 x2 h' tk a b c d e g m n)) (F.args_zip_next_1 _))))
theorem held_done {Q : Option Value → Shared → Prop} (Sp : ZipSep2 z TI TO i1 i2 fp1 fp2) (D1 : Draws prog w A.in1 i1 fp1 n1 P1 St1) (D2 : Draws prog w A.in1 i2 fp2 n2 P2 St2)
    (zz : IsZipHeld s.heap z TI TO T f) (zT : s.heap.get? T = some oT) (zI : IsTupOf2 s.heap TI (.ref i1) (.ref i2)) (q1 : St1 i s.heap) (q2 : St2 i s.heap) (l1 : i ≤ n1) (l2 : i ≤ n2) (le : i = n1 ∨ i = n2)
    (k : ∀ h' tk, (∀ c o, c ≠ z → c ≠ i1 → c ≠ i2 → s.heap.get? c = some o → h'.get? c = some o) → Q none { s with heap := h', toks := tk }) : wpAny (model prog w) A (pyNext (.ref z)) Q E s := by
  have ty : s.TypeIs (.ref z) "zip" := ⟨_, zz, rfl⟩
  unfold pyNext
  refine wpAny_bind (wpAny_attempt (wpAny_callSpecial?_slot (name := Str.ofString "__next__") ty F.slot_zip_next (wpAny_call_entry F.slot_zip_next ty F.entry_zip_next
    (held_end Sp D1 D2 zz zT zI q1 q2 l1 l2 le fun h' tk e hk he => ?_) (F.args_zip_next_1 _))))
  obtain ⟨o, ho, hc⟩ := he
  exact wpAny_bind (wpAny_isInstance (T := "StopIteration") (b := true) ⟨o, ho, hc⟩ isSubtype_stop (wpAny_pure (k _ _ hk)))
end
end MnZ
set_option Elab.async false
set_option linter.all false
set_option maxRecDepth 100000
set_option maxHeartbeats 1000000
namespace MnZ
open PySem
open Sem (wp)
def Zst (z TI TO i1 i2 S : Addr) (h : Heap) : Prop := (IsZip h z TI TO .none ∧ ∃ a1 a2, IsTupOf2 h TO a1 a2) ∨ ∃ (T : Addr) (f : Bool) (oT : Obj), IsZipHeld h z TI TO T f ∧ h.get? T = some oT ∧ T ≠ z ∧ T ≠ TO ∧ T ≠ i1 ∧ T ≠ i2 ∧ T ≠ S
section
variable {prog : Program} {w : World} {A : Around} {E : Value → Shared → Prop} {s : Shared} {z TI TO S i1 i2 : Addr} {fp1 fp2 : List Addr} {n1 n2 i : Nat} {P1 P2 : Nat → Value → Prop} {St1 St2 : Nat → Heap → Prop}
theorem z_item {Q : Option Value → Shared → Prop} (Sp : ZipSep2 z TI TO i1 i2 fp1 fp2) (D1 : Draws prog w A.in1 i1 fp1 n1 P1 St1) (D2 : Draws prog w A.in1 i2 fp2 n2 P2 St2) (zs : Zst z TI TO i1 i2 S s.heap) (hS : S < s.heap.objs.size)
    (zI : IsTupOf2 s.heap TI (.ref i1) (.ref i2)) (q1 : St1 i s.heap) (q2 : St2 i s.heap) (l1 : i < n1) (l2 : i < n2)
    (k : ∀ x1 x2 h' tk, P1 i x1 → P2 i x2 → Zst z TI TO i1 i2 S h' → St1 (i + 1) h' → St2 (i + 1) h' → IsTupOf2 h' s.heap.objs.size x1 x2 → h'.objs.size = s.heap.objs.size + 1 →
      (∀ c o, c ≠ z → c ≠ TO → c ≠ i1 → c ≠ i2 → s.heap.get? c = some o → h'.get? c = some o) → Q (some (.ref s.heap.objs.size)) { s with heap := h', toks := tk }) :
    wpAny (model prog w) A (pyNext (.ref z)) Q E s := by
  have old : ∀ {c o}, s.heap.get? c = some o → s.heap.objs.size ≠ c := fun e => Nat.ne_of_gt (Heap.lt_size e)
  have o1 : s.heap.objs.size ≠ i1 := let ⟨_, e⟩ := D1.live _ _ q1; old e
  have o2 : s.heap.objs.size ≠ i2 := let ⟨_, e⟩ := D2.live _ _ q2; old e
  rcases zs with ⟨zz, a1, a2, zO⟩ | ⟨T, f, oT, zz, zT, nz, nO, n1', n2', nS⟩
  · refine wpAny_pyNext_zipD2_item Sp D1 D2 zz zI zO q1 q2 l1 l2 fun x1 x2 h' tk y1 y2 b1 b2 d1 d2 pT sz kp => ?_
    exact k x1 x2 h' tk y1 y2 (.inr ⟨s.heap.objs.size, false, _, b1, pT, old zz, old zO, o1, o2, Nat.ne_of_gt hS⟩) d1 d2 pT sz kp
  · refine held_item Sp D1 D2 zz zT zI q1 q2 l1 l2 fun x1 x2 h' tk y1 y2 b1 d1 d2 pT sz kp => ?_
    exact k x1 x2 h' tk y1 y2 (.inr ⟨T, true, oT, b1, kp _ _ nz n1' n2' zT, nz, nO, n1', n2', nS⟩) d1 d2 pT sz fun c o cz _ c1 c2 e => kp c o cz c1 c2 e
theorem z_done {Q : Option Value → Shared → Prop} (Sp : ZipSep2 z TI TO i1 i2 fp1 fp2) (D1 : Draws prog w A.in1 i1 fp1 n1 P1 St1) (D2 : Draws prog w A.in1 i2 fp2 n2 P2 St2) (zs : Zst z TI TO i1 i2 S s.heap)
    (zI : IsTupOf2 s.heap TI (.ref i1) (.ref i2)) (q1 : St1 i s.heap) (q2 : St2 i s.heap) (l1 : i ≤ n1) (l2 : i ≤ n2) (le : i = n1 ∨ i = n2)
    (k : ∀ h' tk, (∀ c o, c ≠ z → c ≠ TO → c ≠ i1 → c ≠ i2 → s.heap.get? c = some o → h'.get? c = some o) → Q none { s with heap := h', toks := tk }) : wpAny (model prog w) A (pyNext (.ref z)) Q E s := by
  rcases zs with ⟨zz, a1, a2, zO⟩ | ⟨T, f, oT, zz, zT, nz, nO, n1', n2', nS⟩
  · exact wpAny_pyNext_zipD2_end Sp D1 D2 zz zI zO q1 q2 l1 l2 le k
  · exact held_done Sp D1 D2 zz zT zI q1 q2 l1 l2 le fun h' tk kp => k h' tk fun c o cz _ c1 c2 e => kp c o cz c1 c2 e
end
theorem ne_lo {a b base : Nat} (h : a < base) (hb : base ≤ b) : b ≠ a := Nat.ne_of_gt (Nat.lt_of_lt_of_le h hb)
structure Prs (P1 P2 : Nat → Value → Prop) (base : Nat) (h : Heap) (Ts : List Addr) : Prop where
  up : Ts.Pairwise (· < ·)
  at_ : ∀ T ∈ Ts, base ≤ T
  pr : ∀ (j : Nat) (T : Addr), Ts[j]? = some T → ∃ x1 x2, P1 j x1 ∧ P2 j x2 ∧ IsTupOf2 h T x1 x2
theorem Prs.keep {P1 P2 : Nat → Value → Prop} {base : Nat} {h h' : Heap} {Ts : List Addr} (p : Prs P1 P2 base h Ts) (k : ∀ b o, base ≤ b → h.get? b = some o → h'.get? b = some o) : Prs P1 P2 base h' Ts :=
  ⟨p.up, p.at_, fun j T e => let ⟨x1, x2, a, b, c⟩ := p.pr j T e; ⟨x1, x2, a, b, k _ _ (p.at_ T (List.mem_of_getElem? e)) c⟩⟩
theorem Prs.snoc {P1 P2 : Nat → Value → Prop} {base : Nat} {h h' : Heap} {Ts : List Addr} {x1 x2 : Value} (p : Prs P1 P2 base h Ts) (k : ∀ b o, base ≤ b → h.get? b = some o → h'.get? b = some o) (hb : base ≤ h.objs.size) (a : P1 Ts.length x1) (b : P2 Ts.length x2) (c : IsTupOf2 h' h.objs.size x1 x2) :
    Prs P1 P2 base h' (Ts ++ [h.objs.size]) where
  up := by
    rw [List.pairwise_append]
    refine ⟨p.up, by simp, fun T hT U hU => ?_⟩
    rw [List.mem_singleton.mp hU]
    obtain ⟨j, e⟩ := List.getElem?_of_mem hT
    obtain ⟨_, _, _, _, e2⟩ := p.pr j T e
    exact Heap.lt_size e2
  at_ := fun T hT => by
    rcases List.mem_append.mp hT with q | q
    · exact p.at_ T q
    · rw [List.mem_singleton.mp q]; exact hb
  pr := fun j T e => by
    by_cases hj : j < Ts.length
    · rw [List.getElem?_append_left hj] at e
      exact (p.keep k).pr j T e
    · rw [List.getElem?_append_right (by omega)] at e
      have hj2 : j = Ts.length := by
        have := (List.getElem?_eq_some_iff.mp e).1
        simp at this
        omega
      subst hj2
      simp at e
      subst e
      exact ⟨x1, x2, a, b, c⟩
section
variable {prog : Program} {w : World} {A : Around} {s : Shared} {z TI TO S i1 i2 : Addr} {fp1 fp2 : List Addr} {n1 n2 base : Nat} {P1 P2 : Nat → Value → Prop} {St1 St2 : Nat → Heap → Prop} {R : Result → Shared → Prop}
theorem zl_loop (Sp : ZipSep2 z TI TO i1 i2 fp1 fp2) (D1 : Draws prog w A.in1.in1 i1 fp1 n1 P1 St1) (D2 : Draws prog w A.in1.in1 i2 fp2 n2 P2 St2) (hn : min n1 n2 ≤ sizeLine) (res : Value)
    (S1 : S ∉ fp1) (S2 : S ∉ fp2) (Sz : S ≠ z) (SI : S ≠ TI) (SO : S ≠ TO) (Si1 : S ≠ i1) (Si2 : S ≠ i2) (bS : S < base) (bz : z < base) (bO : TO < base) (b1 : i1 < base) (b2 : i2 < base) :
    ∀ (m i : Nat) (s : Shared) (acc : Array Value) (c : Nat) (Ts : List Addr), i + m = min n1 n2 → Zst z TI TO i1 i2 S s.heap → IsTupOf2 s.heap TI (.ref i1) (.ref i2) → St1 i s.heap → St2 i s.heap →
      s.heap.get? S = some { cls := .type "list", dict := none, data := .seq acc c, slots := #[] } → acc.toList = Ts.map Value.ref → Ts.length = i → Prs P1 P2 base s.heap Ts → base ≤ s.heap.objs.size →
      (∀ h' tk acc' c' Ts', (∀ b o, b ≠ S → b ≠ z → b ≠ TO → b ≠ i1 → b ≠ i2 → s.heap.get? b = some o → h'.get? b = some o) → h'.get? S = some { cls := .type "list", dict := none, data := .seq acc' c', slots := #[] } →
        acc'.toList = Ts'.map Value.ref → Ts'.length = min n1 n2 → Prs P1 P2 base h' Ts' → R (.ok (.ret res)) { s with heap := h', toks := tk }) →
      codeAny (model prog w) A (.builtin "list.extend.loop" ⟨[.ref S, .ref z, res], []⟩) R s := by
  intro m
  induction m with
  | zero =>
    intro i s acc c Ts hi zs zI q1 q2 hS hacc hl pr hb k
    refine codeAny_builtin F.entry_extend_loop ?_
    rw [Around.under_plainId F.plain_extend_loop _]
    show wpAny _ A.in1 (pyNext (.ref z) >>= _) _ _ s
    refine wpAny_bind (z_done (S := S) Sp D1 D2 zs zI q1 q2 (by omega) (by omega) (by omega) fun h' tk kp => wpAny_pure ?_)
    exact k h' tk acc c Ts (fun b o _ bz' bo' b1' b2' e => kp b o bz' bo' b1' b2' e) (kp _ _ Sz SO Si1 Si2 hS) hacc (by omega) (pr.keep fun b o hb' e => kp b o (ne_lo bz hb') (ne_lo bO hb') (ne_lo b1 hb') (ne_lo b2 hb') e)
  | succ m ih =>
    intro i s acc c Ts hi zs zI q1 q2 hS hacc hl pr hb k
    refine codeAny_builtin F.entry_extend_loop ?_
    rw [Around.under_plainId F.plain_extend_loop _]
    show wpAny _ A.in1 (pyNext (.ref z) >>= _) _ _ s
    refine wpAny_bind (z_item Sp D1 D2 zs (Heap.lt_size hS) zI q1 q2 (by omega) (by omega) fun x1 x2 h' tk y1 y2 zs' d1 d2 pT sz kp => ?_)
    have hS' := kp _ _ Sz SO Si1 Si2 hS
    show wpAny _ A.in1 (updateSeq S (·.push (.ref s.heap.objs.size)) >>= _) _ _ { s with heap := h', toks := tk }
    have hasz : acc.size = i := by rw [← Array.length_toList, hacc, List.length_map, hl]
    have up : ∀ b o, b ≠ S → h'.get? b = some o → (h'.update S (Obj.mapSeq (·.push (Value.ref s.heap.objs.size)))).get? b = some o := fun b o hbS e => (Heap.get?_update_other _ _ (Ne.symm hbS)).trans e
    have usz : (h'.update S (Obj.mapSeq (·.push (Value.ref s.heap.objs.size)))).objs.size = h'.objs.size := (Heap.SameBut.update ..).1
    refine wpAny_bind (wpAny_updateSeq (s := { s with heap := h', toks := tk }) hS' rfl (wpAny_pure ⟨plainId_quiet F.plain_extend_loop _, ?_⟩) (by omega) (by show (acc.push _).size ≤ sizeLine + 1; rw [Array.size_push]; omega))
    refine ih (i + 1) { s with heap := h'.update S (Obj.mapSeq (·.push (Value.ref s.heap.objs.size))), toks := tk } (acc.push (.ref s.heap.objs.size)) _ (Ts ++ [s.heap.objs.size]) (by omega) ?_ ?_ ?_ ?_ (Heap.get?_update_self _ hS' rfl) ?_ ?_ ?_ ?_ fun h2 tk2 acc2 c2 Ts2 kp2 hS2 ha2 hl2 pr2 => ?_
    · rcases zs' with ⟨zz, a1, a2, zO⟩ | ⟨T, f, oT, zz, zT, nz, nO, n1', n2', nS⟩
      · exact .inl ⟨up _ _ (Ne.symm Sz) zz, a1, a2, up _ _ (Ne.symm SO) zO⟩
      · exact .inr ⟨T, f, oT, up _ _ (Ne.symm Sz) zz, up _ _ nS zT, nz, nO, n1', n2', nS⟩
    · exact up _ _ (Ne.symm SI) (kp _ _ Sp.TIz Sp.TITO Sp.TIi1 Sp.TIi2 zI)
    · exact D1.frame _ _ _ d1 fun b hb' o e => up b o (fun q => S1 (q ▸ hb')) e
    · exact D2.frame _ _ _ d2 fun b hb' o e => up b o (fun q => S2 (q ▸ hb')) e
    · rw [Array.toList_push, hacc, List.map_append]; rfl
    · simp [hl]
    · exact pr.snoc (fun b o hb' e => up b o (ne_lo bS hb') (kp b o (ne_lo bz hb') (ne_lo bO hb') (ne_lo b1 hb') (ne_lo b2 hb') e)) hb (by rw [hl]; exact y1) (by rw [hl]; exact y2) (up _ _ (Nat.ne_of_gt (Nat.lt_of_lt_of_le bS hb)) pT)
    · show base ≤ (h'.update S (Obj.mapSeq (·.push (Value.ref s.heap.objs.size)))).objs.size
      rw [usz, sz]; omega
    · exact k h2 tk2 acc2 c2 Ts2 (fun b o bS' bz' bo' b1' b2' e => kp2 b o bS' bz' bo' b1' b2' (up b o bS' (kp b o bz' bo' b1' b2' e))) hS2 ha2 hl2 pr2
end
end MnZ
set_option Elab.async false
set_option linter.all false
set_option maxRecDepth 100000
set_option maxHeartbeats 1000000
namespace MnZ
open PySem
open Sem (wp)
theorem zip_no_len : typeLookup (.type "zip") "__len__" = pure none := am_miss_of_fast (by decide +kernel)
theorem zip_no_hint : typeLookup (.type "zip") "__length_hint__" = pure none := am_miss_of_fast (by decide +kernel)
structure Fin2 (P1 P2 : Nat → Value → Prop) (base n : Nat) (h : Heap) (S : Addr) (Ts : List Addr) : Prop where
  lst : ∃ (acc : Array Value) (c : Nat), h.get? S = some { cls := .type "list", dict := none, data := .seq acc c, slots := #[] } ∧ acc.toList = Ts.map Value.ref
  len : Ts.length = n
  prs : Prs P1 P2 base h Ts
section
variable {prog : Program} {w : World} {A : Around} {E : Value → Shared → Prop} {s : Shared} {z TI TO S i1 i2 : Addr} {fp1 fp2 : List Addr} {n1 n2 base : Nat} {P1 P2 : Nat → Value → Prop} {St1 St2 : Nat → Heap → Prop} {R : Result → Shared → Prop}
theorem zl_extend (Sp : ZipSep2 z TI TO i1 i2 fp1 fp2) (D1 : Draws prog w A.in1.in1 i1 fp1 n1 P1 St1) (D2 : Draws prog w A.in1.in1 i2 fp2 n2 P2 St2) (hn : min n1 n2 ≤ sizeLine) (res : Value)
    (S1 : S ∉ fp1) (S2 : S ∉ fp2) (Sz : S ≠ z) (SI : S ≠ TI) (SO : S ≠ TO) (Si1 : S ≠ i1) (Si2 : S ≠ i2) (bS : S < s.heap.objs.size) (b1 : i1 < s.heap.objs.size) (b2 : i2 < s.heap.objs.size) (c₀ : Nat)
    (hS : s.heap.get? S = some { cls := .type "list", data := .seq #[] c₀ }) (zz : IsZip s.heap z TI TO .none) (zO : ∃ a1 a2, IsTupOf2 s.heap TO a1 a2) (zI : IsTupOf2 s.heap TI (.ref i1) (.ref i2)) (q1 : St1 0 s.heap) (q2 : St2 0 s.heap)
    (k : ∀ h' tk Ts, (∀ b o, b ≠ S → b ≠ z → b ≠ TO → b ≠ i1 → b ≠ i2 → s.heap.get? b = some o → h'.get? b = some o) → Fin2 P1 P2 s.heap.objs.size (min n1 n2) h' S Ts → R (.ok (.ret res)) { s with heap := h', toks := tk }) :
    wpAny (model prog w) A.in1 (Builtin.List.listExtendWith (.ref S) (.ref z) res) (fun fin s' => match fin with | .done f => R (.ok f) s' | .again c' => c'.quiet = true ∧ codeAny (model prog w) A c' R s') (fun e s' => R (.error e) s') s := by
  have ty : s.TypeIs (.ref z) "zip" := ⟨_, zz, rfl⟩
  have lt : ∀ {c o}, s.heap.get? c = some o → c < s.heap.objs.size := fun e => Heap.lt_size e
  obtain ⟨a1, a2, zO'⟩ := zO
  unfold Builtin.List.listExtendWith
  refine wpAny_bind (wpAny_typeOf ty ?_)
  have w1 : Builtin.List.listSameRef (.ref S) (.ref z) = false := by simp [Builtin.List.listSameRef, Sz]
  have w2 : (Value.type "zip" == Value.type "list") = false := by decide
  have w3 : (Value.type "zip" == Value.type "tuple") = false := by decide
  simp only [w1, w2, w3, Bool.or_false, Bool.false_eq_true, if_false]
  refine wpAny_bind (wpAny_pyIter_zip zz (wpAny_bind (wpAny_holding ?_)))
  unfold Builtin.List.listLengthHint
  refine wpAny_bind (wpAny_specialOf ty zip_no_len (show wpAny _ A.in1 (specialOf (Value.ref z) (Str.ofString "__length_hint__") >>= _) _ _ _ from wpAny_bind (wpAny_specialOf ty zip_no_hint (wpAny_pure ?_))))
  show wpAny _ A.in1 (rule "list.extend.makes-room" >>= fun _ => Builtin.List.listTouch (.ref S) >>= fun _ => again (.builtin "list.extend.loop" ⟨[.ref S, .ref z, res], []⟩)) _ _ s
  refine wpAny_bind (wpAny_rule (wpAny_bind (show wpAny _ A.in1 (updateSeq S (·.push .none) >>= fun _ => updateSeq S (·.pop)) _ _ _ from ?_)))
  refine wpAny_bind (wpAny_updateSeq hS rfl ?_)
  have u1 := Heap.get?_update_self (Obj.mapSeq (·.push Value.none)) hS rfl
  refine wpAny_updateSeq (hz := by seq_fits) u1 rfl ?_
  have u2 := Heap.get?_update_self (Obj.mapSeq (·.pop)) u1 rfl
  have oth : ∀ b o, b ≠ S → s.heap.get? b = some o → ((s.heap.update S (Obj.mapSeq (·.push Value.none))).update S (Obj.mapSeq (·.pop))).get? b = some o :=
    fun b o hb e => (Heap.get?_update_other _ _ (Ne.symm hb)).trans ((Heap.get?_update_other _ _ (Ne.symm hb)).trans e)
  have sz : ((s.heap.update S (Obj.mapSeq (·.push Value.none))).update S (Obj.mapSeq (·.pop))).objs.size = s.heap.objs.size := (Heap.SameBut.update ..).1.trans (Heap.SameBut.update ..).1
  refine wpAny_pure ⟨plainId_quiet F.plain_extend_loop _, zl_loop (base := s.heap.objs.size) Sp D1 D2 hn res S1 S2 Sz SI SO Si1 Si2 bS (lt zz) (lt zO') b1 b2 (min n1 n2) 0 _ _ _ [] (by omega)
    (.inl ⟨oth _ _ (Ne.symm Sz) zz, a1, a2, oth _ _ (Ne.symm SO) zO'⟩) (oth _ _ (Ne.symm SI) zI) (D1.frame _ _ _ q1 fun b hb' o e => oth b o (fun q => S1 (q ▸ hb')) e) (D2.frame _ _ _ q2 fun b hb' o e => oth b o (fun q => S2 (q ▸ hb')) e) u2 ?_ rfl
    ⟨List.Pairwise.nil, fun T hT => by simp at hT, fun j T e => by simp at e⟩ (by rw [sz]; exact Nat.le_refl _) fun h' tk acc' c' Ts' kp hS' ha hl pr => ?_⟩
  · simp
  · exact k h' tk Ts' (fun b o x1 x2 x3 x4 x5 e => kp b o x1 x2 x3 x4 x5 (oth b o x1 e)) ⟨⟨acc', c', hS', ha⟩, hl, pr⟩
theorem zl_call {Q : Value → Shared → Prop} (Sp : ZipSep2 z TI TO i1 i2 fp1 fp2) (D1 : ∀ A : Around, A.handled = none → Draws prog w A i1 fp1 n1 P1 St1) (D2 : ∀ A : Around, A.handled = none → Draws prog w A i2 fp2 n2 P2 St2) (hh : A.handled = none) (hn : min n1 n2 ≤ sizeLine)
    (f1 : ∀ b ∈ fp1, b < s.heap.objs.size) (f2 : ∀ b ∈ fp2, b < s.heap.objs.size)
    (zz : IsZip s.heap z TI TO .none) (zO : ∃ a1 a2, IsTupOf2 s.heap TO a1 a2) (zI : IsTupOf2 s.heap TI (.ref i1) (.ref i2)) (q1 : St1 0 s.heap) (q2 : St2 0 s.heap)
    (k : ∀ h' tk Ts, (∀ b o, b ≠ z → b ≠ TO → b ≠ i1 → b ≠ i2 → s.heap.get? b = some o → h'.get? b = some o) → Fin2 P1 P2 (s.heap.objs.size + 1) (min n1 n2) h' s.heap.objs.size Ts → Q (.ref s.heap.objs.size) { s with heap := h', toks := tk }) :
    wpAny (model prog w) A (call (.type "list") [.ref z]) Q E s := by
  have lt : ∀ {c o}, s.heap.get? c = some o → s.heap.objs.size ≠ c := fun e => Nat.ne_of_gt (Heap.lt_size e)
  refine callType_codes (Q₁ := fun obj s₁ => obj = .ref s.heap.objs.size ∧ s₁ = { s with heap := s.heap.push { cls := .type "list", data := .seq #[] } }) F.called_list (F.typeCall_list_1 _) F.entry_list_init
    (code_list_new _ ⟨rfl, rfl⟩) fun obj s₁ h₁ => ?_
  obtain ⟨rfl, rfl⟩ := h₁
  have hS : (s.heap.push { cls := .type "list", data := .seq #[] }).get? s.heap.objs.size = some { cls := .type "list", data := .seq #[] } := Heap.get?_push_size _ rfl
  have up : ∀ b o, s.heap.get? b = some o → (s.heap.push { cls := .type "list", data := .seq #[] }).get? b = some o := fun b o e => Heap.get?_push_of_some _ e
  refine ⟨⟨_, hS, rfl⟩, F.args_list_init_2 _ _, ?_⟩
  show wpAny _ A.in1.in1 (do let old ← Builtin.List.listItems (.ref s.heap.objs.size); Builtin.List.listUpdate (.ref s.heap.objs.size) (fun _ => #[]); letGo old.toList.reverse; Builtin.List.listExtendWith (.ref s.heap.objs.size) (.ref z) .none) _ _ _
  refine wpAny_bind ?_
  unfold Builtin.List.listItems
  refine wpAny_bind (wpAny_seqItems hS rfl (wpAny_pure ?_))
  show wpAny _ A.in1.in1 (updateSeq s.heap.objs.size (fun _ => #[]) >>= fun _ => letGo (#[] : Array Value).toList.reverse >>= fun _ => Builtin.List.listExtendWith (.ref s.heap.objs.size) (.ref z) .none) _ _ _
  refine wpAny_bind (wpAny_updateSeq hS rfl (wpAny_bind (wpAny_letGo ?_)))
  have u := Heap.get?_update_self (Obj.mapSeq (fun _ => (#[] : Array Value))) hS rfl
  have oth : ∀ b o, s.heap.get? b = some o → ((s.heap.push { cls := .type "list", data := .seq #[] }).update s.heap.objs.size (Obj.mapSeq (fun _ => (#[] : Array Value)))).get? b = some o :=
    fun b o e => (Heap.get?_update_other _ _ (lt e)).trans (up b o e)
  have sz : ((s.heap.push { cls := .type "list", data := .seq #[] }).update s.heap.objs.size (Obj.mapSeq (fun _ => (#[] : Array Value)))).objs.size = s.heap.objs.size + 1 := (Heap.SameBut.update ..).1.trans (Heap.size_push ..)
  obtain ⟨_, e1⟩ := (D1 A hh).live _ _ q1
  obtain ⟨_, e2⟩ := (D2 A hh).live _ _ q2
  obtain ⟨a1, a2, zO'⟩ := zO
  refine zl_extend (A := A.in1) Sp (D1 _ hh) (D2 _ hh) hn .none (fun hm => Nat.lt_irrefl _ (f1 _ hm)) (fun hm => Nat.lt_irrefl _ (f2 _ hm)) (lt zz) (lt zI) (lt zO') (lt e1) (lt e2) (by show s.heap.objs.size < _; rw [sz]; exact Nat.lt_succ_self _) ?_ ?_ _ u (oth _ _ zz) ⟨a1, a2, oth _ _ zO'⟩ (oth _ _ zI)
    ((D1 A hh).frame _ _ _ q1 fun b _ o e => oth b o e) ((D2 A hh).frame _ _ _ q2 fun b _ o e => oth b o e) fun h' tk Ts kp fin => ⟨rfl, ?_⟩
  · show i1 < _
    rw [sz]; exact Nat.lt_succ_of_lt (Heap.lt_size e1)
  · show i2 < _
    rw [sz]; exact Nat.lt_succ_of_lt (Heap.lt_size e2)
  · refine k h' tk Ts (fun b o x1 x2 x3 x4 e => kp b o (fun q => lt e q.symm) x1 x2 x3 x4 (oth b o e)) ?_
    rw [← sz]; exact fin
end
end MnZ
set_option Elab.async false
set_option linter.all false
set_option maxRecDepth 100000
set_option maxHeartbeats 1000000
namespace MnZ
open PySem PySem.Spec PyProof.Rows L2
def ov (H N : Hp) : Hp := fun b => match N b with
  | some o => some o
  | none => H b
theorem ov_new {H N : Hp} {b : Addr} {o : HO} (e : N b = some o) : ov H N b = some o := by unfold ov; rw [e]
theorem ov_old {H N : Hp} {b : Addr} (e : N b = none) : ov H N b = H b := by unfold ov; rw [e]
section
variable {X : Cx} {pins : List (Addr × Obj)} {σ : L2.St} {H N : Hp} {s : Shared} {h' : Heap} {t' : Nat}
theorem inv_laids (I : Inv X pins σ H s) (k : ∀ b u, s.heap.get? b = some u → h'.get? b = some u) (hN : ∀ b o, N b = some o → s.heap.objs.size ≤ b) (new : ∀ b o, N b = some o → ObjOk X.prog X.w (ov H N) h' b o) :
    Inv X pins σ (ov H N) { s with heap := h', toks := t' } := by
  have nn : ∀ b o, N b = some o → H b = none := fun b o e => I.hok.fresh (hN b o e)
  have kp : ∀ b o, H b = some o → ov H N b = some o := fun b o e => by
    cases q : N b with
    | none => rw [ov_old q]; exact e
    | some u => rw [nn b u q] at e; cases e
  refine I.un ⟨fun b o q _ _ _ => k b o q, fun b o q _ _ _ => ⟨o.slots, k b o q⟩, fun b o q n _ => ?_, fun b o q _ => ⟨o, k b o q⟩, fun b xs q => kp b _ q, fun b o u q => kp b _ q, fun b ps q => ⟨#[], by rw [kp b _ q]; simp⟩⟩ fun b u q => ?_
  · cases e : N b with
    | none => rw [ov_old e]; exact n
    | some u => exact absurd (Heap.lt_size q) (Nat.not_lt.mpr (hN b u e))
  · cases e : N b with
    | some o => rw [ov_new e] at q; cases q; exact new b _ e
    | none =>
      rw [ov_old e] at q
      exact (I.hok b u q).stay (fun d v _ y => k d v y) (fun d y => kp d _ y) fun d xs y => kp d _ y
end
def nw (p : Addr) (Ts : List Addr) (qs : List (V × V)) : Hp := fun b => if b = p then some (.lst (Ts.map V.ref)) else ((Ts.zip qs).lookup b).map fun q => .tup [q.1, q.2]
theorem look_at : ∀ {Ts : List Addr} {qs : List (V × V)} {j : Nat} {T : Addr} {q : V × V}, Ts.Nodup → Ts[j]? = some T → qs[j]? = some q → (Ts.zip qs).lookup T = some q
  | [], _, _, _, _, _, e, _ => by simp at e
  | _ :: _, [], _, _, _, _, _, e => by simp at e
  | t :: Ts, r :: qs, 0, T, q, _, e, e2 => by
    simp at e e2
    subst e e2
    simp [List.lookup]
  | t :: Ts, r :: qs, j + 1, T, q, nd, e, e2 => by
    have nd' := List.nodup_cons.mp nd
    have e' : Ts[j]? = some T := by simpa using e
    have ne : T ≠ t := fun z => nd'.1 (z ▸ List.mem_of_getElem? e')
    rw [List.zip_cons_cons, List.lookup_cons, beq_eq_false_iff_ne.mpr ne]
    exact look_at nd'.2 e' (by simpa using e2)
theorem look_in : ∀ {Ts : List Addr} {qs : List (V × V)} {b : Addr} {q : V × V}, (Ts.zip qs).lookup b = some q → ∃ j : Nat, Ts[j]? = some b ∧ qs[j]? = some q
  | [], _, _, _, e => by simp at e
  | _ :: _, [], _, _, e => by simp at e
  | t :: Ts, r :: qs, b, q, e => by
    rw [List.zip_cons_cons, List.lookup_cons] at e
    by_cases h : b = t
    · subst h
      rw [beq_self_eq_true] at e
      cases e
      exact ⟨0, rfl, rfl⟩
    · rw [beq_eq_false_iff_ne.mpr h] at e
      obtain ⟨j, e1, e2⟩ := look_in e
      exact ⟨j + 1, by simpa using e1, by simpa using e2⟩
def tLz (K : PySem.W.Frag) (ta : TA) : TE := fun σ H Q => ta σ H fun vs H1 => ∃ (a b : Addr) (xs ys : List V), vs = [.ref a, .ref b] ∧ SqT K H1 a xs ∧ SqT K H1 b ys ∧
  ∀ (H' : Hp) (p : Addr) (Ts : List Addr), (∀ b o, H1 b = some o → H' b = some o) → H1 p = none → H' p = some (.lst (Ts.map V.ref)) → Ts.length = min xs.length ys.length →
    (∀ (j : Nat) (T : Addr), Ts[j]? = some T → ∃ x y, xs[j]? = some x ∧ ys[j]? = some y ∧ H' T = some (.tup [x, y])) → Q (.ref p) H'
theorem vals_refs : ∀ as : List Addr, Vals (as.map V.ref) (as.map Value.ref)
  | [] => .nil
  | _ :: as => .cons rfl (vals_refs as)
theorem nm2 {x p q : Nat} (h1 : x ≠ p) (h2 : x ≠ q) : ¬ (x ∈ ([p, q] : List Nat)) := by simp only [List.mem_cons, List.not_mem_nil, or_false, not_or]; exact ⟨h1, h2⟩
theorem sep_of {n a b : Nat} (la : a < n) (lb : b < n) : ZipSep2 (n + 4) (n + 2) (n + 3) n (n + 1) [n, a] [n + 1, b] where
  TIz := show ¬ (n + 2 = n + 4) by omega
  TOz := show ¬ (n + 3 = n + 4) by omega
  TITO := show ¬ (n + 2 = n + 3) by omega
  TIi1 := show ¬ (n + 2 = n) by omega
  mem1 := List.mem_cons_self
  zf1 := (nm2 (by omega) (by omega) : ¬ ((n + 4 : Nat) ∈ ([n, a] : List Nat)))
  Tf1 := (nm2 (by omega) (by omega) : ¬ ((n + 3 : Nat) ∈ ([n, a] : List Nat)))
  TIi2 := show ¬ (n + 2 = n + 1) by omega
  mem2 := List.mem_cons_self
  zf2 := (nm2 (by omega) (by omega) : ¬ ((n + 4 : Nat) ∈ ([n + 1, b] : List Nat)))
  Tf2 := (nm2 (by omega) (by omega) : ¬ ((n + 3 : Nat) ∈ ([n + 1, b] : List Nat)))
  sep1_2 := (nm2 (by omega) (by omega) : ¬ ((n : Nat) ∈ ([n + 1, b] : List Nat)))
  sep2_1 := (nm2 (by omega) (by omega) : ¬ ((n + 1 : Nat) ∈ ([n, a] : List Nat)))
theorem pe_lz {X : Cx} {e e2 : Expr} {ta : TA} {p p2 pos pos2 : Pos} (hc : X.calm = true) (hg : Gl X "list") (hm : X.mg "list" = none) (hg2 : Gl X "zip") (hm2 : X.mg "zip" = none) (ha : PA X [e, e2] ta)
    (hs : starEach [.Call (.Name "zip" p2) [e, e2] [] pos2] X.env = (false, eval (.Call (.Name "zip" p2) [e, e2] [] pos2) X.env) :: starEach [] X.env := by rfl)
    (hs2 : starEach [e, e2] X.env = (false, eval e X.env) :: starEach [e2] X.env := by rfl) (hp2 : (backTo pos2 (starEach [e2] X.env)).any (·.1) = false := by rfl) :
    PE X (.Call (.Name "list" p) [.Call (.Name "zip" p2) [e, e2] [] pos2] [] pos) (tLz X.K ta) := by
  refine ⟨fun pins s σ H Q I h => ?_⟩
  refine wpAny_Call_Name_kw (ld_blt I hg hm (show bootBuiltins "list" = some (.type "list") by decide +kernel) ?_)
  refine PyProof.Rows.callWith_type1 ?_ hs rfl
  rw [hs]
  show wpAny _ _ (spliced ((false, eval (.Call (.Name "zip" p2) [e, e2] [] pos2) X.env) :: backTo pos (starEach [] X.env))) _ _ s
  refine Calls.spliced_cons (Call_ (ld_blt I hg2 hm2 PyProof.Rows.boot_zip (PyProof.Rows.callWith_type1 (thn (ha.run pos2 pins s σ H _ I h) fun us s1 ⟨vs, H1, I1, r1, a, b, xs, ys, ex, sx, sy, q1⟩ => ?_) hs2 hp2)))
  subst ex
  cases r1 with
  | cons r rr =>
    cases rr with
    | cons r' rr =>
      cases rr
      cases r
      cases r'
      obtain ⟨its, rv, t1, z1⟩ := I1.tuple sx
      obtain ⟨its2, rv2, t2, z2⟩ := I1.tuple sy
      have la : a < s1.heap.objs.size := t1.lt
      have lb : b < s1.heap.objs.size := t2.lt
      have hh : X.A.handled = none := I1.ok.hd hc
      refine zip_begins2 (begins_tuple a its.toArray) (begins_tuple b its2.toArray) t1 t2 fun h' zz zI zO g1 g2 zs kp => ?_
      refine Calls.spliced_nil ?_
      have c1 : h'.IsTupleIter s1.heap.objs.size a 0 := ⟨_, g1, rfl, rfl⟩
      have c2 : h'.IsTupleIter (s1.heap.objs.size + 1) b 0 := ⟨_, g2, rfl, rfl⟩
      have hne1 : a ≠ s1.heap.objs.size := Nat.ne_of_lt la
      have hne2 : b ≠ s1.heap.objs.size + 1 := Nat.ne_of_lt (Nat.lt_succ_of_lt lb)
      have m1 : min its.toArray.size its2.toArray.size = min xs.length ys.length := by simp [rv.length, rv2.length]
      refine zl_call (s := { s1 with heap := h' }) (sep_of la lb) (fun A hA => Draws.tuple hA _ a hne1 its.toArray) (fun A hA => Draws.tuple hA _ b hne2 its2.toArray) hh (by rw [m1]; omega) ?_ ?_ zz ⟨_, _, zO⟩ zI ⟨c1, ?_⟩ ⟨c2, ?_⟩ fun h2 tk Ts k2 fin => ?_
      · intro c hcm
        show c < h'.objs.size
        rw [zs]
        have la' : (a : Nat) < s1.heap.objs.size := la
        rcases List.mem_cons.mp hcm with q | q
        · rw [q]; exact Nat.lt_add_of_pos_right (by decide)
        · rw [List.mem_singleton.mp q]; exact Nat.lt_add_right 5 la
      · intro c hcm
        show c < h'.objs.size
        rw [zs]
        rcases List.mem_cons.mp hcm with q | q
        · rw [q]; exact Nat.add_lt_add_left (by decide : 1 < 5) _
        · rw [List.mem_singleton.mp q]; exact Nat.lt_add_right 5 lb
      · obtain ⟨o, ho, r⟩ := t1
        exact ⟨o, kp _ _ ho, r⟩
      · obtain ⟨o, ho, r⟩ := t2
        exact ⟨o, kp _ _ ho, r⟩
      · obtain ⟨⟨acc, c, hS, hacc⟩, hl, pr⟩ := fin
        have zs' : ({ s1 with heap := h' } : Shared).heap.objs.size = s1.heap.objs.size + 5 := zs
        rw [zs'] at hS pr
        rw [m1] at hl
        have nd : Ts.Nodup := pr.up.imp fun {x y} (q : x < y) => Nat.ne_of_lt q
        have hql : (xs.zip ys).length = min xs.length ys.length := List.length_zip
        have qat : ∀ j T, Ts[j]? = some T → ∃ x y, xs[j]? = some x ∧ ys[j]? = some y ∧ (xs.zip ys)[j]? = some (x, y) := fun j T e => by
          have hj : j < min xs.length ys.length := by rw [← hl]; exact (List.getElem?_eq_some_iff.mp e).1
          have h1 : j < xs.length := by omega
          have h2 : j < ys.length := by omega
          exact ⟨xs[j], ys[j], List.getElem?_eq_getElem h1, List.getElem?_eq_getElem h2, by rw [List.getElem?_eq_getElem (by rw [hql]; exact hj), List.getElem_zip]⟩
        have kk : ∀ c o, s1.heap.get? c = some o → h2.get? c = some o := fun c o e => by
          have lc : (c : Nat) < s1.heap.objs.size := Heap.lt_size e
          exact k2 c o (Nat.ne_of_lt (Nat.lt_add_right 4 lc)) (Nat.ne_of_lt (Nat.lt_add_right 3 lc)) (Nat.ne_of_lt lc) (Nat.ne_of_lt (Nat.lt_add_right 1 lc)) (kp c o e)
        have pn : ∀ T ∈ Ts, T ≠ s1.heap.objs.size + 5 := fun T hT q => by
          have := pr.at_ T hT
          rw [q] at this
          exact Nat.lt_irrefl _ this
        have nT : ∀ j T x y, Ts[j]? = some T → (xs.zip ys)[j]? = some (x, y) → nw (s1.heap.objs.size + 5) Ts (xs.zip ys) T = some (.tup [x, y]) := fun j T x y e e2 => by
          unfold nw
          rw [if_neg (pn T (List.mem_of_getElem? e)), look_at nd e e2]
          rfl
        have nS : nw (s1.heap.objs.size + 5) Ts (xs.zip ys) (s1.heap.objs.size + 5) = some (.lst (Ts.map V.ref)) := by unfold nw; rw [if_pos rfl]
        have hN : ∀ b' o, nw (s1.heap.objs.size + 5) Ts (xs.zip ys) b' = some o → (b' = s1.heap.objs.size + 5 ∧ o = .lst (Ts.map V.ref)) ∨ ∃ j x y, Ts[j]? = some b' ∧ xs[j]? = some x ∧ ys[j]? = some y ∧ o = .tup [x, y] := fun b' o e => by
          unfold nw at e
          by_cases hb : b' = s1.heap.objs.size + 5
          · rw [if_pos hb] at e; cases e; exact .inl ⟨hb, rfl⟩
          · rw [if_neg hb] at e
            obtain ⟨q, e1, e2⟩ := Option.map_eq_some_iff.mp e
            obtain ⟨j, j1, j2⟩ := look_in e1
            obtain ⟨x, y, ex, ey, ez⟩ := qat j b' j1
            rw [ez] at j2
            cases j2
            exact .inr ⟨j, x, y, j1, ex, ey, e2.symm⟩
        have J := inv_laids (t' := tk) (N := nw (s1.heap.objs.size + 5) Ts (xs.zip ys)) I1 kk (fun b' o e => by
          rcases hN b' o e with ⟨q, _⟩ | ⟨j, x, y, j1, _⟩
          · rw [q]; exact Nat.le_add_right _ _
          · exact Nat.le_trans (Nat.le_add_right _ 6) (pr.at_ b' (List.mem_of_getElem? j1))) fun b' o e => by
            rcases hN b' o e with ⟨q, rfl⟩ | ⟨j, x, y, j1, ex, ey, rfl⟩
            · rw [q]
              refine ⟨by rw [List.length_map, hl]; omega, acc.toList, c, by rw [hacc]; exact vals_refs Ts, ?_⟩
              rw [Array.toArray_toList]
              exact hS
            · obtain ⟨x1, x2, p1, p2', pT⟩ := pr.pr j b' j1
              obtain ⟨u1, e1, r1⟩ := rv.get ex
              obtain ⟨u2, e2, r2⟩ := rv2.get ey
              have p1' : its.toArray[j]? = some x1 := p1
              have p2'' : its2.toArray[j]? = some x2 := p2'
              have f1 : u1 = x1 := by simpa [e1] using p1'
              have f2 : u2 = x2 := by simpa [e2] using p2''
              subst f1 f2
              exact ⟨by show 2 ≤ sizeLine; decide, [u1, u2], .cons r1 (.cons r2 .nil), ⟨_, pT, rfl, _, rfl⟩⟩
        refine ⟨.ref (s1.heap.objs.size + 5), _, J, by rw [zs']; rfl, q1 _ (s1.heap.objs.size + 5) Ts (fun b' o e => ?_) (I1.hok.fresh (Nat.le_add_right _ _)) (ov_new nS) hl fun j T e => ?_⟩
        · cases q : nw (s1.heap.objs.size + 5) Ts (xs.zip ys) b' with
          | none => rw [ov_old q]; exact e
          | some u =>
            have hlo : s1.heap.objs.size ≤ b' := by
              rcases hN b' u q with ⟨q', _⟩ | ⟨j, x, y, j1, _⟩
              · rw [q']; exact Nat.le_add_right _ _
              · exact Nat.le_trans (Nat.le_add_right _ 6) (pr.at_ b' (List.mem_of_getElem? j1))
            rw [I1.hok.fresh hlo] at e
            cases e
        · obtain ⟨x, y, ex, ey, ez⟩ := qat j T e
          exact ⟨x, y, ex, ey, ov_new (nT j T x y e ez)⟩
end MnZ
set_option Elab.async false
set_option linter.all false
set_option maxRecDepth 100000
set_option maxHeartbeats 1000000
namespace Mn
open PySem PySem.Spec L2 PyProof.Rows
section
variable {G : Gm} {as as' : List Addr} {H H' : Hp} {h h' : PH}
theorem repVs_of : ∀ {xs : List PV} {vs : List V}, xs.length = vs.length → (∀ (j : Nat) (x : PV) (v : V), xs[j]? = some x → vs[j]? = some v → RepV G as H x v) → RepVs G as H xs vs
  | [], [], _, _ => .nil
  | x :: xs, v :: vs, hl, k => .cons (k 0 x v rfl rfl) (repVs_of (by simpa using hl) fun j y w e1 e2 => k (j + 1) y w (by simpa using e1) (by simpa using e2))
  | [], _ :: _, hl, _ => by simp at hl
  | _ :: _, [], hl, _ => by simp at hl
theorem SR.newE (s : SR G as H h) (e : ∀ b o, H b = some o → H' b = some o) {p : Addr} {o : PO} (hp : H p = none) (r : RepO G (as ++ [p]) H' o p) : Fut G as H (as ++ [p]) H' (h ++ [o]) ∧ RepV G (as ++ [p]) H' (.ref h.length) (.ref p) := by
  have kp : Kp H H' := ⟨fun b xs q => e b _ q, fun b o u q => e b _ q⟩
  have there : ∀ l a, as[l]? = some a → H a ≠ none := fun l a ea => by
    have hl : l < h.length := by rw [← s.len]; exact (List.getElem?_eq_some_iff.mp ea).1
    exact (s.at_ l _ a (List.getElem?_eq_getElem hl) ea).there
  have hn : p ∉ as := fun hm => by
    obtain ⟨l, e1⟩ := List.getElem?_of_mem hm
    exact there l p e1 hp
  have pr : as <+: as ++ [p] := List.prefix_append _ _
  refine ⟨⟨pr, kp, ⟨?_, by simp [s.len], fun l ob a e1 e2 => ?_⟩, fun b hb hnb => ?_, fun b ob q _ => e b ob q⟩, ?_⟩
  · rw [List.nodup_append]
    exact ⟨s.nd, by simp, fun a ha b hb q => by rw [List.mem_singleton.mp hb] at q; exact hn (q ▸ ha)⟩
  · by_cases hl : l < as.length
    · rw [List.getElem?_append_left hl] at e2
      rw [List.getElem?_append_left (by rw [← s.len]; exact hl)] at e1
      have t := there l a e2
      cases q : H a with
      | none => exact absurd q t
      | some u => exact (s.at_ l ob a e1 e2).mono pr kp ((e a u q).trans q.symm)
    · have hl2 : l = as.length := by
        have := (List.getElem?_eq_some_iff.mp e2).1
        simp at this
        omega
      subst hl2
      rw [s.len, List.getElem?_append_right (Nat.le_refl _)] at e1
      rw [List.getElem?_append_right (Nat.le_refl _)] at e2
      simp at e1 e2
      subst e1 e2
      exact r
  · rcases List.mem_append.mp hb with q | q
    · exact absurd q hnb
    · rw [List.mem_singleton.mp q]; exact hp
  · unfold RepV
    exact ⟨p, by rw [← s.len, List.getElem?_append_right (Nat.le_refl _)]; simp, rfl⟩
end
section
variable {G : Gm} {T : Tb} {nm : Nm} {call : Nat → List PV → PH → Res PV} {fx : Fx} {X : Cx} {E : XK} {W : Nat}
theorem okE_lz (O : XOk G T nm call fx X E) {es : List Ex} {x y : Expr} {p p2 pos pos2 : Pos} (hx : isStar x = false) (hy : isStar y = false) (hg : glB fx.names "list" = true) (hg2 : glB fx.names "zip" = true) (ha : PA X [x, y] (tA G E (evEs T call es))) :
    PE X (.Call (.Name "list" p) [.Call (.Name "zip" p2) [x, y] [] pos2] [] pos) (tE G E (evE T call (.lz es))) := by
  refine (MnZ.pe_lz O.calm (gl_ok O hg) (O.bl .list) (gl_ok O hg2) O.zp ha (star_cons rfl) (star_cons hx) (noStars (by simp [hy]))).imp fun σ H Q ⟨as, ρ, h, S, R, o⟩ => ?_
  simp only [evE] at o
  refine ⟨as, ρ, h, S, R, Ok.bind o fun vs h1 as1 H1 vs' f1 r1 o1 => ?_⟩
  split at o1
  · rename_i xs ys
    obtain ⟨v, w, rfl, rv, rw'⟩ := r1.two
    obtain ⟨a, us, rfl, sa, ra⟩ := rv.tupE
    obtain ⟨b, ws, rfl, sb, rb⟩ := rw'.tupE
    refine ⟨a, b, us, ws, rfl, by rw [O.K]; exact sa, by rw [O.K]; exact sb, fun H' q Ts ext hq eq hl pr => ?_⟩
    have kp : Kp H1 H' := ⟨fun b xs q => ext b _ q, fun b o u q => ext b _ q⟩
    have r0 : RepO G (as1 ++ [q]) H' (.lst (List.zipWith (fun x y => .tup [x, y]) xs ys)) q := by
      refine ⟨Ts.map V.ref, eq, repVs_of (by simp [ra.length, rb.length, hl]) fun j z v e1 e2 => ?_⟩
      rw [List.getElem?_map] at e2
      obtain ⟨t, et, rfl⟩ := Option.map_eq_some_iff.mp e2
      obtain ⟨u1, u2, g1, g2, g3⟩ := pr j t et
      rw [List.getElem?_zipWith] at e1
      split at e1
      · rename_i x1 y1 k1 k2
        cases e1
        obtain ⟨v1, m1, n1⟩ := ra.get k1
        obtain ⟨v2, m2, n2⟩ := rb.get k2
        rw [g1] at m1
        rw [g2] at m2
        cases m1
        cases m2
        unfold RepV
        exact ⟨t, _, rfl, .of g3, .cons (n1.mono (List.prefix_append _ _) kp) (.cons (n2.mono (List.prefix_append _ _) kp) .nil)⟩
      · cases e1
    obtain ⟨f2, r2⟩ := f1.sr.newE ext hq r0
    exact okn o1 f2 r2
  · exact False.elim o1
def par3B (names : List (Str × NameKind)) (x y z : Str) (px py pz : Pos) (a b c : Expr) : Bool := locB names x && locB names y && locB names z && decide (x ≠ y) && decide (x ≠ z) && decide (y ≠ z) && (py.line == px.line) && (pz.line == px.line) && !isStar a && !isStar b && !isStar c && !(foldedForSure 8 a && foldedForSure 8 b && foldedForSure 8 c) && !(constantsAlone 8 a && constantsAlone 8 b && constantsAlone 8 c)
theorem par3_ok {env : Env} {x y z : Str} {px py pz p p2 : Pos} {k k2 : Nat} {a b c : Expr} (hk : env.scope.kind = .function) (h : par3B env.scope.names x y z px py pz a b c = true) : swappedStores [.Tuple [.Name x px, .Name y py, .Name z pz] k p] (.Tuple [a, b, c] k2 p2) env = pure (some [x, y, z]) := by
  unfold par3B at h
  simp only [Bool.and_eq_true, Bool.not_eq_true', decide_eq_true_eq] at h
  obtain ⟨⟨⟨⟨⟨⟨⟨⟨⟨⟨⟨⟨h1, h2⟩, h3⟩, h4⟩, h5⟩, h6⟩, h7⟩, h8⟩, h9⟩, h10⟩, h11⟩, h12⟩, h13⟩ := h
  have k1 : env.kindOf x = some .local := locB_ok h1
  have k2 : env.kindOf y = some .local := locB_ok h2
  have k3 : env.kindOf z = some .local := locB_ok h3
  have hb := bk_fn hk
  have ha : ([a, b, c].any fun e => match e with | .Starred .. => true | _ => false) = false := by
    have q : ∀ e : Expr, isStar e = false → (match e with | .Starred .. => true | _ => false) = false := fun e he => by cases e <;> first | rfl | cases he
    simp only [List.any_cons, List.any_nil, q a h9, q b h10, q c h11, Bool.or_false]
  have hf : [a, b, c].all (foldedForSure 8) = false := by simpa [Bool.and_assoc] using h12
  have hc : [a, b, c].all (constantsAlone 8) = false := by simpa [Bool.and_assoc] using h13
  have ed : [x, y, z].eraseDups.length = 3 := by
    have e1 : (y == x) = false := beq_eq_false_iff_ne.mpr fun q => h4 q.symm
    have e2 : (z == x) = false := beq_eq_false_iff_ne.mpr fun q => h5 q.symm
    have e3 : (z == y) = false := beq_eq_false_iff_ne.mpr fun q => h6 q.symm
    simp [List.eraseDups_cons, e1, e2, e3]
  have hb2 : (env.blockKind != ScopeKind.function) = false := by rw [hb]; rfl
  have l1 : (px.line == px.line) = true := by simp
  have l2 : (py.line == px.line) = true := h7
  have l3 : (pz.line == px.line) = true := h8
  unfold swappedStores
  dsimp only
  simp only [hb2]
  generalize hA : List.any [a, b, c] _ = A
  have eA : A = false := by rw [← hA]; exact ha
  generalize hN : List.filterMap _ [Expr.Name x px, Expr.Name y py, Expr.Name z pz] = N
  have eN : N = [x, y, z] := by
    rw [← hN]
    simp only [List.filterMap_cons, List.filterMap_nil, k1, k2, k3, List.head?, Option.map, Option.getD, Expr.pos, l1, l2, l3]
    rfl
  rw [eA, eN, hf, hc]
  simp only [ed]
  rfl
theorem RepVs.three {as : List Addr} {H : Hp} {x y z : PV} {xs : List V} (r : RepVs G as H [x, y, z] xs) : ∃ v w u, xs = [v, w, u] ∧ RepV G as H x v ∧ RepV G as H y w ∧ RepV G as H z u := by
  unfold RepVs at r
  obtain ⟨v, rest, rfl, r1, r2⟩ := r
  obtain ⟨w, u, rfl, r3, r4⟩ := r2.two
  exact ⟨v, w, u, rfl, r1, r3, r4⟩
theorem okS_par3 (O : XOk G T nm call fx X E) {es : List Ex} {i j l : Nat} {x y z : Str} {px py pz p p2 pos : Pos} {k k2 : Nat} {a b c : Expr} (hi : fx.N[i]? = some x) (hj : fx.N[j]? = some y) (hl : fx.N[l]? = some z) (hp : par3B fx.names x y z px py pz a b c = true) (ha : PA X [a, b, c] (tA G E (evEs T call es))) :
    PS X (.Assign [.Tuple [.Name x px, .Name y py, .Name z pz] k p] (.Tuple [a, b, c] k2 p2) pos) (tS G E (exS T call W (.asg (.tp [i, j, l]) (.tup es)))) := by
  have hp2 := hp
  unfold par3B at hp2
  simp only [Bool.and_eq_true, Bool.not_eq_true', decide_eq_true_eq] at hp2
  obtain ⟨⟨⟨⟨⟨⟨⟨⟨⟨⟨⟨⟨h1, h2⟩, h3⟩, h4⟩, h5⟩, h6⟩, _⟩, _⟩, _⟩, _⟩, _⟩, _⟩, _⟩ := hp2
  have hij : i ≠ j := fun e => by subst e; rw [hi] at hj; exact h4 (Option.some.inj hj)
  have hil : i ≠ l := fun e => by subst e; rw [hi] at hl; exact h5 (Option.some.inj hl)
  have hjl : j ≠ l := fun e => by subst e; rw [hj] at hl; exact h6 (Option.some.inj hl)
  refine (ps_par3 (i := i) (j := j) (l := l) O.calm O.nd (by rw [O.N]; exact hi) (by rw [O.N]; exact hj) (by rw [O.N]; exact hl) hij hil hjl (by rw [O.names]; exact locB_ok h1) (by rw [O.names]; exact locB_ok h2) (by rw [O.names]; exact locB_ok h3) ha
    (par3_ok O.kind (by rw [O.names]; exact hp))).imp fun D σ H ⟨as, ρ, h, S, R, o⟩ => ?_
  simp only [exS, evE, Res.bind_assoc] at o
  refine ⟨as, ρ, h, S, R, Ok.bind o fun vs h1 as1 H1 vs' f1 r1 o1 => ?_⟩
  split at o1
  · simp only [Res.bind_ok, asgTa, bindTg] at o1
    split at o1
    · rename_i ρ1 qb
      split at qb
      · rename_i hl2
        cases qb
        have hlen : vs.length = 3 := by simpa using hl2
        match vs, hlen, r1, o1 with
        | [v, w, u], _, r1, o1 =>
          obtain ⟨v', w', u', rfl, rv, rw', ru⟩ := RepVs.three r1
          exact ⟨v', w', u', rfl, o1 as1 H1 (.nx _) (Fut.refl f1.sr) ((((R.fut f1).set i rv).set j rw').set l ru)⟩
      · cases qb
    · exact False.elim o1
  · exact False.elim o1
end
end Mn
set_option Elab.async false
set_option linter.all false
set_option maxRecDepth 100000
set_option maxHeartbeats 1000000
namespace Mn
open PySem PySem.Spec L2 PyProof.Rows
theorem cspecF {M : Model} {A : Around} {E : Value → Shared → Prop} {s : Shared} {self : Value} {name : PySem.Str} {f : Addr} {args : List Value} {Q : Option Value → Shared → Prop} (sp : PySem.W.Looks M s.heap (specialOf self name) (some (.ref f))) (hb : PySem.W.Looks M s.heap (bindSpecial (.ref f) self) (.ref f, [self]))
    (hc : wpAny M A (call (.ref f) (self :: args)) (fun v => Q (some v)) E s) : wpAny M A (callSpecial? self name args) Q E s := by
  unfold callSpecial?
  refine wpAny_bind (sp.here ?_)
  dsimp only
  refine wpAny_holding (wpAny_bind (hb.here (wpAny_bind (wpAny_mono hc (fun v s' h' => wpAny_pure h') fun _ _ h' => h'))))
section
variable {X : Cx} {CX : CXT} {k : Nat} {C g a dx : Addr} {fs : List (Str × V)} {fd : FuncData} {ps : List Str} {sp : Sp} {E : XK} {e : Expr} {pos : Pos} {ta : TE}
theorem lenO_ok {pins : List (Addr × Obj)} {σ : L2.St} {H : Hp} {s : Shared} {Q : VK} {E' : Value → Shared → Prop} (I : Inv X pins σ H s) (ea : H a = some (.ins C dx fs)) (m : Meth X.K C "__len__" g)
    (F : FnOk X.prog X.w X.K X.mg X.base CX k g fd ps sp) (hr : Room (k + 1) X.A) (hb : Binds X.K fd ps []) (hx : Passes CX X.nox E) (h : sp [.ref a] H (fun v H2 => ∃ i : Int, v = .int i ∧ 0 ≤ i ∧ i < 2 ^ 63 ∧ Q (.int i) H2) E) :
    wpAny (model X.prog X.w) X.A (call (.builtin "len") [.ref a]) (EP X pins σ Q) E' s := by
  obtain ⟨mA, O, _, _, _, _⟩ := ins_get I.hok ea
  obtain ⟨od, J, _⟩ := O.look
  have hl : ([Value.ref a] ++ []).length = ps.length := by
    rw [← F.len _ _ _ _ h]
    rfl
  have sp1 : PySem.W.Looks (model X.prog X.w) s.heap (specialOf (.ref a) "__len__") (some (.ref g)) := J.type.andThen (PySem.W.looks_findIn I.kIn m.at_)
  refine Calls.call_function_entry kind_len plain_len entry_len (args_len1 _) ?_
  unfold Builtin.«len»
  refine wpAny_bind (m := oneArg "len" _) (wpAny_pure ?_)
  refine wpAny_bind (m := callSpecial? (.ref a) (PySem.Str.ofString "__len__")) (cspecF sp1 (PySem.W.bind_fn I.kIn _ (eq_of_beq m.fn)) (wpAny_call ?_))
  refine codeAny_mono (F.run X.A.in1 X.stack s H ⟨[.ref a], []⟩ [Value.ref a] [.ref a] (fun v H2 => ∃ i : Int, v = .int i ∧ 0 ≤ i ∧ i < 2 ^ 63 ∧ Q (.int i) H2) E hr.in1 I.env0.in1 (hb _ [.ref a] I.kIn hl) (.cons (show RelV (.ref a) (.ref a) from rfl) .nil) h) fun r s' hq => ?_
  cases r with
  | error er => exact False.elim (hx pins σ H s er s' (I.wish _) hq)
  | ok fl =>
    cases fl with
    | ret u =>
      obtain ⟨v, H', I3, rv, i, rfl, h0, h1, q3⟩ := I.after hq
      obtain ⟨t, rfl⟩ : ∃ t, u = .int i t := rv
      dsimp only
      refine wpAny_bind (wpAny_holding (wpAny_pure ?_))
      refine wpAny_bind (wpAny_letGo ?_)
      have n0 : ¬ i < 0 := by omega
      have n1 : ¬ i ≥ 2 ^ 63 := by omega
      simp only [n0, n1, if_false]
      exact wpAny_bind (wpAny_mkInt (wpAny_pure ⟨_, rfl, .int i, H', I3.tok _, ⟨_, rfl⟩, q3⟩))
    | next => exact False.elim hq
    | brk => exact False.elim hq
    | cont => exact False.elim hq
end
end Mn
set_option Elab.async false
set_option linter.all false
set_option maxRecDepth 100000
set_option maxHeartbeats 1000000
namespace Mn
open PySem PySem.Spec L2 PyProof.Rows
theorem ext_spl (xs ys : List Value) (a c : Nat) : (xs.toArray.extract 0 a ++ ys.toArray) ++ xs.toArray.extract c xs.toArray.size = ((xs.take a ++ ys) ++ xs.drop c).toArray := splice_eq xs ys a c
section
variable {X : Cx} {pins : List (Addr × Obj)} {s : Shared} {σ : L2.St} {H : Hp}
theorem setSl_run {A : Around} {E : Value → Shared → Prop} {l b sl : Addr} {its its2 : List Value} {n n2 : Nat} {vl vu : Value} {lo hi : Option Int} {Q : Unit → Shared → Prop}
    (e : s.heap.get? l = some { cls := .type "list", data := .seq its.toArray n }) (e2 : s.heap.get? b = some { cls := .type "list", data := .seq its2.toArray n2 }) (hne : l ≠ b) (hs : s.heap.IsSliceOf sl vl vu .none) (pl : IsPart vl lo) (pu : IsPart vu hi)
    (hz : its.length + its2.length ≤ sizeLine) (h : Q () { s with heap := s.heap.update l (Obj.mapSeq fun xs => (xs.extract 0 (HT.sIx its.length 0 lo) ++ its2.toArray) ++ xs.extract (max (HT.sIx its.length 0 lo) (HT.sIx its.length its.length hi)) xs.size) }) :
    wpAny (model X.prog X.w) A (setItem (.ref l) (.ref sl) (.ref b)) Q E s := by
  have il : s.heap.IsList l its.toArray := IsL.isList e
  have ib : s.heap.IsList b its2.toArray := IsL.isList e2
  have szs : its.toArray.size + its2.toArray.size ≤ sizeLine := by simpa using hz
  obtain ⟨os, ho, hc, hd⟩ := id hs
  have tS : s.TypeIs (.ref sl) "slice" := ⟨os, ho, hc⟩
  have same : Builtin.List.listSameRef (.ref l) (.ref b) = false := by
    unfold Builtin.List.listSameRef
    exact beq_eq_false_iff_ne.mpr hne
  have bd : sliceBounds lo hi none its.toArray.size = (((HT.sIx its.length 0 lo : Nat) : Int), ((HT.sIx its.length its.length hi : Nat) : Int), 1) := by
    have k := slice_bounds lo hi its.length
    rw [show its.toArray.size = its.length from by simp]
    exact Prod.ext k.1 (Prod.ext k.2.1 k.2.2)
  unfold setItem
  try with_reducible refine wpAny_holding ?_
  first | refine wpAny_bind (wpAny_pure ?_) | skip
  refine wpAny_bind (wpAny_sequenceKey il.typeIs (by decide) ?_)
  refine wpAny_bind (wpAny_callSpecial?_slot (name := Str.ofString "__setitem__") il.typeIs slot_list_setitem (wpAny_call_entry slot_list_setitem il.typeIs entry_list_setitem ?_ (args_list_setitem _ _ _)))
  show wpAny _ _ (Builtin.List.listSubscript? (.ref sl) >>= _) _ _ s
  unfold Builtin.List.listSubscript?
  refine wpAny_bind (wpAny_bind (wpAny_specialOf tS slice_no_index ?_))
  simp only [Option.isNone_none, if_true]
  refine wpAny_pure (show wpAny _ _ (typeOf (.ref sl) >>= _) _ _ s from wpAny_bind (wpAny_typeOf tS ?_))
  first | rw [if_neg (by decide)] | refine PySem.W.KFB.if_not (by decide) ?_
  rw [listSliceParts_eq]
  refine wpAny_bind (wpAny_bind (wpAny_field ho hd (x := .none) rfl (wpAny_bind (wpAny_listPart .none ?_))))
  rw [if_neg (show ¬ ((rawPart none == rawInt 0) = true) from Bool.false_ne_true)]
  refine wpAny_bind (wpAny_field ho hd (x := vl) rfl (wpAny_bind (wpAny_listPart pl ?_)))
  refine wpAny_bind (wpAny_field ho hd (x := vu) rfl (wpAny_bind (wpAny_listPart pu (wpAny_pure ?_))))
  first | simp only [same, Bool.false_eq_true, if_false] | refine PySem.W.KFB.if_not same ?_
  refine wpAny_bind (m := Builtin.List.listAllItems (.ref b) "must assign iterable to extended slice") ?_
  unfold Builtin.List.listAllItems
  refine wpAny_bind (wpAny_typeOf ib.typeIs ?_)
  first | refine PySem.W.KFB.if_so (by decide) ?_ | rw [if_pos (by decide)] | simp only [beq_self_eq_true, Bool.true_or, if_true]
  unfold Builtin.List.listItems
  refine wpAny_bind (wpAny_seqItems e2 rfl (wpAny_pure (wpAny_bind (wpAny_bind (wpAny_seqItems e rfl (wpAny_pure ?_))))))
  refine wpAny_bind (wpAny_of_eq ((sliceIndices_raw lo hi none its.toArray.size (by simp)).trans (congrArg (pure : Int × Int × Int → Sem (Int × Int × Int)) bd)) ?_)
  show wpAny _ _ (if ((1 : Int) == 1) = true then _ else _) _ _ s
  refine (if_pos (show ((1 : Int) == 1) = true by decide)).symm ▸ wpAny_bind (wpAny_rule ?_)
  rw [if_neg (by rw [notLongL szs]; decide)]
  dsimp only
  have em : (max ((HT.sIx its.length 0 lo : Nat) : Int) ((HT.sIx its.length its.length hi : Nat) : Int)).toNat = max (HT.sIx its.length 0 lo) (HT.sIx its.length its.length hi) := by omega
  rw [em, Int.toNat_natCast]
  have l1 := HT.sIx_le its.length 0 (Nat.zero_le _) lo
  have l2 := HT.sIx_le its.length its.length (Nat.le_refl _) hi
  refine wpAny_bind (m := updateSeq l (fun xs => xs.extract 0 (HT.sIx its.length 0 lo) ++ its2.toArray ++ xs.extract (max (HT.sIx its.length 0 lo) (HT.sIx its.length its.length hi)) xs.size)) (wpAny_updateSeq (hz := by simp; omega) (_hz' := by simp; omega) e rfl ?_)
  refine wpAny_bind (wpAny_letGo ?_)
  first | exact wpAny_bind (wpAny_pure (wpAny_pure ⟨.none, rfl, wpAny_pure h⟩)) | exact wpAny_pure ⟨.none, rfl, wpAny_pure h⟩
theorem setSl_ok {l b sl : Addr} {xs ys : List V} {vl vu : Value} {lo hi : Option Int} {Q : Hp → Prop} (I : Inv X pins σ H s) (hH : H l = some (.lst xs)) (hB : H b = some (.lst ys)) (hne : l ≠ b) (hs : s.heap.IsSliceOf sl vl vu .none) (pl : IsPart vl lo) (pu : IsPart vu hi)
    (hz : xs.length + ys.length ≤ sizeLine) (h : Q (upd H l (.lst (spl xs ys lo hi)))) : wpAny (model X.prog X.w) X.A (setItem (.ref l) (.ref sl) (.ref b)) (fun _ s' => ∃ H', Inv X pins σ H' s' ∧ Q H') X.xe s := by
  obtain ⟨z, its, n, r, hl, e⟩ := I.lstM hH
  obtain ⟨z2, its2, n2, r2, hl2, e2⟩ := I.lstM hB
  have e1 : xs.length = its.length := by simpa using hl
  have e3 : ys.length = its2.length := by simpa using hl2
  refine setSl_run (lo := lo) (hi := hi) e e2 hne hs pl pu (by omega) ?_
  have rr : Vals (spl xs ys lo hi) (its.take (HT.sIx its.length 0 lo) ++ its2 ++ its.drop (max (HT.sIx its.length 0 lo) (HT.sIx its.length its.length hi))) := by
    unfold spl
    rw [e1]
    exact Vals.append (Vals.append (r.take _) r2) (r.drop _)
  refine ⟨_, I.lset (its' := its.take (HT.sIx its.length 0 lo) ++ its2 ++ its.drop (max (HT.sIx its.length 0 lo) (HT.sIx its.length its.length hi))) (t' := s.toks) hH e (splice_eq its its2 _ _) rr ?_, h⟩
  unfold spl
  have l1 := HT.sIx_le xs.length 0 (Nat.zero_le _) lo
  simp only [List.length_append, List.length_take, List.length_drop]
  omega
end
def gSl (to : TE) (tl th : TO) : TG := fun v σ H Q => to σ H fun x H1 => tl σ H1 fun l H2 => th σ H2 fun u H3 => ∃ a b xs ys, x = .ref a ∧ v = .ref b ∧ H3 a = some (.lst xs) ∧ H3 b = some (.lst ys) ∧ a ≠ b ∧ xs.length + ys.length ≤ sizeLine ∧ Q σ (upd H3 a (.lst (spl xs ys l u)))
theorem pg_sl {X : Cx} {o : Expr} {lo hi : Option Expr} {to : TE} {tl th : TO} {pos p2 : Pos} (ho : PE X o to) (hl : L2.PO X lo tl) (hu : L2.PO X hi th) : PG X (.Subscript o (.Slice lo hi none p2) pos) (gSl to tl th) := by
  refine ⟨fun pins s σ H v u Q I r h => ?_⟩
  have ha : assign (.Subscript o (.Slice lo hi none p2) pos) X.env u = (do
      let ov ← holding [u] (eval o X.env)
      let iv ← holding [u, ov] (eval (.Slice lo hi none p2) X.env)
      standAt pos
      holding [u, ov, iv] (setItem ov iv u)
      release [iv, u, ov] []) := rfl
  rw [ha]
  refine wpAny_bind (wpAny_holding (thn (ho.run pins s σ H _ I h) fun ov s1 ⟨x, H1, I1, r1, q1⟩ => ?_))
  refine wpAny_bind (wpAny_holding (wpAny_Slice (thn (hl.run pins s1 σ H1 _ I1 q1) fun vl s2 ⟨l, H2, I2, pl, q2⟩ => thn (hu.run pins s2 σ H2 _ I2 q2) fun vu s3 ⟨w, H3, I3, pu, q3⟩ => ?_)))
  rw [evalPart_none]
  refine wpAny_pure ?_
  obtain ⟨a, b, xs, ys, ex, ev, na, nb, hne, hz, q⟩ := q3
  subst ex
  subst ev
  obtain rfl : ov = Value.ref a := r1
  obtain rfl : u = Value.ref b := r
  have I4 : Inv X pins σ H3 { s3 with heap := s3.heap.push { cls := .type "slice", data := .fields #[vl, vu, .none] } } := I3.kept (t' := s3.toks) fun c ob e => Heap.get?_push_of_some _ e
  refine wpAny_bind (wpAny_standAt (wpAny_bind (wpAny_holding (thn (setSl_ok (Q := fun H' => Q σ H') I4 na nb hne (Heap.IsSliceOf.new ..) pl pu hz q) fun _ s4 ⟨H4, I5, q4⟩ => ?_))))
  exact wpAny_release ⟨σ, H4, I5, q4⟩
end Mn
set_option Elab.async false
set_option linter.all false
set_option maxRecDepth 100000
set_option maxHeartbeats 4000000
namespace Mn
open PySem PySem.Spec L2 PyProof.Rows
section
variable {G : Gm} {T : Tb} {nm : Nm} {call : Nat → List PV → PH → Res PV} {fx : Fx} {X : Cx} {E : XK} {W : Nat}
def lnoR (T : Tb) (call : Nat → List PV → PH → Res PV) (m : Nat) (v : PV) (h1 : PH) : Res PV := match v with
    | .ref l => (match h1[l]? with
      | some (.ins c _) => (match (T.cls[c]?).bind fun ci => ci.meths.lookup m with
        | some f => (call f [.ref l] h1).noer.bind fun w h2 => (match w with
          | .int i => if decide (0 ≤ i) && decide (i < 2 ^ 63) then .ok (.int i) h2 else .stuck
          | _ => .stuck)
        | none => .stuck)
      | _ => .stuck)
    | _ => .stuck
theorem call_lno (O : XOk G T nm call fx X E) {m : Nat} (hn : nm.an[m]? = some "__len__") : CallR X (.builtin "len") (fun xs H Q => ∃ as h v x, xs = [x] ∧ SR G as H h ∧ RepV G as H v x ∧ OkV G E as H Q (lnoR T call m v h)) := by
  intro pins s σ H xs us Q I r ⟨as, h, v, x, ex, S, rv, o⟩
  subst ex
  obtain ⟨u, rfl, ru⟩ := vals1 r
  cases v with
  | ref l =>
    unfold lnoR at o
    dsimp only at o
    split at o
    · rename_i c fs ql
      split at o
      · rename_i f qm
        obtain ⟨ci, ec, em⟩ := Option.bind_eq_some_iff.mp qm
        obtain ⟨a, ea, rfl⟩ := rv.refE
        obtain rfl : u = Value.ref a := ru
        obtain ⟨dx, gs, eh, rf⟩ := S.insM ql ea
        have hn' := hn
        rw [O.an] at hn'
        have mm := O.cls.me c ci m f _ ec em hn'
        rw [← O.K] at mm
        obtain ⟨k, fd, ps, F, hr, hbd, ar, _⟩ := O.mfn c ci f ec (.inr (.inl ⟨m, em⟩))
        refine lenO_ok (E := E0) (sp := spF G call f ps.length) I eh mm F hr hbd (L2.passL (X := X.nox)) ?_
        refine Ok.bind_call (E := E0) ar S (.cons (by unfold RepV; exact ⟨a, ea, rfl⟩) .nil) (Ok.noer o fun w h2 as2 H2 w' f2 r2 o2 => ?_)
        cases w with
        | int i =>
          dsimp only at o2
          split at o2
          · rename_i hi
            simp only [Bool.and_eq_true, decide_eq_true_eq] at hi
            exact ⟨i, r2.intE, hi.1, hi.2, o2 as2 H2 (.int i) (Fut.refl f2.sr) (.int i)⟩
          · exact False.elim o2
        | _ => exact False.elim o2
      · exact False.elim o
    · exact False.elim o
  | _ => exact False.elim o
theorem okE_lno (O : XOk G T nm call fx X E) {m : Nat} {o : Ex} {xo : Expr} {p pos : Pos} (hn : nm.an[m]? = some "__len__") (hg : glB fx.names "len" = true) (hx : isStar xo = false) (hne : ∀ y, o ≠ .star y) (ho : PE X xo (tE G E (evE T call o))) :
    PE X (.Call (.Name "len" p) [xo] [] pos) (tE G E (evE T call (.lno m o))) := by
  refine (pe_callB (call_lno O hn) (gl_ok O hg) (O.bl .len) (bi_boot .len) (okA_cons hx hne ho okA_nil) (bi_name .len) (bi_dbg .len) (star_cons hx) (noStars rfl)).imp fun σ H Q ⟨as, ρ, h, S, R, q⟩ => ?_
  simp only [evE] at q
  refine ⟨as, ρ, h, S, R, ?_⟩
  rw [evEs_cons hne]
  refine Ok.bind (rel2 := fun as' H' => RepV G as' H') (Q2 := Q) (k := fun vs h1 => match vs with
    | [v] => lnoR T call m v h1
    | _ => .stuck) ?_ fun vs h1 as1 H1 vs' f1 r1 o1 => ?_
  · rw [Res.bind_assoc]
    refine Eq.mp (congrArg _ ?_) q
    congr 1
  · match vs, r1, o1 with
    | [], _, o1 => exact False.elim o1
    | [v], r1, o1 =>
      obtain ⟨x, rfl, rx⟩ := r1.one
      exact ⟨as1, h1, v, x, rfl, f1.sr, rx, o1⟩
    | _ :: _ :: _, _, o1 => exact False.elim o1
theorem WkOk.rngD {as : List Addr} {H : Hp} {lo : Int} {n : Nat} : WkOk G as H (.fix ((List.range n).map fun (i : Nat) => .int (lo - i))) (Itc lo (-1) n) := fun as' H' h hp kp S i => by
  refine ⟨fun e => ?_, fun x e => ?_⟩
  · simp only [wkAt, Option.some.injEq] at e
    have : n ≤ i := by simpa using e
    exact this
  · simp only [wkAt, Option.some.injEq, List.getElem?_map] at e
    by_cases hi : i < n
    · rw [List.getElem?_range hi] at e
      cases e
      refine ⟨hi, fun v H2 ⟨e1, e2⟩ => ?_⟩
      subst e1
      subst e2
      exact ⟨Fut.refl S, by rw [show lo + (i : Int) * -1 = lo - i by omega]; exact .int _⟩
    · rw [List.getElem?_eq_none (by simpa using hi)] at e
      cases e
theorem evEs_three {e e2 e3 : Ex} (he : ∀ x, e ≠ .star x) (he2 : ∀ x, e2 ≠ .star x) (he3 : ∀ x, e3 ≠ .star x) (ρ : PEnv) (h : PH) : evEs T call [e, e2, e3] ρ h = (evE T call e ρ h).bind fun u h1 => (evE T call e2 ρ h1).bind fun v h2 => (evE T call e3 ρ h2).bind fun w h3 => .ok [u, v, w] h3 := by
  rw [evEs_cons he]
  simp only [evEs_two he2 he3, Res.bind_assoc, Res.bind_ok]
theorem okI_rng3 (O : XOk G T nm call fx X E) {tg x y z : Expr} {p pos : Pos} {e e2 e3 : Ex} (hs : ∀ y, e ≠ .star y) (hs2 : ∀ y, e2 ≠ .star y) (hs3 : ∀ y, e3 ≠ .star y) (hx : isStar x = false) (hy : isStar y = false) (hz : isStar z = false) (hg : glB fx.names "range" = true) (ha : PA X [x, y, z] (tA G E (evEs T call [e, e2, e3]))) :
    PI X tg (.Call (.Name "range" p) [x, y, z] [] pos) (tI G E (evI T call .rng [e, e2, e3])) := by
  refine PI.imp (pi_range3 (gl_ok O hg) O.rng ha (star_cons hx) (noStars (by simp [hy, hz]))) fun σ H R ⟨as, ρ, h, S, R', q⟩ => ?_
  unfold evI at q
  refine ⟨as, ρ, h, S, R', ?_⟩
  rw [evEs_three hs hs2 hs3] at q ⊢
  simp only [Res.bind_assoc, Res.bind_ok] at q
  refine Ok.bindK q fun u h1 o1 => Ok.bindK o1 fun v h2 o2 => Ok.bindK o2 fun w h3 o3 as1 H1 vs' f r1 => ?_
  unfold RepVs at r1
  obtain ⟨a, r2, rfl, ra, r3⟩ := r1
  obtain ⟨b, c, rfl, rb, rc⟩ := r3.two
  cases qw : wkOf .rng [u, v, w] h3 with
  | none => rw [qw] at o3; exact False.elim o3
  | some pp =>
    rw [qw] at o3
    cases u with
    | int i =>
      cases v with
      | int j =>
        cases w with
        | int k =>
          simp only [wkOf] at qw
          split at qw
          · rename_i hb
            cases qw
            simp only [Bool.and_eq_true, decide_eq_true_eq] at hb
            obtain ⟨⟨⟨⟨rfl, h1⟩, h2⟩, h3⟩, h4⟩ := hb
            rw [ra.intE, rb.intE, rc.intE]
            exact ⟨i, j, -1, _, rfl, RgC.neg h1 h2 h3 h4, o3 as1 H1 _ f WkOk.rngD⟩
          · cases qw
        | _ => simp [wkOf] at qw
      | _ => simp [wkOf] at qw
    | _ => simp [wkOf] at qw
theorem okI_rvr (O : XOk G T nm call fx X E) {tg x : Expr} {p p2 pos pos2 : Pos} {e : Ex} (hs : ∀ y, e ≠ .star y) (hx : isStar x = false) (hg : glB fx.names "range" = true) (hg2 : glB fx.names "reversed" = true) (ha : PE X x (tE G E (evE T call e))) :
    PI X tg (.Call (.Name "reversed" p) [.Call (.Name "range" p2) [x] [] pos2] [] pos) (tI G E (evI T call .rvr [e])) := by
  refine PI.imp (pi_revR (gl_ok O hg2) O.rvs (prg_1 (gl_ok O hg) O.rng ha (star_cons hx)) (star_cons rfl)) fun σ H R ⟨as, ρ, h, S, R', q⟩ => ?_
  unfold evI at q
  refine ⟨as, ρ, h, S, R', ?_⟩
  rw [evEs_one hs] at q
  simp only [Res.bind_assoc, Res.bind_ok] at q
  refine Ok.bind q fun v h1 as1 H1 v' f r1 o1 => ?_
  cases v with
  | int j =>
    rw [r1.intE]
    refine ⟨j, rfl, ?_⟩
    cases qw : wkOf .rvr [.int j] h1 with
    | none => rw [qw] at o1; exact False.elim o1
    | some pp =>
      rw [qw] at o1
      simp only [wkOf] at qw
      split at qw
      · rename_i hb
        cases qw
        simp only [Bool.and_eq_true, decide_eq_true_eq] at hb
        refine ⟨by decide, by decide, hb.1, hb.2, o1 as1 H1 _ (Fut.refl f.sr) ?_⟩
        have ej : (j - 0).toNat = j.toNat := by omega
        rw [ej]
        have el : (List.range j.toNat).map (fun (m : Nat) => PV.int (j - 1 - m)) = (List.range j.toNat).map (fun (m : Nat) => PV.int ((0 : Int) + ((j.toNat : Nat) : Int) - 1 - m)) := by
          by_cases hj : 0 ≤ j
          · have : (0 : Int) + ((j.toNat : Nat) : Int) = j := by omega
            rw [this]
          · have : j.toNat = 0 := by omega
            rw [this]
            rfl
        show WkOk G as1 H1 (.fix ((List.range j.toNat).map fun (m : Nat) => PV.int (j - 1 - m))) _
        rw [el]
        exact WkOk.rngD
      · cases qw
  | _ => exact False.elim o1
theorem okS_sl (O : XOk G T nm call fx X E) {e o lo hi : Ex} {x xo : Expr} {l u : Option Expr} {p p2 p3 : Pos} (he : PE X x (tE G E (evE T call e))) (ho : PE X xo (tE G E (evE T call o))) (hl : L2.PO X l (tO G E fun ρ h => partR lo (evE T call lo ρ h) h)) (hu : L2.PO X u (tO G E fun ρ h => partR hi (evE T call hi ρ h) h)) :
    PS X (.Assign [.Subscript xo (.Slice l u none p3) p2] x p) (tS G E (exS T call W (.asg (.sl o lo hi) e))) := by
  refine (ps_asg he (pg_sl ho hl hu) noSwapIx noStoresIx).imp fun D σ H ⟨as, ρ, h, S, R, q⟩ => ?_
  simp only [exS, asgTa, Res.bind_assoc] at q
  refine ⟨as, ρ, h, S, R, Ok.bind q fun v h1 as1 H1 v' f1 r1 q1 => ⟨as1, ρ, h1, f1.sr, R.fut f1, Ok.bind q1 fun w h2 as2 H2 w' f2 r2 q2 => ⟨as2, ρ, h2, f2.sr, (R.fut f1).fut f2, Ok.bind q2 fun a h3 as3 H3 a' f3 ea q3 => ⟨as3, ρ, h3, f3.sr, ((R.fut f1).fut f2).fut f3, Ok.bind q3 fun b h4 as4 H4 b' f4 eb q4 => ?_⟩⟩⟩⟩
  subst ea
  subst eb
  cases qs : pSlS w a' b' v h4 with
  | none => rw [qs] at q4; exact False.elim q4
  | some h5 =>
    rw [qs] at q4
    simp only [Res.bind_ok] at q4
    cases w with
    | ref l =>
      cases v with
      | ref m =>
        simp only [pSlS] at qs
        split at qs
        · rename_i xs ys e1 e2
          split at qs
          · rename_i hne
            cases qs
            obtain ⟨al, el, rfl⟩ := ((r2.fut f3).fut f4).refE
            obtain ⟨am, em, rfl⟩ := (((r1.fut f2).fut f3).fut f4).refE
            obtain ⟨vs, eh1, rl1⟩ := f4.sr.lstM e1 el
            obtain ⟨ws, eh2, rl2⟩ := f4.sr.lstM e2 em
            have hna : al ≠ am := fun z => by
              subst z
              obtain ⟨k1, z1⟩ := List.getElem?_eq_some_iff.mp el
              obtain ⟨k2, z2⟩ := List.getElem?_eq_some_iff.mp em
              exact hne.1 ((List.getElem_inj f4.sr.nd).mp (z1.trans z2.symm))
            refine ⟨al, am, vs, ws, rfl, rfl, eh1, eh2, hna, by rw [← rl1.length, ← rl2.length]; exact hne.2, ?_⟩
            have rs : RepVs G as4 H4 (spl xs ys a' b') (spl vs ws a' b') := by
              unfold spl
              rw [rl1.length]
              exact ((rl1.take _).append rl2).append (rl1.drop _)
            have f5 := f4.sr.setL el eh1 rs
            exact q4 as4 _ (.nx σ) f5 (((((R.fut f1).fut f2).fut f3).fut f4).fut f5)
          · cases qs
        · cases qs
      | _ => cases qs
    | _ => cases qs
end
end Mn
set_option Elab.async false
set_option linter.all false
set_option maxRecDepth 100000
set_option maxHeartbeats 4000000
namespace Mn
open PySem PySem.Spec L2 PyProof.Rows
section
variable {G : Gm} {T : Tb} {nm : Nm} {call : Nat → List PV → PH → Res PV} {fx : Fx} {X : Cx} {E : XK} {W : Nat}
def lcI (T : Tb) (call : Nat → List PV → PH → Res PV) (e : Ex) (own1 : List Nat) (t1 : Tg) (ifs1 : List Ex) (D : Nat) (ρ1 : PEnv) (y : PV) (h5 : PH) : Res Unit := match bindTg t1 y (own1.foldr (fun i r => r.set i none) ρ1) with
  | none => .stuck
  | some ρ2 => (evIf T call ifs1 ρ2 h5).noer.bind fun b h6 => if b then (evE T call e ρ2 h6).noer.bind fun z h7 => accPut D z h7 else .ok () h6
def lcO (T : Tb) (call : Nat → List PV → PH → Res PV) (e : Ex) (own : List Nat) (t : Tg) (ifs : List Ex) (own1 : List Nat) (t1 : Tg) (k1 : Ik) (its1 ifs1 : List Ex) (D : Nat) (ρ : PEnv) (x : PV) (h2 : PH) : Res Unit := match bindTg t x (own.foldr (fun i r => r.set i none) ρ) with
  | none => .stuck
  | some ρ1 => (evIf T call ifs ρ1 h2).noer.bind fun b h3 => if b then (evI T call k1 its1 ρ1 h3).noer.bind fun p h4 => accRun (lcI T call e own1 t1 ifs1 D ρ1) p.1 (p.2 + 1) 0 h4 else .ok () h3
theorem evI_noer {γ : Type} {k : Ik} {its : List Ex} {ρ : PEnv} {h : PH} (f : Wk × Nat → PH → Res γ) : (evI T call k its ρ h).noer.bind f = (evEs T call its ρ h).noer.bind fun vs h1 => match wkOf k vs h1 with
    | none => .stuck
    | some p => f p h1 := by
  unfold evI
  rw [noer_bind, Res.bind_assoc]
  congr 1
  funext vs h1
  cases q : wkOf k vs h1 <;> rfl
theorem evE_lc2 {e : Ex} {own : List Nat} {t : Tg} {k : Ik} {its ifs : List Ex} {own1 : List Nat} {t1 : Tg} {k1 : Ik} {its1 ifs1 : List Ex} {ρ : PEnv} {h : PH} : evE T call (.lc2 e own t k its ifs own1 t1 k1 its1 ifs1) ρ h =
    (evI T call k its ρ h).bind fun p h1 => (accRun (lcO T call e own t ifs own1 t1 k1 its1 ifs1 h1.length ρ) p.1 (p.2 + 1) 0 (h1 ++ [.lst []])).bind fun _ h9 => .ok (.ref h1.length) h9 := by
  unfold evI
  simp only [evE, Res.bind_assoc]
  congr 1
  funext vs h1
  cases q : wkOf k vs h1 with
  | none => rfl
  | some p =>
    simp only [Res.bind_ok]
    congr 2
    funext x h2
    unfold lcO
    cases bindTg t x (own.foldr (fun i r => r.set i none) ρ) with
    | none => rfl
    | some ρ1 =>
      dsimp only
      congr 1
      funext b h3
      rw [evI_noer]
      cases b with
      | false => rfl
      | true =>
        simp only [if_true]
        congr 1
        funext ws h4
        cases wkOf k1 ws h4 <;> rfl
theorem accRun_succ {body : PV → PH → Res Unit} {w : Wk} {n i : Nat} {h : PH} : accRun body w (n + 1) i h = match wkAt h i w with
    | none => .stuck
    | some none => .ok () h
    | some (some x) => (body x h).bind fun _ h1 => accRun body w n (i + 1) h1 := rfl
theorem accPut_ok {as : List Addr} {H : Hp} {h : PH} {D : Nat} {a : Addr} {y : PV} {y' : V} {γ δ : Type} {rel : List Addr → Hp → γ → δ → Prop} {Q : δ → Hp → Prop} {f : Unit → PH → Res γ} (S : SR G as H h) (ea : as[D]? = some a) (ry : RepV G as H y y') (o : Ok G E as H rel Q ((accPut D y h).bind f)) :
    ∃ acc, H a = some (.lst acc) ∧ acc.length < sizeLine ∧ ∃ h9, Fut G as H as (upd H a (.lst (acc ++ [y']))) h9 ∧ Ok G E as (upd H a (.lst (acc ++ [y']))) rel Q (f () h9) := by
  unfold accPut at o
  split at o
  · rename_i acc qa
    split at o
    · rename_i hl
      obtain ⟨ws, eH, rl⟩ := S.lstM qa ea
      have f7 := S.setL ea eH (rl.append (.cons ry .nil))
      exact ⟨ws, eH, by rw [← rl.length]; exact hl, _, f7, Ok.fut f7 o⟩
    · exact False.elim o
  · exact False.elim o
theorem lc2_core' (O : XOk G T nm call fx X E) {e : Ex} {own : List Nat} {t : Tg} {k : Ik} {its ifs : List Ex} {own1 : List Nat} {t1 : Tg} {k1 : Ik} {its1 ifs1 : List Ex} (htg : ∀ i ∈ tgIs t, i ∈ own) (htg1 : ∀ i ∈ tgIs t1, i ∈ own1) (σ : L2.St) (H : Hp) (Q : VK) :
    tE G E (evE T call (.lc2 e own t k its ifs own1 t1 k1 its1 ifs1)) σ H Q → tLc2 (tI G E (evI T call k its)) (tG G t) (tT G E0 (evIf T call ifs)) (tI G E0 (evI T call k1 its1)) (tG G t1) (tT G E0 (evIf T call ifs1)) (tE G E0 (evE T call e)) ((ownsOf fx own).map (·.2)) own1 σ H Q := by
  have ow : (ownsOf fx own).map (·.2) = own := by unfold ownsOf; rw [List.map_map]; exact (List.map_congr_left (fun _ _ => rfl)).trans (List.map_id own)
  intro ⟨as, ρ, h, S, R, o⟩
  rw [ow]
  rw [evE_lc2] at o
  refine ⟨as, ρ, h, S, R, Ok.bind o fun p h1 as1 H1 J f1 hJ o1 D hD => ?_⟩
  obtain ⟨f2, rD⟩ := f1.sr.newL (ys := []) hD .nil
  have eD : (as1 ++ [D])[h1.length]? = some D := by
    rw [← f1.sr.len, List.getElem?_append_right (Nat.le_refl _)]
    simp
  have Rw : RepE G as1 H1 ρ σ := R.fut f1
  refine ⟨fun i m H => ∃ as2 h2, Fut G (as1 ++ [D]) (upd H1 D (.lst [])) as2 H h2 ∧ OkV G E as2 H Q ((accRun (lcO T call e own t ifs own1 t1 k1 its1 ifs1 h1.length ρ) p.1 m i h2).bind fun _ h9 => .ok (.ref h1.length) h9), ⟨p.2 + 1, as1 ++ [D], _, Fut.refl f2.sr, Ok.fut f2 o1⟩, ?_⟩
  rintro i m H' ⟨as2, h2, f3, o2⟩
  cases m with
  | zero => exact False.elim o2
  | succ m =>
    have f23 : Fut G as1 H1 as2 H' h2 := f2.trans f3
    obtain ⟨j1, j2⟩ := hJ as2 H' h2 f23.pre f23.kp f3.sr i
    rw [accRun_succ] at o2
    have eD2 : as2[h1.length]? = some D := pre_get f3.pre eD
    split at o2
    · exact False.elim o2
    · rename_i q
      refine .inl ⟨j1 q, okv f3.sr o2 ?_⟩
      unfold RepV
      exact ⟨D, eD2, rfl⟩
    · rename_i x q
      obtain ⟨jg, jy⟩ := j2 x q
      refine .inr ⟨jg, fun H3 => ∃ as3 h3, Fut G (as1 ++ [D]) (upd H1 D (.lst [])) as3 H3 h3 ∧ OkV G E as3 H3 Q ((accRun (lcO T call e own t ifs own1 t1 k1 its1 ifs1 h1.length ρ) p.1 m (i + 1) h3).bind fun _ h9 => .ok (.ref h1.length) h9), fun H3 n => ⟨m, Nat.lt_succ_self _, n⟩, fun v H3 y => ?_⟩
      obtain ⟨f4, rv⟩ := jy v H3 y
      have o3 := Ok.fut f4 o2
      have f34 := f3.trans f4
      have R3 : RepE G as2 H3 ρ σ := (Rw.fut f23).fut f4
      rw [Res.bind_assoc] at o3
      unfold lcO at o3
      split at o3
      · exact False.elim o3
      · rename_i ρ1 qb
        refine ⟨as2, _, h2, x, ρ1, f4.sr, wipe_ok R3 own, rv, qb, fun σ1 R1 ⟨is, vs, e1, e2⟩ => ⟨?_, ?_⟩⟩
        · rw [e1, wipe_fold (fun j hj => htg j (by have := e2 j hj; cases t <;> exact this)), wipe_wipe]
        · rw [Res.bind_assoc] at o3
          refine ⟨as2, ρ1, h2, f4.sr, R1, Ok.noer o3 fun b h4 as4 H4 b' f5 eb o4 => ?_⟩
          subst eb
          cases b with
          | false =>
            simp only [Bool.false_eq_true, if_false] at o4 ⊢
            exact ⟨as4, h4, f34.trans f5, o4⟩
          | true =>
            simp only [if_true] at o4 ⊢
            rw [Res.bind_assoc] at o4
            have R4 := R1.fut f5
            refine ⟨as4, ρ1, h4, f5.sr, R4, Ok.noer o4 fun p1 h5 as5 H5 J1 f6 hJ1 o5 => ?_⟩
            have f36 := (f34.trans f5).trans f6
            refine ⟨fun j n H => ∃ as6 h6, Fut G as5 H5 as6 H h6 ∧ OkV G E as6 H Q ((accRun (lcI T call e own1 t1 ifs1 h1.length ρ1) p1.1 n j h6).bind fun _ h9 => (accRun (lcO T call e own t ifs own1 t1 k1 its1 ifs1 h1.length ρ) p.1 m (i + 1) h9).bind fun _ h9 => .ok (.ref h1.length) h9), ⟨p1.2 + 1, as5, h5, Fut.refl f6.sr, o5⟩, ?_⟩
            rintro j n H6 ⟨as6, h6, f7, o6⟩
            cases n with
            | zero => exact False.elim o6
            | succ n =>
              obtain ⟨j1', j2'⟩ := hJ1 as6 H6 h6 f7.pre f7.kp f7.sr j
              rw [accRun_succ] at o6
              split at o6
              · exact False.elim o6
              · rename_i q'
                exact .inl ⟨j1' q', as6, h6, f36.trans f7, o6⟩
              · rename_i x' q'
                obtain ⟨jg', jy'⟩ := j2' x' q'
                refine .inr ⟨jg', fun H7 => ∃ as7 h7, Fut G as5 H5 as7 H7 h7 ∧ OkV G E as7 H7 Q ((accRun (lcI T call e own1 t1 ifs1 h1.length ρ1) p1.1 n (j + 1) h7).bind fun _ h9 => (accRun (lcO T call e own t ifs own1 t1 k1 its1 ifs1 h1.length ρ) p.1 m (i + 1) h9).bind fun _ h9 => .ok (.ref h1.length) h9), fun H7 z => ⟨n, Nat.lt_succ_self _, z⟩, fun v' H7 y' => ?_⟩
                obtain ⟨f8, rv'⟩ := jy' v' H7 y'
                have o7 := Ok.fut f8 o6
                rw [Res.bind_assoc] at o7
                unfold lcI at o7
                split at o7
                · exact False.elim o7
                · rename_i ρ2 qb'
                  refine ⟨as6, _, h6, x', ρ2, f8.sr, wipe_ok (((R4.fut f6).fut f7).fut f8) own1, rv', qb', fun σ3 R5 ⟨is', vs', e3, e4⟩ => ⟨?_, ?_⟩⟩
                  · rw [e3, wipe_fold (fun i hi => htg1 i (by have := e4 i hi; cases t1 <;> exact this)), wipe_wipe]
                  · rw [Res.bind_assoc] at o7
                    refine ⟨as6, ρ2, h6, f8.sr, R5, Ok.noer o7 fun b h8 as8 H8 b' f9 eb o8 => ?_⟩
                    subst eb
                    cases b with
                    | false =>
                      simp only [Bool.false_eq_true, if_false] at o8 ⊢
                      exact ⟨as8, h8, (f7.trans f8).trans f9, o8⟩
                    | true =>
                      simp only [if_true] at o8 ⊢
                      rw [Res.bind_assoc] at o8
                      refine ⟨as8, ρ2, h8, f9.sr, R5.fut f9, Ok.noer o8 fun z h10 as9 H9 z' f10 rz o9 => ?_⟩
                      have eD9 : as9[h1.length]? = some D := pre_get ((((((f5.pre.trans f6.pre).trans f7.pre).trans f8.pre).trans f9.pre).trans f10.pre)) eD2
                      obtain ⟨acc, eH, hl, h11, f11, o10⟩ := accPut_ok f10.sr eD9 rz o9
                      exact ⟨acc, eH, hl, as9, h11, (((f7.trans f8).trans f9).trans f10).trans f11, o10⟩
theorem okE_lc2 (O : XOk G T nm call fx X E) {e : Ex} {own : List Nat} {t : Tg} {k : Ik} {its ifs : List Ex} {own1 : List Nat} {t1 : Tg} {k1 : Ik} {its1 ifs1 : List Ex} {elt tg iter tg1 iter1 : Expr} {xifs xifs1 : List Expr} {sc : Scope} {pos : Pos}
    (hi : PI X tg iter (tI G E (evI T call k its))) (hb : blkC fx.N (scOf fx) sc (ownsOf fx own) = true) (htg : ∀ i ∈ tgIs t, i ∈ own) (htg1 : ∀ i ∈ tgIs t1, i ∈ own1) (hv : ∀ i ∈ own1, i ∈ own)
    (hg : ∀ (X' : Cx), XOk G T nm call (fxB fx sc) X' E0 → PG X' tg (tG G t)) (ht : ∀ (X' : Cx), XOk G T nm call (fxB fx sc) X' E0 → PTs X' xifs (tT G E0 (evIf T call ifs)))
    (hi1 : ∀ (X' : Cx), XOk G T nm call (fxB fx sc) X' E0 → PI X' tg1 iter1 (tI G E0 (evI T call k1 its1))) (hg1 : ∀ (X' : Cx), XOk G T nm call (fxB fx sc) X' E0 → PG X' tg1 (tG G t1)) (ht1 : ∀ (X' : Cx), XOk G T nm call (fxB fx sc) X' E0 → PTs X' xifs1 (tT G E0 (evIf T call ifs1)))
    (he : ∀ (X' : Cx), XOk G T nm call (fxB fx sc) X' E0 → PE X' elt (tE G E0 (evE T call e))) (hs : noSet iter = true) (hs1 : noSet iter1 = true) :
    PE X (.ListComp elt [⟨tg, iter, xifs, 0⟩, ⟨tg1, iter1, xifs1, 0⟩] sc pos) (tE G E (evE T call (.lc2 e own t k its ifs own1 t1 k1 its1 ifs1))) := by
  have hb0 := blkOk_by hb
  have hu : uniqB sc = true := List.all_eq_true.mpr fun y hy => decide_eq_true (hb0.uniq y hy)
  have ow : (ownsOf fx own).map (·.2) = own := by unfold ownsOf; rw [List.map_map]; exact (List.map_congr_left (fun _ _ => rfl)).trans (List.map_id own)
  obtain ⟨h1, h2, h3, h4, h5⟩ := lc_parts O hi hb htg hg ht he hs
  exact (pe_lc2 O.calm O.nd hi h1 (by rw [ow]; exact hv) h2 h3 (fun s H C cl fp => hi1 _ (O.blk hu s H C cl fp hb0.kind)) (fun s H C cl fp => hg1 _ (O.blk hu s H C cl fp hb0.kind)) (fun s H C cl fp => ht1 _ (O.blk hu s H C cl fp hb0.kind)) h4 h5
    (fun env x => by cases iter1 <;> first | rfl | cases hs1)).imp (lc2_core' O htg htg1)
end
end Mn
set_option Elab.async false
set_option linter.all false
set_option maxRecDepth 100000
set_option maxHeartbeats 1000000
namespace Mn
open PySem PySem.Spec L2 PyProof.Rows
section
variable {G : Gm} {T : Tb} {nm : Nm} {call : Nat → List PV → PH → Res PV} {fx : Fx} {X : Cx} {E : XK} {W : Nat}
theorem okA_star (O : XOk G T nm call fx X E) {e : Ex} {es : List Ex} {x : Expr} {xs : List Expr} {p : Pos} (h1 : PE X x (tE G E (evE T call e))) (h2 : PA X xs (tA G E (evEs T call es))) : PA X (.Starred x p :: xs) (tA G E (evEs T call (.star e :: es))) := by
  refine (StX.pa_star h1 h2).imp fun σ H Q ⟨as, ρ, h, S, R, o⟩ => ?_
  simp only [evEs] at o
  refine ⟨as, ρ, h, S, R, Ok.bind o fun v h1 as1 H1 v' f1 r1 o1 => ?_⟩
  cases v with
  | tup ys =>
    dsimp only at o1
    unfold RepV at r1
    obtain ⟨a, vs, rfl, s, r⟩ := r1
    refine ⟨a, vs, rfl, .inl (by rw [O.K]; exact s), as1, ρ, h1, f1.sr, R.fut f1, Ok.bind o1 fun ws h2 as2 H2 ws' f2 r2 o2 => ?_⟩
    exact o2 as2 H2 _ (Fut.refl f2.sr) ((r.fut f2).append r2)
  | ref l =>
    dsimp only at o1
    split at o1
    · rename_i ys q
      obtain ⟨a, ea, rfl⟩ := r1.refE
      obtain ⟨vs, s, r⟩ := f1.sr.lst q ea
      refine ⟨a, vs, rfl, .inr (by rw [O.K]; exact s), as1, ρ, h1, f1.sr, R.fut f1, Ok.bind o1 fun ws h2 as2 H2 ws' f2 r2 o2 => ?_⟩
      exact o2 as2 H2 _ (Fut.refl f2.sr) ((r.fut f2).append r2)
    · exact False.elim o1
  | _ => exact False.elim o1
end
end Mn
set_option Elab.async false
set_option linter.all false
set_option maxRecDepth 100000
set_option maxHeartbeats 4000000
namespace Mn
open PySem PySem.Spec L2 PyProof.Rows
section
variable {G : Gm} {T : Tb} {nm : Nm} {call : Nat → List PV → PH → Res PV} {fx : Fx} {X : Cx} {E : XK} {W : Nat}
theorem own_bl {pins : List (Addr × Obj)} {s : Shared} {σ : L2.St} {H : Hp} {Q : VK} {k f : Nat} {fd : FuncData} {ps : List Str} {us : List Value} {vs : List V} {neg : Bool} (F : FnOk X.prog X.w X.K X.mg X.base (L2.CX X.prog X.w) k (G.fa f) fd ps (spF G call f ps.length)) (hr : Room k X.A) (hb : Binds X.K fd ps []) (hx : Passes (L2.CX X.prog X.w) X E) (I : Inv X pins σ H s) (r : Vals vs us)
    (h : spF G call f ps.length vs H (fun v H' => ∃ b, v = .bl b ∧ Q (.bl (b != neg)) H') E) : wpAny (model X.prog X.w) X.A (PySem.call (.ref (G.fa f)) us) (fun u s' => ∃ b, u = .bool b ∧ EP X pins σ Q (.bool (b != neg)) s') X.xe s := by
  refine wpAny_mono (run_fn (ds := []) (dvs := []) F hr hb .nil hx I r (by rw [List.append_nil]; exact h)) (fun u s' q => ?_) fun _ _ x => x
  obtain ⟨v, H', I', rv, b, rfl, q⟩ := q
  obtain rfl : u = Value.bool b := rv
  exact ⟨b, rfl, .bl (b != neg), H', I', rfl, q⟩
theorem op_oin (O : XOk G T nm call fx X E) {m : Nat} (hn : nm.an[m]? = some "__contains__") (neg : Bool) : OpR X (compareOp (if neg then .NotIn else .In)) (rP2 G E (oinP T call neg m)) := by
  intro pins s σ H x y v u Q I rx ry ⟨as, h, va, vb, S, ra, rb, o⟩
  unfold oinP at o
  split at o
  · rename_i l
    obtain ⟨a, ea, rfl⟩ := rb.refE
    obtain rfl : u = Value.ref a := ry
    split at o
    · rename_i c fs ql
      split at o
      · rename_i f qf
        obtain ⟨ci, ec, em⟩ := Option.bind_eq_some_iff.mp qf
        have mm := O.cls.me c ci m f _ ec em (by rw [← O.an]; exact hn)
        obtain ⟨k, fd, ps, F, hr, hbd, ar, _⟩ := O.mfn c ci f ec (.inr (.inl ⟨m, em⟩))
        obtain ⟨dx, gs, eh, rf⟩ := S.insM ql ea
        obtain ⟨mA, J0, _⟩ := ins_get I.hok eh
        obtain ⟨od, J, _⟩ := J0.look
        obtain ⟨mF, hF⟩ := I.fr
        rw [← O.K] at mm
        have hsp : spF G call f ps.length [.ref a, x] H (fun v' H' => ∃ b, v' = .bl b ∧ Q (.bl (b != neg)) H') E := by
          refine Ok.bind_call ar S (.cons rb (.cons ra .nil)) (Ok.bind o fun r h3 as3 H3 r' f3 rr q3 => ?_)
          cases r with
          | bl b =>
            obtain rfl := rr.blE
            exact ⟨b, rfl, q3 as3 H3 _ (Fut.refl f3.sr) (.bl _)⟩
          | _ => exact False.elim q3
        have w := own_bl (neg := neg) F (hr.mono (Nat.le_succ k)) hbd O.pass I (.cons (show RelV (.ref a) (.ref a) from rfl) (.cons rx .nil)) hsp
        cases neg with
        | false =>
          refine PySem.W.in_K hF I.ok.mod.kin J mm.at_ mm.fn (wpAny_mono w (fun r s' q => ?_) fun _ _ x => x)
          obtain ⟨b, rfl, q⟩ := q
          refine wpAny_truthy_bool ?_
          cases b <;> exact q
        | true =>
          refine PySem.W.notIn_K hF I.ok.mod.kin J mm.at_ mm.fn (wpAny_mono w (fun r s' q => ?_) fun _ _ x => x)
          obtain ⟨b, rfl, q⟩ := q
          refine wpAny_truthy_bool ?_
          cases b <;> exact q
      · exact False.elim o
    · exact False.elim o
  · exact False.elim o
theorem op_oeq (O : XOk G T nm call fx X E) : OpR X (compareOp .Eq) (rP2 G E (oeqP T call)) := by
  intro pins s σ H x y v u Q I rx ry ⟨as, h, va, vb, S, ra, rb, o⟩
  unfold oeqP at o
  split at o
  · rename_i l l2
    obtain ⟨a, ea, rfl⟩ := ra.refE
    obtain ⟨b, eb, rfl⟩ := rb.refE
    obtain rfl : v = Value.ref a := rx
    obtain rfl : u = Value.ref b := ry
    split at o
    · rename_i c fs c2 fs2 ql ql2
      split at o
      · rename_i hc
        subst hc
        split at o
        · rename_i f qf
          obtain ⟨ci, ec, em⟩ := Option.bind_eq_some_iff.mp qf
          obtain ⟨e1, e2⟩ := O.cls.eqm _ ci f ec em
          obtain ⟨k, fd, ps, F, hr, hbd, ar, _⟩ := O.mfn _ ci f ec (.inr (.inr (.inr em)))
          obtain ⟨dx, gs, eh, rf⟩ := S.insM ql ea
          obtain ⟨dx2, gs2, eh2, rf2⟩ := S.insM ql2 eb
          obtain ⟨mA, J0, _⟩ := ins_get I.hok eh
          obtain ⟨od, J, _⟩ := J0.look
          obtain ⟨mA2, J02, _⟩ := ins_get I.hok eh2
          obtain ⟨od2, J2, _⟩ := J02.look
          obtain ⟨mF, hF⟩ := I.fr
          rw [← O.K] at e1 e2
          have hsp : spF G call f ps.length [.ref a, .ref b] H (fun v' H' => ∃ b, v' = .bl b ∧ Q (.bl (b != false)) H') E := by
            refine Ok.bind_call ar S (.cons ra (.cons rb .nil)) (Ok.bind o fun r h3 as3 H3 r' f3 rr q3 => ?_)
            cases r with
            | bl b =>
              obtain rfl := rr.blE
              refine ⟨b, rfl, ?_⟩
              have := q3 as3 H3 _ (Fut.refl f3.sr) (.bl b)
              cases b <;> exact this
            | _ => exact False.elim q3
          have w := own_bl (neg := false) F (hr.mono (Nat.le_succ k)) hbd O.pass I (.cons (show RelV (.ref a) (.ref a) from rfl) (.cons (show RelV (.ref b) (.ref b) from rfl) .nil)) hsp
          have hu := O.hu
          refine PySem.W.cmp_K (op := .Eq) (tb := .ref _) (by omega) hF I.ok.mod.kin J J2.type (by simp [PySem.W.notFirst]) e1 e2 (wpAny_mono w (fun r s' q => ?_) fun _ _ x => x)
          obtain ⟨b, rfl, q⟩ := q
          show EP X pins σ Q (.bool b) s'
          cases b <;> exact q
        · exact False.elim o
      · exact False.elim o
    · exact False.elim o
  · exact False.elim o
theorem okE_oin (O : XOk G T nm call fx X E) {m : Nat} {neg : Bool} {a b : Ex} {x y : Expr} {p : Pos} (hn : nm.an[m]? = some "__contains__") (hm : noSet y = true) (ha : PE X x (tE G E (evE T call a))) (hb : PE X y (tE G E (evE T call b))) : PE X (.Compare x [if neg then .NotIn else .In] [y] p) (tE G E (evE T call (.oin neg m a b))) := by
  refine (pe_cmpR (op_oin (E := E) O hn neg) ha hb (noSet_ok hm)).imp fun σ H Q q => ?_
  refine two_parts (fun _ _ _ _ h => h) ?_
  simpa only [tE, evE] using q
theorem okE_oeq (O : XOk G T nm call fx X E) {a b : Ex} {x y : Expr} {p : Pos} (hm : noSet y = true) (ha : PE X x (tE G E (evE T call a))) (hb : PE X y (tE G E (evE T call b))) : PE X (.Compare x [.Eq] [y] p) (tE G E (evE T call (.oeq a b))) := by
  refine (pe_cmpR (op_oeq (E := E) O) ha hb (noSet_ok hm)).imp fun σ H Q q => ?_
  refine two_parts (fun _ _ _ _ h => h) ?_
  simpa only [tE, evE] using q
theorem oin_bl {α : Type} {neg : Bool} {m : Nat} {v w : PV} {h : PH} {k : PV → PH → Res α} : (oinP T call neg m v w h).bind k = (oinP T call neg m v w h).bind fun r h1 => match r with
    | .bl b => k (.bl b) h1
    | _ => .stuck := by
  unfold oinP
  split
  · split
    · split
      · rw [Res.bind_assoc, Res.bind_assoc]
        congr 1
        funext r h3
        cases r <;> rfl
      · rfl
    · rfl
  · rfl
theorem oeq_bl {α : Type} {v w : PV} {h : PH} {k : PV → PH → Res α} : (oeqP T call v w h).bind k = (oeqP T call v w h).bind fun r h1 => match r with
    | .bl b => k (.bl b) h1
    | _ => .stuck := by
  unfold oeqP
  split
  · split
    · split
      · split
        · rw [Res.bind_assoc, Res.bind_assoc]
          congr 1
          funext r h3
          cases r <;> rfl
        · rfl
      · rfl
    · rfl
  · rfl
theorem okT_oin (O : XOk G T nm call fx X E) {m : Nat} {neg : Bool} {a b : Ex} {x y : Expr} {p : Pos} (hn : nm.an[m]? = some "__contains__") (hm : noSet y = true) (ha : PE X x (tE G E (evE T call a))) (hb : PE X y (tE G E (evE T call b))) : PT X (.Compare x [if neg then .NotIn else .In] [y] p) (tT G E (evT T call (.oin neg m a b))) := by
  refine (pt_cmpR (op_oin (E := E) O hn neg) ha hb (noSet_ok hm)).imp fun σ H Q ⟨as, ρ, h, S, R, o⟩ => ?_
  simp only [evT, evE, Res.bind_assoc] at o
  refine ⟨as, ρ, h, S, R, Ok.bind o fun v h1 as1 H1 v' f1 r1 o1 => ⟨as1, ρ, h1, f1.sr, R.fut f1, Ok.bind o1 fun w h2 as2 H2 w' f2 r2 o2 => ?_⟩⟩
  refine ⟨as2, h2, v, w, f2.sr, r1.fut f2, r2, ?_⟩
  rw [oin_bl] at o2
  refine Ok.bind o2 fun r h3 as3 H3 r' f3 rr o3 => ?_
  cases r with
  | bl b => exact ⟨b, rr.blE, o3 as3 H3 b (Fut.refl f3.sr) rfl⟩
  | _ => exact False.elim o3
theorem okT_oeq (O : XOk G T nm call fx X E) {a b : Ex} {x y : Expr} {p : Pos} (hm : noSet y = true) (ha : PE X x (tE G E (evE T call a))) (hb : PE X y (tE G E (evE T call b))) : PT X (.Compare x [.Eq] [y] p) (tT G E (evT T call (.oeq a b))) := by
  refine (pt_cmpR (op_oeq (E := E) O) ha hb (noSet_ok hm)).imp fun σ H Q ⟨as, ρ, h, S, R, o⟩ => ?_
  simp only [evT, evE, Res.bind_assoc] at o
  refine ⟨as, ρ, h, S, R, Ok.bind o fun v h1 as1 H1 v' f1 r1 o1 => ⟨as1, ρ, h1, f1.sr, R.fut f1, Ok.bind o1 fun w h2 as2 H2 w' f2 r2 o2 => ?_⟩⟩
  refine ⟨as2, h2, v, w, f2.sr, r1.fut f2, r2, ?_⟩
  rw [oeq_bl] at o2
  refine Ok.bind o2 fun r h3 as3 H3 r' f3 rr o3 => ?_
  cases r with
  | bl b => exact ⟨b, rr.blE, o3 as3 H3 b (Fut.refl f3.sr) rfl⟩
  | _ => exact False.elim o3
theorem okE_calld (O : XOk G T nm call fx X E) {g f j : Nat} {ds : List PV} {es : List Ex} {x : Str} {ys : List Expr} {p pos : Pos} (hg : nm.gn[g]? = some x) (hf : T.glob[g]? = some (.fn f)) (hj : T.dfl[j]? = some (f, ds)) (hb : glB fx.names x = true) (hp : plainName x = true)
    (hxs : ys.all (fun x => !isStar x) = true) (hlen : es.length = ys.length) (ha : PA X ys (tA G E (evEs T call es))) : PE X (.Call (.Name x p) ys [] pos) (tE G E (evE T call (.calld g es j))) := by
  obtain ⟨k, fd, ps, F, hr, hk, hbd, hm, ar, dk⟩ := O.fns g x f hg hf
  obtain ⟨dvs, us, r1, r2, bd⟩ := dk ds (List.mem_of_getElem? hj)
  cases ys with
  | nil =>
    cases es with
    | nil =>
      refine (pe_call0 F hr (gl_ok O hb) hm hk bd r2 O.pass (plain_ok hp).1).imp fun σ H Q ⟨as, ρ, h, S, R, o⟩ => ?_
      simp only [evE, hf, hj, callG, evEs, Res.bind_ok] at o
      show spF G call f ps.length ([] ++ dvs) H Q E
      exact Ok.bind_call ar S (r1 as H) o
    | cons _ _ => simp at hlen
  | cons y ys =>
    refine (pe_call F hr (gl_ok O hb) hm hk bd r2 O.pass ha (plain_ok hp).1 (star_cons (by simpa using (Bool.and_eq_true_iff.mp hxs).1)) (noStars (Bool.and_eq_true_iff.mp hxs).2)).imp fun σ H Q ⟨as, ρ, h, S, R, o⟩ => ?_
    simp only [evE, hf, hj, callG] at o
    refine ⟨as, ρ, h, S, R, Ok.bind o fun vs h1 as1 H1 vs' f1 q1 o1 => ?_⟩
    exact Ok.bind_call ar f1.sr (q1.append (r1 as1 H1)) o1
theorem make_okd {as : List Addr} {H : Hp} {h : PH} {c f np : Nat} {vs ds : List PV} {xs dvs : List V} {Q : VK} (ar : ∀ xs h, xs.length ≠ np → call f xs h = .stuck) (S : SR G as H h) (r : RepVs G as H vs xs) (rd : ∀ as H, RepVs G as H ds dvs)
    (o : OkV G E as H Q ((call f (.ref h.length :: (vs ++ ds)) (h ++ [.ins c []])).bind fun v h1 => match v with
      | .non => .ok (.ref h.length) h1
      | _ => .stuck)) : ∀ x dx, H x = none → H dx = none → dx ≠ x → spF G call f np (.ref x :: (xs ++ dvs)) (upd (upd H dx (.own x)) x (.ins (G.ca c) dx [])) (fun v H2 => v = .non ∧ Q (.ref x) H2) E := by
  intro x dx hx hd hne
  obtain ⟨f1, r1⟩ := S.newI (c := c) hx hd hne
  refine Ok.bind_call ar f1.sr (.cons r1 ((r.fut f1).append (rd _ _))) ?_
  refine Ok.bind (Ok.fut f1 o) fun v h2 as2 H2 v' f2 r2 q2 => ?_
  cases v with
  | non =>
    have e : v' = .non := by unfold RepV at r2; exact r2
    exact ⟨e, q2 as2 H2 (.ref x) (Fut.refl f2.sr) (r1.fut f2)⟩
  | _ => exact False.elim q2
theorem okE_maked (O : XOk G T nm call fx X E) {g c f j : Nat} {ds : List PV} {es : List Ex} {x : Str} {ys : List Expr} {p pos : Pos} (hg : nm.gn[g]? = some x) (hf : T.glob[g]? = some (.cls c)) (hi : (T.cls[c]?).bind (·.init) = some f) (hj : T.dfl[j]? = some (f, ds)) (hb : glB fx.names x = true) (hp : plainName x = true)
    (hxs : ys.all (fun x => !isStar x) = true) (hlen : es.length = ys.length) (ha : PA X ys (tA G E (evEs T call es))) : PE X (.Call (.Name x p) ys [] pos) (tE G E (evE T call (.calld g es j))) := by
  have hm := mg_cls O hg hf
  refine ⟨fun pins s σ H Q I ⟨as, ρ, h, S, R, o⟩ => ?_⟩
  simp only [evE, hf, hj, callG] at o
  obtain ⟨ci, ec, ei⟩ := Option.bind_eq_some_iff.mp hi
  obtain ⟨k, fd, ps, F, hr, hbd, ar, dk⟩ := O.mfn c ci f ec (.inl ei)
  obtain ⟨dvs, us, r1, r2, bd⟩ := dk ds (List.mem_of_getElem? hj)
  have M : Mk X.K (G.ca c) (G.fa f) := by rw [O.K]; exact O.cls.mkr c ci f ec ei
  cases ys with
  | nil =>
    cases es with
    | nil =>
      refine (pe_make0 (sp := spF G call f ps.length) M F hr (gl_ok O hb) hm bd r2 O.pass (plain_ok hp).1).run pins s σ H Q I ?_
      simp only [evEs, Res.bind_ok, hi] at o
      exact make_okd ar S .nil r1 o
    | cons _ _ => simp at hlen
  | cons y ys =>
    refine (pe_make (sp := spF G call f ps.length) M F hr (gl_ok O hb) hm bd r2 O.pass ha (plain_ok hp).1 (star_cons (by simpa using (Bool.and_eq_true_iff.mp hxs).1)) (noStars (Bool.and_eq_true_iff.mp hxs).2)).run pins s σ H Q I ⟨as, ρ, h, S, R, ?_⟩
    refine Ok.bind o fun vs h1 as1 H1 vs' f1 q1 o1 => ?_
    rw [hi] at o1
    exact make_okd ar f1.sr q1 r1 o1
theorem okE_mtd (O : XOk G T nm call fx X E) {m j : Nat} {n : Str} {o : Ex} {es : List Ex} {xo : Expr} {ys : List Expr} {apos pos : Pos} (hn : nm.an[m]? = some n) (ho : PE X xo (tE G E (evE T call o))) (ha : PA X ys (tA G E (evEs T call es)))
    (hbase : attributeBase xo n X.env (eval xo X.env) = eval xo X.env) (hxs : ys.all (fun x => !isStar x) = true) (hl : ys.length < 29) (hline : (apos.endLine == pos.line) = true) (hlen : es.length = ys.length) :
    PE X (.Call (.Attribute xo n apos) ys [] pos) (tE G E (evE T call (.mtd m o es j))) := by
  refine ⟨fun pins s σ H Q I ⟨as, ρ, h, S, R, q⟩ => ?_⟩
  simp only [evE] at q
  split at q
  · rename_i l h1 er
    split at q
    · rename_i c fs ql
      split at q
      · rename_i fnum qd qf qm hj
        split at q
        · rename_i hfn
          obtain ⟨qf1, ds⟩ := qd
          simp only at hfn
          subst hfn
          obtain ⟨ci, ec, em⟩ := Option.bind_eq_some_iff.mp qm
          have hn' := hn
          rw [O.an] at hn'
          have mm := O.cls.me c ci m fnum n ec em hn'
          obtain ⟨k, fd, ps, F, hr, hbd, ar, dk⟩ := O.mfn c ci fnum ec (.inr (.inl ⟨m, em⟩))
          obtain ⟨dvs, us, r1, r2, bd⟩ := dk ds (List.mem_of_getElem? hj)
          have cc : Cls X.K (G.ca c) := by rw [O.K]; exact O.cls.cl c (cls_lt ec)
          rw [← O.K] at mm
          have pre : tE G E (evE T call o) σ H fun x H1 => ∃ a dx gs, x = .ref a ∧ H1 a = some (.ins (G.ca c) dx gs) ∧ gs.lookup n = none ∧ tA G E (evEs T call es) σ H1 fun vs H2 => spF G call fnum ps.length (x :: (vs ++ dvs)) H2 Q E := by
            refine ⟨as, ρ, h, S, R, ?_⟩
            rw [er]
            intro as1 H1 v1 f1 q1
            obtain ⟨a, ea, rfl⟩ := q1.refE
            obtain ⟨dx, gs, eh, rf⟩ := f1.sr.insM ql ea
            refine ⟨a, dx, gs, rfl, eh, rf.gone O.cls.nd hn' qf, as1, ρ, h1, f1.sr, R.fut f1, ?_⟩
            refine Ok.bind (Ok.fut f1 q) fun vs h2 as2 H2 vs' f2 q2 o2 => ?_
            exact Ok.bind_call ar f2.sr (.cons (q1.fut f2) (q2.append (r1 _ _))) o2
          cases ys with
          | nil =>
            cases es with
            | nil =>
              refine (pe_meth0 (sp := spF G call fnum ps.length) ho cc mm F (hr.mono (Nat.le_succ k)) bd r2 O.pass (meth_eq hbase rfl (by decide) hline)).run pins s σ H Q I ?_
              obtain ⟨as', ρ', h', S', R', q'⟩ := pre
              refine ⟨as', ρ', h', S', R', q'.imp fun v H1 ⟨a, dx, gs, e1, e2, e3, as3, ρ3, h3, S3, R3, q3⟩ => ⟨a, dx, gs, e1, e2, e3, ?_⟩⟩
              simp only [evEs] at q3
              exact q3 as3 H1 [] (Fut.refl S3) .nil
            | cons _ _ => simp at hlen
          | cons y ys =>
            exact (pe_meth (sp := spF G call fnum ps.length) ho cc mm F (hr.mono (Nat.le_succ k)) bd r2 O.pass ha (star_cons (by simpa using (Bool.and_eq_true_iff.mp hxs).1)) (noStars (Bool.and_eq_true_iff.mp hxs).2) (meth_eq hbase hxs hl hline)).run pins s σ H Q I pre
        · exact False.elim q
      · exact False.elim q
    · exact False.elim q
  · exact False.elim q
end
end Mn
set_option Elab.async false
set_option linter.all false
set_option maxRecDepth 100000
set_option maxHeartbeats 4000000
namespace Mn
open PySem PySem.Spec L2 PyProof.Rows
theorem ddI_first (ns : List Int) : ∀ i, i ≤ ns.length → firstMet (fun i => ns.getD i 0) i = ddI (ns.take i)
  | 0, _ => rfl
  | i + 1, hi => by
    have hlt : i < ns.length := hi
    have e : ns.getD i 0 = ns[i] := by rw [List.getD_eq_getElem?_getD, List.getElem?_eq_getElem hlt] <;> rfl
    rw [firstMet_succ, ddI_first ns i (Nat.le_of_lt hlt), List.take_succ, List.getElem?_eq_getElem hlt]
    show step_dedup (ddI (ns.take i)) (ns.getD i 0) = ddI (ns.take i ++ [ns[i]])
    unfold ddI
    rw [List.foldl_append, e]
    show step_dedup _ _ = (if _ then _ else _)
    unfold step_dedup
    congr 1
    simp only [eq_iff_iff]
    rw [List.any_eq_true, List.contains_iff_mem]
    constructor
    · rintro ⟨x, hx, q⟩
      rw [← beq_iff_eq.mp q]
      exact hx
    · exact fun h => ⟨_, h, by simp⟩
section
variable {G : Gm} {T : Tb} {nm : Nm} {call : Nat → List PV → PH → Res PV} {fx : Fx} {X : Cx} {E : XK} {W : Nat}
def tLenSetG (K : PySem.W.Frag) (ta : TE) : TE := fun σ H Q => ta σ H fun x H1 => ∃ (l : Addr) (ns : List Int), x = V.ref l ∧ SqL K H1 l (ns.map V.int) ∧ ns.length < 1000 ∧ Q (.int (ddI ns).length) H1
theorem pe_lenSetG {a : Expr} {ta : TE} {p p2 q pos : Pos} (hc : X.calm = true) (hg : Gl X "len") (hm : X.mg "len" = none) (hg2 : Gl X "set") (hm2 : X.mg "set" = none) (ha : PE X a ta)
    (na : starEach [a] X.env = (false, eval a X.env) :: starEach [] X.env := by rfl) : PE X (.Call (.Name "len" p) [.Call (.Name "set" p2) [a] [] q] [] pos) (tLenSetG X.K ta) := by
  refine ⟨fun pins s σ H Q I h => ?_⟩
  refine Call_ (ld_blt I hg hm PySem.boot_len ?_)
  refine PyProof.Rows.callWith_builtin1 (PyProof.Rows.args_cons ?_ rfl) rfl rfl
  refine Call_ (ld_blt I hg2 hm2 PyProof.Rows.boot_set ?_)
  refine PyProof.Rows.callWith_type1 (PyProof.Rows.args_cons (thn (ha.run pins s σ H _ I h) fun v s1 ⟨x, H1, I1, r1, q1⟩ => PyProof.Rows.args_nil ?_) na) na rfl
  obtain ⟨l, ns, rfl, hq, h1, q1⟩ := q1
  cases r1
  obtain ⟨its, r, pl, hz⟩ := I1.list hq
  have hl : its.toArray.size = ns.length := by rw [List.size_toArray, ← r.length, List.length_map]
  refine call_set_list (I1.ok.hd hc) pl.isList (ns := ns) (by simpa using r.ints) (by unfold scanBound; omega) fun h' tk hS hk => ?_
  rw [hl, ddI_first ns ns.length (Nat.le_refl _), List.take_length] at hS
  refine PyProof.Rows.args_nil ?_
  obtain ⟨o, es, ep, t, ho, hex, hd, _, _, _, hf, hn⟩ := hS
  have hle : (ddI ns).length ≤ ns.length := by
    have : ∀ (l acc : List Int), (l.foldl (fun a n => if a.contains n then a else a ++ [n]) acc).length ≤ acc.length + l.length := fun l => by
      induction l with
      | nil => intro acc; simp
      | cons a r ih =>
        intro acc
        simp only [List.foldl_cons]
        split
        · have := ih acc; rw [List.length_cons]; omega
        · have := ih (acc ++ [a]); rw [List.length_append] at this; simp only [List.length_cons, List.length_nil] at this ⊢; omega
    have := this ns []
    simpa [ddI] using this
  have I2 : Inv X pins σ H1 { s1 with heap := h', toks := tk } := I1.kept fun b o e => hk b o (Heap.lt_size e) e
  refine call_len_set ho hex hd hf (by rw [hn] <;> omega) ⟨.int (ddI ns).length, H1, I2.tok _, ⟨_, by rw [hn]⟩, q1⟩
theorem okE_lset (O : XOk G T nm call fx X E) {e : Ex} {x : Expr} {p p2 q pos : Pos} (hx : isStar x = false) (hg : glB fx.names "len" = true) (hg2 : glB fx.names "set" = true) (ha : PE X x (tE G E (evE T call e))) :
    PE X (.Call (.Name "len" p) [.Call (.Name "set" p2) [x] [] q] [] pos) (tE G E (evE T call (.lset e))) := by
  refine (pe_lenSetG O.calm (gl_ok O hg) (O.bl .len) (gl_ok O hg2) O.sts ha (star_cons hx)).imp fun σ H Q ⟨as, ρ, h, S, R, o⟩ => ?_
  simp only [evE] at o
  refine ⟨as, ρ, h, S, R, Ok.bind o fun v h1 as1 H1 v' f1 r1 o1 => ?_⟩
  split at o1
  · rename_i l
    obtain ⟨a, ea, rfl⟩ := r1.refE
    split at o1
    · rename_i xs ql
      split at o1
      · rename_i ns qn
        split at o1
        · rename_i hl
          obtain ⟨ws, sl, r2⟩ := f1.sr.lst ql ea
          have ew := intsOf_ok qn r2
          subst ew
          exact ⟨a, ns, rfl, by rw [O.K]; exact sl, hl, okn o1 (Fut.refl f1.sr) (.int _)⟩
        · exact False.elim o1
      · exact False.elim o1
    · exact False.elim o1
  · exact False.elim o1
end
end Mn
set_option Elab.async false
set_option linter.all false
set_option maxRecDepth 100000
set_option maxHeartbeats 8000000
namespace Mn
open PySem PySem.Spec L2 PyProof.Rows
def isBoolOp : Expr → Bool
  | .BoolOp .. => true
  | _ => false
def isTup : Expr → Bool
  | .Tuple .. => true
  | _ => false
def itB (names : List (Str × NameKind)) (k : Ik) (tg iter : Expr) (n : Nat) (ck : List Expr → Bool) : Bool := match k, iter with
  | .seq, x => (n == 1) && ck [x]
  | .rng, .Call (.Name y _) xs [] _ => decide (y = "range") && glB names "range" && (n == 1 && xs.length == 1 || n == 2 && xs.length == 2 || n == 3 && xs.length == 3) && ck xs
  | .rvr, .Call (.Name y _) [.Call (.Name z _) xs [] _] [] _ => decide (y = "reversed") && glB names "reversed" && decide (z = "range") && glB names "range" && (n == 1 && xs.length == 1) && ck xs
  | .enum, .Call (.Name y _) xs [] _ => decide (y = "enumerate") && glB names "enumerate" && isTup tg && (n == 1 && xs.length == 1) && ck xs
  | .zip, .Call (.Name y _) xs [] _ => decide (y = "zip") && glB names "zip" && isTup tg && (n == 2 && xs.length == 2) && ck xs
  | .rev, .Call (.Name y _) xs [] _ => decide (y = "reversed") && glB names "reversed" && (n == 1 && xs.length == 1) && ck xs
  | _, _ => false
def isFn : Option PV → Bool
  | some (.fn _) => true
  | _ => false
def isMk (T : Tb) : Option PV → Bool
  | some (.cls c) => ((T.cls[c]?).bind (·.init)).isSome
  | _ => false
def dflB (T : Tb) (v : Option PV) (j : Nat) : Bool := match v, T.dfl[j]? with
  | some (.fn f), some q => decide (f = q.1)
  | some (.cls c), some q => decide ((T.cls[c]?).bind (·.init) = some q.1)
  | _, _ => false
section
variable (T : Tb) (nm : Nm)
mutual
def chkX (fx : Fx) : Ex → Expr → Bool
  | .var i, x => chkE nm fx (.var i) x
  | .con v, .Constant c _ _ => conOk v c
  | .glob g, x => chkE nm fx (.glob g) x
  | .bty f, .Name x _ => btyB fx.names f x
  | .bin op a b, .BinOp x o y _ => opB op o && chkX fx a x && chkX fx b y
  | .neg a, .UnaryOp .USub x _ => chkX fx a x
  | .not a, .UnaryOp .Not x _ => chkX fx a x
  | .and a b, .BoolOp .And (x :: y :: r) p => chkX fx a x && (match r with
      | [] => chkX fx b y
      | z :: r => chkX fx b (.BoolOp .And (y :: z :: r) p))
  | .or a b, .BoolOp .Or (x :: y :: r) p => chkX fx a x && (match r with
      | [] => chkX fx b y
      | z :: r => chkX fx b (.BoolOp .Or (y :: z :: r) p))
  | .cmp op a b, .Compare x [o] [y] _ => cpB op o && noSet y && chkX fx a x && chkX fx b y
  | .chn o1 o2 a b c, .Compare x [p1, p2] [y, z] _ => cpB o1 p1 && cpB o2 p2 && noSet y && noSet z && chkX fx a x && chkX fx b y && chkX fx c z
  | .ife c a b, .IfExp z x y _ => chkX fx c z && chkX fx a x && chkX fx b y
  | .tup es, .Tuple xs _ _ => chkDs fx es xs
  | .lst es, .List xs _ => chkDs fx es xs
  | .lno m o, .Call (.Name x _) [xo] [] _ => decide (x = "len") && glB fx.names "len" && decide (nm.an[m]? = some "__len__") && chkX fx o xo
  | .lc2 e own t k its ifs own1 t1 k1 its1 ifs1, .ListComp elt [⟨tg, iter, xifs, 0⟩, ⟨tg1, iter1, xifs1, 0⟩] sc _ => blkC fx.N (scOf fx) sc (ownsOf fx own) && (tgIs t).all (fun i => own.contains i) && (tgIs t1).all (fun i => own1.contains i) && own1.all (fun i => own.contains i) && chkTg (fxB fx sc) t tg && chkTg (fxB fx sc) t1 tg1 && noSet iter && noSet iter1 && itB fx.names k tg iter its.length (fun xs => chkXs fx its xs) && itB (fxB fx sc).names k1 tg1 iter1 its1.length (fun xs => chkXs (fxB fx sc) its1 xs) && decide (xifs.length ≤ 1) && decide (xifs1.length ≤ 1) && chkXs (fxB fx sc) ifs xifs && chkXs (fxB fx sc) ifs1 xifs1 && chkX (fxB fx sc) e elt
  | .ix o i, .Subscript x y _ => !isSlice y && chkX fx o x && chkX fx i y
  | .sl o lo hi, .Subscript x (.Slice l u none _) _ => chkX fx o x && (match l with
      | none => isNop lo
      | some e => !isNop lo && chkX fx lo e) && (match u with
      | none => isNop hi
      | some e => !isNop hi && chkX fx hi e)
  | .call g es, .Call (.Name x _) xs [] _ => decide (nm.gn[g]? = some x) && glB fx.names x && plainName x && (isFn T.glob[g]? || isMk T T.glob[g]?) && chkXs fx es xs
  | .bi f es, .Call (.Name x _) xs [] _ => decide (x = f.nm) && glB fx.names x && !xs.isEmpty && chkXs fx es xs
  | .mt m b o es, .Call (.Attribute xo name ap) xs [] pos => (if notNone b then decide (name = b.nm) else decide (nm.an[m]? = some name)) && baseB xo && (ap.endLine == pos.line) && decide (xs.length < 29) && chkX fx o xo && chkXs fx es xs
  | .dsp, .Dict [] [] _ => true
  | .calld g es j, .Call (.Name x _) xs [] _ => decide (nm.gn[g]? = some x) && glB fx.names x && plainName x && dflB T T.glob[g]? j && chkXs fx es xs
  | .mtd m o es _, .Call (.Attribute xo name ap) xs [] pos => decide (nm.an[m]? = some name) && baseB xo && (ap.endLine == pos.line) && decide (xs.length < 29) && chkX fx o xo && chkXs fx es xs
  | .oin neg m a b, .Compare x [o] [y] _ => decide (o = if neg then .NotIn else .In) && decide (nm.an[m]? = some "__contains__") && noSet y && chkX fx a x && chkX fx b y
  | .oeq a b, .Compare x [o] [y] _ => decide (o = .Eq) && noSet y && chkX fx a x && chkX fx b y
  | .lset e, .Call (.Name x _) [.Call (.Name y _) [z] [] _] [] _ => decide (x = "len") && glB fx.names "len" && decide (y = "set") && glB fx.names "set" && chkX fx e z
  | .lz es, .Call (.Name x _) [.Call (.Name y _) xs [] _] [] _ => decide (x = "list") && glB fx.names "list" && decide (y = "zip") && glB fx.names "zip" && decide (xs.length = 2) && chkXs fx es xs
  | .callv i es, .Call (.Name x _) xs [] _ => decide (fx.N[i]? = some x) && visB fx.names x && plainName x && !xs.isEmpty && chkXs fx es xs
  | .att o f, .Attribute xo n _ => decide (nm.an[f]? = some n) && baseB xo && chkX fx o xo
  | .lc e own t k its ifs, .ListComp elt [⟨tg, iter, xifs, 0⟩] sc _ => blkC fx.N (scOf fx) sc (ownsOf fx own) && (tgIs t).all (fun i => own.contains i) && chkTg (fxB fx sc) t tg && noSet iter && itB fx.names k tg iter its.length (fun xs => chkXs fx its xs) && decide (xifs.length ≤ 1) && chkXs (fxB fx sc) ifs xifs && chkX (fxB fx sc) e elt
  | _, _ => false
def chkXs (fx : Fx) : List Ex → List Expr → Bool
  | [], [] => true
  | e :: es, x :: xs => chkX fx e x && chkXs fx es xs
  | _, _ => false
def chkDs (fx : Fx) : List Ex → List Expr → Bool
  | [], [] => true
  | .star e :: es, .Starred x _ :: xs => chkX fx e x && chkDs fx es xs
  | e :: es, x :: xs => chkX fx e x && chkDs fx es xs
  | _, _ => false
end
end
section
variable (G : Gm) (T : Tb) (nm : Nm) (call : Nat → List PV → PH → Res PV)
structure CE (fx : Fx) (e : Ex) (x : Expr) : Prop where
  ns : isStar x = false
  ne : ∀ y, e ≠ .star y
  pe : ∀ X E, XOk G T nm call fx X E → PE X x (tE G E (evE T call e))
  pt : ∀ X E, XOk G T nm call fx X E → PT X x (tT G E (evT T call e))
  pw : ∀ X E, XOk G T nm call fx X E → isBoolOp x = true → PW X x (tT G E (evT T call e))
structure CEs (fx : Fx) (es : List Ex) (xs : List Expr) : Prop where
  len : es.length = xs.length
  ns : xs.all (fun x => !isStar x) = true
  ne : ∀ e ∈ es, ∀ y, e ≠ .star y
  pa : ∀ X E, XOk G T nm call fx X E → PA X xs (tA G E (evEs T call es))
  one : ∀ e x, es = [e] → xs = [x] → CE G T nm call fx e x
end
section
variable {G : Gm} {T : Tb} {nm : Nm} {call : Nat → List PV → PH → Res PV} {fx : Fx}
def isPlainT : Expr → Bool
  | .UnaryOp .Not _ _ => false
  | .BoolOp .. => false
  | .IfExp .. => false
  | .Compare .. => false
  | _ => true
theorem plainT_ok {x : Expr} {env : Env} (h : isPlainT x = true) : ∀ whole, isTrue x env whole = (do let v ← whole; standAt x.pos; holding [v] (truthy v)) := fun whole => by
  unfold PySem.isTrue
  split <;> first | rfl | cases h
theorem CE.val {e : Ex} {x : Expr} (ns : isStar x = false) (ne : ∀ y, e ≠ .star y) (pl : isPlainT x = true) (pe : ∀ X E, XOk G T nm call fx X E → PE X x (tE G E (evE T call e))) : CE G T nm call fx e x where
  ns := ns
  ne := ne
  pe := pe
  pt := fun X E O => okT_of O (pe X E O) (plainT_ok pl)
  pw := fun X E O hb => by cases x <;> first | exact Bool.noConfusion (show false = true from hb) | exact Bool.noConfusion (show false = true from pl)
theorem okI_by {k : Ik} {tg iter : Expr} {its : List Ex} {ck : List Expr → Bool} (h : itB fx.names k tg iter its.length ck = true) (hck : ∀ xs, ck xs = true → CEs G T nm call fx its xs) {X : Cx} {E : XK} (O : XOk G T nm call fx X E) : PI X tg iter (tI G E (evI T call k its)) := by
  unfold itB at h
  split at h
  · rename_i x
    simp only [Bool.and_eq_true, beq_iff_eq] at h
    match its, h with
    | [e], h => exact okI_seq O ((hck _ h.2).ne e (by simp)) (((hck _ h.2).one e _ rfl rfl).pe X E O)
  · rename_i y q xs pos
    simp only [Bool.and_eq_true, Bool.or_eq_true, beq_iff_eq, decide_eq_true_eq] at h
    obtain ⟨⟨⟨rfl, hg⟩, hl⟩, hc⟩ := h
    have c := hck _ hc
    have cn := c.ns
    rcases hl with (⟨h1, h2⟩ | ⟨h1, h2⟩) | ⟨h1, h2⟩
    · match its, xs, h1, h2, c, cn with
      | [e], [x], _, _, c, cn => exact okI_rng1 O (c.ne e (by simp)) (by simpa using cn) hg (c.pa X E O)
    · match its, xs, h1, h2, c, cn with
      | [e, e2], [x, x2], _, _, c, cn =>
        have cn' : isStar x = false ∧ isStar x2 = false := by simpa using cn
        exact okI_rng2 O (c.ne e (by simp)) (c.ne e2 (by simp)) cn'.1 cn'.2 hg (c.pa X E O)
    · match its, xs, h1, h2, c, cn with
      | [e, e2, e3], [x, x2, x3], _, _, c, cn =>
        have cn' : isStar x = false ∧ isStar x2 = false ∧ isStar x3 = false := by simpa using cn
        exact okI_rng3 O (c.ne e (by simp)) (c.ne e2 (by simp)) (c.ne e3 (by simp)) cn'.1 cn'.2.1 cn'.2.2 hg (c.pa X E O)
  · rename_i y q z q2 xs pos2 pos
    simp only [Bool.and_eq_true, beq_iff_eq, decide_eq_true_eq] at h
    obtain ⟨⟨⟨⟨⟨rfl, hg2⟩, rfl⟩, hg⟩, h1, h2⟩, hc⟩ := h
    have c := hck _ hc
    have cn := c.ns
    match its, xs, h1, h2, c, cn with
    | [e], [x], _, _, c, cn => exact okI_rvr O (c.ne e (by simp)) (by simpa using cn) hg hg2 ((c.one e x rfl rfl).pe X E O)
  · rename_i y q xs pos
    simp only [Bool.and_eq_true, beq_iff_eq, decide_eq_true_eq] at h
    obtain ⟨⟨⟨⟨rfl, hg⟩, ht⟩, h1, h2⟩, hc⟩ := h
    have c := hck _ hc
    have cn := c.ns
    cases tg with
    | Tuple elts kk tp =>
      match its, xs, h1, h2, c, cn with
      | [e], [x], _, _, c, cn => exact okI_enum O (c.ne e (by simp)) (by simpa using cn) hg (c.pa X E O)
    | _ => cases ht
  · rename_i y q xs pos
    simp only [Bool.and_eq_true, beq_iff_eq, decide_eq_true_eq] at h
    obtain ⟨⟨⟨⟨rfl, hg⟩, ht⟩, h1, h2⟩, hc⟩ := h
    have c := hck _ hc
    have cn := c.ns
    cases tg with
    | Tuple elts kk tp =>
      match its, xs, h1, h2, c, cn with
      | [e, e2], [x, x2], _, _, c, cn =>
        have cn' : isStar x = false ∧ isStar x2 = false := by simpa using cn
        exact okI_zip O (c.ne e (by simp)) (c.ne e2 (by simp)) cn'.1 cn'.2 hg (c.pa X E O)
    | _ => cases ht
  · rename_i y q xs pos
    simp only [Bool.and_eq_true, beq_iff_eq, decide_eq_true_eq] at h
    obtain ⟨⟨⟨rfl, hg⟩, h1, h2⟩, hc⟩ := h
    have c := hck _ hc
    have cn := c.ns
    match its, xs, h1, h2, c, cn with
    | [e], [x], _, _, c, cn => exact okI_rev O (c.ne e (by simp)) (by simpa using cn) hg (c.pa X E O)
  · cases h
theorem okTs_le {es : List Ex} {xs : List Expr} (c : CEs G T nm call fx es xs) (hl : xs.length ≤ 1) {X : Cx} {E : XK} (O : XOk G T nm call fx X E) : PTs X xs (tT G E (evIf T call es)) := by
  have ln := c.len
  cases xs with
  | nil =>
    cases es with
    | nil => exact okTs_nil
    | cons e es => simp at ln
  | cons x xs =>
    cases xs with
    | nil =>
      cases es with
      | nil => simp at ln
      | cons e es =>
        cases es with
        | nil => exact okTs_one ((c.one e x rfl rfl).pt X E O)
        | cons e2 es => simp at ln
    | cons y ys => simp at hl
end
end Mn
set_option Elab.async false
set_option linter.all false
set_option maxRecDepth 100000
set_option maxHeartbeats 8000000
namespace Mn
open PySem PySem.Spec L2 PyProof.Rows
section
variable {G : Gm} {T : Tb} {nm : Nm} {call : Nat → List PV → PH → Res PV}
theorem okT_ife {fx : Fx} {X : Cx} {E : XK} (O : XOk G T nm call fx X E) {c a b : Ex} {z x y : Expr} {p : Pos} (hc : PT X z (tT G E (evT T call c))) (ha : PT X x (tT G E (evT T call a))) (hb : PT X y (tT G E (evT T call b))) : PT X (.IfExp z x y p) (tT G E (evT T call (.ife c a b))) := by
  refine ⟨fun pins s σ H Q I ⟨as, ρ, h, S, R, o⟩ => ?_⟩
  have e : evT T call (.ife c a b) ρ h = (evT T call c ρ h).bind fun t h1 => if t then evT T call a ρ h1 else evT T call b ρ h1 := by
    simp only [evT, evE, Res.bind_assoc]
    congr 1
    funext v h1
    cases e : pTru h1 v with
    | none => rfl
    | some t => cases t <;> rfl
  rw [e] at o
  have e2 : ∀ w, PySem.isTrue (.IfExp z x y p) X.env w = (do
    if ← PySem.isTrue z X.env (eval z X.env) then PySem.isTrue x X.env (eval x X.env) else PySem.isTrue y X.env (eval y X.env)) := fun w => by conv => lhs; unfold PySem.isTrue
  rw [e2]
  refine wpAny_bind (thn (hc.run pins s σ H (fun t H1 => ∃ as1 h1, SR G as1 H1 h1 ∧ RepE G as1 H1 ρ σ ∧ OkB G E as1 H1 Q (if t then evT T call a ρ h1 else evT T call b ρ h1)) I ⟨as, ρ, h, S, R, Ok.bind o fun t h1 as1 H1 t' f1 et o1 => ?_⟩) fun d s1 ⟨H1, I1, as1, h1, S1, R1, o1⟩ => ?_)
  · subst et
    exact ⟨as1, h1, f1.sr, R.fut f1, o1⟩
  · cases d with
    | true => exact ha.run pins s1 σ H1 Q I1 ⟨as1, ρ, h1, S1, R1, o1⟩
    | false => exact hb.run pins s1 σ H1 Q I1 ⟨as1, ρ, h1, S1, R1, o1⟩
theorem pN {o : Option Expr} (h : (match o with | none => true | some _ => false) = true) : o = none := by cases o <;> first | rfl | cases h
mutual
theorem okX : ∀ (e : Ex) (fx : Fx) (x : Expr), chkX T nm fx e x = true → CE G T nm call fx e x
  | .var i, fx, x, h => by
    cases x with
    | Name y p => exact .val rfl (fun _ e => (nomatch e)) rfl fun X E O => okE_var O h
    | _ => cases h
  | .con v, fx, x, h => by
    cases x with
    | Constant c j p => exact .val rfl (fun _ e => (nomatch e)) rfl fun X E O => okE_con h
    | _ => cases h
  | .glob g, fx, x, h => by
    cases x with
    | Name y p => exact .val rfl (fun _ e => (nomatch e)) rfl fun X E O => okE_glob O h
    | _ => cases h
  | .bty f, fx, x, h => by
    cases x with
    | Name y p => exact .val rfl (fun _ e => (nomatch e)) rfl fun X E O => okE_bty O h
    | _ => cases h
  | .bin op a b, fx, x, h => by
    cases x with
    | BinOp x o y p =>
      simp only [chkX, Bool.and_eq_true] at h
      obtain ⟨⟨ho, ha⟩, hb⟩ := h
      obtain rfl := opB_ok ho
      have ca := okX a fx x ha
      have cb := okX b fx y hb
      exact .val rfl (fun _ e => (nomatch e)) rfl fun X E O => okE_bin O (ca.pe X E O) (cb.pe X E O)
    | _ => cases h
  | .neg a, fx, x, h => by
    cases x with
    | UnaryOp o y p =>
      cases o with
      | USub =>
        have ca := okX a fx y h
        exact .val rfl (fun _ e => (nomatch e)) rfl fun X E O => okE_neg (ca.pe X E O)
      | _ => cases h
    | _ => cases h
  | .not a, fx, x, h => by
    cases x with
    | UnaryOp o y p =>
      cases o with
      | Not =>
        have ca := okX a fx y h
        exact { ns := rfl, ne := fun _ e => (nomatch e), pe := fun X E O => okE_not O (ca.pe X E O), pt := fun X E O => okT_not (ca.pt X E O), pw := fun X E O hb => (nomatch hb) }
      | _ => cases h
    | _ => cases h
  | .and a b, fx, x, h => by
    cases x with
    | BoolOp o xs p =>
      cases o with
      | And =>
        match xs, h with
        | [x, y], h =>
          simp only [chkX, Bool.and_eq_true] at h
          have ca := okX a fx x h.1
          have cb := okX b fx y h.2
          exact { ns := rfl, ne := fun _ e => (nomatch e), pe := fun X E O => okE_and O (ca.pe X E O) (pe_one (cb.pe X E O)), pt := fun X E O => (okT_and (ca.pt X E O) (pw_and1 (cb.pt X E O))).pt, pw := fun X E O _ => okT_and (ca.pt X E O) (pw_and1 (cb.pt X E O)) }
        | x :: y :: z :: r, h =>
          simp only [chkX, Bool.and_eq_true] at h
          have ca := okX a fx x h.1
          have cb := okX b fx (.BoolOp .And (y :: z :: r) p) h.2
          exact { ns := rfl, ne := fun _ e => (nomatch e), pe := fun X E O => okE_and O (ca.pe X E O) (cb.pe X E O), pt := fun X E O => (okT_and (ca.pt X E O) (cb.pw X E O rfl)).pt, pw := fun X E O _ => okT_and (ca.pt X E O) (cb.pw X E O rfl) }
      | _ => cases h
    | _ => cases h
  | .or a b, fx, x, h => by
    cases x with
    | BoolOp o xs p =>
      cases o with
      | Or =>
        match xs, h with
        | [x, y], h =>
          simp only [chkX, Bool.and_eq_true] at h
          have ca := okX a fx x h.1
          have cb := okX b fx y h.2
          exact { ns := rfl, ne := fun _ e => (nomatch e), pe := fun X E O => okE_or O (ca.pe X E O) (pe_one (cb.pe X E O)), pt := fun X E O => (okT_or (ca.pt X E O) (pw_or1 (cb.pt X E O))).pt, pw := fun X E O _ => okT_or (ca.pt X E O) (pw_or1 (cb.pt X E O)) }
        | x :: y :: z :: r, h =>
          simp only [chkX, Bool.and_eq_true] at h
          have ca := okX a fx x h.1
          have cb := okX b fx (.BoolOp .Or (y :: z :: r) p) h.2
          exact { ns := rfl, ne := fun _ e => (nomatch e), pe := fun X E O => okE_or O (ca.pe X E O) (cb.pe X E O), pt := fun X E O => (okT_or (ca.pt X E O) (cb.pw X E O rfl)).pt, pw := fun X E O _ => okT_or (ca.pt X E O) (cb.pw X E O rfl) }
      | _ => cases h
    | _ => cases h
  | .cmp op a b, fx, x, h => by
    cases x with
    | Compare x os ys p =>
      match os, ys, h with
      | [o], [y], h =>
        simp only [chkX, Bool.and_eq_true] at h
        obtain ⟨⟨⟨ho, hs⟩, ha⟩, hb⟩ := h
        obtain rfl := cpB_ok ho
        have ca := okX a fx x ha
        have cb := okX b fx y hb
        exact { ns := rfl, ne := fun _ e => (nomatch e), pe := fun X E O => okE_cmp O hs (ca.pe X E O) (cb.pe X E O), pt := fun X E O => okT_cmp O hs (ca.pe X E O) (cb.pe X E O), pw := fun X E O hb => (nomatch hb) }
    | _ => cases h
  | .chn o1 o2 a b c, fx, x, h => by
    cases x with
    | Compare x os ys p =>
      match os, ys, h with
      | [p1, p2], [y, z], h =>
        simp only [chkX, Bool.and_eq_true] at h
        obtain ⟨⟨⟨⟨⟨⟨h1, h2⟩, _⟩, hz⟩, ha⟩, hb⟩, hc⟩ := h
        obtain rfl := cpB_ok h1
        obtain rfl := cpB_ok h2
        have ca := okX a fx x ha
        have cb := okX b fx y hb
        have cc := okX c fx z hc
        exact { ns := rfl, ne := fun _ e => (nomatch e), pe := fun X E O => okE_chn O hz (ca.pe X E O) (cb.pe X E O) (cc.pe X E O), pt := fun X E O => okT_chn O hz (ca.pe X E O) (cb.pe X E O) (cc.pe X E O), pw := fun X E O hb => (nomatch hb) }
    | _ => cases h
  | .ife c a b, fx, x, h => by
    cases x with
    | IfExp z x y p =>
      simp only [chkX, Bool.and_eq_true] at h
      have cc := okX c fx z h.1.1
      have ca := okX a fx x h.1.2
      have cb := okX b fx y h.2
      exact { ns := rfl, ne := fun _ e => (nomatch e), pe := fun X E O => okE_ife O (cc.pt X E O) (ca.pe X E O) (cb.pe X E O), pt := fun X E O => okT_ife O (cc.pt X E O) (ca.pt X E O) (cb.pt X E O), pw := fun X E O hb => (nomatch hb) }
    | _ => cases h
  | .tup es, fx, x, h => by
    cases x with
    | Tuple xs k p =>
      have c := okDs es fx xs h
      exact .val rfl (fun _ e => (nomatch e)) rfl fun X E O => okE_tup (c X E O)
    | _ => cases h
  | .lst es, fx, x, h => by
    cases x with
    | List xs p =>
      have c := okDs es fx xs h
      exact .val rfl (fun _ e => (nomatch e)) rfl fun X E O => okE_lst (c X E O)
    | _ => cases h
  | .ix o i, fx, x, h => by
    cases x with
    | Subscript x y p =>
      simp only [chkX, Bool.and_eq_true, Bool.not_eq_true'] at h
      have h' := h
      have ca := okX o fx x h'.1.2
      have cb := okX i fx y h'.2
      exact .val rfl (fun _ e => (nomatch e)) rfl fun X E O => okE_ix O h'.1.1 (ca.pe X E O) (cb.pe X E O)
    | _ => cases h
  | .sl o lo hi, fx, x, h => by
    cases x with
    | Subscript x y p =>
      cases y with
      | Slice l u st p2 =>
        cases st with
        | none =>
          simp only [chkX, Bool.and_eq_true] at h
          have co := okX o fx x h.1.1
          have kl : ∀ X E, XOk G T nm call fx X E → L2.PO X l (tO G E fun ρ h => partR lo (evE T call lo ρ h) h) := by
            cases l with
            | none =>
              have hn : lo = .nop := by
                have := h.1.2
                revert this
                cases lo <;> intro this <;> first | rfl | cases this
              subst hn
              exact fun X E O => okP_none
            | some e =>
              have h1 : isNop lo = false ∧ chkX T nm fx lo e = true := by simpa using h.1.2
              have c1 := okX lo fx e h1.2
              exact fun X E O => okP_some h1.1 (c1.pe X E O)
          have ku : ∀ X E, XOk G T nm call fx X E → L2.PO X u (tO G E fun ρ h => partR hi (evE T call hi ρ h) h) := by
            cases u with
            | none =>
              have hn : hi = .nop := by
                have := h.2
                revert this
                cases hi <;> intro this <;> first | rfl | cases this
              subst hn
              exact fun X E O => okP_none
            | some e =>
              have h1 : isNop hi = false ∧ chkX T nm fx hi e = true := by simpa using h.2
              have c1 := okX hi fx e h1.2
              exact fun X E O => okP_some h1.1 (c1.pe X E O)
          exact .val rfl (fun _ e => (nomatch e)) rfl fun X E O => okE_sl O (co.pe X E O) (kl X E O) (ku X E O)
        | some _ => cases h
      | _ => cases h
    | _ => cases h
  | .call g es, fx, x, h => by
    cases x with
    | Call f xs ks p =>
      cases f with
      | Name y q =>
        cases ks with
        | nil =>
          simp only [chkX, Bool.and_eq_true, decide_eq_true_eq] at h
          obtain ⟨⟨⟨⟨hg, hb⟩, hp⟩, hf⟩, hc⟩ := h
          have c := okXs es fx xs hc
          rw [Bool.or_eq_true] at hf
          rcases hf with hf | hf
          · have ⟨f, hf'⟩ : ∃ f, T.glob[g]? = some (.fn f) := by
              unfold isFn at hf
              split at hf
              · rename_i f q; exact ⟨f, q⟩
              · cases hf
            cases xs with
            | nil =>
              have e0 : es = [] := List.eq_nil_of_length_eq_zero c.len
              subst e0
              exact .val rfl (fun _ e => (nomatch e)) rfl fun X E O => okE_call0 O hg hf' hb hp
            | cons z zs =>
              have cn := c.ns
              simp only [List.all_cons, Bool.and_eq_true, Bool.not_eq_true'] at cn
              exact .val rfl (fun _ e => (nomatch e)) rfl fun X E O => okE_call O hg hf' hb hp cn.1 cn.2 (c.pa X E O)
          · have ⟨cc, f, hf', hi⟩ : ∃ cc f, T.glob[g]? = some (.cls cc) ∧ (T.cls[cc]?).bind (·.init) = some f := by
              unfold isMk at hf
              split at hf
              · rename_i cc q
                obtain ⟨f, hf⟩ := Option.isSome_iff_exists.mp hf
                exact ⟨cc, f, q, hf⟩
              · cases hf
            exact .val rfl (fun _ e => (nomatch e)) rfl fun X E O => okE_make O hg hf' hi hb hp c.ns c.len (c.pa X E O)
        | cons _ _ => cases h
      | _ => cases h
    | _ => cases h
  | .bi f es, fx, x, h => by
    cases x with
    | Call g xs ks p =>
      cases g with
      | Name y q =>
        cases ks with
        | nil =>
          simp only [chkX, Bool.and_eq_true, decide_eq_true_eq] at h
          obtain ⟨⟨⟨rfl, hb⟩, hne⟩, hc⟩ := h
          have c := okXs es fx xs hc
          cases xs with
          | nil => cases hne
          | cons z zs =>
            have cn := c.ns
            simp only [List.all_cons, Bool.and_eq_true, Bool.not_eq_true'] at cn
            exact .val rfl (fun _ e => (nomatch e)) rfl fun X E O => okE_bi O hb (c.pa X E O) cn.1 cn.2
        | cons _ _ => cases h
      | _ => cases h
    | _ => cases h
  | .mt m b o es, fx, x, h => by
    cases x with
    | Call g xs ks p =>
      cases g with
      | Attribute xo name ap =>
        cases ks with
        | nil =>
          simp only [chkX, Bool.and_eq_true, decide_eq_true_eq] at h
          obtain ⟨⟨⟨⟨⟨hnb, hba⟩, hl⟩, h30⟩, ho⟩, hc⟩ := h
          have co := okX o fx xo ho
          have c := okXs es fx xs hc
          by_cases hb : notNone b = true
          · rw [if_pos hb] at hnb
            have hnb := of_decide_eq_true hnb
            subst hnb
            cases xs with
            | nil =>
              have e0 : es = [] := List.eq_nil_of_length_eq_zero c.len
              subst e0
              exact .val rfl (fun _ e => (nomatch e)) rfl fun X E O => okE_mt0 O hb (co.pe X E O) (base_ok hba) hl
            | cons z zs => exact .val rfl (fun _ e => (nomatch e)) rfl fun X E O => okE_mt O hb (co.pe X E O) (c.pa X E O) (base_ok hba) c.ns h30 hl
          · rw [if_neg hb] at hnb
            have hn := of_decide_eq_true hnb
            have hbn : b = .none := by cases b <;> first | rfl | exact absurd rfl hb
            subst hbn
            exact .val rfl (fun _ e => (nomatch e)) rfl fun X E O => okE_meth O hn (co.pe X E O) (c.pa X E O) (base_ok hba) c.ns h30 hl c.len
        | cons _ _ => cases h
      | _ => cases h
    | _ => cases h
  | .lc e own t k its ifs, fx, x, h => by
    cases x with
    | ListComp elt gs sc p =>
      match gs, h with
      | [⟨tg, iter, xifs, 0⟩], h =>
        simp only [chkX, Bool.and_eq_true, decide_eq_true_eq] at h
        obtain ⟨⟨⟨⟨⟨⟨⟨hb, hown⟩, htg⟩, hns⟩, hit⟩, hl⟩, hifs⟩, he⟩ := h
        have ce := okX e (fxB fx sc) elt he
        have ci := okXs ifs (fxB fx sc) xifs hifs
        have cits : ∀ xs, chkXs T nm fx its xs = true → CEs G T nm call fx its xs := fun xs hx => okXs its fx xs hx
        refine .val rfl (fun _ e => (nomatch e)) rfl fun X E O => okE_lc O (okI_by hit cits O) hb (fun i hi => ?_) (fun X' O' => okG_tg O' htg) (fun X' O' => okTs_le ci hl O') (fun X' O' => ce.pe X' E0 O') hns
        have := List.all_eq_true.mp hown i hi
        simpa using this
    | _ => cases h
  | .lz es, fx, x, h => by
    cases x with
    | Call f xs ks p =>
      cases f with
      | Name y q =>
        match xs, ks, h with
        | [.Call (.Name y2 q2) zs [] p2], [], h =>
          simp only [chkX, Bool.and_eq_true, decide_eq_true_eq] at h
          obtain ⟨⟨⟨⟨⟨rfl, h2⟩, rfl⟩, h4⟩, h5⟩, h6⟩ := h
          have c := okXs es fx zs h6
          have cn := c.ns
          match zs, h5, c, cn with
          | [z1, z2], _, c, cn =>
            have cn' : isStar z1 = false ∧ isStar z2 = false := by simpa using cn
            exact .val rfl (fun _ e => (nomatch e)) rfl fun X E O => okE_lz O cn'.1 cn'.2 h2 h4 (c.pa X E O)
      | _ => cases h
    | _ => cases h
  | .lno m o, fx, x, h => by
    cases x with
    | Call f xs ks p =>
      cases f with
      | Name y q =>
        match xs, ks, h with
        | [xo], [], h =>
          simp only [chkX, Bool.and_eq_true, decide_eq_true_eq] at h
          obtain ⟨⟨⟨rfl, h2⟩, h3⟩, h4⟩ := h
          have co := okX o fx xo h4
          exact .val rfl (fun _ e => (nomatch e)) rfl fun X E O => okE_lno O h3 h2 co.ns co.ne (co.pe X E O)
      | _ => cases h
    | _ => cases h
  | .lc2 e own t k its ifs own1 t1 k1 its1 ifs1, fx, x, h => by
    cases x with
    | ListComp elt gs sc p =>
      match gs, h with
      | [⟨tg, iter, xifs, 0⟩, ⟨tg1, iter1, xifs1, 0⟩], h =>
        simp only [chkX, Bool.and_eq_true, decide_eq_true_eq] at h
        obtain ⟨⟨⟨⟨⟨⟨⟨⟨⟨⟨⟨⟨⟨⟨hb, hown⟩, hown1⟩, hsub⟩, htg⟩, htg1⟩, hns⟩, hns1⟩, hit⟩, hit1⟩, hl⟩, hl1⟩, hifs⟩, hifs1⟩, he⟩ := h
        have ce := okX e (fxB fx sc) elt he
        have ci := okXs ifs (fxB fx sc) xifs hifs
        have ci1 := okXs ifs1 (fxB fx sc) xifs1 hifs1
        have cits : ∀ xs, chkXs T nm fx its xs = true → CEs G T nm call fx its xs := fun xs hx => okXs its fx xs hx
        have cits1 : ∀ xs, chkXs T nm (fxB fx sc) its1 xs = true → CEs G T nm call (fxB fx sc) its1 xs := fun xs hx => okXs its1 (fxB fx sc) xs hx
        exact .val rfl (fun _ e => (nomatch e)) rfl fun X E O => okE_lc2 O (okI_by hit cits O) hb (fun i hi => by have := List.all_eq_true.mp hown i hi; simpa using this) (fun i hi => by have := List.all_eq_true.mp hown1 i hi; simpa using this) (fun i hi => by have := List.all_eq_true.mp hsub i hi; simpa using this)
          (fun X' O' => okG_tg O' htg) (fun X' O' => okTs_le ci hl O') (fun X' O' => okI_by hit1 cits1 O') (fun X' O' => okG_tg O' htg1) (fun X' O' => okTs_le ci1 hl1 O') (fun X' O' => ce.pe X' E0 O') hns hns1
    | _ => cases h
  | .star e, fx, x, h => by cases x <;> cases h
  | .nop, fx, x, h => by cases x <;> cases h
  | .att o f, fx, x, h => by
    cases x with
    | Attribute xo n p =>
      simp only [chkX, Bool.and_eq_true, decide_eq_true_eq] at h
      obtain ⟨⟨hn, hba⟩, ho⟩ := h
      have co := okX o fx xo ho
      exact .val rfl (fun _ e => (nomatch e)) rfl fun X E O => okE_att O hn (base_ok hba) (co.pe X E O)
    | _ => cases h
  | .callv i es, fx, x, h => by
    cases x with
    | Call f xs ks p =>
      cases f with
      | Name y q =>
        cases ks with
        | nil =>
          simp only [chkX, Bool.and_eq_true, decide_eq_true_eq] at h
          obtain ⟨⟨⟨⟨hn, hv⟩, hp⟩, hne⟩, hc⟩ := h
          have c := okXs es fx xs hc
          cases xs with
          | nil => cases hne
          | cons z zs =>
            have cn := c.ns
            simp only [List.all_cons, Bool.and_eq_true, Bool.not_eq_true'] at cn
            exact .val rfl (fun _ e => (nomatch e)) rfl fun X E O => okE_callv O hn hv hp cn.1 cn.2 (c.pa X E O)
        | cons _ _ => cases h
      | _ => cases h
    | _ => cases h
  | .dsp, fx, x, h => by
    cases x with
    | Dict ks vs p =>
      match ks, vs, h with
      | [], [], _ => exact .val rfl (fun _ e => (nomatch e)) rfl fun X E O => okE_dsp
    | _ => cases h
  | .calld g es j, fx, x, h => by
    cases x with
    | Call f xs ks p =>
      cases f with
      | Name y q =>
        cases ks with
        | nil =>
          simp only [chkX, Bool.and_eq_true, decide_eq_true_eq] at h
          obtain ⟨⟨⟨⟨hg, hb⟩, hp⟩, hf⟩, hc⟩ := h
          have c := okXs es fx xs hc
          unfold dflB at hf
          split at hf
          · rename_i f qd hf' hj
            obtain ⟨q1, ds⟩ := qd
            have e1 := of_decide_eq_true hf
            simp only at e1
            subst e1
            exact .val rfl (fun _ e => (nomatch e)) rfl fun X E O => okE_calld O hg hf' hj hb hp c.ns c.len (c.pa X E O)
          · rename_i cc qd hf' hj
            obtain ⟨q1, ds⟩ := qd
            have e1 := of_decide_eq_true hf
            exact .val rfl (fun _ e => (nomatch e)) rfl fun X E O => okE_maked O hg hf' e1 hj hb hp c.ns c.len (c.pa X E O)
          · cases hf
        | cons _ _ => cases h
      | _ => cases h
    | _ => cases h
  | .mtd m o es j, fx, x, h => by
    cases x with
    | Call g xs ks p =>
      cases g with
      | Attribute xo name ap =>
        cases ks with
        | nil =>
          simp only [chkX, Bool.and_eq_true, decide_eq_true_eq] at h
          obtain ⟨⟨⟨⟨⟨hn, hba⟩, hl⟩, h30⟩, ho⟩, hc⟩ := h
          have co := okX o fx xo ho
          have c := okXs es fx xs hc
          exact .val rfl (fun _ e => (nomatch e)) rfl fun X E O => okE_mtd O hn (co.pe X E O) (c.pa X E O) (base_ok hba) c.ns h30 hl c.len
        | cons _ _ => cases h
      | _ => cases h
    | _ => cases h
  | .oin neg m a b, fx, x, h => by
    cases x with
    | Compare x os ys p =>
      match os, ys, h with
      | [o], [y], h =>
        simp only [chkX, Bool.and_eq_true, decide_eq_true_eq] at h
        obtain ⟨⟨⟨⟨ho, hn⟩, hs⟩, ha⟩, hb⟩ := h
        subst ho
        have ca := okX a fx x ha
        have cb := okX b fx y hb
        exact { ns := rfl, ne := fun _ e => (nomatch e), pe := fun X E O => okE_oin O hn hs (ca.pe X E O) (cb.pe X E O), pt := fun X E O => okT_oin O hn hs (ca.pe X E O) (cb.pe X E O), pw := fun X E O hb => (nomatch hb) }
    | _ => cases h
  | .oeq a b, fx, x, h => by
    cases x with
    | Compare x os ys p =>
      match os, ys, h with
      | [o], [y], h =>
        simp only [chkX, Bool.and_eq_true, decide_eq_true_eq] at h
        obtain ⟨⟨⟨ho, hs⟩, ha⟩, hb⟩ := h
        subst ho
        have ca := okX a fx x ha
        have cb := okX b fx y hb
        exact { ns := rfl, ne := fun _ e => (nomatch e), pe := fun X E O => okE_oeq O hs (ca.pe X E O) (cb.pe X E O), pt := fun X E O => okT_oeq O hs (ca.pe X E O) (cb.pe X E O), pw := fun X E O hb => (nomatch hb) }
    | _ => cases h
  | .lset e, fx, x, h => by
    cases x with
    | Call f xs ks p =>
      cases f with
      | Name y q =>
        match xs, ks, h with
        | [.Call (.Name y2 q2) [z] [] p2], [], h =>
          simp only [chkX, Bool.and_eq_true, decide_eq_true_eq] at h
          obtain ⟨⟨⟨⟨rfl, h2⟩, rfl⟩, h4⟩, h5⟩ := h
          have c := okX e fx z h5
          exact .val rfl (fun _ e => (nomatch e)) rfl fun X E O => okE_lset O c.ns h2 h4 (c.pe X E O)
      | _ => cases h
    | _ => cases h
  | .repl o y z, fx, x, h => by cases x <;> cases h
  | .never, fx, x, h => by cases x <;> cases h
theorem okXs : ∀ (es : List Ex) (fx : Fx) (xs : List Expr), chkXs T nm fx es xs = true → CEs G T nm call fx es xs
  | [], fx, xs, h => by
    cases xs with
    | nil => exact { len := rfl, ns := rfl, ne := fun _ h => (by simp at h), pa := fun X E O => okA_nil, one := fun e x q => (nomatch q) }
    | cons _ _ => cases h
  | e :: es, fx, xs, h => by
    cases xs with
    | nil => cases h
    | cons x xs =>
      simp only [chkXs, Bool.and_eq_true] at h
      have c := okX e fx x h.1
      have cs := okXs es fx xs h.2
      refine { len := by simp [cs.len], ns := by simp [c.ns, cs.ns], ne := fun e' h' => ?_, pa := fun X E O => okA_cons c.ns c.ne (c.pe X E O) (cs.pa X E O), one := fun e' x' q1 q2 => ?_ }
      · rcases List.mem_cons.mp h' with rfl | h'
        · exact c.ne
        · exact cs.ne e' h'
      · cases q1
        cases q2
        exact c
theorem okDs : ∀ (es : List Ex) (fx : Fx) (xs : List Expr), chkDs T nm fx es xs = true → ∀ X E, XOk G T nm call fx X E → PA X xs (tA G E (evEs T call es))
  | [], fx, xs, h, X, E, O => by
    cases xs with
    | nil => exact okA_nil
    | cons _ _ => cases h
  | e :: es, fx, xs, h, X, E, O => by
    cases xs with
    | nil => cases e <;> cases h
    | cons x xs =>
      by_cases hs : ∃ y, e = .star y
      · obtain ⟨y, rfl⟩ := hs
        cases x with
        | Starred x p =>
          simp only [chkDs, Bool.and_eq_true] at h
          have c := okX y fx x h.1
          exact okA_star O (c.pe X E O) (okDs es fx xs h.2 X E O)
        | _ =>
          simp only [chkDs, Bool.and_eq_true] at h
          exact absurd h.1 (by simp [chkX])
      · have h' : chkX T nm fx e x = true ∧ chkDs T nm fx es xs = true := by
          cases e with
          | star y => exact absurd ⟨y, rfl⟩ hs
          | _ => cases x <;> simpa only [chkDs, Bool.and_eq_true] using h
        have c := okX e fx x h'.1
        exact okA_cons c.ns c.ne (c.pe X E O) (okDs es fx xs h'.2 X E O)
end
end
end Mn
set_option Elab.async false
set_option linter.all false
set_option maxRecDepth 100000
set_option maxHeartbeats 4000000
namespace Mn
open PySem PySem.Spec L2 PyProof.Rows
def tDel2 (to ti : TE) : TS := fun D σ H => to σ H fun x H1 => ti σ H1 fun y H2 => (∃ (l : Addr) (xs : List V) (i : Int) (k : Nat), x = .ref l ∧ y = .int i ∧ H2 l = some (.lst xs) ∧ -(2 ^ 63) ≤ i ∧ i < 2 ^ 63 ∧ PySem.seqIndex? i xs.length = some k ∧ D.nx σ (upd H2 l (.lst (xs.eraseIdx k)))) ∨
  ∃ a kvs k, x = .ref a ∧ H2 a = some (.dK kvs) ∧ y = kV k ∧ (valV kvs k).isSome = true ∧ D.nx σ (upd H2 a (.dK (dropK kvs k)))
theorem ps_del2 {X : Cx} {o i : Expr} {to ti : TE} {tpos pos : Pos} (ho : PE X o to) (hi : PE X i ti) : PS X (.Delete [.Subscript o i tpos] pos) (tDel2 to ti) := by
  refine ⟨fun pins s σ H D I h => ?_⟩
  refine wpAny_Delete (wpAny_deleteEach_cons (wpAny_delete_Subscript (thn (ho.run pins s σ H _ I h) fun u s1 ⟨x, H1, I1, rx, q1⟩ => thn (hi.run pins s1 σ H1 _ I1 q1) fun iv s2 ⟨y, H2, I2, ry, q2⟩ => ?_)))
  rcases q2 with ⟨l, xs, j, k, rfl, rfl, e, h1, h2, hk, q⟩ | ⟨a, kvs, k, rfl, e, rfl, hv, q⟩
  · cases (show u = Value.ref l from rx)
    obtain ⟨t, rfl⟩ := (show ∃ t, iv = Value.int j t from ry)
    exact del_list I2 e h1 h2 hk fun s3 I3 => wpAny_deleteEach_nil ⟨σ, _, I3, q⟩
  · cases (show u = Value.ref a from rx)
    exact d_delItem I2 e ry hv fun s3 I3 => wpAny_deleteEach_nil ⟨σ, _, I3, q⟩
section
variable {G : Gm} {T : Tb} {nm : Nm} {call : Nat → List PV → PH → Res PV} {fx : Fx} {X : Cx} {E : XK} {W : Nat}
theorem okS_del {o i : Ex} {xo xi : Expr} {p p2 : Pos} (ho : PE X xo (tE G E (evE T call o))) (hi : PE X xi (tE G E (evE T call i))) : PS X (.Delete [.Subscript xo xi p2] p) (tS G E (exS T call W (.del o i))) := by
  refine (ps_del2 ho hi).imp fun D σ H ⟨as, ρ, h, S, R, q⟩ => ?_
  simp only [exS] at q
  refine ⟨as, ρ, h, S, R, Ok.bind q fun v h1 as1 H1 v' f1 r1 q1 => ⟨as1, ρ, h1, f1.sr, R.fut f1, Ok.bind q1 fun w h2 as2 H2 w' f2 r2 q2 => ?_⟩⟩
  split at q2
  · rename_i h3 q3
    have S2 := f2.sr
    have rv := r1.fut f2
    cases v with
    | ref l =>
      obtain ⟨a, ea, rfl⟩ := rv.refE
      simp only [pDel] at q3
      split at q3
      · rename_i xs qq
        split at q3
        · rename_i j
          split at q3
          · rename_i k qk
            split at q3
            · rename_i hb
              cases q3
              simp only [Bool.and_eq_true, decide_eq_true_eq] at hb
              obtain ⟨vs, e1, rl⟩ := S2.lstM qq ea
              have f := S2.setL ea e1 (rl.eraseIdx k)
              exact .inl ⟨a, vs, j, k, rfl, r2.intE, e1, hb.1, hb.2, by rw [← rl.length]; exact qk, q2 _ _ (.nx σ) f (((R.fut f1).fut f2).fut f)⟩
            · cases q3
          · cases q3
        · cases q3
      · rename_i kvs qq
        split at q3
        · rename_i k qk
          split at q3
          · rename_i hs
            cases q3
            obtain ⟨ks, ed, rk⟩ := S2.dic qq ea
            obtain ⟨z, ez⟩ := Option.isSome_iff_exists.mp hs
            obtain ⟨z', ez', _⟩ := (dLook_ok k rk).1 z ez
            have f := S2.setD ea ed (dDrop_ok (k := k) rk)
            exact .inr ⟨a, ks, k, rfl, ed, keyOf_ok qk r2, by rw [ez']; rfl, q2 _ _ (.nx σ) f (((R.fut f1).fut f2).fut f)⟩
          · cases q3
        · cases q3
      · cases q3
    | _ => simp [pDel] at q3
  · exact False.elim q2
end
end Mn
set_option Elab.async false
set_option linter.all false
set_option maxRecDepth 100000
set_option maxHeartbeats 8000000
namespace Mn
open PySem PySem.Spec L2 PyProof.Rows
def isName : Expr → Bool
  | .Name .. => true
  | _ => false
section
variable (T : Tb) (nm : Nm)
def nmB (fx : Fx) (tg x : Expr) (l : Nat) : Bool := match tg, x with
  | .Name y py, .ListComp _ [_] sc pos => locB fx.names y && lcLine y py pos sc l
  | _, x => !isComp x
def tpB (fx : Fx) (is : List Nat) (ts : List Expr) (e : Ex) (x : Expr) : Bool := match is, ts, e, x with
  | [i, j], [.Name y py, .Name z pz], .tup es, .Tuple [a, b] _ _ => decide (fx.N[i]? = some y) && decide (fx.N[j]? = some z) && par2B fx.names y z py pz a b && chkXs T nm fx es [a, b]
  | [i, j, l], [.Name y py, .Name z pz, .Name u pu], .tup es, .Tuple [a, b, c] _ _ => decide (fx.N[i]? = some y) && decide (fx.N[j]? = some z) && decide (fx.N[l]? = some u) && par3B fx.names y z u py pz pu a b c && chkXs T nm fx es [a, b, c]
  | _, _, _, _ => false
def augB : Bop → Bool
  | .add => true
  | .sub => true
  | _ => false
def augM : Bop → Bool
  | .add => true
  | .sub => true
  | .mul => true
  | _ => false
mutual
def chkS (fx : Fx) : Sm → Stmt → Bool
  | .pass, .Pass _ => true
  | .brk, .Break _ => true
  | .cnt, .Continue _ => true
  | .retn, .Return none _ => true
  | .never, _ => true
  | .ret e, .Return (some x) _ => chkX T nm fx e x
  | .ex e, .Expr x _ => !isComp x && chkX T nm fx e x
  | .ite c a b, .If z xa xb _ => chkX T nm fx c z && chkSs fx a xa && chkSs fx b xb
  | .wh c b, .While z xb [] _ => chkX T nm fx c z && chkSs fx b xb
  | .for_ t k its b, .For tg iter xb [] _ => chkTg fx t tg && noSet iter && itB fx.names k tg iter its.length (fun xs => chkXs T nm fx its xs) && chkSs fx b xb
  | .asg (.nm i) e, .Assign [tg] x p => chkNm fx i tg && nmB fx tg x p.line && chkX T nm fx e x
  | .asg (.tp is) e, .Assign [.Tuple ts _ _] x _ => (swNo fx.names ts x && chkNms fx is ts && chkX T nm fx e x) || tpB T nm fx is ts e x
  | .asg (.ix o i) e, .Assign [.Subscript xo xi _] x _ => !isSlice xi && chkX T nm fx o xo && chkX T nm fx i xi && chkX T nm fx e x
  | .asg (.sl o lo hi) e, .Assign [.Subscript xo (.Slice l u none _) _] x _ => chkX T nm fx o xo && (match l with
      | none => isNop lo
      | some z => !isNop lo && chkX T nm fx lo z) && (match u with
      | none => isNop hi
      | some z => !isNop hi && chkX T nm fx hi z) && chkX T nm fx e x
  | .del o i, .Delete [.Subscript xo xi _] _ => !isSlice xi && chkX T nm fx o xo && chkX T nm fx i xi
  | .asg (.att o f) e, .Assign [.Attribute xo n _] x _ => decide (nm.an[f]? = some n) && chkX T nm fx o xo && chkX T nm fx e x
  | .aug (.att o f) op e, .AugAssign (.Attribute xo n _) ol x _ => augB op && opB op ol && decide (nm.an[f]? = some n) && chkX T nm fx o xo && chkX T nm fx e x
  | .aug (.nm i) op e, .AugAssign tg o x _ => augM op && opB op o && isName tg && chkNm fx i tg && chkX T nm fx e x
  | _, _ => false
def chkSs (fx : Fx) : List Sm → List Stmt → Bool
  | [], [] => true
  | s :: r, x :: xs => chkS fx s x && chkSs fx r xs
  | _, _ => false
end
end
section
variable {G : Gm} {T : Tb} {nm : Nm} {call : Nat → List PV → PH → Res PV} {W : Nat}
theorem okS_ret' {fx : Fx} {X : Cx} {E : XK} (O : XOk G T nm call fx X E) (po : PassesOwn (model X.prog X.w) X.A X.env X.xe) {t : Tg} {k : Ik} {its : List Ex} : True := trivial
mutual
theorem okS : ∀ (s : Sm) (fx : Fx) (x : Stmt), chkS T nm fx s x = true → ∀ X E, XOk G T nm call fx X E → PassesOwn (model X.prog X.w) X.A X.env X.xe → PS X x (tS G E (exS T call W s))
  | .pass, fx, x, h, X, E, O, po => by
    cases x with
    | Pass p => exact okS_pass
    | _ => cases h
  | .brk, fx, x, h, X, E, O, po => by
    cases x with
    | Break p => exact okS_brk
    | _ => cases h
  | .cnt, fx, x, h, X, E, O, po => by
    cases x with
    | Continue p => exact okS_cnt
    | _ => cases h
  | .retn, fx, x, h, X, E, O, po => by
    cases x with
    | Return o p =>
      cases o with
      | none => exact okS_retn
      | some _ => cases h
    | _ => cases h
  | .never, fx, x, h, X, E, O, po => okS_never
  | .ret e, fx, x, h, X, E, O, po => by
    cases x with
    | Return o p =>
      cases o with
      | none => cases h
      | some x => exact okS_ret ((okX e fx x h).pe X E O)
    | _ => cases h
  | .ex e, fx, x, h, X, E, O, po => by
    cases x with
    | Expr x p =>
      simp only [chkS, Bool.and_eq_true, Bool.not_eq_true'] at h
      exact okS_ex h.1 ((okX e fx x h.2).pe X E O)
    | _ => cases h
  | .ite c a b, fx, x, h, X, E, O, po => by
    cases x with
    | If z xa xb p =>
      simp only [chkS, Bool.and_eq_true] at h
      exact okS_ite ((okX c fx z h.1.1).pt X E O) (okSs a fx xa h.1.2 X E O po) (okSs b fx xb h.2 X E O po)
    | _ => cases h
  | .wh c b, fx, x, h, X, E, O, po => by
    cases x with
    | While z xb xo p =>
      cases xo with
      | nil =>
        simp only [chkS, Bool.and_eq_true] at h
        exact okS_wh po ((okX c fx z h.1).pt X E O) (okSs b fx xb h.2 X E O po)
      | cons _ _ => cases h
    | _ => cases h
  | .for_ t k its b, fx, x, h, X, E, O, po => by
    cases x with
    | For tg iter xb xo p =>
      cases xo with
      | nil =>
        simp only [chkS, Bool.and_eq_true] at h
        obtain ⟨⟨⟨ht, hs⟩, hi⟩, hb⟩ := h
        have cits : ∀ xs, chkXs T nm fx its xs = true → CEs G T nm call fx its xs := fun xs hx => okXs its fx xs hx
        exact okS_for O po (okI_by hi cits O) (okG_tg O ht) (okSs b fx xb hb X E O po) hs
      | cons _ _ => cases h
    | _ => cases h
  | .asg (.nm i) e, fx, x, h, X, E, O, po => by
    cases x with
    | Assign ts x p =>
      match ts, h with
      | [tg], h =>
        simp only [chkS, Bool.and_eq_true] at h
        obtain ⟨⟨ht, hn⟩, he⟩ := h
        cases hc : isComp x with
        | false => exact okS_nm O ht hc ((okX e fx x he).pe X E O)
        | true =>
          cases tg with
          | Name y py =>
            cases x with
            | ListComp elt gs sc pos =>
              match gs, hn, he with
              | [], hn, he => simp [nmB, isComp] at hn
              | _ :: _ :: _, hn, he => simp [nmB, isComp] at hn
              | [g1], hn, he =>
              simp only [nmB, Bool.and_eq_true] at hn
              simp only [chkNm, Bool.and_eq_true, decide_eq_true_eq] at ht
              cases e with
              | lc e own t k its ifs =>
                match g1, he with
                | ⟨tg, iter, xifs, 0⟩, he =>
                  simp only [chkX, Bool.and_eq_true, decide_eq_true_eq] at he
                  obtain ⟨⟨⟨⟨⟨⟨⟨hb, hown⟩, htg⟩, hns⟩, hit⟩, hl⟩, hifs⟩, he⟩ := he
                  have ce : CE G T nm call (fxB fx sc) e elt := okX e (fxB fx sc) elt he
                  have ci : CEs G T nm call (fxB fx sc) ifs xifs := okXs ifs (fxB fx sc) xifs hifs
                  have cits : ∀ xs, chkXs T nm fx its xs = true → CEs G T nm call fx its xs := fun xs hx => okXs its fx xs hx
                  refine okS_nmLc O ht.1 (locB_ok hn.1) hn.2 (okI_by hit cits O) hb (fun i hi => ?_) (fun X' O' => okG_tg O' htg) (fun X' O' => okTs_le ci hl O') (fun X' O' => ce.pe X' E0 O') hns
                  have := List.all_eq_true.mp hown i hi
                  simpa using this
              | lc2 e' own' t' k' its' ifs' o1 t1 k1 i1 f1 => exact absurd he (by obtain ⟨tg, iter, xifs, n⟩ := g1; cases n <;> simp [chkX])
              | _ => cases he
            | SetComp _ _ _ _ => simp [nmB, isComp] at hn
            | DictComp _ _ _ _ _ => simp [nmB, isComp] at hn
            | _ => cases hc
          | _ => cases ht
    | _ => cases h
  | .asg (.tp is) e, fx, x, h, X, E, O, po => by
    cases x with
    | Assign ts x p =>
      match ts, h with
      | [.Tuple ts k p2], h =>
        simp only [chkS, Bool.or_eq_true, Bool.and_eq_true] at h
        rcases h with ⟨⟨h1, h2⟩, h3⟩ | h
        · exact okS_tp O h1 h2 ((okX e fx x h3).pe X E O)
        · unfold tpB at h
          split at h
          · rename_i i j y py z pz es a b k2 p3 hh
            simp only [Bool.and_eq_true, decide_eq_true_eq] at h
            obtain ⟨⟨⟨h1, h2⟩, h3⟩, h4⟩ := h
            exact okS_par2 O h1 h2 h3 ((okXs es fx [a, b] h4).pa X E O)
          · rename_i i j l y py z pz u pu es a b c k2 p3 hh
            simp only [Bool.and_eq_true, decide_eq_true_eq] at h
            obtain ⟨⟨⟨⟨h1, h2⟩, h3⟩, h4⟩, h5⟩ := h
            exact okS_par3 O h1 h2 h3 h4 ((okXs es fx [a, b, c] h5).pa X E O)
          · cases h
    | _ => cases h
  | .asg (.ix o i) e, fx, x, h, X, E, O, po => by
    cases x with
    | Assign ts x p =>
      match ts, h with
      | [.Subscript xo xi p2], h =>
        simp only [chkS, Bool.and_eq_true, Bool.not_eq_true'] at h
        obtain ⟨⟨⟨h1, h2⟩, h3⟩, h4⟩ := h
        exact okS_ix O h1 ((okX e fx x h4).pe X E O) ((okX o fx xo h2).pe X E O) ((okX i fx xi h3).pe X E O)
    | _ => cases h
  | .asg (.sl o lo hi) e, fx, x, h, X, E, O, po => by
    cases x with
    | Assign ts x p =>
      match ts, h with
      | [.Subscript xo (.Slice l u none p3) p2], h =>
        simp only [chkS, Bool.and_eq_true] at h
        obtain ⟨⟨⟨ho, hlo⟩, hhi⟩, he⟩ := h
        have kl : L2.PO X l (tO G E fun ρ h => partR lo (evE T call lo ρ h) h) := by
          cases l with
          | none =>
            have hn : lo = .nop := by
              revert hlo
              cases lo <;> intro this <;> first | rfl | cases this
            subst hn
            exact okP_none
          | some z =>
            have h1 : isNop lo = false ∧ chkX T nm fx lo z = true := by simpa using hlo
            exact okP_some h1.1 ((okX lo fx z h1.2).pe X E O)
        have ku : L2.PO X u (tO G E fun ρ h => partR hi (evE T call hi ρ h) h) := by
          cases u with
          | none =>
            have hn : hi = .nop := by
              revert hhi
              cases hi <;> intro this <;> first | rfl | cases this
            subst hn
            exact okP_none
          | some z =>
            have h1 : isNop hi = false ∧ chkX T nm fx hi z = true := by simpa using hhi
            exact okP_some h1.1 ((okX hi fx z h1.2).pe X E O)
        exact okS_sl O ((okX e fx x he).pe X E O) ((okX o fx xo ho).pe X E O) kl ku
    | _ => cases h
  | .asg (.att o f) e, fx, x, h, X, E, O, po => by
    cases x with
    | Assign ts v p =>
      match ts, h with
      | [.Attribute xo n p2], h =>
        simp only [chkS, Bool.and_eq_true, decide_eq_true_eq] at h
        obtain ⟨⟨hn, ho⟩, he⟩ := h
        exact okS_fld O hn ((okX e fx v he).pe X E O) ((okX o fx xo ho).pe X E O)
    | _ => cases h
  | .aug (.nm i) op e, fx, x, h, X, E, O, po => by
    cases x with
    | AugAssign tg o x p =>
      simp only [chkS, Bool.and_eq_true] at h
      obtain ⟨⟨⟨⟨h1, h2⟩, h3⟩, h4⟩, h5⟩ := h
      obtain rfl := opB_ok h2
      cases tg with
      | Name y q => exact okS_aug O (by cases op <;> first | exact .inl rfl | exact .inr (.inl rfl) | exact .inr (.inr rfl) | cases h1) h4 ((okX e fx x h5).pe X E O)
      | _ => cases h3
    | _ => cases h
  | .aug (.tp _) op e, fx, x, h, X, E, O, po => by cases x <;> cases h
  | .aug (.att o f) op e, fx, x, h, X, E, O, po => by
    cases x with
    | AugAssign tg ol v p =>
      cases tg with
      | Attribute xo n p2 =>
        simp only [chkS, Bool.and_eq_true, decide_eq_true_eq] at h
        obtain ⟨⟨⟨⟨h1, h2⟩, hn⟩, ho⟩, he⟩ := h
        rw [opB_ok h2]
        exact okS_fldaug O (by cases op <;> first | exact .inl rfl | exact .inr rfl | cases h1) hn ((okX e fx v he).pe X E O) ((okX o fx xo ho).pe X E O)
      | _ => cases h
    | _ => cases h
  | .aug (.ix _ _) op e, fx, x, h, X, E, O, po => by cases x <;> cases h
  | .aug (.sl _ _ _) op e, fx, x, h, X, E, O, po => by cases x <;> cases h
  | .raise _ _, fx, x, h, X, E, O, po => by cases x <;> cases h
  | .del o i, fx, x, h, X, E, O, po => by
    cases x with
    | Delete ts p =>
      match ts, h with
      | [.Subscript xo xi p2], h =>
        simp only [chkS, Bool.and_eq_true, Bool.not_eq_true'] at h
        obtain ⟨⟨h1, h2⟩, h3⟩ := h
        exact okS_del ((okX o fx xo h2).pe X E O) ((okX i fx xi h3).pe X E O)
    | _ => cases h
theorem okSs : ∀ (ss : List Sm) (fx : Fx) (xs : List Stmt), chkSs T nm fx ss xs = true → ∀ X E, XOk G T nm call fx X E → PassesOwn (model X.prog X.w) X.A X.env X.xe → PSs X xs (tS G E (exSs T call W ss))
  | [], fx, xs, h, X, E, O, po => by
    cases xs with
    | nil => exact okSs_nil
    | cons _ _ => cases h
  | s :: r, fx, xs, h, X, E, O, po => by
    cases xs with
    | nil => cases h
    | cons x xs =>
      simp only [chkSs, Bool.and_eq_true] at h
      exact okSs_cons (okS s fx x h.1 X E O po) (okSs r fx xs h.2 X E O po)
end
end
end Mn
set_option Elab.async false
set_option linter.all false
set_option maxRecDepth 100000
set_option maxHeartbeats 8000000
namespace Mn
open PySem PySem.Spec L2 PyProof.Rows CwR
section
variable (T : Tb) (nm : Nm)
mutual
def chkET (fx : Fx) : Ex → Expr → Bool
  | .repl o y z, .Call (.Attribute xo name ap) [.Constant (.str c) _ _, .Constant (.str d) _ _] [] pos => decide (name = "replace") && decide (y = c.cps.toList) && decide (z = d.cps.toList) && !(c == d) && baseB xo && (ap.endLine == pos.line) && chkET fx o xo
  | .lst es, .List xs _ => chkXs T nm fx es xs || chkAT fx es xs
  | e, x => chkX T nm fx e x
def chkAT (fx : Fx) : List Ex → List Expr → Bool
  | [], [] => true
  | e :: es, x :: xs => chkET fx e x && chkAT fx es xs
  | _, _ => false
end
mutual
def chkST (fx : Fx) : Sm → Stmt → Bool
  | .asg (.nm i) e, .Assign [tg] x p => chkS T nm fx (.asg (.nm i) e) (.Assign [tg] x p) || (chkNm fx i tg && !isComp x && chkET T nm fx e x)
  | .ret e, .Return (some x) _ => chkET T nm fx e x
  | .ite c a b, .If z xa xb _ => chkX T nm fx c z && chkSTs fx a xa && chkSTs fx b xb
  | s, x => chkS T nm fx s x
def chkSTs (fx : Fx) : List Sm → List Stmt → Bool
  | [], [] => true
  | s :: r, x :: xs => chkST fx s x && chkSTs fx r xs
  | _, _ => false
end
end
section
variable {G : Gm} {T : Tb} {nm : Nm} {call : Nat → List PV → PH → Res PV} {W : Nat} {X : Cx} {E : XK}
theorem PET.imp {x : Expr} {t t' : TE} (p : PET X x t) (h : ∀ σ H Q, t' σ H Q → t σ H Q) : PET X x t' := fun pins s σ H Q h0 I q => p pins s σ H Q h0 I (h σ H Q q)
theorem PAT.imp {x : List Expr} {t t' : TA} (p : PAT X x t) (h : ∀ σ H Q, t' σ H Q → t σ H Q) : PAT X x t' := fun pos pins s σ H Q h0 I q => p pos pins s σ H Q h0 I (h σ H Q q)
theorem PST.imp {x : Stmt} {t t' : TS} (p : PST X x t) (h : ∀ D σ H, t' D σ H → t D σ H) : PST X x t' := fun pins s σ H D h0 I q => p pins s σ H D h0 I (h D σ H q)
theorem PSsT.imp {x : List Stmt} {t t' : TS} (p : PSsT X x t) (h : ∀ D σ H, t' D σ H → t D σ H) : PSsT X x t' := fun pins s σ H D h0 I q => p pins s σ H D h0 I (h D σ H q)
structure CT (G : Gm) (T : Tb) (nm : Nm) (call : Nat → List PV → PH → Res PV) (fx : Fx) (e : Ex) (x : Expr) : Prop where
  ns : isStar x = false
  ne : ∀ y, e ≠ .star y
  pe : ∀ X E, XOk G T nm call fx X E → PET X x (tE G E (evE T call e))
theorem CE.ct {fx : Fx} {e : Ex} {x : Expr} (c : CE G T nm call fx e x) : CT G T nm call fx e x := ⟨c.ns, c.ne, fun X E O => PET.of (c.pe X E O)⟩
theorem okET_lst {es : List Ex} {xs : List Expr} {p : Pos} (h : PAT X xs (tA G E (evEs T call es))) : PET X (.List xs p) (tE G E (evE T call (.lst es))) := by
  refine PET.imp (pet_lst h) fun σ H Q ⟨as, ρ, h, S, R, o⟩ => ?_
  simp only [evE] at o
  refine ⟨as, ρ, h, S, R, Ok.bind o fun vs h1 as1 H1 vs' f1 r1 o1 => ?_⟩
  split at o1
  · rename_i hl
    refine ⟨by rw [← r1.length]; exact hl, fun p hp => ?_⟩
    obtain ⟨f, r⟩ := f1.sr.newL hp r1
    exact okn o1 f r
  · exact False.elim o1
theorem okET_repl {o : Ex} {xo : Expr} {y z : List Nat} {c d : Str} {j k : Nat} {c0 c1 ap pos : Pos} (ho : PET X xo (tE G E (evE T call o))) (hy : y = c.cps.toList) (hz : z = d.cps.toList) (hne : (c == d) = false) (hb : baseB xo = true) (hl : (ap.endLine == pos.line) = true) :
    PET X (.Call (.Attribute xo "replace" ap) [.Constant (.str c) j c0, .Constant (.str d) k c1] [] pos) (tE G E (evE T call (.repl o y z))) := by
  refine PET.imp (pet_replT ho hne rfl (base_ok hb) hl) fun σ H Q ⟨as, ρ, h, S, R, q⟩ => ?_
  simp only [evE] at q
  refine ⟨as, ρ, h, S, R, Ok.bind q fun v h1 as1 H1 v' f1 r1 q1 => ?_⟩
  cases v with
  | str x =>
    dsimp only at q1
    split at q1
    · rename_i hq
      simp only [Bool.and_eq_true, decide_eq_true_eq] at hq
      obtain rfl := r1.strE
      have ec : (⟨y.toArray⟩ : Str) = c := by rw [hy]
      have ed : (⟨z.toArray⟩ : Str) = d := by rw [hz]
      rw [ec, ed] at q1
      refine ⟨_, rfl, ?_, okv f1.sr q1 (.strO _)⟩
      rw [str_len, ← ed, str_len]
      exact hq.1
    · exact False.elim q1
  | _ => exact False.elim q1
mutual
theorem okET : ∀ (e : Ex) (fx : Fx) (x : Expr), chkET T nm fx e x = true → CT G T nm call fx e x
  | .repl o y z, fx, x, h => by
    cases x with
    | Call f xs ks pos =>
      cases f with
      | Attribute xo name ap =>
        match xs, ks, h with
        | [.Constant (.str c) j c0, .Constant (.str d) k c1], [], h =>
          simp only [chkET, Bool.and_eq_true, decide_eq_true_eq, Bool.not_eq_true'] at h
          obtain ⟨⟨⟨⟨⟨⟨rfl, h1⟩, h2⟩, h3⟩, h4⟩, h5⟩, h6⟩ := h
          have co := okET o fx xo h6
          exact ⟨rfl, fun _ e => (nomatch e), fun X E O => okET_repl (co.pe X E O) h1 h2 h3 h4 h5⟩
      | _ => cases h
    | _ => cases h
  | .lst es, fx, x, h => by
    cases x with
    | List xs p =>
      simp only [chkET, Bool.or_eq_true] at h
      rcases h with h | h
      · have c := okXs (G := G) (call := call) es fx xs h
        exact ⟨rfl, fun _ e => (nomatch e), fun X E O => PET.of (okE_lst (c.pa X E O))⟩
      · have c := okAT es fx xs h
        exact ⟨rfl, fun _ e => (nomatch e), fun X E O => okET_lst (c X E O)⟩
    | _ => cases h
  | .var i, fx, x, h => (okX (.var i) fx x h).ct
  | .con v, fx, x, h => (okX (.con v) fx x h).ct
  | .glob g, fx, x, h => (okX (.glob g) fx x h).ct
  | .bty f, fx, x, h => (okX (.bty f) fx x h).ct
  | .bin op a b, fx, x, h => (okX (.bin op a b) fx x h).ct
  | .neg a, fx, x, h => (okX (.neg a) fx x h).ct
  | .not a, fx, x, h => (okX (.not a) fx x h).ct
  | .and a b, fx, x, h => (okX (.and a b) fx x h).ct
  | .or a b, fx, x, h => (okX (.or a b) fx x h).ct
  | .cmp op a b, fx, x, h => (okX (.cmp op a b) fx x h).ct
  | .chn o1 o2 a b c, fx, x, h => (okX (.chn o1 o2 a b c) fx x h).ct
  | .ife c a b, fx, x, h => (okX (.ife c a b) fx x h).ct
  | .tup es, fx, x, h => (okX (.tup es) fx x h).ct
  | .star e, fx, x, h => (okX (.star e) fx x h).ct
  | .ix o i, fx, x, h => (okX (.ix o i) fx x h).ct
  | .sl o lo hi, fx, x, h => (okX (.sl o lo hi) fx x h).ct
  | .nop, fx, x, h => (okX (.nop) fx x h).ct
  | .call g es, fx, x, h => (okX (.call g es) fx x h).ct
  | .bi f es, fx, x, h => (okX (.bi f es) fx x h).ct
  | .mt m b o es, fx, x, h => (okX (.mt m b o es) fx x h).ct
  | .att o f, fx, x, h => (okX (.att o f) fx x h).ct
  | .lc e own t k its ifs, fx, x, h => (okX (.lc e own t k its ifs) fx x h).ct
  | .callv i es, fx, x, h => (okX (.callv i es) fx x h).ct
  | .dsp, fx, x, h => (okX (.dsp) fx x h).ct
  | .lz es, fx, x, h => (okX (.lz es) fx x h).ct
  | .lno m o, fx, x, h => (okX (.lno m o) fx x h).ct
  | .lc2 e own t k its ifs own1 t1 k1 its1 ifs1, fx, x, h => (okX (.lc2 e own t k its ifs own1 t1 k1 its1 ifs1) fx x h).ct
  | .calld g es j, fx, x, h => (okX (.calld g es j) fx x h).ct
  | .mtd m o es j, fx, x, h => (okX (.mtd m o es j) fx x h).ct
  | .oin neg m a b, fx, x, h => (okX (.oin neg m a b) fx x h).ct
  | .oeq a b, fx, x, h => (okX (.oeq a b) fx x h).ct
  | .lit o, fx, x, h => (okX (.lit o) fx x h).ct
  | .lset e, fx, x, h => (okX (.lset e) fx x h).ct
  | .never, fx, x, h => (okX (.never) fx x h).ct
theorem okAT : ∀ (es : List Ex) (fx : Fx) (xs : List Expr), chkAT T nm fx es xs = true → ∀ X E, XOk G T nm call fx X E → PAT X xs (tA G E (evEs T call es))
  | [], fx, xs, h, X, E, O => by
    cases xs with
    | nil => exact PAT.imp pat_nil fun σ H Q ⟨as, ρ, h, S, R, o⟩ => (by
        simp only [evEs] at o
        exact o as H [] (Fut.refl S) .nil)
    | cons _ _ => cases h
  | e :: es, fx, xs, h, X, E, O => by
    cases xs with
    | nil => cases h
    | cons x xs =>
      simp only [chkAT, Bool.and_eq_true] at h
      have c := okET e fx x h.1
      have cs := okAT es fx xs h.2 X E O
      refine PAT.imp (pat_cons (c.pe X E O) cs (star_cons c.ns)) fun σ H Q ⟨as, ρ, h, S, R, o⟩ => ?_
      rw [evEs_cons c.ne] at o
      refine ⟨as, ρ, h, S, R, Ok.bind o fun v h1 as1 H1 v' f1 r1 o1 => ⟨as1, ρ, h1, f1.sr, R.fut f1, Ok.bind o1 fun vs h2 as2 H2 vs' f2 r2 o2 => ?_⟩⟩
      exact o2 as2 H2 _ (Fut.refl f2.sr) (.cons (r1.fut f2) r2)
end
theorem pst_set {i : Nat} {x : Str} {e : Expr} {te : TE} {pos' pos : Pos} (hN : X.N.Nodup) (hi : X.N[i]? = some x) (hx : Loc X.env.scope x) (he : PET X e te) (hs : swapsWith e (some (.Name x pos')) pos.line X.env = pure false) (hf : X.fn x = true ∨ X.env.scope.names.lookup x = some .local) :
    PST X (.Assign [.Name x pos'] e pos) (tAsg te (gName i)) := by
  intro pins s σ H D h0 I h
  refine wpAny_Assign_Name (thn (he pins s σ H _ h0 I h) fun v s1 ⟨y, H1, I1, r1, q1⟩ => ?_) hs
  exact store_ok I1 hN hi hx r1 (fun s2 I2 => ⟨_, H1, I2, q1⟩) hf
theorem okST_nm {fx : Fx} (O : XOk G T nm call fx X E) {i : Nat} {e : Ex} {t x : Expr} {p : Pos} (ht : chkNm fx i t = true) (hc : isComp x = false) (he : PET X x (tE G E (evE T call e))) : PST X (.Assign [t] x p) (tS G E (exS T call W (.asg (.nm i) e))) := by
  cases t with
  | Name y q =>
    simp only [chkNm, Bool.and_eq_true, decide_eq_true_eq, List.contains_iff_mem] at ht
    obtain ⟨l, f⟩ := O.st y ht.2
    refine PST.imp (pst_set (i := i) O.nd (by rw [O.N]; exact ht.1) l he (noSwap hc) f) fun D σ H ⟨as, ρ, h, S, R, o⟩ => ?_
    simp only [exS, asgTa, Res.bind_ok] at o
    exact ⟨as, ρ, h, S, R, Ok.bind o fun v h1 as1 H1 v' f1 r1 o1 => o1 as1 H1 (.nx _) (Fut.refl f1.sr) ((R.fut f1).set i r1)⟩
  | _ => cases ht
theorem okST_ret {e : Ex} {x : Expr} {p : Pos} (he : PET X x (tE G E (evE T call e))) : PST X (.Return (some x) p) (tS G E (exS T call W (.ret e))) := by
  refine PST.imp (pst_ret he) fun D σ H ⟨as, ρ, h, S, R, o⟩ => ?_
  simp only [exS] at o
  exact ⟨as, ρ, h, S, R, Ok.bind o fun v h1 as1 H1 v' f1 r1 o1 => o1 as1 H1 (.rt v') (Fut.refl f1.sr) r1⟩
theorem okST_ite {c : Ex} {a b : List Sm} {z : Expr} {xa xb : List Stmt} {p : Pos} (hc : PT X z (tT G E (evT T call c))) (ha : PSsT X xa (tS G E (exSs T call W a))) (hb : PSsT X xb (tS G E (exSs T call W b))) : PST X (.If z xa xb p) (tS G E (exS T call W (.ite c a b))) := by
  refine PST.imp (pst_if hc ha hb) fun D σ H ⟨as, ρ, h, S, R, o⟩ => ?_
  simp only [exS] at o
  refine ⟨as, ρ, h, S, R, Ok.bind o fun t h1 as1 H1 t' f1 r1 o1 => ?_⟩
  subst r1
  cases t with
  | true => exact ⟨as1, ρ, h1, f1.sr, R.fut f1, o1⟩
  | false => exact ⟨as1, ρ, h1, f1.sr, R.fut f1, o1⟩
theorem okSTs_cons {s : Sm} {r : List Sm} {x : Stmt} {xs : List Stmt} (h1 : PST X x (tS G E (exS T call W s))) (h2 : PSsT X xs (tS G E (exSs T call W r))) : PSsT X (x :: xs) (tS G E (exSs T call W (s :: r))) := by
  refine PSsT.imp (psst_cons h1 h2) fun D σ H ⟨as, ρ, h, S, R, o⟩ => ?_
  simp only [exSs] at o
  refine ⟨as, ρ, h, S, R, Ok.bind o fun f h1 as1 H1 fv f1 r1 o1 => ?_⟩
  cases f with
  | nx ρ1 =>
    cases fv with
    | nx σ1 => exact ⟨as1, ρ1, h1, f1.sr, r1, o1⟩
    | _ => exact False.elim r1
  | bk ρ1 =>
    cases fv with
    | bk σ1 => exact o1 as1 H1 (.bk σ1) (Fut.refl f1.sr) r1
    | _ => exact False.elim r1
  | ct ρ1 =>
    cases fv with
    | ct σ1 => exact o1 as1 H1 (.ct σ1) (Fut.refl f1.sr) r1
    | _ => exact False.elim r1
  | rt v =>
    cases fv with
    | rt v1 => exact o1 as1 H1 (.rt v1) (Fut.refl f1.sr) r1
    | _ => exact False.elim r1
mutual
theorem okST : ∀ (s : Sm) (fx : Fx) (x : Stmt), chkST T nm fx s x = true → ∀ X E, XOk G T nm call fx X E → PassesOwn (model X.prog X.w) X.A X.env X.xe → PST X x (tS G E (exS T call W s))
  | .asg (.nm i) e, fx, x, h, X, E, O, po => by
    cases x with
    | Assign ts x p =>
      match ts, h with
      | [tg], h =>
        simp only [chkST, Bool.or_eq_true, Bool.and_eq_true, Bool.not_eq_true'] at h
        rcases h with h | ⟨⟨h1, h2⟩, h3⟩
        · exact PST.of (okS _ fx _ h X E O po)
        · exact okST_nm O h1 h2 ((okET e fx x h3).pe X E O)
    | _ => cases h
  | .ret e, fx, x, h, X, E, O, po => by
    cases x with
    | Return o p =>
      cases o with
      | none => cases h
      | some x => exact okST_ret ((okET e fx x h).pe X E O)
    | _ => cases h
  | .ite c a b, fx, x, h, X, E, O, po => by
    cases x with
    | If z xa xb p =>
      simp only [chkST, Bool.and_eq_true] at h
      exact okST_ite ((okX c fx z h.1.1).pt X E O) (okSTs a fx xa h.1.2 X E O po) (okSTs b fx xb h.2 X E O po)
    | _ => cases h
  | .asg (.tp is) e, fx, x, h, X, E, O, po => PST.of (okS _ fx x h X E O po)
  | .asg (.att o f) e, fx, x, h, X, E, O, po => PST.of (okS _ fx x h X E O po)
  | .asg (.ix o i) e, fx, x, h, X, E, O, po => PST.of (okS _ fx x h X E O po)
  | .asg (.sl o lo hi) e, fx, x, h, X, E, O, po => PST.of (okS _ fx x h X E O po)
  | .aug t op e, fx, x, h, X, E, O, po => PST.of (okS _ fx x h X E O po)
  | .ex e, fx, x, h, X, E, O, po => PST.of (okS _ fx x h X E O po)
  | .retn, fx, x, h, X, E, O, po => PST.of (okS _ fx x h X E O po)
  | .wh c b, fx, x, h, X, E, O, po => PST.of (okS _ fx x h X E O po)
  | .for_ t k its b, fx, x, h, X, E, O, po => PST.of (okS _ fx x h X E O po)
  | .brk, fx, x, h, X, E, O, po => PST.of (okS _ fx x h X E O po)
  | .cnt, fx, x, h, X, E, O, po => PST.of (okS _ fx x h X E O po)
  | .pass, fx, x, h, X, E, O, po => PST.of (okS _ fx x h X E O po)
  | .raise g es, fx, x, h, X, E, O, po => PST.of (okS _ fx x h X E O po)
  | .del o i, fx, x, h, X, E, O, po => PST.of (okS _ fx x h X E O po)
  | .never, fx, x, h, X, E, O, po => PST.of (okS _ fx x h X E O po)
theorem okSTs : ∀ (ss : List Sm) (fx : Fx) (xs : List Stmt), chkSTs T nm fx ss xs = true → ∀ X E, XOk G T nm call fx X E → PassesOwn (model X.prog X.w) X.A X.env X.xe → PSsT X xs (tS G E (exSs T call W ss))
  | [], fx, xs, h, X, E, O, po => by
    cases xs with
    | nil => exact PSsT.of okSs_nil
    | cons _ _ => cases h
  | s :: r, fx, xs, h, X, E, O, po => by
    cases xs with
    | nil => cases h
    | cons x xs =>
      simp only [chkSTs, Bool.and_eq_true] at h
      exact okSTs_cons (okST s fx x h.1 X E O po) (okSTs r fx xs h.2 X E O po)
end
end
end Mn
set_option Elab.async false
set_option linter.all false
set_option maxRecDepth 100000
set_option maxHeartbeats 8000000
namespace Mn
open PySem PySem.Spec L2 PyProof.Rows CwR
structure Df where
  ps : List Str
  N : List Str
  body : List Sm
def locC (names : List (Str × NameKind)) (x : Str) : Bool := match names.lookup x with
  | some .local => true
  | some .cell => true
  | _ => false
theorem locC_ok {names : List (Str × NameKind)} {x : Str} (h : locC names x = true) : names.lookup x = some .local ∨ names.lookup x = some .cell := by
  unfold locC at h
  split at h
  · rename_i q; exact .inl q
  · rename_i q; exact .inr q
  · cases h
def Df.fx (d : Df) (sc : Scope) : Fx where
  N := d.N
  names := sc.names
  st := d.N.filter (locC sc.names)
def runD (T : Tb) (W : Nat) (call : Nat → List PV → PH → Res PV) (d : Df) (vs : List PV) (h : PH) : Res PV := if vs.length = d.ps.length then runBody T call W d.N.length d.body vs h else .stuck
def callS (T : Tb) (W : Nat) (D : List Df) (sp : Nat → Option (List PV → PH → Res PV)) : Nat → Nat → List PV → PH → Res PV
  | 0, _, _, _ => .stuck
  | n + 1, i, vs, h => match D[i]? with
    | none => .stuck
    | some d => match sp i with
      | none => runD T W (callS T W D sp n) d vs h
      | some r => if vs.length = d.ps.length then r vs h else .stuck
section
variable (G : Gm) (T : Tb) (nm : Nm) (D : List Df) (K : PySem.W.Frag) (mg : Str → Option Value)
structure GOk : Prop where
  K : K = G.K
  gl : ∀ (g : Nat) (x : Str) (v : PV), nm.gn[g]? = some x → T.glob[g]? = some v → ∃ u, mg x = some u ∧ RelG G v u
  bl : ∀ f : Bi, mg f.nm = none
  rng : mg "range" = none
  enm : mg "enumerate" = none
  zp : mg "zip" = none
  rvs : mg "reversed" = none
  sts : mg "set" = none
  cls : COk G T
  gnl : T.glob.length ≤ nm.gn.length
  an : nm.an = G.an
  mlt : ∀ (c : Nat) (ci : Ci) (f : Nat), T.cls[c]? = some ci → (ci.init = some f ∨ (∃ m, ci.meths.lookup m = some f) ∨ (∃ m, ci.props.lookup m = some f) ∨ ci.eq = some f) → f < D.length
  lt : ∀ (g f : Nat), T.glob[g]? = some (.fn f) → f < D.length
structure DOk (i : Nat) (d : Df) (fd : FuncData) : Prop where
  ex : ∃ (x qual : Str) (params : Arguments) (body : List Stmt) (scope : Scope), (∃ dvs kws, FunD K x qual params body scope dvs kws (G.fa i) fd) ∧ FnScope d.N d.ps scope ∧ ((chkSs T nm (d.fx scope) d.body body = true) ∨ ((∀ y ∈ scope.names, y.2 ≠ .cell) ∧ 1 ≤ d.ps.length ∧ chkSTs T nm (d.fx scope) d.body body = true))
  bn : Binds K fd d.ps []
  kp : PySem.W.keepIn K (.ref (G.fa i)) = true
  bd : DflK G T K fd d.ps i
end
section
variable {G : Gm} {T : Tb} {nm : Nm} {D : List Df} {K : PySem.W.Frag} {mg : Str → Option Value} {P : Program} {w : World} {base : Heap} {W : Nat} {sp : Nat → Option (List PV → PH → Res PV)}
def FnsAt (G : Gm) (T : Tb) (D : List Df) (P : Program) (w : World) (K : PySem.W.Frag) (mg : Str → Option Value) (base : Heap) (call : Nat → List PV → PH → Res PV) (k : Nat) : Prop :=
  ∀ i d, D[i]? = some d → ∃ fd, FnOk P w K mg base (L2.CX P w) k (G.fa i) fd d.ps (spF G call i d.ps.length) ∧ PySem.W.keepIn K (.ref (G.fa i)) = true ∧ Binds K fd d.ps [] ∧ (∀ xs h, xs.length ≠ d.ps.length → call i xs h = .stuck) ∧ DflK G T K fd d.ps i
theorem xok {call : Nat → List PV → PH → Res PV} {d : Df} {qual : Str} {scope : Scope} {f : Addr} {cdv : Value} {A : Around} {outer : List Env} {s : Shared} {H : Hp} {E : XK} {k : Nat} (O : GOk G T nm D K mg) (S : FnScope d.N d.ps scope) (hr : Room (k + 1) (A.deeper (envOfC qual scope s.heap.objs.size f cdv)))
    (F : FnsAt G T D P w K mg base call k) : XOk G T nm call (d.fx scope) (cxOf (L2.CX P w) P w K mg base d.N qual scope f cdv A outer s H E) E where
  K := O.K
  calm := rfl
  hu := by have := hr.un; show (A.deeper (envOfC qual scope s.heap.objs.size f cdv)).units + 70 < cLine; omega
  N := rfl
  nd := S.nd
  names := rfl
  gl := O.gl
  bl := O.bl
  st := fun x hx => by
    have : locC scope.names x = true := (List.mem_filter.mp hx).2
    exact ⟨locC_ok this, .inl rfl⟩
  rng := O.rng
  enm := O.enm
  zp := O.zp
  rvs := O.rvs
  sts := O.sts
  cls := O.cls
  kind := S.kind
  pass := passes_call (takes_of rfl rfl rfl rfl) fun _ _ _ _ h => h
  fns := fun g x f' h1 h2 => by
    have hl := O.lt g f' h2
    obtain ⟨fd, F1, kp, bn, ar, dk⟩ := F f' D[f'] (List.getElem?_eq_getElem hl)
    obtain ⟨u, e, y, ry, rep⟩ := O.gl g x _ h1 h2
    have e2 : y = .ref (G.fa f') := by
      have := rep [] (fun _ => none)
      unfold RepV at this
      exact this
    subst e2
    cases ry
    exact ⟨k, fd, D[f'].ps, F1, hr.mono (Nat.le_succ k), kp, bn, e, ar, dk⟩
  gnl := O.gnl
  an := O.an
  mfn := fun c ci f' h1 h2 => by
    have hl := O.mlt c ci f' h1 h2
    obtain ⟨fd, F1, kp, bn, ar, dk⟩ := F f' D[f'] (List.getElem?_eq_getElem hl)
    exact ⟨k, fd, D[f'].ps, F1, hr, bn, ar, dk⟩
theorem repE_start {as : List Addr} {H : Hp} {xs : List PV} {vs : List V} {N : List Str} (r : RepVs G as H xs vs) : RepE G as H (xs.map some ++ List.replicate (N.length - xs.length) none) (L2.start N vs) := by
  refine ⟨by simp [L2.start, r.length], fun i v e => ?_⟩
  unfold L2.start
  by_cases hi : i < xs.length
  · rw [List.getElem?_append_left (by simpa using hi), List.getElem?_map] at e
    rw [List.getElem?_append_left (by simpa [← r.length] using hi), List.getElem?_map]
    cases q : xs[i]? with
    | none => rw [q] at e; cases e
    | some y =>
      rw [q] at e
      cases e
      obtain ⟨v', e1, rv⟩ := r.get q
      exact ⟨v', by rw [e1]; rfl, rv⟩
  · rw [List.getElem?_append_right (by simpa using hi)] at e
    have := List.mem_of_getElem? e
    simp at this
theorem fn_mini {call : Nat → List PV → PH → Res PV} {i k : Nat} {d : Df} {fd : FuncData} (O : GOk G T nm D K mg) (DO : DOk G T nm K i d fd) (F : FnsAt G T D P w K mg base call k) : FnOk P w K mg base (L2.CX P w) (k + 2) (G.fa i) fd d.ps (spF G (fun _ => runD T W call d) i d.ps.length) := by
  obtain ⟨x, qual, params, body, scope, ⟨dvs, kws, FD⟩, S, hcc⟩ := DO.ex
  obtain ⟨oc, od, dV, kV, doc, pm, an, cdv, ct, osl, rfl, lk, hcd, _, _⟩ := FD.ex
  have fin : ∀ (vs : List V) (xs : List PV) (as : List Addr) (H : Hp) (h : PH) (Q : VK) (E : XK), vs.length = d.ps.length → RepVs G as H xs vs → OkV G E as H Q (runD T W call d xs h) →
      Ok G E as H (fun as' H' => relF G as' H') (endsQ { nx := fun _ H' => Q .non H', rt := Q }) (exSs T call W d.body (xs.map some ++ List.replicate (d.N.length - xs.length) none) h) := fun vs xs as H h Q E hl R o => by
    have hx : xs.length = d.ps.length := by rw [R.length]; exact hl
    unfold runD at o
    rw [if_pos hx] at o
    unfold runBody at o
    refine Ok.bind o fun f h1 as1 H1 fv f1 r1 o1 => ?_
    cases f with
    | nx ρ1 =>
      cases fv with
      | nx σ1 => exact o1 as1 H1 .non (Fut.refl f1.sr) .non
      | _ => exact False.elim r1
    | bk ρ1 => exact False.elim o1
    | ct ρ1 => exact False.elim o1
    | rt v =>
      cases fv with
      | rt v1 => exact o1 as1 H1 v1 (Fut.refl f1.sr) r1
      | _ => exact False.elim r1
  rcases hcc with hc | ⟨hnc, hps, hc⟩
  · refine fn_of lk hcd S (fun vs H Q E h => h.1) fun A outer s H vs Q E hr hsp => ?_
    obtain ⟨hl, as, h, xs, Sr, R, o⟩ := hsp
    have X := xok (P := P) (w := w) (base := base) (A := A) (outer := outer) (s := s) (H := H) (E := E) (qual := qual) (f := G.fa i) (cdv := cdv) O S hr F
    exact ⟨_, okSs (W := W) d.body _ body hc _ E X (passes_of rfl), as, _, h, Sr, repE_start R, fin vs xs as H h Q E hl R o⟩
  · refine fn_ofT lk hcd S hnc hps (fun vs H Q E h => h.1) fun A outer s H vs Q E hr hsp => ?_
    obtain ⟨hl, as, h, xs, Sr, R, o⟩ := hsp
    have X := xok (P := P) (w := w) (base := base) (A := A) (outer := outer) (s := s) (H := H) (E := E) (qual := qual) (f := G.fa i) (cdv := cdv) O S hr F
    exact ⟨_, okSTs (W := W) d.body _ body hc _ E X (passes_of rfl), as, _, h, Sr, repE_start R, fin vs xs as H h Q E hl R o⟩
def SpOk (G : Gm) (T : Tb) (W : Nat) (D : List Df) (sp : Nat → Option (List PV → PH → Res PV)) : Prop := ∀ i d r, D[i]? = some d → sp i = some r → ∀ (n : Nat) (as : List Addr) (H : Hp) (h : PH) (xs : List PV) (vs : List V) (Q : VK) (E : XK), SR G as H h → RepVs G as H xs vs → xs.length = d.ps.length → OkV G E as H Q (r xs h) →
  ∃ as' h', SR G as' H h' ∧ RepVs G as' H xs vs ∧ OkV G E as' H Q (runD T W (callS T W D sp n) d xs h')
theorem all_fns (O : GOk G T nm D K mg) (DO : ∀ i d, D[i]? = some d → ∃ fd, DOk G T nm K i d fd) (so : SpOk G T W D sp) : ∀ n, FnsAt G T D P w K mg base (callS T W D sp n) (2 * n)
  | 0 => fun i d e => by
    obtain ⟨fd, q⟩ := DO i d e
    refine ⟨fd, ⟨fun vs H Q E h => h.1, fun A outer s H args us vs Q E hr e0 hb r h => ?_⟩, q.kp, q.bn, fun xs h _ => rfl, q.bd⟩
    obtain ⟨_, _, _, _, _, _, o⟩ := h
    exact False.elim o
  | n + 1 => fun i d e => by
    obtain ⟨fd, q⟩ := DO i d e
    have F := fn_mini (W := W) (i := i) O q (all_fns O DO so n)
    refine ⟨fd, F.imp fun vs H Q E h => ?_, q.kp, q.bn, fun xs h hl => ?_, q.bd⟩
    · obtain ⟨hl, as, h, xs, Sr, R, o⟩ := h
      have hx : xs.length = d.ps.length := by rw [R.length]; exact hl
      simp only [callS, e] at o
      cases hs : sp i with
      | none =>
        rw [hs] at o
        exact ⟨hl, as, h, xs, Sr, R, o⟩
      | some r =>
        rw [hs] at o
        dsimp only at o
        rw [if_pos hx] at o
        obtain ⟨as', h', S', R', o'⟩ := so i d r e hs n as H h xs vs Q E Sr R hx o
        exact ⟨hl, as', h', xs, S', R', o'⟩
    · simp only [callS, e]
      cases hs : sp i with
      | none => simp only [runD, if_neg hl]
      | some r => simp only [if_neg hl]
end
end Mn
set_option Elab.async false
set_option linter.all false
set_option maxRecDepth 100000
set_option maxHeartbeats 4000000
namespace Mn
open PySem L2 He
def nB (n : Nat) (p : Nat → Bool) : Bool := (List.range n).all p
theorem nB_ok {n : Nat} {p : Nat → Bool} (h : nB n p = true) {i : Nat} (hi : i < n) : p i = true := List.all_eq_true.mp h i (List.mem_range.mpr hi)
def methB (K : PySem.W.Frag) (C : Addr) (n : Str) (f : Addr) : Bool := eqO (PySem.W.findIn K (.ref C) n) (some (some (.ref f))) && (PySem.W.isFn K (.ref f) && PySem.W.keepIn K (.ref f))
def propB (K : PySem.W.Frag) (C : Addr) (n : Str) (f : Addr) : Bool := eqO (PySem.W.findIn K (.ref C) n) (some (some (.ref (ma K C n)))) && (eqO (PySem.W.specialIn K (.ref (ma K C n)) "__get__") (some (some (.builtin "property.__get__"))) && (decide (PySem.W.takesIn K (.ref (ma K C n)) = some true) &&
  (match PySem.W.recIn K (ma K C n) "property" with
  | some (.ref g :: _) => decide (g = f)
  | _ => false)))
def mkB (K : PySem.W.Frag) (C : Addr) (f : Addr) : Bool := PySem.W.makesIn K C && (eqO (PySem.W.findIn K (.ref C) "__init__") (some (some (.ref f))) && (PySem.W.isFn K (.ref f) && PySem.W.keepIn K (.ref C)))
def clsB (K : PySem.W.Frag) (C : Addr) : Bool := (PySem.W.plainGet K C Str.empty && PySem.W.hasDictIn K C) && (PySem.W.plainOver K C && eqO (PySem.W.findIn K (.ref C) "__setattr__") (some (some (.builtin "object.__setattr__"))))
def attB (G : Gm) (c : Nat) (ci : Ci) (m : Nat) (n : Str) : Bool := match ci.meths.lookup m with
  | some f => methB G.K (G.ca c) n (G.fa f)
  | none => match ci.props.lookup m with
    | some f => propB G.K (G.ca c) n (G.fa f)
    | none => eqO (PySem.W.findIn G.K (.ref (G.ca c)) n) (some none)
def oneB (G : Gm) (T : Tb) (c : Nat) (ci : Ci) : Bool := (decide (PySem.W.kitOne G.K (.type "function") (.ref (G.ca c)) = some false) && (match ci.eq with
  | some f => eqO (PySem.W.findIn G.K (.ref (G.ca c)) "__eq__") (some (some (.ref (G.fa f)))) && PySem.W.isFn G.K (.ref (G.fa f))
  | none => true)) && (
  (nB T.cls.length fun d => decide (PySem.W.kitOne G.K (.ref (G.ca c)) (.ref (G.ca d)) = some (ci.sups.contains d))) &&
  ((tyNames.all fun n => decide (PySem.W.kitOne G.K (.ref (G.ca c)) (.type n) = some false) && decide (PySem.W.kitOne G.K (.type n) (.ref (G.ca c)) = some false)) &&
  (clsB G.K (G.ca c) &&
  (eqO (PySem.W.findIn G.K (.ref (G.ca c)) "__class__") (some (some (.builtin "object.__class__"))) &&
  (decide (PySem.W.mroIn G.K (G.ca c) (.type "object") = some true) &&
  ((nB G.an.length fun m => match G.an[m]? with
    | some n => attB G c ci m n
    | none => true) &&
  (match ci.init with
  | some f => mkB G.K (G.ca c) (G.fa f)
  | none => true)))))))
def fnkB (G : Gm) (T : Tb) : Bool := T.glob.all fun v => match v with
  | .fn f => PySem.W.isFn G.K (.ref (G.fa f))
  | _ => true
def cokB (G : Gm) (T : Tb) : Bool := (nB T.cls.length fun c => match T.cls[c]? with
  | some ci => oneB G T c ci
  | none => true) && (fnkB G T && (eqO (PySem.W.specialIn G.K (.builtin "object.__class__") "__get__") (some (some (.builtin "getset_descriptor.__get__"))) && decide (PySem.W.takesIn G.K (.builtin "object.__class__") = some true)))
section
variable {G : Gm} {T : Tb}
theorem methB_ok {K : PySem.W.Frag} {C f : Addr} {n : Str} (h : methB K C n f = true) : Meth K C n f := by
  obtain ⟨h1, h2⟩ := ba h
  obtain ⟨h2, h3⟩ := ba h2
  exact ⟨eqO_ok h1, h2, h3⟩
theorem propB_ok {K : PySem.W.Frag} {C f : Addr} {n : Str} (h : propB K C n f = true) : ∃ p, PropOf K C n p f := by
  obtain ⟨h1, h2⟩ := ba h
  obtain ⟨h2, h3⟩ := ba h2
  obtain ⟨h3, h4⟩ := ba h3
  refine ⟨ma K C n, eqO_ok h1, eqO_ok h2, of_decide_eq_true h3, ?_⟩
  split at h4
  · rename_i g r e
    exact ⟨r, by rw [e, of_decide_eq_true h4]⟩
  · cases h4
theorem mkB_ok {K : PySem.W.Frag} {C f : Addr} (h : mkB K C f = true) : Mk K C f := by
  obtain ⟨h1, h2⟩ := ba h
  obtain ⟨h2, h3⟩ := ba h2
  obtain ⟨h3, h4⟩ := ba h3
  exact ⟨h1, eqO_ok h2, h3, h4⟩
theorem clsB_ok {K : PySem.W.Frag} {C : Addr} (h : clsB K C = true) : Cls K C := by
  obtain ⟨h1, h2⟩ := ba h
  obtain ⟨h3, h4⟩ := ba h1
  obtain ⟨h5, h6⟩ := ba h2
  exact ⟨h3, h4, h5, eqO_ok h6⟩
structure OneOk (G : Gm) (T : Tb) (c : Nat) (ci : Ci) : Prop where
  cc : ∀ d, d < T.cls.length → PySem.W.kitOne G.K (.ref (G.ca c)) (.ref (G.ca d)) = some (ci.sups.contains d)
  ty : ∀ n ∈ tyNames, PySem.W.kitOne G.K (.ref (G.ca c)) (.type n) = some false ∧ PySem.W.kitOne G.K (.type n) (.ref (G.ca c)) = some false
  cl : Cls G.K (G.ca c)
  ha : PySem.W.findIn G.K (.ref (G.ca c)) "__class__" = some (some (.builtin "object.__class__"))
  hm : PySem.W.mroIn G.K (G.ca c) (.type "object") = some true
  att : ∀ (m : Nat) (n : Str), G.an[m]? = some n → attB G c ci m n = true
  mkr : ∀ f, ci.init = some f → Mk G.K (G.ca c) (G.fa f)
  tf : PySem.W.kitOne G.K (.type "function") (.ref (G.ca c)) = some false
  eqm : ∀ f, ci.eq = some f → PySem.W.findIn G.K (.ref (G.ca c)) "__eq__" = some (some (.ref (G.fa f))) ∧ PySem.W.isFn G.K (.ref (G.fa f)) = true
theorem oneB_ok {c : Nat} {ci : Ci} (h : oneB G T c ci = true) : OneOk G T c ci := by
  obtain ⟨h0, h⟩ := ba h
  obtain ⟨h01, h02⟩ := ba h0
  obtain ⟨h1, h⟩ := ba h
  obtain ⟨h2, h⟩ := ba h
  obtain ⟨h3, h⟩ := ba h
  obtain ⟨h4, h⟩ := ba h
  obtain ⟨h5, h⟩ := ba h
  obtain ⟨h6, h7⟩ := ba h
  refine ⟨fun d hd => of_decide_eq_true (nB_ok h1 hd), fun n hn => ?_, clsB_ok h3, eqO_ok h4, of_decide_eq_true h5, fun m n e => ?_, fun f e => ?_, of_decide_eq_true h01, fun f e => ?_⟩
  · obtain ⟨q1, q2⟩ := ba (List.all_eq_true.mp h2 n hn)
    exact ⟨of_decide_eq_true q1, of_decide_eq_true q2⟩
  · have q := nB_ok h6 (List.getElem?_eq_some_iff.mp e).1
    rw [e] at q
    exact q
  · rw [e] at h7
    exact mkB_ok h7
  · rw [e] at h02
    obtain ⟨q1, q2⟩ := ba h02
    exact ⟨eqO_ok q1, q2⟩
theorem cok_of (h : cokB G T = true) (nd : G.an.Nodup) : COk G T := by
  obtain ⟨h1, h2⟩ := ba h
  obtain ⟨hf, h2⟩ := ba h2
  obtain ⟨h2, h3⟩ := ba h2
  have one : ∀ (c : Nat) (ci : Ci), T.cls[c]? = some ci → OneOk G T c ci := fun c ci e => by
    have q := nB_ok h1 (List.getElem?_eq_some_iff.mp e).1
    rw [e] at q
    exact oneB_ok q
  have at1 : ∀ c, c < T.cls.length → ∃ ci, T.cls[c]? = some ci ∧ OneOk G T c ci := fun c hc => ⟨_, List.getElem?_eq_getElem hc, one c _ (List.getElem?_eq_getElem hc)⟩
  exact {
    cc := fun c d ci e hd => (one c ci e).cc d hd
    ct := fun c n hc hn => let ⟨_, _, o⟩ := at1 c hc; (o.ty n hn).1
    tc := fun c n hc hn => let ⟨_, _, o⟩ := at1 c hc; (List.mem_cons.mp hn).elim (fun e => e ▸ o.tf) fun hn => (o.ty n hn).2
    fnk := fun f hq => by
      obtain ⟨v, hv, e⟩ := List.any_eq_true.mp hq
      have q := List.all_eq_true.mp hf v hv
      cases v with
      | fn j =>
        have e2 : j = f := by simpa [isFnOf] using e
        subst e2
        exact q
      | _ => simp [isFnOf] at e
    eqm := fun c ci f ec ei => (one c ci ec).eqm f ei
    cl := fun c hc => let ⟨_, _, o⟩ := at1 c hc; o.cl
    ha := fun c hc => let ⟨_, _, o⟩ := at1 c hc; o.ha
    hm := fun c hc => let ⟨_, _, o⟩ := at1 c hc; o.hm
    hn := fun _ => eqO_ok h2
    htk := fun _ => of_decide_eq_true h3
    nd := nd
    at_ := fun c f n e en => by
      obtain ⟨ci, ec, em, ep⟩ := attK_cls e
      have q := (one c ci ec).att f n en
      unfold attB at q
      rw [em, ep] at q
      exact eqO_ok q
    me := fun c ci m f n ec em en => by
      have q := (one c ci ec).att m n en
      unfold attB at q
      rw [em] at q
      exact methB_ok q
    mkr := fun c ci f ec ei => (one c ci ec).mkr f ei
    pr := fun c ci m f n ec em ep en => by
      have q := (one c ci ec).att m n en
      unfold attB at q
      rw [em, ep] at q
      exact propB_ok q }
end
def mltB (T : Tb) (n : Nat) : Bool := T.cls.all fun ci => (match ci.init with
  | some f => decide (f < n)
  | none => true) && ((match ci.eq with
  | some f => decide (f < n)
  | none => true) && ((ci.meths.all fun q => decide (q.2 < n)) && ci.props.all fun q => decide (q.2 < n)))
theorem lookup_in {l : List (Nat × Nat)} {m f : Nat} (h : l.lookup m = some f) : (m, f) ∈ l := by
  induction l with
  | nil => simp at h
  | cons q r ih =>
    obtain ⟨a, b⟩ := q
    rw [List.lookup_cons] at h
    split at h
    · rename_i e
      cases h
      rw [beq_iff_eq.mp e]
      exact List.mem_cons_self
    · exact List.mem_cons_of_mem _ (ih h)
theorem mlt_of {T : Tb} {n : Nat} (h : mltB T n = true) : ∀ (c : Nat) (ci : Ci) (f : Nat), T.cls[c]? = some ci → (ci.init = some f ∨ (∃ m, ci.meths.lookup m = some f) ∨ (∃ m, ci.props.lookup m = some f) ∨ ci.eq = some f) → f < n := fun c ci f e q => by
  have h1 := List.all_eq_true.mp h ci (List.mem_of_getElem? e)
  obtain ⟨h1, h2⟩ := ba h1
  obtain ⟨h0, h2⟩ := ba h2
  obtain ⟨h2, h3⟩ := ba h2
  rcases q with q | ⟨m, q⟩ | ⟨m, q⟩ | q
  · rw [q] at h1
    exact of_decide_eq_true h1
  · exact of_decide_eq_true (List.all_eq_true.mp h2 _ (lookup_in q))
  · exact of_decide_eq_true (List.all_eq_true.mp h3 _ (lookup_in q))
  · rw [q] at h0
    exact of_decide_eq_true h0
abbrev DA := He5.DefA
def obM (ck : PySem.W.Frag → Bool) (fa : List Fa) (fn : List DA) (K : PySem.W.Frag) : AlD := (ck K && ((fa.all fun f => f.ok K) && fn.all fun d => d.ok K), fn.map fun d => He5.fnA K (d.at_ K))
def vaM (fn : List DA) : AlD := (true, fn.map He5.DefA.val)
def SaM (ck : PySem.W.Frag → Bool) (fa : List Fa) (fn : List DA) (K : PySem.W.Frag) : Prop := obM ck fa fn K = vaM fn
def obMG (n : Nat) (ck : PySem.W.Frag → Bool) (fa : List Fa) (fn : List DA) (g : Addr → Option Obj) : AlD := obM ck fa fn (frG g (asD g n))
def hkM (n : Nat) (ck : PySem.W.Frag → Bool) (fa : List Fa) (fn : List DA) : PySem.W.Hook where
  α := AlD
  obs := fun s => obMG n ck fa fn s.heap.get?
  val := fun _ => vaM fn
  says := fun _ h => ∃ K : PySem.W.Frag, K.In h ∧ SaM ck fa fn K
  of := fun _ _ e => ⟨_, frG_in, e⟩
  keeps := fun _ _ _ ⟨K, i, c⟩ k => ⟨K, PySem.W.Frag.In.keeps i k, c⟩
theorem obM_eq {n : Nat} {ck : PySem.W.Frag → Bool} {fa : List Fa} {fn : List DA} {g : Addr → Option Obj} {s : Shared} (h : ∀ a, g a = s.heap.get? a) : obMG n ck fa fn g = (hkM n ck fa fn).obs s := by
  rw [show g = s.heap.get? from funext h] <;> rfl
section
variable {ck : PySem.W.Frag → Bool} {fa : List Fa} {fn : List DA} {K : PySem.W.Frag}
theorem SaM.all (c : SaM ck fa fn K) : ck K = true ∧ (fa.all fun f => f.ok K) = true ∧ (fn.all fun d => d.ok K) = true := by
  obtain ⟨h1, h2⟩ := ba (show (ck K && ((fa.all fun f => f.ok K) && fn.all fun d => d.ok K)) = true from congrArg Prod.fst c)
  exact ⟨h1, ba h2⟩
theorem SaM.fact (c : SaM ck fa fn K) (i : Nat) {f : Fa} (h : fa[i]? = some f := by rfl) : f.ok K = true := List.all_eq_true.mp c.all.2.1 f (List.mem_of_getElem? h)
theorem SaM.def_ (c : SaM ck fa fn K) (i : Nat) {d : DA} (h : fn[i]? = some d := by rfl) : ∃ fd, FunD K d.name d.qual d.params d.body d.scope (d.dvs K) (d.kws K) (d.at_ K) fd := by
  have e : fn.map (fun d => He5.fnA K (d.at_ K)) = fn.map He5.DefA.val := congrArg Prod.snd c
  have e2 : (fn.map fun d => He5.fnA K (d.at_ K))[i]? = (fn.map He5.DefA.val)[i]? := by rw [e]
  rw [List.getElem?_map, List.getElem?_map, h] at e2
  exact He5.DefA.funD (Option.some.inj e2) (List.all_eq_true.mp c.all.2.2 d (List.mem_of_getElem? h))
end
theorem bindsF {K : PySem.W.Frag} {x qual : Str} {params : Arguments} {body : List Stmt} {scope : Scope} {dvs : List V} {kws : List (Str × V)} {f : Addr} {fd : FuncData} {ps : List Str} (F : FunD K x qual params body scope dvs kws f fd) (hd : dvs ≠ [])
    (h : ∀ (N : Addr) (kV doc pm : Value) (an : Option Addr) (cdv ct : Value) (us its : List Value), us.length = ps.length → its.length = dvs.length →
      ∃ k, bindArgs (PySem.W.fnOf x qual params body scope (.ref N) kV doc pm an cdv ct) ⟨us, []⟩ = seqItems? (.ref N) >>= k ∧ k (some its.toArray) = pure (ps.zip (us ++ its.drop dvs.length))) : Binds K fd ps [] := by
  obtain ⟨ds, r, b⟩ := F.binds1 ps.length dvs.length hd (by omega) h
  rw [List.drop_length] at r
  cases r
  exact b
section
variable {G : Gm} {T : Tb} {K : PySem.W.Frag} {fd : FuncData} {ps : List Str} {i : Nat}
theorem dfl_none (h : (T.dfl.all fun q => q.1 != i) = true) : DflK G T K fd ps i := fun ds hm => absurd (List.all_eq_true.mp h _ hm) (by simp)
def AllFill (G : Gm) (K : PySem.W.Frag) (fd : FuncData) (ps : List Str) : List (List PV) → Prop
  | [] => True
  | ds :: r => (∃ (vs : List V) (us : List Value), (∀ as H, RepVs G as H ds vs) ∧ Vals vs us ∧ Binds K fd ps us) ∧ AllFill G K fd ps r
theorem AllFill.get : ∀ {l : List (List PV)}, AllFill G K fd ps l → ∀ ds ∈ l, ∃ (vs : List V) (us : List Value), (∀ as H, RepVs G as H ds vs) ∧ Vals vs us ∧ Binds K fd ps us
  | [], _, ds, h => by simp at h
  | d :: r, a, ds, h => by
    rcases List.mem_cons.mp h with rfl | h
    · exact a.1
    · exact AllFill.get a.2 ds h
theorem dfl_of {l : List (List PV)} (e : (T.dfl.filter fun q => q.1 == i).map (·.2) = l) (h : AllFill G K fd ps l) : DflK G T K fd ps i := fun ds hm => h.get ds (by
  rw [← e]
  exact List.mem_map.mpr ⟨(i, ds), List.mem_filter.mpr ⟨hm, by simp⟩, rfl⟩)
end
end Mn
set_option Elab.async false
set_option linter.all false
namespace Mn
open PySem L2
theorem cok_none {G : Gm} {T : Tb} (h : T.cls = []) (ha : G.an = []) (hf : ∀ f, T.glob.any (isFnOf f) = true → PySem.W.isFn G.K (.ref (G.fa f)) = true) : COk G T where
  fnk := hf
  eqm := fun c ci f e => by rw [h] at e; simp at e
  cc := fun c d ci e => by rw [h] at e; simp at e
  ct := fun c n q => by rw [h] at q; simp at q
  tc := fun c n q => by rw [h] at q; simp at q
  cl := fun c q => by rw [h] at q; simp at q
  ha := fun c q => by rw [h] at q; simp at q
  hm := fun c q => by rw [h] at q; simp at q
  hn := fun q => absurd h q
  htk := fun q => absurd h q
  nd := by rw [ha]; exact List.nodup_nil
  at_ := fun c f n e => by
    unfold attK at e
    rw [h] at e
    simp at e
  me := fun c ci m f n e => by rw [h] at e; simp at e
  mkr := fun c ci f e => by rw [h] at e; simp at e
  pr := fun c ci m f n e => by rw [h] at e; simp at e
end Mn
set_option Elab.async false
set_option linter.all false
set_option maxRecDepth 100000
set_option maxHeartbeats 0
namespace K06
open PySem PySem.Spec PyProof.Rows L2 Mn
def top (i : Nat) : Stmt := PySem.Challenge.pw_deedline_k06_whole_scans_woven_with_chan.main.body.getD i (.Pass ⟨0, 0, 0, 0⟩)
def inCls (s : Stmt) (j : Nat) : Stmt := match s with
  | .ClassDef (body := b) .. => b.getD j s
  | _ => s
def b__wall : List Sm := [.never]
def d__wall : Df := ⟨["k"], ["k"], b__wall⟩
abbrev i__wall : Nat := 0
def b_is_within : List Sm := [.ret (.and (.bi .isinst [.var 0, .bty .int]) (.and (.not (.bi .isinst [.var 0, .bty .bool])) (.chn .le .le (.var 1) (.var 0) (.var 2))))]
def d_is_within : Df := ⟨["value", "least", "most"], ["value", "least", "most"], b_is_within⟩
abbrev i_is_within : Nat := 1
def b_is_count : List Sm := [.ret (.and (.bi .isinst [.var 0, .bty .int]) (.and (.not (.bi .isinst [.var 0, .bty .bool])) (.cmp .ge (.var 0) (.var 1))))]
def d_is_count : Df := ⟨["value", "least"], ["value", "least"], b_is_count⟩
abbrev i_is_count : Nat := 2
def b_is_printed : List Sm := [.ret (.and (.bi .isinst [.var 0, .bty .str]) (.and (.mt 0 .isascii (.var 0) []) (.mt 0 .isprintable (.var 0) [])))]
def d_is_printed : Df := ⟨["value"], ["value"], b_is_printed⟩
abbrev i_is_printed : Nat := 3
def b_is_text : List Sm := [.ret (.and (.call 3 [.var 0]) (.cmp .le (.bi .len [.var 0]) (.glob 34)))]
def d_is_text : Df := ⟨["value"], ["value"], b_is_text⟩
abbrev i_is_text : Nat := 4
def b_check_text : List Sm := [.ite (.not (.call 4 [.var 0])) [.never] []]
def d_check_text : Df := ⟨["text"], ["text"], b_check_text⟩
abbrev i_check_text : Nat := 5
def b_check_within : List Sm := [.ite (.not (.call 1 [.var 0, .var 1, .var 2])) [.never] []]
def d_check_within : Df := ⟨["number", "least", "most"], ["number", "least", "most"], b_check_within⟩
abbrev i_check_within : Nat := 6
def b_check_count : List Sm := [.ite (.not (.call 2 [.var 0, .var 1])) [.never] []]
def d_check_count : Df := ⟨["number", "least"], ["number", "least"], b_check_count⟩
abbrev i_check_count : Nat := 7
def b_hash_of : List Sm := [.ex (.call 5 [.var 0]), .asg (.nm 1) (.con (.int 0)), .for_ (.nm 2) .seq [.var 0] [.asg (.nm 1) (.bin .mod (.bin .add (.bin .mul (.var 1) (.con (.int 33))) (.bi .ord [.var 2])) (.glob 36))], .ret (.var 1)]
def d_hash_of : Df := ⟨["text"], ["text", "code", "sign"], b_hash_of⟩
abbrev i_hash_of : Nat := 8
def b_reversed_bits : List Sm := [.ex (.call 10 [.var 0, .var 1, .glob 37]), .asg (.nm 2) (.con (.int 0)), .for_ (.nm 3) .rng [.var 1] [.asg (.nm 2) (.bin .add (.bin .mul (.var 2) (.con (.int 2))) (.bin .band (.bin .shr (.var 0) (.var 3)) (.con (.int 1))))], .ret (.var 2)]
def d_reversed_bits : Df := ⟨["value", "bits"], ["value", "bits", "turned", "at"], b_reversed_bits⟩
abbrev i_reversed_bits : Nat := 9
def b__check_bits : List Sm := [.ex (.calld 7 [.var 0] 0), .ex (.call 6 [.var 1, .con (.int 0), .var 2]), .ite (.cmp .ge (.var 0) (.bin .shl (.con (.int 1)) (.var 1))) [.never] []]
def d__check_bits : Df := ⟨["value", "bits", "most"], ["value", "bits", "most"], b__check_bits⟩
abbrev i__check_bits : Nat := 10
def b_Kept_twin : List Sm := [.never]
def d_Kept_twin : Df := ⟨["self"], ["self"], b_Kept_twin⟩
abbrev i_Kept_twin : Nat := 11
def b_copied : List Sm := [.ite (.bi .isinst [.var 0, .glob 32]) [.ret (.mt 0 .none (.var 0) [])] [], .ite (.bi .isinst [.var 0, .bty .list]) [.ret (.lc (.call 11 [.var 1]) [1] (.nm 1) .seq [.var 0] [])] [], .ite (.bi .isinst [.var 0, .bty .tuple]) [.ret (.bi .tuple [.lc (.call 11 [.var 1]) [1] (.nm 1) .seq [.var 0] []])] [], .ite (.bi .isinst [.var 0, .bty .dict]) [.never] [], .ret (.var 0)]
def d_copied : Df := ⟨["value"], ["value", "part", "key"], b_copied⟩
abbrev i_copied : Nat := 12
def b_Table_DinitD : List Sm := [.ite (.bi .isinst [.var 1, .tup [.bty .int, .bty .str, .bty .list, .bty .tuple, .bty .dict, .glob 32]]) [.never] [], .asg (.att (.var 0) 1) (.ife (.cmp .is_ (.var 1) (.con .non)) (.glob 8) (.var 1)), .asg (.att (.var 0) 2) (.dsp), .asg (.att (.var 0) 3) (.dsp), .asg (.att (.var 0) 4) (.lst []), .asg (.att (.var 0) 5) (.call 12 [.glob 38]), .asg (.att (.var 0) 6) (.lst []), .asg (.att (.var 0) 7) (.con (.int 0))]
def d_Table_DinitD : Df := ⟨["self", "spread"], ["self", "spread"], b_Table_DinitD⟩
abbrev i_Table_DinitD : Nat := 13
def b_Table_put : List Sm := [.ex (.call 5 [.var 1]), .ex (.mt 8 .none (.var 0) []), .asg (.nm 3) (.cmp .nin (.var 1) (.att (.var 0) 2)), .asg (.ix (.att (.var 0) 2) (.var 1)) (.call 11 [.var 2]), .ite (.var 3) [.ex (.mt 9 .none (.var 0) [.var 1]), .ex (.mt 10 .none (.var 0) [])] [], .ret (.var 3)]
def d_Table_put : Df := ⟨["self", "name", "value"], ["self", "name", "value", "is_new"], b_Table_put⟩
abbrev i_Table_put : Nat := 14
def b_Table_get : List Sm := [.ex (.call 5 [.var 1]), .ex (.mt 8 .none (.var 0) []), .ite (.cmp .nin (.var 1) (.att (.var 0) 2)) [.ret (.var 2)] [], .ret (.call 11 [.ix (.att (.var 0) 2) (.var 1)])]
def d_Table_get : Df := ⟨["self", "name", "other"], ["self", "name", "other"], b_Table_get⟩
abbrev i_Table_get : Nat := 15
def b_Table_take : List Sm := [.ex (.call 5 [.var 1]), .ex (.mt 8 .none (.var 0) []), .ite (.cmp .nin (.var 1) (.att (.var 0) 2)) [.ret (.var 2)] [], .asg (.nm 3) (.mt 0 .pop (.att (.var 0) 2) [.var 1]), .ex (.mt 11 .none (.var 0) [.var 1]), .ex (.mt 12 .none (.var 0) []), .ret (.var 3)]
def d_Table_take : Df := ⟨["self", "name", "other"], ["self", "name", "other", "value"], b_Table_take⟩
abbrev i_Table_take : Nat := 16
def b_Table_scan : List Sm := [.ex (.call 6 [.var 1, .con (.int 0), .glob 40]), .ex (.call 6 [.var 2, .con (.int 1), .glob 41]), .asg (.nm 3) (.call 14 [.att (.var 0) 4, .tup [.var 1, .con (.str [])]]), .ite (.cmp .eq (.var 3) (.bi .len [.att (.var 0) 4])) [.ret (.tup [.con (.int 0), .tup []])] [], .asg (.nm 4) (.bin .sub (.bi .min [.bin .add (.var 3) (.var 2), .bi .len [.att (.var 0) 4]]) (.con (.int 1))), .asg (.tp [7, 8]) (.ix (.att (.var 0) 4) (.var 4)), .asg (.nm 5) (.call 14 [.att (.var 0) 4, .tup [.bin .add (.var 7) (.con (.int 1)), .con (.str [])]]), .asg (.nm 6) (.bi .tuple [.lc (.var 9) [8, 9] (.tp [8, 9]) .seq [.sl (.att (.var 0) 4) (.var 3) (.var 5)] []]), .ret (.tup [.ife (.cmp .lt (.var 5) (.bi .len [.att (.var 0) 4])) (.bin .add (.var 7) (.con (.int 1))) (.con (.int 0)), .var 6])]
def d_Table_scan : Df := ⟨["self", "cursor", "count"], ["self", "cursor", "count", "start", "last", "end", "names", "spot", "_", "name"], b_Table_scan⟩
abbrev i_Table_scan : Nat := 17
def b_Table_all_names : List Sm := [.ret (.bi .tuple [.lc (.var 2) [1, 2] (.tp [1, 2]) .seq [.att (.var 0) 4] []])]
def d_Table_all_names : Df := ⟨["self"], ["self", "_", "name"], b_Table_all_names⟩
abbrev i_Table_all_names : Nat := 18
def b_Table_all_items : List Sm := [.never]
def d_Table_all_items : Df := ⟨["self"], ["self"], b_Table_all_items⟩
abbrev i_Table_all_items : Nat := 19
def b_Table_counts : List Sm := [.never]
def d_Table_counts : Df := ⟨["self"], ["self"], b_Table_counts⟩
abbrev i_Table_counts : Nat := 20
def b_Table_rows : List Sm := [.never]
def d_Table_rows : Df := ⟨["self"], ["self"], b_Table_rows⟩
abbrev i_Table_rows : Nat := 21
def b_Table_twin : List Sm := [.never, .never, .never, .never, .never, .never, .never, .never]
def d_Table_twin : Df := ⟨["self"], ["self", "other"], b_Table_twin⟩
abbrev i_Table_twin : Nat := 22
def b_Table_DcontainsD : List Sm := [.ret (.and (.bi .isinst [.var 1, .bty .str]) (.cmp .in_ (.var 1) (.att (.var 0) 2)))]
def d_Table_DcontainsD : Df := ⟨["self", "value"], ["self", "value"], b_Table_DcontainsD⟩
abbrev i_Table_DcontainsD : Nat := 23
def b_Table_DlenD : List Sm := [.ret (.bi .len [.att (.var 0) 2])]
def d_Table_DlenD : Df := ⟨["self"], ["self"], b_Table_DlenD⟩
abbrev i_Table_DlenD : Nat := 24
def b_Table_DeqD : List Sm := [.never]
def d_Table_DeqD : Df := ⟨["self", "other"], ["self", "other"], b_Table_DeqD⟩
abbrev i_Table_DeqD : Nat := 25
def b_Table__held_items : List Sm := [.never]
def d_Table__held_items : Df := ⟨["self"], ["self"], b_Table__held_items⟩
abbrev i_Table__held_items : Nat := 26
def b_Table__step : List Sm := [.ite (.not (.att (.var 0) 6)) [.retn] [], .asg (.nm 1) (.ix (.att (.var 0) 5) (.att (.var 0) 7)), .asg (.ix (.att (.var 0) 5) (.att (.var 0) 7)) (.lst []), .aug (.att (.var 0) 7) .add (.con (.int 1)), .for_ (.nm 2) .seq [.var 1] [.ex (.mt 0 .append (.mt 13 .none (.var 0) [.att (.var 0) 6, .var 2]) [.var 2])], .ite (.cmp .eq (.att (.var 0) 7) (.bi .len [.att (.var 0) 5])) [.asg (.att (.var 0) 5) (.att (.var 0) 6), .asg (.att (.var 0) 6) (.lst []), .asg (.att (.var 0) 7) (.con (.int 0))] []]
def d_Table__step : Df := ⟨["self"], ["self", "names", "name"], b_Table__step⟩
abbrev i_Table__step : Nat := 27
def b_Table__enter : List Sm := [.asg (.ix (.att (.var 0) 3) (.var 1)) (.mt 1 .none (.var 0) [.var 1]), .ex (.mt 0 .append (.mt 13 .none (.var 0) [.or (.att (.var 0) 6) (.att (.var 0) 5), .var 1]) [.var 1]), .asg (.nm 2) (.mt 14 .none (.var 0) [.var 1]), .ex (.mt 0 .insert (.att (.var 0) 4) [.call 14 [.att (.var 0) 4, .var 2], .var 2])]
def d_Table__enter : Df := ⟨["self", "name"], ["self", "name", "pair"], b_Table__enter⟩
abbrev i_Table__enter : Nat := 28
def b_Table__leave : List Sm := [.asg (.nm 2) (.mt 13 .none (.var 0) [.att (.var 0) 5, .var 1]), .ite (.cmp .nin (.var 1) (.var 2)) [.asg (.nm 2) (.mt 13 .none (.var 0) [.att (.var 0) 6, .var 1])] [], .ex (.mt 0 .remove (.var 2) [.var 1]), .del (.att (.var 0) 4) (.call 14 [.att (.var 0) 4, .mt 14 .none (.var 0) [.var 1]]), .del (.att (.var 0) 3) (.var 1)]
def d_Table__leave : Df := ⟨["self", "name"], ["self", "name", "bucket"], b_Table__leave⟩
abbrev i_Table__leave : Nat := 29
def b_Table__bucket_in : List Sm := [.ret (.ix (.var 1) (.bin .mod (.ix (.att (.var 0) 3) (.var 2)) (.bi .len [.var 1])))]
def d_Table__bucket_in : Df := ⟨["self", "buckets", "name"], ["self", "buckets", "name"], b_Table__bucket_in⟩
abbrev i_Table__bucket_in : Nat := 30
def b_Table__pair_of : List Sm := [.ret (.tup [.call 9 [.ix (.att (.var 0) 3) (.var 1), .glob 35], .var 1])]
def d_Table__pair_of : Df := ⟨["self", "name"], ["self", "name"], b_Table__pair_of⟩
abbrev i_Table__pair_of : Nat := 31
def b_Table__grow : List Sm := [.asg (.nm 1) (.bi .len [.att (.var 0) 2]), .ite (.and (.not (.att (.var 0) 6)) (.cmp .lt (.bi .len [.att (.var 0) 5]) (.bi .min [.var 1, .glob 39]))) [.asg (.att (.var 0) 6) (.call 12 [.bi .min [.call 13 [.bin .add (.var 1) (.con (.int 1))], .glob 39]])] []]
def d_Table__grow : Df := ⟨["self"], ["self", "many"], b_Table__grow⟩
abbrev i_Table__grow : Nat := 32
def b_Table__shrink : List Sm := [.asg (.nm 1) (.bi .len [.att (.var 0) 2]), .ite (.and (.not (.att (.var 0) 6)) (.cmp .ge (.bi .len [.att (.var 0) 5]) (.bi .max [.bin .mul (.con (.int 8)) (.var 1), .bin .add (.glob 38) (.con (.int 1))]))) [.asg (.att (.var 0) 6) (.call 12 [.call 13 [.bin .mul (.con (.int 2)) (.var 1)]])] []]
def d_Table__shrink : Df := ⟨["self"], ["self", "many"], b_Table__shrink⟩
abbrev i_Table__shrink : Nat := 33
def b__empty_buckets : List Sm := [.ret (.lc (.lst []) [1] (.nm 1) .rng [.var 0] [])]
def d__empty_buckets : Df := ⟨["many"], ["many", "at"], b__empty_buckets⟩
abbrev i__empty_buckets : Nat := 34
def b__buckets_for : List Sm := [.asg (.nm 1) (.glob 38), .wh (.cmp .lt (.var 1) (.var 0)) [.aug (.nm 1) .mul (.con (.int 2))], .ret (.var 1)]
def d__buckets_for : Df := ⟨["many"], ["many", "buckets"], b__buckets_for⟩
abbrev i__buckets_for : Nat := 35
def b__first_place : List Sm := [.asg (.nm 2) (.con (.int 0)), .asg (.nm 3) (.bi .len [.var 0]), .wh (.cmp .lt (.var 2) (.var 3)) [.asg (.nm 4) (.bin .fdiv (.bin .add (.var 2) (.var 3)) (.con (.int 2))), .ite (.cmp .lt (.ix (.var 0) (.var 4)) (.var 1)) [.asg (.nm 2) (.bin .add (.var 4) (.con (.int 1)))] [.asg (.nm 3) (.var 4)]], .ret (.var 2)]
def d__first_place : Df := ⟨["pairs", "pair"], ["pairs", "pair", "low", "high", "middle"], b__first_place⟩
abbrev i__first_place : Nat := 36
def b__law_dice : List Sm := [.asg (.nm 2) (.bin .add (.bin .mul (.con (.int 83)) (.var 1)) (.con (.int 59))), .ite (.cmp .lt (.var 1) (.bi .len [.var 0])) [.asg (.nm 2) (.ix (.var 0) (.var 1))] [], .asg (.nm 3) (.bin .mod (.bi .int [.bi .abs [.var 2]]) (.bin .pow (.bin .pow (.con (.int 10)) (.con (.int 60))) (.con (.int 10)))), .asg (.nm 4) (.bin .fdiv (.var 3) (.bin .pow (.con (.int 10)) (.con (.int 18)))), .asg (.nm 5) (.bin .add (.bin .add (.bin .add (.bin .mul (.bin .mod (.var 3) (.con (.int 2147482811))) (.con (.int 60509))) (.bin .mul (.con (.int 3499)) (.var 1))) (.bin .mul (.con (.int 73)) (.bi .int [.cmp .lt (.var 2) (.con (.int 0))]))) (.con (.int 101))), .ret (.lst [.var 4, .bin .mod (.var 5) (.con (.int 2147482801)), .con (.int 0)])]
def d__law_dice : Df := ⟨["_law_script", "_law_at"], ["_law_script", "_law_at", "_law_cell", "_law_great", "_law_left", "_law_mixed_here"], b__law_dice⟩
abbrev i__law_dice : Nat := 37
def b__law_roll : List Sm := [.asg (.nm 2) (.bi .int [.var 1]), .ite (.cmp .gt (.ix (.var 0) (.con (.int 0))) (.con (.int 0))) [.asg (.nm 5) (.bin .mod (.ix (.var 0) (.con (.int 0))) (.var 2)), .asg (.ix (.var 0) (.con (.int 0))) (.bin .fdiv (.ix (.var 0) (.con (.int 0))) (.var 2)), .ret (.bi .int [.var 5])] [], .asg (.ix (.var 0) (.con (.int 2))) (.bin .add (.ix (.var 0) (.con (.int 2))) (.con (.int 1))), .asg (.nm 3) (.bin .mod (.bin .add (.ix (.var 0) (.con (.int 1))) (.bin .mul (.con (.int 1000333)) (.ix (.var 0) (.con (.int 2))))) (.con (.int 2305843009213693951))), .asg (.nm 4) (.bin .add (.bin .mul (.bin .mod (.bin .mul (.var 3) (.var 3)) (.con (.int 2305843009213693921))) (.var 3)) (.bin .mul (.con (.int 9479)) (.ix (.var 0) (.con (.int 2))))), .asg (.nm 4) (.bin .mod (.var 4) (.con (.int 2305843009213693907))), .ret (.bi .int [.bin .mod (.bin .fdiv (.var 4) (.con (.int 4096))) (.var 2)])]
def d__law_roll : Df := ⟨["_law_dice_here", "_law_total"], ["_law_dice_here", "_law_total", "_law_size", "_law_one", "_law_two", "_law_drawn"], b__law_roll⟩
abbrev i__law_roll : Nat := 38
def b__law_one_of : List Sm := [.ret (.ix (.var 1) (.call 16 [.var 0, .bi .len [.var 1]]))]
def d__law_one_of : Df := ⟨["_law_dice_here", "_law_items"], ["_law_dice_here", "_law_items"], b__law_one_of⟩
abbrev i__law_one_of : Nat := 39
def b__law_mixed : List Sm := [.asg (.tp [2, 3]) (.tup [.bi .list [.var 1], .lst []]), .wh (.cmp .ne (.var 2) (.lst [])) [.ex (.mt 0 .append (.var 3) [.mt 0 .pop (.var 2) [.call 16 [.var 0, .bi .len [.var 2]]]])], .ret (.var 3)]
def d__law_mixed : Df := ⟨["_law_dice_here", "_law_items"], ["_law_dice_here", "_law_items", "_law_left", "_law_found"], b__law_mixed⟩
abbrev i__law_mixed : Nat := 40
def b__law_hash : List Sm := [.asg (.nm 1) (.con (.int 0)), .for_ (.nm 2) .seq [.var 0] [.asg (.nm 1) (.bin .mod (.bi .int [.bin .add (.bin .mul (.var 1) (.con (.int 33))) (.bi .ord [.var 2])]) (.con (.int 65536)))], .ret (.var 1)]
def d__law_hash : Df := ⟨["_law_text"], ["_law_text", "_law_found", "_law_sign"], b__law_hash⟩
abbrev i__law_hash : Nat := 41
def b__law_few : List Sm := [.ret (.bin .mul (.con (.int 257)) (.bi .len [.var 0]))]
def d__law_few : Df := ⟨["_law_name"], ["_law_name"], b__law_few⟩
abbrev i__law_few : Nat := 42
def b__law_pairs : List Sm := [.ret (.bin .mul (.bin .fdiv (.bi .int [.call 19 [.var 0]]) (.con (.int 2))) (.con (.int 2)))]
def d__law_pairs : Df := ⟨["_law_name"], ["_law_name"], b__law_pairs⟩
abbrev i__law_pairs : Nat := 43
def b__law_hash_by : List Sm := [.ite (.cmp .eq (.var 0) (.con (.int 1))) [.ret (.call 20 [.var 1])] [], .ret (.ife (.cmp .eq (.var 0) (.con (.int 2))) (.call 21 [.var 1]) (.call 19 [.var 1]))]
def d__law_hash_by : Df := ⟨["_law_spread", "_law_name"], ["_law_spread", "_law_name"], b__law_hash_by⟩
abbrev i__law_hash_by : Nat := 44
def b__law_made : List Sm := [.ite (.cmp .eq (.var 0) (.con (.int 1))) [.ret (.call 33 [.glob 20])] [], .ret (.ife (.cmp .eq (.var 0) (.con (.int 2))) (.call 33 [.glob 21]) (.calld 33 [] 1))]
def d__law_made : Df := ⟨["_law_spread"], ["_law_spread"], b__law_made⟩
abbrev i__law_made : Nat := 45
def b__law_spot : List Sm := [.asg (.nm 1) (.con (.int 0)), .for_ (.nm 2) .rng [.con (.int 16)] [.asg (.nm 1) (.bin .add (.bin .mul (.var 1) (.con (.int 2))) (.bin .mod (.bi .int [.var 0]) (.con (.int 2)))), .asg (.nm 0) (.bin .fdiv (.var 0) (.con (.int 2)))], .ret (.var 1)]
def d__law_spot : Df := ⟨["_law_number"], ["_law_number", "_law_found", "_law_turn"], b__law_spot⟩
abbrev i__law_spot : Nat := 46
def b__law_rows : List Sm := [.asg (.nm 1) (.lst [.con (.str []), .con (.str [97]), .con (.str [97, 98]), .con (.str [97, 99]), .con (.str [98, 66]), .con (.str [98]), .con (.str [99]), .con (.str [100]), .con (.str [101]), .con (.str [102]), .con (.str [103]), .con (.str [104]), .con (.str [105]), .con (.str [106]), .con (.str [107])]), .asg (.nm 1) (.bin .add (.var 1) (.lst [.con (.str [97, 97]), .con (.str [98, 98]), .con (.str [99, 99]), .con (.str [100, 100]), .con (.str [101, 101, 101])])), .ret (.bi .sorted [.lc (.tup [.call 24 [.call 22 [.var 0, .var 2]], .var 2]) [2] (.nm 2) .seq [.var 1] []])]
def d__law_rows : Df := ⟨["_law_spread"], ["_law_spread", "_law_names", "_law_name"], b__law_rows⟩
abbrev i__law_rows : Nat := 47
def b__law_due : List Sm := [.asg (.nm 4) (.lc (.var 7) [7] (.nm 7) .seq [.var 0] [.and (.cmp .in_ (.ix (.var 7) (.con (.int 1))) (.var 1)) (.cmp .ge (.ix (.var 7) (.con (.int 0))) (.var 2))]), .ite (.cmp .eq (.var 4) (.lst [])) [.ret (.tup [.con (.int 0), .tup []])] [], .asg (.nm 5) (.ix (.ix (.sl (.var 4) .nop (.var 3)) (.neg (.con (.int 1)))) (.con (.int 0))), .asg (.nm 6) (.bi .tuple [.lc (.var 9) [8, 9] (.tp [8, 9]) .seq [.var 4] [.cmp .le (.var 8) (.var 5)]]), .ret (.tup [.ife (.cmp .lt (.bi .len [.var 6]) (.bi .len [.var 4])) (.bin .add (.var 5) (.con (.int 1))) (.con (.int 0)), .var 6])]
def d__law_due : Df := ⟨["_law_rows_here", "_law_there", "_law_cursor", "_law_count"], ["_law_rows_here", "_law_there", "_law_cursor", "_law_count", "_law_some", "_law_last", "_law_told", "_law_row", "_law_spot_here", "_law_name"], b__law_due⟩
abbrev i__law_due : Nat := 48
def b__law_changed : List Sm := [.for_ (.nm 4) .rng [.call 16 [.var 0, .con (.int 6)]] [.asg (.tp [5, 6]) (.tup [.ix (.call 17 [.var 0, .var 2]) (.con (.int 1)), .call 16 [.var 0, .con (.int 5)]]), .ite (.cmp .lt (.var 6) (.con (.int 2))) [.ex (.mt 15 .none (.var 1) [.var 5, .var 4]), .asg (.nm 3) (.ife (.cmp .nin (.var 5) (.var 3)) (.bin .add (.var 3) (.lst [.var 5])) (.var 3))] [.ite (.cmp .lt (.var 6) (.con (.int 4))) [.ex (.mtd 16 (.var 1) [.var 5] 2), .asg (.nm 3) (.lc (.var 7) [7] (.nm 7) .seq [.var 3] [.cmp .ne (.var 7) (.var 5)])] [.ex (.mtd 17 (.var 1) [.var 5] 3)]]], .ret (.var 3)]
def d__law_changed : Df := ⟨["_law_dice_here", "_law_table", "_law_rows_here", "_law_there"], ["_law_dice_here", "_law_table", "_law_rows_here", "_law_there", "_law_turn", "_law_name", "_law_way", "_law_one"], b__law_changed⟩
abbrev i__law_changed : Nat := 49
def b__law_scan_right : List Sm := [.asg (.tp [5, 6, 7, 8]) (.tup [.con (.int 0), .lst [], .bi .list [.var 3], .con (.int 0)]), .asg (.nm 4) (.neg (.con (.int 1))), .wh (.or (.cmp .eq (.var 8) (.con (.int 0))) (.cmp .ne (.var 5) (.con (.int 0)))) [.asg (.nm 7) (.lc (.var 11) [11] (.nm 11) .seq [.var 7] [.cmp .in_ (.var 11) (.var 3)]), .asg (.nm 9) (.bin .add (.con (.int 1)) (.call 16 [.var 0, .con (.int 4)])), .asg (.nm 10) (.mt 18 .none (.var 1) [.var 5, .var 9]), .ite (.or (.cmp .ne (.var 10) (.call 26 [.var 2, .var 3, .var 5, .var 9])) (.and (.cmp .ne (.ix (.var 10) (.con (.int 0))) (.con (.int 0))) (.cmp .le (.ix (.var 10) (.con (.int 0))) (.var 5)))) [.ret (.con (.bl false))] [], .for_ (.nm 11) .seq [.ix (.var 10) (.con (.int 1))] [.asg (.nm 12) (.ix (.lc (.ix (.var 13) (.con (.int 0))) [13] (.nm 13) .seq [.var 2] [.cmp .eq (.ix (.var 13) (.con (.int 1))) (.var 11)]) (.con (.int 0))), .ite (.or (.cmp .in_ (.var 11) (.var 6)) (.or (.cmp .nin (.var 11) (.var 3)) (.cmp .lt (.var 12) (.var 4)))) [.ret (.con (.bl false))] [], .asg (.tp [6, 4]) (.tup [.bin .add (.var 6) (.lst [.var 11]), .var 12])], .asg (.tp [5, 8]) (.tup [.ix (.var 10) (.con (.int 0)), .bin .add (.var 8) (.con (.int 1))]), .ite (.cmp .ne (.var 5) (.con (.int 0))) [.asg (.nm 3) (.call 27 [.var 0, .var 1, .var 2, .var 3])] [], .ite (.cmp .gt (.var 8) (.con (.int 40))) [.ret (.con (.bl false))] []], .ret (.cmp .eq (.lc (.var 11) [11] (.nm 11) .seq [.var 7] [.cmp .nin (.var 11) (.var 6)]) (.lst []))]
def d__law_scan_right : Df := ⟨["_law_dice_here", "_law_table", "_law_rows_here", "_law_there"], ["_law_dice_here", "_law_table", "_law_rows_here", "_law_there", "_law_last", "_law_cursor", "_law_found", "_law_always", "_law_calls", "_law_count", "_law_told", "_law_name", "_law_spot_here", "_law_row"], b__law_scan_right⟩
abbrev i__law_scan_right : Nat := 50
def b__law_still_right : List Sm := [.asg (.nm 4) (.bin .add (.con (.int 1)) (.call 16 [.var 0, .con (.int 6)])), .asg (.tp [6, 7, 8]) (.tup [.con (.int 0), .lst [], .con (.int 0)]), .wh (.or (.cmp .eq (.var 8) (.con (.int 0))) (.cmp .ne (.var 6) (.con (.int 0)))) [.asg (.tp [6, 9]) (.mt 18 .none (.var 1) [.var 6, .var 4]), .asg (.tp [7, 8]) (.tup [.bin .add (.var 7) (.bi .list [.var 9]), .bin .add (.var 8) (.con (.int 1))]), .ite (.cmp .gt (.var 8) (.con (.int 40))) [.ret (.con (.bl false))] []], .ite (.or (.cmp .ne (.var 7) (.lc (.var 11) [10, 11] (.tp [10, 11]) .seq [.var 2] [.cmp .in_ (.var 11) (.var 3)])) (.cmp .ne (.bi .tuple [.var 7]) (.mt 19 .none (.var 1) []))) [.ret (.con (.bl false))] [], .asg (.nm 5) (.lset (.lc (.var 10) [10, 11] (.tp [10, 11]) .seq [.var 2] [.cmp .in_ (.var 11) (.var 3)])), .ite (.cmp .lt (.var 5) (.bi .len [.var 7])) [.ret (.cmp .le (.var 8) (.bi .max [.con (.int 1), .var 5]))] [], .ret (.cmp .eq (.var 8) (.bi .max [.con (.int 1), .bin .fdiv (.bin .sub (.bin .add (.bi .len [.var 7]) (.var 4)) (.con (.int 1))) (.var 4)]))]
def d__law_still_right : Df := ⟨["_law_dice_here", "_law_table", "_law_rows_here", "_law_there"], ["_law_dice_here", "_law_table", "_law_rows_here", "_law_there", "_law_count", "_law_spots", "_law_cursor", "_law_found", "_law_calls", "_law_names", "_law_spot_here", "_law_name"], b__law_still_right⟩
abbrev i__law_still_right : Nat := 51
def b__law_right : List Sm := [.asg (.nm 1) (.call 17 [.var 0, .lst [.con (.int 0), .con (.int 0), .con (.int 1), .con (.int 2)]]), .asg (.tp [5, 4]) (.tup [.call 25 [.var 1], .lst []]), .asg (.nm 2) (.call 23 [.var 1]), .for_ (.nm 3) .seq [.lc (.ix (.var 6) (.con (.int 1))) [6] (.nm 6) .seq [.sl (.call 18 [.var 0, .var 5]) .nop (.call 16 [.var 0, .con (.int 21)])] []] [.ex (.mt 15 .none (.var 2) [.var 3, .con (.int 0)]), .ex (.mt 0 .append (.var 4) [.var 3])], .ite (.not (.call 28 [.var 0, .var 2, .var 5, .var 4])) [.ret (.con (.bl false))] [], .asg (.nm 4) (.lc (.var 3) [7, 3] (.tp [7, 3]) .seq [.var 5] [.oin false 20 (.var 3) (.var 2)]), .ret (.call 29 [.var 0, .var 2, .var 5, .var 4])]
def d__law_right : Df := ⟨["_law_dice_here"], ["_law_dice_here", "_law_spread", "_law_table", "_law_name", "_law_there", "_law_rows_here", "_law_row", "_law_spot_here"], b__law_right⟩
abbrev i__law_right : Nat := 52
def b_law : List Sm := [.for_ (.nm 1) .rng [.bi .max [.con (.int 1), .bi .min [.con (.int 3), .bi .len [.var 0]]]] [.asg (.nm 5) (.call 15 [.var 0, .var 1]), .ite (.or (.not (.call 30 [.var 5])) (.not (.call 30 [.var 5]))) [.ret (.con (.bl false))] []], .asg (.nm 2) (.calld 33 [] 1), .for_ (.nm 3) .seq [.lst [.con (.str [97, 99]), .con (.str [98, 66]), .con (.str [97])]] [.ex (.mt 15 .none (.var 2) [.var 3, .var 3])], .asg (.nm 4) (.mt 18 .none (.var 2) [.con (.int 0), .con (.int 1)]), .ret (.and (.cmp .eq (.var 4) (.tup [.ix (.mt 18 .none (.var 2) [.con (.int 0), .con (.int 2)]) (.con (.int 0)), .tup [.con (.str [97, 99]), .con (.str [98, 66])]])) (.cmp .eq (.mt 18 .none (.var 2) [.ix (.var 4) (.con (.int 0)), .con (.int 1)]) (.tup [.con (.int 0), .tup [.con (.str [97])]])))]
def d_law : Df := ⟨["_law_script"], ["_law_script", "_law_at", "_law_table", "_law_name", "_law_told", "_law_dice_here"], b_law⟩
abbrev i_law : Nat := 53
def defs : List Df := [d__wall, d_is_within, d_is_count, d_is_printed, d_is_text, d_check_text, d_check_within, d_check_count, d_hash_of, d_reversed_bits, d__check_bits, d_Kept_twin, d_copied, d_Table_DinitD, d_Table_put, d_Table_get, d_Table_take, d_Table_scan, d_Table_all_names, d_Table_all_items, d_Table_counts, d_Table_rows, d_Table_twin, d_Table_DcontainsD, d_Table_DlenD, d_Table_DeqD, d_Table__held_items, d_Table__step, d_Table__enter, d_Table__leave, d_Table__bucket_in, d_Table__pair_of, d_Table__grow, d_Table__shrink, d__empty_buckets, d__buckets_for, d__first_place, d__law_dice, d__law_roll, d__law_one_of, d__law_mixed, d__law_hash, d__law_few, d__law_pairs, d__law_hash_by, d__law_made, d__law_spot, d__law_rows, d__law_due, d__law_changed, d__law_scan_right, d__law_still_right, d__law_right, d_law]
def gn : List Str := (["_wall", "is_within", "is_count", "is_printed", "is_text", "check_text", "check_within", "check_count", "hash_of", "reversed_bits", "_check_bits", "copied", "_empty_buckets", "_buckets_for", "_first_place", "_law_dice"] : List Str) ++ (["_law_roll", "_law_one_of", "_law_mixed", "_law_hash", "_law_few", "_law_pairs", "_law_hash_by", "_law_made", "_law_spot", "_law_rows", "_law_due", "_law_changed", "_law_scan_right", "_law_still_right", "_law_right", "law"] : List Str) ++ (["Kept", "Table", "MAX_TEXT", "HASH_BITS", "_HASH_MODULUS", "_MAX_BITS", "_LEAST_BUCKETS", "_MOST_BUCKETS", "_MAX_CURSOR", "_MAX_COUNT"] : List Str)
def anl : List Str := (["twin", "_spread", "_values", "_hashes", "_order", "_buckets", "_new_buckets", "_moved", "_step", "_enter", "_grow", "_leave", "_shrink", "_bucket_in", "_pair_of", "put"] : List Str) ++ (["take", "get", "scan", "all_names", "__contains__", "__len__", "_held_items", "all_items", "counts", "rows"] : List Str)
abbrev n_twin : Nat := 0
abbrev n__spread : Nat := 1
abbrev n__values : Nat := 2
abbrev n__hashes : Nat := 3
abbrev n__order : Nat := 4
abbrev n__buckets : Nat := 5
abbrev n__new_buckets : Nat := 6
abbrev n__moved : Nat := 7
abbrev n__step : Nat := 8
abbrev n__enter : Nat := 9
abbrev n__grow : Nat := 10
abbrev n__leave : Nat := 11
abbrev n__shrink : Nat := 12
abbrev n__bucket_in : Nat := 13
abbrev n__pair_of : Nat := 14
abbrev n_put : Nat := 15
abbrev n_take : Nat := 16
abbrev n_get : Nat := 17
abbrev n_scan : Nat := 18
abbrev n_all_names : Nat := 19
abbrev n_DcontainsD : Nat := 20
abbrev n_DlenD : Nat := 21
abbrev n__held_items : Nat := 22
abbrev n_all_items : Nat := 23
abbrev n_counts : Nat := 24
abbrev n_rows : Nat := 25
def nm : Nm := ⟨gn, anl⟩
def T : Tb := ⟨[.fn 0, .fn 1, .fn 2, .fn 3, .fn 4, .fn 5, .fn 6, .fn 7, .fn 8, .fn 9, .fn 10, .fn 12, .fn 34, .fn 35, .fn 36, .fn 37, .fn 38, .fn 39, .fn 40, .fn 41, .fn 42, .fn 43, .fn 44, .fn 45, .fn 46, .fn 47, .fn 48, .fn 49, .fn 50, .fn 51, .fn 52, .fn 53, .cls 0, .cls 1, .int 200, .int 16, .int 65536, .int 64, .int 4, .int 65536, .int 65535, .int 1000],
  [⟨none, [(0, 11)], [], [0], none⟩,
  ⟨some 13, [(15, 14), (17, 15), (16, 16), (18, 17), (19, 18), (23, 19), (24, 20), (25, 21), (0, 22), (20, 23), (21, 24), (22, 26), (8, 27), (9, 28), (11, 29), (13, 30), (14, 31), (10, 32), (12, 33)], [], [1, 0], some 25⟩],
  [(7, [.int 0]), (13, [.non]), (16, [.non]), (15, [.non])]⟩
abbrev s__wall : Stmt := top 0
def D__wall : DA := ⟨fun K => He.ga K "_wall", "_wall", "_wall", defArgs s__wall, defBody s__wall, defScope s__wall, [], []⟩
abbrev s_is_within : Stmt := top 8
def D_is_within : DA := ⟨fun K => He.ga K "is_within", "is_within", "is_within", defArgs s_is_within, defBody s_is_within, defScope s_is_within, [], []⟩
abbrev s_is_count : Stmt := top 9
def D_is_count : DA := ⟨fun K => He.ga K "is_count", "is_count", "is_count", defArgs s_is_count, defBody s_is_count, defScope s_is_count, [.int 0], []⟩
abbrev s_is_printed : Stmt := top 10
def D_is_printed : DA := ⟨fun K => He.ga K "is_printed", "is_printed", "is_printed", defArgs s_is_printed, defBody s_is_printed, defScope s_is_printed, [], []⟩
abbrev s_is_text : Stmt := top 11
def D_is_text : DA := ⟨fun K => He.ga K "is_text", "is_text", "is_text", defArgs s_is_text, defBody s_is_text, defScope s_is_text, [], []⟩
abbrev s_check_text : Stmt := top 12
def D_check_text : DA := ⟨fun K => He.ga K "check_text", "check_text", "check_text", defArgs s_check_text, defBody s_check_text, defScope s_check_text, [], []⟩
abbrev s_check_within : Stmt := top 13
def D_check_within : DA := ⟨fun K => He.ga K "check_within", "check_within", "check_within", defArgs s_check_within, defBody s_check_within, defScope s_check_within, [], []⟩
abbrev s_check_count : Stmt := top 14
def D_check_count : DA := ⟨fun K => He.ga K "check_count", "check_count", "check_count", defArgs s_check_count, defBody s_check_count, defScope s_check_count, [.int 0], []⟩
abbrev s_hash_of : Stmt := top 19
def D_hash_of : DA := ⟨fun K => He.ga K "hash_of", "hash_of", "hash_of", defArgs s_hash_of, defBody s_hash_of, defScope s_hash_of, [], []⟩
abbrev s_reversed_bits : Stmt := top 20
def D_reversed_bits : DA := ⟨fun K => He.ga K "reversed_bits", "reversed_bits", "reversed_bits", defArgs s_reversed_bits, defBody s_reversed_bits, defScope s_reversed_bits, [], []⟩
abbrev s__check_bits : Stmt := top 21
def D__check_bits : DA := ⟨fun K => He.ga K "_check_bits", "_check_bits", "_check_bits", defArgs s__check_bits, defBody s__check_bits, defScope s__check_bits, [], []⟩
abbrev s_Kept_twin : Stmt := inCls (top 23) 0
def D_Kept_twin : DA := ⟨fun K => He.ma K (He.ga K "Kept") "twin", "twin", "Kept.twin", defArgs s_Kept_twin, defBody s_Kept_twin, defScope s_Kept_twin, [], []⟩
abbrev s_copied : Stmt := top 24
def D_copied : DA := ⟨fun K => He.ga K "copied", "copied", "copied", defArgs s_copied, defBody s_copied, defScope s_copied, [], []⟩
abbrev s_Table_DinitD : Stmt := inCls (top 30) 0
def D_Table_DinitD : DA := ⟨fun K => He.ma K (He.ga K "Table") "__init__", "__init__", "Table.__init__", defArgs s_Table_DinitD, defBody s_Table_DinitD, defScope s_Table_DinitD, [.non], []⟩
abbrev s_Table_put : Stmt := inCls (top 30) 1
def D_Table_put : DA := ⟨fun K => He.ma K (He.ga K "Table") "put", "put", "Table.put", defArgs s_Table_put, defBody s_Table_put, defScope s_Table_put, [], []⟩
abbrev s_Table_get : Stmt := inCls (top 30) 2
def D_Table_get : DA := ⟨fun K => He.ma K (He.ga K "Table") "get", "get", "Table.get", defArgs s_Table_get, defBody s_Table_get, defScope s_Table_get, [.non], []⟩
abbrev s_Table_take : Stmt := inCls (top 30) 3
def D_Table_take : DA := ⟨fun K => He.ma K (He.ga K "Table") "take", "take", "Table.take", defArgs s_Table_take, defBody s_Table_take, defScope s_Table_take, [.non], []⟩
abbrev s_Table_scan : Stmt := inCls (top 30) 4
def D_Table_scan : DA := ⟨fun K => He.ma K (He.ga K "Table") "scan", "scan", "Table.scan", defArgs s_Table_scan, defBody s_Table_scan, defScope s_Table_scan, [], []⟩
abbrev s_Table_all_names : Stmt := inCls (top 30) 5
def D_Table_all_names : DA := ⟨fun K => He.ma K (He.ga K "Table") "all_names", "all_names", "Table.all_names", defArgs s_Table_all_names, defBody s_Table_all_names, defScope s_Table_all_names, [], []⟩
abbrev s_Table_all_items : Stmt := inCls (top 30) 6
def D_Table_all_items : DA := ⟨fun K => He.ma K (He.ga K "Table") "all_items", "all_items", "Table.all_items", defArgs s_Table_all_items, defBody s_Table_all_items, defScope s_Table_all_items, [], []⟩
abbrev s_Table_counts : Stmt := inCls (top 30) 7
def D_Table_counts : DA := ⟨fun K => He.ma K (He.ga K "Table") "counts", "counts", "Table.counts", defArgs s_Table_counts, defBody s_Table_counts, defScope s_Table_counts, [], []⟩
abbrev s_Table_rows : Stmt := inCls (top 30) 8
def D_Table_rows : DA := ⟨fun K => He.ma K (He.ga K "Table") "rows", "rows", "Table.rows", defArgs s_Table_rows, defBody s_Table_rows, defScope s_Table_rows, [], []⟩
abbrev s_Table_twin : Stmt := inCls (top 30) 9
def D_Table_twin : DA := ⟨fun K => He.ma K (He.ga K "Table") "twin", "twin", "Table.twin", defArgs s_Table_twin, defBody s_Table_twin, defScope s_Table_twin, [], []⟩
abbrev s_Table_DcontainsD : Stmt := inCls (top 30) 10
def D_Table_DcontainsD : DA := ⟨fun K => He.ma K (He.ga K "Table") "__contains__", "__contains__", "Table.__contains__", defArgs s_Table_DcontainsD, defBody s_Table_DcontainsD, defScope s_Table_DcontainsD, [], []⟩
abbrev s_Table_DlenD : Stmt := inCls (top 30) 11
def D_Table_DlenD : DA := ⟨fun K => He.ma K (He.ga K "Table") "__len__", "__len__", "Table.__len__", defArgs s_Table_DlenD, defBody s_Table_DlenD, defScope s_Table_DlenD, [], []⟩
abbrev s_Table_DeqD : Stmt := inCls (top 30) 12
def D_Table_DeqD : DA := ⟨fun K => He.ma K (He.ga K "Table") "__eq__", "__eq__", "Table.__eq__", defArgs s_Table_DeqD, defBody s_Table_DeqD, defScope s_Table_DeqD, [], []⟩
abbrev s_Table__held_items : Stmt := inCls (top 30) 13
def D_Table__held_items : DA := ⟨fun K => He.ma K (He.ga K "Table") "_held_items", "_held_items", "Table._held_items", defArgs s_Table__held_items, defBody s_Table__held_items, defScope s_Table__held_items, [], []⟩
abbrev s_Table__step : Stmt := inCls (top 30) 14
def D_Table__step : DA := ⟨fun K => He.ma K (He.ga K "Table") "_step", "_step", "Table._step", defArgs s_Table__step, defBody s_Table__step, defScope s_Table__step, [], []⟩
abbrev s_Table__enter : Stmt := inCls (top 30) 15
def D_Table__enter : DA := ⟨fun K => He.ma K (He.ga K "Table") "_enter", "_enter", "Table._enter", defArgs s_Table__enter, defBody s_Table__enter, defScope s_Table__enter, [], []⟩
abbrev s_Table__leave : Stmt := inCls (top 30) 16
def D_Table__leave : DA := ⟨fun K => He.ma K (He.ga K "Table") "_leave", "_leave", "Table._leave", defArgs s_Table__leave, defBody s_Table__leave, defScope s_Table__leave, [], []⟩
abbrev s_Table__bucket_in : Stmt := inCls (top 30) 17
def D_Table__bucket_in : DA := ⟨fun K => He.ma K (He.ga K "Table") "_bucket_in", "_bucket_in", "Table._bucket_in", defArgs s_Table__bucket_in, defBody s_Table__bucket_in, defScope s_Table__bucket_in, [], []⟩
abbrev s_Table__pair_of : Stmt := inCls (top 30) 18
def D_Table__pair_of : DA := ⟨fun K => He.ma K (He.ga K "Table") "_pair_of", "_pair_of", "Table._pair_of", defArgs s_Table__pair_of, defBody s_Table__pair_of, defScope s_Table__pair_of, [], []⟩
abbrev s_Table__grow : Stmt := inCls (top 30) 19
def D_Table__grow : DA := ⟨fun K => He.ma K (He.ga K "Table") "_grow", "_grow", "Table._grow", defArgs s_Table__grow, defBody s_Table__grow, defScope s_Table__grow, [], []⟩
abbrev s_Table__shrink : Stmt := inCls (top 30) 20
def D_Table__shrink : DA := ⟨fun K => He.ma K (He.ga K "Table") "_shrink", "_shrink", "Table._shrink", defArgs s_Table__shrink, defBody s_Table__shrink, defScope s_Table__shrink, [], []⟩
abbrev s__empty_buckets : Stmt := top 31
def D__empty_buckets : DA := ⟨fun K => He.ga K "_empty_buckets", "_empty_buckets", "_empty_buckets", defArgs s__empty_buckets, defBody s__empty_buckets, defScope s__empty_buckets, [], []⟩
abbrev s__buckets_for : Stmt := top 32
def D__buckets_for : DA := ⟨fun K => He.ga K "_buckets_for", "_buckets_for", "_buckets_for", defArgs s__buckets_for, defBody s__buckets_for, defScope s__buckets_for, [], []⟩
abbrev s__first_place : Stmt := top 33
def D__first_place : DA := ⟨fun K => He.ga K "_first_place", "_first_place", "_first_place", defArgs s__first_place, defBody s__first_place, defScope s__first_place, [], []⟩
abbrev s__law_dice : Stmt := top 35
def D__law_dice : DA := ⟨fun K => He.ga K "_law_dice", "_law_dice", "_law_dice", defArgs s__law_dice, defBody s__law_dice, defScope s__law_dice, [], []⟩
abbrev s__law_roll : Stmt := top 36
def D__law_roll : DA := ⟨fun K => He.ga K "_law_roll", "_law_roll", "_law_roll", defArgs s__law_roll, defBody s__law_roll, defScope s__law_roll, [], []⟩
abbrev s__law_one_of : Stmt := top 37
def D__law_one_of : DA := ⟨fun K => He.ga K "_law_one_of", "_law_one_of", "_law_one_of", defArgs s__law_one_of, defBody s__law_one_of, defScope s__law_one_of, [], []⟩
abbrev s__law_mixed : Stmt := top 38
def D__law_mixed : DA := ⟨fun K => He.ga K "_law_mixed", "_law_mixed", "_law_mixed", defArgs s__law_mixed, defBody s__law_mixed, defScope s__law_mixed, [], []⟩
abbrev s__law_hash : Stmt := top 39
def D__law_hash : DA := ⟨fun K => He.ga K "_law_hash", "_law_hash", "_law_hash", defArgs s__law_hash, defBody s__law_hash, defScope s__law_hash, [], []⟩
abbrev s__law_few : Stmt := top 40
def D__law_few : DA := ⟨fun K => He.ga K "_law_few", "_law_few", "_law_few", defArgs s__law_few, defBody s__law_few, defScope s__law_few, [], []⟩
abbrev s__law_pairs : Stmt := top 41
def D__law_pairs : DA := ⟨fun K => He.ga K "_law_pairs", "_law_pairs", "_law_pairs", defArgs s__law_pairs, defBody s__law_pairs, defScope s__law_pairs, [], []⟩
abbrev s__law_hash_by : Stmt := top 42
def D__law_hash_by : DA := ⟨fun K => He.ga K "_law_hash_by", "_law_hash_by", "_law_hash_by", defArgs s__law_hash_by, defBody s__law_hash_by, defScope s__law_hash_by, [], []⟩
abbrev s__law_made : Stmt := top 43
def D__law_made : DA := ⟨fun K => He.ga K "_law_made", "_law_made", "_law_made", defArgs s__law_made, defBody s__law_made, defScope s__law_made, [], []⟩
abbrev s__law_spot : Stmt := top 44
def D__law_spot : DA := ⟨fun K => He.ga K "_law_spot", "_law_spot", "_law_spot", defArgs s__law_spot, defBody s__law_spot, defScope s__law_spot, [], []⟩
abbrev s__law_rows : Stmt := top 45
def D__law_rows : DA := ⟨fun K => He.ga K "_law_rows", "_law_rows", "_law_rows", defArgs s__law_rows, defBody s__law_rows, defScope s__law_rows, [], []⟩
abbrev s__law_due : Stmt := top 46
def D__law_due : DA := ⟨fun K => He.ga K "_law_due", "_law_due", "_law_due", defArgs s__law_due, defBody s__law_due, defScope s__law_due, [], []⟩
abbrev s__law_changed : Stmt := top 47
def D__law_changed : DA := ⟨fun K => He.ga K "_law_changed", "_law_changed", "_law_changed", defArgs s__law_changed, defBody s__law_changed, defScope s__law_changed, [], []⟩
abbrev s__law_scan_right : Stmt := top 48
def D__law_scan_right : DA := ⟨fun K => He.ga K "_law_scan_right", "_law_scan_right", "_law_scan_right", defArgs s__law_scan_right, defBody s__law_scan_right, defScope s__law_scan_right, [], []⟩
abbrev s__law_still_right : Stmt := top 49
def D__law_still_right : DA := ⟨fun K => He.ga K "_law_still_right", "_law_still_right", "_law_still_right", defArgs s__law_still_right, defBody s__law_still_right, defScope s__law_still_right, [], []⟩
abbrev s__law_right : Stmt := top 50
def D__law_right : DA := ⟨fun K => He.ga K "_law_right", "_law_right", "_law_right", defArgs s__law_right, defBody s__law_right, defScope s__law_right, [], []⟩
abbrev s_law : Stmt := top 51
def D_law : DA := ⟨fun K => He.ga K "law", "law", "law", defArgs s_law, defBody s_law, defScope s_law, [], []⟩
def fn : List DA := [D__wall, D_is_within, D_is_count, D_is_printed, D_is_text, D_check_text, D_check_within, D_check_count, D_hash_of, D_reversed_bits, D__check_bits, D_Kept_twin, D_copied, D_Table_DinitD, D_Table_put, D_Table_get, D_Table_take, D_Table_scan, D_Table_all_names, D_Table_all_items, D_Table_counts, D_Table_rows, D_Table_twin, D_Table_DcontainsD, D_Table_DlenD, D_Table_DeqD, D_Table__held_items, D_Table__step, D_Table__enter, D_Table__leave, D_Table__bucket_in, D_Table__pair_of, D_Table__grow, D_Table__shrink, D__empty_buckets, D__buckets_for, D__first_place, D__law_dice, D__law_roll, D__law_one_of, D__law_mixed, D__law_hash, D__law_few, D__law_pairs, D__law_hash_by, D__law_made, D__law_spot, D__law_rows, D__law_due, D__law_changed, D__law_scan_right, D__law_still_right, D__law_right, D_law]
def fa : List He.Fa := [.glo "_wall", .glo "is_within", .glo "is_count", .glo "is_printed", .glo "is_text", .glo "check_text", .glo "check_within", .glo "check_count", .glo "hash_of", .glo "reversed_bits", .glo "_check_bits", .glo "copied", .glo "_empty_buckets", .glo "_buckets_for", .glo "_first_place", .glo "_law_dice", .glo "_law_roll", .glo "_law_one_of", .glo "_law_mixed", .glo "_law_hash", .glo "_law_few", .glo "_law_pairs", .glo "_law_hash_by", .glo "_law_made", .glo "_law_spot", .glo "_law_rows", .glo "_law_due", .glo "_law_changed", .glo "_law_scan_right", .glo "_law_still_right", .glo "_law_right", .glo "law", .glo "Kept", .glo "Table", .int "MAX_TEXT" 200, .int "HASH_BITS" 16, .int "_HASH_MODULUS" 65536, .int "_MAX_BITS" 64, .int "_LEAST_BUCKETS" 4, .int "_MOST_BUCKETS" 65536, .int "_MAX_CURSOR" 65535, .int "_MAX_COUNT" 1000, .free "len", .free "abs", .free "max", .free "min", .free "int", .free "str", .free "bool", .free "list", .free "tuple", .free "sorted", .free "sum", .free "any", .free "all", .free "ord", .free "isinstance", .free "repr", .free "dict", .free "range", .free "enumerate", .free "zip", .free "reversed", .free "set"]
def loose : List Str := (["_wall", "__name__", "DeedError", "InvalidText", "InvalidOperation", "InvalidNumber", "MAX_TEXT", "is_within", "is_count", "is_printed", "is_text", "check_text", "check_within", "check_count", "HASH_BITS", "_HASH_MODULUS"] : List Str) ++ (["_MAX_BITS", "hash_of", "reversed_bits", "_check_bits", "Kept", "copied", "_LEAST_BUCKETS", "_MOST_BUCKETS", "_MAX_CURSOR", "_MAX_COUNT", "Table", "_empty_buckets", "_buckets_for", "_first_place", "_law_dice", "_law_roll"] : List Str) ++ (["_law_one_of", "_law_mixed", "_law_hash", "_law_few", "_law_pairs", "_law_hash_by", "_law_made", "_law_spot", "_law_rows", "_law_due", "_law_changed", "_law_scan_right", "_law_still_right", "_law_right"] : List Str)
abbrev lawTop : Nat := 51
def cnm : List Str := (["Kept", "Table"] : List Str)
def gm (K : PySem.W.Frag) : Gm := { K := K, fa := fun i => (fn.getD i D_law).at_ K, ca := fun c => He.ga K (cnm.getD c Str.empty), an := anl }
def ck (K : PySem.W.Frag) : Bool := cokB (gm K) T
theorem anl_nd : anl.Nodup := by decide +kernel
section
variable {K : PySem.W.Frag} {h : Heap} {mg : Str → Option Value}
theorem c__wall : chkSs T nm (d__wall.fx (defScope s__wall)) d__wall.body (defBody s__wall) = true := by decide +kernel
theorem S__wall : FnScope d__wall.N d__wall.ps (defScope s__wall) := ⟨rfl, rfl, rfl, by decide +kernel, rfl, by decide +kernel, by decide +kernel⟩
theorem k__wall (c : SaM ck fa fn K) : ∃ fd, DOk (gm K) T nm K 0 d__wall fd := by
  obtain ⟨fd, F⟩ := c.def_ 0 (d := D__wall) rfl
  exact ⟨fd, ⟨_, _, _, _, _, ⟨_, _, F⟩, S__wall, .inl c__wall⟩, F.bindsN fun _ _ _ _ _ _ us hl => match us, hl with | [_], _ => rfl, F.kp, dfl_none (by decide)⟩
theorem c_is_within : chkSs T nm (d_is_within.fx (defScope s_is_within)) d_is_within.body (defBody s_is_within) = true := by decide +kernel
theorem S_is_within : FnScope d_is_within.N d_is_within.ps (defScope s_is_within) := ⟨rfl, rfl, rfl, by decide +kernel, rfl, by decide +kernel, by decide +kernel⟩
theorem k_is_within (c : SaM ck fa fn K) : ∃ fd, DOk (gm K) T nm K 1 d_is_within fd := by
  obtain ⟨fd, F⟩ := c.def_ 1 (d := D_is_within) rfl
  exact ⟨fd, ⟨_, _, _, _, _, ⟨_, _, F⟩, S_is_within, .inl c_is_within⟩, F.bindsN fun _ _ _ _ _ _ us hl => match us, hl with | [_, _, _], _ => rfl, F.kp, dfl_none (by decide)⟩
theorem c_is_count : chkSs T nm (d_is_count.fx (defScope s_is_count)) d_is_count.body (defBody s_is_count) = true := by decide +kernel
theorem S_is_count : FnScope d_is_count.N d_is_count.ps (defScope s_is_count) := ⟨rfl, rfl, rfl, by decide +kernel, rfl, by decide +kernel, by decide +kernel⟩
theorem k_is_count (c : SaM ck fa fn K) : ∃ fd, DOk (gm K) T nm K 2 d_is_count fd := by
  obtain ⟨fd, F⟩ := c.def_ 2 (d := D_is_count) rfl
  exact ⟨fd, ⟨_, _, _, _, _, ⟨_, _, F⟩, S_is_count, .inl c_is_count⟩, bindsF F (List.cons_ne_nil _ _) fun _ _ _ _ _ _ _ us its hl hi => match us, its, hl, hi with | [_, _], [_], _, _ => ⟨_, rfl, rfl⟩, F.kp, dfl_none (by decide)⟩
theorem c_is_printed : chkSs T nm (d_is_printed.fx (defScope s_is_printed)) d_is_printed.body (defBody s_is_printed) = true := by decide +kernel
theorem S_is_printed : FnScope d_is_printed.N d_is_printed.ps (defScope s_is_printed) := ⟨rfl, rfl, rfl, by decide +kernel, rfl, by decide +kernel, by decide +kernel⟩
theorem k_is_printed (c : SaM ck fa fn K) : ∃ fd, DOk (gm K) T nm K 3 d_is_printed fd := by
  obtain ⟨fd, F⟩ := c.def_ 3 (d := D_is_printed) rfl
  exact ⟨fd, ⟨_, _, _, _, _, ⟨_, _, F⟩, S_is_printed, .inl c_is_printed⟩, F.bindsN fun _ _ _ _ _ _ us hl => match us, hl with | [_], _ => rfl, F.kp, dfl_none (by decide)⟩
theorem c_is_text : chkSs T nm (d_is_text.fx (defScope s_is_text)) d_is_text.body (defBody s_is_text) = true := by decide +kernel
theorem S_is_text : FnScope d_is_text.N d_is_text.ps (defScope s_is_text) := ⟨rfl, rfl, rfl, by decide +kernel, rfl, by decide +kernel, by decide +kernel⟩
theorem k_is_text (c : SaM ck fa fn K) : ∃ fd, DOk (gm K) T nm K 4 d_is_text fd := by
  obtain ⟨fd, F⟩ := c.def_ 4 (d := D_is_text) rfl
  exact ⟨fd, ⟨_, _, _, _, _, ⟨_, _, F⟩, S_is_text, .inl c_is_text⟩, F.bindsN fun _ _ _ _ _ _ us hl => match us, hl with | [_], _ => rfl, F.kp, dfl_none (by decide)⟩
theorem c_check_text : chkSs T nm (d_check_text.fx (defScope s_check_text)) d_check_text.body (defBody s_check_text) = true := by decide +kernel
theorem S_check_text : FnScope d_check_text.N d_check_text.ps (defScope s_check_text) := ⟨rfl, rfl, rfl, by decide +kernel, rfl, by decide +kernel, by decide +kernel⟩
theorem k_check_text (c : SaM ck fa fn K) : ∃ fd, DOk (gm K) T nm K 5 d_check_text fd := by
  obtain ⟨fd, F⟩ := c.def_ 5 (d := D_check_text) rfl
  exact ⟨fd, ⟨_, _, _, _, _, ⟨_, _, F⟩, S_check_text, .inl c_check_text⟩, F.bindsN fun _ _ _ _ _ _ us hl => match us, hl with | [_], _ => rfl, F.kp, dfl_none (by decide)⟩
theorem c_check_within : chkSs T nm (d_check_within.fx (defScope s_check_within)) d_check_within.body (defBody s_check_within) = true := by decide +kernel
theorem S_check_within : FnScope d_check_within.N d_check_within.ps (defScope s_check_within) := ⟨rfl, rfl, rfl, by decide +kernel, rfl, by decide +kernel, by decide +kernel⟩
theorem k_check_within (c : SaM ck fa fn K) : ∃ fd, DOk (gm K) T nm K 6 d_check_within fd := by
  obtain ⟨fd, F⟩ := c.def_ 6 (d := D_check_within) rfl
  exact ⟨fd, ⟨_, _, _, _, _, ⟨_, _, F⟩, S_check_within, .inl c_check_within⟩, F.bindsN fun _ _ _ _ _ _ us hl => match us, hl with | [_, _, _], _ => rfl, F.kp, dfl_none (by decide)⟩
theorem c_check_count : chkSs T nm (d_check_count.fx (defScope s_check_count)) d_check_count.body (defBody s_check_count) = true := by decide +kernel
theorem S_check_count : FnScope d_check_count.N d_check_count.ps (defScope s_check_count) := ⟨rfl, rfl, rfl, by decide +kernel, rfl, by decide +kernel, by decide +kernel⟩
theorem k_check_count (c : SaM ck fa fn K) : ∃ fd, DOk (gm K) T nm K 7 d_check_count fd := by
  obtain ⟨fd, F⟩ := c.def_ 7 (d := D_check_count) rfl
  exact ⟨fd, ⟨_, _, _, _, _, ⟨_, _, F⟩, S_check_count, .inl c_check_count⟩, bindsF F (List.cons_ne_nil _ _) fun _ _ _ _ _ _ _ us its hl hi => match us, its, hl, hi with | [_, _], [_], _, _ => ⟨_, rfl, rfl⟩, F.kp, dfl_of (l := [[.int 0]]) rfl ⟨(let ⟨us, r, b⟩ := F.binds1 1 0 (List.cons_ne_nil _ _) rfl (fun _ _ _ _ _ _ _ us its hl hi => match us, its, hl, hi with | [_], [_], _, _ => ⟨_, rfl, rfl⟩); ⟨_, us, fun as H => .cons (.int _) (.nil), r, b⟩), trivial⟩⟩
theorem c_hash_of : chkSs T nm (d_hash_of.fx (defScope s_hash_of)) d_hash_of.body (defBody s_hash_of) = true := by decide +kernel
theorem S_hash_of : FnScope d_hash_of.N d_hash_of.ps (defScope s_hash_of) := ⟨rfl, rfl, rfl, by decide +kernel, rfl, by decide +kernel, by decide +kernel⟩
theorem k_hash_of (c : SaM ck fa fn K) : ∃ fd, DOk (gm K) T nm K 8 d_hash_of fd := by
  obtain ⟨fd, F⟩ := c.def_ 8 (d := D_hash_of) rfl
  exact ⟨fd, ⟨_, _, _, _, _, ⟨_, _, F⟩, S_hash_of, .inl c_hash_of⟩, F.bindsN fun _ _ _ _ _ _ us hl => match us, hl with | [_], _ => rfl, F.kp, dfl_none (by decide)⟩
theorem c_reversed_bits : chkSs T nm (d_reversed_bits.fx (defScope s_reversed_bits)) d_reversed_bits.body (defBody s_reversed_bits) = true := by decide +kernel
theorem S_reversed_bits : FnScope d_reversed_bits.N d_reversed_bits.ps (defScope s_reversed_bits) := ⟨rfl, rfl, rfl, by decide +kernel, rfl, by decide +kernel, by decide +kernel⟩
theorem k_reversed_bits (c : SaM ck fa fn K) : ∃ fd, DOk (gm K) T nm K 9 d_reversed_bits fd := by
  obtain ⟨fd, F⟩ := c.def_ 9 (d := D_reversed_bits) rfl
  exact ⟨fd, ⟨_, _, _, _, _, ⟨_, _, F⟩, S_reversed_bits, .inl c_reversed_bits⟩, F.bindsN fun _ _ _ _ _ _ us hl => match us, hl with | [_, _], _ => rfl, F.kp, dfl_none (by decide)⟩
theorem c__check_bits : chkSs T nm (d__check_bits.fx (defScope s__check_bits)) d__check_bits.body (defBody s__check_bits) = true := by decide +kernel
theorem S__check_bits : FnScope d__check_bits.N d__check_bits.ps (defScope s__check_bits) := ⟨rfl, rfl, rfl, by decide +kernel, rfl, by decide +kernel, by decide +kernel⟩
theorem k__check_bits (c : SaM ck fa fn K) : ∃ fd, DOk (gm K) T nm K 10 d__check_bits fd := by
  obtain ⟨fd, F⟩ := c.def_ 10 (d := D__check_bits) rfl
  exact ⟨fd, ⟨_, _, _, _, _, ⟨_, _, F⟩, S__check_bits, .inl c__check_bits⟩, F.bindsN fun _ _ _ _ _ _ us hl => match us, hl with | [_, _, _], _ => rfl, F.kp, dfl_none (by decide)⟩
theorem c_Kept_twin : chkSs T nm (d_Kept_twin.fx (defScope s_Kept_twin)) d_Kept_twin.body (defBody s_Kept_twin) = true := by decide +kernel
theorem S_Kept_twin : FnScope d_Kept_twin.N d_Kept_twin.ps (defScope s_Kept_twin) := ⟨rfl, rfl, rfl, by decide +kernel, rfl, by decide +kernel, by decide +kernel⟩
theorem k_Kept_twin (c : SaM ck fa fn K) : ∃ fd, DOk (gm K) T nm K 11 d_Kept_twin fd := by
  obtain ⟨fd, F⟩ := c.def_ 11 (d := D_Kept_twin) rfl
  exact ⟨fd, ⟨_, _, _, _, _, ⟨_, _, F⟩, S_Kept_twin, .inl c_Kept_twin⟩, F.bindsN fun _ _ _ _ _ _ us hl => match us, hl with | [_], _ => rfl, F.kp, dfl_none (by decide)⟩
theorem c_copied : chkSs T nm (d_copied.fx (defScope s_copied)) d_copied.body (defBody s_copied) = true := by decide +kernel
theorem S_copied : FnScope d_copied.N d_copied.ps (defScope s_copied) := ⟨rfl, rfl, rfl, by decide +kernel, rfl, by decide +kernel, by decide +kernel⟩
theorem k_copied (c : SaM ck fa fn K) : ∃ fd, DOk (gm K) T nm K 12 d_copied fd := by
  obtain ⟨fd, F⟩ := c.def_ 12 (d := D_copied) rfl
  exact ⟨fd, ⟨_, _, _, _, _, ⟨_, _, F⟩, S_copied, .inl c_copied⟩, F.bindsN fun _ _ _ _ _ _ us hl => match us, hl with | [_], _ => rfl, F.kp, dfl_none (by decide)⟩
theorem c_Table_DinitD : chkSs T nm (d_Table_DinitD.fx (defScope s_Table_DinitD)) d_Table_DinitD.body (defBody s_Table_DinitD) = true := by decide +kernel
theorem S_Table_DinitD : FnScope d_Table_DinitD.N d_Table_DinitD.ps (defScope s_Table_DinitD) := ⟨rfl, rfl, rfl, by decide +kernel, rfl, by decide +kernel, by decide +kernel⟩
theorem k_Table_DinitD (c : SaM ck fa fn K) : ∃ fd, DOk (gm K) T nm K 13 d_Table_DinitD fd := by
  obtain ⟨fd, F⟩ := c.def_ 13 (d := D_Table_DinitD) rfl
  exact ⟨fd, ⟨_, _, _, _, _, ⟨_, _, F⟩, S_Table_DinitD, .inl c_Table_DinitD⟩, bindsF F (List.cons_ne_nil _ _) fun _ _ _ _ _ _ _ us its hl hi => match us, its, hl, hi with | [_, _], [_], _, _ => ⟨_, rfl, rfl⟩, F.kp, dfl_of (l := [[.non]]) rfl ⟨(let ⟨us, r, b⟩ := F.binds1 1 0 (List.cons_ne_nil _ _) rfl (fun _ _ _ _ _ _ _ us its hl hi => match us, its, hl, hi with | [_], [_], _, _ => ⟨_, rfl, rfl⟩); ⟨_, us, fun as H => .cons .non (.nil), r, b⟩), trivial⟩⟩
theorem c_Table_put : chkSs T nm (d_Table_put.fx (defScope s_Table_put)) d_Table_put.body (defBody s_Table_put) = true := by decide +kernel
theorem S_Table_put : FnScope d_Table_put.N d_Table_put.ps (defScope s_Table_put) := ⟨rfl, rfl, rfl, by decide +kernel, rfl, by decide +kernel, by decide +kernel⟩
theorem k_Table_put (c : SaM ck fa fn K) : ∃ fd, DOk (gm K) T nm K 14 d_Table_put fd := by
  obtain ⟨fd, F⟩ := c.def_ 14 (d := D_Table_put) rfl
  exact ⟨fd, ⟨_, _, _, _, _, ⟨_, _, F⟩, S_Table_put, .inl c_Table_put⟩, F.bindsN fun _ _ _ _ _ _ us hl => match us, hl with | [_, _, _], _ => rfl, F.kp, dfl_none (by decide)⟩
theorem c_Table_get : chkSs T nm (d_Table_get.fx (defScope s_Table_get)) d_Table_get.body (defBody s_Table_get) = true := by decide +kernel
theorem S_Table_get : FnScope d_Table_get.N d_Table_get.ps (defScope s_Table_get) := ⟨rfl, rfl, rfl, by decide +kernel, rfl, by decide +kernel, by decide +kernel⟩
theorem k_Table_get (c : SaM ck fa fn K) : ∃ fd, DOk (gm K) T nm K 15 d_Table_get fd := by
  obtain ⟨fd, F⟩ := c.def_ 15 (d := D_Table_get) rfl
  exact ⟨fd, ⟨_, _, _, _, _, ⟨_, _, F⟩, S_Table_get, .inl c_Table_get⟩, bindsF F (List.cons_ne_nil _ _) fun _ _ _ _ _ _ _ us its hl hi => match us, its, hl, hi with | [_, _, _], [_], _, _ => ⟨_, rfl, rfl⟩, F.kp, dfl_of (l := [[.non]]) rfl ⟨(let ⟨us, r, b⟩ := F.binds1 2 0 (List.cons_ne_nil _ _) rfl (fun _ _ _ _ _ _ _ us its hl hi => match us, its, hl, hi with | [_, _], [_], _, _ => ⟨_, rfl, rfl⟩); ⟨_, us, fun as H => .cons .non (.nil), r, b⟩), trivial⟩⟩
theorem c_Table_take : chkSs T nm (d_Table_take.fx (defScope s_Table_take)) d_Table_take.body (defBody s_Table_take) = true := by decide +kernel
theorem S_Table_take : FnScope d_Table_take.N d_Table_take.ps (defScope s_Table_take) := ⟨rfl, rfl, rfl, by decide +kernel, rfl, by decide +kernel, by decide +kernel⟩
theorem k_Table_take (c : SaM ck fa fn K) : ∃ fd, DOk (gm K) T nm K 16 d_Table_take fd := by
  obtain ⟨fd, F⟩ := c.def_ 16 (d := D_Table_take) rfl
  exact ⟨fd, ⟨_, _, _, _, _, ⟨_, _, F⟩, S_Table_take, .inl c_Table_take⟩, bindsF F (List.cons_ne_nil _ _) fun _ _ _ _ _ _ _ us its hl hi => match us, its, hl, hi with | [_, _, _], [_], _, _ => ⟨_, rfl, rfl⟩, F.kp, dfl_of (l := [[.non]]) rfl ⟨(let ⟨us, r, b⟩ := F.binds1 2 0 (List.cons_ne_nil _ _) rfl (fun _ _ _ _ _ _ _ us its hl hi => match us, its, hl, hi with | [_, _], [_], _, _ => ⟨_, rfl, rfl⟩); ⟨_, us, fun as H => .cons .non (.nil), r, b⟩), trivial⟩⟩
theorem c_Table_scan : chkSs T nm (d_Table_scan.fx (defScope s_Table_scan)) d_Table_scan.body (defBody s_Table_scan) = true := by decide +kernel
theorem S_Table_scan : FnScope d_Table_scan.N d_Table_scan.ps (defScope s_Table_scan) := ⟨rfl, rfl, rfl, by decide +kernel, rfl, by decide +kernel, by decide +kernel⟩
theorem k_Table_scan (c : SaM ck fa fn K) : ∃ fd, DOk (gm K) T nm K 17 d_Table_scan fd := by
  obtain ⟨fd, F⟩ := c.def_ 17 (d := D_Table_scan) rfl
  exact ⟨fd, ⟨_, _, _, _, _, ⟨_, _, F⟩, S_Table_scan, .inl c_Table_scan⟩, F.bindsN fun _ _ _ _ _ _ us hl => match us, hl with | [_, _, _], _ => rfl, F.kp, dfl_none (by decide)⟩
theorem c_Table_all_names : chkSs T nm (d_Table_all_names.fx (defScope s_Table_all_names)) d_Table_all_names.body (defBody s_Table_all_names) = true := by decide +kernel
theorem S_Table_all_names : FnScope d_Table_all_names.N d_Table_all_names.ps (defScope s_Table_all_names) := ⟨rfl, rfl, rfl, by decide +kernel, rfl, by decide +kernel, by decide +kernel⟩
theorem k_Table_all_names (c : SaM ck fa fn K) : ∃ fd, DOk (gm K) T nm K 18 d_Table_all_names fd := by
  obtain ⟨fd, F⟩ := c.def_ 18 (d := D_Table_all_names) rfl
  exact ⟨fd, ⟨_, _, _, _, _, ⟨_, _, F⟩, S_Table_all_names, .inl c_Table_all_names⟩, F.bindsN fun _ _ _ _ _ _ us hl => match us, hl with | [_], _ => rfl, F.kp, dfl_none (by decide)⟩
theorem c_Table_all_items : chkSs T nm (d_Table_all_items.fx (defScope s_Table_all_items)) d_Table_all_items.body (defBody s_Table_all_items) = true := by decide +kernel
theorem S_Table_all_items : FnScope d_Table_all_items.N d_Table_all_items.ps (defScope s_Table_all_items) := ⟨rfl, rfl, rfl, by decide +kernel, rfl, by decide +kernel, by decide +kernel⟩
theorem k_Table_all_items (c : SaM ck fa fn K) : ∃ fd, DOk (gm K) T nm K 19 d_Table_all_items fd := by
  obtain ⟨fd, F⟩ := c.def_ 19 (d := D_Table_all_items) rfl
  exact ⟨fd, ⟨_, _, _, _, _, ⟨_, _, F⟩, S_Table_all_items, .inl c_Table_all_items⟩, F.bindsN fun _ _ _ _ _ _ us hl => match us, hl with | [_], _ => rfl, F.kp, dfl_none (by decide)⟩
theorem c_Table_counts : chkSs T nm (d_Table_counts.fx (defScope s_Table_counts)) d_Table_counts.body (defBody s_Table_counts) = true := by decide +kernel
theorem S_Table_counts : FnScope d_Table_counts.N d_Table_counts.ps (defScope s_Table_counts) := ⟨rfl, rfl, rfl, by decide +kernel, rfl, by decide +kernel, by decide +kernel⟩
theorem k_Table_counts (c : SaM ck fa fn K) : ∃ fd, DOk (gm K) T nm K 20 d_Table_counts fd := by
  obtain ⟨fd, F⟩ := c.def_ 20 (d := D_Table_counts) rfl
  exact ⟨fd, ⟨_, _, _, _, _, ⟨_, _, F⟩, S_Table_counts, .inl c_Table_counts⟩, F.bindsN fun _ _ _ _ _ _ us hl => match us, hl with | [_], _ => rfl, F.kp, dfl_none (by decide)⟩
theorem c_Table_rows : chkSs T nm (d_Table_rows.fx (defScope s_Table_rows)) d_Table_rows.body (defBody s_Table_rows) = true := by decide +kernel
theorem S_Table_rows : FnScope d_Table_rows.N d_Table_rows.ps (defScope s_Table_rows) := ⟨rfl, rfl, rfl, by decide +kernel, rfl, by decide +kernel, by decide +kernel⟩
theorem k_Table_rows (c : SaM ck fa fn K) : ∃ fd, DOk (gm K) T nm K 21 d_Table_rows fd := by
  obtain ⟨fd, F⟩ := c.def_ 21 (d := D_Table_rows) rfl
  exact ⟨fd, ⟨_, _, _, _, _, ⟨_, _, F⟩, S_Table_rows, .inl c_Table_rows⟩, F.bindsN fun _ _ _ _ _ _ us hl => match us, hl with | [_], _ => rfl, F.kp, dfl_none (by decide)⟩
theorem c_Table_twin : chkSs T nm (d_Table_twin.fx (defScope s_Table_twin)) d_Table_twin.body (defBody s_Table_twin) = true := by decide +kernel
theorem S_Table_twin : FnScope d_Table_twin.N d_Table_twin.ps (defScope s_Table_twin) := ⟨rfl, rfl, rfl, by decide +kernel, rfl, by decide +kernel, by decide +kernel⟩
theorem k_Table_twin (c : SaM ck fa fn K) : ∃ fd, DOk (gm K) T nm K 22 d_Table_twin fd := by
  obtain ⟨fd, F⟩ := c.def_ 22 (d := D_Table_twin) rfl
  exact ⟨fd, ⟨_, _, _, _, _, ⟨_, _, F⟩, S_Table_twin, .inl c_Table_twin⟩, F.bindsN fun _ _ _ _ _ _ us hl => match us, hl with | [_], _ => rfl, F.kp, dfl_none (by decide)⟩
theorem c_Table_DcontainsD : chkSs T nm (d_Table_DcontainsD.fx (defScope s_Table_DcontainsD)) d_Table_DcontainsD.body (defBody s_Table_DcontainsD) = true := by decide +kernel
theorem S_Table_DcontainsD : FnScope d_Table_DcontainsD.N d_Table_DcontainsD.ps (defScope s_Table_DcontainsD) := ⟨rfl, rfl, rfl, by decide +kernel, rfl, by decide +kernel, by decide +kernel⟩
theorem k_Table_DcontainsD (c : SaM ck fa fn K) : ∃ fd, DOk (gm K) T nm K 23 d_Table_DcontainsD fd := by
  obtain ⟨fd, F⟩ := c.def_ 23 (d := D_Table_DcontainsD) rfl
  exact ⟨fd, ⟨_, _, _, _, _, ⟨_, _, F⟩, S_Table_DcontainsD, .inl c_Table_DcontainsD⟩, F.bindsN fun _ _ _ _ _ _ us hl => match us, hl with | [_, _], _ => rfl, F.kp, dfl_none (by decide)⟩
theorem c_Table_DlenD : chkSs T nm (d_Table_DlenD.fx (defScope s_Table_DlenD)) d_Table_DlenD.body (defBody s_Table_DlenD) = true := by decide +kernel
theorem S_Table_DlenD : FnScope d_Table_DlenD.N d_Table_DlenD.ps (defScope s_Table_DlenD) := ⟨rfl, rfl, rfl, by decide +kernel, rfl, by decide +kernel, by decide +kernel⟩
theorem k_Table_DlenD (c : SaM ck fa fn K) : ∃ fd, DOk (gm K) T nm K 24 d_Table_DlenD fd := by
  obtain ⟨fd, F⟩ := c.def_ 24 (d := D_Table_DlenD) rfl
  exact ⟨fd, ⟨_, _, _, _, _, ⟨_, _, F⟩, S_Table_DlenD, .inl c_Table_DlenD⟩, F.bindsN fun _ _ _ _ _ _ us hl => match us, hl with | [_], _ => rfl, F.kp, dfl_none (by decide)⟩
theorem c_Table_DeqD : chkSs T nm (d_Table_DeqD.fx (defScope s_Table_DeqD)) d_Table_DeqD.body (defBody s_Table_DeqD) = true := by decide +kernel
theorem S_Table_DeqD : FnScope d_Table_DeqD.N d_Table_DeqD.ps (defScope s_Table_DeqD) := ⟨rfl, rfl, rfl, by decide +kernel, rfl, by decide +kernel, by decide +kernel⟩
theorem k_Table_DeqD (c : SaM ck fa fn K) : ∃ fd, DOk (gm K) T nm K 25 d_Table_DeqD fd := by
  obtain ⟨fd, F⟩ := c.def_ 25 (d := D_Table_DeqD) rfl
  exact ⟨fd, ⟨_, _, _, _, _, ⟨_, _, F⟩, S_Table_DeqD, .inl c_Table_DeqD⟩, F.bindsN fun _ _ _ _ _ _ us hl => match us, hl with | [_, _], _ => rfl, F.kp, dfl_none (by decide)⟩
theorem c_Table__held_items : chkSs T nm (d_Table__held_items.fx (defScope s_Table__held_items)) d_Table__held_items.body (defBody s_Table__held_items) = true := by decide +kernel
theorem S_Table__held_items : FnScope d_Table__held_items.N d_Table__held_items.ps (defScope s_Table__held_items) := ⟨rfl, rfl, rfl, by decide +kernel, rfl, by decide +kernel, by decide +kernel⟩
theorem k_Table__held_items (c : SaM ck fa fn K) : ∃ fd, DOk (gm K) T nm K 26 d_Table__held_items fd := by
  obtain ⟨fd, F⟩ := c.def_ 26 (d := D_Table__held_items) rfl
  exact ⟨fd, ⟨_, _, _, _, _, ⟨_, _, F⟩, S_Table__held_items, .inl c_Table__held_items⟩, F.bindsN fun _ _ _ _ _ _ us hl => match us, hl with | [_], _ => rfl, F.kp, dfl_none (by decide)⟩
theorem c_Table__step : chkSs T nm (d_Table__step.fx (defScope s_Table__step)) d_Table__step.body (defBody s_Table__step) = true := by decide +kernel
theorem S_Table__step : FnScope d_Table__step.N d_Table__step.ps (defScope s_Table__step) := ⟨rfl, rfl, rfl, by decide +kernel, rfl, by decide +kernel, by decide +kernel⟩
theorem k_Table__step (c : SaM ck fa fn K) : ∃ fd, DOk (gm K) T nm K 27 d_Table__step fd := by
  obtain ⟨fd, F⟩ := c.def_ 27 (d := D_Table__step) rfl
  exact ⟨fd, ⟨_, _, _, _, _, ⟨_, _, F⟩, S_Table__step, .inl c_Table__step⟩, F.bindsN fun _ _ _ _ _ _ us hl => match us, hl with | [_], _ => rfl, F.kp, dfl_none (by decide)⟩
theorem c_Table__enter : chkSs T nm (d_Table__enter.fx (defScope s_Table__enter)) d_Table__enter.body (defBody s_Table__enter) = true := by decide +kernel
theorem S_Table__enter : FnScope d_Table__enter.N d_Table__enter.ps (defScope s_Table__enter) := ⟨rfl, rfl, rfl, by decide +kernel, rfl, by decide +kernel, by decide +kernel⟩
theorem k_Table__enter (c : SaM ck fa fn K) : ∃ fd, DOk (gm K) T nm K 28 d_Table__enter fd := by
  obtain ⟨fd, F⟩ := c.def_ 28 (d := D_Table__enter) rfl
  exact ⟨fd, ⟨_, _, _, _, _, ⟨_, _, F⟩, S_Table__enter, .inl c_Table__enter⟩, F.bindsN fun _ _ _ _ _ _ us hl => match us, hl with | [_, _], _ => rfl, F.kp, dfl_none (by decide)⟩
theorem c_Table__leave : chkSs T nm (d_Table__leave.fx (defScope s_Table__leave)) d_Table__leave.body (defBody s_Table__leave) = true := by decide +kernel
theorem S_Table__leave : FnScope d_Table__leave.N d_Table__leave.ps (defScope s_Table__leave) := ⟨rfl, rfl, rfl, by decide +kernel, rfl, by decide +kernel, by decide +kernel⟩
theorem k_Table__leave (c : SaM ck fa fn K) : ∃ fd, DOk (gm K) T nm K 29 d_Table__leave fd := by
  obtain ⟨fd, F⟩ := c.def_ 29 (d := D_Table__leave) rfl
  exact ⟨fd, ⟨_, _, _, _, _, ⟨_, _, F⟩, S_Table__leave, .inl c_Table__leave⟩, F.bindsN fun _ _ _ _ _ _ us hl => match us, hl with | [_, _], _ => rfl, F.kp, dfl_none (by decide)⟩
theorem c_Table__bucket_in : chkSs T nm (d_Table__bucket_in.fx (defScope s_Table__bucket_in)) d_Table__bucket_in.body (defBody s_Table__bucket_in) = true := by decide +kernel
theorem S_Table__bucket_in : FnScope d_Table__bucket_in.N d_Table__bucket_in.ps (defScope s_Table__bucket_in) := ⟨rfl, rfl, rfl, by decide +kernel, rfl, by decide +kernel, by decide +kernel⟩
theorem k_Table__bucket_in (c : SaM ck fa fn K) : ∃ fd, DOk (gm K) T nm K 30 d_Table__bucket_in fd := by
  obtain ⟨fd, F⟩ := c.def_ 30 (d := D_Table__bucket_in) rfl
  exact ⟨fd, ⟨_, _, _, _, _, ⟨_, _, F⟩, S_Table__bucket_in, .inl c_Table__bucket_in⟩, F.bindsN fun _ _ _ _ _ _ us hl => match us, hl with | [_, _, _], _ => rfl, F.kp, dfl_none (by decide)⟩
theorem c_Table__pair_of : chkSs T nm (d_Table__pair_of.fx (defScope s_Table__pair_of)) d_Table__pair_of.body (defBody s_Table__pair_of) = true := by decide +kernel
theorem S_Table__pair_of : FnScope d_Table__pair_of.N d_Table__pair_of.ps (defScope s_Table__pair_of) := ⟨rfl, rfl, rfl, by decide +kernel, rfl, by decide +kernel, by decide +kernel⟩
theorem k_Table__pair_of (c : SaM ck fa fn K) : ∃ fd, DOk (gm K) T nm K 31 d_Table__pair_of fd := by
  obtain ⟨fd, F⟩ := c.def_ 31 (d := D_Table__pair_of) rfl
  exact ⟨fd, ⟨_, _, _, _, _, ⟨_, _, F⟩, S_Table__pair_of, .inl c_Table__pair_of⟩, F.bindsN fun _ _ _ _ _ _ us hl => match us, hl with | [_, _], _ => rfl, F.kp, dfl_none (by decide)⟩
theorem c_Table__grow : chkSs T nm (d_Table__grow.fx (defScope s_Table__grow)) d_Table__grow.body (defBody s_Table__grow) = true := by decide +kernel
theorem S_Table__grow : FnScope d_Table__grow.N d_Table__grow.ps (defScope s_Table__grow) := ⟨rfl, rfl, rfl, by decide +kernel, rfl, by decide +kernel, by decide +kernel⟩
theorem k_Table__grow (c : SaM ck fa fn K) : ∃ fd, DOk (gm K) T nm K 32 d_Table__grow fd := by
  obtain ⟨fd, F⟩ := c.def_ 32 (d := D_Table__grow) rfl
  exact ⟨fd, ⟨_, _, _, _, _, ⟨_, _, F⟩, S_Table__grow, .inl c_Table__grow⟩, F.bindsN fun _ _ _ _ _ _ us hl => match us, hl with | [_], _ => rfl, F.kp, dfl_none (by decide)⟩
theorem c_Table__shrink : chkSs T nm (d_Table__shrink.fx (defScope s_Table__shrink)) d_Table__shrink.body (defBody s_Table__shrink) = true := by decide +kernel
theorem S_Table__shrink : FnScope d_Table__shrink.N d_Table__shrink.ps (defScope s_Table__shrink) := ⟨rfl, rfl, rfl, by decide +kernel, rfl, by decide +kernel, by decide +kernel⟩
theorem k_Table__shrink (c : SaM ck fa fn K) : ∃ fd, DOk (gm K) T nm K 33 d_Table__shrink fd := by
  obtain ⟨fd, F⟩ := c.def_ 33 (d := D_Table__shrink) rfl
  exact ⟨fd, ⟨_, _, _, _, _, ⟨_, _, F⟩, S_Table__shrink, .inl c_Table__shrink⟩, F.bindsN fun _ _ _ _ _ _ us hl => match us, hl with | [_], _ => rfl, F.kp, dfl_none (by decide)⟩
theorem c__empty_buckets : chkSs T nm (d__empty_buckets.fx (defScope s__empty_buckets)) d__empty_buckets.body (defBody s__empty_buckets) = true := by decide +kernel
theorem S__empty_buckets : FnScope d__empty_buckets.N d__empty_buckets.ps (defScope s__empty_buckets) := ⟨rfl, rfl, rfl, by decide +kernel, rfl, by decide +kernel, by decide +kernel⟩
theorem k__empty_buckets (c : SaM ck fa fn K) : ∃ fd, DOk (gm K) T nm K 34 d__empty_buckets fd := by
  obtain ⟨fd, F⟩ := c.def_ 34 (d := D__empty_buckets) rfl
  exact ⟨fd, ⟨_, _, _, _, _, ⟨_, _, F⟩, S__empty_buckets, .inl c__empty_buckets⟩, F.bindsN fun _ _ _ _ _ _ us hl => match us, hl with | [_], _ => rfl, F.kp, dfl_none (by decide)⟩
theorem c__buckets_for : chkSs T nm (d__buckets_for.fx (defScope s__buckets_for)) d__buckets_for.body (defBody s__buckets_for) = true := by decide +kernel
theorem S__buckets_for : FnScope d__buckets_for.N d__buckets_for.ps (defScope s__buckets_for) := ⟨rfl, rfl, rfl, by decide +kernel, rfl, by decide +kernel, by decide +kernel⟩
theorem k__buckets_for (c : SaM ck fa fn K) : ∃ fd, DOk (gm K) T nm K 35 d__buckets_for fd := by
  obtain ⟨fd, F⟩ := c.def_ 35 (d := D__buckets_for) rfl
  exact ⟨fd, ⟨_, _, _, _, _, ⟨_, _, F⟩, S__buckets_for, .inl c__buckets_for⟩, F.bindsN fun _ _ _ _ _ _ us hl => match us, hl with | [_], _ => rfl, F.kp, dfl_none (by decide)⟩
theorem c__first_place : chkSs T nm (d__first_place.fx (defScope s__first_place)) d__first_place.body (defBody s__first_place) = true := by decide +kernel
theorem S__first_place : FnScope d__first_place.N d__first_place.ps (defScope s__first_place) := ⟨rfl, rfl, rfl, by decide +kernel, rfl, by decide +kernel, by decide +kernel⟩
theorem k__first_place (c : SaM ck fa fn K) : ∃ fd, DOk (gm K) T nm K 36 d__first_place fd := by
  obtain ⟨fd, F⟩ := c.def_ 36 (d := D__first_place) rfl
  exact ⟨fd, ⟨_, _, _, _, _, ⟨_, _, F⟩, S__first_place, .inl c__first_place⟩, F.bindsN fun _ _ _ _ _ _ us hl => match us, hl with | [_, _], _ => rfl, F.kp, dfl_none (by decide)⟩
theorem c__law_dice : chkSs T nm (d__law_dice.fx (defScope s__law_dice)) d__law_dice.body (defBody s__law_dice) = true := by decide +kernel
theorem S__law_dice : FnScope d__law_dice.N d__law_dice.ps (defScope s__law_dice) := ⟨rfl, rfl, rfl, by decide +kernel, rfl, by decide +kernel, by decide +kernel⟩
theorem k__law_dice (c : SaM ck fa fn K) : ∃ fd, DOk (gm K) T nm K 37 d__law_dice fd := by
  obtain ⟨fd, F⟩ := c.def_ 37 (d := D__law_dice) rfl
  exact ⟨fd, ⟨_, _, _, _, _, ⟨_, _, F⟩, S__law_dice, .inl c__law_dice⟩, F.bindsN fun _ _ _ _ _ _ us hl => match us, hl with | [_, _], _ => rfl, F.kp, dfl_none (by decide)⟩
theorem c__law_roll : chkSs T nm (d__law_roll.fx (defScope s__law_roll)) d__law_roll.body (defBody s__law_roll) = true := by decide +kernel
theorem S__law_roll : FnScope d__law_roll.N d__law_roll.ps (defScope s__law_roll) := ⟨rfl, rfl, rfl, by decide +kernel, rfl, by decide +kernel, by decide +kernel⟩
theorem k__law_roll (c : SaM ck fa fn K) : ∃ fd, DOk (gm K) T nm K 38 d__law_roll fd := by
  obtain ⟨fd, F⟩ := c.def_ 38 (d := D__law_roll) rfl
  exact ⟨fd, ⟨_, _, _, _, _, ⟨_, _, F⟩, S__law_roll, .inl c__law_roll⟩, F.bindsN fun _ _ _ _ _ _ us hl => match us, hl with | [_, _], _ => rfl, F.kp, dfl_none (by decide)⟩
theorem c__law_one_of : chkSs T nm (d__law_one_of.fx (defScope s__law_one_of)) d__law_one_of.body (defBody s__law_one_of) = true := by decide +kernel
theorem S__law_one_of : FnScope d__law_one_of.N d__law_one_of.ps (defScope s__law_one_of) := ⟨rfl, rfl, rfl, by decide +kernel, rfl, by decide +kernel, by decide +kernel⟩
theorem k__law_one_of (c : SaM ck fa fn K) : ∃ fd, DOk (gm K) T nm K 39 d__law_one_of fd := by
  obtain ⟨fd, F⟩ := c.def_ 39 (d := D__law_one_of) rfl
  exact ⟨fd, ⟨_, _, _, _, _, ⟨_, _, F⟩, S__law_one_of, .inl c__law_one_of⟩, F.bindsN fun _ _ _ _ _ _ us hl => match us, hl with | [_, _], _ => rfl, F.kp, dfl_none (by decide)⟩
theorem c__law_mixed : chkSs T nm (d__law_mixed.fx (defScope s__law_mixed)) d__law_mixed.body (defBody s__law_mixed) = true := by decide +kernel
theorem S__law_mixed : FnScope d__law_mixed.N d__law_mixed.ps (defScope s__law_mixed) := ⟨rfl, rfl, rfl, by decide +kernel, rfl, by decide +kernel, by decide +kernel⟩
theorem k__law_mixed (c : SaM ck fa fn K) : ∃ fd, DOk (gm K) T nm K 40 d__law_mixed fd := by
  obtain ⟨fd, F⟩ := c.def_ 40 (d := D__law_mixed) rfl
  exact ⟨fd, ⟨_, _, _, _, _, ⟨_, _, F⟩, S__law_mixed, .inl c__law_mixed⟩, F.bindsN fun _ _ _ _ _ _ us hl => match us, hl with | [_, _], _ => rfl, F.kp, dfl_none (by decide)⟩
theorem c__law_hash : chkSs T nm (d__law_hash.fx (defScope s__law_hash)) d__law_hash.body (defBody s__law_hash) = true := by decide +kernel
theorem S__law_hash : FnScope d__law_hash.N d__law_hash.ps (defScope s__law_hash) := ⟨rfl, rfl, rfl, by decide +kernel, rfl, by decide +kernel, by decide +kernel⟩
theorem k__law_hash (c : SaM ck fa fn K) : ∃ fd, DOk (gm K) T nm K 41 d__law_hash fd := by
  obtain ⟨fd, F⟩ := c.def_ 41 (d := D__law_hash) rfl
  exact ⟨fd, ⟨_, _, _, _, _, ⟨_, _, F⟩, S__law_hash, .inl c__law_hash⟩, F.bindsN fun _ _ _ _ _ _ us hl => match us, hl with | [_], _ => rfl, F.kp, dfl_none (by decide)⟩
theorem c__law_few : chkSs T nm (d__law_few.fx (defScope s__law_few)) d__law_few.body (defBody s__law_few) = true := by decide +kernel
theorem S__law_few : FnScope d__law_few.N d__law_few.ps (defScope s__law_few) := ⟨rfl, rfl, rfl, by decide +kernel, rfl, by decide +kernel, by decide +kernel⟩
theorem k__law_few (c : SaM ck fa fn K) : ∃ fd, DOk (gm K) T nm K 42 d__law_few fd := by
  obtain ⟨fd, F⟩ := c.def_ 42 (d := D__law_few) rfl
  exact ⟨fd, ⟨_, _, _, _, _, ⟨_, _, F⟩, S__law_few, .inl c__law_few⟩, F.bindsN fun _ _ _ _ _ _ us hl => match us, hl with | [_], _ => rfl, F.kp, dfl_none (by decide)⟩
theorem c__law_pairs : chkSs T nm (d__law_pairs.fx (defScope s__law_pairs)) d__law_pairs.body (defBody s__law_pairs) = true := by decide +kernel
theorem S__law_pairs : FnScope d__law_pairs.N d__law_pairs.ps (defScope s__law_pairs) := ⟨rfl, rfl, rfl, by decide +kernel, rfl, by decide +kernel, by decide +kernel⟩
theorem k__law_pairs (c : SaM ck fa fn K) : ∃ fd, DOk (gm K) T nm K 43 d__law_pairs fd := by
  obtain ⟨fd, F⟩ := c.def_ 43 (d := D__law_pairs) rfl
  exact ⟨fd, ⟨_, _, _, _, _, ⟨_, _, F⟩, S__law_pairs, .inl c__law_pairs⟩, F.bindsN fun _ _ _ _ _ _ us hl => match us, hl with | [_], _ => rfl, F.kp, dfl_none (by decide)⟩
theorem c__law_hash_by : chkSs T nm (d__law_hash_by.fx (defScope s__law_hash_by)) d__law_hash_by.body (defBody s__law_hash_by) = true := by decide +kernel
theorem S__law_hash_by : FnScope d__law_hash_by.N d__law_hash_by.ps (defScope s__law_hash_by) := ⟨rfl, rfl, rfl, by decide +kernel, rfl, by decide +kernel, by decide +kernel⟩
theorem k__law_hash_by (c : SaM ck fa fn K) : ∃ fd, DOk (gm K) T nm K 44 d__law_hash_by fd := by
  obtain ⟨fd, F⟩ := c.def_ 44 (d := D__law_hash_by) rfl
  exact ⟨fd, ⟨_, _, _, _, _, ⟨_, _, F⟩, S__law_hash_by, .inl c__law_hash_by⟩, F.bindsN fun _ _ _ _ _ _ us hl => match us, hl with | [_, _], _ => rfl, F.kp, dfl_none (by decide)⟩
theorem c__law_made : chkSs T nm (d__law_made.fx (defScope s__law_made)) d__law_made.body (defBody s__law_made) = true := by decide +kernel
theorem S__law_made : FnScope d__law_made.N d__law_made.ps (defScope s__law_made) := ⟨rfl, rfl, rfl, by decide +kernel, rfl, by decide +kernel, by decide +kernel⟩
theorem k__law_made (c : SaM ck fa fn K) : ∃ fd, DOk (gm K) T nm K 45 d__law_made fd := by
  obtain ⟨fd, F⟩ := c.def_ 45 (d := D__law_made) rfl
  exact ⟨fd, ⟨_, _, _, _, _, ⟨_, _, F⟩, S__law_made, .inl c__law_made⟩, F.bindsN fun _ _ _ _ _ _ us hl => match us, hl with | [_], _ => rfl, F.kp, dfl_none (by decide)⟩
theorem c__law_spot : chkSs T nm (d__law_spot.fx (defScope s__law_spot)) d__law_spot.body (defBody s__law_spot) = true := by decide +kernel
theorem S__law_spot : FnScope d__law_spot.N d__law_spot.ps (defScope s__law_spot) := ⟨rfl, rfl, rfl, by decide +kernel, rfl, by decide +kernel, by decide +kernel⟩
theorem k__law_spot (c : SaM ck fa fn K) : ∃ fd, DOk (gm K) T nm K 46 d__law_spot fd := by
  obtain ⟨fd, F⟩ := c.def_ 46 (d := D__law_spot) rfl
  exact ⟨fd, ⟨_, _, _, _, _, ⟨_, _, F⟩, S__law_spot, .inl c__law_spot⟩, F.bindsN fun _ _ _ _ _ _ us hl => match us, hl with | [_], _ => rfl, F.kp, dfl_none (by decide)⟩
theorem c__law_rows : chkSs T nm (d__law_rows.fx (defScope s__law_rows)) d__law_rows.body (defBody s__law_rows) = true := by decide +kernel
theorem S__law_rows : FnScope d__law_rows.N d__law_rows.ps (defScope s__law_rows) := ⟨rfl, rfl, rfl, by decide +kernel, rfl, by decide +kernel, by decide +kernel⟩
theorem k__law_rows (c : SaM ck fa fn K) : ∃ fd, DOk (gm K) T nm K 47 d__law_rows fd := by
  obtain ⟨fd, F⟩ := c.def_ 47 (d := D__law_rows) rfl
  exact ⟨fd, ⟨_, _, _, _, _, ⟨_, _, F⟩, S__law_rows, .inl c__law_rows⟩, F.bindsN fun _ _ _ _ _ _ us hl => match us, hl with | [_], _ => rfl, F.kp, dfl_none (by decide)⟩
theorem c__law_due : chkSs T nm (d__law_due.fx (defScope s__law_due)) d__law_due.body (defBody s__law_due) = true := by decide +kernel
theorem S__law_due : FnScope d__law_due.N d__law_due.ps (defScope s__law_due) := ⟨rfl, rfl, rfl, by decide +kernel, rfl, by decide +kernel, by decide +kernel⟩
theorem k__law_due (c : SaM ck fa fn K) : ∃ fd, DOk (gm K) T nm K 48 d__law_due fd := by
  obtain ⟨fd, F⟩ := c.def_ 48 (d := D__law_due) rfl
  exact ⟨fd, ⟨_, _, _, _, _, ⟨_, _, F⟩, S__law_due, .inl c__law_due⟩, F.bindsN fun _ _ _ _ _ _ us hl => match us, hl with | [_, _, _, _], _ => rfl, F.kp, dfl_none (by decide)⟩
theorem c__law_changed : chkSs T nm (d__law_changed.fx (defScope s__law_changed)) d__law_changed.body (defBody s__law_changed) = true := by decide +kernel
theorem S__law_changed : FnScope d__law_changed.N d__law_changed.ps (defScope s__law_changed) := ⟨rfl, rfl, rfl, by decide +kernel, rfl, by decide +kernel, by decide +kernel⟩
theorem k__law_changed (c : SaM ck fa fn K) : ∃ fd, DOk (gm K) T nm K 49 d__law_changed fd := by
  obtain ⟨fd, F⟩ := c.def_ 49 (d := D__law_changed) rfl
  exact ⟨fd, ⟨_, _, _, _, _, ⟨_, _, F⟩, S__law_changed, .inl c__law_changed⟩, F.bindsN fun _ _ _ _ _ _ us hl => match us, hl with | [_, _, _, _], _ => rfl, F.kp, dfl_none (by decide)⟩
theorem c__law_scan_right : chkSs T nm (d__law_scan_right.fx (defScope s__law_scan_right)) d__law_scan_right.body (defBody s__law_scan_right) = true := by decide +kernel
theorem S__law_scan_right : FnScope d__law_scan_right.N d__law_scan_right.ps (defScope s__law_scan_right) := ⟨rfl, rfl, rfl, by decide +kernel, rfl, by decide +kernel, by decide +kernel⟩
theorem k__law_scan_right (c : SaM ck fa fn K) : ∃ fd, DOk (gm K) T nm K 50 d__law_scan_right fd := by
  obtain ⟨fd, F⟩ := c.def_ 50 (d := D__law_scan_right) rfl
  exact ⟨fd, ⟨_, _, _, _, _, ⟨_, _, F⟩, S__law_scan_right, .inl c__law_scan_right⟩, F.bindsN fun _ _ _ _ _ _ us hl => match us, hl with | [_, _, _, _], _ => rfl, F.kp, dfl_none (by decide)⟩
theorem c__law_still_right : chkSs T nm (d__law_still_right.fx (defScope s__law_still_right)) d__law_still_right.body (defBody s__law_still_right) = true := by decide +kernel
theorem S__law_still_right : FnScope d__law_still_right.N d__law_still_right.ps (defScope s__law_still_right) := ⟨rfl, rfl, rfl, by decide +kernel, rfl, by decide +kernel, by decide +kernel⟩
theorem k__law_still_right (c : SaM ck fa fn K) : ∃ fd, DOk (gm K) T nm K 51 d__law_still_right fd := by
  obtain ⟨fd, F⟩ := c.def_ 51 (d := D__law_still_right) rfl
  exact ⟨fd, ⟨_, _, _, _, _, ⟨_, _, F⟩, S__law_still_right, .inl c__law_still_right⟩, F.bindsN fun _ _ _ _ _ _ us hl => match us, hl with | [_, _, _, _], _ => rfl, F.kp, dfl_none (by decide)⟩
theorem c__law_right : chkSs T nm (d__law_right.fx (defScope s__law_right)) d__law_right.body (defBody s__law_right) = true := by decide +kernel
theorem S__law_right : FnScope d__law_right.N d__law_right.ps (defScope s__law_right) := ⟨rfl, rfl, rfl, by decide +kernel, rfl, by decide +kernel, by decide +kernel⟩
theorem k__law_right (c : SaM ck fa fn K) : ∃ fd, DOk (gm K) T nm K 52 d__law_right fd := by
  obtain ⟨fd, F⟩ := c.def_ 52 (d := D__law_right) rfl
  exact ⟨fd, ⟨_, _, _, _, _, ⟨_, _, F⟩, S__law_right, .inl c__law_right⟩, F.bindsN fun _ _ _ _ _ _ us hl => match us, hl with | [_], _ => rfl, F.kp, dfl_none (by decide)⟩
theorem c_law : chkSs T nm (d_law.fx (defScope s_law)) d_law.body (defBody s_law) = true := by decide +kernel
theorem S_law : FnScope d_law.N d_law.ps (defScope s_law) := ⟨rfl, rfl, rfl, by decide +kernel, rfl, by decide +kernel, by decide +kernel⟩
theorem k_law (c : SaM ck fa fn K) : ∃ fd, DOk (gm K) T nm K 53 d_law fd := by
  obtain ⟨fd, F⟩ := c.def_ 53 (d := D_law) rfl
  exact ⟨fd, ⟨_, _, _, _, _, ⟨_, _, F⟩, S_law, .inl c_law⟩, F.bindsN fun _ _ _ _ _ _ us hl => match us, hl with | [_], _ => rfl, F.kp, dfl_none (by decide)⟩
theorem dok (c : SaM ck fa fn K) : ∀ i d, defs[i]? = some d → ∃ fd, DOk (gm K) T nm K i d fd
  | 0, _, e => by cases e; exact k__wall c
  | 1, _, e => by cases e; exact k_is_within c
  | 2, _, e => by cases e; exact k_is_count c
  | 3, _, e => by cases e; exact k_is_printed c
  | 4, _, e => by cases e; exact k_is_text c
  | 5, _, e => by cases e; exact k_check_text c
  | 6, _, e => by cases e; exact k_check_within c
  | 7, _, e => by cases e; exact k_check_count c
  | 8, _, e => by cases e; exact k_hash_of c
  | 9, _, e => by cases e; exact k_reversed_bits c
  | 10, _, e => by cases e; exact k__check_bits c
  | 11, _, e => by cases e; exact k_Kept_twin c
  | 12, _, e => by cases e; exact k_copied c
  | 13, _, e => by cases e; exact k_Table_DinitD c
  | 14, _, e => by cases e; exact k_Table_put c
  | 15, _, e => by cases e; exact k_Table_get c
  | 16, _, e => by cases e; exact k_Table_take c
  | 17, _, e => by cases e; exact k_Table_scan c
  | 18, _, e => by cases e; exact k_Table_all_names c
  | 19, _, e => by cases e; exact k_Table_all_items c
  | 20, _, e => by cases e; exact k_Table_counts c
  | 21, _, e => by cases e; exact k_Table_rows c
  | 22, _, e => by cases e; exact k_Table_twin c
  | 23, _, e => by cases e; exact k_Table_DcontainsD c
  | 24, _, e => by cases e; exact k_Table_DlenD c
  | 25, _, e => by cases e; exact k_Table_DeqD c
  | 26, _, e => by cases e; exact k_Table__held_items c
  | 27, _, e => by cases e; exact k_Table__step c
  | 28, _, e => by cases e; exact k_Table__enter c
  | 29, _, e => by cases e; exact k_Table__leave c
  | 30, _, e => by cases e; exact k_Table__bucket_in c
  | 31, _, e => by cases e; exact k_Table__pair_of c
  | 32, _, e => by cases e; exact k_Table__grow c
  | 33, _, e => by cases e; exact k_Table__shrink c
  | 34, _, e => by cases e; exact k__empty_buckets c
  | 35, _, e => by cases e; exact k__buckets_for c
  | 36, _, e => by cases e; exact k__first_place c
  | 37, _, e => by cases e; exact k__law_dice c
  | 38, _, e => by cases e; exact k__law_roll c
  | 39, _, e => by cases e; exact k__law_one_of c
  | 40, _, e => by cases e; exact k__law_mixed c
  | 41, _, e => by cases e; exact k__law_hash c
  | 42, _, e => by cases e; exact k__law_few c
  | 43, _, e => by cases e; exact k__law_pairs c
  | 44, _, e => by cases e; exact k__law_hash_by c
  | 45, _, e => by cases e; exact k__law_made c
  | 46, _, e => by cases e; exact k__law_spot c
  | 47, _, e => by cases e; exact k__law_rows c
  | 48, _, e => by cases e; exact k__law_due c
  | 49, _, e => by cases e; exact k__law_changed c
  | 50, _, e => by cases e; exact k__law_scan_right c
  | 51, _, e => by cases e; exact k__law_still_right c
  | 52, _, e => by cases e; exact k__law_right c
  | 53, _, e => by cases e; exact k_law c
  | n + 54, _, e => by simp [defs] at e
theorem gls (X : K.In h) (G : h.Ns mainGlobals mg) (c : SaM ck fa fn K) : ∀ (g : Nat) (x : Str) (v : PV), nm.gn[g]? = some x → T.glob[g]? = some v → ∃ u, mg x = some u ∧ RelG (gm K) v u
  | 0, _, _, e1, e2 => by cases e1; cases e2; exact ⟨_, He.glo_ok X G (c.fact 0 (f := .glo "_wall") rfl), .ref _, rfl, fun as H => by unfold RepV; rfl⟩
  | 1, _, _, e1, e2 => by cases e1; cases e2; exact ⟨_, He.glo_ok X G (c.fact 1 (f := .glo "is_within") rfl), .ref _, rfl, fun as H => by unfold RepV; rfl⟩
  | 2, _, _, e1, e2 => by cases e1; cases e2; exact ⟨_, He.glo_ok X G (c.fact 2 (f := .glo "is_count") rfl), .ref _, rfl, fun as H => by unfold RepV; rfl⟩
  | 3, _, _, e1, e2 => by cases e1; cases e2; exact ⟨_, He.glo_ok X G (c.fact 3 (f := .glo "is_printed") rfl), .ref _, rfl, fun as H => by unfold RepV; rfl⟩
  | 4, _, _, e1, e2 => by cases e1; cases e2; exact ⟨_, He.glo_ok X G (c.fact 4 (f := .glo "is_text") rfl), .ref _, rfl, fun as H => by unfold RepV; rfl⟩
  | 5, _, _, e1, e2 => by cases e1; cases e2; exact ⟨_, He.glo_ok X G (c.fact 5 (f := .glo "check_text") rfl), .ref _, rfl, fun as H => by unfold RepV; rfl⟩
  | 6, _, _, e1, e2 => by cases e1; cases e2; exact ⟨_, He.glo_ok X G (c.fact 6 (f := .glo "check_within") rfl), .ref _, rfl, fun as H => by unfold RepV; rfl⟩
  | 7, _, _, e1, e2 => by cases e1; cases e2; exact ⟨_, He.glo_ok X G (c.fact 7 (f := .glo "check_count") rfl), .ref _, rfl, fun as H => by unfold RepV; rfl⟩
  | 8, _, _, e1, e2 => by cases e1; cases e2; exact ⟨_, He.glo_ok X G (c.fact 8 (f := .glo "hash_of") rfl), .ref _, rfl, fun as H => by unfold RepV; rfl⟩
  | 9, _, _, e1, e2 => by cases e1; cases e2; exact ⟨_, He.glo_ok X G (c.fact 9 (f := .glo "reversed_bits") rfl), .ref _, rfl, fun as H => by unfold RepV; rfl⟩
  | 10, _, _, e1, e2 => by cases e1; cases e2; exact ⟨_, He.glo_ok X G (c.fact 10 (f := .glo "_check_bits") rfl), .ref _, rfl, fun as H => by unfold RepV; rfl⟩
  | 11, _, _, e1, e2 => by cases e1; cases e2; exact ⟨_, He.glo_ok X G (c.fact 11 (f := .glo "copied") rfl), .ref _, rfl, fun as H => by unfold RepV; rfl⟩
  | 12, _, _, e1, e2 => by cases e1; cases e2; exact ⟨_, He.glo_ok X G (c.fact 12 (f := .glo "_empty_buckets") rfl), .ref _, rfl, fun as H => by unfold RepV; rfl⟩
  | 13, _, _, e1, e2 => by cases e1; cases e2; exact ⟨_, He.glo_ok X G (c.fact 13 (f := .glo "_buckets_for") rfl), .ref _, rfl, fun as H => by unfold RepV; rfl⟩
  | 14, _, _, e1, e2 => by cases e1; cases e2; exact ⟨_, He.glo_ok X G (c.fact 14 (f := .glo "_first_place") rfl), .ref _, rfl, fun as H => by unfold RepV; rfl⟩
  | 15, _, _, e1, e2 => by cases e1; cases e2; exact ⟨_, He.glo_ok X G (c.fact 15 (f := .glo "_law_dice") rfl), .ref _, rfl, fun as H => by unfold RepV; rfl⟩
  | 16, _, _, e1, e2 => by cases e1; cases e2; exact ⟨_, He.glo_ok X G (c.fact 16 (f := .glo "_law_roll") rfl), .ref _, rfl, fun as H => by unfold RepV; rfl⟩
  | 17, _, _, e1, e2 => by cases e1; cases e2; exact ⟨_, He.glo_ok X G (c.fact 17 (f := .glo "_law_one_of") rfl), .ref _, rfl, fun as H => by unfold RepV; rfl⟩
  | 18, _, _, e1, e2 => by cases e1; cases e2; exact ⟨_, He.glo_ok X G (c.fact 18 (f := .glo "_law_mixed") rfl), .ref _, rfl, fun as H => by unfold RepV; rfl⟩
  | 19, _, _, e1, e2 => by cases e1; cases e2; exact ⟨_, He.glo_ok X G (c.fact 19 (f := .glo "_law_hash") rfl), .ref _, rfl, fun as H => by unfold RepV; rfl⟩
  | 20, _, _, e1, e2 => by cases e1; cases e2; exact ⟨_, He.glo_ok X G (c.fact 20 (f := .glo "_law_few") rfl), .ref _, rfl, fun as H => by unfold RepV; rfl⟩
  | 21, _, _, e1, e2 => by cases e1; cases e2; exact ⟨_, He.glo_ok X G (c.fact 21 (f := .glo "_law_pairs") rfl), .ref _, rfl, fun as H => by unfold RepV; rfl⟩
  | 22, _, _, e1, e2 => by cases e1; cases e2; exact ⟨_, He.glo_ok X G (c.fact 22 (f := .glo "_law_hash_by") rfl), .ref _, rfl, fun as H => by unfold RepV; rfl⟩
  | 23, _, _, e1, e2 => by cases e1; cases e2; exact ⟨_, He.glo_ok X G (c.fact 23 (f := .glo "_law_made") rfl), .ref _, rfl, fun as H => by unfold RepV; rfl⟩
  | 24, _, _, e1, e2 => by cases e1; cases e2; exact ⟨_, He.glo_ok X G (c.fact 24 (f := .glo "_law_spot") rfl), .ref _, rfl, fun as H => by unfold RepV; rfl⟩
  | 25, _, _, e1, e2 => by cases e1; cases e2; exact ⟨_, He.glo_ok X G (c.fact 25 (f := .glo "_law_rows") rfl), .ref _, rfl, fun as H => by unfold RepV; rfl⟩
  | 26, _, _, e1, e2 => by cases e1; cases e2; exact ⟨_, He.glo_ok X G (c.fact 26 (f := .glo "_law_due") rfl), .ref _, rfl, fun as H => by unfold RepV; rfl⟩
  | 27, _, _, e1, e2 => by cases e1; cases e2; exact ⟨_, He.glo_ok X G (c.fact 27 (f := .glo "_law_changed") rfl), .ref _, rfl, fun as H => by unfold RepV; rfl⟩
  | 28, _, _, e1, e2 => by cases e1; cases e2; exact ⟨_, He.glo_ok X G (c.fact 28 (f := .glo "_law_scan_right") rfl), .ref _, rfl, fun as H => by unfold RepV; rfl⟩
  | 29, _, _, e1, e2 => by cases e1; cases e2; exact ⟨_, He.glo_ok X G (c.fact 29 (f := .glo "_law_still_right") rfl), .ref _, rfl, fun as H => by unfold RepV; rfl⟩
  | 30, _, _, e1, e2 => by cases e1; cases e2; exact ⟨_, He.glo_ok X G (c.fact 30 (f := .glo "_law_right") rfl), .ref _, rfl, fun as H => by unfold RepV; rfl⟩
  | 31, _, _, e1, e2 => by cases e1; cases e2; exact ⟨_, He.glo_ok X G (c.fact 31 (f := .glo "law") rfl), .ref _, rfl, fun as H => by unfold RepV; rfl⟩
  | 32, _, _, e1, e2 => by cases e1; cases e2; exact ⟨_, He.glo_ok X G (c.fact 32 (f := .glo "Kept") rfl), .ref _, rfl, fun as H => by unfold RepV; rfl⟩
  | 33, _, _, e1, e2 => by cases e1; cases e2; exact ⟨_, He.glo_ok X G (c.fact 33 (f := .glo "Table") rfl), .ref _, rfl, fun as H => by unfold RepV; rfl⟩
  | 34, _, _, e1, e2 => by cases e1; cases e2; obtain ⟨t, e⟩ := He.int_ok X G (c.fact 34 (f := .int "MAX_TEXT" 200) rfl); exact ⟨_, e, .int _, ⟨t, rfl⟩, fun as H => .int _⟩
  | 35, _, _, e1, e2 => by cases e1; cases e2; obtain ⟨t, e⟩ := He.int_ok X G (c.fact 35 (f := .int "HASH_BITS" 16) rfl); exact ⟨_, e, .int _, ⟨t, rfl⟩, fun as H => .int _⟩
  | 36, _, _, e1, e2 => by cases e1; cases e2; obtain ⟨t, e⟩ := He.int_ok X G (c.fact 36 (f := .int "_HASH_MODULUS" 65536) rfl); exact ⟨_, e, .int _, ⟨t, rfl⟩, fun as H => .int _⟩
  | 37, _, _, e1, e2 => by cases e1; cases e2; obtain ⟨t, e⟩ := He.int_ok X G (c.fact 37 (f := .int "_MAX_BITS" 64) rfl); exact ⟨_, e, .int _, ⟨t, rfl⟩, fun as H => .int _⟩
  | 38, _, _, e1, e2 => by cases e1; cases e2; obtain ⟨t, e⟩ := He.int_ok X G (c.fact 38 (f := .int "_LEAST_BUCKETS" 4) rfl); exact ⟨_, e, .int _, ⟨t, rfl⟩, fun as H => .int _⟩
  | 39, _, _, e1, e2 => by cases e1; cases e2; obtain ⟨t, e⟩ := He.int_ok X G (c.fact 39 (f := .int "_MOST_BUCKETS" 65536) rfl); exact ⟨_, e, .int _, ⟨t, rfl⟩, fun as H => .int _⟩
  | 40, _, _, e1, e2 => by cases e1; cases e2; obtain ⟨t, e⟩ := He.int_ok X G (c.fact 40 (f := .int "_MAX_CURSOR" 65535) rfl); exact ⟨_, e, .int _, ⟨t, rfl⟩, fun as H => .int _⟩
  | 41, _, _, e1, e2 => by cases e1; cases e2; obtain ⟨t, e⟩ := He.int_ok X G (c.fact 41 (f := .int "_MAX_COUNT" 1000) rfl); exact ⟨_, e, .int _, ⟨t, rfl⟩, fun as H => .int _⟩
  | n + 42, _, _, e1, e2 => by simp [T] at e2
theorem bls (X : K.In h) (G : h.Ns mainGlobals mg) (c : SaM ck fa fn K) : ∀ f : Bi, mg f.nm = none
  | .len => He.free_ok X G (c.fact 42 (f := .free "len") rfl)
  | .abs => He.free_ok X G (c.fact 43 (f := .free "abs") rfl)
  | .max => He.free_ok X G (c.fact 44 (f := .free "max") rfl)
  | .min => He.free_ok X G (c.fact 45 (f := .free "min") rfl)
  | .int => He.free_ok X G (c.fact 46 (f := .free "int") rfl)
  | .str => He.free_ok X G (c.fact 47 (f := .free "str") rfl)
  | .bool => He.free_ok X G (c.fact 48 (f := .free "bool") rfl)
  | .list => He.free_ok X G (c.fact 49 (f := .free "list") rfl)
  | .tuple => He.free_ok X G (c.fact 50 (f := .free "tuple") rfl)
  | .sorted => He.free_ok X G (c.fact 51 (f := .free "sorted") rfl)
  | .sum => He.free_ok X G (c.fact 52 (f := .free "sum") rfl)
  | .any => He.free_ok X G (c.fact 53 (f := .free "any") rfl)
  | .all => He.free_ok X G (c.fact 54 (f := .free "all") rfl)
  | .ord => He.free_ok X G (c.fact 55 (f := .free "ord") rfl)
  | .isinst => He.free_ok X G (c.fact 56 (f := .free "isinstance") rfl)
  | .repr => He.free_ok X G (c.fact 57 (f := .free "repr") rfl)
  | .dict => He.free_ok X G (c.fact 58 (f := .free "dict") rfl)
theorem lts : ∀ (g f : Nat), T.glob[g]? = some (.fn f) → f < defs.length
  | 0, _, e => by cases e; decide
  | 1, _, e => by cases e; decide
  | 2, _, e => by cases e; decide
  | 3, _, e => by cases e; decide
  | 4, _, e => by cases e; decide
  | 5, _, e => by cases e; decide
  | 6, _, e => by cases e; decide
  | 7, _, e => by cases e; decide
  | 8, _, e => by cases e; decide
  | 9, _, e => by cases e; decide
  | 10, _, e => by cases e; decide
  | 11, _, e => by cases e; decide
  | 12, _, e => by cases e; decide
  | 13, _, e => by cases e; decide
  | 14, _, e => by cases e; decide
  | 15, _, e => by cases e; decide
  | 16, _, e => by cases e; decide
  | 17, _, e => by cases e; decide
  | 18, _, e => by cases e; decide
  | 19, _, e => by cases e; decide
  | 20, _, e => by cases e; decide
  | 21, _, e => by cases e; decide
  | 22, _, e => by cases e; decide
  | 23, _, e => by cases e; decide
  | 24, _, e => by cases e; decide
  | 25, _, e => by cases e; decide
  | 26, _, e => by cases e; decide
  | 27, _, e => by cases e; decide
  | 28, _, e => by cases e; decide
  | 29, _, e => by cases e; decide
  | 30, _, e => by cases e; decide
  | 31, _, e => by cases e; decide
  | 32, _, e => by cases e
  | 33, _, e => by cases e
  | 34, _, e => by cases e
  | 35, _, e => by cases e
  | 36, _, e => by cases e
  | 37, _, e => by cases e
  | 38, _, e => by cases e
  | 39, _, e => by cases e
  | 40, _, e => by cases e
  | 41, _, e => by cases e
  | n + 42, _, e => by simp [T] at e
theorem gok (X : K.In h) (G : h.Ns mainGlobals mg) (c : SaM ck fa fn K) : GOk (gm K) T nm defs K mg where
  K := rfl
  gl := gls X G c
  bl := bls X G c
  rng := He.free_ok X G (c.fact 59 (f := .free "range") rfl)
  enm := He.free_ok X G (c.fact 60 (f := .free "enumerate") rfl)
  zp := He.free_ok X G (c.fact 61 (f := .free "zip") rfl)
  rvs := He.free_ok X G (c.fact 62 (f := .free "reversed") rfl)
  sts := He.free_ok X G (c.fact 63 (f := .free "set") rfl)
  cls := cok_of c.all.1 anl_nd
  gnl := by decide
  an := rfl
  mlt := mlt_of (by decide +kernel)
  lt := lts
end
end K06
set_option Elab.async false
set_option linter.all false
set_option maxRecDepth 100000
set_option maxHeartbeats 2000000
namespace K06
open Mn
abbrev Tx := List Nat
def R : Nat → Nat → Nat
  | 0, _ => 0
  | b + 1, v => R b v * 2 + v / 2 ^ b % 2
theorem R_lt : ∀ b v, R b v < 2 ^ b
  | 0, _ => by simp [R]
  | b + 1, v => by
    have h := R_lt b v
    have h2 : v / 2 ^ b % 2 < 2 := Nat.mod_lt _ (by decide)
    unfold R
    rw [Nat.pow_succ]
    omega
def hsh (x : Tx) : Nat := x.foldl (fun c s => (c * 33 + s) % 65536) 0
def N20 : List Tx := [[], [97], [97, 98], [97, 99], [98, 66], [98], [99], [100], [101], [102], [103], [104], [105], [106], [107], [97, 97], [98, 98], [99, 99], [100, 100], [101, 101, 101]]
def IsN (x : Tx) : Prop := x ∈ N20
theorem IsN.all {p : Tx → Bool} (k : N20.all p = true) {x : Tx} (h : IsN x) : p x = true := List.all_eq_true.mp k x h
theorem IsN.len {x : Tx} (h : IsN x) : x.length ≤ 3 := of_decide_eq_true (h.all (p := fun t => decide (t.length ≤ 3)) (by decide +kernel))
def hs (s : Nat) (x : Tx) : Nat := if s = 1 then 257 * x.length else if s = 2 then hsh x / 2 * 2 else hsh x
theorem hsh_lt_go : ∀ (x : Tx) (c : Nat), c < 65536 → x.foldl (fun c s => (c * 33 + s) % 65536) c < 65536
  | [], c, h => h
  | a :: x, c, h => hsh_lt_go x _ (Nat.mod_lt _ (by decide))
theorem hsh_lt (x : Tx) : hsh x < 65536 := hsh_lt_go x 0 (by decide)
theorem hs_lt {s : Nat} {x : Tx} (h : IsN x) : hs s x < 65536 := by
  have := h.len
  have := hsh_lt x
  unfold hs
  split
  · omega
  · split <;> omega
def sp (s : Nat) (x : Tx) : Nat := R 16 (hs s x)
theorem sp_lt (s : Nat) (x : Tx) : sp s x < 65536 := R_lt 16 _
def pr (s : Nat) (x : Tx) : Int × List Nat := ((sp s x : Nat), x)
def rows (s : Nat) : List (Int × List Nat) := srtP (N20.map (pr s))
abbrev Srt (l : List (Int × List Nat)) : Prop := l.Pairwise (fun a b => lexP b a = false)
def place (l : List (Int × List Nat)) (p : Int × List Nat) : Nat := (l.filter fun q => lexP q p).length
theorem srt_split : ∀ {l : List (Int × List Nat)} (p : Int × List Nat), Srt l → (∀ q ∈ l.take (place l p), lexP q p = true) ∧ (∀ q ∈ l.drop (place l p), lexP q p = false) ∧ place l p ≤ l.length
  | [], p, _ => ⟨fun q h => by simp at h, fun q h => by simp at h, Nat.zero_le _⟩
  | a :: l, p, h => by
    obtain ⟨h1, h2⟩ := List.pairwise_cons.mp h
    obtain ⟨i1, i2, i3⟩ := srt_split p h2
    by_cases ha : lexP a p = true
    · have e : place (a :: l) p = place l p + 1 := by unfold place; rw [List.filter_cons_of_pos (by simpa using ha)]; rfl
      rw [e]
      refine ⟨fun q hq => ?_, fun q hq => i2 q hq, Nat.succ_le_succ i3⟩
      rw [List.take_succ_cons] at hq
      rcases List.mem_cons.mp hq with rfl | hq
      · exact ha
      · exact i1 q hq
    · have hall : ∀ q ∈ a :: l, lexP q p = false := fun q hq => by
        rcases List.mem_cons.mp hq with rfl | hq
        · simpa using ha
        · exact lexP_tr (by simpa using ha) (h1 q hq)
      have e : place (a :: l) p = 0 := by
        unfold place
        rw [List.filter_eq_nil_iff.mpr fun q hq => by simp [hall q hq]]
        rfl
      rw [e]
      exact ⟨fun q hq => by simp at hq, fun q hq => hall q (by simpa using hq), Nat.zero_le _⟩
theorem srt_get {l : List (Int × List Nat)} {p : Int × List Nat} (h : Srt l) {i : Nat} (hi : i < l.length) : lexP l[i] p = decide (i < place l p) := by
  obtain ⟨h1, h2, h3⟩ := srt_split p h
  by_cases hk : i < place l p
  · rw [decide_eq_true hk]
    exact h1 _ (List.mem_take_iff_getElem.mpr ⟨i, by omega, rfl⟩)
  · rw [decide_eq_false hk]
    refine h2 _ (List.mem_drop_iff_getElem.mpr ⟨i - place l p, by omega, ?_⟩)
    congr 1
    omega
theorem lexP_irr (p : Int × List Nat) : lexP p p = false := lexP_no.mpr (by rintro (h | ⟨_, h⟩); exact absurd h (Int.lt_irrefl _); exact absurd h (List.lt_irrefl _))
theorem srtP_of {l m : List (Int × List Nat)} (p : l.Perm m) (h : Srt l) : l = srtP m := srt_uniq (p.trans (srtP_perm m).symm) h (srtP_srt m)
theorem srtP_congr {l m : List (Int × List Nat)} (p : l.Perm m) : srtP l = srtP m := srtP_of ((srtP_perm l).trans p) (srtP_srt l)
theorem srt_ins {l : List (Int × List Nat)} (h : Srt l) (p : Int × List Nat) : Srt (l.take (place l p) ++ [p] ++ l.drop (place l p)) := by
  obtain ⟨h1, h2, h3⟩ := srt_split p h
  have hl := h
  rw [← List.take_append_drop (place l p) l] at hl
  obtain ⟨a1, a2, a3⟩ := List.pairwise_append.mp hl
  rw [List.append_assoc]
  refine List.pairwise_append.mpr ⟨a1, List.pairwise_cons.mpr ⟨fun b hb => h2 b hb, a2⟩, fun a ha b hb => ?_⟩
  rcases List.mem_cons.mp hb with rfl | hb
  · exact lexP_asym (h1 a ha)
  · exact a3 a ha b hb
theorem perm_ins {α : Type} (l : List α) (p : α) (k : Nat) : (l.take k ++ [p] ++ l.drop k).Perm (p :: l) := by
  have e : p :: l = p :: (l.take k ++ l.drop k) := by rw [List.take_append_drop]
  rw [e, List.append_assoc]
  exact List.perm_middle
theorem ord_ins {s : Nat} {ns : List Tx} {x : Tx} (l : List (Int × List Nat)) (hl : l = srtP (ns.map (pr s))) : l.take (place l (pr s x)) ++ [pr s x] ++ l.drop (place l (pr s x)) = srtP ((ns ++ [x]).map (pr s)) := by
  have h : Srt l := by rw [hl]; exact srtP_srt _
  refine srtP_of ((perm_ins l _ _).trans ?_) (srt_ins h _)
  rw [List.map_append]
  refine (List.Perm.cons _ ?_).trans (List.perm_append_singleton _ _).symm
  rw [hl]
  exact srtP_perm _
theorem place_at {l : List (Int × List Nat)} (h : Srt l) {p : Int × List Nat} (hp : p ∈ l) : ∃ hk : place l p < l.length, l[place l p] = p := by
  obtain ⟨i, hi, e⟩ := List.getElem_of_mem hp
  have g : lexP l[i] p = decide (i < place l p) := srt_get h hi
  rw [e, lexP_irr] at g
  have hle : place l p ≤ i := by simpa using g.symm
  have hk : place l p < l.length := by omega
  refine ⟨hk, ?_⟩
  have g2 : lexP l[place l p] p = false := by rw [srt_get h hk]; simp
  have g3 : lexP p l[place l p] = false := by
    rcases Nat.lt_or_ge (place l p) i with q | q
    · have := List.pairwise_iff_getElem.mp h _ _ hk hi q
      rw [e] at this
      exact this
    · have e2 : i = place l p := by omega
      subst e2
      rw [e]
      exact lexP_irr p
  rcases lexP_tot l[place l p] p with q | q | q
  · rw [g2] at q; cases q
  · exact q
  · rw [g3] at q; cases q
theorem perm_erase {α : Type} : ∀ (l : List α) (i : Nat) (h : i < l.length), (l[i] :: l.eraseIdx i).Perm l
  | a :: l, 0, _ => .refl _
  | a :: l, i + 1, h => (List.Perm.swap _ _ _).trans ((perm_erase l i (Nat.lt_of_succ_lt_succ h)).cons a)
theorem ord_del {s : Nat} {ns : List Tx} {x : Tx} (hx : x ∈ ns) (l : List (Int × List Nat)) (hl : l = srtP (ns.map (pr s))) : place l (pr s x) < l.length ∧ l.eraseIdx (place l (pr s x)) = srtP ((ns.erase x).map (pr s)) := by
  have h : Srt l := by rw [hl]; exact srtP_srt _
  have hm : pr s x ∈ l := by rw [hl]; exact (srtP_perm _).mem_iff.mpr (List.mem_map.mpr ⟨x, hx, rfl⟩)
  obtain ⟨hk, e⟩ := place_at h hm
  refine ⟨hk, srtP_of ?_ (h.sublist (List.eraseIdx_sublist _ _))⟩
  have p1 : l.Perm (pr s x :: l.eraseIdx (place l (pr s x))) := by
    have := perm_erase l _ hk
    rw [e] at this
    exact this.symm
  have p2 : l.Perm (pr s x :: (ns.erase x).map (pr s)) := by
    rw [hl]
    refine (srtP_perm _).trans ?_
    exact (List.perm_cons_erase hx).map (pr s)
  exact (p1.symm.trans p2).cons_inv
theorem nd_len {α : Type} [DecidableEq α] : ∀ {l m : List α}, l.Nodup → (∀ x ∈ l, x ∈ m) → l.length ≤ m.length
  | [], m, _, _ => Nat.zero_le _
  | a :: l, m, h, k => by
    obtain ⟨h1, h2⟩ := List.nodup_cons.mp h
    have hm : a ∈ m := k a (List.mem_cons_self ..)
    have := nd_len (l := l) (m := m.erase a) h2 fun x hx => (List.mem_erase_of_ne (fun e => h1 (by rw [← e]; exact hx))).mpr (k x (List.mem_cons_of_mem _ hx))
    rw [List.length_erase_of_mem hm] at this
    have : 0 < m.length := List.length_pos_of_mem hm
    simp only [List.length_cons]
    omega
theorem n20_len {l : List Tx} (h : l.Nodup) (k : ∀ x ∈ l, IsN x) : l.length ≤ 20 := nd_len h k
end K06
set_option Elab.async false
set_option linter.all false
set_option maxRecDepth 100000
set_option maxHeartbeats 2000000
namespace K06
open Mn
section
variable {α : Type}
theorem getD_lt {L : List (List α)} {i : Nat} (h : i < L.length) : L.getD i [] = L[i] := by rw [List.getD_eq_getElem?_getD, List.getElem?_eq_getElem h]; rfl
theorem getD_ge {L : List (List α)} {i : Nat} (h : L.length ≤ i) : L.getD i [] = [] := by rw [List.getD_eq_getElem?_getD, List.getElem?_eq_none h]; rfl
theorem getD_set {L : List (List α)} {i : Nat} (h : i < L.length) (b : List α) (j : Nat) : (L.set i b).getD j [] = if j = i then b else L.getD j [] := by
  rw [List.getD_eq_getElem?_getD, List.getD_eq_getElem?_getD]
  by_cases e : j = i
  · subst e
    rw [if_pos rfl, List.getElem?_set_self h]
    rfl
  · rw [if_neg e, List.getElem?_set_ne (fun q => e q.symm)]
theorem flat_set : ∀ (L : List (List α)) (i : Nat) (b : List α), i < L.length → ((L.set i b).flatten ++ L.getD i []).Perm (L.flatten ++ b)
  | c :: L, 0, b, _ => by
    show (b ++ L.flatten ++ c).Perm (c ++ L.flatten ++ b)
    refine List.perm_append_comm.trans ?_
    rw [List.append_assoc]
    exact List.Perm.append_left c List.perm_append_comm
  | c :: L, i + 1, b, h => by
    have ih := flat_set L i b (Nat.lt_of_succ_lt_succ h)
    show (c ++ (L.set i b).flatten ++ L.getD i []).Perm (c ++ L.flatten ++ b)
    rw [List.append_assoc, List.append_assoc]
    exact List.Perm.append_left c ih
theorem flat_mem {L : List (List α)} {x : α} : x ∈ L.flatten ↔ ∃ j, j < L.length ∧ x ∈ L.getD j [] := by
  rw [List.mem_flatten]
  constructor
  · rintro ⟨b, hb, hx⟩
    obtain ⟨j, hj, rfl⟩ := List.getElem_of_mem hb
    exact ⟨j, hj, by rw [getD_lt hj]; exact hx⟩
  · rintro ⟨j, hj, hx⟩
    rw [getD_lt hj] at hx
    exact ⟨_, List.getElem_mem hj, hx⟩
theorem cancel_r {a b c : List α} (h : (a ++ c).Perm (b ++ c)) : a.Perm b := (List.perm_append_right_iff c).mp h
end
def addB (H : Tx → Nat) (L : List (List Tx)) (x : Tx) : List (List Tx) := L.set (H x % L.length) (L.getD (H x % L.length) [] ++ [x])
def addAll (H : Tx → Nat) (L : List (List Tx)) (xs : List Tx) : List (List Tx) := xs.foldl (addB H) L
def At (H : Tx → Nat) (L : List (List Tx)) : Prop := ∀ j, ∀ x ∈ L.getD j [], H x % L.length = j
section
variable {H : Tx → Nat} {L : List (List Tx)}
theorem addB_len (x : Tx) : (addB H L x).length = L.length := by simp [addB]
theorem addB_pm (hl : 0 < L.length) (x : Tx) : (addB H L x).flatten.Perm (L.flatten ++ [x]) := by
  have h := flat_set L (H x % L.length) (L.getD (H x % L.length) [] ++ [x]) (Nat.mod_lt _ hl)
  refine cancel_r (c := L.getD (H x % L.length) []) (h.trans ?_)
  rw [List.append_assoc]
  exact List.Perm.append_left _ List.perm_append_comm
theorem addB_at (hl : 0 < L.length) (a : At H L) (x : Tx) : At H (addB H L x) := fun j y hy => by
  rw [addB_len]
  unfold addB at hy
  rw [getD_set (Nat.mod_lt _ hl)] at hy
  split at hy
  · rename_i e
    rcases List.mem_append.mp hy with hy | hy
    · rw [e]; exact a _ y hy
    · rw [List.mem_singleton.mp hy, e]
  · exact a j y hy
theorem addAll_len : ∀ (xs : List Tx) (L : List (List Tx)), (addAll H L xs).length = L.length
  | [], L => rfl
  | x :: xs, L => by
    show (addAll H (addB H L x) xs).length = _
    rw [addAll_len xs, addB_len]
theorem addAll_pm : ∀ (xs : List Tx) (L : List (List Tx)), 0 < L.length → (addAll H L xs).flatten.Perm (L.flatten ++ xs)
  | [], L, _ => by simp [addAll]
  | x :: xs, L, h => by
    show (addAll H (addB H L x) xs).flatten.Perm _
    refine (addAll_pm xs _ (by rw [addB_len]; exact h)).trans ?_
    refine ((addB_pm h x).append_right xs).trans ?_
    rw [List.append_assoc]
    exact .refl _
theorem addAll_at : ∀ (xs : List Tx) (L : List (List Tx)), 0 < L.length → At H L → At H (addAll H L xs)
  | [], L, _, a => a
  | x :: xs, L, h, a => addAll_at xs _ (by rw [addB_len]; exact h) (addB_at h a x)
end
structure TI (H : Tx → Nat) (B C : List (List Tx)) (mv : Nat) (ns : List Tx) : Prop where
  nd : ns.Nodup
  ok : ∀ x ∈ ns, IsN x
  pm : (B.flatten ++ C.flatten).Perm ns
  b0 : 4 ≤ B.length ∧ B.length ≤ 64
  c0 : C = [] ∨ (4 ≤ C.length ∧ C.length ≤ 64)
  atB : At H B
  atC : At H C
  mv0 : C = [] → mv = 0
  mv1 : C ≠ [] → mv < B.length ∧ ∀ j < mv, B.getD j [] = []
section
variable {H : Tx → Nat} {B C : List (List Tx)} {mv : Nat} {ns : List Tx}
theorem at_nil : At H [] := fun j x hx => by simp at hx
theorem TI.cl (t : TI H B C mv ns) (hC : C ≠ []) : 4 ≤ C.length ∧ C.length ≤ 64 := t.c0.resolve_left hC
theorem TI.bk (t : TI H B C mv ns) (j : Nat) : (B.getD j []).length ≤ 20 ∧ (C.getD j []).length ≤ 20 ∧ (∀ x ∈ B.getD j [], x ∈ ns) ∧ ∀ x ∈ C.getD j [], x ∈ ns := by
  have nB : ∀ j, ∀ x ∈ B.getD j [], x ∈ ns := fun j x hx => t.pm.mem_iff.mp (List.mem_append_left _ (flat_mem.mpr ⟨j, by
    rcases Nat.lt_or_ge j B.length with q | q
    · exact q
    · rw [getD_ge q] at hx; simp at hx, hx⟩))
  have nC : ∀ j, ∀ x ∈ C.getD j [], x ∈ ns := fun j x hx => t.pm.mem_iff.mp (List.mem_append_right _ (flat_mem.mpr ⟨j, by
    rcases Nat.lt_or_ge j C.length with q | q
    · exact q
    · rw [getD_ge q] at hx; simp at hx, hx⟩))
  have nd : (B.flatten ++ C.flatten).Nodup := t.pm.nodup_iff.mpr t.nd
  have sB : (B.getD j []).Nodup := by
    rcases Nat.lt_or_ge j B.length with q | q
    · rw [getD_lt q]
      exact (List.nodup_append.mp nd).1.sublist (List.sublist_flatten_of_mem (List.getElem_mem q))
    · rw [getD_ge q]; exact List.nodup_nil
  have sC : (C.getD j []).Nodup := by
    rcases Nat.lt_or_ge j C.length with q | q
    · rw [getD_lt q]
      exact (List.nodup_append.mp nd).2.1.sublist (List.sublist_flatten_of_mem (List.getElem_mem q))
    · rw [getD_ge q]; exact List.nodup_nil
  exact ⟨n20_len sB fun x hx => t.ok x (nB j x hx), n20_len sC fun x hx => t.ok x (nC j x hx), nB j, nC j⟩
theorem TI.init : TI H [[], [], [], []] [] 0 [] where
  nd := List.nodup_nil
  ok := fun x hx => by cases hx
  pm := .refl _
  b0 := by decide
  c0 := .inl rfl
  atB := fun j x hx => by
    have : ([[], [], [], []] : List (List Tx)).getD j [] = [] := by
      match j with
      | 0 | 1 | 2 | 3 => rfl
      | j + 4 => rfl
    rw [this] at hx
    cases hx
  atC := at_nil
  mv0 := fun _ => rfl
  mv1 := fun h => absurd rfl h
theorem TI.moved (t : TI H B C mv ns) (hC : C ≠ []) : (if mv + 1 = B.length then TI H (addAll H C (B.getD mv [])) [] 0 ns else TI H (B.set mv []) (addAll H C (B.getD mv [])) (mv + 1) ns) := by
  obtain ⟨m1, m2⟩ := t.mv1 hC
  have cl := t.cl hC
  have hc : 0 < C.length := by omega
  have p1 : ((B.set mv []).flatten ++ (addAll H C (B.getD mv [])).flatten).Perm ns := by
    refine (List.Perm.append_left _ (addAll_pm _ _ hc)).trans ?_
    refine List.Perm.trans ?_ t.pm
    have h := flat_set B mv [] m1
    rw [List.append_nil] at h
    refine List.Perm.trans ?_ (h.append_right C.flatten)
    rw [List.append_assoc]
    exact List.Perm.append_left _ List.perm_append_comm
  have a1 : At H (B.set mv []) := fun j x hx => by
    rw [List.length_set]
    rw [getD_set m1] at hx
    split at hx
    · cases hx
    · exact t.atB j x hx
  have a2 : At H (addAll H C (B.getD mv [])) := addAll_at _ _ hc t.atC
  have l2 : (addAll H C (B.getD mv [])).length = C.length := addAll_len _ _
  have e2 : ∀ j < mv + 1, (B.set mv []).getD j [] = [] := fun j hj => by
    rw [getD_set m1]
    split
    · rfl
    · exact m2 j (by omega)
  split
  · rename_i e
    have z : (B.set mv []).flatten = [] := List.flatten_eq_nil_iff.mpr fun b hb => by
      obtain ⟨j, hj, rfl⟩ := List.getElem_of_mem hb
      rw [List.length_set] at hj
      have := e2 j (by omega)
      rw [getD_lt (by simpa using hj)] at this
      exact this
    rw [z, List.nil_append] at p1
    exact ⟨t.nd, t.ok, by simpa using p1, by rw [l2]; exact cl, .inl rfl, a2, at_nil, fun _ => rfl, fun h => absurd rfl h⟩
  · rename_i e
    refine ⟨t.nd, t.ok, p1, by rw [List.length_set]; exact t.b0, .inr (by rw [l2]; exact cl), a1, a2, fun h => ?_, fun _ => ⟨by rw [List.length_set]; omega, e2⟩⟩
    rw [h] at l2
    simp at l2
    omega
theorem TI.enter (t : TI H B C mv ns) {x : Tx} (hx : x ∉ ns) (ix : IsN x) : (if C = [] then TI H (addB H B x) C mv (ns ++ [x]) else TI H B (addB H C x) mv (ns ++ [x])) := by
  have nd : (ns ++ [x]).Nodup := List.nodup_append.mpr ⟨t.nd, by simp, fun a ha b hb e => by rw [List.mem_singleton.mp hb] at e; exact hx (e ▸ ha)⟩
  have ok : ∀ y ∈ ns ++ [x], IsN y := fun y hy => by
    rcases List.mem_append.mp hy with hy | hy
    · exact t.ok y hy
    · rw [List.mem_singleton.mp hy]; exact ix
  have hb : 0 < B.length := by have := t.b0; omega
  split
  · rename_i e
    subst e
    refine ⟨nd, ok, ?_, by rw [addB_len]; exact t.b0, .inl rfl, addB_at hb t.atB x, t.atC, t.mv0, fun h => absurd rfl h⟩
    have p := t.pm
    simp only [List.flatten_nil, List.append_nil] at p ⊢
    exact (addB_pm hb x).trans (p.append_right [x])
  · rename_i e
    have cl := t.cl e
    have hc : 0 < C.length := by omega
    refine ⟨nd, ok, ?_, t.b0, .inr (by rw [addB_len]; exact cl), t.atB, addB_at hc t.atC x, fun h => ?_, fun _ => t.mv1 e⟩
    · refine (List.Perm.append_left _ (addB_pm hc x)).trans ?_
      rw [← List.append_assoc]
      exact t.pm.append_right [x]
    · have := addB_len (H := H) (L := C) x
      rw [h] at this
      simp at this
      omega
theorem TI.left (t : TI H B C mv ns) {x : Tx} (hx : x ∈ ns) : (x ∈ B.getD (H x % B.length) [] ∧ TI H (B.set (H x % B.length) ((B.getD (H x % B.length) []).erase x)) C mv (ns.erase x)) ∨
    (x ∉ B.getD (H x % B.length) [] ∧ C ≠ [] ∧ x ∈ C.getD (H x % C.length) [] ∧ TI H B (C.set (H x % C.length) ((C.getD (H x % C.length) []).erase x)) mv (ns.erase x)) := by
  have hb : 0 < B.length := by have := t.b0; omega
  have nd : (ns.erase x).Nodup := t.nd.erase x
  have ok : ∀ y ∈ ns.erase x, IsN y := fun y hy => t.ok y (List.mem_of_mem_erase hy)
  have del : ∀ (L : List (List Tx)), 0 < L.length → x ∈ L.getD (H x % L.length) [] → L.flatten.Perm (x :: (L.set (H x % L.length) ((L.getD (H x % L.length) []).erase x)).flatten) := fun L hl hm => by
    have h := flat_set L (H x % L.length) ((L.getD (H x % L.length) []).erase x) (Nat.mod_lt _ hl)
    have p := List.perm_cons_erase hm
    have h2 := (h.symm.trans (List.Perm.append_left _ p))
    refine cancel_r (c := (L.getD (H x % L.length) []).erase x) (h2.trans ?_)
    rw [List.cons_append]
    exact List.perm_middle
  have ats : ∀ (L : List (List Tx)), 0 < L.length → At H L → At H (L.set (H x % L.length) ((L.getD (H x % L.length) []).erase x)) := fun L hl a j y hy => by
    rw [List.length_set]
    rw [getD_set (Nat.mod_lt _ hl)] at hy
    split at hy
    · rename_i e
      rw [e]
      exact a _ y (List.mem_of_mem_erase hy)
    · exact a j y hy
  by_cases hm : x ∈ B.getD (H x % B.length) []
  · refine .inl ⟨hm, nd, ok, ?_, by rw [List.length_set]; exact t.b0, t.c0, ats B hb t.atB, t.atC, t.mv0, fun h => ?_⟩
    · have p := ((del B hb hm).append_right C.flatten).symm.trans (t.pm.trans (List.perm_cons_erase hx))
      exact p.cons_inv
    · obtain ⟨m1, m2⟩ := t.mv1 h
      refine ⟨by rw [List.length_set]; exact m1, fun j hj => ?_⟩
      rw [getD_set (Nat.mod_lt _ hb)]
      split
      · rename_i e
        rw [← e, m2 j hj]
        rfl
      · exact m2 j hj
  · have hf : x ∈ C.flatten := by
      have := t.pm.mem_iff.mpr hx
      rcases List.mem_append.mp this with q | q
      · obtain ⟨j, hj, q⟩ := flat_mem.mp q
        have e := t.atB j x q
        rw [e] at hm
        exact absurd q hm
      · exact q
    obtain ⟨j, hj, q⟩ := flat_mem.mp hf
    have e := t.atC j x q
    have hC : C ≠ [] := fun z => by rw [z] at hj; simp at hj
    have hc : 0 < C.length := by omega
    have hm2 : x ∈ C.getD (H x % C.length) [] := by rw [e]; exact q
    refine .inr ⟨hm, hC, hm2, nd, ok, ?_, t.b0, .inr (by rw [List.length_set]; exact t.cl hC), t.atB, ats C hc t.atC, fun h => ?_, fun _ => t.mv1 hC⟩
    · have p := (List.Perm.append_left B.flatten (del C hc hm2)).symm.trans (t.pm.trans (List.perm_cons_erase hx))
      exact (List.perm_middle.symm.trans p).cons_inv
    · have := congrArg List.length h
      simp at this
      exact absurd this hC
theorem TI.begun (t : TI H B C mv ns) (hC : C = []) {k : Nat} (h4 : 4 ≤ k) (h64 : k ≤ 64) : TI H B (List.replicate k []) mv ns := by
  have e := t.mv0 hC
  subst e
  have z : (List.replicate k ([] : List Tx)).flatten = [] := List.flatten_eq_nil_iff.mpr fun b hb => List.eq_of_mem_replicate hb
  have g : ∀ j, (List.replicate k ([] : List Tx)).getD j [] = [] := fun j => by
    rw [List.getD_eq_getElem?_getD, List.getElem?_replicate]
    split <;> rfl
  refine ⟨t.nd, t.ok, by rw [z]; rw [hC] at t; exact t.pm, t.b0, .inr (by rw [List.length_replicate]; exact ⟨h4, h64⟩), t.atB, (fun j x hx => by rw [g j] at hx; cases hx), (fun _ => rfl), fun _ => ⟨by have := t.b0; omega, fun j hj => by omega⟩⟩
end
end K06
set_option Elab.async false
set_option linter.all false
set_option maxRecDepth 100000
set_option maxHeartbeats 1000000
namespace Mn
open PySem PySem.Spec L2 PyProof.Rows CwR
def bDice : List Sm := [.asg (.nm 2) (.bin .add (.bin .mul (.con (.int 83)) (.var 1)) (.con (.int 59))), .ite (.cmp .lt (.var 1) (.bi .len [.var 0])) [.asg (.nm 2) (.ix (.var 0) (.var 1))] [], .asg (.nm 3) (.bin .mod (.bi .int [.bi .abs [.var 2]]) (.bin .pow (.bin .pow (.con (.int 10)) (.con (.int 60))) (.con (.int 10)))), .asg (.nm 4) (.bin .fdiv (.var 3) (.bin .pow (.con (.int 10)) (.con (.int 18)))), .asg (.nm 5) (.bin .add (.bin .add (.bin .add (.bin .mul (.bin .mod (.var 3) (.con (.int 2147482811))) (.con (.int 60509))) (.bin .mul (.con (.int 3499)) (.var 1))) (.bin .mul (.con (.int 73)) (.bi .int [.cmp .lt (.var 2) (.con (.int 0))]))) (.con (.int 101))), .ret (.lst [.var 4, .bin .mod (.var 5) (.con (.int 2147482801)), .con (.int 0)])]
def bRoll : List Sm := [.asg (.nm 2) (.bi .int [.var 1]), .ite (.cmp .gt (.ix (.var 0) (.con (.int 0))) (.con (.int 0))) [.asg (.nm 5) (.bin .mod (.ix (.var 0) (.con (.int 0))) (.var 2)), .asg (.ix (.var 0) (.con (.int 0))) (.bin .fdiv (.ix (.var 0) (.con (.int 0))) (.var 2)), .ret (.bi .int [.var 5])] [], .asg (.ix (.var 0) (.con (.int 2))) (.bin .add (.ix (.var 0) (.con (.int 2))) (.con (.int 1))), .asg (.nm 3) (.bin .mod (.bin .add (.ix (.var 0) (.con (.int 1))) (.bin .mul (.con (.int 1000333)) (.ix (.var 0) (.con (.int 2))))) (.con (.int 2305843009213693951))), .asg (.nm 4) (.bin .add (.bin .mul (.bin .mod (.bin .mul (.var 3) (.var 3)) (.con (.int 2305843009213693921))) (.var 3)) (.bin .mul (.con (.int 9479)) (.ix (.var 0) (.con (.int 2))))), .asg (.nm 4) (.bin .mod (.var 4) (.con (.int 2305843009213693907))), .ret (.bi .int [.bin .mod (.bin .fdiv (.var 4) (.con (.int 4096))) (.var 2)])]
def spRoll (xs : List PV) (h : PH) : Res PV := match xs with
  | [.ref l, .int n] => (match h[l]? with
    | some (.dice (b + 1)) => if 0 < n ∧ n < 2 ^ 62 then .all n.toNat fun r => .ok (.int r) (h.set l (.dice b)) else .stuck
    | _ => .stuck)
  | _ => .stuck
def spDice (xs : List PV) (h : PH) : Res PV := match xs with
  | [.frk xs, .int i] => if (intsOf xs).isSome ∧ 0 ≤ i ∧ i < 2 ^ 20 then .ok (.ref h.length) (h ++ [.dice (2 ^ 63)]) else .stuck
  | _ => .stuck
section
variable {T : Tb} {cl : Nat → List PV → PH → Res PV} {W : Nat}
theorem D_nx {s : Sm} {r : List Sm} {ρ ρ1 : PEnv} {h h1 : PH} {z : Res Fl} (e : exS T cl W s ρ h = .ok (.nx ρ1) h1) (k : exSs T cl W r ρ1 h1 = z) : exSs T cl W (s :: r) ρ h = z := by
  simp only [exSs, e, Res.bind_ok]
  exact k
theorem D_rt {s : Sm} {r : List Sm} {ρ : PEnv} {h h1 : PH} {v : PV} (e : exS T cl W s ρ h = .ok (.rt v) h1) : exSs T cl W (s :: r) ρ h = .ok (.rt v) h1 := by
  simp only [exSs, e, Res.bind_ok]
theorem run_rt {d : Df} {vs : List PV} {h h1 : PH} {v : PV} (hl : vs.length = d.ps.length) (e : exSs T cl W d.body (vs.map some ++ List.replicate (d.N.length - vs.length) none) h = .ok (.rt v) h1) : runD T W cl d vs h = .ok v h1 := by
  unfold runD
  rw [if_pos hl]
  unfold runBody
  rw [e]
  rfl
theorem nat_log {x k : Nat} (h : x < 2 ^ k) (hk : k ≤ 400000) : x.log2 < 400000 + 1 := by
  by_cases hz : x = 0
  · rw [hz]; decide
  · have := (Nat.log2_lt hz).mpr h
    omega
theorem big_nat {a b : Int} {k : Nat} (ha : a.natAbs < 2 ^ k) (hb : b.natAbs < 2 ^ k) (hk : k ≤ 400000) : big a b = true := by
  unfold big
  have h1 := nat_log ha hk
  have h2 := nat_log hb hk
  simp
  omega
theorem roll_great {l : Nat} {n i j k : Int} {h : PH} (e : h[l]? = some (.lst [.int i, .int j, .int k])) (hn : 0 < n) (hs : n < 2 ^ 62) (hi : 0 < i) :
    exSs T cl W bRoll [some (.ref l), some (.int n), none, none, none, none] h = .ok (.rt (.int (i % n))) (h.set l (.lst [.int (i / n), .int j, .int k])) := by
  have hl : n.natAbs.log2 < 9000 := by
    have h1 : n.natAbs < 2 ^ 62 := by omega
    have := nat_log h1 (by decide)
    by_cases hz : n.natAbs = 0
    · rw [hz]; decide
    · have := (Nat.log2_lt hz).mpr h1
      omega
  unfold bRoll
  refine D_nx (ρ1 := [some (.ref l), some (.int n), some (.int n), none, none, none]) (h1 := h) (by simp [exSs, exS, evE, evEs, evT, evIf, asgTa, bindTg, pBin, pCmp, pBi, pTru, ob, pIx, atI, ixN, Res.bind, pSet]) ?_
  refine D_rt ?_
  have c : evT T cl (.cmp .gt (.ix (.var 0) (.con (.int 0))) (.con (.int 0))) [some (.ref l), some (.int n), some (.int n), none, none, none] h = .ok true h := by simp [exSs, exS, evE, evEs, evT, evIf, asgTa, bindTg, pBin, pCmp, pBi, pTru, ob, pIx, atI, ixN, Res.bind, pSet, e, hi]
  simp only [exS, c, Res.bind_ok, if_true]
  refine D_nx (ρ1 := [some (.ref l), some (.int n), some (.int n), none, none, some (.int (i % n))]) (h1 := h) (by simp [exSs, exS, evE, evEs, evT, evIf, asgTa, bindTg, pBin, pCmp, pBi, pTru, ob, pIx, atI, ixN, Res.bind, pSet, e, hn]) ?_
  refine D_nx (ρ1 := [some (.ref l), some (.int n), some (.int n), none, none, some (.int (i % n))]) (h1 := h.set l (.lst [.int (i / n), .int j, .int k])) (by simp [exSs, exS, evE, evEs, evT, evIf, asgTa, bindTg, pBin, pCmp, pBi, pTru, ob, pIx, atI, ixN, Res.bind, pSet, e, hn, hl]) ?_
  exact D_rt (by simp [exSs, exS, evE, evEs, evT, evIf, asgTa, bindTg, pBin, pCmp, pBi, pTru, ob, pIx, atI, ixN, Res.bind, pSet])
theorem roll_small {l : Nat} {n i j k : Int} {h : PH} (e : h[l]? = some (.lst [.int i, .int j, .int k])) (hn : 0 < n) (hs : n < 2 ^ 62) (hi : ¬ 0 < i) (hj : 0 ≤ j ∧ j < 2 ^ 40) (hk : 0 ≤ k ∧ k < 2 ^ 64) :
    ∃ r : Int, 0 ≤ r ∧ r < n ∧ exSs T cl W bRoll [some (.ref l), some (.int n), none, none, none, none] h = .ok (.rt (.int r)) (h.set l (.lst [.int i, .int j, .int (k + 1)])) := by
  have hl : l < h.length := (List.getElem?_eq_some_iff.mp e).1
  have e2 : (h.set l (.lst [.int i, .int j, .int (k + 1)]))[l]? = some (.lst [.int i, .int j, .int (k + 1)]) := List.getElem?_set_self hl
  have l4 : Nat.log2 4096 = 12 := by decide
  obtain ⟨o, ho⟩ : ∃ o, (j + 1000333 * (k + 1)) % 2305843009213693951 = o := ⟨_, rfl⟩
  have o1 : 0 ≤ o := by rw [← ho]; exact Int.emod_nonneg _ (by decide)
  have o2 : o < 2305843009213693951 := by rw [← ho]; exact Int.emod_lt_of_pos _ (by decide)
  obtain ⟨q, hq⟩ : ∃ q, o * o % 2305843009213693921 = q := ⟨_, rfl⟩
  have q1 : 0 ≤ q := by rw [← hq]; exact Int.emod_nonneg _ (by decide)
  have q2 : q < 2305843009213693921 := by rw [← hq]; exact Int.emod_lt_of_pos _ (by decide)
  have b1 : big 1000333 (k + 1) = true := big_nat (k := 70) (by decide) (by omega) (by decide)
  have b2 : big o o = true := big_nat (k := 70) (by omega) (by omega) (by decide)
  have b3 : big q o = true := big_nat (k := 70) (by omega) (by omega) (by decide)
  have b4 : big 9479 (k + 1) = true := big_nat (k := 70) (by decide) (by omega) (by decide)
  refine ⟨(q * o + 9479 * (k + 1)) % 2305843009213693907 / 4096 % n, Int.emod_nonneg _ (by omega), Int.emod_lt_of_pos _ hn, ?_⟩
  unfold bRoll
  refine D_nx (ρ1 := [some (.ref l), some (.int n), some (.int n), none, none, none]) (h1 := h) (by simp [exSs, exS, evE, evEs, evT, evIf, asgTa, bindTg, pBin, pCmp, pBi, pTru, ob, pIx, atI, ixN, Res.bind, pSet]) ?_
  refine D_nx (ρ1 := [some (.ref l), some (.int n), some (.int n), none, none, none]) (h1 := h) ?_ ?_
  · have c : evT T cl (.cmp .gt (.ix (.var 0) (.con (.int 0))) (.con (.int 0))) [some (.ref l), some (.int n), some (.int n), none, none, none] h = .ok false h := by simp [exSs, exS, evE, evEs, evT, evIf, asgTa, bindTg, pBin, pCmp, pBi, pTru, ob, pIx, atI, ixN, Res.bind, pSet, e, hi]
    simp only [exS, c, Res.bind_ok, exSs]
    rfl
  refine D_nx (ρ1 := [some (.ref l), some (.int n), some (.int n), none, none, none]) (h1 := h.set l (.lst [.int i, .int j, .int (k + 1)])) (by simp [exSs, exS, evE, evEs, evT, evIf, asgTa, bindTg, pBin, pCmp, pBi, pTru, ob, pIx, atI, ixN, Res.bind, pSet, e]) ?_
  generalize h.set l (.lst [.int i, .int j, .int (k + 1)]) = h2 at e2 ⊢
  refine D_nx (ρ1 := [some (.ref l), some (.int n), some (.int n), some (.int o), none, none]) (h1 := h2) (by simp [exSs, exS, evE, evEs, evT, evIf, asgTa, bindTg, pBin, pCmp, pBi, pTru, ob, pIx, atI, ixN, Res.bind, pSet, e2, b1, ho]) ?_
  refine D_nx (ρ1 := [some (.ref l), some (.int n), some (.int n), some (.int o), some (.int (q * o + 9479 * (k + 1))), none]) (h1 := h2) (by simp [exSs, exS, evE, evEs, evT, evIf, asgTa, bindTg, pBin, pCmp, pBi, pTru, ob, pIx, atI, ixN, Res.bind, pSet, e2, b2, b3, b4, hq]) ?_
  generalize (q * o + 9479 * (k + 1)) = t
  refine D_nx (ρ1 := [some (.ref l), some (.int n), some (.int n), some (.int o), some (.int (t % 2305843009213693907)), none]) (h1 := h2) (by simp [exSs, exS, evE, evEs, evT, evIf, asgTa, bindTg, pBin, pCmp, pBi, pTru, ob, pIx, atI, ixN, Res.bind, pSet]) ?_
  exact D_rt (by simp [exSs, exS, evE, evEs, evT, evIf, asgTa, bindTg, pBin, pCmp, pBi, pTru, ob, pIx, atI, ixN, Res.bind, pSet, l4, hn])
theorem ten_pow : Builtin.Int.intBits 10 = 4 ∧ Builtin.Int.intBits (10 ^ 60) = 200 := by decide +kernel
theorem dice_run {xs : List PV} {at_ : Int} {is : List Int} {h : PH} (e : intsOf xs = some is) (h0 : 0 ≤ at_) (h1 : at_ < 2 ^ 20) :
    ∃ a b : Int, (0 ≤ a ∧ a < 10 ^ 600) ∧ (0 ≤ b ∧ b < 2 ^ 40) ∧ exSs T cl W bDice [some (.frk xs), some (.int at_), none, none, none, none] h = .ok (.rt (.ref h.length)) (h ++ [.lst [.int a, .int b, .int 0]]) := by
  have gets : ∀ (xs : List PV) (is : List Int), intsOf xs = some is → xs.length = is.length ∧ ∀ (m : Nat) (x : PV), xs[m]? = some x → ∃ c : Int, x = .int c := fun xs => by
    induction xs with
    | nil => intro is e; simp only [intsOf] at e; cases e; exact ⟨rfl, fun m x q => by simp at q⟩
    | cons y ys ih =>
      intro is e
      cases y with
      | int c =>
        simp only [intsOf] at e
        cases q : intsOf ys with
        | none => rw [q] at e; cases e
        | some js =>
          rw [q] at e
          cases e
          obtain ⟨l1, l2⟩ := ih js q
          refine ⟨by simp [l1], fun m x z => ?_⟩
          cases m with
          | zero => simp at z; exact ⟨c, z.symm⟩
          | succ m => exact l2 m x (by simpa using z)
      | _ => simp only [intsOf] at e; cases e
  obtain ⟨_, gx⟩ := gets xs is e
  -- the cell
  obtain ⟨c, hc⟩ : ∃ c : Int, exSs T cl W (bDice.take 2) [some (.frk xs), some (.int at_), none, none, none, none] h = .ok (.nx [some (.frk xs), some (.int at_), some (.int c), none, none, none]) h := by
    have b1 : big 83 at_ = true := big_nat (k := 70) (by decide) (by omega) (by decide)
    unfold bDice
    by_cases q : at_ < xs.length
    · obtain ⟨m, rfl⟩ : ∃ m : Nat, at_ = m := ⟨at_.toNat, by omega⟩
      have hm : m < xs.length := by omega
      obtain ⟨c, hx⟩ := gx m xs[m] (List.getElem?_eq_getElem hm)
      refine ⟨c, ?_⟩
      have hb2 : big 83 (m : Int) = true := b1
      have ea : atI xs (m : Int) = some (.int c) := by
        unfold atI ixN
        rw [if_pos (by omega), if_pos q]
        simp [hm, hx]
      refine D_nx (ρ1 := [some (.frk xs), some (.int m), some (.int (83 * m + 59)), none, none, none]) (h1 := h) (by simp [exSs, exS, evE, evEs, evT, evIf, asgTa, bindTg, pBin, pCmp, pBi, pTru, ob, pIx, atI, ixN, Res.bind, pSet, hb2]) ?_
      generalize (83 * (m : Int) + 59) = z
      have cc : evT T cl (.cmp .lt (.var 1) (.bi .len [.var 0])) [some (.frk xs), some (.int m), some (.int z), none, none, none] h = .ok true h := by simp [exSs, exS, evE, evEs, evT, evIf, asgTa, bindTg, pBin, pCmp, pBi, pTru, ob, pIx, atI, ixN, Res.bind, pSet, hm]
      refine D_nx (ρ1 := [some (.frk xs), some (.int m), some (.int c), none, none, none]) (h1 := h) ?_ (by simp only [List.take_zero, exSs])
      simp only [exS, cc, Res.bind_ok, if_true, exSs, evE, asgTa, List.getElem?_cons_zero, List.getElem?_cons_succ, pIx, ea]
      rfl
    · refine ⟨83 * at_ + 59, ?_⟩
      refine D_nx (ρ1 := [some (.frk xs), some (.int at_), some (.int (83 * at_ + 59)), none, none, none]) (h1 := h) (by simp [exSs, exS, evE, evEs, evT, evIf, asgTa, bindTg, pBin, pCmp, pBi, pTru, ob, pIx, atI, ixN, Res.bind, pSet, b1]) ?_
      generalize (83 * at_ + 59) = z
      have cc : evT T cl (.cmp .lt (.var 1) (.bi .len [.var 0])) [some (.frk xs), some (.int at_), some (.int z), none, none, none] h = .ok false h := by simp [exSs, exS, evE, evEs, evT, evIf, asgTa, bindTg, pBin, pCmp, pBi, pTru, ob, pIx, atI, ixN, Res.bind, pSet, q]
      refine D_nx (ρ1 := [some (.frk xs), some (.int at_), some (.int z), none, none, none]) (h1 := h) ?_ (by simp only [List.take_zero, exSs])
      simp only [exS, cc, Res.bind_ok, exSs]
      rfl
  have split : ∀ (a b : List Sm) (ρ ρ1 : PEnv) (h h1 : PH), exSs T cl W a ρ h = .ok (.nx ρ1) h1 → exSs T cl W (a ++ b) ρ h = exSs T cl W b ρ1 h1 := fun a => by
    induction a with
    | nil => intro b ρ ρ1 h h1 q; simp only [exSs] at q; cases q; rfl
    | cons s r ih =>
      intro b ρ ρ1 h h1 q
      simp only [List.cons_append, exSs] at q ⊢
      cases w : exS T cl W s ρ h with
      | ok f h2 =>
        rw [w, Res.bind_ok] at q
        rw [Res.bind_ok]
        cases f with
        | nx ρ2 => exact ih b ρ2 ρ1 h2 h1 q
        | _ => simp at q
      | _ => rw [w] at q; simp [Res.bind] at q
  have main := split (bDice.take 2) (bDice.drop 2) _ _ _ _ hc
  rw [List.take_append_drop] at main
  obtain ⟨g, hg⟩ : ∃ g : Int, (if c < 0 then -c else c) % ((10 : Int) ^ 60) ^ 10 = g := ⟨_, rfl⟩
  have p600 : ((10 : Int) ^ 60) ^ 10 = 10 ^ 600 := by decide +kernel
  have g1 : 0 ≤ g := by rw [← hg]; exact Int.emod_nonneg _ (by rw [p600]; decide +kernel)
  have g2 : g < 10 ^ 600 := by rw [← hg, ← p600]; exact Int.emod_lt_of_pos _ (by rw [p600]; decide +kernel)
  have s3 : 3 ≤ sizeLine := Nat.le_trans (show 3 ≤ 16 by decide) (by decide)
  have hp1 : ∀ (ρ : PEnv) (h : PH), evE T cl (.bin .pow (.bin .pow (.con (.int 10)) (.con (.int 60))) (.con (.int 10))) ρ h = .ok (.int (((10 : Int) ^ 60) ^ 10)) h := fun ρ h => by
    simp only [evE, Res.bind_ok, pBin]
    rw [if_pos (by decide +kernel)]
    simp only [Res.bind_ok]
    rw [if_pos (by decide +kernel)]
    rfl
  have hp2 : ∀ (ρ : PEnv) (h : PH), evE T cl (.bin .pow (.con (.int 10)) (.con (.int 18))) ρ h = .ok (.int 1000000000000000000) h := fun ρ h => by
    simp only [evE, Res.bind_ok, pBin]
    rw [if_pos (by decide +kernel)]
    rfl
  have pos : (0 : Int) < ((10 : Int) ^ 60) ^ 10 := by rw [p600]; decide +kernel
  have l18 : (1000000000000000000 : Int).natAbs.log2 < 9000 := by decide +kernel
  obtain ⟨m, hm⟩ : ∃ m : Int, g % 2147482811 = m := ⟨_, rfl⟩
  have m1 : 0 ≤ m := by rw [← hm]; exact Int.emod_nonneg _ (by decide)
  have m2 : m < 2147482811 := by rw [← hm]; exact Int.emod_lt_of_pos _ (by decide)
  have b1 : big m 60509 = true := big_nat (k := 70) (by omega) (by decide) (by decide)
  have b2 : big 3499 at_ = true := big_nat (k := 70) (by decide) (by omega) (by decide)
  have b3 : big 73 (if c < 0 then 1 else 0) = true := big_nat (k := 70) (by decide) (by split <;> decide) (by decide)
  have d1 : g / 1000000000000000000 ≤ g := Int.ediv_le_self _ g1
  have d2 : 0 ≤ g / 1000000000000000000 := Int.ediv_nonneg g1 (by decide)
  refine ⟨g / 1000000000000000000, (m * 60509 + 3499 * at_ + 73 * (if c < 0 then 1 else 0) + 101) % 2147482801, ⟨d2, Int.lt_of_le_of_lt d1 g2⟩, ⟨Int.emod_nonneg _ (by decide), Int.lt_trans (Int.emod_lt_of_pos _ (by decide)) (by decide)⟩, ?_⟩
  rw [main]
  clear main hc split d1 d2 g2
  unfold bDice
  refine D_nx (ρ1 := [some (.frk xs), some (.int at_), some (.int c), some (.int g), none, none]) (h1 := h) ?_ ?_
  · have ea : evE T cl (.bi .int [.bi .abs [.var 2]]) [some (.frk xs), some (.int at_), some (.int c), none, none, none] h = .ok (.int (if c < 0 then -c else c)) h := by
      simp only [evE, evEs, List.getElem?_cons_succ, List.getElem?_cons_zero, Res.bind_ok, pBi]
    unfold exS
    rw [show evE T cl (.bin .mod (.bi .int [.bi .abs [.var 2]]) (.bin .pow (.bin .pow (.con (.int 10)) (.con (.int 60))) (.con (.int 10)))) [some (.frk xs), some (.int at_), some (.int c), none, none, none] h = .ok (.int g) h by
      rw [evE, ea, Res.bind_ok, hp1, Res.bind_ok]
      simp only [pBin]
      rw [if_pos (decide_eq_true pos), hg]]
    rfl
  clear hp1 hg pos p600
  refine D_nx (ρ1 := [some (.frk xs), some (.int at_), some (.int c), some (.int g), some (.int (g / 1000000000000000000)), none]) (h1 := h) ?_ ?_
  · unfold exS
    rw [show evE T cl (.bin .fdiv (.var 3) (.bin .pow (.con (.int 10)) (.con (.int 18)))) [some (.frk xs), some (.int at_), some (.int c), some (.int g), none, none] h = .ok (.int (g / 1000000000000000000)) h by
      rw [evE, show evE T cl (.var 3) [some (.frk xs), some (.int at_), some (.int c), some (.int g), none, none] h = .ok (.int g) h from rfl, Res.bind_ok, hp2, Res.bind_ok]
      simp only [pBin]
      rw [if_pos (by rw [decide_eq_true l18]; rfl)]]
    rfl
  generalize g / 1000000000000000000 = gl
  have e8 : evE T cl (.bi .int [.cmp .lt (.var 2) (.con (.int 0))]) [some (.frk xs), some (.int at_), some (.int c), some (.int g), some (.int gl), none] h = .ok (.int (if c < 0 then 1 else 0)) h := by
    simp only [evE, evEs, List.getElem?_cons_succ, List.getElem?_cons_zero, Res.bind_ok, pCmp, pBi]
    by_cases q : c < 0 <;> simp [q]
  generalize (if c < 0 then (1 : Int) else 0) = sg at b3 e8 ⊢
  refine D_nx (ρ1 := [some (.frk xs), some (.int at_), some (.int c), some (.int g), some (.int gl), some (.int (m * 60509 + 3499 * at_ + 73 * sg + 101))]) (h1 := h) ?_ ?_
  · unfold exS
    rw [show evE T cl (.bin .add (.bin .add (.bin .add (.bin .mul (.bin .mod (.var 3) (.con (.int 2147482811))) (.con (.int 60509))) (.bin .mul (.con (.int 3499)) (.var 1))) (.bin .mul (.con (.int 73)) (.bi .int [.cmp .lt (.var 2) (.con (.int 0))]))) (.con (.int 101))) [some (.frk xs), some (.int at_), some (.int c), some (.int g), some (.int gl), none] h = .ok (.int (m * 60509 + 3499 * at_ + 73 * sg + 101)) h by
      generalize hx : (Ex.bi .int [.cmp .lt (.var 2) (.con (.int 0))]) = ex at e8
      simp [evE, e8, pBin, hm, b1, b2, b3]]
    rfl
  generalize (m * 60509 + 3499 * at_ + 73 * sg + 101) = t
  refine D_rt ?_
  simp [exS, evE, evEs, pBin, s3]
end
end Mn
set_option Elab.async false
set_option linter.all false
set_option maxRecDepth 100000
set_option maxHeartbeats 1000000
namespace Mn
open PySem PySem.Spec L2 PyProof.Rows CwR
section
variable {G : Gm} {as as' : List Addr} {H H' : Hp} {h : PH}
theorem SR.say (s : SR G as H h) {l : Nat} {o : PO} (k : ∀ a, as[l]? = some a → RepO G as H o a) : SR G as H (h.set l o) := by
  refine ⟨s.nd, by simp [s.len], fun m ob b e1 e2 => ?_⟩
  by_cases hm : m = l
  · subst hm
    have hl : m < h.length := by
      have := (List.getElem?_eq_some_iff.mp e1).1
      simpa using this
    rw [List.getElem?_set_self hl] at e1
    cases e1
    exact k b e2
  · rw [List.getElem?_set_ne (Ne.symm hm)] at e1
    exact s.at_ m ob b e1 e2
theorem Fut.say {h' : PH} (f : Fut G as H as' H' h') {l : Nat} {o : PO} (k : ∀ a, as'[l]? = some a → RepO G as' H' o a) : Fut G as H as' H' (h'.set l o) := ⟨f.pre, f.kp, f.sr.say k, f.fresh, f.frame⟩
theorem rep_ints {a : Addr} {i j k : Int} (r : RepO G as H (.lst [.int i, .int j, .int k]) a) : H a = some (.lst [.int i, .int j, .int k]) := by
  obtain ⟨vs, e, q⟩ := r
  simp only [RepVs, RepV] at q
  obtain ⟨v, r1, rfl, rfl, v2, r2, rfl, rfl, v3, r3, rfl, rfl, rfl⟩ := q
  exact e
theorem ints_rep {a : Addr} {i j k : Int} (e : H a = some (.lst [.int i, .int j, .int k])) : RepO G as H (.lst [.int i, .int j, .int k]) a := by
  refine ⟨_, e, .cons ?_ (.cons ?_ (.cons ?_ .nil))⟩ <;> (unfold RepV; rfl)
theorem dice_ok {T : Tb} {W : Nat} {cl : Nat → List PV → PH → Res PV} {d : Df} {xs : List PV} {Q : VK} {E : XK} (hp : d.ps.length = 2) (hN : d.N.length = 6) (hb : d.body = bDice) (hx : xs.length = 2) (o : OkV G E as H Q (spDice xs h)) :
    OkV G E as H Q (runD T W cl d xs h) := by
  match xs, hx with
  | [x, y], _ =>
    unfold spDice at o
    split at o
    · rename_i ys i ee
      cases ee
      split at o
      · rename_i q
        obtain ⟨is, e⟩ := Option.isSome_iff_exists.mp q.1
        obtain ⟨a, b, ha, hb', er⟩ := dice_run (T := T) (cl := cl) (W := W) (h := h) e q.2.1 q.2.2
        have : runD T W cl d [.frk ys, .int i] h = .ok (.ref h.length) (h ++ [.lst [.int a, .int b, .int 0]]) := by
          refine run_rt (by simp [hp]) ?_
          rw [hb, hN]
          exact er
        rw [this]
        intro as1 H1 v1 f1 r1
        refine o as1 H1 v1 ?_ r1
        have f2 := f1.say (l := h.length) (o := .dice (2 ^ 63)) fun c ec => by
          obtain ⟨c', ec', rc⟩ := f1.sr.addr (l := h.length) (o := .lst [.int a, .int b, .int 0]) (by simp)
          rw [ec] at ec'
          cases ec'
          exact ⟨a, b, 0, rep_ints rc, ha, hb', by decide, by decide⟩
        simpa using f2
      · exact False.elim o
    · exact False.elim o
theorem roll_ok {T : Tb} {W : Nat} {cl : Nat → List PV → PH → Res PV} {d : Df} {xs : List PV} {Q : VK} {E : XK} (hp : d.ps.length = 2) (hN : d.N.length = 6) (hb : d.body = bRoll) (s : SR G as H h) (hx : xs.length = 2) (o : OkV G E as H Q (spRoll xs h)) :
    ∃ h', SR G as H h' ∧ OkV G E as H Q (runD T W cl d xs h') := by
  match xs, hx with
  | [x, y], _ =>
    unfold spRoll at o
    split at o
    · rename_i l n ee
      cases ee
      split at o
      · rename_i b el
        split at o
        · rename_i q
          obtain ⟨a, ea, ro⟩ := s.addr el
          obtain ⟨i, j, k, eh, hi, hj, hk⟩ := ro
          have hl : l < h.length := (List.getElem?_eq_some_iff.mp el).1
          have eget : (h.set l (.lst [.int i, .int j, .int k]))[l]? = some (.lst [.int i, .int j, .int k]) := List.getElem?_set_self hl
          refine ⟨h.set l (.lst [.int i, .int j, .int k]), s.say fun c ec => ?_, ?_⟩
          · rw [ea] at ec
            cases ec
            exact ints_rep eh
          have fin : ∀ (r i' k' : Int), 0 ≤ r → r < n → (0 ≤ i' ∧ i' < 10 ^ 600) → (0 ≤ k' ∧ k' + b ≤ 2 ^ 64) → exSs T cl W bRoll [some (.ref l), some (.int n), none, none, none, none] (h.set l (.lst [.int i, .int j, .int k])) = .ok (.rt (.int r)) ((h.set l (.lst [.int i, .int j, .int k])).set l (.lst [.int i', .int j, .int k'])) →
              OkV G E as H Q (runD T W cl d [.ref l, .int n] (h.set l (.lst [.int i, .int j, .int k]))) := by
            intro r i' k' r0 rn hi' hk' er
            have e2 : runD T W cl d [.ref l, .int n] (h.set l (.lst [.int i, .int j, .int k])) = .ok (.int r) (h.set l (.lst [.int i', .int j, .int k'])) := by
              rw [List.set_set] at er
              refine run_rt (by simp [hp]) ?_
              rw [hb, hN]
              exact er
            rw [e2]
            intro as1 H1 v1 f1 r1
            have o2 : OkV G E as H Q (.ok (.int (r.toNat : Int)) (h.set l (.dice b))) := o r.toNat (by omega)
            rw [Int.toNat_of_nonneg r0] at o2
            refine o2 as1 H1 v1 ?_ r1
            have f2 := f1.say (l := l) (o := .dice b) fun c ec => by
              obtain ⟨c', ec', rc⟩ := f1.sr.addr (l := l) (o := .lst [.int i', .int j, .int k']) (List.getElem?_set_self hl)
              rw [ec] at ec'
              cases ec'
              exact ⟨i', j, k', rep_ints rc, hi', hj, hk'⟩
            rw [List.set_set] at f2
            exact f2
          by_cases hz : 0 < i
          · refine fin (i % n) (i / n) k (Int.emod_nonneg _ (by omega)) (Int.emod_lt_of_pos _ q.1) ⟨Int.ediv_nonneg hi.1 (by omega), Int.lt_of_le_of_lt (Int.ediv_le_self _ hi.1) hi.2⟩ ⟨hk.1, by omega⟩ (roll_great eget q.1 q.2 hz)
          · obtain ⟨r, r0, rn, er⟩ := roll_small (T := T) (cl := cl) (W := W) eget q.1 q.2 hz hj ⟨hk.1, by omega⟩
            exact fin r i (k + 1) r0 rn hi ⟨by omega, by omega⟩ er
        · exact False.elim o
      · exact False.elim o
    · exact False.elim o
end
end Mn
set_option Elab.async false
set_option linter.all false
set_option maxRecDepth 100000
set_option maxHeartbeats 1000000
namespace Mn
open PySem PySem.Spec L2 PyProof.Rows CwR
inductive Al {α : Type} (P : α → PH → Prop) : Res α → Prop
  | ret {a : α} {h : PH} (p : P a h) : Al P (.ok a h)
  | draw {n : Nat} {k : Nat → Res α} (q : ∀ i < n, Al P (k i)) : Al P (.all n k)
theorem Al.bind {α β : Type} {P : β → PH → Prop} {r : Res α} {k : α → PH → Res β} (h : Al (fun a h1 => Al P (k a h1)) r) : Al P (r.bind k) := by
  induction h with
  | ret p => exact p
  | draw q ih => exact .draw ih
theorem Al.imp {α : Type} {P Q : α → PH → Prop} {r : Res α} (h : Al P r) (k : ∀ a h1, P a h1 → Q a h1) : Al Q r := by
  induction h with
  | ret p => exact .ret (k _ _ p)
  | draw q ih => exact .draw ih
theorem Al.ok {α : Type} {P : α → PH → Prop} {r : Res α} {a : α} {h : PH} (e : r = .ok a h) (p : P a h) : Al P r := by rw [e]; exact .ret p
theorem Al.noer {α : Type} {P : α → PH → Prop} {r : Res α} (h : Al P r) : Al P r.noer := by
  induction h with
  | ret p => exact .ret p
  | draw q ih => exact .draw ih
theorem al_forRun {body : PV → PEnv → PH → Res Fl} {w : Wk} {N : Nat} {Inv : Nat → PEnv → PH → Prop} {P : Fl → PH → Prop}
    (hb : ∀ i < N, ∀ ρ h, Inv i ρ h → ∃ x, wkAt h i w = some (some x) ∧ Al (fun f h1 => match f with
      | .nx ρ1 => Inv (i + 1) ρ1 h1
      | .ct ρ1 => Inv (i + 1) ρ1 h1
      | .bk ρ1 => P (.nx ρ1) h1
      | .rt v => P (.rt v) h1) (body x ρ h))
    (he : ∀ ρ h, Inv N ρ h → wkAt h N w = some none ∧ P (.nx ρ) h) :
    ∀ m i ρ h, i + m = N → Inv i ρ h → Al P (forRun body w (m + 1) i ρ h) := fun m => by
  induction m with
  | zero =>
    intro i ρ h hi I
    have : i = N := by omega
    subst this
    obtain ⟨e, p⟩ := he ρ h I
    unfold forRun
    rw [e]
    exact Al.ok rfl p
  | succ m ih =>
    intro i ρ h hi I
    obtain ⟨x, e, q⟩ := hb i (by omega) ρ h I
    unfold forRun
    rw [e]
    refine Al.bind (q.imp fun f h1 z => ?_)
    cases f with
    | nx ρ1 => exact ih (i + 1) ρ1 h1 (by omega) z
    | ct ρ1 => exact ih (i + 1) ρ1 h1 (by omega) z
    | bk ρ1 => exact Al.ok rfl z
    | rt v => exact Al.ok rfl z
section
variable {T : Tb} {W : Nat} {cl : Nat → List PV → PH → Res PV} {ρ : PEnv} {h : PH}
theorem al_call {P : PV → PH → Prop} {g f : Nat} {es : List Ex} (hg : T.glob[g]? = some (.fn f)) (k : Al (fun vs h1 => Al P (cl f vs h1)) (evEs T cl es ρ h)) : Al P (evE T cl (.call g es) ρ h) := by
  simp only [evE, hg, callG]
  exact Al.bind k
theorem al_ix {P : PV → PH → Prop} {o i : Ex} (k : Al (fun v h1 => Al (fun w h2 => Al P (pIx v w h2)) (evE T cl i ρ h1)) (evE T cl o ρ h)) : Al P (evE T cl (.ix o i) ρ h) := by
  simp only [evE]
  exact Al.bind (k.imp fun v h1 q => Al.bind q)
theorem al_bin {P : PV → PH → Prop} {op : Bop} {o i : Ex} (k : Al (fun v h1 => Al (fun w h2 => Al P (pBin op v w h2)) (evE T cl i ρ h1)) (evE T cl o ρ h)) : Al P (evE T cl (.bin op o i) ρ h) := by
  simp only [evE]
  exact Al.bind (k.imp fun v h1 q => Al.bind q)
theorem al_cmp {P : PV → PH → Prop} {op : Cop} {o i : Ex} (k : Al (fun v h1 => Al (fun w h2 => Al P (pCmp op v w h2)) (evE T cl i ρ h1)) (evE T cl o ρ h)) : Al P (evE T cl (.cmp op o i) ρ h) := by
  simp only [evE]
  exact Al.bind (k.imp fun v h1 q => Al.bind q)
theorem al_bi {P : PV → PH → Prop} {f : Bi} {es : List Ex} (k : Al (fun vs h1 => Al P (pBi T f vs h1)) (evEs T cl es ρ h)) : Al P (evE T cl (.bi f es) ρ h) := by
  simp only [evE]
  exact Al.bind k
theorem al_nil {P : List PV → PH → Prop} (k : P [] h) : Al P (evEs T cl [] ρ h) := by
  simp only [evEs]
  exact .ret k
theorem al_cons {P : List PV → PH → Prop} {e : Ex} {es : List Ex} (he : ∀ x, e ≠ .star x) (k : Al (fun v h1 => Al (fun vs h2 => P (v :: vs) h2) (evEs T cl es ρ h1)) (evE T cl e ρ h)) : Al P (evEs T cl (e :: es) ρ h) := by
  rw [evEs_cons he]
  exact Al.bind (k.imp fun v h1 q => Al.bind (q.imp fun vs h2 z => .ret z))
theorem al_var {P : PV → PH → Prop} {i : Nat} {v : PV} (e : ρ[i]? = some (some v)) (k : P v h) : Al P (evE T cl (.var i) ρ h) := by
  simp only [evE, e]
  exact .ret k
theorem al_con {P : PV → PH → Prop} {v : PV} (k : P v h) : Al P (evE T cl (.con v) ρ h) := by
  simp only [evE]
  exact .ret k
theorem al_ife {P : PV → PH → Prop} {c a b : Ex} (k : Al (fun v h1 => ∃ t, pTru h1 v = some t ∧ if t then Al P (evE T cl a ρ h1) else Al P (evE T cl b ρ h1)) (evE T cl c ρ h)) : Al P (evE T cl (.ife c a b) ρ h) := by
  simp only [evE]
  refine Al.bind (k.imp fun v h1 ⟨t, e, q⟩ => ?_)
  rw [e]
  cases t <;> exact q
theorem al_evT {P : Bool → PH → Prop} {c : Ex} (k : Al (fun v h1 => ∃ t, pTru h1 v = some t ∧ P t h1) (evE T cl c ρ h)) : Al P (evT T cl c ρ h) := by
  unfold evT
  refine Al.bind (k.imp fun v h1 ⟨t, e, q⟩ => ?_)
  rw [e]
  exact .ret q
theorem al_ss {P : Fl → PH → Prop} {s : Sm} {r : List Sm} (k : Al (fun f h1 => match f with
    | .nx ρ1 => Al P (exSs T cl W r ρ1 h1)
    | f => P f h1) (exS T cl W s ρ h)) : Al P (exSs T cl W (s :: r) ρ h) := by
  simp only [exSs]
  refine Al.bind (k.imp fun f h1 q => ?_)
  cases f
  · exact q
  all_goals exact .ret q
theorem al_asg {P : Fl → PH → Prop} {i : Nat} {e : Ex} (k : Al (fun v h1 => P (.nx (ρ.set i (some v))) h1) (evE T cl e ρ h)) : Al P (exS T cl W (.asg (.nm i) e) ρ h) := by
  simp only [exS]
  exact Al.bind (k.imp fun v h1 q => .ret q)
theorem al_ret {P : Fl → PH → Prop} {e : Ex} (k : Al (fun v h1 => P (.rt v) h1) (evE T cl e ρ h)) : Al P (exS T cl W (.ret e) ρ h) := by
  simp only [exS]
  exact Al.bind (k.imp fun v h1 q => .ret q)
theorem al_ite {P : Fl → PH → Prop} {c : Ex} {a b : List Sm} (k : Al (fun t h1 => if t then Al P (exSs T cl W a ρ h1) else Al P (exSs T cl W b ρ h1)) (evT T cl c ρ h)) : Al P (exS T cl W (.ite c a b) ρ h) := by
  simp only [exS]
  refine Al.bind (k.imp fun t h1 q => ?_)
  cases t <;> exact q
theorem al_run {P : PV → PH → Prop} {d : Df} {vs : List PV} (hl : vs.length = d.ps.length) (k : Al (fun f h1 => match f with
    | .nx _ => P .non h1
    | .rt v => P v h1
    | _ => False) (exSs T cl W d.body (vs.map some ++ List.replicate (d.N.length - vs.length) none) h)) : Al P (runD T W cl d vs h) := by
  unfold runD runBody
  rw [if_pos hl]
  refine Al.bind (k.imp fun f h1 q => ?_)
  cases f
  · exact .ret q
  · exact False.elim q
  · exact False.elim q
  · exact .ret q
theorem al_mt {P : PV → PH → Prop} {m : Nat} {b : Bm} {o : Ex} {es : List Ex} (hb : notNone b = true) (k : Al (fun v h1 => ∃ q, Bq.of b (kindAt h1 v) = some q ∧ Al (fun vs h2 => Al P (pBq q v vs h2)) (evEs T cl es ρ h1)) (evE T cl o ρ h)) : Al P (evE T cl (.mt m b o es) ρ h) := by
  rw [evE_mt hb]
  refine Al.bind (k.imp fun v h1 ⟨q, e, z⟩ => ?_)
  rw [e]
  exact Al.bind z
theorem al_lc {P : PV → PH → Prop} {e : Ex} {own : List Nat} {t : Tg} {k : Ik} {its ifs : List Ex} (q : Al (fun vs h1 => ∃ p, wkOf k vs h1 = some p ∧ Al P (lcRun (lcB T cl e own t ifs ρ) p.1 h1.length (p.2 + 1) 0 (h1 ++ [.lst []]))) (evEs T cl its ρ h)) : Al P (evE T cl (.lc e own t k its ifs) ρ h) := by
  rw [evE_lc]
  unfold evI
  rw [Res.bind_assoc]
  refine Al.bind (q.imp fun vs h1 ⟨p, e1, z⟩ => ?_)
  rw [e1]
  exact z
theorem al_lst {P : PV → PH → Prop} {es : List Ex} (k : Al (fun vs h1 => vs.length ≤ sizeLine ∧ P (.ref h1.length) (h1 ++ [.lst vs])) (evEs T cl es ρ h)) : Al P (evE T cl (.lst es) ρ h) := by
  simp only [evE]
  refine Al.bind (k.imp fun vs h1 ⟨q, z⟩ => ?_)
  rw [if_pos q]
  exact Al.ok rfl z
theorem al_tup {P : PV → PH → Prop} {es : List Ex} (k : Al (fun vs h1 => vs.length ≤ sizeLine ∧ P (.tup vs) h1) (evEs T cl es ρ h)) : Al P (evE T cl (.tup es) ρ h) := by
  simp only [evE]
  refine Al.bind (k.imp fun vs h1 ⟨q, z⟩ => ?_)
  rw [if_pos q]
  exact Al.ok rfl z
theorem al_repl {P : PV → PH → Prop} {o : Ex} {y z : List Nat} (hyz : y ≠ z) (k : Al (fun v h1 => ∃ x : List Nat, v = .str x ∧ x.length + (x.length + 1) * z.length ≤ 16777216 ∧ P (.str (Txt.replace ⟨x.toArray⟩ ⟨y.toArray⟩ ⟨z.toArray⟩).cps.toList) h1) (evE T cl o ρ h)) : Al P (evE T cl (.repl o y z) ρ h) := by
  simp only [evE]
  refine Al.bind (k.imp fun v h1 ⟨x, e, q, p⟩ => ?_)
  subst e
  simp only
  rw [if_pos (by simp [q, hyz])]
  exact Al.ok rfl p
theorem al_nx {P : Fl → PH → Prop} (k : P (.nx ρ) h) : Al P (exSs T cl W [] ρ h) := Al.ok (by simp only [exSs]) k
theorem al_for {t : Tg} {k : Ik} {its : List Ex} {b : List Sm} {w : Wk} {N : Nat} {h1 : PH} {Inv : Nat → PEnv → PH → Prop} {P : Fl → PH → Prop} (hv : evI T cl k its ρ h = .ok (w, N) h1)
    (hb : ∀ i < N, ∀ ρ h, Inv i ρ h → ∃ x, wkAt h i w = some (some x) ∧ Al (fun f h1 => match f with
      | .nx ρ1 => Inv (i + 1) ρ1 h1
      | .ct ρ1 => Inv (i + 1) ρ1 h1
      | .bk ρ1 => P (.nx ρ1) h1
      | .rt v => P (.rt v) h1) (forB T cl W t b x ρ h))
    (he : ∀ ρ h, Inv N ρ h → wkAt h N w = some none ∧ P (.nx ρ) h) (h0 : Inv 0 ρ h1) : Al P (exS T cl W (.for_ t k its b) ρ h) := by
  rw [exS_for, hv, Res.bind_ok]
  exact al_forRun hb he N 0 ρ h1 (by omega) h0
theorem al_asgt {P : Fl → PH → Prop} {is : List Nat} {e : Ex} (k : Al (fun v h1 => ∃ ρ1, bindTg (.tp is) v ρ = some ρ1 ∧ P (.nx ρ1) h1) (evE T cl e ρ h)) : Al P (exS T cl W (.asg (.tp is) e) ρ h) := by
  simp only [exS, asgTa]
  refine Al.bind (k.imp fun v h1 ⟨ρ1, e1, q⟩ => ?_)
  rw [e1]
  exact Al.ok rfl q
theorem al_no {P : Fl → PH → Prop} {c : Ex} {a r : List Sm} {h1 : PH} (e : evE T cl c ρ h = .ok (.bl false) h1) (k : Al P (exSs T cl W r ρ h1)) : Al P (exSs T cl W (.ite c a [] :: r) ρ h) :=
  al_ss (al_ite (al_evT (Al.ok e ⟨false, rfl, by simpa using al_nx k⟩)))
theorem al_yes {P : Fl → PH → Prop} {c : Ex} {a r : List Sm} {h1 : PH} (e : evE T cl c ρ h = .ok (.bl true) h1) (k : Al (fun f h2 => match f with
    | .nx ρ1 => Al P (exSs T cl W r ρ1 h2)
    | f => P f h2) (exSs T cl W a ρ h1)) : Al P (exSs T cl W (.ite c a [] :: r) ρ h) :=
  al_ss (al_ite (al_evT (Al.ok e ⟨true, rfl, by rw [if_pos rfl]; exact k⟩)))
theorem al_or {P : PV → PH → Prop} {a b : Ex} (k : Al (fun v h1 => ∃ t, pTru h1 v = some t ∧ if t then P v h1 else Al P (evE T cl b ρ h1)) (evE T cl a ρ h)) : Al P (evE T cl (.or a b) ρ h) := by
  simp only [evE]
  refine Al.bind (k.imp fun v h1 ⟨t, e, q⟩ => ?_)
  rw [e]
  cases t with
  | true => exact Al.ok rfl (by simpa using q)
  | false => simpa using q
theorem al_not {P : PV → PH → Prop} {a : Ex} (k : Al (fun v h1 => ∃ t, pTru h1 v = some t ∧ P (.bl (!t)) h1) (evE T cl a ρ h)) : Al P (evE T cl (.not a) ρ h) := by
  simp only [evE]
  refine Al.bind (k.imp fun v h1 ⟨t, e, q⟩ => ?_)
  rw [e]
  exact Al.ok rfl q
end
theorem for_det {body : PV → PEnv → PH → Res Fl} {w : Wk} {N : Nat} {item : Nat → PV} {f : Nat → PEnv} {hp : Nat → PH} (hi : ∀ i < N, wkAt (hp i) i w = some (some (item i))) (he : wkAt (hp N) N w = some none) (hb : ∀ i < N, body (item i) (f i) (hp i) = .ok (.nx (f (i + 1))) (hp (i + 1))) :
    forRun body w (N + 1) 0 (f 0) (hp 0) = .ok (.nx (f N)) (hp N) := by
  have gen : ∀ m i, i + m = N → forRun body w (m + 1) i (f i) (hp i) = .ok (.nx (f N)) (hp N) := fun m => by
    induction m with
    | zero =>
      intro i hi'
      have : i = N := by omega
      subst this
      unfold forRun
      rw [he]
    | succ m ih =>
      intro i hi'
      unfold forRun
      rw [hi i (by omega)]
      simp only
      rw [hb i (by omega)]
      exact ih (i + 1) (by omega)
  exact gen N 0 (by omega)
theorem fix_at {xs : List PV} {h : PH} {i : Nat} {x : PV} (e : xs[i]? = some x) : wkAt h i (.fix xs) = some (some x) := by simp only [wkAt, e]
theorem fix_end {xs : List PV} {h : PH} : wkAt h xs.length (.fix xs) = some none := by simp [wkAt]
section
variable {T : Tb} {W : Nat} {cl : Nat → List PV → PH → Res PV}
theorem st_nx {s : Sm} {r : List Sm} {ρ ρ1 : PEnv} {h h1 : PH} {z : Res Fl} (e : exS T cl W s ρ h = .ok (.nx ρ1) h1) (k : exSs T cl W r ρ1 h1 = z) : exSs T cl W (s :: r) ρ h = z := by
  simp only [exSs, e, Res.bind_ok]
  exact k
theorem st_rt {s : Sm} {r : List Sm} {ρ : PEnv} {h h1 : PH} {v : PV} (e : exS T cl W s ρ h = .ok (.rt v) h1) : exSs T cl W (s :: r) ρ h = .ok (.rt v) h1 := by
  simp only [exSs, e, Res.bind_ok]
theorem rb_rt {ns : Nat} {b : List Sm} {vs : List PV} {h h1 : PH} {v : PV} (e : exSs T cl W b (vs.map some ++ List.replicate (ns - vs.length) none) h = .ok (.rt v) h1) : runBody T cl W ns b vs h = .ok v h1 := by
  unfold runBody
  rw [e]
  rfl
theorem rd_rt {d : Df} {vs : List PV} {h h1 : PH} {v : PV} (hl : vs.length = d.ps.length) (e : exSs T cl W d.body (vs.map some ++ List.replicate (d.N.length - vs.length) none) h = .ok (.rt v) h1) : runD T W cl d vs h = .ok v h1 := by
  unfold runD
  rw [if_pos hl]
  exact rb_rt e
theorem for_st {t : Tg} {k : Ik} {its : List Ex} {b : List Sm} {w : Wk} {N : Nat} {ρ : PEnv} {h : PH} (item : Nat → PV) (f : Nat → PEnv) (hp : Nat → PH) (hv : evI T cl k its ρ h = .ok (w, N) (hp 0)) (h0 : ρ = f 0)
    (hi : ∀ i < N, wkAt (hp i) i w = some (some (item i))) (he : wkAt (hp N) N w = some none) (hb : ∀ i < N, forB T cl W t b (item i) (f i) (hp i) = .ok (.nx (f (i + 1))) (hp (i + 1))) :
    exS T cl W (.for_ t k its b) ρ h = .ok (.nx (f N)) (hp N) := by
  rw [exS_for, hv, Res.bind_ok, h0]
  exact for_det hi he hb
end
theorem wk_rng {b : Nat} {h : PH} (hb : b ≤ 1000000) : wkOf .rng [.int b] h = some (.fix ((List.range b).map fun (i : Nat) => .int i), b) := by
  have h3 : (b : Int) < 4611686018427387904 := by omega
  have h4 : (-4611686018427387904 : Int) ≤ b := by omega
  simp [wkOf, h3, h4]
theorem evI_rng {T : Tb} {cl : Nat → List PV → PH → Res PV} {its : List Ex} {ρ : PEnv} {h h1 : PH} {b : Nat} (he : evEs T cl its ρ h = .ok [.int b] h1) (hb : b ≤ 1000000) : evI T cl .rng its ρ h = .ok (.fix ((List.range b).map fun (i : Nat) => .int i), b) h1 := by
  unfold evI
  rw [he, Res.bind_ok, wk_rng hb]
def Dc (l b : Nat) (h : PH) : Prop := ∃ b', h[l]? = some (.dice b') ∧ b ≤ b'
def Gr (l : Nat) (h h' : PH) : Prop := h.length ≤ h'.length ∧ ∀ m, m < h.length → m ≠ l → h'[m]? = h[m]?
theorem Gr.refl (l : Nat) (h : PH) : Gr l h h := ⟨Nat.le_refl _, fun _ _ _ => rfl⟩
theorem Gr.trans {l : Nat} {a b c : PH} (x : Gr l a b) (y : Gr l b c) : Gr l a c := ⟨Nat.le_trans x.1 y.1, fun m hm hn => (y.2 m (Nat.lt_of_lt_of_le hm x.1) hn).trans (x.2 m hm hn)⟩
theorem Gr.app (l : Nat) (h g : PH) : Gr l h (h ++ g) := ⟨by simp, fun m hm _ => List.getElem?_append_left hm⟩
theorem Gr.get {l m : Nat} {h h' : PH} {o : PO} (g : Gr l h h') (e : h[m]? = some o) (hn : m ≠ l) : h'[m]? = some o := by
  rw [g.2 m (List.getElem?_eq_some_iff.mp e).1 hn]
  exact e
theorem Dc.le {l b c : Nat} {h : PH} (d : Dc l b h) (hc : c ≤ b) : Dc l c h := let ⟨b', e, q⟩ := d; ⟨b', e, Nat.le_trans hc q⟩
theorem Dc.lt {l b : Nat} {h : PH} (d : Dc l b h) : l < h.length := let ⟨_, e, _⟩ := d; (List.getElem?_eq_some_iff.mp e).1
theorem Dc.app {l b : Nat} {h : PH} (d : Dc l b h) (g : PH) : Dc l b (h ++ g) := let ⟨b', e, q⟩ := d; ⟨b', by rw [List.getElem?_append_left d.lt]; exact e, q⟩
theorem atI_lt {xs : List PV} {r : Nat} (hr : r < xs.length) : atI xs r = some xs[r] := by
  exact atI_nat (List.getElem?_eq_getElem hr)
theorem get_last {h : PH} {o : PO} : (h ++ [o])[h.length]? = some o := by simp
theorem set_last {h : PH} {o o' : PO} : (h ++ [o]).set h.length o' = h ++ [o'] := by simp
theorem lc_det {body : PV → PH → Res (Option PV)} {w : Wk} {N : Nat} {item y : Nat → PV} {h : PH} (hN : N ≤ 1000) (hi : ∀ i < N, ∀ h', wkAt h' i w = some (some (item i))) (he : ∀ h', wkAt h' N w = some none) (hb : ∀ i < N, ∀ h', body (item i) h' = .ok (some (y i)) h') :
    lcRun body w h.length (N + 1) 0 (h ++ [.lst []]) = .ok (.ref h.length) (h ++ [.lst ((List.range N).map y)]) := by
  have gen : ∀ m i, i + m = N → lcRun body w h.length (m + 1) i (h ++ [.lst ((List.range i).map y)]) = .ok (.ref h.length) (h ++ [.lst ((List.range N).map y)]) := fun m => by
    induction m with
    | zero =>
      intro i hi'
      have : i = N := by omega
      subst this
      unfold lcRun
      rw [he]
    | succ m ih =>
      intro i hi'
      unfold lcRun
      rw [hi i (by omega)]
      simp only
      rw [hb i (by omega), Res.bind_ok]
      simp only [get_last, set_last]
      have hs : ((List.range i).map y).length < sizeLine := by
        rw [List.length_map, List.length_range]
        exact Nat.lt_of_lt_of_le (Nat.lt_of_le_of_lt (by omega : i ≤ 1000) (by decide : 1000 < 1001)) (by decide)
      rw [if_pos hs]
      have := ih (i + 1) (by omega)
      rw [List.range_succ, List.map_append] at this
      exact this
  exact gen N 0 (by omega)
theorem lc_al {body : PV → PH → Res (Option PV)} {w : Wk} {N l : Nat} {item : Nat → PV} {C : PV → Prop} {h0 : PH} {P : PV → PH → Prop} (hN : N ≤ 1000) (hl : l < h0.length)
    (hi : ∀ i < N, ∀ h', wkAt h' i w = some (some (item i))) (he : ∀ h', wkAt h' N w = some none)
    (hb : ∀ i < N, ∀ b h', Dc l (b + 1) h' → Gr l h0 h' → Al (fun y h2 => (∃ v, y = some v ∧ C v) ∧ Dc l b h2 ∧ Gr l h' h2) (body (item i) h')) :
    ∀ m i b h' acc, i + m = N → h'[h0.length]? = some (.lst acc) → acc.length = i → (∀ v ∈ acc, C v) → Dc l (b + m) h' → Gr l h0 h' →
      (∀ h2 ys, h2[h0.length]? = some (.lst ys) → ys.length = N → (∀ v ∈ ys, C v) → Dc l b h2 → Gr l h0 h2 → P (.ref h0.length) h2) → Al P (lcRun body w h0.length (m + 1) i h') := fun m => by
  induction m with
  | zero =>
    intro i b h' acc hi' ea hl2 hc d g k
    have : i = N := by omega
    subst this
    unfold lcRun
    rw [he]
    exact Al.ok rfl (k h' acc ea hl2 hc d g)
  | succ m ih =>
    intro i b h' acc hi' ea hl2 hc d g k
    unfold lcRun
    rw [hi i (by omega)]
    refine Al.bind ((hb i (by omega) (b + m) h' d g).imp fun y h2 ⟨⟨v, ey, cv⟩, d2, g2⟩ => ?_)
    subst ey
    have e2 : h2[h0.length]? = some (.lst acc) := g2.get ea (Nat.ne_of_gt hl)
    have hs : acc.length < sizeLine := Nat.lt_of_lt_of_le (show acc.length < 1001 by omega) (by decide)
    have hlt : h0.length < h2.length := (List.getElem?_eq_some_iff.mp e2).1
    simp only [e2]
    rw [if_pos hs]
    refine ih (i + 1) b _ (acc ++ [v]) (by omega) ?_ (by simp [hl2]) (fun u hu => ?_) ?_ ?_ k
    · rw [List.getElem?_set_self hlt]
    · rcases List.mem_append.mp hu with hu | hu
      · exact hc u hu
      · rw [List.mem_singleton.mp hu]; exact cv
    · obtain ⟨b', q1, q2⟩ := d2
      exact ⟨b', by rw [List.getElem?_set_ne (Nat.ne_of_gt hl)]; exact q1, q2⟩
    · have g3 := g.trans g2
      exact ⟨by simpa using g3.1, fun m' hm hn => by rw [List.getElem?_set_ne (Nat.ne_of_gt hm)]; exact g3.2 m' hm hn⟩
theorem datum_int {h : PH} {a : Int} : datum h (.int a) = some (.int a) := rfl
theorem pEq_int {h : PH} {a b : Int} : pEq h (.int a) (.int b) = some (decide (a = b)) := by
  have e : pEq h (.int a) (.int b) = some (PyData.eqv (.int a) (.int b)) := by
    unfold pEq
    rw [datum_int, datum_int]
  rw [e]
  unfold PyData.eqv
  by_cases q : a = b <;> simp [q]
theorem pEq_bb {h : PH} {a b : Bool} : pEq h (.bl a) (.bl b) = some (a == b) := by
  show some (PyData.eqv (.bool a) (.bool b)) = _
  unfold PyData.eqv
  rfl
theorem datum_str {h : PH} {x : List Nat} (hx : PyData.strOk ⟨x.toArray⟩ = true) : datum h (.str x) = some (.str ⟨x.toArray⟩) := by
  unfold datum
  simp only [toD]
  rw [if_pos]
  unfold SeqAt.shaped
  simp [PyData.canLay0, hx, PyData.depth]
theorem pEq_ss {h : PH} {x y : List Nat} (hx : PyData.strOk ⟨x.toArray⟩ = true) (hy : PyData.strOk ⟨y.toArray⟩ = true) : pEq h (.str x) (.str y) = some (decide (x = y)) := by
  unfold pEq
  rw [datum_str hx, datum_str hy]
  simp only [PyData.eqv]
  congr 1
  by_cases e : x = y
  · subst e; simp
  · simp [e]
section
variable {T : Tb} {W : Nat} {cl : Nat → List PV → PH → Res PV} {ρ : PEnv} {h : PH}
theorem sIx_k {n d k : Nat} (h : k ≤ n) : HT.sIx n d (some (k : Int)) = k := by rw [HT.sIx_nat]; omega
theorem sl_to {x : List Nat} {i j k : Nat} (hi : ρ[i]? = some (some (.str x))) (hj : ρ[j]? = some (some (.int k))) (hk : k ≤ x.length) (hs : x.length ≤ sizeLine) : evE T cl (.sl (.var i) .nop (.var j)) ρ h = .ok (.str (x.take k)) h := by
  simp only [evE, partR, hi, hj, Res.bind_ok, pSl, hs, if_true, cut, HT.sIx_none, sIx_k hk, List.drop_zero, Nat.sub_zero]
theorem sl_from {x : List Nat} {i j k : Nat} (hi : ρ[i]? = some (some (.str x))) (hj : ρ[j]? = some (some (.int k))) (hk : k + 1 ≤ x.length) (hs : x.length ≤ sizeLine) : evE T cl (.sl (.var i) (.bin .add (.var j) (.con (.int 1))) .nop) ρ h = .ok (.str (x.drop (k + 1))) h := by
  have e : (k : Int) + 1 = ((k + 1 : Nat) : Int) := by omega
  simp only [evE, partR, hi, hj, Res.bind_ok, pBin, pSl, hs, if_true, cut, HT.sIx_none, e, sIx_k hk]
  rw [List.take_of_length_le (by simp)]
theorem sl_mid {x : List Nat} {i j m k q : Nat} (hi : ρ[i]? = some (some (.str x))) (hj : ρ[j]? = some (some (.int k))) (hm : ρ[m]? = some (some (.int q))) (hk : k + 1 ≤ x.length) (hq : q ≤ x.length) (hs : x.length ≤ sizeLine) : evE T cl (.sl (.var i) (.bin .add (.var j) (.con (.int 1))) (.var m)) ρ h = .ok (.str ((x.drop (k + 1)).take (q - (k + 1)))) h := by
  have e : (k : Int) + 1 = ((k + 1 : Nat) : Int) := by omega
  simp only [evE, partR, hi, hj, hm, Res.bind_ok, pBin, pSl, hs, if_true, cut, HT.sIx_none, e, sIx_k hk, sIx_k hq]
theorem e_add {a b : Ex} {x y : List Nat} {h1 h2 : PH} (ha : evE T cl a ρ h = .ok (.str x) h1) (hb : evE T cl b ρ h1 = .ok (.str y) h2) (hs : x.length + y.length ≤ sizeLine) : evE T cl (.bin .add a b) ρ h = .ok (.str (x ++ y)) h2 := by
  simp only [evE, ha, hb, Res.bind_ok, pBin, hs, if_true]
theorem e_ixs {x : List Nat} {i j k : Nat} (hi : ρ[i]? = some (some (.str x))) (hj : ρ[j]? = some (some (.int k))) (hk : k < x.length) (hs : x.length ≤ sizeLine) : evE T cl (.ix (.var i) (.var j)) ρ h = .ok (.str [x.getD k 0]) h := by
  have e : atI x (k : Int) = some (x.getD k 0) := by
    rw [show x.getD k 0 = x[k] by simp [hk]]
    simp [atI, ixN, hk]
  simp only [evE, hi, hj, Res.bind_ok, pIx, hs, if_true, e]
theorem e_var {i : Nat} {v : PV} (e : ρ[i]? = some (some v)) : evE T cl (.var i) ρ h = .ok v h := by simp only [evE, e]
theorem e_eqs {a b : Ex} {x y : List Nat} {h1 h2 : PH} (ha : evE T cl a ρ h = .ok (.str x) h1) (hb : evE T cl b ρ h1 = .ok (.str y) h2) (hx : PyData.strOk ⟨x.toArray⟩ = true) (hy : PyData.strOk ⟨y.toArray⟩ = true) : evE T cl (.cmp .eq a b) ρ h = .ok (.bl (decide (x = y))) h2 := by
  simp only [evE, ha, hb, Res.bind_ok, pCmp, pEq_ss hx hy, ob]
theorem e_eqi {a b : Ex} {x y : Int} {h1 h2 : PH} (ha : evE T cl a ρ h = .ok (.int x) h1) (hb : evE T cl b ρ h1 = .ok (.int y) h2) : evE T cl (.cmp .eq a b) ρ h = .ok (.bl (decide (x = y))) h2 := by
  simp only [evE, ha, hb, Res.bind_ok, pCmp, pEq_int, ob]
theorem e_nei {a b : Ex} {x y : Int} {h1 h2 : PH} (ha : evE T cl a ρ h = .ok (.int x) h1) (hb : evE T cl b ρ h1 = .ok (.int y) h2) : evE T cl (.cmp .ne a b) ρ h = .ok (.bl (!decide (x = y))) h2 := by
  simp only [evE, ha, hb, Res.bind_ok, pCmp, pEq_int, ob, Option.map_some]
theorem e_eqb {a b : Ex} {x y : Bool} {h1 h2 : PH} (ha : evE T cl a ρ h = .ok (.bl x) h1) (hb : evE T cl b ρ h1 = .ok (.bl y) h2) : evE T cl (.cmp .eq a b) ρ h = .ok (.bl (x == y)) h2 := by
  simp only [evE, ha, hb, Res.bind_ok, pCmp, pEq_bb, ob]
theorem e_neb {a b : Ex} {x y : Bool} {h1 h2 : PH} (ha : evE T cl a ρ h = .ok (.bl x) h1) (hb : evE T cl b ρ h1 = .ok (.bl y) h2) : evE T cl (.cmp .ne a b) ρ h = .ok (.bl (!(x == y))) h2 := by
  simp only [evE, ha, hb, Res.bind_ok, pCmp, pEq_bb, ob, Option.map_some]
theorem e_call1 {g f i : Nat} {v w : PV} {h1 : PH} (hg : T.glob[g]? = some (.fn f)) (e : ρ[i]? = some (some v)) (k : cl f [v] h = .ok w h1) : evE T cl (.call g [.var i]) ρ h = .ok w h1 := by
  simp only [evE, evEs, hg, e, Res.bind_ok, callG, k]
end
theorem callS_run {T : Tb} {W : Nat} {D : List Df} {sp : Nat → Option (List PV → PH → Res PV)} {n i : Nat} {d : Df} {vs : List PV} {h : PH} (hd : D[i]? = some d) (hs : sp i = none) : callS T W D sp (n + 1) i vs h = runD T W (callS T W D sp n) d vs h := by
  simp only [callS, hd, hs]
theorem callS_sp {T : Tb} {W : Nat} {D : List Df} {sp : Nat → Option (List PV → PH → Res PV)} {n i : Nat} {d : Df} {r : List PV → PH → Res PV} {vs : List PV} {h : PH} (hd : D[i]? = some d) (hs : sp i = some r) (hl : vs.length = d.ps.length) : callS T W D sp (n + 1) i vs h = r vs h := by
  simp only [callS, hd, hs]
  rw [if_pos hl]
theorem al_roll {l b : Nat} {k : Int} {h : PH} (d : Dc l (b + 1) h) (h0 : 0 < k) (h1 : k < 2 ^ 62) : Al (fun v h' => (∃ r : Nat, (r : Int) < k ∧ v = .int r) ∧ Dc l b h' ∧ Gr l h h') (spRoll [.ref l, .int k] h) := by
  obtain ⟨b', e, hb⟩ := d
  obtain ⟨b2, rfl⟩ : ∃ b2, b' = b2 + 1 := ⟨b' - 1, by omega⟩
  unfold spRoll
  simp only [e]
  rw [if_pos ⟨h0, h1⟩]
  refine .draw fun r hr => .ret ⟨⟨r, by omega, rfl⟩, ⟨b2, ?_, by omega⟩, by simp, fun m hm hn => ?_⟩
  · rw [List.getElem?_set_self (List.getElem?_eq_some_iff.mp e).1]
  · rw [List.getElem?_set_ne (Ne.symm hn)]
theorem al_dice {i : Nat} {xs : List PV} {h : PH} (hx : (intsOf xs).isSome = true) (hi : i < 100) : spDice [.frk xs, .int i] h = .ok (.ref h.length) (h ++ [.dice (2 ^ 63)]) := if_pos ⟨hx, by omega, by omega⟩
theorem ints_some : ∀ l : List Int, (intsOf (l.map .int)).isSome = true
  | [] => rfl
  | a :: l => by
    obtain ⟨w, e⟩ := Option.isSome_iff_exists.mp (ints_some l)
    simp only [List.map_cons, intsOf, e, Option.map_some, Option.isSome_some]
end Mn
set_option Elab.async false
set_option linter.all false
set_option maxRecDepth 100000
set_option maxHeartbeats 1000000
namespace Mn
open PySem PySem.Spec L2 PyProof.Rows CwR
section
variable {T : Tb} {W : Nat} {cl : Nat → List PV → PH → Res PV} {ρ : PEnv} {h h1 h2 h3 : PH}
theorem e_con {v : PV} : evE T cl (.con v) ρ h = .ok v h := by simp only [evE]
theorem e_glob {g : Nat} {v : PV} (e : T.glob[g]? = some v) : evE T cl (.glob g) ρ h = .ok v h := by simp only [evE, e]
theorem e_bty {f : Bi} {n : String} (e : f.tyn = some n) : evE T cl (.bty f) ρ h = .ok (.ty n) h := by simp only [evE, e]
theorem e_bin {op : Bop} {a b : Ex} {v w : PV} {r : Res PV} (ha : evE T cl a ρ h = .ok v h1) (hb : evE T cl b ρ h1 = .ok w h2) (k : pBin op v w h2 = r) : evE T cl (.bin op a b) ρ h = r := by
  simp only [evE, ha, hb, Res.bind_ok]; exact k
theorem e_addi {a b : Ex} {x y : Int} (ha : evE T cl a ρ h = .ok (.int x) h1) (hb : evE T cl b ρ h1 = .ok (.int y) h2) : evE T cl (.bin .add a b) ρ h = .ok (.int (x + y)) h2 := e_bin ha hb rfl
theorem e_subi {a b : Ex} {x y : Int} (ha : evE T cl a ρ h = .ok (.int x) h1) (hb : evE T cl b ρ h1 = .ok (.int y) h2) : evE T cl (.bin .sub a b) ρ h = .ok (.int (x - y)) h2 := e_bin ha hb rfl
theorem e_neg {a : Ex} {x : Int} (ha : evE T cl a ρ h = .ok (.int x) h1) : evE T cl (.neg a) ρ h = .ok (.int (-x)) h1 := by
  simp only [evE, ha, Res.bind_ok]
theorem e_cmp {op : Cop} {a b : Ex} {v w : PV} {r : Res PV} (ha : evE T cl a ρ h = .ok v h1) (hb : evE T cl b ρ h1 = .ok w h2) (k : pCmp op v w h2 = r) : evE T cl (.cmp op a b) ρ h = r := by
  simp only [evE, ha, hb, Res.bind_ok]; exact k
theorem e_chn {o1 o2 : Cop} {a b c : Ex} {u v w : PV} {t t2 : Bool} (ha : evE T cl a ρ h = .ok u h1) (hb : evE T cl b ρ h1 = .ok v h2) (k : pCmp o1 u v h2 = .ok (.bl t) h2) (hc : t = true → evE T cl c ρ h2 = .ok w h3 ∧ pCmp o2 v w h3 = .ok (.bl t2) h2) :
    evE T cl (.chn o1 o2 a b c) ρ h = .ok (.bl (t && t2)) h2 := by
  simp only [evE, ha, hb, Res.bind_ok, k]
  cases t with
  | true =>
    obtain ⟨k1, k2⟩ := hc rfl
    simp only [k1, Res.bind_ok, k2, Bool.true_and]
  | false => simp only [Bool.false_and]
theorem e_ix {o i : Ex} {v w : PV} {r : Res PV} (ha : evE T cl o ρ h = .ok v h1) (hb : evE T cl i ρ h1 = .ok w h2) (k : pIx v w h2 = r) : evE T cl (.ix o i) ρ h = r := by
  simp only [evE, ha, hb, Res.bind_ok]; exact k
theorem e_ixT {o i : Ex} {xs : List PV} {j : Int} {x : PV} (ha : evE T cl o ρ h = .ok (.tup xs) h1) (hb : evE T cl i ρ h1 = .ok (.int j) h2) (k : atI xs j = some x) : evE T cl (.ix o i) ρ h = .ok x h2 := e_ix ha hb (by simp only [pIx, k])
def isPart (e : Ex) : Prop := ∀ r h, partR e r h = r.bind fun v h1 => match v with
  | .int i => .ok (some i) h1
  | _ => .stuck
theorem partR_nop (r : Res PV) (h : PH) : partR .nop r h = .ok none h := rfl
theorem e_slT {o lo hi : Ex} {xs : List PV} {i j : Int} (pl : isPart lo) (pu : isPart hi) (ha : evE T cl o ρ h = .ok (.tup xs) h1) (hl : evE T cl lo ρ h1 = .ok (.int i) h2) (hu : evE T cl hi ρ h2 = .ok (.int j) h3) : evE T cl (.sl o lo hi) ρ h = .ok (.tup (cut xs (some i) (some j))) h3 := by
  simp only [evE, ha, Res.bind_ok, pl _ _, pu _ _, hl, hu, pSl]
theorem e_slF {o lo : Ex} {xs : List PV} {i : Int} (pl : isPart lo) (ha : evE T cl o ρ h = .ok (.tup xs) h1) (hl : evE T cl lo ρ h1 = .ok (.int i) h2) : evE T cl (.sl o lo .nop) ρ h = .ok (.tup (cut xs (some i) none)) h2 := by
  simp only [evE, ha, Res.bind_ok, pl _ _, hl, pSl, partR_nop]
theorem e_slU {o hi : Ex} {xs : List PV} {j : Int} (pu : isPart hi) (ha : evE T cl o ρ h = .ok (.tup xs) h1) (hu : evE T cl hi ρ h1 = .ok (.int j) h2) : evE T cl (.sl o .nop hi) ρ h = .ok (.tup (cut xs none (some j))) h2 := by
  simp only [evE, ha, Res.bind_ok, pu _ _, hu, pSl, partR_nop]
theorem e_nil : evEs T cl [] ρ h = .ok [] h := by simp only [evEs]
theorem e_cons {e : Ex} {es : List Ex} {v : PV} {vs : List PV} (he : evE T cl e ρ h = .ok v h1) (hs : evEs T cl es ρ h1 = .ok vs h2) (hn : ∀ x, e ≠ .star x := by intro x q; cases q) : evEs T cl (e :: es) ρ h = .ok (v :: vs) h2 := by
  rw [evEs_cons hn, he, Res.bind_ok, hs, Res.bind_ok]
theorem e_one {e : Ex} {v : PV} (he : evE T cl e ρ h = .ok v h1) (hn : ∀ x, e ≠ .star x := by intro x q; cases q) : evEs T cl [e] ρ h = .ok [v] h1 := e_cons he e_nil hn
theorem e_two {e e' : Ex} {v w : PV} (he : evE T cl e ρ h = .ok v h1) (he' : evE T cl e' ρ h1 = .ok w h2) (hn : ∀ x, e ≠ .star x := by intro x q; cases q) (hn' : ∀ x, e' ≠ .star x := by intro x q; cases q) : evEs T cl [e, e'] ρ h = .ok [v, w] h2 := e_cons he (e_one he' hn') hn
theorem e_tup {es : List Ex} {vs : List PV} (he : evEs T cl es ρ h = .ok vs h1) (hl : vs.length ≤ 1000) : evE T cl (.tup es) ρ h = .ok (.tup vs) h1 := by
  simp only [evE, he, Res.bind_ok]
  rw [if_pos (Nat.le_trans hl (by decide))]
theorem e_lst {es : List Ex} {vs : List PV} (he : evEs T cl es ρ h = .ok vs h1) (hl : vs.length ≤ 1000) : evE T cl (.lst es) ρ h = .ok (.ref h1.length) (h1 ++ [.lst vs]) := by
  simp only [evE, he, Res.bind_ok]
  rw [if_pos (Nat.le_trans hl (by decide))]
theorem e_bi {f : Bi} {es : List Ex} {vs : List PV} {r : Res PV} (he : evEs T cl es ρ h = .ok vs h1) (k : pBi T f vs h1 = r) : evE T cl (.bi f es) ρ h = r := by
  simp only [evE, he, Res.bind_ok]; exact k
theorem e_call {g f : Nat} {es : List Ex} {vs : List PV} {r : Res PV} (hg : T.glob[g]? = some (.fn f)) (he : evEs T cl es ρ h = .ok vs h1) (k : cl f vs h1 = r) : evE T cl (.call g es) ρ h = r := by
  simp only [evE, hg, callG, he, Res.bind_ok]; exact k
theorem e_not {a : Ex} {b : Bool} (ha : evE T cl a ρ h = .ok (.bl b) h1) : evE T cl (.not a) ρ h = .ok (.bl (!b)) h1 := by
  simp only [evE, ha, Res.bind_ok, pTru]
theorem e_and {a b : Ex} {t u : Bool} (ha : evE T cl a ρ h = .ok (.bl t) h1) (hb : t = true → evE T cl b ρ h1 = .ok (.bl u) h1) : evE T cl (.and a b) ρ h = .ok (.bl (t && u)) h1 := by
  simp only [evE, ha, Res.bind_ok, pTru]
  cases t with
  | true => simp only [hb rfl, Bool.true_and]
  | false => simp only [Bool.false_and]
theorem e_or {a b : Ex} {t u : Bool} (ha : evE T cl a ρ h = .ok (.bl t) h1) (hb : t = false → evE T cl b ρ h1 = .ok (.bl u) h1) : evE T cl (.or a b) ρ h = .ok (.bl (t || u)) h1 := by
  simp only [evE, ha, Res.bind_ok, pTru]
  cases t with
  | true => simp only [Bool.true_or]
  | false => simp only [hb rfl, Bool.false_or]
theorem e_andF {a b : Ex} (ha : evE T cl a ρ h = .ok (.bl false) h1) : evE T cl (.and a b) ρ h = .ok (.bl false) h1 := by
  simp only [evE, ha, Res.bind_ok, pTru]
theorem e_andT {a b : Ex} {r : Res PV} (ha : evE T cl a ρ h = .ok (.bl true) h1) (hb : evE T cl b ρ h1 = r) : evE T cl (.and a b) ρ h = r := by
  simp only [evE, ha, Res.bind_ok, pTru]; exact hb
theorem e_orT {a b : Ex} (ha : evE T cl a ρ h = .ok (.bl true) h1) : evE T cl (.or a b) ρ h = .ok (.bl true) h1 := by
  simp only [evE, ha, Res.bind_ok, pTru]
theorem e_orF {a b : Ex} {r : Res PV} (ha : evE T cl a ρ h = .ok (.bl false) h1) (hb : evE T cl b ρ h1 = r) : evE T cl (.or a b) ρ h = r := by
  simp only [evE, ha, Res.bind_ok, pTru]; exact hb
theorem e_ife {c a b : Ex} {t : Bool} {r : Res PV} (hc : evE T cl c ρ h = .ok (.bl t) h1) (ha : t = true → evE T cl a ρ h1 = r) (hb : t = false → evE T cl b ρ h1 = r) : evE T cl (.ife c a b) ρ h = r := by
  simp only [evE, hc, Res.bind_ok, pTru]
  cases t with
  | true => exact ha rfl
  | false => exact hb rfl
theorem t_bl {c : Ex} {b : Bool} (hc : evE T cl c ρ h = .ok (.bl b) h1) : evT T cl c ρ h = .ok b h1 := by
  simp only [evT, hc, Res.bind_ok, pTru]
theorem s_asg {i : Nat} {e : Ex} {v : PV} (he : evE T cl e ρ h = .ok v h1) : exS T cl W (.asg (.nm i) e) ρ h = .ok (.nx (ρ.set i (some v))) h1 := by
  simp only [exS, he, Res.bind_ok, asgTa]
theorem s_asgt {is : List Nat} {e : Ex} {v : PV} {ρ1 : PEnv} (he : evE T cl e ρ h = .ok v h1) (hb : bindTg (.tp is) v ρ = some ρ1) : exS T cl W (.asg (.tp is) e) ρ h = .ok (.nx ρ1) h1 := by
  simp only [exS, he, Res.bind_ok, asgTa, hb]
theorem s_ex {e : Ex} {v : PV} (he : evE T cl e ρ h = .ok v h1) : exS T cl W (.ex e) ρ h = .ok (.nx ρ) h1 := by
  simp only [exS, he, Res.bind_ok]
theorem s_ret {e : Ex} {v : PV} (he : evE T cl e ρ h = .ok v h1) : exS T cl W (.ret e) ρ h = .ok (.rt v) h1 := by
  simp only [exS, he, Res.bind_ok]
theorem s_nil : exSs T cl W [] ρ h = .ok (.nx ρ) h := by simp only [exSs]
theorem st_no {c : Ex} {a r : List Sm} {z : Res Fl} (hc : evE T cl c ρ h = .ok (.bl false) h1) (k : exSs T cl W r ρ h1 = z) : exSs T cl W (.ite c a [] :: r) ρ h = z :=
  st_nx (by simp only [exS, t_bl hc, Res.bind_ok, Bool.false_eq_true, if_false]; exact s_nil) k
theorem st_yes {c e : Ex} {r : List Sm} {v : PV} (hc : evE T cl c ρ h = .ok (.bl true) h1) (he : evE T cl e ρ h1 = .ok v h2) : exSs T cl W (.ite c [.ret e] [] :: r) ρ h = .ok (.rt v) h2 :=
  st_rt (by simp only [exS, t_bl hc, Res.bind_ok, if_true]; exact st_rt (s_ret he))
end
section
variable {T : Tb} {W : Nat} {cl : Nat → List PV → PH → Res PV} {ρ : PEnv} {h h1 : PH}
theorem lc_gen {e : Ex} {own : List Nat} {t : Tg} {k : Ik} {its ifs : List Ex} {xs : List PV} {w : Wk} (p : PV → Bool) (f : PV → PV) (hv : evI T cl k its ρ h = .ok (w, xs.length) h1) (hw : ∀ h' : PH, (∀ m < h1.length, h'[m]? = h1[m]?) → ∀ i, wkAt h' i w = some xs[i]?) (hN : xs.length ≤ 1000)
    (hb : ∀ x ∈ xs, ∀ h' : PH, h1.length ≤ h'.length → (∀ m < h1.length, h'[m]? = h1[m]?) → lcB T cl e own t ifs ρ x h' = .ok (if p x then some (f x) else none) h') :
    evE T cl (.lc e own t k its ifs) ρ h = .ok (.ref h1.length) (h1 ++ [.lst ((xs.filter p).map f)]) := by
  rw [evE_lc, hv]
  simp only [Res.bind_ok]
  have gen : ∀ m i, i + m = xs.length → lcRun (lcB T cl e own t ifs ρ) w h1.length (m + 1) i (h1 ++ [.lst (((xs.take i).filter p).map f)]) = .ok (.ref h1.length) (h1 ++ [.lst ((xs.filter p).map f)]) := fun m => by
    induction m with
    | zero =>
      intro i hi
      have : i = xs.length := by omega
      subst this
      unfold lcRun
      rw [hw _ (fun m hm => List.getElem?_append_left hm), List.getElem?_eq_none (Nat.le_refl _), List.take_length]
    | succ m ih =>
      intro i hi
      have hlt : i < xs.length := by omega
      unfold lcRun
      rw [hw _ (fun m hm => List.getElem?_append_left hm), List.getElem?_eq_getElem hlt]
      simp only
      rw [hb _ (List.getElem_mem hlt) _ (by simp) (fun m hm => List.getElem?_append_left hm), Res.bind_ok]
      have et : (xs.take (i + 1)).filter p = (xs.take i).filter p ++ (if p xs[i] then [xs[i]] else []) := by
        rw [List.take_succ, List.getElem?_eq_getElem hlt, List.filter_append]
        simp [List.filter_cons]
      by_cases hp : p xs[i] = true
      · simp only [hp, if_true, get_last, set_last]
        have hsz : (((xs.take i).filter p).map f).length < sizeLine := by
          rw [List.length_map]
          have := List.length_filter_le p (xs.take i)
          have h2 : (xs.take i).length ≤ 1000 := by simp; omega
          exact Nat.lt_of_lt_of_le (show _ < 1001 by omega) (by decide)
        rw [if_pos hsz]
        have k := ih (i + 1) (by omega)
        rw [et, if_pos hp, List.map_append] at k
        exact k
      · rw [if_neg hp]
        simp only
        have k := ih (i + 1) (by omega)
        rw [et, if_neg hp, List.append_nil] at k
        exact k
  have k := gen xs.length 0 (by omega)
  simpa using k
theorem evI_row {src : Ex} {xs : List PV} (hs : evE T cl src ρ h = .ok (.tup xs) h1) : evI T cl .seq [src] ρ h = .ok (.fix xs, xs.length) h1 := by
  have ns : ∀ x, src ≠ .star x := fun x q => by subst q; simp [evE] at hs
  unfold evI
  rw [evEs_cons ns, hs]
  simp only [Res.bind_ok, evEs, wkOf]
theorem evI_ref {src : Ex} {xs : List PV} {l : Nat} (hs : evE T cl src ρ h = .ok (.ref l) h1) (hl : h1[l]? = some (.lst xs)) : evI T cl .seq [src] ρ h = .ok (.lst l, xs.length) h1 := by
  have ns : ∀ x, src ≠ .star x := fun x q => by subst q; simp [evE] at hs
  unfold evI
  rw [evEs_cons ns, hs]
  simp only [Res.bind_ok, evEs, wkOf, lstAt, hl, Option.map_some]
theorem lc_row {e src : Ex} {own : List Nat} {t : Tg} {ifs : List Ex} {xs : List PV} (p : PV → Bool) (f : PV → PV) (hs : evE T cl src ρ h = .ok (.tup xs) h1) (hN : xs.length ≤ 1000)
    (hb : ∀ x ∈ xs, ∀ h' : PH, h1.length ≤ h'.length → (∀ m < h1.length, h'[m]? = h1[m]?) → lcB T cl e own t ifs ρ x h' = .ok (if p x then some (f x) else none) h') :
    evE T cl (.lc e own t .seq [src] ifs) ρ h = .ok (.ref h1.length) (h1 ++ [.lst ((xs.filter p).map f)]) := lc_gen p f (evI_row hs) (fun _ _ _ => rfl) hN hb
theorem lc_ref {e src : Ex} {own : List Nat} {t : Tg} {ifs : List Ex} {xs : List PV} {l : Nat} (p : PV → Bool) (f : PV → PV) (hs : evE T cl src ρ h = .ok (.ref l) h1) (hl : h1[l]? = some (.lst xs)) (hN : xs.length ≤ 1000)
    (hb : ∀ x ∈ xs, ∀ h' : PH, h1.length ≤ h'.length → (∀ m < h1.length, h'[m]? = h1[m]?) → lcB T cl e own t ifs ρ x h' = .ok (if p x then some (f x) else none) h') :
    evE T cl (.lc e own t .seq [src] ifs) ρ h = .ok (.ref h1.length) (h1 ++ [.lst ((xs.filter p).map f)]) := lc_gen p f (evI_ref hs hl) (fun h' hh i => by simp only [wkAt, lstAt, hh l (List.getElem?_eq_some_iff.mp hl).1, hl, Option.map_some]) hN hb
theorem lc_all {e : Ex} {own : List Nat} {t : Tg} {k : Ik} {its : List Ex} {xs : List PV} {w : Wk} (f : PV → PV) (hv : evI T cl k its ρ h = .ok (w, xs.length) h1) (hw : ∀ h' : PH, (∀ m < h1.length, h'[m]? = h1[m]?) → ∀ i, wkAt h' i w = some xs[i]?) (hN : xs.length ≤ 1000)
    (hb : ∀ x ∈ xs, ∀ h' : PH, h1.length ≤ h'.length → (∀ m < h1.length, h'[m]? = h1[m]?) → lcB T cl e own t [] ρ x h' = .ok (some (f x)) h') :
    evE T cl (.lc e own t k its []) ρ h = .ok (.ref h1.length) (h1 ++ [.lst (xs.map f)]) := by
  have k := lc_gen (fun _ => true) f hv hw hN (fun x hx h' a b => by simpa using hb x hx h' a b)
  rw [List.filter_eq_self.mpr (fun _ _ => rfl)] at k
  exact k
theorem fix_all {xs : List PV} {h' : PH} (i : Nat) : wkAt h' i (.fix xs) = some xs[i]? := rfl
theorem lst_all {xs : List PV} {l : Nat} (hl : h1[l]? = some (.lst xs)) (h' : PH) (hh : ∀ m < h1.length, h'[m]? = h1[m]?) (i : Nat) : wkAt h' i (.lst l) = some xs[i]? := by
  simp only [wkAt, lstAt, hh l (List.getElem?_eq_some_iff.mp hl).1, hl, Option.map_some]
theorem evI_rng2 {its : List Ex} {a b : Int} (he : evEs T cl its ρ h = .ok [.int a, .int b] h1) (ha : -1000000 ≤ a) (ha' : a ≤ 1000000) (hb : -1000000 ≤ b) (hb' : b ≤ 1000000) : evI T cl .rng its ρ h = .ok (.fix ((List.range (b - a).toNat).map fun (m : Nat) => .int (a + m)), (b - a).toNat) h1 := by
  unfold evI
  rw [he]
  have h3 : (-4611686018427387904 : Int) ≤ a := by omega
  have h4 : a < 4611686018427387904 := by omega
  have h5 : (-4611686018427387904 : Int) ≤ b := by omega
  have h6 : b < 4611686018427387904 := by omega
  simp [wkOf, h3, h4, h5, h6]
theorem e_app {m : Nat} {o e : Ex} {l : Nat} {xs ys : List PV} {x : PV} {h2 : PH} (ho : evE T cl o ρ h = .ok (.ref l) h1) (hl : h1[l]? = some (.lst xs)) (he : evE T cl e ρ h1 = .ok x h2) (hl2 : h2[l]? = some (.lst ys)) (hs : ys.length ≤ 1000) (hn : ∀ x, e ≠ .star x := by intro x q; cases q) :
    evE T cl (.mt m .append o [e]) ρ h = .ok .non (h2.set l (.lst (ys ++ [x]))) := by
  rw [evE_mt rfl, ho]
  simp only [Res.bind_ok, kindAt, hl, Bq.of]
  rw [evEs_cons hn, he]
  simp only [Res.bind_ok, evEs, pBq, hl2]
  rw [if_pos (Nat.lt_of_le_of_lt hs (by decide))]
theorem lcB_all {e : Ex} {own : List Nat} {t : Tg} {x y : PV} {ρ1 : PEnv} (hb : bindTg t x (own.foldr (fun i r => r.set i none) ρ) = some ρ1) (he : evE T cl e ρ1 h = .ok y h) : lcB T cl e own t [] ρ x h = .ok (some y) h := by
  unfold lcB
  rw [hb]
  simp only [evIf, Res.bind_ok, if_true, he]
  rfl
theorem lcB_if {e c : Ex} {own : List Nat} {t : Tg} {x y : PV} {b : Bool} {ρ1 : PEnv} (hb : bindTg t x (own.foldr (fun i r => r.set i none) ρ) = some ρ1) (hc : evE T cl c ρ1 h = .ok (.bl b) h) (he : b = true → evE T cl e ρ1 h = .ok y h) : lcB T cl e own t [c] ρ x h = .ok (if b then some y else none) h := by
  unfold lcB
  rw [hb]
  cases b with
  | true =>
    simp only [evIf, hc, pTru, Res.bind_ok, if_true, he rfl]
    rfl
  | false =>
    simp only [evIf, hc, pTru, Res.bind_ok, Bool.false_eq_true, if_false]
    rfl
theorem wh_det {c : PEnv → PH → Res Bool} {body : PEnv → PH → Res Fl} {f : Nat → PEnv} {N : Nat} {h : PH} (hc : ∀ i < N, c (f i) h = .ok true h) (he : c (f N) h = .ok false h) (hb : ∀ i < N, body (f i) h = .ok (.nx (f (i + 1))) h) :
    ∀ m i W, i + m = N → m < W → whRun c body W (f i) h = .ok (.nx (f N)) h := fun m => by
  induction m with
  | zero =>
    intro i W hi hW
    obtain ⟨W', rfl⟩ : ∃ W', W = W' + 1 := ⟨W - 1, by omega⟩
    have : i = N := by omega
    subst this
    unfold whRun
    rw [he]
    rfl
  | succ m ih =>
    intro i W hi hW
    obtain ⟨W', rfl⟩ : ∃ W', W = W' + 1 := ⟨W - 1, by omega⟩
    unfold whRun
    rw [hc i (by omega)]
    simp only [Res.bind_ok, if_true]
    rw [hb i (by omega)]
    simp only [Res.bind_ok]
    exact ih (i + 1) W' (by omega) (by omega)
theorem intsOf_map : ∀ l : List Int, intsOf (l.map .int) = some l
  | [] => rfl
  | x :: l => by simp [intsOf, intsOf_map l]
theorem blsOf_map : ∀ l : List Bool, blsOf (l.map .bl) = some l
  | [] => rfl
  | x :: l => by simp [blsOf, blsOf_map l]
theorem lst_last {h : PH} {xs : List PV} : lstAt (h ++ [.lst xs]) h.length = some xs := by unfold lstAt; rw [get_last]
end
end Mn
set_option Elab.async false
set_option linter.all false
set_option maxRecDepth 100000
set_option maxHeartbeats 1000000
namespace Mn
open PySem PySem.Spec L2 PyProof.Rows CwR
mutual
def pu : PV → Bool
  | .non => true
  | .int _ => true
  | .str x => PyData.strOk ⟨x.toArray⟩
  | .tup xs => pus xs
  | _ => false
def pus : List PV → Bool
  | [] => true
  | x :: xs => pu x && pus xs
end
mutual
def pd : PV → PyData
  | .non => .none
  | .int i => .int i
  | .str x => .str ⟨x.toArray⟩
  | .tup xs => .tuple (pds xs)
  | _ => .none
def pds : List PV → List PyData
  | [] => []
  | x :: xs => pd x :: pds xs
end
mutual
def dpt : PV → Nat
  | .tup xs => dpts xs + 1
  | _ => 0
def dpts : List PV → Nat
  | [] => 0
  | x :: xs => max (dpt x) (dpts xs)
end
mutual
theorem toD_pu {de : Nat → Option PyData} : ∀ {v : PV}, pu v = true → toD de v = some (pd v)
  | .non, _ => rfl
  | .int _, _ => rfl
  | .str _, _ => rfl
  | .tup xs, h => by simp only [toD, pd, toDs_pu (show pus xs = true from h), Option.map_some]
  | .bl _, h => by cases h
  | .ref _, h => by cases h
  | .frk _, h => by cases h
  | .fn _, h => by cases h
  | .cls _, h => by cases h
  | .ty _, h => by cases h
theorem toDs_pu {de : Nat → Option PyData} : ∀ {vs : List PV}, pus vs = true → toDs de vs = some (pds vs)
  | [], _ => rfl
  | v :: vs, h => by
    obtain ⟨h1, h2⟩ := Bool.and_eq_true_iff.mp (show (pu v && pus vs) = true from h)
    simp only [toDs, toD_pu h1, toDs_pu h2, Option.map_some, pds]
end
mutual
theorem lay_pu : ∀ {v : PV}, pu v = true → PyData.canLay0 (pd v) = true
  | .non, _ => by simp [pd, PyData.canLay0]
  | .int _, _ => by simp [pd, PyData.canLay0]
  | .str x, h => by simpa [pd, PyData.canLay0] using (show PyData.strOk ⟨x.toArray⟩ = true from h)
  | .tup xs, h => by simp [pd, PyData.canLay0, lays_pu (show pus xs = true from h)]
  | .bl _, h => by cases h
  | .ref _, h => by cases h
  | .frk _, h => by cases h
  | .fn _, h => by cases h
  | .cls _, h => by cases h
  | .ty _, h => by cases h
theorem lays_pu : ∀ {vs : List PV}, pus vs = true → PyData.canLayAll0 (pds vs) = true
  | [], _ => by simp [pds, PyData.canLayAll0]
  | v :: vs, h => by
    obtain ⟨h1, h2⟩ := Bool.and_eq_true_iff.mp (show (pu v && pus vs) = true from h)
    simp [pds, PyData.canLayAll0, lay_pu h1, lays_pu h2]
end
mutual
theorem deep_pu : ∀ {v : PV}, pu v = true → PyData.depth (pd v) ≤ dpt v
  | .non, _ => by simp [pd, PyData.depth]
  | .int _, _ => by simp [pd, PyData.depth]
  | .str x, h => by simp [pd, PyData.depth]
  | .tup xs, h => by
    have := deeps_pu (show pus xs = true from h)
    simp only [pd, PyData.depth, dpt]
    omega
  | .bl _, h => by cases h
  | .ref _, h => by cases h
  | .frk _, h => by cases h
  | .fn _, h => by cases h
  | .cls _, h => by cases h
  | .ty _, h => by cases h
theorem deeps_pu : ∀ {vs : List PV}, pus vs = true → PyData.depthAll (pds vs) ≤ dpts vs
  | [], _ => by simp [pds, PyData.depthAll]
  | v :: vs, h => by
    obtain ⟨h1, h2⟩ := Bool.and_eq_true_iff.mp (show (pu v && pus vs) = true from h)
    have a := deep_pu h1
    have b := deeps_pu h2
    simp only [pds, PyData.depthAll, dpts]
    omega
end
mutual
theorem eqv_pu : ∀ {v w : PV}, pu v = true → pu w = true → (PyData.eqv (pd v) (pd w) = true ↔ v = w)
  | .non, w, _, h => by cases w <;> first | (simp [pd, PyData.eqv]; done) | cases h
  | .int _, w, _, h => by cases w <;> first | (simp [pd, PyData.eqv]; done) | cases h
  | .str x, w, _, h => by
    cases w with
    | str y =>
      simp only [pd, PyData.eqv, beq_iff_eq, PV.str.injEq]
      constructor
      · intro e
        have := congrArg (fun s : Str => s.cps.toList) e
        simpa using this
      · intro e; rw [e]
    | _ => first | (simp [pd, PyData.eqv]; done) | cases h
  | .tup xs, w, h, h2 => by
    cases w with
    | tup ys =>
      simp only [pd, PyData.eqv, PV.tup.injEq]
      exact eqvs_pu (show pus xs = true from h) (show pus ys = true from h2)
    | _ => first | (simp [pd, PyData.eqv]; done) | cases h2
  | .bl _, _, h, _ => by cases h
  | .ref _, _, h, _ => by cases h
  | .frk _, _, h, _ => by cases h
  | .fn _, _, h, _ => by cases h
  | .cls _, _, h, _ => by cases h
  | .ty _, _, h, _ => by cases h
theorem eqvs_pu : ∀ {vs ws : List PV}, pus vs = true → pus ws = true → (PyData.eqvAll (pds vs) (pds ws) = true ↔ vs = ws)
  | [], [], _, _ => by simp [pds, PyData.eqvAll]
  | [], _ :: _, _, _ => by simp [pds, PyData.eqvAll]
  | _ :: _, [], _, _ => by simp [pds, PyData.eqvAll]
  | v :: vs, w :: ws, h, h2 => by
    obtain ⟨h1, h3⟩ := Bool.and_eq_true_iff.mp (show (pu v && pus vs) = true from h)
    obtain ⟨h4, h5⟩ := Bool.and_eq_true_iff.mp (show (pu w && pus ws) = true from h2)
    simp only [pds, PyData.eqvAll, Bool.and_eq_true, eqv_pu h1 h4, eqvs_pu h3 h5, List.cons.injEq]
end
theorem datum_pu {h : PH} {v : PV} (hv : pu v = true) (hd : dpt v ≤ 60) : datum h v = some (pd v) := by
  unfold datum
  rw [toD_pu hv]
  have := deep_pu hv
  have s : SeqAt.shaped (pd v) = true := by
    unfold SeqAt.shaped
    rw [lay_pu hv, Bool.true_and]
    exact decide_eq_true (by omega)
  simp only [s, if_true]
theorem datum_lst {h : PH} {q : Nat} {xs : List PV} (e : h[q]? = some (.lst xs)) (hv : pus xs = true) (hd : dpts xs ≤ 60) : datum h (.ref q) = some (.list (pds xs)) := by
  unfold datum
  have e1 : toD (deref h 8) (.ref q) = some (.list (pds xs)) := by
    simp only [toD, deref, e, toDs_pu hv, Option.map_some]
  rw [e1]
  have := deeps_pu hv
  have s : SeqAt.shaped (.list (pds xs)) = true := by
    unfold SeqAt.shaped
    simp only [PyData.canLay0, lays_pu hv, Bool.true_and, PyData.depth]
    exact decide_eq_true (by omega)
  simp only [s, if_true]
theorem pEq_pu {h : PH} {v w : PV} (hv : pu v = true) (hw : pu w = true) (dv : dpt v ≤ 60) (dw : dpt w ≤ 60) : ∃ b, pEq h v w = some b ∧ (b = true ↔ v = w) := by
  refine ⟨_, ?_, eqv_pu hv hw⟩
  unfold pEq
  rw [datum_pu hv dv, datum_pu hw dw]
theorem pEq_ll {h : PH} {q r : Nat} {xs ys : List PV} (eq : h[q]? = some (.lst xs)) (er : h[r]? = some (.lst ys)) (hv : pus xs = true) (hw : pus ys = true) (dv : dpts xs ≤ 60) (dw : dpts ys ≤ 60) : ∃ b, pEq h (.ref q) (.ref r) = some b ∧ (b = true ↔ xs = ys) := by
  refine ⟨PyData.eqvAll (pds xs) (pds ys), ?_, eqvs_pu hv hw⟩
  unfold pEq
  rw [datum_lst eq hv dv, datum_lst er hw dw]
  simp only [PyData.eqv]
theorem pEq_is {h : PH} {v w : PV} {b : Bool} (e : ∃ b', pEq h v w = some b' ∧ (b' = true ↔ v = w)) (k : b = true ↔ v = w) : pEq h v w = some b := by
  obtain ⟨b', e1, e2⟩ := e
  rw [e1]
  congr 1
  cases b <;> cases b' <;> simp_all
theorem pEqL_is {h : PH} {q r : Nat} {xs ys : List PV} {b : Bool} (e : ∃ b', pEq h (.ref q) (.ref r) = some b' ∧ (b' = true ↔ xs = ys)) (k : b = true ↔ xs = ys) : pEq h (.ref q) (.ref r) = some b := by
  obtain ⟨b', e1, e2⟩ := e
  rw [e1]
  congr 1
  cases b <;> cases b' <;> simp_all
end Mn
set_option Elab.async false
set_option linter.all false
set_option maxRecDepth 100000
set_option maxHeartbeats 4000000
namespace Mn
open PySem PySem.Spec PyProof.Rows L2
section
variable {T : Tb} {W : Nat} {cl : Nat → List PV → PH → Res PV} {ρ : PEnv} {h h1 h2 : PH} {d b B B' q l m : Nat}
def Fr (S : List Nat) (h h' : PH) : Prop := h.length ≤ h'.length ∧ ∀ m, m < h.length → m ∉ S → h'[m]? = h[m]?
theorem Fr.refl {S : List Nat} {h : PH} : Fr S h h := ⟨Nat.le_refl _, fun _ _ _ => rfl⟩
theorem Fr.trans {S : List Nat} {a b c : PH} (x : Fr S a b) (y : Fr S b c) : Fr S a c := ⟨Nat.le_trans x.1 y.1, fun m hm hn => (y.2 m (Nat.lt_of_lt_of_le hm x.1) hn).trans (x.2 m hm hn)⟩
theorem Fr.mono {S S' : List Nat} {a b : PH} (x : Fr S a b) (k : ∀ m ∈ S, m ∈ S') : Fr S' a b := ⟨x.1, fun m hm hn => x.2 m hm fun q => hn (k m q)⟩
theorem Fr.nil {S : List Nat} {a b : PH} (x : Fr [] a b) : Fr S a b := x.mono fun _ q => by cases q
theorem Fr.app {S : List Nat} {h g : PH} : Fr S h (h ++ g) := ⟨by simp, fun m hm _ => List.getElem?_append_left hm⟩
theorem Fr.set {S : List Nat} {h : PH} {m : Nat} {o : PO} (hm : m ∈ S) : Fr S h (h.set m o) := ⟨by simp, fun k _ hn => by rw [List.getElem?_set_ne (fun q => hn (by rw [← q]; exact hm))]⟩
theorem Fr.get {S : List Nat} {m : Nat} {h h' : PH} {o : PO} (g : Fr S h h') (e : h[m]? = some o) (hn : m ∉ S) : h'[m]? = some o := by
  rw [g.2 m (List.getElem?_eq_some_iff.mp e).1 hn]
  exact e
theorem Fr.setNew {S : List Nat} {a b : PH} {m : Nat} {o : PO} (x : Fr S a b) (hm : a.length ≤ m) : Fr S a (b.set m o) := ⟨by simpa using x.1, fun k hk hn => by rw [List.getElem?_set_ne (by omega)]; exact x.2 k hk hn⟩
theorem Fr.get0 {m : Nat} {h h' : PH} {o : PO} (g : Fr [] h h') (e : h[m]? = some o) : h'[m]? = some o := g.get e (by simp)
theorem get_lt {h : PH} {m : Nat} {o : PO} (e : h[m]? = some o) : m < h.length := (List.getElem?_eq_some_iff.mp e).1
theorem set_at {h : PH} {m : Nat} {o o' : PO} (e : h[m]? = some o) : (h.set m o')[m]? = some o' := List.getElem?_set_self (get_lt e)
theorem app_at {h g : PH} {m : Nat} {o : PO} (e : h[m]? = some o) : (h ++ g)[m]? = some o := by rw [List.getElem?_append_left (get_lt e)]; exact e
theorem rd_nx {T : Tb} {W : Nat} {cl : Nat → List PV → PH → Res PV} {d : Df} {vs : List PV} {h h1 : PH} {ρ : PEnv} (hl : vs.length = d.ps.length) (e : exSs T cl W d.body (vs.map some ++ List.replicate (d.N.length - vs.length) none) h = .ok (.nx ρ) h1) : runD T W cl d vs h = .ok .non h1 := by
  unfold runD runBody
  rw [if_pos hl, e]
  rfl
theorem s_att {o e : Ex} {f l c : Nat} {v : PV} {fs : List (Nat × PV)} (he : evE T cl e ρ h = .ok v h1) (ho : evE T cl o ρ h1 = .ok (.ref l) h2) (hl : h2[l]? = some (.ins c fs)) (ha : attK T c f = some none) (hs : fs.length < 1000) : exS T cl W (.asg (.att o f) e) ρ h = .ok (.nx ρ) (h2.set l (.ins c (putN f v fs))) := by
  simp only [exS, he, Res.bind_ok, asgTa, ho, pFld, hl]
  rw [if_pos ⟨ha, hs⟩]
  rfl
theorem e_fld {o : Ex} {f l c : Nat} {v : PV} {fs : List (Nat × PV)} (ho : evE T cl o ρ h = .ok (.ref l) h1) (hl : h1[l]? = some (.ins c fs)) (ha : attK T c f = some none) (hf : fs.lookup f = some v) : evE T cl (.att o f) ρ h = .ok v h1 := by
  simp only [evE, ho, hl, ha, fldOf, hf]
theorem e_prop {o : Ex} {f l c g : Nat} {v : PV} {fs : List (Nat × PV)} (ho : evE T cl o ρ h = .ok (.ref l) h1) (hl : h1[l]? = some (.ins c fs)) (ha : attK T c f = some (some g)) (k : cl g [.ref l] h1 = .ok v h2) : evE T cl (.att o f) ρ h = .ok v h2 := by
  simp only [evE, ho, hl, ha, k, Res.noer]
theorem e_meth {o : Ex} {es : List Ex} {m l c g : Nat} {vs : List PV} {fs : List (Nat × PV)} {r : Res PV} (ho : evE T cl o ρ h = .ok (.ref l) h1) (hl : h1[l]? = some (.ins c fs)) (hf : fs.lookup m = none) (hm : ((T.cls[c]?).bind fun ci => ci.meths.lookup m) = some g) (he : evEs T cl es ρ h1 = .ok vs h2) (k : cl g (.ref l :: vs) h2 = r) : evE T cl (.mt m .none o es) ρ h = r := by
  simp only [evE, ho, hl, hf, hm, he, Res.bind_ok, k]
theorem e_lno {o : Ex} {m l c g : Nat} {i : Int} {fs : List (Nat × PV)} (ho : evE T cl o ρ h = .ok (.ref l) h1) (hl : h1[l]? = some (.ins c fs)) (hm : ((T.cls[c]?).bind fun ci => ci.meths.lookup m) = some g) (k : cl g [.ref l] h1 = .ok (.int i) h2) (h0 : 0 ≤ i) (hi : i < 1000000) : evE T cl (.lno m o) ρ h = .ok (.int i) h2 := by
  have q : i < 2 ^ 63 := by omega
  simp only [evE, ho, Res.bind_ok, hl, hm, k, Res.noer]
  rw [if_pos (by simp [h0]; omega)]
theorem e_bm {m : Nat} {b : Bm} {o : Ex} {es : List Ex} {v : PV} {vs : List PV} {q : Bq} {r : Res PV} (hb : notNone b = true) (ho : evE T cl o ρ h = .ok v h1) (hq : Bq.of b (kindAt h1 v) = some q) (he : evEs T cl es ρ h1 = .ok vs h2) (k : pBq q v vs h2 = r) : evE T cl (.mt m b o es) ρ h = r := by
  rw [evE_mt hb, ho]
  simp only [Res.bind_ok, hq, he]
  exact k
theorem forB_nm {i : Nat} {b : List Sm} {x : PV} : forB T cl W (.nm i) b x ρ h = exSs T cl W b (ρ.set i (some x)) h := rfl
theorem forB_tp {i j : Nat} {b : List Sm} {x y : PV} : forB T cl W (.tp [i, j]) b (.tup [x, y]) ρ h = exSs T cl W b ((ρ.set i (some x)).set j (some y)) h := rfl
theorem for_ex {t : Tg} {k : Ik} {its : List Ex} {b : List Sm} {w : Wk} {N : Nat} (Inv : Nat → PEnv → PH → Prop) (hv : evI T cl k its ρ h = .ok (w, N) h1) (h0 : Inv 0 ρ h1)
    (hb : ∀ i < N, ∀ ρ h, Inv i ρ h → ∃ x ρ1 h2, wkAt h i w = some (some x) ∧ forB T cl W t b x ρ h = .ok (.nx ρ1) h2 ∧ Inv (i + 1) ρ1 h2) (he : ∀ ρ h, Inv N ρ h → wkAt h N w = some none) :
    ∃ ρ1 h2, exS T cl W (.for_ t k its b) ρ h = .ok (.nx ρ1) h2 ∧ Inv N ρ1 h2 := by
  rw [exS_for, hv, Res.bind_ok]
  have gen : ∀ m i ρ h, i + m = N → Inv i ρ h → ∃ ρ1 h2, forRun (forB T cl W t b) w (m + 1) i ρ h = .ok (.nx ρ1) h2 ∧ Inv N ρ1 h2 := fun m => by
    induction m with
    | zero =>
      intro i ρ h hi I
      have : i = N := by omega
      subst this
      refine ⟨ρ, h, ?_, I⟩
      unfold forRun
      rw [he ρ h I]
    | succ m ih =>
      intro i ρ h hi I
      obtain ⟨x, ρ1, h2, e1, e2, I2⟩ := hb i (by omega) ρ h I
      obtain ⟨ρ3, h3, e3, I3⟩ := ih (i + 1) ρ1 h2 (by omega) I2
      refine ⟨ρ3, h3, ?_, I3⟩
      unfold forRun
      rw [e1]
      simp only
      rw [e2]
      exact e3
  exact gen N 0 ρ h1 (by omega) h0
theorem atI_last {xs : List PV} {x : PV} : atI (xs ++ [x]) (-1) = some x := by
  have e : ixN (xs ++ [x]).length (-1) = some xs.length := by
    unfold ixN
    rw [List.length_append, List.length_singleton]
    simp
    omega
  unfold atI
  rw [e]
  simp
theorem ixN_last {n : Nat} : ixN (n + 1) (-1) = some n := by
  unfold ixN
  simp
  omega
theorem t_andF {a b : Ex} {v : PV} (ha : evE T cl a ρ h = .ok v h1) (ht : pTru h1 v = some false) : evT T cl (.and a b) ρ h = .ok false h1 := by
  simp only [evT, evE, ha, Res.bind_ok, ht]
theorem t_andT {a b : Ex} {v : PV} (ha : evE T cl a ρ h = .ok v h1) (ht : pTru h1 v = some true) : evT T cl (.and a b) ρ h = evT T cl b ρ h1 := by
  simp only [evT, evE, ha, Res.bind_ok, ht]
theorem s_ifT {c : Ex} {a b : List Sm} {r : Res Fl} (hc : evT T cl c ρ h = .ok true h1) (k : exSs T cl W a ρ h1 = r) : exS T cl W (.ite c a b) ρ h = r := by
  simp only [exS, hc, Res.bind_ok, if_true]
  exact k
theorem s_ifF {c : Ex} {a b : List Sm} {r : Res Fl} (hc : evT T cl c ρ h = .ok false h1) (k : exSs T cl W b ρ h1 = r) : exS T cl W (.ite c a b) ρ h = r := by
  simp only [exS, hc, Res.bind_ok, Bool.false_eq_true, if_false]
  exact k
theorem e_star {e : Ex} {es : List Ex} {xs vs : List PV} {h2 : PH} (he : evE T cl e ρ h = .ok (.tup xs) h1) (k : evEs T cl es ρ h1 = .ok vs h2) : evEs T cl (.star e :: es) ρ h = .ok (xs ++ vs) h2 := by
  simp only [evEs, he, Res.bind_ok, k]
theorem e_starL {e : Ex} {es : List Ex} {xs vs : List PV} {l : Nat} {h2 : PH} (he : evE T cl e ρ h = .ok (.ref l) h1) (hl : h1[l]? = some (.lst xs)) (k : evEs T cl es ρ h1 = .ok vs h2) : evEs T cl (.star e :: es) ρ h = .ok (xs ++ vs) h2 := by
  simp only [evEs, he, Res.bind_ok, lstAt, hl, k]
theorem Fr.new {h h2 : PH} {o : PO} (f : Fr [h.length] (h ++ [o]) h2) : Fr [] h h2 := ⟨by have := f.1; simp at this; omega, fun m hm _ => by
  rw [f.2 m (by simp; omega) (by simp; omega), List.getElem?_append_left hm]⟩
theorem tru_lst {h : PH} {q : Nat} {xs : List PV} (e : h[q]? = some (.lst xs)) : pTru h (.ref q) = some (!xs.isEmpty) := by simp only [pTru, e]
theorem sz1000 {n : Nat} (h : n ≤ 1000) : n ≤ sizeLine := Nat.le_trans h (by decide)
theorem acc_ex {body : PV → PH → Res Unit} {w : Wk} {N : Nat} (Inv : Nat → PH → Prop) (hb : ∀ i < N, ∀ h, Inv i h → ∃ x h2, wkAt h i w = some (some x) ∧ body x h = .ok () h2 ∧ Inv (i + 1) h2) (he : ∀ h, Inv N h → wkAt h N w = some none) : ∀ h, Inv 0 h → ∃ h2, accRun body w (N + 1) 0 h = .ok () h2 ∧ Inv N h2 := fun h I0 => by
  have gen : ∀ m i h, i + m = N → Inv i h → ∃ h2, accRun body w (m + 1) i h = .ok () h2 ∧ Inv N h2 := fun m => by
    induction m with
    | zero =>
      intro i h hi I
      have : i = N := by omega
      subst this
      refine ⟨h, ?_, I⟩
      rw [accRun_succ, he h I]
    | succ m ih =>
      intro i h hi I
      obtain ⟨x, h2, e1, e2, I2⟩ := hb i (by omega) h I
      obtain ⟨h3, e3, I3⟩ := ih (i + 1) h2 (by omega) I2
      refine ⟨h3, ?_, I3⟩
      rw [accRun_succ, e1]
      simp only
      rw [e2]
      exact e3
  exact gen N 0 h (by omega) I0
theorem cut_nat {α : Type} {xs : List α} {i j : Nat} (h : i ≤ j) : cut xs (some (i : Int)) (some (j : Int)) = (xs.drop i).take (j - i) := by
  unfold cut
  rw [HT.sIx_nat, HT.sIx_nat]
  by_cases q : i ≤ xs.length
  · rw [Nat.min_eq_left q]
    by_cases q2 : j ≤ xs.length
    · rw [Nat.min_eq_left q2]
    · rw [Nat.min_eq_right (by omega), List.take_of_length_le (by simp), List.take_of_length_le (by simp; omega)]
  · rw [List.drop_eq_nil_of_le (by omega), List.drop_eq_nil_of_le (by omega)]
    simp
theorem cut_to {α : Type} {xs : List α} {j : Nat} : cut xs none (some (j : Int)) = xs.take j := by
  unfold cut
  rw [HT.sIx_none, HT.sIx_nat, List.drop_zero, Nat.sub_zero]
  by_cases q : j ≤ xs.length
  · rw [Nat.min_eq_left q]
  · rw [Nat.min_eq_right (by omega), List.take_of_length_le (Nat.le_refl _), List.take_of_length_le (by omega)]
theorem cut_from {α : Type} {xs : List α} {i : Nat} : cut xs (some (i : Int)) none = xs.drop i := by
  unfold cut
  rw [HT.sIx_none, HT.sIx_nat]
  by_cases q : i ≤ xs.length
  · rw [Nat.min_eq_left q, List.take_of_length_le (by simp)]
  · rw [List.drop_eq_nil_of_le (by omega), List.drop_eq_nil_of_le (by omega)]
    simp
theorem s_sub {i : Nat} {e : Ex} {a c : Int} (hi : ρ[i]? = some (some (.int a))) (he : evE T cl e ρ h = .ok (.int c) h1) : exS T cl W (.aug (.nm i) .sub e) ρ h = .ok (.nx (ρ.set i (some (.int (a - c))))) h1 := by
  simp only [exS, hi, he, Res.bind_ok]
theorem s_add {i : Nat} {e : Ex} {a c : Int} (hi : ρ[i]? = some (some (.int a))) (he : evE T cl e ρ h = .ok (.int c) h1) : exS T cl W (.aug (.nm i) .add e) ρ h = .ok (.nx (ρ.set i (some (.int (a + c))))) h1 := by
  simp only [exS, hi, he, Res.bind_ok]
theorem e_slL {o lo hi : Ex} {q : Nat} {xs : List PV} {i j : Int} (pl : isPart lo) (pu : isPart hi) (ho : evE T cl o ρ h = .ok (.ref q) h) (hl : evE T cl lo ρ h = .ok (.int i) h) (hu : evE T cl hi ρ h = .ok (.int j) h) (hq : h[q]? = some (.lst xs)) : evE T cl (.sl o lo hi) ρ h = .ok (.ref h.length) (h ++ [.lst (cut xs (some i) (some j))]) := by
  simp only [evE, ho, Res.bind_ok, pl _ _, pu _ _, hl, hu, pSl, lstAt, hq]
theorem max_sub (a : Nat) : pBi T .max [.int 0, .int ((a : Int) - 1)] h = .ok (.int ((a - 1 : Nat))) h := by
  simp only [pBi]
  congr 2
  split <;> omega
theorem e_addk {a : Ex} {v : Nat} {c : Int} (ha : evE T cl a ρ h = .ok (.int v) h1) (k : Nat) (hk : c = (k : Int)) : evE T cl (.bin .add a (.con (.int c))) ρ h = .ok (.int ((v + k : Nat))) h1 := by
  rw [e_addi ha e_con, hk]
  simp
theorem for_rt {t : Tg} {k : Ik} {its : List Ex} {b : List Sm} {w : Wk} {N j : Nat} {v : PV} {item : Nat → PV} (f : Nat → PEnv) (hj : j < N) (hv : evI T cl k its ρ h = .ok (w, N) h1) (h0 : ρ = f 0) (hi : ∀ i ≤ j, wkAt h1 i w = some (some (item i)))
    (hb : ∀ i < j, forB T cl W t b (item i) (f i) h1 = .ok (.nx (f (i + 1))) h1) (hr : forB T cl W t b (item j) (f j) h1 = .ok (.rt v) h2) : exS T cl W (.for_ t k its b) ρ h = .ok (.rt v) h2 := by
  rw [exS_for, hv, Res.bind_ok, h0]
  have gen : ∀ d i r, i + d = j → d < r → forRun (forB T cl W t b) w r i (f i) h1 = .ok (.rt v) h2 := fun d => by
    induction d with
    | zero =>
      intro i r hi' hr'
      obtain ⟨r', rfl⟩ : ∃ r', r = r' + 1 := ⟨r - 1, by omega⟩
      have : i = j := by omega
      subst this
      unfold forRun
      rw [hi i (Nat.le_refl _)]
      simp only
      rw [hr]
      rfl
    | succ d ih =>
      intro i r hi' hr'
      obtain ⟨r', rfl⟩ : ∃ r', r = r' + 1 := ⟨r - 1, by omega⟩
      unfold forRun
      rw [hi i (by omega)]
      simp only
      rw [hb i (by omega)]
      exact ih (i + 1) r' (by omega) (by omega)
  exact gen j 0 (N + 1) (by omega) (by omega)
theorem evI_enl {src : Ex} {xs : List PV} {l : Nat} (hs : evE T cl src ρ h = .ok (.ref l) h1) (hl : h1[l]? = some (.lst xs)) : evI T cl .enum [src] ρ h = .ok (.enl l, xs.length) h1 := by
  have ns : ∀ x, src ≠ .star x := fun x q => by subst q; simp [evE] at hs
  unfold evI
  rw [evEs_cons ns, hs]
  simp only [Res.bind_ok, evEs, wkOf, lstAt, hl, Option.map_some]
theorem enl_at {xs : List PV} {l i : Nat} (hl : h[l]? = some (.lst xs)) : wkAt h i (.enl l) = some (xs[i]?.map fun x => .tup [.int i, x]) := by simp only [wkAt, lstAt, hl, Option.map_some]
theorem s_asgtL {i j l : Nat} {e : Ex} {v w : PV} (he : evE T cl e ρ h = .ok (.ref l) h1) (hl : h1[l]? = some (.lst [v, w])) : exS T cl W (.asg (.tp [i, j]) e) ρ h = .ok (.nx ((ρ.set i (some v)).set j (some w))) h1 := by
  simp only [exS, he, Res.bind_ok, asgTa, bindTg, Mn.bindL, lstAt, hl]
  rfl
theorem gr_fr {l : Nat} {h h' : PH} (g : Gr l h h') : Fr [l] h h' := ⟨g.1, fun m hm hn => g.2 m hm (by simpa using hn)⟩
theorem dc_fr {d b : Nat} {S : List Nat} {h h' : PH} (k : Dc d b h) (f : Fr S h h') (hn : d ∉ S) : Dc d b h' := let ⟨b', e, q⟩ := k; ⟨b', f.get e hn, q⟩
theorem lc_alc {body : PV → PH → Res (Option PV)} {w : Wk} {N l c : Nat} {item : Nat → PV} {C : PV → Prop} {h0 : PH} {P : PV → PH → Prop} (hN : N ≤ 1000) (hl : l < h0.length)
    (hi : ∀ i < N, ∀ h', wkAt h' i w = some (some (item i))) (he : ∀ h', wkAt h' N w = some none)
    (hb : ∀ i < N, ∀ b h', Dc l (b + c) h' → Al (fun y h2 => (∃ v, y = some v ∧ C v) ∧ Dc l b h2 ∧ Fr [l] h' h2) (body (item i) h')) :
    ∀ m i b h' acc, i + m = N → h'[h0.length]? = some (.lst acc) → acc.length = i → (∀ v ∈ acc, C v) → Dc l (b + m * c) h' → Fr [l] h0 h' →
      (∀ h2 ys, h2[h0.length]? = some (.lst ys) → ys.length = N → (∀ v ∈ ys, C v) → Dc l b h2 → Fr [l] h0 h2 → P (.ref h0.length) h2) → Al P (lcRun body w h0.length (m + 1) i h') := fun m => by
  induction m with
  | zero =>
    intro i b h' acc hi' ea hl2 hc d g k
    have : i = N := by omega
    subst this
    unfold lcRun
    rw [he]
    exact Al.ok rfl (k h' acc ea hl2 hc (by simpa using d) g)
  | succ m ih =>
    intro i b h' acc hi' ea hl2 hc d g k
    unfold lcRun
    rw [hi i (by omega)]
    refine Al.bind ((hb i (by omega) (b + m * c) h' (d.le (by rw [Nat.succ_mul]; omega))).imp fun y h2 ⟨⟨v, ey, cv⟩, d2, g2⟩ => ?_)
    subst ey
    have e2 : h2[h0.length]? = some (.lst acc) := g2.get ea (by simp; omega)
    have hs : acc.length < sizeLine := Nat.lt_of_lt_of_le (show acc.length < 1001 by omega) (by decide)
    simp only [e2]
    rw [if_pos hs]
    refine ih (i + 1) b _ (acc ++ [v]) (by omega) (set_at e2) (by simp [hl2]) (fun u hu => ?_) ?_ ?_ k
    · rcases List.mem_append.mp hu with hu | hu
      · exact hc u hu
      · rw [List.mem_singleton.mp hu]; exact cv
    · exact dc_fr d2 (Fr.set (S := [h0.length]) (by simp)) (by simp; omega)
    · exact (g.trans g2).setNew (Nat.le_refl _)
theorem new_ok {c f : Nat} {vs : List PV} (hc : ((T.cls[c]?).bind fun ci => ci.init) = some f) (e : cl f (.ref h.length :: vs) (h ++ [PO.ins c []]) = .ok .non h1) : callG T cl (.cls c) vs h = .ok (.ref h.length) h1 := by
  simp only [callG, hc, e, Res.bind_ok]
theorem lc_none {body : PV → PH → Res (Option PV)} {w : Wk} {N D : Nat} {h0 : PH} (hb : ∀ i < N, ∀ h', Fr [] h0 h' → ∃ x h2, wkAt h' i w = some (some x) ∧ body x h' = .ok none h2 ∧ Fr [] h' h2) (he : ∀ h', Fr [] h0 h' → wkAt h' N w = some none) : ∃ h2, lcRun body w D (N + 1) 0 h0 = .ok (.ref D) h2 ∧ Fr [] h0 h2 := by
  have gen : ∀ m i h', i + m = N → Fr [] h0 h' → ∃ h2, lcRun body w D (m + 1) i h' = .ok (.ref D) h2 ∧ Fr [] h0 h2 := fun m => by
    induction m with
    | zero =>
      intro i h' hi f
      have : i = N := by omega
      subst this
      refine ⟨h', ?_, f⟩
      unfold lcRun
      rw [he h' f]
    | succ m ih =>
      intro i h' hi f
      obtain ⟨x, h2, e1, e2, f2⟩ := hb i (by omega) h' f
      obtain ⟨h3, e3, f3⟩ := ih (i + 1) h2 (by omega) (f.trans f2)
      refine ⟨h3, ?_, f3⟩
      unfold lcRun
      rw [e1]
      simp only
      rw [e2]
      exact e3
  exact gen N 0 h0 (by omega) Fr.refl
theorem same {h : PH} {v : PV} (hv : pu v = true) (hd : dpt v ≤ 60) : pEq h v v = some true := pEq_is (pEq_pu hv hv hd hd) (by simp)
theorem lcB_none {e c : Ex} {own : List Nat} {t : Tg} {v : PV} {ρ1 : PEnv} (hb : bindTg t v (own.foldr (fun i r => r.set i none) ρ) = some ρ1) (hc : evE T cl c ρ1 h = .ok (.bl false) h2) : lcB T cl e own t [c] ρ v h = .ok none h2 := by
  unfold lcB
  rw [hb]
  simp only [evIf, hc, pTru, Res.bind_ok, Bool.false_eq_true, if_false]
  rfl
theorem e_ne_same {a c : Ex} {v : PV} (ha : evE T cl a ρ h = .ok v h1) (hc : evE T cl c ρ h1 = .ok v h2) (hv : pu v = true) (hd : dpt v ≤ 60) : evE T cl (.cmp .ne a c) ρ h = .ok (.bl false) h2 := by
  refine e_cmp ha hc ?_
  simp only [pCmp, same hv hd, Option.map_some, ob]
  rfl
theorem e_eq_same {a c : Ex} {v : PV} (ha : evE T cl a ρ h = .ok v h1) (hc : evE T cl c ρ h1 = .ok v h2) (hv : pu v = true) (hd : dpt v ≤ 60) : evE T cl (.cmp .eq a c) ρ h = .ok (.bl true) h2 := by
  refine e_cmp ha hc ?_
  simp only [pCmp, same hv hd, ob]
theorem e_tuple {i l : Nat} {xs : List PV} (hi : ρ[i]? = some (some (.ref l))) (hl : h[l]? = some (.lst xs)) : evE T cl (.bi .tuple [.var i]) ρ h = .ok (.tup xs) h := e_bi (e_one (e_var hi)) (by simp only [pBi, lstAt, hl])
theorem dc_ne {d B i : Nat} {h : PH} {o : PO} (k : Dc d B h) (e : h[i]? = some o) (hn : ∀ b, o ≠ .dice b) : i ≠ d := fun q => by
  obtain ⟨b', e2, _⟩ := k
  rw [q, e2] at e
  exact hn b' (Option.some.inj e).symm
theorem e_isn {a : Ex} (ha : evE T cl a ρ h = .ok .non h1) : evE T cl (.cmp .is_ a (.con .non)) ρ h = .ok (.bl true) h1 := by
  refine e_cmp ha e_con ?_
  rfl
theorem e_isnn {a : Ex} (ha : evE T cl a ρ h = .ok .non h1) : evE T cl (.cmp .isn a (.con .non)) ρ h = .ok (.bl false) h1 := by
  refine e_cmp ha e_con ?_
  rfl
theorem e_callG {g : Nat} {es : List Ex} {f : PV} {vs : List PV} {r : Res PV} (hg : T.glob[g]? = some f) (he : evEs T cl es ρ h = .ok vs h1) (k : callG T cl f vs h1 = r) : evE T cl (.call g es) ρ h = r := by
  simp only [evE, hg, he, Res.bind_ok]
  exact k
theorem min_max3 (n : Nat) : ∃ N : Nat, N ≤ 3 ∧ (if (if (n : Int) < 3 then (n : Int) else 3) > 1 then (if (n : Int) < 3 then (n : Int) else 3) else 1) = (N : Int) := by
  by_cases h1 : (n : Int) < 3
  · rw [if_pos h1]
    by_cases h2 : (n : Int) > 1
    · exact ⟨n, by omega, if_pos h2⟩
    · exact ⟨1, by omega, if_neg h2⟩
  · rw [if_neg h1]
    exact ⟨3, by omega, by simp⟩
end
end Mn
set_option Elab.async false
set_option linter.all false
set_option maxRecDepth 100000
set_option maxHeartbeats 1000000
namespace K06
open PySem PySem.Spec PyProof.Rows L2 Mn
def spec : Nat → Option (List PV → PH → Res PV)
  | 37 => some spDice
  | 38 => some spRoll
  | _ => none
abbrev call (n : Nat) : Nat → List PV → PH → Res PV := callS T 100 defs spec n
theorem call_run {n i : Nat} {d : Df} {vs : List PV} {h : PH} (hd : defs[i]? = some d) (hs : spec i = none) : call (n + 1) i vs h = runD T 100 (call n) d vs h := callS_run hd hs
theorem nat_log' {x k : Nat} (h : x < 2 ^ k) (hk : k ≤ 400000) : x.log2 < 400000 + 1 := nat_log h hk
theorem big_ok {a b k : Nat} (ha : a < 2 ^ k) (hb : b < 2 ^ k) (hk : k ≤ 400000) : big a b = true := big_nat (k := k) (by simpa using ha) (by simpa using hb) hk
section
variable {n : Nat} {h : PH}
theorem p_within (v lo hi : Int) : call (n + 1) 1 [.int v, .int lo, .int hi] h = .ok (.bl (decide (lo ≤ v) && decide (v ≤ hi))) h := by
  rw [call_run (d := d_is_within) rfl rfl]
  refine rd_rt rfl ?_
  refine st_rt (s_ret ?_)
  refine e_andT (h1 := h) rfl (e_andT (h1 := h) rfl (e_chn (h1 := h) (h2 := h) rfl rfl rfl fun _ => ⟨rfl, rfl⟩))
theorem p_chkw {v lo hi : Int} (h1 : lo ≤ v) (h2 : v ≤ hi) : call (n + 2) 6 [.int v, .int lo, .int hi] h = .ok .non h := by
  rw [call_run (d := d_check_within) rfl rfl]
  have e : evE T (call (n + 1)) (.not (.call 1 [.var 0, .var 1, .var 2])) [some (.int v), some (.int lo), some (.int hi)] h = .ok (.bl false) h := by
    have e1 : evE T (call (n + 1)) (.call 1 [.var 0, .var 1, .var 2]) [some (.int v), some (.int lo), some (.int hi)] h = .ok (.bl true) h := by
      refine e_call (f := 1) (vs := [.int v, .int lo, .int hi]) (h1 := h) rfl rfl ?_
      rw [p_within]
      simp [h1, h2]
    exact e_not e1
  exact rd_nx rfl (st_no e s_nil)
theorem p_count (v lo : Int) : call (n + 1) 2 [.int v, .int lo] h = .ok (.bl (decide (lo ≤ v))) h := by
  rw [call_run (d := d_is_count) rfl rfl]
  refine rd_rt rfl ?_
  refine st_rt (s_ret ?_)
  refine e_andT (h1 := h) rfl (e_andT (h1 := h) rfl (e_cmp (h1 := h) (h2 := h) rfl rfl rfl))
theorem p_chkc {v : Int} (h1 : 0 ≤ v) : call (n + 2) 7 [.int v, .int 0] h = .ok .non h := by
  rw [call_run (d := d_check_count) rfl rfl]
  have e : evE T (call (n + 1)) (.not (.call 2 [.var 0, .var 1])) [some (.int v), some (.int 0)] h = .ok (.bl false) h := by
    have e1 : evE T (call (n + 1)) (.call 2 [.var 0, .var 1]) [some (.int v), some (.int 0)] h = .ok (.bl true) h := by
      refine e_call (f := 2) (vs := [.int v, .int 0]) (h1 := h) rfl rfl ?_
      rw [p_count]
      simp [h1]
    exact e_not e1
  exact rd_nx rfl (st_no e s_nil)
theorem IsN.str {t : Tx} (h : IsN t) : PyData.strOk ⟨t.toArray⟩ = true := h.all (p := fun t => PyData.strOk ⟨t.toArray⟩) (by decide +kernel)
theorem szN {t : Tx} (ht : IsN t) : t.length ≤ sizeLine := Nat.le_trans ht.len (by decide)
theorem p_print {t : Tx} (ht : IsN t) : call (n + 1) 3 [.str t] h = .ok (.bl true) h := by
  rw [call_run (d := d_is_printed) rfl rfl]
  refine rd_rt rfl ?_
  refine st_rt (s_ret ?_)
  have q1 : Txt.isascii ⟨t.toArray⟩ = true := ht.all (p := fun t => Txt.isascii ⟨t.toArray⟩) (by decide +kernel)
  have q2 : Txt.isprintable ⟨t.toArray⟩ = true := ht.all (p := fun t => Txt.isprintable ⟨t.toArray⟩) (by decide +kernel)
  refine e_andT (h1 := h) rfl (e_andT (h1 := h) ?_ ?_)
  · exact e_bm (q := .sisascii) (v := .str t) (h1 := h) (h2 := h) (vs := []) rfl (e_var rfl) rfl e_nil (by simp only [pBq, q1])
  · exact e_bm (q := .sisprintable) (v := .str t) (h1 := h) (h2 := h) (vs := []) rfl (e_var rfl) rfl e_nil (by simp only [pBq, q2])
theorem p_text {t : Tx} (ht : IsN t) : call (n + 2) 4 [.str t] h = .ok (.bl true) h := by
  rw [call_run (d := d_is_text) rfl rfl]
  refine rd_rt rfl ?_
  refine st_rt (s_ret ?_)
  refine e_andT (h1 := h) (e_call1 rfl rfl (p_print ht)) ?_
  have e1 : evE T (call (n + 1)) (.bi .len [.var 0]) [some (.str t)] h = .ok (.int t.length) h := e_bi (e_one (e_var rfl)) (by simp only [pBi]; rw [if_pos (szN ht)])
  refine e_cmp e1 (e_glob rfl) ?_
  have := ht.len
  simp only [pCmp]
  rw [decide_eq_true (by omega)]
theorem p_chkt {t : Tx} (ht : IsN t) : call (n + 3) 5 [.str t] h = .ok .non h := by
  rw [call_run (d := d_check_text) rfl rfl]
  exact rd_nx rfl (st_no (h1 := h) (e_not (e_call1 rfl rfl (p_text ht))) s_nil)
theorem hsh_take {x : Tx} {i : Nat} (hi : i < x.length) : hsh (x.take (i + 1)) = (hsh (x.take i) * 33 + x[i]) % 65536 := by
  unfold hsh
  rw [List.take_succ_eq_append_getElem hi, List.foldl_append]
  rfl
theorem hash_big (y : Tx) : big (hsh y) 33 = true := big_ok (k := 17) (by have := hsh_lt y; omega) (by decide) (by decide)
theorem hash_turn_p {cl : Nat → List PV → PH → Res PV} {x : Tx} {i : Nat} (hi : i < x.length) : forB T cl 100 (.nm 2) [.asg (.nm 1) (.bin .mod (.bin .add (.bin .mul (.var 1) (.con (.int 33))) (.bi .ord [.var 2])) (.glob 36))] (.str [x.getD i 0]) [some (.str x), some (.int (hsh (x.take i))), if i = 0 then none else some (.str [x.getD (i - 1) 0])] h =
    .ok (.nx [some (.str x), some (.int (hsh (x.take (i + 1)))), if i + 1 = 0 then none else some (.str [x.getD (i + 1 - 1) 0])]) h := by
  have e1 : hsh (x.take (i + 1)) = (hsh (x.take i) * 33 + x.getD i 0) % 65536 := by rw [hsh_take hi]; simp [hi]
  have hb := hash_big (x.take i)
  rw [e1, if_neg (Nat.succ_ne_zero i), Nat.add_sub_cancel]
  generalize (if i = 0 then none else some (PV.str [x.getD (i - 1) 0])) = z
  generalize hsh (x.take i) = H at hb ⊢
  generalize x.getD i 0 = c
  unfold forB
  simp [runD, runBody, exSs, exS, evE, evEs, evT, evIf, asgTa, bindTg, pBin, pCmp, pBi, pTru, Mn.ob, pIx, Res.bind, callG, T, isTy, fnT, isTys, tyOf, subC, tyB, tyAll, tyNames, Bi.tyn, hb]
theorem hash_turn_l {cl : Nat → List PV → PH → Res PV} {x : Tx} {i : Nat} (hi : i < x.length) : forB T cl 100 (.nm 2) [.asg (.nm 1) (.bin .mod (.bi .int [.bin .add (.bin .mul (.var 1) (.con (.int 33))) (.bi .ord [.var 2])]) (.con (.int 65536)))] (.str [x.getD i 0]) [some (.str x), some (.int (hsh (x.take i))), if i = 0 then none else some (.str [x.getD (i - 1) 0])] h =
    .ok (.nx [some (.str x), some (.int (hsh (x.take (i + 1)))), if i + 1 = 0 then none else some (.str [x.getD (i + 1 - 1) 0])]) h := by
  have e1 : hsh (x.take (i + 1)) = (hsh (x.take i) * 33 + x.getD i 0) % 65536 := by rw [hsh_take hi]; simp [hi]
  have hb := hash_big (x.take i)
  rw [e1, if_neg (Nat.succ_ne_zero i), Nat.add_sub_cancel]
  generalize (if i = 0 then none else some (PV.str [x.getD (i - 1) 0])) = z
  generalize hsh (x.take i) = H at hb ⊢
  generalize x.getD i 0 = c
  unfold forB
  simp [runD, runBody, exSs, exS, evE, evEs, evT, evIf, asgTa, bindTg, pBin, pCmp, pBi, pTru, Mn.ob, pIx, Res.bind, callG, T, isTy, fnT, isTys, tyOf, subC, tyB, tyAll, tyNames, Bi.tyn, hb]
theorem p_hash {x : Tx} (hx : IsN x) : call (n + 4) 8 [.str x] h = .ok (.int (hsh x)) h := by
  rw [call_run (d := d_hash_of) rfl rfl]
  have e := p_chkt (n := n) (h := h) hx
  refine rd_rt rfl ?_
  show exSs T (call (n + 3)) 100 b_hash_of [some (.str x), none, none] h = _
  refine st_nx (s_ex (e_call1 rfl rfl e)) ?_
  refine st_nx (s_asg (v := .int 0) e_con) ?_
  refine st_nx (for_st (w := .fix (x.map fun c => .str [c])) (N := x.length) (fun i => .str [x.getD i 0]) (fun i => [some (.str x), some (.int (hsh (x.take i))), if i = 0 then none else some (.str [x.getD (i - 1) 0])]) (fun _ => h)
    ?_ rfl (fun i hi => fix_at (by simp [hi])) (by simp [wkAt]) fun i hi => ?_) ?_
  · unfold evI
    simp [runD, runBody, exSs, exS, evE, evEs, evT, evIf, asgTa, bindTg, pBin, pCmp, pBi, pTru, Mn.ob, pIx, Res.bind, callG, T, isTy, fnT, isTys, tyOf, subC, tyB, tyAll, tyNames, Bi.tyn, wkOf]
  · exact hash_turn_p hi
  · refine st_rt (s_ret (e_var ?_))
    simp
theorem l_hash {x : Tx} : call (n + 1) 41 [.str x] h = .ok (.int (hsh x)) h := by
  rw [call_run (d := d__law_hash) rfl rfl]
  refine rd_rt rfl ?_
  show exSs T (call n) 100 b__law_hash [some (.str x), none, none] h = _
  refine st_nx (s_asg (v := .int 0) e_con) ?_
  refine st_nx (for_st (w := .fix (x.map fun c => .str [c])) (N := x.length) (fun i => .str [x.getD i 0]) (fun i => [some (.str x), some (.int (hsh (x.take i))), if i = 0 then none else some (.str [x.getD (i - 1) 0])]) (fun _ => h)
    ?_ rfl (fun i hi => fix_at (by simp [hi])) (by simp [wkAt]) fun i hi => ?_) ?_
  · unfold evI
    simp [runD, runBody, exSs, exS, evE, evEs, evT, evIf, asgTa, bindTg, pBin, pCmp, pBi, pTru, Mn.ob, pIx, Res.bind, callG, T, isTy, fnT, isTys, tyOf, subC, tyB, tyAll, tyNames, Bi.tyn, wkOf]
  · exact hash_turn_l hi
  · refine st_rt (s_ret (e_var ?_))
    simp
theorem l_few {x : Tx} (hx : IsN x) : call (n + 1) 42 [.str x] h = .ok (.int (257 * x.length : Nat)) h := by
  rw [call_run (d := d__law_few) rfl rfl]
  have hb : big 257 x.length = true := big_ok (a := 257) (k := 17) (by decide) (by have := hx.len; omega) (by decide)
  have hz := szN hx
  refine rd_rt rfl ?_
  show exSs T (call n) 100 b__law_few [some (.str x)] h = _
  refine st_rt (s_ret ?_)
  refine e_bin (v := .int 257) (w := .int x.length) (h1 := h) (h2 := h) e_con (e_bi (e_one (e_var rfl)) (by simp only [pBi]; rw [if_pos hz])) ?_
  simp only [pBin]
  rw [if_pos hb]
  push_cast
  rfl
theorem l_pairs {x : Tx} : call (n + 2) 43 [.str x] h = .ok (.int (hsh x / 2 * 2 : Nat)) h := by
  rw [call_run (d := d__law_pairs) rfl rfl]
  have e := l_hash (n := n) (h := h) (x := x)
  have hb : big (hsh x / 2 : Nat) 2 = true := big_ok (b := 2) (k := 17) (by have := hsh_lt x; omega) (by decide) (by decide)
  have l2 : Nat.log2 2 < 9000 := by decide
  push_cast at hb
  refine rd_rt rfl ?_
  show exSs T (call (n + 1)) 100 b__law_pairs [some (.str x)] h = _
  refine st_rt (s_ret ?_)
  simp [runD, runBody, exSs, exS, evE, evEs, evT, evIf, asgTa, bindTg, pBin, pCmp, pBi, pTru, Mn.ob, pIx, Res.bind, callG, T, isTy, fnT, isTys, tyOf, subC, tyB, tyAll, tyNames, Bi.tyn, e, hb, l2]
theorem e_eqd {cl : Nat → List PV → PH → Res PV} {ρ : PEnv} {a b : Ex} {x y : Int} {t : Bool} {h1 h2 : PH} (ha : evE T cl a ρ h = .ok (.int x) h1) (hb : evE T cl b ρ h1 = .ok (.int y) h2) (k : decide (x = y) = t) : evE T cl (.cmp .eq a b) ρ h = .ok (.bl t) h2 := by
  rw [e_eqi ha hb, k]
theorem l_hby {s : Nat} {x : Tx} (hs2 : s < 3) (hx : IsN x) : call (n + 3) 44 [.int s, .str x] h = .ok (.int (hs s x : Nat)) h := by
  rw [call_run (d := d__law_hash_by) rfl rfl]
  refine rd_rt rfl ?_
  show exSs T (call (n + 2)) 100 b__law_hash_by [some (.int s), some (.str x)] h = _
  have e1 := l_few (n := n + 1) (h := h) hx
  have e2 := l_pairs (n := n) (h := h) (x := x)
  have e3 := l_hash (n := n + 1) (h := h) (x := x)
  match s, hs2 with
  | 0, _ => exact st_no (h1 := h) (e_eqd (e_var rfl) e_con (by decide)) (st_rt (s_ret (e_ife (h1 := h) (t := false) (e_eqd (e_var rfl) e_con (by decide)) (fun z => by cases z) fun _ => e_call1 (h1 := h) rfl rfl e3)))
  | 1, _ => exact st_yes (h1 := h) (e_eqd (e_var rfl) e_con (by decide)) (e_call1 (h1 := h) rfl rfl e1)
  | 2, _ => exact st_no (h1 := h) (e_eqd (e_var rfl) e_con (by decide)) (st_rt (s_ret (e_ife (h1 := h) (t := true) (e_eqd (e_var rfl) e_con (by decide)) (fun _ => e_call1 (h1 := h) rfl rfl e2) fun z => by cases z)))
theorem p_bits {v : Nat} (hv : v < 65536) : call (n + 3) 10 [.int v, .int 16, .int 64] h = .ok .non h := by
  rw [call_run (d := d__check_bits) rfl rfl]
  have e1 := p_chkc (n := n) (h := h) (v := v) (by omega)
  have e2 := p_chkw (n := n) (h := h) (v := 16) (lo := 0) (hi := 64) (by decide) (by decide)
  have h3 : ¬ (65536 : Int) ≤ v := by omega
  refine rd_nx rfl (ρ := [some (.int v), some (.int 16), some (.int 64)]) ?_
  show exSs T (call (n + 2)) 100 b__check_bits [some (.int v), some (.int 16), some (.int 64)] h = _
  refine st_nx (s_ex (v := .non) (h1 := h) ?_) (st_nx (s_ex (e_call (f := 6) (vs := [.int 16, .int 0, .int 64]) (h1 := h) rfl rfl e2)) (st_no (h1 := h) ?_ s_nil))
  · simp only [evE, evEs, T, List.getElem?_cons_zero, List.getElem?_cons_succ, Res.bind_ok, callG, List.cons_append, List.nil_append]
    exact e1
  · simp [runD, runBody, exSs, exS, evE, evEs, evT, evIf, asgTa, bindTg, pBin, pCmp, pBi, pTru, Mn.ob, pIx, Res.bind, callG, T, isTy, fnT, isTys, tyOf, subC, tyB, tyAll, tyNames, Bi.tyn, h3]
theorem p_rev {v : Nat} (hv : v < 65536) : call (n + 4) 9 [.int v, .int 16] h = .ok (.int (R 16 v : Nat)) h := by
  rw [call_run (d := d_reversed_bits) rfl rfl]
  have e := p_bits (n := n) (h := h) hv
  refine rd_rt rfl ?_
  show exSs T (call (n + 3)) 100 b_reversed_bits [some (.int v), some (.int 16), none, none] h = _
  refine st_nx (s_ex (e_call (f := 10) (vs := [.int v, .int 16, .int 64]) (h1 := h) rfl rfl e)) ?_
  refine st_nx (s_asg (v := .int 0) e_con) ?_
  refine st_nx (for_st (w := .fix ((List.range 16).map fun (i : Nat) => .int i)) (N := 16) (fun i => .int i) (fun i => [some (.int v), some (.int 16), some (.int (R i v)), if i = 0 then none else some (.int (i - 1 : Int))]) (fun _ => h)
    ?_ rfl (fun i hi => fix_at (by simp [hi])) (by simpa using fix_end (xs := (List.range 16).map fun (i : Nat) => PV.int i) (h := h)) fun i hi => ?_) ?_
  · exact evI_rng (b := 16) rfl (by omega)
  · have hb : big (R i v) 2 = true := big_ok (b := 2) (k := 65) (Nat.lt_of_lt_of_le (R_lt i v) (Nat.pow_le_pow_right (by decide) (by omega))) (by decide) (by decide)
    unfold forB
    simp [runD, runBody, exSs, exS, evE, evEs, evT, evIf, asgTa, bindTg, pBin, pCmp, pBi, pTru, Mn.ob, pIx, Res.bind, callG, T, isTy, fnT, isTys, tyOf, subC, tyB, tyAll, tyNames, Bi.tyn, hb, bitAnd_m1]
    simp only [R]
    push_cast
    rfl
  · exact st_rt (s_ret (e_var rfl))
theorem l_spot {v : Nat} : call (n + 1) 46 [.int v] h = .ok (.int (R 16 v : Nat)) h := by
  rw [call_run (d := d__law_spot) rfl rfl]
  refine rd_rt rfl ?_
  show exSs T (call n) 100 b__law_spot [some (.int v), none, none] h = _
  refine st_nx (s_asg (v := .int 0) e_con) ?_
  refine st_nx (for_st (w := .fix ((List.range 16).map fun (i : Nat) => .int i)) (N := 16) (fun i => .int i) (fun i => [some (.int (v / 2 ^ i : Nat)), some (.int (R i v)), if i = 0 then none else some (.int (i - 1 : Int))]) (fun _ => h)
    ?_ (by simp [R]) (fun i hi => fix_at (by simp [hi])) (by simpa using fix_end (xs := (List.range 16).map fun (i : Nat) => PV.int i) (h := h)) fun i hi => ?_) ?_
  · exact evI_rng (b := 16) rfl (by omega)
  · have hb : big (R i v) 2 = true := big_ok (b := 2) (k := 65) (Nat.lt_of_lt_of_le (R_lt i v) (Nat.pow_le_pow_right (by decide) (by omega))) (by decide) (by decide)
    have l2 : Nat.log2 2 < 9000 := by decide
    have e2 : v / 2 ^ (i + 1) = v / 2 ^ i / 2 := by rw [Nat.pow_succ, Nat.div_div_eq_div_mul]
    unfold forB
    rw [e2]
    simp only [R]
    generalize v / 2 ^ i = w
    simp [runD, runBody, exSs, exS, evE, evEs, evT, evIf, asgTa, bindTg, pBin, pCmp, pBi, pTru, Mn.ob, pIx, Res.bind, callG, T, isTy, fnT, isTys, tyOf, subC, tyB, tyAll, tyNames, Bi.tyn, hb, l2]
  · exact st_rt (s_ret (e_var rfl))
end
end K06
set_option Elab.async false
set_option linter.all false
set_option maxRecDepth 100000
set_option maxHeartbeats 1000000
namespace K06
open PySem PySem.Spec PyProof.Rows L2 Mn
theorem wh_inv {c : PEnv → PH → Res Bool} {body : PEnv → PH → Res Fl} {I : Nat → PEnv → PH → Prop} {Q : PEnv → PH → Prop}
    (step : ∀ n ρ h, I n ρ h → (∃ h1, c ρ h = .ok false h1 ∧ Q ρ h1) ∨ (∃ h1 ρ2 h2 m, c ρ h = .ok true h1 ∧ body ρ h1 = .ok (.nx ρ2) h2 ∧ m < n ∧ I m ρ2 h2)) :
    ∀ (n W : Nat) (ρ : PEnv) (h : PH), n < W → I n ρ h → ∃ ρ' h', whRun c body W ρ h = .ok (.nx ρ') h' ∧ Q ρ' h' := fun n => by
  induction n using Nat.strongRecOn with
  | ind n ih =>
    intro W ρ h hW i
    obtain ⟨W, rfl⟩ : ∃ w, W = w + 1 := ⟨W - 1, by omega⟩
    rcases step n ρ h i with ⟨h1, e, q⟩ | ⟨h1, ρ2, h2, m, e1, e2, hm, i2⟩
    · exact ⟨ρ, h1, by simp only [whRun, e, Res.bind_ok]; rfl, q⟩
    · obtain ⟨ρ', h', e3, q⟩ := ih m hm W ρ2 h2 (by omega) i2
      refine ⟨ρ', h', ?_, q⟩
      simp only [whRun, e1, Res.bind_ok, if_true, e2]
      exact e3
section
variable {n : Nat} {h : PH}
theorem pu_ofP {a : Int × List Nat} (ha : IsN a.2) : pu (ofP a) = true := by
  have := ha.str
  simp [ofP, pu, pus, this]
theorem pLt {a b : Int × List Nat} (ha : IsN a.2) (hb : IsN b.2) : pCmp .lt (ofP a) (ofP b) h = .ok (.bl (lexP a b)) h := by
  have d1 := datum_pu (h := h) (pu_ofP ha) (by simp [ofP, dpt, dpts])
  have d2 := datum_pu (h := h) (pu_ofP hb) (by simp [ofP, dpt, dpts])
  obtain ⟨i, x⟩ := a
  obtain ⟨j, y⟩ := b
  have e : dLt h (ofP (i, x)) (ofP (j, y)) = some (lexP (i, x) (j, y)) := by
    unfold dLt
    rw [d1, d2]
    simp only [ofP, pd, pds]
    have al : PySem.W.alike (.tuple [.int i, .str ⟨x.toArray⟩]) (.tuple [.int j, .str ⟨y.toArray⟩]) = true := rfl
    rw [if_pos al, PySem.W.dataLt_tuple]
    congr 1
    unfold lexP
    by_cases q : i = j
    · subst q
      rw [PySem.W.dataLt_all_yes rfl (by simp [PyData.eqv])]
      simp only [if_true]
      by_cases q2 : x = y
      · subst q2
        rw [PySem.W.dataLt_all_yes rfl (by simp [PyData.eqv])]
        rw [decide_eq_false (List.lt_irrefl _)]
        rfl
      · rw [PySem.W.dataLt_all_no rfl (by simp [PyData.eqv, q2]), PySem.W.dataLt_str]
    · rw [PySem.W.dataLt_all_no rfl (by simp [PyData.eqv, q]), PySem.W.dataLt_int, if_neg q]
  show Mn.ob (dLt h _ _) h = _
  rw [e]
  rfl
theorem p_first {o : Nat} {l : List (Int × List Nat)} {p : Int × List Nat} (hl : h[o]? = some (.lst (l.map ofP))) (hs : Srt l) (hn : ∀ q ∈ l, IsN q.2) (hp : IsN p.2) (hz : l.length ≤ 60) : call (n + 1) 36 [.ref o, ofP p] h = .ok (.int (place l p : Nat)) h := by
  rw [call_run (d := d__first_place) rfl rfl]
  refine rd_rt rfl ?_
  show exSs T (call n) 100 b__first_place [some (.ref o), some (ofP p), none, none, none] h = _
  refine st_nx (s_asg (v := .int 0) e_con) ?_
  have eln : evE T (call n) (.bi .len [.var 0]) [some (.ref o), some (ofP p), some (.int 0), none, none] h = .ok (.int l.length) h := e_bi (h1 := h) (vs := [.ref o]) (e_one (e_var rfl)) (by simp only [pBi, hl, List.length_map])
  refine st_nx (s_asg (v := .int l.length) eln) ?_
  obtain ⟨_, _, hle⟩ := srt_split p hs
  obtain ⟨ρ', h', e, z, q1, q2⟩ := wh_inv (c := evT T (call n) (.cmp .lt (.var 2) (.var 3))) (body := exSs T (call n) 100 [.asg (.nm 4) (.bin .fdiv (.bin .add (.var 2) (.var 3)) (.con (.int 2))), .ite (.cmp .lt (.ix (.var 0) (.var 4)) (.var 1)) [.asg (.nm 2) (.bin .add (.var 4) (.con (.int 1)))] [.asg (.nm 3) (.var 4)]])
    (I := fun m ρ h' => ∃ lo hi : Nat, ∃ z, ρ = [some (.ref o), some (ofP p), some (.int lo), some (.int hi), z] ∧ h' = h ∧ lo ≤ place l p ∧ place l p ≤ hi ∧ hi ≤ l.length ∧ m = hi - lo)
    (Q := fun ρ h' => ∃ z, ρ = [some (.ref o), some (ofP p), some (.int (place l p : Nat)), some (.int (place l p : Nat)), z] ∧ h' = h)
    (fun m ρ h' ⟨lo, hi, z, e1, e2, h1, h2, h3, e3⟩ => by
      subst e1 e2 e3
      by_cases c : lo < hi
      · have hm : (lo + hi) / 2 < hi := by omega
        have l2 : Nat.log2 2 < 9000 := by decide
        have hml : (lo + hi) / 2 < l.length := by omega
        have c1 : evT T (call n) (.cmp .lt (.var 2) (.var 3)) [some (.ref o), some (ofP p), some (.int lo), some (.int hi), z] h' = .ok true h' := by
          refine t_bl (e_cmp (h1 := h') (h2 := h') (e_var rfl) (e_var rfl) ?_)
          simp only [pCmp]
          rw [decide_eq_true (by omega)]
        have mid : exS T (call n) 100 (.asg (.nm 4) (.bin .fdiv (.bin .add (.var 2) (.var 3)) (.con (.int 2)))) [some (.ref o), some (ofP p), some (.int lo), some (.int hi), z] h' = .ok (.nx [some (.ref o), some (ofP p), some (.int lo), some (.int hi), some (.int ((lo + hi) / 2 : Nat))]) h' := by
          refine s_asg (v := .int ((lo + hi) / 2 : Nat)) (e_bin (h1 := h') (h2 := h') (v := .int (lo + hi)) (w := .int 2) (e_addi (e_var rfl) (e_var rfl)) e_con ?_)
          simp only [pBin]
          rw [if_pos (by decide)]
          push_cast
          rfl
        have tst : evT T (call n) (.cmp .lt (.ix (.var 0) (.var 4)) (.var 1)) [some (.ref o), some (ofP p), some (.int lo), some (.int hi), some (.int ((lo + hi) / 2 : Nat))] h' = .ok (decide ((lo + hi) / 2 < place l p)) h' := by
          refine t_bl (e_cmp (h1 := h') (h2 := h') (v := ofP l[(lo + hi) / 2]) (w := ofP p) (e_ix (h1 := h') (h2 := h') (v := .ref o) (w := .int ((lo + hi) / 2 : Nat)) (e_var rfl) (e_var rfl) ?_) (e_var rfl) ?_)
          · simp only [pIx, hl]
            rw [atI_lt (by simpa using hml)]
            simp
          · rw [pLt (hn _ (List.getElem_mem hml)) hp, srt_get hs hml]
        by_cases g : (lo + hi) / 2 < place l p
        · refine .inr ⟨h', [some (.ref o), some (ofP p), some (.int ((lo + hi) / 2 + 1 : Nat)), some (.int hi), some (.int ((lo + hi) / 2 : Nat))], h', hi - ((lo + hi) / 2 + 1), c1, ?_, by omega, (lo + hi) / 2 + 1, hi, _, rfl, rfl, by omega, h2, h3, rfl⟩
          rw [decide_eq_true g] at tst
          refine st_nx mid (st_nx (s_ifT tst (st_nx (s_asg (v := .int (((lo + hi) / 2 : Nat) + 1)) (e_addi (e_var rfl) e_con)) s_nil)) ?_)
          rw [s_nil]
          simp
        · refine .inr ⟨h', [some (.ref o), some (ofP p), some (.int lo), some (.int ((lo + hi) / 2 : Nat)), some (.int ((lo + hi) / 2 : Nat))], h', (lo + hi) / 2 - lo, c1, ?_, by omega, lo, (lo + hi) / 2, _, rfl, rfl, h1, by omega, by omega, rfl⟩
          rw [decide_eq_false g] at tst
          exact st_nx mid (st_nx (s_ifF tst (st_nx (s_asg (v := .int ((lo + hi) / 2 : Nat)) (e_var rfl)) s_nil)) s_nil)
      · have e1 : lo = place l p := by omega
        have e2 : hi = place l p := by omega
        refine .inl ⟨h', ?_, z, by rw [e1, e2], rfl⟩
        refine t_bl (e_cmp (h1 := h') (h2 := h') (e_var rfl) (e_var rfl) ?_)
        simp only [pCmp]
        rw [decide_eq_false (by omega)])
    l.length 100 [some (.ref o), some (ofP p), some (.int 0), some (.int l.length), none] h (by omega) ⟨0, l.length, none, rfl, rfl, Nat.zero_le _, hle, Nat.le_refl _, rfl⟩
  subst q1 q2
  refine st_nx (ρ1 := [some (.ref o), some (ofP p), some (.int (place l p : Nat)), some (.int (place l p : Nat)), z]) ?_ (st_rt (s_ret (e_var rfl)))
  simp only [exS]
  exact e
theorem p_copied {v : PV} (hv : (∃ i, v = .int i) ∨ (∃ x, v = .str x) ∨ v = .non) : call (n + 1) 12 [v] h = .ok v h := by
  rw [call_run (d := d_copied) rfl rfl]
  refine rd_rt rfl ?_
  rcases hv with ⟨i, rfl⟩ | ⟨x, rfl⟩ | rfl
  all_goals
    refine st_no (h1 := h) rfl (st_no (h1 := h) rfl (st_no (h1 := h) rfl (st_no (h1 := h) rfl (st_rt (s_ret (e_var rfl))))))
def mts (h : PH) (k : Nat) : PH := h ++ [.lst ((List.range k).map fun (j : Nat) => .ref (h.length + 1 + j))] ++ List.replicate k (.lst [])
theorem mts_len (k : Nat) : (mts h k).length = h.length + 1 + k := by simp [mts]; omega
theorem p_empty {k : Nat} (hk : k ≤ 100) : call (n + 1) 34 [.int k] h = .ok (.ref h.length) (mts h k) := by
  rw [call_run (d := d__empty_buckets) rfl rfl]
  refine rd_rt rfl (st_rt (s_ret ?_))
  show evE T (call n) (.lc (.lst []) [1] (.nm 1) .rng [.var 0] []) [some (.int k), none] h = _
  rw [evE_lc, evI_rng (h1 := h) (b := k) (e_one (e_var rfl)) (by omega), Res.bind_ok]
  have gen : ∀ m i, i + m = k → lcRun (lcB T (call n) (.lst []) [1] (.nm 1) [] [some (.int k), none]) (.fix ((List.range k).map fun (i : Nat) => .int i)) h.length (m + 1) i (mts h i) = .ok (.ref h.length) (mts h k) := fun m => by
    induction m with
    | zero =>
      intro i hi
      have : i = k := by omega
      subst this
      unfold lcRun
      have e : wkAt (mts h i) i (.fix ((List.range i).map fun (i : Nat) => PV.int i)) = some none := by simp [wkAt]
      rw [e]
    | succ m ih =>
      intro i hi
      unfold lcRun
      have e : wkAt (mts h i) i (.fix ((List.range k).map fun (i : Nat) => PV.int i)) = some (some (.int i)) := by
        have hi' : i < k := by omega
        exact fix_at (by simp [hi'])
      rw [e]
      have b : lcB T (call n) (.lst []) [1] (.nm 1) [] [some (.int k), none] (.int i) (mts h i) = .ok (some (.ref (mts h i).length)) (mts h i ++ [.lst []]) := by
        unfold lcB
        simp only [bindTg, List.foldr, evIf, Res.bind_ok, if_true]
        rw [e_lst e_nil (by simp)]
        rfl
      simp only [b, Res.bind_ok]
      have g : (mts h i ++ [PO.lst []])[h.length]? = some (.lst ((List.range i).map fun (j : Nat) => PV.ref (h.length + 1 + j))) := by
        simp [mts]
      rw [g]
      simp only [List.length_map, List.length_range]
      rw [if_pos (Nat.lt_of_lt_of_le (show i < 101 by omega) (by decide))]
      have e2 : (mts h i ++ [PO.lst []]).set h.length (.lst (((List.range i).map fun (j : Nat) => PV.ref (h.length + 1 + j)) ++ [PV.ref (mts h i).length])) = mts h (i + 1) := by
        rw [mts_len]
        unfold mts
        rw [List.append_assoc, List.append_assoc, List.set_append_right _ _ (Nat.le_refl _), Nat.sub_self]
        simp [List.range_succ, List.replicate_succ']
      rw [e2]
      exact ih (i + 1) (by omega)
  have e0 : h ++ [PO.lst []] = mts h 0 := by simp [mts]
  show lcRun _ _ h.length _ 0 (h ++ [PO.lst []]) = _
  rw [e0]
  have := gen k 0 (by omega)
  simpa using this
theorem p_bfor {m : Int} (hm : m ≤ 64) : ∃ k : Nat, call (n + 1) 35 [.int m] h = .ok (.int k) h ∧ 4 ≤ k ∧ k ≤ 64 := by
  rw [call_run (d := d__buckets_for) rfl rfl]
  obtain ⟨ρ', h', e, k, q1, q2, k4, k64⟩ := wh_inv (c := evT T (call n) (.cmp .lt (.var 1) (.var 0))) (body := exSs T (call n) 100 [.aug (.nm 1) .mul (.con (.int 2))])
    (I := fun j ρ h' => ∃ b : Nat, ρ = [some (.int m), some (.int b)] ∧ h' = h ∧ (b = 4 ∨ b = 8 ∨ b = 16 ∨ b = 32 ∨ b = 64) ∧ j = 64 - b)
    (Q := fun ρ h' => ∃ b : Nat, ρ = [some (.int m), some (.int b)] ∧ h' = h ∧ 4 ≤ b ∧ b ≤ 64)
    (fun j ρ h' ⟨b, e1, e2, hb, e3⟩ => by
      subst e1 e2 e3
      have c1 : evT T (call n) (.cmp .lt (.var 1) (.var 0)) [some (.int m), some (.int b)] h' = .ok (decide ((b : Int) < m)) h' := t_bl (e_cmp (h1 := h') (h2 := h') (e_var rfl) (e_var rfl) rfl)
      by_cases c : (b : Int) < m
      · rw [decide_eq_true c] at c1
        have bg : big (b : Nat) 2 = true := big_ok (b := 2) (k := 17) (by omega) (by decide) (by decide)
        refine .inr ⟨h', [some (.int m), some (.int (b * 2 : Nat))], h', 64 - b * 2, c1, ?_, by omega, b * 2, rfl, rfl, by omega, rfl⟩
        refine st_nx (ρ1 := [some (.int m), some (.int (b * 2 : Nat))]) (h1 := h') ?_ s_nil
        simp only [exS, List.getElem?_cons_succ, List.getElem?_cons_zero, evE, Res.bind_ok]
        rw [if_pos (by simpa using bg)]
        push_cast
        rfl
      · rw [decide_eq_false c] at c1
        exact .inl ⟨h', c1, b, rfl, rfl, by omega, by omega⟩)
    60 100 [some (.int m), some (.int 4)] h (by decide) ⟨4, rfl, rfl, .inl rfl, rfl⟩
  subst q1 q2
  refine ⟨k, rd_rt rfl ?_, k4, k64⟩
  show exSs T (call n) 100 b__buckets_for [some (.int m), none] h' = _
  refine st_nx (s_asg (v := .int 4) (e_glob rfl)) ?_
  refine st_nx (ρ1 := [some (.int m), some (.int k)]) ?_ (st_rt (s_ret (e_var rfl)))
  simp only [exS]
  exact e
theorem psOf_map : ∀ ps : List (Int × List Nat), psOf (ps.map ofP) = some ps
  | [] => rfl
  | p :: ps => by
    simp only [List.map_cons, psOf, psOf_map ps]
    rfl
theorem l_rows {s : Nat} (hs2 : s < 3) : ∃ h', call (n + 4) 47 [.int s] h = .ok (.ref (h.length + 4)) h' ∧ h'[h.length + 4]? = some (.lst ((rows s).map ofP)) ∧ Fr [] h h' := by
  rw [call_run (d := d__law_rows) rfl rfl]
  let L1 : List PV := (N20.take 15).map .str
  let L2' : List PV := (N20.drop 15).map .str
  have e0 : L1 ++ L2' = N20.map .str := by
    show (N20.take 15).map PV.str ++ (N20.drop 15).map PV.str = _
    rw [← List.map_append, List.take_append_drop]
  refine ⟨h ++ [.lst L1] ++ [.lst L2'] ++ [.lst (N20.map .str)] ++ [.lst ((N20.map (pr s)).map ofP)] ++ [.lst ((rows s).map ofP)], rd_rt rfl ?_, by simp, by
    simp only [List.append_assoc]
    exact Fr.app⟩
  show exSs T (call (n + 3)) 100 b__law_rows [some (.int s), none, none] h = _
  refine st_nx (ρ1 := [some (.int s), some (.ref h.length), none]) (h1 := h ++ [.lst L1]) (s_asg (v := .ref h.length) (e_lst (vs := L1) rfl (by decide))) ?_
  refine st_nx (ρ1 := [some (.int s), some (.ref (h.length + 2)), none]) (h1 := h ++ [.lst L1] ++ [.lst L2'] ++ [.lst (N20.map .str)]) (s_asg (v := .ref (h.length + 2)) ?_) ?_
  · refine e_bin (v := .ref h.length) (w := .ref (h.length + 1)) (h1 := h ++ [.lst L1]) (h2 := h ++ [.lst L1] ++ [.lst L2']) (e_var rfl) (by
      have := e_lst (T := T) (cl := call (n + 3)) (ρ := [some (.int s), some (.ref h.length), none]) (h := h ++ [.lst L1]) (h1 := h ++ [.lst L1]) (vs := L2') (es := [.con (.str [97, 97]), .con (.str [98, 98]), .con (.str [99, 99]), .con (.str [100, 100]), .con (.str [101, 101, 101])]) rfl (by decide)
      simpa using this) ?_
    have g1 : (h ++ [PO.lst L1] ++ [PO.lst L2'])[h.length]? = some (.lst L1) := by simp
    have g2 : (h ++ [PO.lst L1] ++ [PO.lst L2'])[h.length + 1]? = some (.lst L2') := by simp
    simp only [pBin, g1, g2]
    rw [if_pos (show L1.length + L2'.length ≤ sizeLine by decide), e0]
    simp
  · refine st_rt (s_ret ?_)
    refine e_bi (vs := [.ref (h.length + 3)]) (h1 := h ++ [.lst L1] ++ [.lst L2'] ++ [.lst (N20.map .str)] ++ [.lst ((N20.map (pr s)).map ofP)]) (e_one ?_) ?_
    · have k := lc_ref (T := T) (cl := call (n + 3)) (e := .tup [.call 24 [.call 22 [.var 0, .var 2]], .var 2]) (src := .var 1) (own := [2]) (t := .nm 2) (ifs := []) (xs := N20.map .str) (l := h.length + 2) (ρ := [some (.int s), some (.ref (h.length + 2)), none]) (h := h ++ [.lst L1] ++ [.lst L2'] ++ [.lst (N20.map .str)]) (h1 := h ++ [.lst L1] ++ [.lst L2'] ++ [.lst (N20.map .str)])
        (fun _ => true) (fun v => match v with | .str x => ofP (pr s x) | _ => .non) (e_var rfl) (by simp) (by decide) (fun x hx h' _ _ => by
          obtain ⟨y, hy, rfl⟩ := List.mem_map.mp hx
          refine lcB_all (ρ1 := [some (.int s), some (.ref (h.length + 2)), some (.str y)]) rfl ?_
          refine e_tup (vs := [.int (sp s y : Nat), .str y]) (e_two ?_ (e_var rfl)) (by simp)
          refine e_call (f := 46) (vs := [.int (hs s y : Nat)]) (h1 := h') rfl (e_one ?_) l_spot
          exact e_call (f := 44) (vs := [.int s, .str y]) (h1 := h') rfl rfl (l_hby hs2 hy))
      rw [k, List.filter_eq_self.mpr (fun _ _ => rfl), List.map_map, List.map_map]
      have e1 : (h ++ [PO.lst L1] ++ [PO.lst L2'] ++ [PO.lst (N20.map PV.str)]).length = h.length + 3 := by simp
      rw [e1]
      rfl
    · have g : (h ++ [PO.lst L1] ++ [PO.lst L2'] ++ [PO.lst (N20.map PV.str)] ++ [PO.lst ((N20.map (pr s)).map ofP)])[h.length + 3]? = some (.lst ((N20.map (pr s)).map ofP)) := by simp
      simp only [pBi, lstAt, g, psOf_map]
      congr 1
      simp
end
end K06
set_option Elab.async false
set_option linter.all false
set_option maxRecDepth 100000
set_option maxHeartbeats 1000000
namespace K06
open PySem PySem.Spec PyProof.Rows L2 Mn
def kk (x : Tx) : Key := Sum.inr ⟨x.toArray⟩
theorem kk_inj {x y : Tx} (h : kk x = kk y) : x = y := by
  unfold kk at h
  have := Sum.inr.inj h
  have := congrArg (fun s : Str => s.cps.toList) this
  simpa using this
theorem kk_iff {x y : Tx} : kk x = kk y ↔ x = y := ⟨kk_inj, fun e => by rw [e]⟩
abbrev Cp (v : PV) : Prop := (∃ i, v = .int i) ∨ (∃ x, v = .str x) ∨ v = .non
structure DN (kvs : List (Key × PV)) (vn : List Tx) : Prop where
  ks : kvs.map (·.1) = vn.map kk
  cp : ∀ q ∈ kvs, Cp q.2
theorem DN.nil : DN [] [] := ⟨rfl, fun q h => by cases h⟩
theorem DN.get : ∀ {kvs : List (Key × PV)} {vn : List Tx}, DN kvs vn → ∀ y, (y ∈ vn → ∃ v, dLook kvs (kk y) = some v ∧ Cp v) ∧ (y ∉ vn → dLook kvs (kk y) = none)
  | [], vn, d, y => by
    have : vn = [] := by have := d.ks; simpa using this.symm
    subst this
    exact ⟨(fun h => by cases h), fun _ => rfl⟩
  | q :: kvs, vn, d, y => by
    cases vn with
    | nil => have := d.ks; simp at this
    | cons x vn =>
      have e := d.ks
      simp only [List.map_cons, List.cons.injEq] at e
      have d' : DN kvs vn := ⟨e.2, fun p hp => d.cp p (List.mem_cons_of_mem _ hp)⟩
      obtain ⟨i1, i2⟩ := DN.get d' y
      unfold dLook at i1 i2 ⊢
      rw [List.find?_cons]
      by_cases h : y = x
      · subst h
        rw [decide_eq_true e.1]
        exact ⟨fun _ => ⟨q.2, rfl, d.cp q (List.mem_cons_self ..)⟩, fun n => absurd (List.mem_cons_self ..) n⟩
      · have : q.1 ≠ kk y := fun z => h (kk_inj (z.symm.trans e.1))
        rw [decide_eq_false this]
        refine ⟨fun hm => i1 ?_, fun hm => i2 fun z => hm (List.mem_cons_of_mem _ z)⟩
        rcases List.mem_cons.mp hm with z | z
        · exact absurd z h
        · exact z
theorem DN.has {kvs : List (Key × PV)} {vn : List Tx} (d : DN kvs vn) (y : Tx) : (dLook kvs (kk y)).isSome = decide (y ∈ vn) := by
  by_cases h : y ∈ vn
  · obtain ⟨v, e, _⟩ := (d.get y).1 h
    rw [e, decide_eq_true h]
    rfl
  · rw [(d.get y).2 h, decide_eq_false h]
    rfl
theorem DN.any {kvs : List (Key × PV)} {vn : List Tx} (d : DN kvs vn) (y : Tx) : (kvs.any fun kv => decide (kv.1 = kk y)) = decide (y ∈ vn) := by
  have e : (kvs.any fun kv => decide (kv.1 = kk y)) = (kvs.map (·.1)).any fun k => decide (k = kk y) := by rw [List.any_map]; rfl
  rw [e, d.ks, List.any_map]
  by_cases h : y ∈ vn
  · rw [decide_eq_true h]
    exact List.any_eq_true.mpr ⟨y, h, by simp⟩
  · rw [decide_eq_false h]
    refine List.any_eq_false.mpr fun x hx => ?_
    simp only [Function.comp_apply, decide_eq_true_eq]
    exact fun z => h (kk_inj z ▸ hx)
theorem DN.put {kvs : List (Key × PV)} {vn : List Tx} (d : DN kvs vn) {y : Tx} {v : PV} (hv : Cp v) : DN (dPut kvs (kk y) v) (if y ∈ vn then vn else vn ++ [y]) := by
  unfold dPut
  rw [d.any y]
  by_cases h : y ∈ vn
  · rw [decide_eq_true h, if_pos rfl, if_pos h]
    refine ⟨?_, fun q hq => ?_⟩
    · rw [List.map_map, ← d.ks]
      refine List.map_congr_left fun q _ => ?_
      simp only [Function.comp_apply]
      split <;> rfl
    · obtain ⟨p, hp, rfl⟩ := List.mem_map.mp hq
      split
      · exact hv
      · exact d.cp p hp
  · rw [decide_eq_false h, if_neg (by simp), if_neg h]
    refine ⟨by rw [List.map_append, List.map_append, d.ks]; rfl, fun q hq => ?_⟩
    rcases List.mem_append.mp hq with hq | hq
    · exact d.cp q hq
    · rw [List.mem_singleton.mp hq]; exact hv
theorem DN.drop {kvs : List (Key × PV)} {vn : List Tx} (d : DN kvs vn) (nd : vn.Nodup) (y : Tx) : DN (dDrop kvs (kk y)) (vn.erase y) := by
  unfold dDrop
  refine ⟨?_, fun q hq => d.cp q (List.mem_filter.mp hq).1⟩
  have e : (kvs.filter fun kv => decide (kv.1 ≠ kk y)).map (·.1) = (kvs.map (·.1)).filter fun k => decide (k ≠ kk y) := by rw [List.filter_map]; rfl
  rw [e, d.ks, List.filter_map, nd.erase_eq_filter]
  congr 1
  refine List.filter_congr fun x _ => ?_
  simp only [Function.comp_apply]
  by_cases h : x = y
  · subst h; simp
  · rw [decide_eq_true (p := kk x ≠ kk y) fun z => h (kk_inj z)]
    simp [h]
def hd (s : Nat) (kn : List Tx) : List (Key × PV) := kn.map fun x => (kk x, .int (hs s x : Nat))
theorem hd_dn (s : Nat) (kn : List Tx) : DN (hd s kn) kn := ⟨by unfold hd; rw [List.map_map]; rfl, fun q hq => by
  obtain ⟨x, _, rfl⟩ := List.mem_map.mp hq
  exact .inl ⟨_, rfl⟩⟩
theorem hd_get (s : Nat) : ∀ {kn : List Tx} {y : Tx}, y ∈ kn → dLook (hd s kn) (kk y) = some (.int (hs s y : Nat))
  | x :: kn, y, h => by
    unfold hd dLook
    rw [List.map_cons, List.find?_cons]
    by_cases e : x = y
    · subst e
      rw [decide_eq_true rfl]
      rfl
    · rw [decide_eq_false (fun z => e (kk_inj z))]
      exact hd_get s ((List.mem_cons.mp h).resolve_left fun z => e z.symm)
theorem hd_put (s : Nat) {kn : List Tx} {y : Tx} (h : y ∉ kn) : dPut (hd s kn) (kk y) (.int (hs s y : Nat)) = hd s (kn ++ [y]) := by
  unfold dPut
  rw [(hd_dn s kn).any y, decide_eq_false h, if_neg (by simp)]
  simp [hd]
theorem hd_drop (s : Nat) {kn : List Tx} (nd : kn.Nodup) (y : Tx) : dDrop (hd s kn) (kk y) = hd s (kn.erase y) := by
  unfold dDrop hd
  rw [List.filter_map, nd.erase_eq_filter]
  congr 1
  refine List.filter_congr fun x _ => ?_
  simp only [Function.comp_apply]
  by_cases h : x = y
  · subst h; simp
  · rw [decide_eq_true (p := kk x ≠ kk y) fun z => h (kk_inj z)]
    simp [h]
def spf (s : Nat) : Nat := if s = 1 then 42 else if s = 2 then 43 else 8
theorem p_spread {n s : Nat} {h : PH} {x : Tx} (hs2 : s < 3) (hx : IsN x) : call (n + 4) (spf s) [.str x] h = .ok (.int (hs s x : Nat)) h := by
  match s, hs2 with
  | 0, _ => exact p_hash hx
  | 1, _ => exact l_few hx
  | 2, _ => exact l_pairs
theorem spf_fn {s : Nat} (hs2 : s < 3) : T.glob.any (isFnOf (spf s)) = true := by
  match s, hs2 with
  | 0, _ => rfl
  | 1, _ => rfl
  | 2, _ => rfl
structure Ps where
  t : Nat
  v : Nat
  k : Nat
  o : Nat
  b : Nat
  c : Nat
  bl : List Nat
  cl : List Nat
def Ps.all (p : Ps) : List Nat := p.t :: p.v :: p.k :: p.o :: p.b :: p.c :: (p.bl ++ p.cl)
def fsT (s : Nat) (p : Ps) (mv : Nat) : List (Nat × PV) := [(1, .fn (spf s)), (2, .ref p.v), (3, .ref p.k), (4, .ref p.o), (5, .ref p.b), (6, .ref p.c), (7, .int mv)]
structure TW (h : PH) (s : Nat) (p : Ps) (vn kn : List Tx) (ord : List (Int × List Nat)) (B C : List (List Tx)) (mv : Nat) : Prop where
  ht : h[p.t]? = some (.ins 1 (fsT s p mv))
  hv : ∃ kvs, h[p.v]? = some (.dic kvs) ∧ DN kvs vn
  hk : h[p.k]? = some (.dic (hd s kn))
  ho : h[p.o]? = some (.lst (ord.map ofP))
  hb : h[p.b]? = some (.lst (p.bl.map .ref))
  hc : h[p.c]? = some (.lst (p.cl.map .ref))
  lb : p.bl.length = B.length
  lc : p.cl.length = C.length
  gb : ∀ (j q : Nat), p.bl[j]? = some q → h[q]? = some (.lst ((B.getD j []).map .str))
  gc : ∀ (j q : Nat), p.cl[j]? = some q → h[q]? = some (.lst ((C.getD j []).map .str))
  nd : p.all.Nodup
theorem nd_ne {S : List Nat} (nd : S.Nodup) {i j a b : Nat} (hi : S[i]? = some a) (hj : S[j]? = some b) (h : i ≠ j) : a ≠ b := fun e => by
  obtain ⟨h1, e1⟩ := List.getElem?_eq_some_iff.mp hi
  obtain ⟨h2, e2⟩ := List.getElem?_eq_some_iff.mp hj
  exact h ((List.getElem_inj nd).mp (e1.trans (e.trans e2.symm)))
section
variable {n s mv : Nat} {h h1 : PH} {p : Ps} {vn kn : List Tx} {ord : List (Int × List Nat)} {B C : List (List Tx)}
theorem ix_bl {j q : Nat} (e : p.bl[j]? = some q) : p.all[6 + j]? = some q := by
  have hj := (List.getElem?_eq_some_iff.mp e).1
  unfold Ps.all
  rw [show 6 + j = j + 6 by omega]
  simp only [List.getElem?_cons_succ]
  rw [List.getElem?_append_left hj]
  exact e
theorem ix_cl {j q : Nat} (e : p.cl[j]? = some q) : p.all[6 + p.bl.length + j]? = some q := by
  unfold Ps.all
  rw [show 6 + p.bl.length + j = (p.bl.length + j) + 6 by omega]
  simp only [List.getElem?_cons_succ]
  rw [List.getElem?_append_right (by omega), Nat.add_sub_cancel_left]
  exact e
theorem TW.fr {S : List Nat} (w : TW h s p vn kn ord B C mv) (f : Fr S h h1) (hd : ∀ m ∈ p.all, m ∉ S) : TW h1 s p vn kn ord B C mv := by
  have m : ∀ {i q : Nat}, p.all[i]? = some q → q ∈ p.all := fun e => List.mem_of_getElem? e
  refine ⟨f.get w.ht (hd _ (m (i := 0) rfl)), ?_, f.get w.hk (hd _ (m (i := 2) rfl)), f.get w.ho (hd _ (m (i := 3) rfl)), f.get w.hb (hd _ (m (i := 4) rfl)), f.get w.hc (hd _ (m (i := 5) rfl)), w.lb, w.lc, fun j q e => f.get (w.gb j q e) (hd _ (m (ix_bl e))), fun j q e => f.get (w.gc j q e) (hd _ (m (ix_cl e))), w.nd⟩
  obtain ⟨kvs, e, d⟩ := w.hv
  exact ⟨kvs, f.get e (hd _ (m (i := 1) rfl)), d⟩
theorem TW.fr0 (w : TW h s p vn kn ord B C mv) (f : Fr [] h h1) : TW h1 s p vn kn ord B C mv := w.fr f fun _ _ => by simp
theorem set_ne {a b : Nat} {o : PO} (e : a ≠ b) : (h.set a o)[b]? = h[b]? := List.getElem?_set_ne e
theorem TW.fld (w : TW h s p vn kn ord B C mv) {ρ : PEnv} {cl : Nat → List PV → PH → Res PV} {i f : Nat} {v : PV} (hi : ρ[i]? = some (some (.ref p.t))) (hf : (fsT s p mv).lookup f = some v) (ha : attK T 1 f = some none := by rfl) : evE T cl (.att (.var i) f) ρ h = .ok v h := e_fld (e_var hi) w.ht ha hf
theorem TW.setK (w : TW h s p vn kn ord B C mv) (kn' : List Tx) : TW (h.set p.k (.dic (hd s kn'))) s p vn kn' ord B C mv := by
  have ne : ∀ {i q : Nat}, p.all[i]? = some q → i ≠ 2 → p.k ≠ q := fun e h => nd_ne w.nd (i := 2) rfl e (Ne.symm h)
  refine ⟨by rw [set_ne (ne (i := 0) rfl (by decide))]; exact w.ht, ?_, set_at w.hk, by rw [set_ne (ne (i := 3) rfl (by decide))]; exact w.ho, by rw [set_ne (ne (i := 4) rfl (by decide))]; exact w.hb, by rw [set_ne (ne (i := 5) rfl (by decide))]; exact w.hc, w.lb, w.lc,
    fun j q e => by rw [set_ne (ne (ix_bl e) (by omega))]; exact w.gb j q e, fun j q e => by rw [set_ne (ne (ix_cl e) (by omega))]; exact w.gc j q e, w.nd⟩
  obtain ⟨kvs, e, d⟩ := w.hv
  exact ⟨kvs, by rw [set_ne (ne (i := 1) rfl (by decide))]; exact e, d⟩
theorem TW.setV (w : TW h s p vn kn ord B C mv) {kvs' : List (Key × PV)} {vn' : List Tx} (d' : DN kvs' vn') : TW (h.set p.v (.dic kvs')) s p vn' kn ord B C mv := by
  have ne : ∀ {i q : Nat}, p.all[i]? = some q → i ≠ 1 → p.v ≠ q := fun e h => nd_ne w.nd (i := 1) rfl e (Ne.symm h)
  obtain ⟨kvs, e, d⟩ := w.hv
  exact ⟨by rw [set_ne (ne (i := 0) rfl (by decide))]; exact w.ht, ⟨kvs', set_at e, d'⟩, by rw [set_ne (ne (i := 2) rfl (by decide))]; exact w.hk, by rw [set_ne (ne (i := 3) rfl (by decide))]; exact w.ho, by rw [set_ne (ne (i := 4) rfl (by decide))]; exact w.hb, by rw [set_ne (ne (i := 5) rfl (by decide))]; exact w.hc, w.lb, w.lc,
    fun j q e => by rw [set_ne (ne (ix_bl e) (by omega))]; exact w.gb j q e, fun j q e => by rw [set_ne (ne (ix_cl e) (by omega))]; exact w.gc j q e, w.nd⟩
theorem TW.setO (w : TW h s p vn kn ord B C mv) (ord' : List (Int × List Nat)) : TW (h.set p.o (.lst (ord'.map ofP))) s p vn kn ord' B C mv := by
  have ne : ∀ {i q : Nat}, p.all[i]? = some q → i ≠ 3 → p.o ≠ q := fun e h => nd_ne w.nd (i := 3) rfl e (Ne.symm h)
  refine ⟨by rw [set_ne (ne (i := 0) rfl (by decide))]; exact w.ht, ?_, by rw [set_ne (ne (i := 2) rfl (by decide))]; exact w.hk, set_at w.ho, by rw [set_ne (ne (i := 4) rfl (by decide))]; exact w.hb, by rw [set_ne (ne (i := 5) rfl (by decide))]; exact w.hc, w.lb, w.lc,
    fun j q e => by rw [set_ne (ne (ix_bl e) (by omega))]; exact w.gb j q e, fun j q e => by rw [set_ne (ne (ix_cl e) (by omega))]; exact w.gc j q e, w.nd⟩
  obtain ⟨kvs, e, d⟩ := w.hv
  exact ⟨kvs, by rw [set_ne (ne (i := 1) rfl (by decide))]; exact e, d⟩
theorem TW.setBj (w : TW h s p vn kn ord B C mv) {j q : Nat} (e : p.bl[j]? = some q) (b : List Tx) : TW (h.set q (.lst (b.map .str))) s p vn kn ord (B.set j b) C mv := by
  have hj : j < p.bl.length := (List.getElem?_eq_some_iff.mp e).1
  have hjB : j < B.length := by rw [← w.lb]; exact hj
  have ne : ∀ {i r : Nat}, p.all[i]? = some r → i ≠ 6 + j → q ≠ r := fun e' h => nd_ne w.nd (ix_bl e) e' (Ne.symm h)
  refine ⟨by rw [set_ne (ne (i := 0) rfl (by omega))]; exact w.ht, ?_, by rw [set_ne (ne (i := 2) rfl (by omega))]; exact w.hk, by rw [set_ne (ne (i := 3) rfl (by omega))]; exact w.ho, by rw [set_ne (ne (i := 4) rfl (by omega))]; exact w.hb, by rw [set_ne (ne (i := 5) rfl (by omega))]; exact w.hc, by rw [List.length_set]; exact w.lb, w.lc,
    fun j' q' e' => ?_, fun j' q' e' => by rw [set_ne (ne (ix_cl e') (by omega))]; exact w.gc j' q' e', w.nd⟩
  · obtain ⟨kvs, e, d⟩ := w.hv
    exact ⟨kvs, by rw [set_ne (ne (i := 1) rfl (by omega))]; exact e, d⟩
  · rw [getD_set hjB]
    by_cases z : j' = j
    · subst z
      rw [e] at e'
      cases e'
      rw [if_pos rfl, set_at (w.gb _ _ e)]
    · rw [if_neg z, set_ne (ne (ix_bl e') (by omega))]
      exact w.gb j' q' e'
theorem TW.setCj (w : TW h s p vn kn ord B C mv) {j q : Nat} (e : p.cl[j]? = some q) (b : List Tx) : TW (h.set q (.lst (b.map .str))) s p vn kn ord B (C.set j b) mv := by
  have hj : j < p.cl.length := (List.getElem?_eq_some_iff.mp e).1
  have hjC : j < C.length := by rw [← w.lc]; exact hj
  have ne : ∀ {i r : Nat}, p.all[i]? = some r → i ≠ 6 + p.bl.length + j → q ≠ r := fun e' h => nd_ne w.nd (ix_cl e) e' (Ne.symm h)
  refine ⟨by rw [set_ne (ne (i := 0) rfl (by omega))]; exact w.ht, ?_, by rw [set_ne (ne (i := 2) rfl (by omega))]; exact w.hk, by rw [set_ne (ne (i := 3) rfl (by omega))]; exact w.ho, by rw [set_ne (ne (i := 4) rfl (by omega))]; exact w.hb, by rw [set_ne (ne (i := 5) rfl (by omega))]; exact w.hc, w.lb, by rw [List.length_set]; exact w.lc,
    fun j' q' e' => ?_, fun j' q' e' => ?_, w.nd⟩
  · obtain ⟨kvs, e, d⟩ := w.hv
    exact ⟨kvs, by rw [set_ne (ne (i := 1) rfl (by omega))]; exact e, d⟩
  · have hj' := (List.getElem?_eq_some_iff.mp e').1
    rw [set_ne (ne (ix_bl e') (by omega))]
    exact w.gb j' q' e'
  · rw [getD_set hjC]
    by_cases z : j' = j
    · subst z
      rw [e] at e'
      cases e'
      rw [if_pos rfl, set_at (w.gc _ _ e)]
    · rw [if_neg z, set_ne (ne (ix_cl e') (by omega))]
      exact w.gc j' q' e'
theorem e_hash (w : TW h s p vn kn ord B C mv) {x : Tx} (hx : x ∈ kn) {ρ : PEnv} {cl : Nat → List PV → PH → Res PV} {i j : Nat} (hi : ρ[i]? = some (some (.ref p.t))) (hj : ρ[j]? = some (some (.str x))) : evE T cl (.ix (.att (.var i) 3) (.var j)) ρ h = .ok (.int (hs s x : Nat)) h := by
  refine e_ix (v := .ref p.k) (w := .str x) (h1 := h) (h2 := h) (w.fld hi rfl) (e_var hj) ?_
  simp only [pIx, w.hk]
  rw [show (Sum.inr ⟨x.toArray⟩ : Key) = kk x from rfl, hd_get s hx]
theorem p_bin (w : TW h s p vn kn ord B C mv) {x : Tx} (hx : x ∈ kn) {q : Nat} {pl : List Nat} (hq : h[q]? = some (.lst (pl.map .ref))) (hp : 0 < pl.length) (hz : pl.length ≤ 100) : ∃ r, pl[hs s x % pl.length]? = some r ∧ call (n + 1) 30 [.ref p.t, .ref q, .str x] h = .ok (.ref r) h := by
  have hm : hs s x % pl.length < pl.length := Nat.mod_lt _ hp
  refine ⟨pl[hs s x % pl.length], List.getElem?_eq_getElem hm, ?_⟩
  rw [call_run (d := d_Table__bucket_in) rfl rfl]
  refine rd_rt rfl (st_rt (s_ret ?_))
  show evE T (call n) (.ix (.var 1) (.bin .mod (.ix (.att (.var 0) 3) (.var 2)) (.bi .len [.var 1]))) [some (.ref p.t), some (.ref q), some (.str x)] h = _
  have e1 : evE T (call n) (.bi .len [.var 1]) [some (.ref p.t), some (.ref q), some (.str x)] h = .ok (.int pl.length) h := e_bi (h1 := h) (vs := [.ref q]) (e_one (e_var rfl)) (by simp only [pBi, hq, List.length_map])
  refine e_ix (v := .ref q) (w := .int (hs s x % pl.length : Nat)) (h1 := h) (h2 := h) (e_var rfl) (e_bin (h1 := h) (h2 := h) (e_hash w hx rfl rfl) e1 ?_) ?_
  · simp only [pBin]
    rw [if_pos (by simpa using hp)]
    push_cast
    rfl
  · simp only [pIx, hq]
    rw [atI_lt (by simpa using hm)]
    simp
theorem p_pair (w : TW h s p vn kn ord B C mv) {x : Tx} (hx : x ∈ kn) (hN : IsN x) : call (n + 5) 31 [.ref p.t, .str x] h = .ok (ofP (pr s x)) h := by
  rw [call_run (d := d_Table__pair_of) rfl rfl]
  refine rd_rt rfl (st_rt (s_ret ?_))
  show evE T (call (n + 4)) (.tup [.call 9 [.ix (.att (.var 0) 3) (.var 1), .glob 35], .var 1]) [some (.ref p.t), some (.str x)] h = _
  refine e_tup (vs := [.int (sp s x : Nat), .str x]) (e_two (h1 := h) ?_ (e_var rfl)) (by simp)
  exact e_call (f := 9) (vs := [.int (hs s x : Nat), .int 16]) (h1 := h) rfl (e_two (h1 := h) (e_hash w hx rfl rfl) (e_glob rfl)) (p_rev (hs_lt hN))
end
end K06
set_option Elab.async false
set_option linter.all false
set_option maxRecDepth 100000
set_option maxHeartbeats 1000000
namespace K06
open PySem PySem.Spec PyProof.Rows L2 Mn
section
variable {n s mv : Nat} {h h1 : PH} {p : Ps} {vn kn : List Tx} {ord : List (Int × List Nat)} {B C : List (List Tx)}
theorem TW.lt (w : TW h s p vn kn ord B C mv) {m : Nat} (hm : m ∈ p.all) : m < h.length := by
  unfold Ps.all at hm
  simp only [List.mem_cons, List.mem_append] at hm
  rcases hm with rfl | rfl | rfl | rfl | rfl | rfl | hm | hm
  · exact get_lt w.ht
  · obtain ⟨_, e, _⟩ := w.hv; exact get_lt e
  · exact get_lt w.hk
  · exact get_lt w.ho
  · exact get_lt w.hb
  · exact get_lt w.hc
  · obtain ⟨j, e⟩ := List.getElem?_of_mem hm; exact get_lt (w.gb j _ e)
  · obtain ⟨j, e⟩ := List.getElem?_of_mem hm; exact get_lt (w.gc j _ e)
theorem s_aug {cl : Nat → List PV → PH → Res PV} {ρ : PEnv} {h2 : PH} {o e : Ex} {f l c : Nat} {a b : Int} {fs : List (Nat × PV)} (ho : evE T cl o ρ h = .ok (.ref l) h1) (hl : h1[l]? = some (.ins c fs)) (ha : attK T c f = some none) (hf : fs.lookup f = some (.int a)) (he : evE T cl e ρ h1 = .ok (.int b) h2) (hl2 : h2[l]? = some (.ins c fs)) (hz : fs.length < 1000) :
    exS T cl 100 (.aug (.att o f) .add e) ρ h = .ok (.nx ρ) (h2.set l (.ins c (putN f (.int (a + b)) fs))) := by
  simp only [exS, ho, Res.bind_ok, hl, ha, hf, he, pAug, hl2]
  rw [if_pos ⟨trivial, hz⟩]
theorem TW.setT (w : TW h s p vn kn ord B C mv) (mv' : Nat) : TW (h.set p.t (.ins 1 (fsT s p mv'))) s p vn kn ord B C mv' := by
  have ne : ∀ {i q : Nat}, p.all[i]? = some q → i ≠ 0 → p.t ≠ q := fun e h => nd_ne w.nd (i := 0) rfl e (Ne.symm h)
  obtain ⟨kvs, e, d⟩ := w.hv
  exact ⟨set_at w.ht, ⟨kvs, by rw [set_ne (ne (i := 1) rfl (by decide))]; exact e, d⟩, by rw [set_ne (ne (i := 2) rfl (by decide))]; exact w.hk, by rw [set_ne (ne (i := 3) rfl (by decide))]; exact w.ho, by rw [set_ne (ne (i := 4) rfl (by decide))]; exact w.hb, by rw [set_ne (ne (i := 5) rfl (by decide))]; exact w.hc, w.lb, w.lc,
    fun j q e => by rw [set_ne (ne (ix_bl e) (by omega))]; exact w.gb j q e, fun j q e => by rw [set_ne (ne (ix_cl e) (by omega))]; exact w.gc j q e, w.nd⟩
theorem nodup_set {S : List Nat} (nd : S.Nodup) {i q : Nat} (hq : q ∉ S) : (S.set i q).Nodup := by
  rw [List.nodup_iff_pairwise_ne] at *
  rw [List.pairwise_iff_getElem] at *
  intro a b ha hb hab
  rw [List.length_set] at ha hb
  rw [List.getElem_set, List.getElem_set]
  have hm : ∀ j (hj : j < S.length), q ≠ S[j] := fun j hj e => hq (e ▸ List.getElem_mem hj)
  split
  · split
    · omega
    · exact hm b hb
  · split
    · exact fun e => hm a ha e.symm
    · exact nd a b ha hb hab
theorem TW.newB (w : TW h s p vn kn ord B C mv) {j : Nat} (hj : j < p.bl.length) : TW ((h ++ [PO.lst []]).set p.b (.lst ((p.bl.set j h.length).map .ref))) s { p with bl := p.bl.set j h.length } vn kn ord (B.set j []) C mv := by
  have hjB : j < B.length := by rw [← w.lb]; exact hj
  have hf : h.length ∉ p.all := fun z => Nat.lt_irrefl _ (w.lt z)
  have ne : ∀ {i q : Nat}, p.all[i]? = some q → i ≠ 4 → p.b ≠ q := fun e h => nd_ne w.nd (i := 4) rfl e (Ne.symm h)
  obtain ⟨kvs, e, d⟩ := w.hv
  refine ⟨by rw [set_ne (ne (i := 0) rfl (by decide))]; exact app_at w.ht, ⟨kvs, by rw [set_ne (ne (i := 1) rfl (by decide))]; exact app_at e, d⟩, by rw [set_ne (ne (i := 2) rfl (by decide))]; exact app_at w.hk, by rw [set_ne (ne (i := 3) rfl (by decide))]; exact app_at w.ho, set_at (app_at w.hb), by rw [set_ne (ne (i := 5) rfl (by decide))]; exact app_at w.hc, by simp [w.lb], w.lc,
    fun j' q' e' => ?_, fun j' q' e' => ?_, ?_⟩
  · simp only at e'
    rw [getD_set hjB]
    by_cases z : j' = j
    · subst z
      rw [List.getElem?_set_self hj] at e'
      cases e'
      rw [if_pos rfl, set_ne (fun q => hf (by rw [← q]; exact List.mem_of_getElem? (i := 4) rfl))]
      simp
    · rw [List.getElem?_set_ne (fun q => z q.symm)] at e'
      rw [if_neg z, set_ne (ne (ix_bl e') (by omega))]
      exact app_at (w.gb j' q' e')
  · rw [set_ne (ne (ix_cl e') (by omega))]
    exact app_at (w.gc j' q' e')
  · have e2 : ({ p with bl := p.bl.set j h.length } : Ps).all = p.all.set (6 + j) h.length := by
      unfold Ps.all
      rw [show 6 + j = j + 6 by omega]
      simp only [List.set_cons_succ]
      rw [List.set_append_left _ _ hj]
    rw [e2]
    exact nodup_set w.nd hf
theorem TW.swap (w : TW h s p vn kn ord B C mv) : TW ((h ++ [PO.lst []]).set p.t (.ins 1 (fsT s { p with b := p.c, c := h.length, bl := p.cl, cl := [] } 0))) s { p with b := p.c, c := h.length, bl := p.cl, cl := [] } vn kn ord C [] 0 := by
  have hf : h.length ∉ p.all := fun z => Nat.lt_irrefl _ (w.lt z)
  have ne : ∀ {i q : Nat}, p.all[i]? = some q → i ≠ 0 → p.t ≠ q := fun e h => nd_ne w.nd (i := 0) rfl e (Ne.symm h)
  obtain ⟨kvs, e, d⟩ := w.hv
  refine ⟨set_at (app_at w.ht), ⟨kvs, by rw [set_ne (ne (i := 1) rfl (by decide))]; exact app_at e, d⟩, by rw [set_ne (ne (i := 2) rfl (by decide))]; exact app_at w.hk, by rw [set_ne (ne (i := 3) rfl (by decide))]; exact app_at w.ho, by rw [set_ne (ne (i := 5) rfl (by decide))]; exact app_at w.hc, ?_, w.lc, rfl,
    fun j' q' e' => ?_, fun j' q' e' => by simp at e', ?_⟩
  · simp only
    rw [set_ne (fun q => hf (by rw [← q]; exact List.mem_of_getElem? (i := 0) rfl))]
    simp
  · simp only at e'
    rw [set_ne (ne (ix_cl e') (by omega))]
    exact app_at (w.gc j' q' e')
  · have nd := w.nd
    unfold Ps.all at nd hf ⊢
    simp only [List.nodup_cons, List.mem_cons, List.mem_append, not_or, List.append_nil, List.nodup_append] at nd hf ⊢
    obtain ⟨⟨a1, a2, a3, a4, a5, a6, a7⟩, ⟨b1, b2, b3, b4, b5, b6⟩, ⟨c1, c2, c3, c4, c5⟩, ⟨d1, d2, d3, d4⟩, ⟨f1, f2, f3⟩, ⟨g1, g2⟩, k1, k2, k3⟩ := nd
    obtain ⟨q1, q2, q3, q4, q5, q6, q7, q8⟩ := hf
    exact ⟨⟨a1, a2, a3, a5, fun z => q1 z.symm, a7⟩, ⟨b1, b2, b4, fun z => q2 z.symm, b6⟩, ⟨c1, c3, fun z => q3 z.symm, c5⟩, ⟨d2, fun z => q4 z.symm, d4⟩, ⟨fun z => q6 z.symm, g2⟩, q8, k2⟩
theorem bk_add {H : Tx → Nat} {L : List (List Tx)} (hl : 0 < L.length) (x : Tx) (j : Nat) : ((addB H L x).getD j []).length ≤ (L.getD j []).length + 1 := by
  unfold addB
  rw [getD_set (Nat.mod_lt _ hl)]
  split
  · rename_i e
    rw [e]
    simp
  · omega
theorem bk_all {H : Tx → Nat} : ∀ (xs : List Tx) {L : List (List Tx)}, 0 < L.length → ∀ j, ((addAll H L xs).getD j []).length ≤ (L.getD j []).length + xs.length
  | [], L, _, j => by simp [addAll]
  | x :: xs, L, hl, j => by
    have h1 := bk_all (H := H) xs (L := addB H L x) (by rw [addB_len]; exact hl) j
    have h2 := bk_add (H := H) hl x j
    show ((addAll H (addB H L x) xs).getD j []).length ≤ _
    simp only [List.length_cons]
    omega
theorem addAll_take {H : Tx → Nat} {L : List (List Tx)} {xs : List Tx} {i : Nat} (hi : i < xs.length) : addAll H L (xs.take (i + 1)) = addB H (addAll H L (xs.take i)) xs[i] := by
  unfold addAll
  rw [List.take_succ_eq_append_getElem hi, List.foldl_append]
  rfl
theorem s_into {ρ : PEnv} {x : Tx} {i : Nat} (w : TW h s p vn kn ord B C mv) (hx : x ∈ kn) (h0 : ρ[0]? = some (some (.ref p.t))) (hi : ρ[i]? = some (some (.str x))) (hC : 0 < C.length) (hz : C.length ≤ 100) (hb : ∀ j, (C.getD j []).length ≤ 100) :
    ∃ h', exS T (call (n + 1)) 100 (.ex (.mt 0 .append (.mt 13 .none (.var 0) [.att (.var 0) 6, .var i]) [.var i])) ρ h = .ok (.nx ρ) h' ∧ TW h' s p vn kn ord B (addB (hs s) C x) mv ∧ Fr p.cl h h' := by
  obtain ⟨r, er, e⟩ := p_bin (n := n) w hx w.hc (by rw [w.lc]; exact hC) (by rw [w.lc]; exact hz)
  rw [w.lc] at er
  have e1 : evE T (call (n + 1)) (.mt 13 .none (.var 0) [.att (.var 0) 6, .var i]) ρ h = .ok (.ref r) h := e_meth (g := 30) (vs := [.ref p.c, .str x]) (h1 := h) (h2 := h) (e_var h0) w.ht rfl rfl (e_two (h1 := h) (w.fld h0 rfl) (e_var hi)) e
  refine ⟨_, s_ex (e_app e1 (w.gc _ _ er) (e_var hi) (w.gc _ _ er) (by rw [List.length_map]; exact Nat.le_trans (hb _) (by decide))), ?_, Fr.set (List.mem_of_getElem? er)⟩
  have k := w.setCj er (C.getD (hs s x % C.length) [] ++ [x])
  rw [List.map_append] at k
  exact k
def Own (p p' : Ps) (h : PH) : Prop := p'.t = p.t ∧ ∀ m ∈ p'.all, m ∈ p.all ∨ h.length ≤ m
theorem Own.refl : Own p p h := ⟨rfl, fun _ m => .inl m⟩
theorem Own.trans {p1 p2 : Ps} {h2 : PH} (a : Own p p1 h) (b : Own p1 p2 h2) (hl : h.length ≤ h2.length) : Own p p2 h := ⟨b.1.trans a.1, fun m hm => by
  rcases b.2 m hm with q | q
  · exact a.2 m q
  · exact .inr (Nat.le_trans hl q)⟩
theorem Own.fr {p1 : Ps} {h2 h3 : PH} (a : Own p p1 h) (f : Fr p.all h h2) (g : Fr p1.all h2 h3) : Fr p.all h h3 := ⟨Nat.le_trans f.1 g.1, fun m hm hn => by
  rw [g.2 m (Nat.lt_of_lt_of_le hm f.1) fun z => ?_]
  · exact f.2 m hm hn
  · rcases a.2 m z with q | q
    · exact hn q
    · omega⟩
theorem mem_t : p.t ∈ p.all := List.mem_of_getElem? (i := 0) rfl
theorem mem_b : p.b ∈ p.all := List.mem_of_getElem? (i := 4) rfl
theorem mem_cl {m : Nat} (h : m ∈ p.cl) : m ∈ p.all := by unfold Ps.all; simp [h]
theorem mem_bl {m : Nat} (h : m ∈ p.bl) : m ∈ p.all := by unfold Ps.all; simp [h]
theorem p_step (w : TW h s p vn kn ord B C mv) (t : TI (hs s) B C mv kn) : ∃ h' p' B' C' mv', call (n + 2) 27 [.ref p.t] h = .ok .non h' ∧ TW h' s p' vn kn ord B' C' mv' ∧ TI (hs s) B' C' mv' kn ∧ Own p p' h ∧ Fr p.all h h' := by
  rw [call_run (d := d_Table__step) rfl rfl]
  have ec : evE T (call (n + 1)) (.att (.var 0) 6) [some (.ref p.t), none, none] h = .ok (.ref p.c) h := w.fld rfl rfl
  by_cases hC : C = []
  · have c0 : p.cl = [] := List.eq_nil_of_length_eq_zero (by rw [w.lc, hC]; rfl)
    have hc := w.hc
    rw [c0] at hc
    have tt : evT T (call (n + 1)) (.not (.att (.var 0) 6)) [some (.ref p.t), none, none] h = .ok true h := by
      simp only [evT, evE] at ec ⊢
      rw [ec]
      simp only [Res.bind_ok, tru_lst hc]
      rfl
    refine ⟨h, p, B, C, mv, rd_rt rfl ?_, w, t, Own.refl, Fr.refl⟩
    show exSs T (call (n + 1)) 100 b_Table__step [some (.ref p.t), none, none] h = _
    exact st_rt (s_ifT tt (by simp only [exSs, exS, Res.bind_ok]))
  · obtain ⟨m1, m2⟩ := t.mv1 hC
    have cl := t.cl hC
    have hcl : 0 < C.length := by omega
    have hcn : p.cl ≠ [] := fun z => by have := w.lc; rw [z] at this; simp at this; omega
    have hj : mv < p.bl.length := by rw [w.lb]; exact m1
    have tt : evT T (call (n + 1)) (.not (.att (.var 0) 6)) [some (.ref p.t), none, none] h = .ok false h := by
      simp only [evT, evE] at ec ⊢
      rw [ec]
      simp only [Res.bind_ok, tru_lst w.hc]
      cases q : p.cl with
      | nil => exact absurd q hcn
      | cons a r => rfl
    have eq0 : p.bl[mv]? = some p.bl[mv] := List.getElem?_eq_getElem hj
    generalize hq0 : p.bl[mv] = q0 at eq0
    have g0 := w.gb mv q0 eq0
    have w1 := w.newB hj
    let p1 : Ps := { p with bl := p.bl.set mv h.length }
    have w2 : TW _ s p1 vn kn ord (B.set mv []) C (mv + 1) := w1.setT (mv + 1)
    have hq : q0 ∈ p.all := mem_bl (List.mem_of_getElem? eq0)
    have hq1 : q0 ∉ p1.all := by
      have e2 : p1.all = p.all.set (6 + mv) h.length := by
        show ({ p with bl := p.bl.set mv h.length } : Ps).all = _
        unfold Ps.all
        rw [show 6 + mv = mv + 6 by omega]
        simp only [List.set_cons_succ]
        rw [List.set_append_left _ _ hj]
      rw [e2]
      intro z
      obtain ⟨j, ej⟩ := List.getElem?_of_mem z
      by_cases hjm : j = 6 + mv
      · subst hjm
        rw [List.getElem?_set_self (List.getElem?_eq_some_iff.mp (ix_bl eq0)).1] at ej
        have := w.lt hq
        have := Option.some.inj ej
        omega
      · rw [List.getElem?_set_ne (fun q => hjm q.symm)] at ej
        exact nd_ne w.nd ej (ix_bl eq0) hjm rfl
    have ow1 : Own p p1 h := ⟨rfl, fun m hm => by
      have : m ∈ p.all ∨ m = h.length := by
        have hm : m ∈ ({ p with bl := p.bl.set mv h.length } : Ps).all := hm
        unfold Ps.all at hm ⊢
        simp only [List.mem_cons, List.mem_append] at hm ⊢
        rcases hm with q | q | q | q | q | q | q | q
        · exact .inl (.inl q)
        · exact .inl (.inr (.inl q))
        · exact .inl (.inr (.inr (.inl q)))
        · exact .inl (.inr (.inr (.inr (.inl q))))
        · exact .inl (.inr (.inr (.inr (.inr (.inl q)))))
        · exact .inl (.inr (.inr (.inr (.inr (.inr (.inl q))))))
        · rcases List.mem_or_eq_of_mem_set q with q | q
          · exact .inl (.inr (.inr (.inr (.inr (.inr (.inr (.inl q)))))))
          · exact .inr q
        · exact .inl (.inr (.inr (.inr (.inr (.inr (.inr (.inr q)))))))
      rcases this with q | q
      · exact .inl q
      · exact .inr (Nat.le_of_eq q.symm)⟩
    generalize hh2 : (((h ++ [PO.lst []]).set p.b (.lst ((p.bl.set mv h.length).map .ref))).set p1.t (.ins 1 (fsT s p1 (mv + 1)))) = h2 at w2
    have f2 : Fr p.all h h2 := by
      rw [← hh2]
      exact (Fr.app.trans (Fr.set mem_b)).trans (Fr.set mem_t)
    have g2 : h2[q0]? = some (.lst ((B.getD mv []).map .str)) := by
      rw [← hh2, set_ne (fun z => hq1 (by rw [← z]; exact (mem_t (p := p1)))), set_ne (fun z => hq1 (by rw [← z]; exact (mem_b (p := p1))))]
      exact app_at g0
    generalize hxs : B.getD mv [] = xs at g2 g0
    have hin : ∀ x ∈ xs, x ∈ kn := by rw [← hxs]; exact (t.bk mv).2.2.1
    have lxs : xs.length ≤ 20 := by rw [← hxs]; exact (t.bk mv).1
    have bC : ∀ j, (C.getD j []).length ≤ 20 := fun j => (t.bk j).2.1
    -- the walk
    obtain ⟨ρ3, h3, e3, ⟨z3, rfl⟩, w3, g3, f3⟩ := for_ex (T := T) (W := 100) (cl := call (n + 1)) (t := .nm 2) (k := .seq) (its := [.var 1]) (b := [.ex (.mt 0 .append (.mt 13 .none (.var 0) [.att (.var 0) 6, .var 2]) [.var 2])]) (ρ := [some (.ref p.t), some (.ref q0), none]) (h := h2) (h1 := h2) (w := .lst q0) (N := (xs.map PV.str).length)
      (fun i ρ h' => (∃ z, ρ = [some (.ref p.t), some (.ref q0), z]) ∧ TW h' s p1 vn kn ord (B.set mv []) (addAll (hs s) C (xs.take i)) (mv + 1) ∧ h'[q0]? = some (.lst (xs.map .str)) ∧ Fr p1.all h2 h')
      (evI_ref (e_var rfl) g2) ⟨⟨none, rfl⟩, by simpa [addAll] using w2, g2, Fr.refl⟩ (fun i hi ρ h' ⟨⟨z, e⟩, w', g', f'⟩ => by
        subst e
        have hi' : i < xs.length := by simpa using hi
        have la : (addAll (hs s) C (xs.take i)).length = C.length := addAll_len _ _
        obtain ⟨h4, e4, w4, f4⟩ := s_into (n := n) (ρ := [some (.ref p.t), some (.ref q0), some (.str xs[i])]) (x := xs[i]) (i := 2) w' (hin _ (List.getElem_mem hi')) rfl rfl (by rw [la]; exact hcl) (by rw [la]; omega) (fun j => by
          have k1 := bk_all (H := hs s) (xs.take i) hcl j
          have k2 := bC j
          rw [List.length_take] at k1
          omega)
        refine ⟨.str xs[i], [some (.ref p.t), some (.ref q0), some (.str xs[i])], h4, by simp only [wkAt, lstAt, g']; simp [hi'], ?_, ⟨_, rfl⟩, ?_, ?_, f'.trans (f4.mono fun m hm => mem_cl hm)⟩
        · rw [forB_nm]
          exact st_nx e4 s_nil
        · rw [addAll_take hi']
          exact w4
        · exact f4.get g' fun z => hq1 (mem_cl z)) (fun ρ h' ⟨_, _, g', _⟩ => by simp only [wkAt, lstAt, g']; simp)
    have w3' : TW h3 s p1 vn kn ord (B.set mv []) (addAll (hs s) C xs) (mv + 1) := by
      have := w3
      rwa [List.length_map, List.take_length] at this
    have pre : ∀ r, exSs T (call (n + 1)) 100 [.ite (.cmp .eq (.att (.var 0) 7) (.bi .len [.att (.var 0) 5])) [.asg (.att (.var 0) 5) (.att (.var 0) 6), .asg (.att (.var 0) 6) (.lst []), .asg (.att (.var 0) 7) (.con (.int 0))] []] [some (.ref p.t), some (.ref q0), z3] h3 = r → exSs T (call (n + 1)) 100 b_Table__step [some (.ref p.t), none, none] h = r := fun r k => by
      refine st_nx (s_ifF tt s_nil) ?_
      refine st_nx (ρ1 := [some (.ref p.t), some (.ref q0), none]) (h1 := h) (s_asg (v := .ref q0) ?_) ?_
      · refine e_ix (v := .ref p.b) (w := .int mv) (h1 := h) (h2 := h) (w.fld rfl rfl) (w.fld rfl rfl) ?_
        simp only [pIx, w.hb]
        rw [atI_lt (by simpa using hj)]
        simp [hq0]
      refine st_nx (ρ1 := [some (.ref p.t), some (.ref q0), none]) (h1 := (h ++ [PO.lst []]).set p.b (.lst ((p.bl.set mv h.length).map .ref))) ?_ ?_
      · have e1 : evE T (call (n + 1)) (.lst []) [some (.ref p.t), some (.ref q0), none] h = .ok (.ref h.length) (h ++ [.lst []]) := e_lst e_nil (by simp)
        have e2 : evE T (call (n + 1)) (.att (.var 0) 5) [some (.ref p.t), some (.ref q0), none] (h ++ [.lst []]) = .ok (.ref p.b) (h ++ [.lst []]) := e_fld (e_var rfl) (app_at w.ht) rfl rfl
        have e3 : evE T (call (n + 1)) (.att (.var 0) 7) [some (.ref p.t), some (.ref q0), none] (h ++ [.lst []]) = .ok (.int mv) (h ++ [.lst []]) := e_fld (e_var rfl) (app_at w.ht) rfl rfl
        have ix : ixN p.bl.length (mv : Int) = some mv := by
          unfold ixN
          simp
          omega
        simp only [exS, e1, Res.bind_ok, asgTa, e2, e3, pSet, app_at w.hb, List.length_map, ix]
        rw [List.map_set]
      refine st_nx (ρ1 := [some (.ref p.t), some (.ref q0), none]) (h1 := h2) ?_ ?_
      · rw [← hh2]
        exact s_aug (f := 7) (a := mv) (b := 1) (e_var rfl) w1.ht rfl rfl e_con w1.ht (by simp [fsT])
      exact st_nx e3 k
    have tm := t.moved hC
    rw [hxs] at tm
    have lb' : (B.set mv []).length = B.length := by simp
    have ce : evE T (call (n + 1)) (.bi .len [.att (.var 0) 5]) [some (.ref p.t), some (.ref q0), z3] h3 = .ok (.int B.length) h3 := e_bi (h1 := h3) (vs := [.ref p1.b]) (e_one (w3'.fld rfl rfl)) (by simp only [pBi, w3'.hb, List.length_map, w3'.lb, lb'])
    have f13 : Fr p.all h h3 := ow1.fr f2 f3
    by_cases hm : mv + 1 = B.length
    · rw [if_pos hm] at tm
      have ct : evT T (call (n + 1)) (.cmp .eq (.att (.var 0) 7) (.bi .len [.att (.var 0) 5])) [some (.ref p.t), some (.ref q0), z3] h3 = .ok true h3 := t_bl (e_eqd (w3'.fld rfl rfl) ce (by rw [decide_eq_true]; omega))
      have w4 := w3'.swap
      refine ⟨_, _, _, _, _, rd_nx (ρ := [some (.ref p.t), some (.ref q0), z3]) rfl (pre _ (st_nx (s_ifT ct ?_) s_nil)), w4, tm, ⟨rfl, fun m hm => ?_⟩, (f13.trans Fr.app).trans (Fr.set mem_t)⟩
      · have a1 : exS T (call (n + 1)) 100 (.asg (.att (.var 0) 5) (.att (.var 0) 6)) [some (.ref p.t), some (.ref q0), z3] h3 = .ok (.nx [some (.ref p.t), some (.ref q0), z3]) (h3.set p1.t (.ins 1 (putN 5 (.ref p1.c) (fsT s p1 (mv + 1))))) := s_att (w3'.fld rfl rfl) (e_var rfl) w3'.ht rfl (by simp [fsT, putN])
        have g5 : (h3.set p1.t (PO.ins 1 (putN 5 (.ref p1.c) (fsT s p1 (mv + 1)))))[p1.t]? = some (.ins 1 (putN 5 (.ref p1.c) (fsT s p1 (mv + 1)))) := set_at w3'.ht
        generalize hAe : h3.set p1.t (PO.ins 1 (putN 5 (.ref p1.c) (fsT s p1 (mv + 1)))) = hA at a1 g5
        have a2 : exS T (call (n + 1)) 100 (.asg (.att (.var 0) 6) (.lst [])) [some (.ref p.t), some (.ref q0), z3] hA = .ok (.nx [some (.ref p.t), some (.ref q0), z3]) ((hA ++ [PO.lst []]).set p1.t (.ins 1 (putN 6 (.ref hA.length) (putN 5 (.ref p1.c) (fsT s p1 (mv + 1)))))) := s_att (e_lst e_nil (by simp)) (e_var rfl) (app_at g5) rfl (by simp [fsT, putN])
        have g6 : ((hA ++ [PO.lst []]).set p1.t (PO.ins 1 (putN 6 (.ref hA.length) (putN 5 (.ref p1.c) (fsT s p1 (mv + 1))))))[p1.t]? = some (.ins 1 (putN 6 (.ref hA.length) (putN 5 (.ref p1.c) (fsT s p1 (mv + 1))))) := set_at (app_at g5)
        have a3 : exS T (call (n + 1)) 100 (.asg (.att (.var 0) 7) (.con (.int 0))) [some (.ref p.t), some (.ref q0), z3] ((hA ++ [PO.lst []]).set p1.t (PO.ins 1 (putN 6 (.ref hA.length) (putN 5 (.ref p1.c) (fsT s p1 (mv + 1)))))) = .ok (.nx [some (.ref p.t), some (.ref q0), z3]) (((hA ++ [PO.lst []]).set p1.t (PO.ins 1 (putN 6 (.ref hA.length) (putN 5 (.ref p1.c) (fsT s p1 (mv + 1)))))).set p1.t (.ins 1 (putN 7 (.int 0) (putN 6 (.ref hA.length) (putN 5 (.ref p1.c) (fsT s p1 (mv + 1))))))) := s_att e_con (e_var rfl) g6 rfl (by simp [fsT, putN])
        have hl : hA.length = h3.length := by rw [← hAe]; simp
        have he : ((hA ++ [PO.lst []]).set p1.t (PO.ins 1 (putN 6 (.ref hA.length) (putN 5 (.ref p1.c) (fsT s p1 (mv + 1)))))).set p1.t (.ins 1 (putN 7 (.int 0) (putN 6 (.ref hA.length) (putN 5 (.ref p1.c) (fsT s p1 (mv + 1)))))) = (h3 ++ [PO.lst []]).set p1.t (.ins 1 (fsT s { p1 with b := p1.c, c := h3.length, bl := p1.cl, cl := [] } 0)) := by
          rw [List.set_set, hl, ← hAe, ← List.set_append_left _ _ (get_lt w3'.ht), List.set_set]
          rfl
        rw [he] at a3
        exact st_nx a1 (st_nx a2 (st_nx a3 s_nil))
      · have hm : m ∈ ({ p1 with b := p1.c, c := h3.length, bl := p1.cl, cl := [] } : Ps).all := hm
        have : m ∈ p1.all ∨ m = h3.length := by
          unfold Ps.all at hm ⊢
          simp only [List.mem_cons, List.mem_append, List.not_mem_nil, or_false] at hm ⊢
          rcases hm with q | q | q | q | q | q | q
          · exact .inl (.inl q)
          · exact .inl (.inr (.inl q))
          · exact .inl (.inr (.inr (.inl q)))
          · exact .inl (.inr (.inr (.inr (.inl q))))
          · exact .inl (.inr (.inr (.inr (.inr (.inr (.inl q))))))
          · exact .inr q
          · exact .inl (.inr (.inr (.inr (.inr (.inr (.inr (.inr q)))))))
        rcases this with q | q
        · exact ow1.2 m q
        · exact .inr (by have := f13.1; omega)
    · rw [if_neg hm] at tm
      have ct : evT T (call (n + 1)) (.cmp .eq (.att (.var 0) 7) (.bi .len [.att (.var 0) 5])) [some (.ref p.t), some (.ref q0), z3] h3 = .ok false h3 := t_bl (e_eqd (w3'.fld rfl rfl) ce (by rw [decide_eq_false]; omega))
      exact ⟨h3, p1, _, _, _, rd_nx (ρ := [some (.ref p.t), some (.ref q0), z3]) rfl (pre _ (st_nx (s_ifF ct s_nil) s_nil)), w3', tm, ow1, f13⟩
end
end K06
set_option Elab.async false
set_option linter.all false
set_option maxRecDepth 100000
set_option maxHeartbeats 1000000
namespace K06
open PySem PySem.Spec PyProof.Rows L2 Mn
section
variable {T : Tb} {W : Nat} {cl : Nat → List PV → PH → Res PV} {ρ : PEnv} {h h1 h2 h3 h4 : PH}
theorem e_fcall {o : Ex} {es : List Ex} {m l c f : Nat} {vs : List PV} {fs : List (Nat × PV)} {r : Res PV} (ho : evE T cl o ρ h = .ok (.ref l) h1) (hl : h1[l]? = some (.ins c fs)) (hf : fs.lookup m = some (.fn f)) (hm : ((T.cls[c]?).bind fun ci => ci.meths.lookup m) = none) (hg : T.glob.any (isFnOf f) = true) (ha : attK T c m = some none) (he : evEs T cl es ρ h1 = .ok vs h2) (k : cl f vs h2 = r) : evE T cl (.mt m .none o es) ρ h = r := by
  simp only [evE, ho, hl, hf, hm]
  rw [if_pos ⟨hg, ha⟩, he]
  simp only [Res.bind_ok, k]
theorem s_setix {o i e : Ex} {v w k : PV} (he : evE T cl e ρ h = .ok v h1) (ho : evE T cl o ρ h1 = .ok w h2) (hi : evE T cl i ρ h2 = .ok k h3) (hp : pSet w k v h3 = some h4) : exS T cl W (.asg (.ix o i) e) ρ h = .ok (.nx ρ) h4 := by
  simp only [exS, he, Res.bind_ok, asgTa, ho, hi, hp]
theorem s_del {o i : Ex} {v w : PV} (ho : evE T cl o ρ h = .ok v h1) (hi : evE T cl i ρ h1 = .ok w h2) (hp : pDel v w h2 = some h3) : exS T cl W (.del o i) ρ h = .ok (.nx ρ) h3 := by
  simp only [exS, ho, hi, Res.bind_ok, hp]
theorem e_orV {a b : Ex} {v : PV} {r : Res PV} (ha : evE T cl a ρ h = .ok v h1) (ht : pTru h1 v = some false) (hb : evE T cl b ρ h1 = r) : evE T cl (.or a b) ρ h = r := by
  simp only [evE, ha, Res.bind_ok, ht, hb]
theorem e_orV1 {a b : Ex} {v : PV} (ha : evE T cl a ρ h = .ok v h1) (ht : pTru h1 v = some true) : evE T cl (.or a b) ρ h = .ok v h1 := by
  simp only [evE, ha, Res.bind_ok, ht]
theorem sz100 {n : Nat} (h : n ≤ 100) : n < sizeLine := Nat.lt_of_lt_of_le (show n < 101 by omega) (by decide)
end
section
variable {n s mv : Nat} {h h1 : PH} {p : Ps} {vn kn : List Tx} {ord : List (Int × List Nat)} {B C : List (List Tx)}
theorem hd_len (s : Nat) (kn : List Tx) : (hd s kn).length = kn.length := by simp [hd]
theorem ord_ok {ns : List Tx} (hn : ∀ x ∈ ns, IsN x) : ∀ q ∈ srtP (ns.map (pr s)), IsN q.2 := fun q hq => by
  obtain ⟨x, hx, rfl⟩ := List.mem_map.mp ((srtP_perm _).mem_iff.mp hq)
  exact hn x hx
theorem ord_len {ns : List Tx} : (srtP (ns.map (pr s))).length = ns.length := by rw [(srtP_perm _).length_eq, List.length_map]
theorem TI.len (t : TI (hs s) B C mv kn) : kn.length ≤ 20 := n20_len t.nd t.ok
theorem mem_k : p.k ∈ p.all := List.mem_of_getElem? (i := 2) rfl
theorem mem_o : p.o ∈ p.all := List.mem_of_getElem? (i := 3) rfl
theorem mem_v : p.v ∈ p.all := List.mem_of_getElem? (i := 1) rfl
theorem mem_c : p.c ∈ p.all := List.mem_of_getElem? (i := 5) rfl
theorem p_enter (hs2 : s < 3) {x : Tx} (w : TW h s p vn kn (srtP (kn.map (pr s))) B C mv) (t : TI (hs s) B C mv kn) (hx : x ∉ kn) (hN : IsN x) :
    ∃ h' B' C', call (n + 7) 28 [.ref p.t, .str x] h = .ok .non h' ∧ TW h' s p vn (kn ++ [x]) (srtP ((kn ++ [x]).map (pr s))) B' C' mv ∧ TI (hs s) B' C' mv (kn ++ [x]) ∧ Fr p.all h h' := by
  rw [call_run (d := d_Table__enter) rfl rfl]
  have hb : 0 < B.length := by have := t.b0; omega
  have hlen := t.len
  have w1 := w.setK (kn ++ [x])
  have f1 : Fr p.all h (h.set p.k (.dic (hd s (kn ++ [x])))) := Fr.set mem_k
  have e1 : exS T (call (n + 6)) 100 (.asg (.ix (.att (.var 0) 3) (.var 1)) (.mt 1 .none (.var 0) [.var 1])) [some (.ref p.t), some (.str x), none] h = .ok (.nx [some (.ref p.t), some (.str x), none]) (h.set p.k (.dic (hd s (kn ++ [x])))) := by
    refine s_setix (h1 := h) (h2 := h) (h3 := h) (v := .int (hs s x : Nat)) (w := .ref p.k) (k := .str x) ?_ (w.fld rfl rfl) (e_var rfl) ?_
    · exact e_fcall (f := spf s) (vs := [.str x]) (h1 := h) (h2 := h) (e_var rfl) w.ht rfl rfl (spf_fn hs2) rfl (e_one (e_var rfl)) (p_spread hs2 hN)
    · simp only [pSet, w.hk, Mn.keyOf]
      rw [if_pos (by rw [hd_len]; exact sz100 (by omega)), show (Sum.inr ⟨x.toArray⟩ : Key) = kk x from rfl, hd_put s hx]
  generalize h.set p.k (.dic (hd s (kn ++ [x]))) = h1 at w1 f1 e1
  have hxk : x ∈ kn ++ [x] := by simp
  have t1 := t.enter hx hN
  have ecc : evE T (call (n + 6)) (.att (.var 0) 6) [some (.ref p.t), some (.str x), none] h1 = .ok (.ref p.c) h1 := w1.fld rfl rfl
  -- the bucket
  have step2 : ∃ h2 B' C', exS T (call (n + 6)) 100 (.ex (.mt 0 .append (.mt 13 .none (.var 0) [.or (.att (.var 0) 6) (.att (.var 0) 5), .var 1]) [.var 1])) [some (.ref p.t), some (.str x), none] h1 = .ok (.nx [some (.ref p.t), some (.str x), none]) h2 ∧ TW h2 s p vn (kn ++ [x]) (srtP (kn.map (pr s))) B' C' mv ∧ TI (hs s) B' C' mv (kn ++ [x]) ∧ Fr p.all h1 h2 := by
    by_cases hC : C = []
    · rw [if_pos hC] at t1
      have c0 : p.cl = [] := List.eq_nil_of_length_eq_zero (by rw [w1.lc, hC]; rfl)
      have eor : evE T (call (n + 6)) (.or (.att (.var 0) 6) (.att (.var 0) 5)) [some (.ref p.t), some (.str x), none] h1 = .ok (.ref p.b) h1 := by
        refine e_orV ecc (by rw [tru_lst w1.hc, c0]; rfl) (w1.fld rfl rfl)
      obtain ⟨r, er, e⟩ := p_bin (n := n + 5) w1 hxk w1.hb (by rw [w1.lb]; exact hb) (by rw [w1.lb]; have := t.b0; omega)
      rw [w1.lb] at er
      have e3 : evE T (call (n + 6)) (.mt 13 .none (.var 0) [.or (.att (.var 0) 6) (.att (.var 0) 5), .var 1]) [some (.ref p.t), some (.str x), none] h1 = .ok (.ref r) h1 := e_meth (g := 30) (vs := [.ref p.b, .str x]) (h1 := h1) (h2 := h1) (e_var rfl) w1.ht rfl rfl (e_two (h1 := h1) eor (e_var rfl)) e
      have k := w1.setBj er (B.getD (hs s x % B.length) [] ++ [x])
      rw [List.map_append] at k
      exact ⟨_, _, _, s_ex (e_app e3 (w1.gb _ _ er) (e_var rfl) (w1.gb _ _ er) (by rw [List.length_map]; have := (t.bk (hs s x % B.length)).1; omega)), k, t1, Fr.set (mem_bl (List.mem_of_getElem? er))⟩
    · rw [if_neg hC] at t1
      have cl := t.cl hC
      have hcn : p.cl ≠ [] := fun z => by have := w.lc; rw [z] at this; simp at this; omega
      have eor : evE T (call (n + 6)) (.or (.att (.var 0) 6) (.att (.var 0) 5)) [some (.ref p.t), some (.str x), none] h1 = .ok (.ref p.c) h1 := by
        refine e_orV1 ecc ?_
        rw [tru_lst w1.hc]
        cases q : p.cl with
        | nil => exact absurd q hcn
        | cons a r => rfl
      obtain ⟨r, er, e⟩ := p_bin (n := n + 5) w1 hxk w1.hc (by rw [w1.lc]; omega) (by rw [w1.lc]; omega)
      rw [w1.lc] at er
      have e3 : evE T (call (n + 6)) (.mt 13 .none (.var 0) [.or (.att (.var 0) 6) (.att (.var 0) 5), .var 1]) [some (.ref p.t), some (.str x), none] h1 = .ok (.ref r) h1 := e_meth (g := 30) (vs := [.ref p.c, .str x]) (h1 := h1) (h2 := h1) (e_var rfl) w1.ht rfl rfl (e_two (h1 := h1) eor (e_var rfl)) e
      have k := w1.setCj er (C.getD (hs s x % C.length) [] ++ [x])
      rw [List.map_append] at k
      exact ⟨_, _, _, s_ex (e_app e3 (w1.gc _ _ er) (e_var rfl) (w1.gc _ _ er) (by rw [List.length_map]; have := (t.bk (hs s x % C.length)).2.1; omega)), k, t1, Fr.set (mem_cl (List.mem_of_getElem? er))⟩
  obtain ⟨h2, B', C', e2, w2, t2, f2⟩ := step2
  have w3 := w2.setO (srtP ((kn ++ [x]).map (pr s)))
  refine ⟨_, B', C', rd_nx (ρ := [some (.ref p.t), some (.str x), some (ofP (pr s x))]) rfl ?_, w3, t2, (f1.trans f2).trans (Fr.set mem_o)⟩
  show exSs T (call (n + 6)) 100 b_Table__enter [some (.ref p.t), some (.str x), none] h = _
  refine st_nx e1 (st_nx e2 (st_nx (ρ1 := [some (.ref p.t), some (.str x), some (ofP (pr s x))]) (h1 := h2) (s_asg (v := ofP (pr s x)) ?_) (st_nx (s_ex (v := .non) ?_) s_nil)))
  · exact e_meth (g := 31) (vs := [.str x]) (h1 := h2) (h2 := h2) (e_var rfl) w2.ht rfl rfl (e_one (e_var rfl)) (p_pair (n := n + 1) w2 hxk hN)
  · have eo : evE T (call (n + 6)) (.att (.var 0) 4) [some (.ref p.t), some (.str x), some (ofP (pr s x))] h2 = .ok (.ref p.o) h2 := w2.fld rfl rfl
    have ef := p_first (n := n + 5) (p := pr s x) w2.ho (srtP_srt _) (ord_ok t.ok) hN (by rw [ord_len]; omega)
    refine e_bm (q := .linsert) (v := .ref p.o) (h1 := h2) (h2 := h2) (vs := [.int (place (srtP (kn.map (pr s))) (pr s x) : Nat), ofP (pr s x)]) rfl eo (by simp only [kindAt, w2.ho]; rfl) (e_two (h1 := h2) (e_call (f := 36) (vs := [.ref p.o, ofP (pr s x)]) (h1 := h2) rfl (e_two (h1 := h2) eo (e_var rfl)) ef) (e_var rfl)) ?_
    obtain ⟨_, _, hle⟩ := srt_split (pr s x) (srtP_srt (kn.map (pr s)))
    rw [ord_len] at hle
    have hsz : ((srtP (kn.map (pr s))).map ofP).length < sizeLine := by rw [List.length_map, ord_len]; exact sz100 (by omega)
    simp only [pBq, w2.ho]
    rw [if_pos (by rw [decide_eq_true hsz]; simp; omega)]
    rw [← ord_ins _ rfl]
    simp
theorem strsOf_map : ∀ l : List Tx, strsOf (l.map .str) = some l
  | [] => rfl
  | x :: l => by simp [strsOf, strsOf_map l]
theorem nin_bk {ρ : PEnv} {cl : Nat → List PV → PH → Res PV} {i j q : Nat} {x : Tx} {xs : List Tx} (hi : ρ[i]? = some (some (.str x))) (hj : ρ[j]? = some (some (.ref q))) (hq : h[q]? = some (.lst (xs.map .str))) (hx : IsN x) (hxs : ∀ y ∈ xs, IsN y) : evE T cl (.cmp .nin (.var i) (.var j)) ρ h = .ok (.bl (!decide (x ∈ xs))) h := by
  refine e_cmp (e_var hi) (e_var hj) ?_
  have hp : ∀ xs : List Tx, (∀ y ∈ xs, IsN y) → pus (xs.map PV.str) = true ∧ pds (xs.map PV.str) = xs.map (fun y => .str ⟨y.toArray⟩) ∧ dpts (xs.map PV.str) ≤ 1 := fun xs => by
    induction xs with
    | nil => intro _; exact ⟨rfl, rfl, by decide⟩
    | cons a r ih =>
      intro k
      obtain ⟨i1, i2, i3⟩ := ih fun y hy => k y (List.mem_cons_of_mem _ hy)
      have := (k a (List.mem_cons_self ..)).str
      refine ⟨by simp [pus, pu, this, i1], by simp [pds, pd, i2], ?_⟩
      simp only [List.map_cons, dpts, dpt]
      omega
  obtain ⟨p1, p2, p3⟩ := hp xs hxs
  have dl := datum_lst hq p1 (by omega)
  have dx : datum h (.str x) = some (.str ⟨x.toArray⟩) := datum_str hx.str
  have e : pIn h (.str x) (.ref q) = some (decide (x ∈ xs)) := by
    simp only [pIn, hq, dx, dl, p2]
    congr 1
    rw [List.any_map]
    by_cases hm : x ∈ xs
    · rw [decide_eq_true hm]
      exact List.any_eq_true.mpr ⟨x, hm, by simp [PyData.eqv]⟩
    · rw [decide_eq_false hm]
      refine List.any_eq_false.mpr fun y hy => ?_
      have : y ≠ x := fun z => hm (z ▸ hy)
      simp [PyData.eqv, this]
  simp only [pCmp, e, Option.map_some, Mn.ob]
theorem erase_map {α β : Type} (f : α → β) : ∀ (l : List α) (i : Nat), (l.map f).eraseIdx i = (l.eraseIdx i).map f
  | [], _ => rfl
  | a :: l, 0 => rfl
  | a :: l, i + 1 => by
    simp only [List.map_cons, List.eraseIdx_cons_succ, erase_map f l i]
theorem p_leave {x : Tx} (w : TW h s p vn kn (srtP (kn.map (pr s))) B C mv) (t : TI (hs s) B C mv kn) (hx : x ∈ kn) :
    ∃ h' B' C', call (n + 7) 29 [.ref p.t, .str x] h = .ok .non h' ∧ TW h' s p vn (kn.erase x) (srtP ((kn.erase x).map (pr s))) B' C' mv ∧ TI (hs s) B' C' mv (kn.erase x) ∧ Fr p.all h h' := by
  rw [call_run (d := d_Table__leave) rfl rfl]
  have hN : IsN x := t.ok x hx
  have hb : 0 < B.length := by have := t.b0; omega
  have hlen := t.len
  have eb : ∀ ρ2, evE T (call (n + 6)) (.att (.var 0) 5) [some (.ref p.t), some (.str x), ρ2] h = .ok (.ref p.b) h := fun _ => w.fld rfl rfl
  have ec : ∀ ρ2, evE T (call (n + 6)) (.att (.var 0) 6) [some (.ref p.t), some (.str x), ρ2] h = .ok (.ref p.c) h := fun _ => w.fld rfl rfl
  obtain ⟨r, er, e⟩ := p_bin (n := n + 5) w hx w.hb (by rw [w.lb]; exact hb) (by rw [w.lb]; have := t.b0; omega)
  rw [w.lb] at er
  have e3 : evE T (call (n + 6)) (.mt 13 .none (.var 0) [.att (.var 0) 5, .var 1]) [some (.ref p.t), some (.str x), none] h = .ok (.ref r) h := e_meth (g := 30) (vs := [.ref p.b, .str x]) (h1 := h) (h2 := h) (e_var rfl) w.ht rfl rfl (e_two (h1 := h) (eb _) (e_var rfl)) e
  have gr := w.gb _ _ er
  have bk := t.bk (hs s x % B.length)
  have en := nin_bk (h := h) (ρ := [some (.ref p.t), some (.str x), some (.ref r)]) (cl := call (n + 6)) (i := 1) (j := 2) rfl rfl gr hN (fun y hy => t.ok y (bk.2.2.1 y hy))
  -- the bucket
  have step : ∃ r' h1 B' C', (∀ z, exSs T (call (n + 6)) 100 (b_Table__leave.drop 3) [some (.ref p.t), some (.str x), some (.ref r')] h1 = z → exSs T (call (n + 6)) 100 b_Table__leave [some (.ref p.t), some (.str x), none] h = z) ∧ TW h1 s p vn kn (srtP (kn.map (pr s))) B' C' mv ∧ TI (hs s) B' C' mv (kn.erase x) ∧ Fr p.all h h1 := by
    have rem : ∀ (r' : Nat) (xs : List Tx), h[r']? = some (.lst (xs.map .str)) → x ∈ xs → exS T (call (n + 6)) 100 (.ex (.mt 0 .remove (.var 2) [.var 1])) [some (.ref p.t), some (.str x), some (.ref r')] h = .ok (.nx [some (.ref p.t), some (.str x), some (.ref r')]) (h.set r' (.lst ((xs.erase x).map .str))) := fun r' xs g hm => by
      refine s_ex (v := .non) (e_bm (q := .lremove) (v := .ref r') (h1 := h) (h2 := h) (vs := [.str x]) rfl (e_var rfl) (by simp only [kindAt, g]; rfl) (e_one (e_var rfl)) ?_)
      simp only [pBq, g, strsOf_map]
      rw [if_pos hm]
    rcases t.left hx with ⟨hm, t1⟩ | ⟨hm, hC, hm2, t1⟩
    · rw [decide_eq_true hm] at en
      refine ⟨r, _, _, _, fun z k => ?_, w.setBj er _, t1, Fr.set (mem_bl (List.mem_of_getElem? er))⟩
      refine st_nx (ρ1 := [some (.ref p.t), some (.str x), some (.ref r)]) (h1 := h) (s_asg e3) ?_
      refine st_nx (s_ifF (h1 := h) (t_bl en) s_nil) ?_
      exact st_nx (rem r _ gr hm) k
    · rw [decide_eq_false hm] at en
      have cl := t.cl hC
      obtain ⟨r2, er2, e'⟩ := p_bin (n := n + 5) w hx w.hc (by rw [w.lc]; omega) (by rw [w.lc]; omega)
      rw [w.lc] at er2
      have e4 : evE T (call (n + 6)) (.mt 13 .none (.var 0) [.att (.var 0) 6, .var 1]) [some (.ref p.t), some (.str x), some (.ref r)] h = .ok (.ref r2) h := e_meth (g := 30) (vs := [.ref p.c, .str x]) (h1 := h) (h2 := h) (e_var rfl) w.ht rfl rfl (e_two (h1 := h) (ec _) (e_var rfl)) e'
      refine ⟨r2, _, _, _, fun z k => ?_, w.setCj er2 _, t1, Fr.set (mem_cl (List.mem_of_getElem? er2))⟩
      refine st_nx (ρ1 := [some (.ref p.t), some (.str x), some (.ref r)]) (h1 := h) (s_asg e3) ?_
      refine st_nx (ρ1 := [some (.ref p.t), some (.str x), some (.ref r2)]) (h1 := h) (s_ifT (h1 := h) (t_bl en) (st_nx (s_asg e4) s_nil)) ?_
      exact st_nx (rem r2 _ (w.gc _ _ er2) hm2) k
  obtain ⟨r', h1, B', C', k, w1, t1, f1⟩ := step
  obtain ⟨hk, ed⟩ := ord_del hx (srtP (kn.map (pr s))) rfl
  have w2 := w1.setO (srtP ((kn.erase x).map (pr s)))
  have w3 := w2.setK (kn.erase x)
  refine ⟨_, B', C', rd_nx (ρ := [some (.ref p.t), some (.str x), some (.ref r')]) rfl (k _ ?_), w3, t1, (f1.trans (Fr.set mem_o)).trans (Fr.set mem_k)⟩
  have eo : evE T (call (n + 6)) (.att (.var 0) 4) [some (.ref p.t), some (.str x), some (.ref r')] h1 = .ok (.ref p.o) h1 := w1.fld rfl rfl
  have ef := p_first (n := n + 5) (p := pr s x) w1.ho (srtP_srt _) (ord_ok t.ok) hN (by rw [ord_len]; omega)
  have d1 : exS T (call (n + 6)) 100 (.del (.att (.var 0) 4) (.call 14 [.att (.var 0) 4, .mt 14 .none (.var 0) [.var 1]])) [some (.ref p.t), some (.str x), some (.ref r')] h1 = .ok (.nx [some (.ref p.t), some (.str x), some (.ref r')]) (h1.set p.o (.lst ((srtP ((kn.erase x).map (pr s))).map ofP))) := by
    refine s_del (v := .ref p.o) (w := .int (place (srtP (kn.map (pr s))) (pr s x) : Nat)) (h1 := h1) (h2 := h1) eo (e_call (f := 36) (vs := [.ref p.o, ofP (pr s x)]) (h1 := h1) rfl (e_two (h1 := h1) eo (e_meth (g := 31) (vs := [.str x]) (h1 := h1) (h2 := h1) (e_var rfl) w1.ht rfl rfl (e_one (e_var rfl)) (p_pair (n := n + 1) w1 hx hN))) ef) ?_
    rw [ord_len] at hk
    have q : PySem.seqIndex? (place (srtP (kn.map (pr s))) (pr s x) : Nat) ((srtP (kn.map (pr s))).map ofP).length = some (place (srtP (kn.map (pr s))) (pr s x)) := by
      rw [List.length_map, ord_len]
      unfold PySem.seqIndex?
      simp
      omega
    simp only [pDel, w1.ho, q]
    rw [if_pos (by simp; omega), ← ed, erase_map]
  refine st_nx d1 (st_nx ?_ s_nil)
  refine s_del (v := .ref p.k) (w := .str x) (h1 := h1.set p.o (.lst ((srtP ((kn.erase x).map (pr s))).map ofP))) (h2 := h1.set p.o (.lst ((srtP ((kn.erase x).map (pr s))).map ofP))) (w2.fld rfl rfl) (e_var rfl) ?_
  simp only [pDel, w2.hk, Mn.keyOf]
  rw [show (Sum.inr ⟨x.toArray⟩ : Key) = kk x from rfl, hd_get s hx, hd_drop s t.nd]
  rfl
end
end K06
set_option Elab.async false
set_option linter.all false
set_option maxRecDepth 100000
set_option maxHeartbeats 1000000
namespace K06
open PySem PySem.Spec PyProof.Rows L2 Mn
section
variable {n s mv : Nat} {h h1 : PH} {p : Ps} {vn kn : List Tx} {ord : List (Int × List Nat)} {B C : List (List Tx)}
def fresh (h : PH) (k : Nat) : List Nat := (List.range k).map fun j => h.length + 1 + j
theorem fresh_nd (k : Nat) : (fresh h k).Nodup := by
  unfold fresh
  rw [List.nodup_iff_pairwise_ne, List.pairwise_map]
  exact List.nodup_range.imp fun a b => by omega
theorem fresh_ge {k m : Nat} (hm : m ∈ fresh h k) : h.length < m := by
  unfold fresh at hm
  obtain ⟨j, _, rfl⟩ := List.mem_map.mp hm
  omega
theorem TW.begin (w : TW h s p vn kn ord B C mv) (k : Nat) : TW ((mts h k).set p.t (.ins 1 (fsT s { p with c := h.length, cl := fresh h k } mv))) s { p with c := h.length, cl := fresh h k } vn kn ord B (List.replicate k []) mv := by
  have am : ∀ {m : Nat} {o : PO}, h[m]? = some o → (mts h k)[m]? = some o := fun e => by
    unfold mts
    exact app_at (app_at e)
  have ne : ∀ {i q : Nat}, p.all[i]? = some q → i ≠ 0 → p.t ≠ q := fun e h => nd_ne w.nd (i := 0) rfl e (Ne.symm h)
  have ht : p.t < h.length := w.lt mem_t
  obtain ⟨kvs, e, d⟩ := w.hv
  refine ⟨set_at (am w.ht), ⟨kvs, by rw [set_ne (ne (i := 1) rfl (by decide))]; exact am e, d⟩, by rw [set_ne (ne (i := 2) rfl (by decide))]; exact am w.hk, by rw [set_ne (ne (i := 3) rfl (by decide))]; exact am w.ho, by rw [set_ne (ne (i := 4) rfl (by decide))]; exact am w.hb, ?_, w.lb, by simp [fresh],
    fun j' q' e' => by rw [set_ne (ne (ix_bl e') (by omega))]; exact am (w.gb j' q' e'), fun j' q' e' => ?_, ?_⟩
  · simp only
    rw [set_ne (by omega)]
    unfold mts fresh
    rw [List.getElem?_append_left (by simp)]
    simp [List.map_map, Function.comp_def]
  · simp only at e'
    have hj : j' < k := by
      have := (List.getElem?_eq_some_iff.mp e').1
      simpa [fresh] using this
    have hq : q' = h.length + 1 + j' := by
      unfold fresh at e'
      rw [List.getElem?_map, List.getElem?_range hj] at e'
      exact (Option.some.inj e').symm
    subst hq
    rw [set_ne (by omega)]
    unfold mts
    rw [List.getElem?_append_right (by simp)]
    have : h.length + 1 + j' - (h ++ [PO.lst ((List.range k).map fun (j : Nat) => PV.ref (h.length + 1 + j))]).length = j' := by simp
    rw [this, List.getElem?_replicate, if_pos hj]
    have g : (List.replicate k ([] : List Tx)).getD j' [] = [] := by
      rw [List.getD_eq_getElem?_getD, List.getElem?_replicate]
      split <;> rfl
    rw [g]
    rfl
  · have nd := w.nd
    have lt : ∀ m ∈ p.all, m < h.length := fun m hm => w.lt hm
    have fg : ∀ m ∈ fresh h k, h.length < m := fun m hm => fresh_ge hm
    have fn := fresh_nd (h := h) k
    unfold Ps.all at nd lt ⊢
    simp only [List.nodup_cons, List.mem_cons, List.mem_append, not_or, List.nodup_append] at nd ⊢
    obtain ⟨⟨a1, a2, a3, a4, a5, a6, a7⟩, ⟨b1, b2, b3, b4, b5, b6⟩, ⟨c1, c2, c3, c4, c5⟩, ⟨d1, d2, d3, d4⟩, ⟨f1, f2, f3⟩, ⟨g1, g2⟩, k1, k2, k3⟩ := nd
    have l1 := lt p.t (by simp)
    have l2 := lt p.v (by simp)
    have l3 := lt p.k (by simp)
    have l4 := lt p.o (by simp)
    have l5 := lt p.b (by simp)
    have lb : ∀ m ∈ p.bl, m < h.length := fun m hm => lt m (by simp [hm])
    have nf : ∀ m, m < h.length → m ∉ fresh h k := fun m hm z => by have := fg m z; omega
    refine ⟨⟨a1, a2, a3, a4, by omega, a6, nf _ l1⟩, ⟨b1, b2, b3, by omega, b5, nf _ l2⟩, ⟨c1, c2, by omega, c4, nf _ l3⟩, ⟨d1, by omega, d3, nf _ l4⟩, ⟨by omega, f2, nf _ l5⟩, ⟨fun z => by have := lb _ z; omega, fun z => by have := fg _ z; omega⟩, k1, fn, fun a ha b hb e => ?_⟩
    have := lb a ha
    have := fg b hb
    omega
theorem own_begin (k : Nat) : Own p { p with c := h.length, cl := fresh h k } h := ⟨rfl, fun m hm => by
  have hm : m ∈ ({ p with c := h.length, cl := fresh h k } : Ps).all := hm
  unfold Ps.all at hm ⊢
  simp only [List.mem_cons, List.mem_append] at hm ⊢
  rcases hm with q | q | q | q | q | q | q | q
  · exact .inl (.inl q)
  · exact .inl (.inr (.inl q))
  · exact .inl (.inr (.inr (.inl q)))
  · exact .inl (.inr (.inr (.inr (.inl q))))
  · exact .inl (.inr (.inr (.inr (.inr (.inl q)))))
  · exact .inr (Nat.le_of_eq q.symm)
  · exact .inl (.inr (.inr (.inr (.inr (.inr (.inr (.inl q)))))))
  · exact .inr (Nat.le_of_lt (fresh_ge q))⟩
theorem s_begin {ρ : PEnv} {E : Ex} {k : Nat} (w : TW h s p vn kn ord B C mv) (h0 : ρ[0]? = some (some (.ref p.t))) (he : evE T (call (n + 1)) E ρ h = .ok (.int k) h) (hk : k ≤ 64) (hn : ∀ x, E ≠ .star x := by intro x q; cases q) :
    exS T (call (n + 1)) 100 (.asg (.att (.var 0) 6) (.call 12 [E])) ρ h = .ok (.nx ρ) ((mts h k).set p.t (.ins 1 (fsT s { p with c := h.length, cl := fresh h k } mv))) := by
  have am : (mts h k)[p.t]? = some (.ins 1 (fsT s p mv)) := by
    unfold mts
    exact app_at (app_at w.ht)
  exact s_att (l := p.t) (fs := fsT s p mv) (v := .ref h.length) (h1 := mts h k) (h2 := mts h k) (e_call (f := 34) (vs := [.int k]) (h1 := h) rfl (e_one he hn) (p_empty (by omega))) (e_var h0) am rfl (by simp [fsT])
theorem e_lenv {ρ : PEnv} {cl : Nat → List PV → PH → Res PV} (w : TW h s p vn kn ord B C mv) (h0 : ρ[0]? = some (some (.ref p.t))) : evE T cl (.bi .len [.att (.var 0) 2]) ρ h = .ok (.int vn.length) h := by
  obtain ⟨kvs, e, d⟩ := w.hv
  have hl : kvs.length = vn.length := by have := congrArg List.length d.ks; simpa using this
  exact e_bi (h1 := h) (vs := [.ref p.v]) (e_one (w.fld h0 rfl)) (by simp only [pBi, e, hl])
theorem e_lenb {ρ : PEnv} {cl : Nat → List PV → PH → Res PV} (w : TW h s p vn kn ord B C mv) (h0 : ρ[0]? = some (some (.ref p.t))) : evE T cl (.bi .len [.att (.var 0) 5]) ρ h = .ok (.int B.length) h :=
  e_bi (h1 := h) (vs := [.ref p.b]) (e_one (w.fld h0 rfl)) (by simp only [pBi, w.hb, List.length_map, w.lb])
theorem e_noc {ρ : PEnv} {cl : Nat → List PV → PH → Res PV} (w : TW h s p vn kn ord B C mv) (h0 : ρ[0]? = some (some (.ref p.t))) : evE T cl (.not (.att (.var 0) 6)) ρ h = .ok (.bl (decide (C = []))) h := by
  have ec : evE T cl (.att (.var 0) 6) ρ h = .ok (.ref p.c) h := w.fld h0 rfl
  simp only [evE] at ec ⊢
  rw [ec]
  simp only [Res.bind_ok, tru_lst w.hc]
  have lc := w.lc
  by_cases q : C = []
  · subst q
    rw [List.eq_nil_of_length_eq_zero (l := p.cl) (by rw [lc]; rfl)]
    rfl
  · rw [decide_eq_false q]
    cases r : p.cl with
    | nil => rw [r] at lc; exact absurd (List.eq_nil_of_length_eq_zero lc.symm) q
    | cons a l => rfl
theorem p_grow (w : TW h s p vn kn ord B C mv) (t : TI (hs s) B C mv kn) (hv : vn.length ≤ 20) : ∃ h' p' C', call (n + 3) 32 [.ref p.t] h = .ok .non h' ∧ TW h' s p' vn kn ord B C' mv ∧ TI (hs s) B C' mv kn ∧ Own p p' h ∧ Fr p.all h h' := by
  rw [call_run (d := d_Table__grow) rfl rfl]
  have w0 : ∀ {ρ}, exS T (call (n + 2)) 100 (.asg (.nm 1) (.bi .len [.att (.var 0) 2])) [some (.ref p.t), ρ] h = .ok (.nx [some (.ref p.t), some (.int vn.length)]) h := s_asg (e_lenv w rfl)
  have en : evE T (call (n + 2)) (.not (.att (.var 0) 6)) [some (.ref p.t), some (.int vn.length)] h = .ok (.bl (decide (C = []))) h := e_noc w rfl
  have ebl : evE T (call (n + 2)) (.bi .len [.att (.var 0) 5]) [some (.ref p.t), some (.int vn.length)] h = .ok (.int B.length) h := e_lenb w rfl
  have emin : evE T (call (n + 2)) (.bi .min [.var 1, .glob 39]) [some (.ref p.t), some (.int vn.length)] h = .ok (.int vn.length) h := e_bi (h1 := h) (e_two (h1 := h) (e_var rfl) (e_glob (v := .int 65536) rfl)) (by simp only [pBi]; rw [if_neg (by omega)])
  by_cases hC : C = []
  · rw [decide_eq_true hC] at en
    have ecmp : evE T (call (n + 2)) (.cmp .lt (.bi .len [.att (.var 0) 5]) (.bi .min [.var 1, .glob 39])) [some (.ref p.t), some (.int vn.length)] h = .ok (.bl (decide ((B.length : Int) < vn.length))) h := e_cmp ebl emin rfl
    by_cases hlt : (B.length : Int) < vn.length
    · rw [decide_eq_true hlt] at ecmp
      obtain ⟨k, e, k4, k64⟩ := p_bfor (n := n + 1) (h := h) (m := (vn.length : Int) + 1) (by omega)
      have e1 : evE T (call (n + 2)) (.bi .min [.call 13 [.bin .add (.var 1) (.con (.int 1))], .glob 39]) [some (.ref p.t), some (.int vn.length)] h = .ok (.int k) h := by
        refine e_bi (h1 := h) (vs := [.int k, .int 65536]) (e_two (h1 := h) (e_call (f := 35) (vs := [.int ((vn.length : Int) + 1)]) (h1 := h) rfl (e_one (e_addi (e_var rfl) e_con)) e) (e_glob rfl)) ?_
        simp only [pBi]
        rw [if_neg (by omega)]
      have s1 := s_begin (n := n + 1) w (ρ := [some (.ref p.t), some (.int vn.length)]) rfl e1 k64
      refine ⟨_, _, _, rd_nx (ρ := [some (.ref p.t), some (.int vn.length)]) rfl ?_, w.begin k, t.begun hC k4 k64, own_begin k, ?_⟩
      · show exSs T (call (n + 2)) 100 b_Table__grow [some (.ref p.t), none] h = _
        exact st_nx w0 (st_nx (s_ifT (h1 := h) (t_bl (e_andT en ecmp)) (st_nx s1 s_nil)) s_nil)
      · unfold mts
        rw [List.append_assoc]
        exact Fr.app.trans (Fr.set mem_t)
    · rw [decide_eq_false hlt] at ecmp
      refine ⟨h, p, C, rd_nx (ρ := [some (.ref p.t), some (.int vn.length)]) rfl ?_, w, t, Own.refl, Fr.refl⟩
      show exSs T (call (n + 2)) 100 b_Table__grow [some (.ref p.t), none] h = _
      exact st_nx w0 (st_nx (s_ifF (h1 := h) (t_bl (e_andT en ecmp)) s_nil) s_nil)
  · rw [decide_eq_false hC] at en
    refine ⟨h, p, C, rd_nx (ρ := [some (.ref p.t), some (.int vn.length)]) rfl ?_, w, t, Own.refl, Fr.refl⟩
    show exSs T (call (n + 2)) 100 b_Table__grow [some (.ref p.t), none] h = _
    exact st_nx w0 (st_nx (s_ifF (h1 := h) (t_bl (e_andF en)) s_nil) s_nil)
theorem p_shrink (w : TW h s p vn kn ord B C mv) (t : TI (hs s) B C mv kn) (hv : vn.length ≤ 20) : ∃ h' p' C', call (n + 3) 33 [.ref p.t] h = .ok .non h' ∧ TW h' s p' vn kn ord B C' mv ∧ TI (hs s) B C' mv kn ∧ Own p p' h ∧ Fr p.all h h' := by
  rw [call_run (d := d_Table__shrink) rfl rfl]
  have w0 : ∀ {ρ}, exS T (call (n + 2)) 100 (.asg (.nm 1) (.bi .len [.att (.var 0) 2])) [some (.ref p.t), ρ] h = .ok (.nx [some (.ref p.t), some (.int vn.length)]) h := s_asg (e_lenv w rfl)
  have en : evE T (call (n + 2)) (.not (.att (.var 0) 6)) [some (.ref p.t), some (.int vn.length)] h = .ok (.bl (decide (C = []))) h := e_noc w rfl
  have ebl : evE T (call (n + 2)) (.bi .len [.att (.var 0) 5]) [some (.ref p.t), some (.int vn.length)] h = .ok (.int B.length) h := e_lenb w rfl
  have bg : ∀ c : Nat, c ≤ 8 → big (c : Nat) (vn.length : Nat) = true := fun c hc => big_ok (k := 17) (by omega) (by omega) (by decide)
  have emul : ∀ c : Nat, c ≤ 8 → evE T (call (n + 2)) (.bin .mul (.con (.int c)) (.var 1)) [some (.ref p.t), some (.int vn.length)] h = .ok (.int ((c : Int) * vn.length)) h := fun c hc => e_bin (h1 := h) (h2 := h) (v := .int c) (w := .int vn.length) e_con (e_var rfl) (by simp only [pBin]; rw [if_pos (bg c hc)])
  by_cases hC : C = []
  · rw [decide_eq_true hC] at en
    have emax : ∃ m : Int, evE T (call (n + 2)) (.bi .max [.bin .mul (.con (.int 8)) (.var 1), .bin .add (.glob 38) (.con (.int 1))]) [some (.ref p.t), some (.int vn.length)] h = .ok (.int m) h := ⟨_, e_bi (h1 := h) (e_two (h1 := h) (emul 8 (by omega)) (e_addi (e_glob rfl) e_con)) rfl⟩
    obtain ⟨m, emax⟩ := emax
    have ecmp : evE T (call (n + 2)) (.cmp .ge (.bi .len [.att (.var 0) 5]) (.bi .max [.bin .mul (.con (.int 8)) (.var 1), .bin .add (.glob 38) (.con (.int 1))])) [some (.ref p.t), some (.int vn.length)] h = .ok (.bl (decide (m ≤ (B.length : Int)))) h := e_cmp ebl emax rfl
    by_cases hlt : m ≤ (B.length : Int)
    · rw [decide_eq_true hlt] at ecmp
      obtain ⟨k, e, k4, k64⟩ := p_bfor (n := n + 1) (h := h) (m := 2 * (vn.length : Int)) (by omega)
      have e1 : evE T (call (n + 2)) (.call 13 [.bin .mul (.con (.int 2)) (.var 1)]) [some (.ref p.t), some (.int vn.length)] h = .ok (.int k) h := e_call (f := 35) (vs := [.int (2 * (vn.length : Int))]) (h1 := h) rfl (e_one (emul 2 (by omega))) e
      have s1 := s_begin (n := n + 1) w (ρ := [some (.ref p.t), some (.int vn.length)]) rfl e1 k64
      refine ⟨_, _, _, rd_nx (ρ := [some (.ref p.t), some (.int vn.length)]) rfl ?_, w.begin k, t.begun hC k4 k64, own_begin k, ?_⟩
      · show exSs T (call (n + 2)) 100 b_Table__shrink [some (.ref p.t), none] h = _
        exact st_nx w0 (st_nx (s_ifT (h1 := h) (t_bl (e_andT en ecmp)) (st_nx s1 s_nil)) s_nil)
      · unfold mts
        rw [List.append_assoc]
        exact Fr.app.trans (Fr.set mem_t)
    · rw [decide_eq_false hlt] at ecmp
      refine ⟨h, p, C, rd_nx (ρ := [some (.ref p.t), some (.int vn.length)]) rfl ?_, w, t, Own.refl, Fr.refl⟩
      show exSs T (call (n + 2)) 100 b_Table__shrink [some (.ref p.t), none] h = _
      exact st_nx w0 (st_nx (s_ifF (h1 := h) (t_bl (e_andT en ecmp)) s_nil) s_nil)
  · rw [decide_eq_false hC] at en
    refine ⟨h, p, C, rd_nx (ρ := [some (.ref p.t), some (.int vn.length)]) rfl ?_, w, t, Own.refl, Fr.refl⟩
    show exSs T (call (n + 2)) 100 b_Table__shrink [some (.ref p.t), none] h = _
    exact st_nx w0 (st_nx (s_ifF (h1 := h) (t_bl (e_andF en)) s_nil) s_nil)
def TOk (h : PH) (s : Nat) (p : Ps) (ns : List Tx) : Prop := ∃ B C mv, TW h s p ns ns (srtP (ns.map (pr s))) B C mv ∧ TI (hs s) B C mv ns
theorem TOk.fr {S : List Nat} {ns : List Tx} (w : TOk h s p ns) (f : Fr S h h1) (hd : ∀ m ∈ p.all, m ∉ S) : TOk h1 s p ns := let ⟨B, C, mv, a, b⟩ := w; ⟨B, C, mv, a.fr f hd, b⟩
theorem TOk.lt {ns : List Tx} (w : TOk h s p ns) {m : Nat} (hm : m ∈ p.all) : m < h.length := let ⟨_, _, _, a, _⟩ := w; a.lt hm
theorem in_dict {l : Nat} {kvs : List (Key × PV)} {x : Tx} (e : h[l]? = some (.dic kvs)) (d : DN kvs vn) : pIn h (.str x) (.ref l) = some (decide (x ∈ vn)) := by
  have := d.has x
  unfold kk at this
  simp only [pIn, e, this]
theorem e_inv {ρ : PEnv} {cl : Nat → List PV → PH → Res PV} {x : Tx} (w : TW h s p vn kn ord B C mv) (h0 : ρ[0]? = some (some (.ref p.t))) (h1 : ρ[1]? = some (some (.str x))) : evE T cl (.cmp .nin (.var 1) (.att (.var 0) 2)) ρ h = .ok (.bl (!decide (x ∈ vn))) h := by
  obtain ⟨kvs, e, d⟩ := w.hv
  refine e_cmp (e_var h1) (w.fld h0 rfl) ?_
  simp only [pCmp, in_dict e d, Option.map_some, Mn.ob]
def put1 (ns : List Tx) (x : Tx) : List Tx := if x ∈ ns then ns else ns ++ [x]
theorem put1_ok {ns : List Tx} {x : Tx} (nd : ns.Nodup) (hn : ∀ y ∈ ns, IsN y) (hx : IsN x) : (put1 ns x).Nodup ∧ ∀ y ∈ put1 ns x, IsN y := by
  unfold put1
  split
  · exact ⟨nd, hn⟩
  · rename_i q
    refine ⟨List.nodup_append.mpr ⟨nd, by simp, fun a ha b hb e => by rw [List.mem_singleton.mp hb] at e; exact q (e ▸ ha)⟩, fun y hy => ?_⟩
    rcases List.mem_append.mp hy with hy | hy
    · exact hn y hy
    · rw [List.mem_singleton.mp hy]; exact hx
theorem dn_len {kvs : List (Key × PV)} (d : DN kvs vn) : kvs.length = vn.length := by have := congrArg List.length d.ks; simpa using this
theorem p_put (hs2 : s < 3) {ns : List Tx} {x : Tx} {v : PV} (w : TOk h s p ns) (hx : IsN x) (hv : Cp v) : ∃ h' p', call (n + 9) 14 [.ref p.t, .str x, v] h = .ok (.bl (!decide (x ∈ ns))) h' ∧ TOk h' s p' (put1 ns x) ∧ Own p p' h ∧ Fr p.all h h' := by
  obtain ⟨B, C, mv, w, t⟩ := w
  rw [call_run (d := d_Table_put) rfl rfl]
  obtain ⟨h1, p1, B1, C1, mv1, e1, w1, t1, ow1, f1⟩ := p_step (n := n + 6) w t
  have wt1 : p1.t = p.t := ow1.1
  obtain ⟨kvs, ekv, dn⟩ := w1.hv
  have hlen := t1.len
  have d2 := dn.put (y := x) hv
  have w2 := w1.setV d2
  have f2 : Fr p1.all h1 (h1.set p1.v (.dic (dPut kvs (kk x) v))) := Fr.set mem_v
  have pre : ∀ z, exSs T (call (n + 8)) 100 (b_Table_put.drop 4) [some (.ref p.t), some (.str x), some v, some (.bl (!decide (x ∈ ns)))] (h1.set p1.v (.dic (dPut kvs (kk x) v))) = z → exSs T (call (n + 8)) 100 b_Table_put [some (.ref p.t), some (.str x), some v, none] h = z := fun z k => by
    refine st_nx (s_ex (v := .non) (h1 := h) (e_call1 rfl rfl (p_chkt hx))) ?_
    refine st_nx (s_ex (v := .non) (h1 := h1) (e_meth (g := 27) (vs := []) (h1 := h) (h2 := h) (e_var rfl) w.ht rfl rfl e_nil e1)) ?_
    refine st_nx (ρ1 := [some (.ref p.t), some (.str x), some v, some (.bl (!decide (x ∈ ns)))]) (h1 := h1) (s_asg (e_inv w1 (by rw [wt1]; rfl) rfl)) ?_
    refine st_nx (ρ1 := [some (.ref p.t), some (.str x), some v, some (.bl (!decide (x ∈ ns)))]) (h1 := h1.set p1.v (.dic (dPut kvs (kk x) v))) ?_ k
    refine s_setix (h1 := h1) (h2 := h1) (h3 := h1) (v := v) (w := .ref p1.v) (k := .str x) (e_call1 rfl rfl (p_copied hv)) (w1.fld (by rw [wt1]; rfl) rfl) (e_var rfl) ?_
    simp only [pSet, ekv, Mn.keyOf]
    rw [if_pos (by rw [dn_len dn]; exact sz100 (by omega))]
    rfl
  generalize h1.set p1.v (.dic (dPut kvs (kk x) v)) = h2 at w2 f2 pre
  have f12 := ow1.fr f1 f2
  by_cases hm : x ∈ ns
  · rw [if_pos hm] at w2
    rw [decide_eq_true hm] at pre ⊢
    refine ⟨h2, p1, rd_rt rfl (pre _ ?_), ?_, ow1, f12⟩
    · exact st_nx (s_ifF (h1 := h2) (t_bl (e_var rfl)) s_nil) (st_rt (s_ret (e_var rfl)))
    · unfold put1
      rw [if_pos hm]
      exact ⟨B1, C1, mv1, w2, t1⟩
  · rw [if_neg hm] at w2
    rw [decide_eq_false hm] at pre ⊢
    obtain ⟨h3, B3, C3, e3, w3, t3, f3⟩ := p_enter (n := n + 1) hs2 w2 t1 hm hx
    obtain ⟨h4, p4, C4, e4, w4, t4, ow4, f4⟩ := p_grow (n := n + 5) w3 t3 t3.len
    refine ⟨h4, p4, rd_rt rfl (pre _ ?_), ?_, ow1.trans ow4 (Nat.le_trans f12.1 f3.1), ow1.fr f1 ((f2.trans f3).trans f4)⟩
    · refine st_nx (ρ1 := [some (.ref p.t), some (.str x), some v, some (.bl true)]) (h1 := h4) (s_ifT (h1 := h2) (t_bl (e_var rfl)) ?_) (st_rt (s_ret (e_var rfl)))
      refine st_nx (s_ex (v := .non) (h1 := h3) (e_meth (g := 28) (vs := [.str x]) (h1 := h2) (h2 := h2) (e_var rfl) (by rw [← wt1]; exact w2.ht) rfl rfl (e_one (e_var rfl)) (by rw [← wt1]; exact e3))) ?_
      refine st_nx (s_ex (v := .non) (h1 := h4) (e_meth (g := 32) (vs := []) (h1 := h3) (h2 := h3) (e_var rfl) (by rw [← wt1]; exact w3.ht) rfl rfl e_nil (by rw [← wt1]; exact e4))) s_nil
    · unfold put1
      rw [if_neg hm]
      exact ⟨_, _, _, w4, t4⟩
theorem p_take {ns : List Tx} {x : Tx} (w : TOk h s p ns) (hx : IsN x) : ∃ h' p' v, call (n + 9) 16 [.ref p.t, .str x, .non] h = .ok v h' ∧ TOk h' s p' (ns.erase x) ∧ Own p p' h ∧ Fr p.all h h' := by
  obtain ⟨B, C, mv, w, t⟩ := w
  rw [call_run (d := d_Table_take) rfl rfl]
  obtain ⟨h1, p1, B1, C1, mv1, e1, w1, t1, ow1, f1⟩ := p_step (n := n + 6) w t
  have wt1 : p1.t = p.t := ow1.1
  have hlen := t1.len
  have pre : ∀ z, exSs T (call (n + 8)) 100 (b_Table_take.drop 2) [some (.ref p.t), some (.str x), some .non, none] h1 = z → exSs T (call (n + 8)) 100 b_Table_take [some (.ref p.t), some (.str x), some .non, none] h = z := fun z k => by
    refine st_nx (s_ex (v := .non) (h1 := h) (e_call1 rfl rfl (p_chkt hx))) ?_
    exact st_nx (s_ex (v := .non) (h1 := h1) (e_meth (g := 27) (vs := []) (h1 := h) (h2 := h) (e_var rfl) w.ht rfl rfl e_nil e1)) k
  have ein : evE T (call (n + 8)) (.cmp .nin (.var 1) (.att (.var 0) 2)) [some (.ref p.t), some (.str x), some .non, none] h1 = .ok (.bl (!decide (x ∈ ns))) h1 := e_inv w1 (by rw [wt1]; rfl) rfl
  by_cases hm : x ∈ ns
  · rw [decide_eq_true hm] at ein
    obtain ⟨kvs, ekv, dn⟩ := w1.hv
    obtain ⟨v, ev, cv⟩ := (dn.get x).1 hm
    have d2 := dn.drop t1.nd x
    have w2 := w1.setV d2
    have f2 : Fr p1.all h1 (h1.set p1.v (.dic (dDrop kvs (kk x)))) := Fr.set mem_v
    have e2 : evE T (call (n + 8)) (.mt 0 .pop (.att (.var 0) 2) [.var 1]) [some (.ref p.t), some (.str x), some .non, none] h1 = .ok v (h1.set p1.v (.dic (dDrop kvs (kk x)))) := by
      refine e_bm (q := .dpop) (v := .ref p1.v) (h1 := h1) (h2 := h1) (vs := [.str x]) rfl (w1.fld (by rw [wt1]; rfl) rfl) (by simp only [kindAt, ekv]; rfl) (e_one (e_var rfl)) ?_
      simp only [pBq, ekv, Mn.keyOf]
      rw [show (Sum.inr ⟨x.toArray⟩ : Key) = kk x from rfl, ev]
    generalize h1.set p1.v (.dic (dDrop kvs (kk x))) = h2 at w2 f2 e2
    obtain ⟨h3, B3, C3, e3, w3, t3, f3⟩ := p_leave (n := n + 1) w2 t1 hm
    obtain ⟨h4, p4, C4, e4, w4, t4, ow4, f4⟩ := p_shrink (n := n + 5) w3 t3 t3.len
    have f12 := ow1.fr f1 f2
    refine ⟨h4, p4, v, rd_rt rfl (pre _ ?_), ⟨_, _, _, w4, t4⟩, ow1.trans ow4 (Nat.le_trans f12.1 f3.1), ow1.fr f1 ((f2.trans f3).trans f4)⟩
    refine st_no (h1 := h1) ein ?_
    refine st_nx (ρ1 := [some (.ref p.t), some (.str x), some .non, some v]) (h1 := h2) (s_asg e2) ?_
    refine st_nx (s_ex (v := .non) (h1 := h3) (e_meth (g := 29) (vs := [.str x]) (h1 := h2) (h2 := h2) (e_var rfl) (by rw [← wt1]; exact w2.ht) rfl rfl (e_one (e_var rfl)) (by rw [← wt1]; exact e3))) ?_
    refine st_nx (s_ex (v := .non) (h1 := h4) (e_meth (g := 33) (vs := []) (h1 := h3) (h2 := h3) (e_var rfl) (by rw [← wt1]; exact w3.ht) rfl rfl e_nil (by rw [← wt1]; exact e4))) ?_
    exact st_rt (s_ret (e_var rfl))
  · rw [decide_eq_false hm] at ein
    refine ⟨h1, p1, .non, rd_rt rfl (pre _ ?_), ?_, ow1, f1⟩
    · exact st_yes (h1 := h1) ein (e_var rfl)
    · rw [List.erase_of_not_mem hm]
      exact ⟨_, _, _, w1, t1⟩
theorem p_get {ns : List Tx} {x : Tx} (w : TOk h s p ns) (hx : IsN x) : ∃ h' p' v, call (n + 9) 15 [.ref p.t, .str x, .non] h = .ok v h' ∧ TOk h' s p' ns ∧ Own p p' h ∧ Fr p.all h h' := by
  obtain ⟨B, C, mv, w, t⟩ := w
  rw [call_run (d := d_Table_get) rfl rfl]
  obtain ⟨h1, p1, B1, C1, mv1, e1, w1, t1, ow1, f1⟩ := p_step (n := n + 6) w t
  have wt1 : p1.t = p.t := ow1.1
  have pre : ∀ z, exSs T (call (n + 8)) 100 (b_Table_get.drop 2) [some (.ref p.t), some (.str x), some .non] h1 = z → exSs T (call (n + 8)) 100 b_Table_get [some (.ref p.t), some (.str x), some .non] h = z := fun z k => by
    refine st_nx (s_ex (v := .non) (h1 := h) (e_call1 rfl rfl (p_chkt hx))) ?_
    exact st_nx (s_ex (v := .non) (h1 := h1) (e_meth (g := 27) (vs := []) (h1 := h) (h2 := h) (e_var rfl) w.ht rfl rfl e_nil e1)) k
  have ein : evE T (call (n + 8)) (.cmp .nin (.var 1) (.att (.var 0) 2)) [some (.ref p.t), some (.str x), some .non] h1 = .ok (.bl (!decide (x ∈ ns))) h1 := e_inv w1 (by rw [wt1]; rfl) rfl
  by_cases hm : x ∈ ns
  · rw [decide_eq_true hm] at ein
    obtain ⟨kvs, ekv, dn⟩ := w1.hv
    obtain ⟨v, ev, cv⟩ := (dn.get x).1 hm
    refine ⟨h1, p1, v, rd_rt rfl (pre _ (st_no (h1 := h1) ein (st_rt (s_ret ?_)))), ⟨_, _, _, w1, t1⟩, ow1, f1⟩
    refine e_call (f := 12) (vs := [v]) (h1 := h1) rfl (e_one ?_) (p_copied cv)
    refine e_ix (v := .ref p1.v) (w := .str x) (h1 := h1) (h2 := h1) (w1.fld (by rw [wt1]; rfl) rfl) (e_var rfl) ?_
    simp only [pIx, ekv]
    rw [show (Sum.inr ⟨x.toArray⟩ : Key) = kk x from rfl, ev]
  · rw [decide_eq_false hm] at ein
    exact ⟨h1, p1, .non, rd_rt rfl (pre _ (st_yes (h1 := h1) ein (e_var rfl))), ⟨_, _, _, w1, t1⟩, ow1, f1⟩
end
end K06
set_option Elab.async false
set_option linter.all false
set_option maxRecDepth 100000
set_option maxHeartbeats 1000000
namespace K06
open Mn
abbrev Pr := Int × List Nat
def fromC (L : List Pr) (c : Int) : List Pr := L.filter fun q => decide (c ≤ q.1)
def lastZ (S : List Pr) (k : Nat) : Int := (S.getD (min k S.length - 1) (0, [])).1
def toldL (S : List Pr) (k : Nat) : List Pr := S.filter fun q => decide (q.1 ≤ lastZ S k)
def scanP (L : List Pr) (c : Int) (k : Nat) : Int × List Tx := if fromC L c = [] then (0, []) else (if (toldL (fromC L c) k).length < (fromC L c).length then lastZ (fromC L c) k + 1 else 0, (toldL (fromC L c) k).map (·.2))
theorem lexP_0 (q : Pr) (c : Int) : lexP q (c, []) = decide (q.1 < c) := by
  unfold lexP
  split
  · rename_i e
    have e : q.1 = c := e
    rw [e]
    simp
  · rfl
theorem lexP_fst {p q : Pr} (h : lexP q p = false) : p.1 ≤ q.1 := by
  unfold lexP at h
  split at h
  · rename_i e; omega
  · have := of_decide_eq_false h; omega
theorem srt_fst {L : List Pr} (h : Srt L) : L.Pairwise (fun a b => a.1 ≤ b.1) := h.imp fun k => lexP_fst k
theorem drop_from {L : List Pr} (h : Srt L) (c : Int) : L.drop (place L (c, [])) = fromC L c := by
  obtain ⟨h1, h2, h3⟩ := srt_split (c, []) h
  unfold fromC
  conv => rhs; rw [← List.take_append_drop (place L (c, [])) L]
  rw [List.filter_append, List.filter_eq_nil_iff.mpr, List.filter_eq_self.mpr, List.nil_append]
  · intro q hq
    have := h2 q hq
    rw [lexP_0] at this
    have := of_decide_eq_false this
    simp; omega
  · intro q hq
    have := h1 q hq
    rw [lexP_0] at this
    have := of_decide_eq_true this
    simp; omega
theorem place_mono {L : List Pr} {c e : Int} (h : c ≤ e) : place L (c, []) ≤ place L (e, []) := by
  unfold place
  rw [← List.countP_eq_length_filter, ← List.countP_eq_length_filter]
  refine List.countP_mono_left fun q _ => ?_
  rw [lexP_0, lexP_0]
  simp
  omega
theorem take_upto {L : List Pr} (h : Srt L) {c z : Int} (hz : c ≤ z + 1) : (L.drop (place L (c, []))).take (place L (z + 1, []) - place L (c, [])) = (fromC L c).filter fun q => decide (q.1 ≤ z) := by
  have hm := place_mono (L := L) hz
  obtain ⟨h1, h2, h3⟩ := srt_split (z + 1, []) h
  rw [drop_from h c]
  conv => rhs; rw [← List.take_append_drop (place L (z + 1, []) - place L (c, [])) (fromC L c)]
  rw [List.filter_append, List.filter_eq_self.mpr, List.filter_eq_nil_iff.mpr, List.append_nil]
  · intro q hq
    rw [← drop_from h c, List.drop_drop] at hq
    have e : place L (c, []) + (place L (z + 1, []) - place L (c, [])) = place L (z + 1, []) := by omega
    rw [e] at hq
    have := h2 q hq
    rw [lexP_0] at this
    have := of_decide_eq_false this
    simp; omega
  · intro q hq
    rw [← drop_from h c, ← List.drop_take] at hq
    have := h1 q (List.mem_of_mem_drop hq)
    rw [lexP_0] at this
    have := of_decide_eq_true this
    simp; omega
theorem lastZ_mem {S : List Pr} {k : Nat} (hS : S ≠ []) : ∃ q ∈ S, lastZ S k = q.1 := by
  have hl : 0 < S.length := List.length_pos_iff.mpr hS
  have hi : min k S.length - 1 < S.length := by omega
  refine ⟨S[min k S.length - 1], List.getElem_mem hi, ?_⟩
  unfold lastZ
  rw [List.getD_eq_getElem?_getD, List.getElem?_eq_getElem hi]
  rfl
theorem lastZ_ge {L : List Pr} {c : Int} {k : Nat} (hS : fromC L c ≠ []) : c ≤ lastZ (fromC L c) k := by
  obtain ⟨q, hq, e⟩ := lastZ_mem (k := k) hS
  have := (List.mem_filter.mp hq).2
  rw [e]
  simpa using this
theorem scan_prog {L : List Pr} (h : Srt L) {c : Int} {k : Nat} (hk : 1 ≤ k) :
    (place L (c, []) = L.length → scanP L c k = (0, [])) ∧
    (place L (c, []) < L.length → ∃ hi : min (place L (c, []) + k) L.length - 1 < L.length, c ≤ (L[min (place L (c, []) + k) L.length - 1]).1 ∧
      scanP L c k = (if place L ((L[min (place L (c, []) + k) L.length - 1]).1 + 1, []) < L.length then (L[min (place L (c, []) + k) L.length - 1]).1 + 1 else 0,
        ((L.drop (place L (c, []))).take (place L ((L[min (place L (c, []) + k) L.length - 1]).1 + 1, []) - place L (c, []))).map (·.2))) := by
  have hd := drop_from h c
  have hl : (fromC L c).length = L.length - place L (c, []) := by rw [← hd, List.length_drop]
  constructor
  · intro e
    unfold scanP
    rw [if_pos (by rw [← hd, e, List.drop_length])]
  · intro e
    have hS : fromC L c ≠ [] := fun z => by rw [z] at hl; simp at hl; omega
    have hi : min (place L (c, []) + k) L.length - 1 < L.length := by omega
    refine ⟨hi, ?_⟩
    have ez : (L[min (place L (c, []) + k) L.length - 1]).1 = lastZ (fromC L c) k := by
      unfold lastZ
      rw [← hd, List.getD_eq_getElem?_getD, List.getElem?_drop, List.length_drop]
      have e2 : place L (c, []) + (min k (L.length - place L (c, [])) - 1) = min (place L (c, []) + k) L.length - 1 := by omega
      rw [e2, List.getElem?_eq_getElem hi]
      rfl
    have hz := lastZ_ge (k := k) hS
    rw [ez]
    refine ⟨hz, ?_⟩
    have tu := take_upto h (c := c) (z := lastZ (fromC L c) k) (by omega)
    have hm := place_mono (L := L) (c := c) (e := lastZ (fromC L c) k + 1) (by omega)
    obtain ⟨_, _, h3⟩ := srt_split (lastZ (fromC L c) k + 1, []) h
    have tl : (toldL (fromC L c) k).length = place L (lastZ (fromC L c) k + 1, []) - place L (c, []) := by
      unfold toldL
      rw [← tu, List.length_take, List.length_drop]
      omega
    unfold scanP
    rw [if_neg hS, tl, hl, tu]
    congr 1
    by_cases q : place L (lastZ (fromC L c) k + 1, []) < L.length
    · rw [if_pos q, if_pos (by omega)]
    · rw [if_neg q, if_neg (by omega)]
theorem rows_srt (s : Nat) : Srt (rows s) := srtP_srt _
theorem rows_mem {s : Nat} {q : Pr} : q ∈ rows s ↔ ∃ x, IsN x ∧ q = pr s x := by
  unfold rows
  rw [(srtP_perm _).mem_iff, List.mem_map]
  exact ⟨fun ⟨x, h, e⟩ => ⟨x, h, e.symm⟩, fun ⟨x, h, e⟩ => ⟨x, h, e.symm⟩⟩
theorem n20_nd : N20.Nodup := by decide +kernel
theorem rows_there {s : Nat} {ns th : List Tx} (nd : ns.Nodup) (hn : ∀ x ∈ ns, IsN x) (hm : ∀ x, x ∈ th ↔ x ∈ ns) : (rows s).filter (fun q => decide (q.2 ∈ th)) = srtP (ns.map (pr s)) := by
  refine srtP_of ?_ ((rows_srt s).filter _)
  unfold rows
  refine ((srtP_perm _).filter _).trans ?_
  rw [List.filter_map]
  refine List.Perm.map _ ?_
  refine (List.perm_ext_iff_of_nodup (n20_nd.filter _) nd).mpr fun x => ?_
  rw [List.mem_filter]
  simp only [Function.comp_apply, decide_eq_true_eq]
  show x ∈ N20 ∧ x ∈ th ↔ _
  rw [hm]
  exact ⟨fun h => h.2, fun h => ⟨hn x h, h⟩⟩
theorem ord_mem {s : Nat} {ns : List Tx} {q : Pr} : q ∈ srtP (ns.map (pr s)) ↔ ∃ x ∈ ns, q = pr s x := by
  rw [(srtP_perm _).mem_iff, List.mem_map]
  exact ⟨fun ⟨x, h, e⟩ => ⟨x, h, e.symm⟩, fun ⟨x, h, e⟩ => ⟨x, h, e.symm⟩⟩
theorem pr_inj {s : Nat} {x y : Tx} (h : pr s x = pr s y) : x = y := congrArg Prod.snd h
theorem ord_nd {s : Nat} {ns : List Tx} (nd : ns.Nodup) : (srtP (ns.map (pr s))).Nodup := by
  rw [(srtP_perm _).nodup_iff]
  rw [List.nodup_iff_pairwise_ne, List.pairwise_map]
  exact (List.nodup_iff_pairwise_ne.mp nd).imp fun h e => h (pr_inj e)
theorem ord_snd_pm {s : Nat} {ns : List Tx} : ((srtP (ns.map (pr s))).map (·.2)).Perm ns := by
  have h := (srtP_perm (ns.map (pr s))).map (·.2)
  rw [List.map_map] at h
  have e : ((fun q : Pr => q.2) ∘ pr s) = id := rfl
  rw [e, List.map_id] at h
  exact h
theorem ord_snd {s : Nat} {ns : List Tx} (nd : ns.Nodup) : ((srtP (ns.map (pr s))).map (·.2)).Nodup := ord_snd_pm.nodup_iff.mpr nd
end K06
set_option Elab.async false
set_option linter.all false
set_option maxRecDepth 100000
set_option maxHeartbeats 1000000
namespace K06
open PySem PySem.Spec PyProof.Rows L2 Mn
def scanV (r : Int × List Tx) : PV := .tup [.int r.1, .tup (r.2.map .str)]
def sndV : PV → PV
  | .tup [_, y] => y
  | _ => .non
theorem snd_map : ∀ l : List Pr, (l.map ofP).map sndV = (l.map (·.2)).map .str
  | [] => rfl
  | q :: l => by
    simp only [List.map_cons, snd_map l]
    rfl
theorem isN_nil : IsN [] := List.mem_cons_self ..
section
variable {n s mv : Nat} {h h1 : PH} {p : Ps} {vn kn ns : List Tx} {ord : List (Int × List Nat)} {B C : List (List Tx)}
theorem ev_len {l : Nat} {xs : List PV} {ρ : PEnv} {cl : Nat → List PV → PH → Res PV} {e : Ex} (he : evE T cl e ρ h = .ok (.ref l) h1) (hl : h1[l]? = some (.lst xs)) (hn : ∀ x, e ≠ .star x := by intro x q; cases q) : evE T cl (.bi .len [e]) ρ h = .ok (.int xs.length) h1 := e_bi (e_one he hn) (by simp only [pBi, hl])
theorem p_scan (w : TOk h s p ns) {c : Int} {k : Nat} (hc : 0 ≤ c) (hc2 : c ≤ 65535) (hk : 1 ≤ k) (hk2 : k ≤ 1000) : ∃ h', call (n + 4) 17 [.ref p.t, .int c, .int k] h = .ok (scanV (scanP (srtP (ns.map (pr s))) c k)) h' ∧ Fr [] h h' := by
  obtain ⟨B, C, mv, w, t⟩ := w
  rw [call_run (d := d_Table_scan) rfl rfl]
  have hS := srtP_srt (ns.map (pr s))
  have hO := ord_ok (s := s) t.ok
  have hz : (srtP (ns.map (pr s))).length ≤ 60 := by rw [ord_len]; have := t.len; omega
  have eo : ∀ {ρ : PEnv} {h' : PH}, Fr [] h h' → ρ[0]? = some (some (.ref p.t)) → evE T (call (n + 3)) (.att (.var 0) 4) ρ h' = .ok (.ref p.o) h' := fun f e => (w.fr0 f).fld e rfl
  have ho := w.ho
  generalize srtP (ns.map (pr s)) = L at hS hO hz w ho
  obtain ⟨q0, q1⟩ := scan_prog hS (c := c) hk
  have hle := (srt_split (c, []) hS).2.2
  have el : ∀ {ρ : PEnv}, ρ[0]? = some (some (.ref p.t)) → evE T (call (n + 3)) (.bi .len [.att (.var 0) 4]) ρ h = .ok (.int L.length) h := fun e => by
    have := ev_len (eo Fr.refl e) ho
    rwa [List.length_map] at this
  have pre : ∀ z, exSs T (call (n + 3)) 100 (b_Table_scan.drop 3) [some (.ref p.t), some (.int c), some (.int k), some (.int (place L (c, []) : Nat)), none, none, none, none, none, none] h = z → exSs T (call (n + 3)) 100 b_Table_scan [some (.ref p.t), some (.int c), some (.int k), none, none, none, none, none, none, none] h = z := fun z k' => by
    refine st_nx (s_ex (v := .non) (h1 := h) (e_call (f := 6) (vs := [.int c, .int 0, .int 65535]) (h1 := h) rfl rfl (p_chkw hc hc2))) ?_
    refine st_nx (s_ex (v := .non) (h1 := h) (e_call (f := 6) (vs := [.int k, .int 1, .int 1000]) (h1 := h) rfl rfl (p_chkw (by omega) (by omega)))) ?_
    refine st_nx (h1 := h) (s_asg (v := .int (place L (c, []) : Nat)) (e_call (f := 36) (vs := [.ref p.o, ofP (c, [])]) (h1 := h) rfl (e_two (h1 := h) (eo Fr.refl rfl) (e_tup (vs := [.int c, .str []]) (e_two (h1 := h) (e_var rfl) e_con) (by simp))) (p_first ho hS hO isN_nil hz))) k'
  have ecmp : evE T (call (n + 3)) (.cmp .eq (.var 3) (.bi .len [.att (.var 0) 4])) [some (.ref p.t), some (.int c), some (.int k), some (.int (place L (c, []) : Nat)), none, none, none, none, none, none] h = .ok (.bl (decide (((place L (c, []) : Nat) : Int) = L.length))) h := e_eqi (e_var rfl) (el rfl)
  by_cases hq : place L (c, []) = L.length
  · rw [q0 hq]
    rw [decide_eq_true (by rw [hq])] at ecmp
    exact ⟨h, rd_rt rfl (pre _ (st_yes ecmp rfl)), Fr.refl⟩
  · obtain ⟨hi, hcz, es⟩ := q1 (by omega)
    rw [decide_eq_false (by omega)] at ecmp
    generalize hi0 : min (place L (c, []) + k) L.length - 1 = i0 at hi hcz es
    have hLi := hO _ (List.getElem_mem hi)
    obtain ⟨z, y, eLz⟩ : ∃ z y, L[i0] = (z, y) := ⟨_, _, rfl⟩
    rw [eLz] at hcz es
    have hm := place_mono (L := L) (c := c) (e := z + 1) (by simp only at hcz; omega)
    have h3 := (srt_split (z + 1, []) hS).2.2
    -- slice and names
    let xs := (L.drop (place L (c, []))).take (place L (z + 1, []) - place L (c, []))
    let ρ6 : PEnv := [some (.ref p.t), some (.int c), some (.int k), some (.int (place L (c, []) : Nat)), some (.int (i0 : Nat)), some (.int (place L (z + 1, []) : Nat)), none, some (.int z), some (.str y), none]
    have esl : evE T (call (n + 3)) (.sl (.att (.var 0) 4) (.var 3) (.var 5)) ρ6 h = .ok (.ref h.length) (h ++ [.lst (xs.map ofP)]) := by
      have := e_slL (T := T) (cl := call (n + 3)) (o := .att (.var 0) 4) (lo := .var 3) (hi := .var 5) (ρ := ρ6) (h := h) (q := p.o) (xs := L.map ofP) (i := (place L (c, []) : Nat)) (j := (place L (z + 1, []) : Nat)) (fun _ _ => rfl) (fun _ _ => rfl) (eo Fr.refl rfl) (e_var rfl) (e_var rfl) ho
      rw [cut_nat hm, ← List.map_drop, ← List.map_take] at this
      exact this
    have elc := lc_ref (T := T) (cl := call (n + 3)) (e := .var 9) (src := .sl (.att (.var 0) 4) (.var 3) (.var 5)) (own := [8, 9]) (t := .tp [8, 9]) (ifs := []) (ρ := ρ6) (h := h) (h1 := h ++ [.lst (xs.map ofP)]) (xs := xs.map ofP) (l := h.length) (fun _ => true) sndV esl (by simp) (by
      have : xs.length ≤ L.length := by
        show ((L.drop _).take _).length ≤ _
        rw [List.length_take, List.length_drop]
        omega
      rw [List.length_map]
      omega) (fun x hx h' _ _ => by
        obtain ⟨⟨a, b⟩, hab, rfl⟩ := List.mem_map.mp hx
        exact lcB_all (ρ1 := [some (.ref p.t), some (.int c), some (.int k), some (.int (place L (c, []) : Nat)), some (.int (i0 : Nat)), some (.int (place L (z + 1, []) : Nat)), none, some (.int z), some (.int a), some (.str b)]) rfl (e_var rfl))
    rw [List.filter_eq_self.mpr (fun _ _ => rfl), snd_map] at elc
    generalize hh2 : h ++ [PO.lst (xs.map ofP)] ++ [PO.lst ((xs.map (·.2)).map PV.str)] = h2 at elc
    have f2 : Fr [] h h2 := by rw [← hh2]; exact Fr.app.trans Fr.app
    have g2 : h2[(h ++ [PO.lst (xs.map ofP)]).length]? = some (.lst ((xs.map (·.2)).map PV.str)) := by rw [← hh2]; simp
    have etup : evE T (call (n + 3)) (.bi .tuple [.lc (.var 9) [8, 9] (.tp [8, 9]) .seq [.sl (.att (.var 0) 4) (.var 3) (.var 5)] []]) ρ6 h = .ok (.tup ((xs.map (·.2)).map .str)) h2 := e_bi (e_one elc) (by simp only [pBi, lstAt, g2])
    have ho2 := f2.get0 ho
    have el2 : ∀ {ρ : PEnv}, ρ[0]? = some (some (.ref p.t)) → evE T (call (n + 3)) (.bi .len [.att (.var 0) 4]) ρ h2 = .ok (.int L.length) h2 := fun e => by
      have := ev_len (eo f2 e) ho2
      rwa [List.length_map] at this
    refine ⟨h2, rd_rt rfl (pre _ ?_), f2⟩
    refine st_no (h1 := h) ecmp ?_
    refine st_nx (ρ1 := [some (.ref p.t), some (.int c), some (.int k), some (.int (place L (c, []) : Nat)), some (.int (i0 : Nat)), none, none, none, none, none]) (h1 := h) (s_asg (v := .int (i0 : Nat)) ?_) ?_
    · have emin : evE T (call (n + 3)) (.bi .min [.bin .add (.var 3) (.var 2), .bi .len [.att (.var 0) 4]]) [some (.ref p.t), some (.int c), some (.int k), some (.int (place L (c, []) : Nat)), none, none, none, none, none, none] h = .ok (.int (min (place L (c, []) + k) L.length : Nat)) h := by
        refine e_bi (h1 := h) (vs := [.int ((place L (c, []) : Nat) + (k : Int)), .int L.length]) (e_two (h1 := h) (e_addi (e_var rfl) (e_var rfl)) (el rfl)) ?_
        simp only [pBi]
        congr 2
        split <;> omega
      have := e_subi emin (e_con (T := T) (cl := call (n + 3)) (v := .int 1))
      rw [this, ← hi0]
      congr 2
      omega
    refine st_nx (ρ1 := [some (.ref p.t), some (.int c), some (.int k), some (.int (place L (c, []) : Nat)), some (.int (i0 : Nat)), none, none, some (.int z), some (.str y), none]) (h1 := h) (s_asgt (v := ofP (z, y)) ?_ rfl) ?_
    · refine e_ix (v := .ref p.o) (w := .int (i0 : Nat)) (h1 := h) (h2 := h) (eo Fr.refl rfl) (e_var rfl) ?_
      simp only [pIx, ho]
      rw [atI_lt (by simpa using hi)]
      simp [eLz]
    refine st_nx (ρ1 := ρ6) (h1 := h) (s_asg (v := .int (place L (z + 1, []) : Nat)) (e_call (f := 36) (vs := [.ref p.o, ofP (z + 1, [])]) (h1 := h) rfl (e_two (h1 := h) (eo Fr.refl rfl) (e_tup (vs := [.int (z + 1), .str []]) (e_two (h1 := h) (e_addi (e_var rfl) e_con) e_con) (by simp))) (p_first ho hS hO isN_nil hz))) ?_
    refine st_nx (ρ1 := [some (.ref p.t), some (.int c), some (.int k), some (.int (place L (c, []) : Nat)), some (.int (i0 : Nat)), some (.int (place L (z + 1, []) : Nat)), some (.tup ((xs.map (·.2)).map .str)), some (.int z), some (.str y), none]) (h1 := h2) (s_asg etup) ?_
    refine st_rt (s_ret ?_)
    rw [es]
    have ec2 : evE T (call (n + 3)) (.cmp .lt (.var 5) (.bi .len [.att (.var 0) 4])) [some (.ref p.t), some (.int c), some (.int k), some (.int (place L (c, []) : Nat)), some (.int (i0 : Nat)), some (.int (place L (z + 1, []) : Nat)), some (.tup ((xs.map (·.2)).map .str)), some (.int z), some (.str y), none] h2 = .ok (.bl (decide (((place L (z + 1, []) : Nat) : Int) < L.length))) h2 := e_cmp (e_var rfl) (el2 rfl) rfl
    have eife : evE T (call (n + 3)) (.ife (.cmp .lt (.var 5) (.bi .len [.att (.var 0) 4])) (.bin .add (.var 7) (.con (.int 1))) (.con (.int 0))) [some (.ref p.t), some (.int c), some (.int k), some (.int (place L (c, []) : Nat)), some (.int (i0 : Nat)), some (.int (place L (z + 1, []) : Nat)), some (.tup ((xs.map (·.2)).map .str)), some (.int z), some (.str y), none] h2 = .ok (.int (if place L (z + 1, []) < L.length then z + 1 else 0)) h2 := by
      refine e_ife ec2 (fun q => ?_) (fun q => ?_)
      · rw [if_pos (by have := of_decide_eq_true q; omega)]
        exact e_addi (e_var rfl) e_con
      · rw [if_neg (by have := of_decide_eq_false q; omega)]
        exact e_con
    exact e_tup (e_two eife (e_var rfl)) (by simp)
theorem p_names (w : TOk h s p ns) : ∃ h', call (n + 1) 18 [.ref p.t] h = .ok (.tup (((srtP (ns.map (pr s))).map (·.2)).map .str)) h' ∧ Fr [] h h' := by
  obtain ⟨B, C, mv, w, t⟩ := w
  rw [call_run (d := d_Table_all_names) rfl rfl]
  have hz : (srtP (ns.map (pr s))).length ≤ 60 := by rw [ord_len]; have := t.len; omega
  have ho := w.ho
  have eo : evE T (call n) (.att (.var 0) 4) [some (.ref p.t), none, none] h = .ok (.ref p.o) h := w.fld rfl rfl
  generalize srtP (ns.map (pr s)) = L at hz ho
  have elc := lc_ref (T := T) (cl := call n) (e := .var 2) (src := .att (.var 0) 4) (own := [1, 2]) (t := .tp [1, 2]) (ifs := []) (ρ := [some (.ref p.t), none, none]) (h := h) (h1 := h) (xs := L.map ofP) (l := p.o) (fun _ => true) sndV eo ho (by rw [List.length_map]; omega) (fun x hx h' _ _ => by
    obtain ⟨⟨a, b⟩, hab, rfl⟩ := List.mem_map.mp hx
    exact lcB_all (ρ1 := [some (.ref p.t), some (.int a), some (.str b)]) rfl (e_var rfl))
  rw [List.filter_eq_self.mpr (fun _ _ => rfl), snd_map] at elc
  refine ⟨h ++ [PO.lst ((L.map (·.2)).map PV.str)], rd_rt rfl (st_rt (s_ret ?_)), Fr.app⟩
  exact e_bi (e_one elc) (by simp only [pBi, lst_last])
theorem e_in {ρ : PEnv} {i j : Nat} {x : Tx} (w : TOk h s p ns) (hi : ρ[i]? = some (some (.str x))) (hj : ρ[j]? = some (some (.ref p.t))) : evE T (call (n + 1)) (.oin false 20 (.var i) (.var j)) ρ h = .ok (.bl (decide (x ∈ ns))) h := by
  obtain ⟨B, C, mv, w, t⟩ := w
  have hx : call (n + 1) 23 [.ref p.t, .str x] h = .ok (.bl (decide (x ∈ ns))) h := by
    rw [call_run (d := d_Table_DcontainsD) rfl rfl]
    obtain ⟨kvs, e, d⟩ := w.hv
    refine rd_rt rfl (st_rt (s_ret (e_andT (h1 := h) rfl (e_cmp (h1 := h) (h2 := h) (v := .str x) (w := .ref p.v) (e_var rfl) (w.fld rfl rfl) ?_))))
    simp only [pCmp, in_dict e d, Mn.ob]
  simp only [evE, hi, hj, Res.bind_ok, oinP, w.ht]
  show (call (n + 1) 23 [.ref p.t, .str x] h).bind _ = _
  rw [hx]
  simp
theorem st_att {ρ : PEnv} {cl : Nat → List PV → PH → Res PV} {e : Ex} {f c : Nat} {v : PV} {fs : List (Nat × PV)} {X Y : List PO} (h0 : ρ[0]? = some (some (.ref h.length))) (he : evE T cl e ρ (h ++ X) = .ok v (h ++ (.ins c fs :: Y))) (ha : attK T c f = some none) (hs : fs.length < 1000) : exS T cl 100 (.asg (.att (.var 0) f) e) ρ (h ++ X) = .ok (.nx ρ) (h ++ (.ins c (putN f v fs) :: Y)) := by
  have := s_att (T := T) (W := 100) (cl := cl) (ρ := ρ) (o := .var 0) (e := e) (f := f) (l := h.length) (c := c) (v := v) (fs := fs) (h := h ++ X) (h1 := h ++ (.ins c fs :: Y)) (h2 := h ++ (.ins c fs :: Y)) he (e_var h0) (by simp) ha hs
  rw [this]
  simp
def p0 (h : PH) : Ps := ⟨h.length, h.length + 1, h.length + 2, h.length + 3, h.length + 4, h.length + 9, [h.length + 5, h.length + 6, h.length + 7, h.length + 8], []⟩
def made (s : Nat) (h : PH) : List PO := [.ins 1 (fsT s (p0 h) 0), .dic [], .dic [], .lst [], .lst [.ref (h.length + 5), .ref (h.length + 6), .ref (h.length + 7), .ref (h.length + 8)], .lst [], .lst [], .lst [], .lst [], .lst []]
def spV (s : Nat) : PV := if s = 1 then .fn 42 else if s = 2 then .fn 43 else .non
theorem p_init (hs2 : s < 3) : call (n + 2) 13 [.ref h.length, spV s] (h ++ [PO.ins 1 []]) = .ok .non (h ++ made s h) := by
  rw [call_run (d := d_Table_DinitD) rfl rfl]
  refine rd_nx (ρ := [some (.ref h.length), some (spV s)]) rfl ?_
  show exSs T (call (n + 1)) 100 b_Table_DinitD [some (.ref h.length), some (spV s)] (h ++ [PO.ins 1 []]) = _
  have e0 : evE T (call (n + 1)) (.bi .isinst [.var 1, .tup [.bty .int, .bty .str, .bty .list, .bty .tuple, .bty .dict, .glob 32]]) [some (.ref h.length), some (spV s)] (h ++ [PO.ins 1 []]) = .ok (.bl false) (h ++ [PO.ins 1 []]) := by
    match s, hs2 with
    | 0, _ => rfl
    | 1, _ => rfl
    | 2, _ => rfl
  have e1 : evE T (call (n + 1)) (.ife (.cmp .is_ (.var 1) (.con .non)) (.glob 8) (.var 1)) [some (.ref h.length), some (spV s)] (h ++ [PO.ins 1 []]) = .ok (.fn (spf s)) (h ++ [PO.ins 1 []]) := by
    match s, hs2 with
    | 0, _ => rfl
    | 1, _ => rfl
    | 2, _ => rfl
  have e5 : evE T (call (n + 1)) (.call 12 [.glob 38]) [some (.ref h.length), some (spV s)] (h ++ [PO.ins 1 [(1, .fn (spf s)), (2, .ref (h.length + 1)), (3, .ref (h.length + 2)), (4, .ref (h.length + 3))], .dic [], .dic [], .lst []]) = .ok (.ref (h.length + 4)) (h ++ [PO.ins 1 [(1, .fn (spf s)), (2, .ref (h.length + 1)), (3, .ref (h.length + 2)), (4, .ref (h.length + 3))], .dic [], .dic [], .lst [], .lst [.ref (h.length + 5), .ref (h.length + 6), .ref (h.length + 7), .ref (h.length + 8)], .lst [], .lst [], .lst [], .lst []]) := by
    have := p_empty (n := n) (h := h ++ [PO.ins 1 [(1, .fn (spf s)), (2, .ref (h.length + 1)), (3, .ref (h.length + 2)), (4, .ref (h.length + 3))], .dic [], .dic [], .lst []]) (k := 4) (by omega)
    refine e_call (f := 34) (vs := [.int 4]) rfl (e_one (e_glob rfl)) (this.trans ?_)
    unfold mts
    simp [List.range_succ, List.replicate]
  refine st_no e0 ?_
  refine st_nx (st_att (c := 1) (fs := []) (Y := []) rfl e1 rfl (by simp)) ?_
  refine st_nx (st_att (c := 1) (fs := [(1, .fn (spf s))]) (v := .ref (h.length + 1)) (Y := [.dic []]) rfl (by simp [evE, putN]) rfl (by simp)) ?_
  refine st_nx (st_att (c := 1) (fs := [(1, .fn (spf s)), (2, .ref (h.length + 1))]) (v := .ref (h.length + 2)) (Y := [.dic [], .dic []]) rfl (by simp [evE, putN]) rfl (by simp)) ?_
  refine st_nx (st_att (c := 1) (fs := [(1, .fn (spf s)), (2, .ref (h.length + 1)), (3, .ref (h.length + 2))]) (v := .ref (h.length + 3)) (Y := [.dic [], .dic [], .lst []]) rfl (by rw [e_lst e_nil (by simp)]; simp [putN]) rfl (by simp)) ?_
  refine st_nx (st_att rfl e5 rfl (by simp)) ?_
  refine st_nx (st_att (c := 1) (fs := [(1, .fn (spf s)), (2, .ref (h.length + 1)), (3, .ref (h.length + 2)), (4, .ref (h.length + 3)), (5, .ref (h.length + 4))]) (v := .ref (h.length + 9)) (Y := [.dic [], .dic [], .lst [], .lst [.ref (h.length + 5), .ref (h.length + 6), .ref (h.length + 7), .ref (h.length + 8)], .lst [], .lst [], .lst [], .lst [], .lst []]) rfl (by rw [e_lst e_nil (by simp)]; simp [putN]) rfl (by simp)) ?_
  refine st_nx (st_att (v := .int 0) rfl e_con rfl (by simp [putN])) ?_
  exact s_nil
theorem made_ok (s : Nat) (h : PH) : TOk (h ++ made s h) s (p0 h) [] := by
  have g : ∀ j o, (made s h)[j]? = some o → (h ++ made s h)[h.length + j]? = some o := fun j o e => by
    rw [List.getElem?_append_right (by omega), Nat.add_sub_cancel_left]
    exact e
  refine ⟨[[], [], [], []], [], 0, ⟨g 0 _ rfl, ⟨[], g 1 _ rfl, DN.nil⟩, g 2 _ rfl, g 3 _ rfl, g 4 _ rfl, g 9 _ rfl, rfl, rfl, fun j q e => ?_, fun j q e => by simp [p0] at e, ?_⟩, TI.init⟩
  · match j, e with
    | 0, e => cases e; exact g 5 _ rfl
    | 1, e => cases e; exact g 6 _ rfl
    | 2, e => cases e; exact g 7 _ rfl
    | 3, e => cases e; exact g 8 _ rfl
  · unfold Ps.all p0
    simp
theorem made_new {m : Nat} (hm : m ∈ (p0 h).all) : h.length ≤ m := by
  unfold Ps.all p0 at hm
  simp at hm
  omega
theorem g_made (hs2 : s < 3) : callG T (call (n + 2)) (.cls 1) [spV s] h = .ok (.ref h.length) (h ++ made s h) := new_ok (f := 13) rfl (p_init hs2)
theorem e_calld {T : Tb} {ρ : PEnv} {cl : Nat → List PV → PH → Res PV} {g j : Nat} {es : List Ex} {f : PV} {q : Nat × List PV} {vs : List PV} {r : Res PV} (hg : T.glob[g]? = some f) (hj : T.dfl[j]? = some q) (he : evEs T cl es ρ h = .ok vs h1) (k : callG T cl f (vs ++ q.2) h1 = r) : evE T cl (.calld g es j) ρ h = r := by
  simp only [evE, hg, hj, he, Res.bind_ok, k]
theorem g_made0 : callG T (call (n + 2)) (.cls 1) [.non] h = .ok (.ref h.length) (h ++ made 0 h) := g_made (s := 0) (by decide)
theorem g_made1 : callG T (call (n + 2)) (.cls 1) [.fn 42] h = .ok (.ref h.length) (h ++ made 1 h) := g_made (s := 1) (by decide)
theorem g_made2 : callG T (call (n + 2)) (.cls 1) [.fn 43] h = .ok (.ref h.length) (h ++ made 2 h) := g_made (s := 2) (by decide)
theorem e_made0 {ρ : PEnv} : evE T (call (n + 2)) (.calld 33 [] 1) ρ h = .ok (.ref h.length) (h ++ made 0 h) := e_calld (f := .cls 1) (q := (13, [.non])) (vs := []) (h1 := h) rfl rfl e_nil g_made0
theorem l_made (hs2 : s < 3) : call (n + 3) 45 [.int s] h = .ok (.ref h.length) (h ++ made s h) := by
  rw [call_run (d := d__law_made) rfl rfl]
  refine rd_rt rfl ?_
  show exSs T (call (n + 2)) 100 b__law_made [some (.int s)] h = _
  have e1 : ∀ {ρ : PEnv}, evE T (call (n + 2)) (.call 33 [.glob 20]) ρ h = .ok (.ref h.length) (h ++ made 1 h) := e_callG (f := .cls 1) (vs := [.fn 42]) (h1 := h) rfl (e_one (e_glob rfl)) g_made1
  have e2 : ∀ {ρ : PEnv}, evE T (call (n + 2)) (.call 33 [.glob 21]) ρ h = .ok (.ref h.length) (h ++ made 2 h) := e_callG (f := .cls 1) (vs := [.fn 43]) (h1 := h) rfl (e_one (e_glob rfl)) g_made2
  match s, hs2 with
  | 0, _ => exact st_no (h1 := h) (e_eqd (e_var rfl) e_con (by decide)) (st_rt (s_ret (e_ife (h1 := h) (t := false) (e_eqd (e_var rfl) e_con (by decide)) (fun z => by cases z) fun _ => e_made0)))
  | 1, _ => exact st_yes (h1 := h) (e_eqd (e_var rfl) e_con (by decide)) e1
  | 2, _ => exact st_no (h1 := h) (e_eqd (e_var rfl) e_con (by decide)) (st_rt (s_ret (e_ife (h1 := h) (t := true) (e_eqd (e_var rfl) e_con (by decide)) (fun _ => e2) fun z => by cases z)))
end
end K06
set_option Elab.async false
set_option linter.all false
set_option maxRecDepth 100000
set_option maxHeartbeats 1000000
namespace K06
open PySem PySem.Spec PyProof.Rows L2 Mn
theorem al_wh {c : PEnv → PH → Res Bool} {body : PEnv → PH → Res Fl} {I : Nat → PEnv → PH → Prop} {P : Fl → PH → Prop}
    (step : ∀ n ρ h, I n ρ h → Al (fun b h1 => if b = true then Al (fun f h2 => match f with
      | .nx ρ1 => ∃ m, m < n ∧ I m ρ1 h2
      | .ct ρ1 => ∃ m, m < n ∧ I m ρ1 h2
      | .bk ρ1 => P (.nx ρ1) h2
      | .rt v => P (.rt v) h2) (body ρ h1) else P (.nx ρ) h1) (c ρ h)) : ∀ (n W : Nat) (ρ : PEnv) (h : PH), n < W → I n ρ h → Al P (whRun c body W ρ h) := fun n => by
  induction n using Nat.strongRecOn with
  | ind n ih =>
    intro W ρ h hW i
    obtain ⟨W, rfl⟩ : ∃ w, W = w + 1 := ⟨W - 1, by omega⟩
    unfold whRun
    refine Al.bind ((step n ρ h i).imp fun b h1 q => ?_)
    cases b with
    | false =>
      rw [if_neg (by simp)] at q
      exact Al.ok rfl q
    | true =>
      rw [if_pos rfl] at q
      simp only [if_true]
      refine Al.bind (q.imp fun f h2 z => ?_)
      cases f with
      | nx ρ1 => obtain ⟨m, hm, i2⟩ := z; exact ih m hm W ρ1 h2 (by omega) i2
      | ct ρ1 => obtain ⟨m, hm, i2⟩ := z; exact ih m hm W ρ1 h2 (by omega) i2
      | bk ρ1 => exact Al.ok rfl z
      | rt v => exact Al.ok rfl z
section
variable {n d b s : Nat} {ρ : PEnv} {h h1 h2 : PH} {p : Ps} {ns : List Tx}
theorem al_ex {T : Tb} {W : Nat} {cl : Nat → List PV → PH → Res PV} {P : Fl → PH → Prop} {e : Ex} (k : Al (fun _ h1 => P (.nx ρ) h1) (evE T cl e ρ h)) : Al P (exS T cl W (.ex e) ρ h) := by
  simp only [exS]
  exact Al.bind (k.imp fun v h1 q => .ret q)
theorem a_roll {k : Int} (dc : Dc d (b + 1) h) (h0 : 0 < k) (h1 : k < 1000000) : Al (fun v h' => (∃ r : Nat, (r : Int) < k ∧ v = .int r) ∧ Dc d b h' ∧ Fr [d] h h') (call (n + 1) 38 [.ref d, .int k] h) := by
  rw [show call (n + 1) 38 [.ref d, .int k] h = spRoll [.ref d, .int k] h from callS_sp (d := d__law_roll) rfl rfl rfl]
  exact (al_roll dc h0 (by omega)).imp fun v h' ⟨q1, q2, q3⟩ => ⟨q1, q2, gr_fr q3⟩
theorem a_one {l : Nat} {xs : List PV} (dc : Dc d (b + 1) h) (hl : h[l]? = some (.lst xs)) (hx : xs ≠ []) (hz : xs.length ≤ 1000) (hne : l ≠ d) : Al (fun v h' => v ∈ xs ∧ Dc d b h' ∧ Fr [d] h h') (call (n + 2) 39 [.ref d, .ref l] h) := by
  rw [call_run (d := d__law_one_of) rfl rfl]
  refine al_run rfl ?_
  show Al _ (exSs T (call (n + 1)) 100 [.ret (.ix (.var 1) (.call 16 [.var 0, .bi .len [.var 1]]))] [some (.ref d), some (.ref l)] h)
  repeat (first | (with_reducible show Al _ (evEs _ _ (_ :: _) _ _)); refine al_cons (fun _ e => nomatch e) ?_ | (with_reducible show Al _ (evEs _ _ [] _ _)); refine al_nil ?_ | (with_reducible show Al _ (evE _ _ (.var _) _ _)); refine al_var rfl ?_ | (with_reducible show Al _ (evE _ _ (.con _) _ _)); refine al_con ?_ | (with_reducible show Al _ (evE _ _ (.call _ _) _ _)); refine al_call rfl ?_ | (with_reducible show Al _ (evE _ _ (.bin _ _ _) _ _)); refine al_bin ?_ | (with_reducible show Al _ (evE _ _ (.cmp _ _ _) _ _)); refine al_cmp ?_ | (with_reducible show Al _ (evE _ _ (.bi _ _) _ _)); refine al_bi ?_ | (with_reducible show Al _ (evE _ _ (.tup _) _ _)); refine al_tup ?_ | (with_reducible show Al _ (evE _ _ (.lst _) _ _)); refine al_lst ?_ | (with_reducible show Al _ (exS _ _ _ (.ret _) _ _)); refine al_ret ?_ | (with_reducible show Al _ (exS _ _ _ (.asg (.nm _) _) _ _)); refine al_asg ?_ | (with_reducible show Al _ (exS _ _ _ (.asg (.tp _) _) _ _)); refine al_asgt ?_ | (with_reducible show Al _ (exSs _ _ _ (.asg _ _ :: _) _ _)); refine al_ss ?_ | (with_reducible show Al _ (exSs _ _ _ (.ret _ :: _) _ _)); refine al_ss ?_)
  refine al_ix ?_
  repeat (first | (with_reducible show Al _ (evEs _ _ (_ :: _) _ _)); refine al_cons (fun _ e => nomatch e) ?_ | (with_reducible show Al _ (evEs _ _ [] _ _)); refine al_nil ?_ | (with_reducible show Al _ (evE _ _ (.var _) _ _)); refine al_var rfl ?_ | (with_reducible show Al _ (evE _ _ (.con _) _ _)); refine al_con ?_ | (with_reducible show Al _ (evE _ _ (.call _ _) _ _)); refine al_call rfl ?_ | (with_reducible show Al _ (evE _ _ (.bin _ _ _) _ _)); refine al_bin ?_ | (with_reducible show Al _ (evE _ _ (.cmp _ _ _) _ _)); refine al_cmp ?_ | (with_reducible show Al _ (evE _ _ (.bi _ _) _ _)); refine al_bi ?_ | (with_reducible show Al _ (evE _ _ (.tup _) _ _)); refine al_tup ?_ | (with_reducible show Al _ (evE _ _ (.lst _) _ _)); refine al_lst ?_ | (with_reducible show Al _ (exS _ _ _ (.ret _) _ _)); refine al_ret ?_ | (with_reducible show Al _ (exS _ _ _ (.asg (.nm _) _) _ _)); refine al_asg ?_ | (with_reducible show Al _ (exS _ _ _ (.asg (.tp _) _) _ _)); refine al_asgt ?_ | (with_reducible show Al _ (exSs _ _ _ (.asg _ _ :: _) _ _)); refine al_ss ?_ | (with_reducible show Al _ (exSs _ _ _ (.ret _ :: _) _ _)); refine al_ss ?_)
  refine Al.ok (show pBi T .len [.ref l] h = .ok (.int xs.length) h by simp only [pBi, hl]) ?_
  repeat (first | (with_reducible show Al _ (evEs _ _ (_ :: _) _ _)); refine al_cons (fun _ e => nomatch e) ?_ | (with_reducible show Al _ (evEs _ _ [] _ _)); refine al_nil ?_ | (with_reducible show Al _ (evE _ _ (.var _) _ _)); refine al_var rfl ?_ | (with_reducible show Al _ (evE _ _ (.con _) _ _)); refine al_con ?_ | (with_reducible show Al _ (evE _ _ (.call _ _) _ _)); refine al_call rfl ?_ | (with_reducible show Al _ (evE _ _ (.bin _ _ _) _ _)); refine al_bin ?_ | (with_reducible show Al _ (evE _ _ (.cmp _ _ _) _ _)); refine al_cmp ?_ | (with_reducible show Al _ (evE _ _ (.bi _ _) _ _)); refine al_bi ?_ | (with_reducible show Al _ (evE _ _ (.tup _) _ _)); refine al_tup ?_ | (with_reducible show Al _ (evE _ _ (.lst _) _ _)); refine al_lst ?_ | (with_reducible show Al _ (exS _ _ _ (.ret _) _ _)); refine al_ret ?_ | (with_reducible show Al _ (exS _ _ _ (.asg (.nm _) _) _ _)); refine al_asg ?_ | (with_reducible show Al _ (exS _ _ _ (.asg (.tp _) _) _ _)); refine al_asgt ?_ | (with_reducible show Al _ (exSs _ _ _ (.asg _ _ :: _) _ _)); refine al_ss ?_ | (with_reducible show Al _ (exSs _ _ _ (.ret _ :: _) _ _)); refine al_ss ?_)
  have hp : 0 < xs.length := List.length_pos_iff.mpr hx
  refine (a_roll (n := n) dc (by omega) (by omega)).imp fun v h' ⟨⟨r, hr, e⟩, q2, q3⟩ => ?_
  subst e
  have hr' : r < xs.length := by omega
  refine Al.ok (show pIx (.ref l) (.int r) h' = .ok xs[r] h' by
    simp only [pIx, q3.get hl (by simp [hne]), atI_lt hr']) ⟨List.getElem_mem hr', q2, q3⟩
theorem pus_of : ∀ {l : List Pr}, (∀ q ∈ l, IsN q.2) → pus (l.map ofP) = true
  | [], _ => rfl
  | q :: l, k => by
    have := pus_of (l := l) fun y hy => k y (List.mem_cons_of_mem _ hy)
    simp only [List.map_cons, pus, pu_ofP (k q (List.mem_cons_self ..)), this]
    rfl
theorem dpts_of : ∀ l : List Pr, dpts (l.map ofP) ≤ 3
  | [] => by decide
  | q :: l => by
    have := dpts_of l
    simp only [List.map_cons, dpts, ofP, dpt]
    omega
theorem pus_str : ∀ {l : List Tx}, (∀ x ∈ l, IsN x) → pus (l.map .str) = true ∧ pds (l.map .str) = l.map (fun y => .str ⟨y.toArray⟩)
  | [], _ => ⟨rfl, rfl⟩
  | a :: l, k => by
    obtain ⟨i1, i2⟩ := pus_str (l := l) fun y hy => k y (List.mem_cons_of_mem _ hy)
    have := (k a (List.mem_cons_self ..)).str
    exact ⟨by simp [pus, pu, this, i1], by simp [pds, pd, i2]⟩
theorem dpts_str : ∀ l : List Tx, dpts (l.map .str) ≤ 1
  | [] => by decide
  | q :: l => by
    have := dpts_str l
    simp only [List.map_cons, dpts, dpt]
    omega
theorem str_inj {xs ys : List Tx} : xs.map PV.str = ys.map PV.str ↔ xs = ys := by
  constructor
  · intro e
    induction xs generalizing ys with
    | nil => cases ys with
      | nil => rfl
      | cons b ys => simp at e
    | cons a xs ih => cases ys with
      | nil => simp at e
      | cons b ys =>
        simp only [List.map_cons, List.cons.injEq, PV.str.injEq] at e
        rw [e.1, ih e.2]
  · intro e; rw [e]
theorem e_eqL {T : Tb} {cl : Nat → List PV → PH → Res PV} {a c : Ex} {q r : Nat} {xs ys : List PV} (ha : evE T cl a ρ h = .ok (.ref q) h1) (hc : evE T cl c ρ h1 = .ok (.ref r) h2) (eq : h2[q]? = some (.lst xs)) (er : h2[r]? = some (.lst ys)) (hv : pus xs = true) (hw : pus ys = true) (dv : dpts xs ≤ 60) (dw : dpts ys ≤ 60) {t : Bool} (k : t = true ↔ xs = ys) : evE T cl (.cmp .eq a c) ρ h = .ok (.bl t) h2 := by
  refine e_cmp ha hc ?_
  simp only [pCmp, pEqL_is (pEq_ll eq er hv hw dv dw) k, Mn.ob]
theorem e_neL {T : Tb} {cl : Nat → List PV → PH → Res PV} {a c : Ex} {q r : Nat} {xs ys : List PV} (ha : evE T cl a ρ h = .ok (.ref q) h1) (hc : evE T cl c ρ h1 = .ok (.ref r) h2) (eq : h2[q]? = some (.lst xs)) (er : h2[r]? = some (.lst ys)) (hv : pus xs = true) (hw : pus ys = true) (dv : dpts xs ≤ 60) (dw : dpts ys ≤ 60) {t : Bool} (k : t = true ↔ xs = ys) : evE T cl (.cmp .ne a c) ρ h = .ok (.bl (!t)) h2 := by
  refine e_cmp ha hc ?_
  simp only [pCmp, pEqL_is (pEq_ll eq er hv hw dv dw) k, Option.map_some, Mn.ob]
theorem e_nilL {T : Tb} {cl : Nat → List PV → PH → Res PV} : evE T cl (.lst []) ρ h = .ok (.ref h.length) (h ++ [.lst []]) := e_lst e_nil (by simp)
theorem pin_lst {q : Nat} {x : Tx} {xs : List Tx} (hq : h[q]? = some (.lst (xs.map .str))) (hx : IsN x) (hxs : ∀ y ∈ xs, IsN y) : pIn h (.str x) (.ref q) = some (decide (x ∈ xs)) := by
  obtain ⟨p1, p2⟩ := pus_str hxs
  have dl := datum_lst hq p1 (by have := dpts_str xs; omega)
  have dx : datum h (.str x) = some (.str ⟨x.toArray⟩) := datum_str hx.str
  simp only [pIn, hq, dx, dl, p2]
  congr 1
  rw [List.any_map]
  by_cases hm : x ∈ xs
  · rw [decide_eq_true hm]
    exact List.any_eq_true.mpr ⟨x, hm, by simp [PyData.eqv]⟩
  · rw [decide_eq_false hm]
    refine List.any_eq_false.mpr fun y hy => ?_
    have : y ≠ x := fun z => hm (z ▸ hy)
    simp [PyData.eqv, this]
theorem e_inL {cl : Nat → List PV → PH → Res PV} {a c : Ex} {q : Nat} {x : Tx} {xs : List Tx} (ha : evE T cl a ρ h = .ok (.str x) h1) (hc : evE T cl c ρ h1 = .ok (.ref q) h2) (hq : h2[q]? = some (.lst (xs.map .str))) (hx : IsN x) (hxs : ∀ y ∈ xs, IsN y) : evE T cl (.cmp .in_ a c) ρ h = .ok (.bl (decide (x ∈ xs))) h2 := by
  refine e_cmp ha hc ?_
  simp only [pCmp, pin_lst hq hx hxs, Mn.ob]
theorem e_ninL {cl : Nat → List PV → PH → Res PV} {a c : Ex} {q : Nat} {x : Tx} {xs : List Tx} (ha : evE T cl a ρ h = .ok (.str x) h1) (hc : evE T cl c ρ h1 = .ok (.ref q) h2) (hq : h2[q]? = some (.lst (xs.map .str))) (hx : IsN x) (hxs : ∀ y ∈ xs, IsN y) : evE T cl (.cmp .nin a c) ρ h = .ok (.bl (!decide (x ∈ xs))) h2 := by
  refine e_cmp ha hc ?_
  simp only [pCmp, pin_lst hq hx hxs, Option.map_some, Mn.ob]
theorem atI_neg1 {xs : List PV} (hx : 0 < xs.length) : atI xs (-1) = some xs[xs.length - 1] := by
  have e : ixN xs.length (-1) = some (xs.length - 1) := by
    obtain ⟨m, hm⟩ : ∃ m, xs.length = m + 1 := ⟨xs.length - 1, by omega⟩
    rw [hm, ixN_last]
    simp
  unfold atI
  rw [e]
  simp
theorem e_slLU {T : Tb} {cl : Nat → List PV → PH → Res PV} {o hi : Ex} {q : Nat} {xs : List PV} {j : Int} (pu : isPart hi) (ho : evE T cl o ρ h = .ok (.ref q) h1) (hu : evE T cl hi ρ h1 = .ok (.int j) h2) (hq : h2[q]? = some (.lst xs)) : evE T cl (.sl o .nop hi) ρ h = .ok (.ref h2.length) (h2 ++ [.lst (cut xs none (some j))]) := by
  simp only [evE, ho, Res.bind_ok, partR_nop, pu _ _, hu, pSl, lstAt, hq]
def dueF (th : List Tx) (c : Int) : PV → Bool
  | .tup [.int a, .str y] => decide (y ∈ th) && decide (c ≤ a)
  | _ => false
def leF (z : Int) : PV → Bool
  | .tup [.int a, .str _] => decide (a ≤ z)
  | _ => false
theorem filter_of (f : PV → Bool) (g : Pr → Bool) (k : ∀ q, f (ofP q) = g q) : ∀ l : List Pr, (l.map ofP).filter f = (l.filter g).map ofP
  | [] => rfl
  | q :: l => by
    rw [List.map_cons, List.filter_cons, List.filter_cons, k q, filter_of f g k l]
    split <;> rfl
theorem l_due {lr lt : Nat} {th : List Tx} {c : Int} {k : Nat} (hr : h[lr]? = some (.lst ((rows s).map ofP))) (ht : h[lt]? = some (.lst (th.map .str))) (hth : ∀ x ∈ th, IsN x) (hk : 1 ≤ k) (hk2 : k ≤ 1000) :
    ∃ h', call (n + 1) 48 [.ref lr, .ref lt, .int c, .int k] h = .ok (scanV (scanP ((rows s).filter fun q => decide (q.2 ∈ th)) c k)) h' ∧ Fr [] h h' := by
  rw [call_run (d := d__law_due) rfl rfl]
  have hN : ∀ q ∈ rows s, IsN q.2 := fun q hq => by obtain ⟨x, hx, rfl⟩ := rows_mem.mp hq; exact hx
  have hlen : (rows s).length = 20 := by unfold rows; rw [(srtP_perm _).length_eq]; rfl
  have hS : fromC ((rows s).filter fun q => decide (q.2 ∈ th)) c = (rows s).filter fun q => decide (q.2 ∈ th) && decide (c ≤ q.1) := by
    unfold fromC
    rw [List.filter_filter]
    refine List.filter_congr fun q _ => ?_
    exact Bool.and_comm _ _
  -- some
  have e1 := lc_ref (T := T) (cl := call n) (e := .var 7) (src := .var 0) (own := [7]) (t := .nm 7) (ifs := [.and (.cmp .in_ (.ix (.var 7) (.con (.int 1))) (.var 1)) (.cmp .ge (.ix (.var 7) (.con (.int 0))) (.var 2))]) (ρ := [some (.ref lr), some (.ref lt), some (.int c), some (.int k), none, none, none, none, none, none]) (h := h) (h1 := h) (xs := (rows s).map ofP) (l := lr) (dueF th c) id (e_var rfl) hr (by rw [List.length_map]; omega) (fun x hx h' _ hh => by
    obtain ⟨⟨a, y⟩, hq, rfl⟩ := List.mem_map.mp hx
    have ht' : h'[lt]? = some (.lst (th.map .str)) := by rw [hh lt (get_lt ht)]; exact ht
    refine lcB_if (b := dueF th c (ofP (a, y))) (ρ1 := [some (.ref lr), some (.ref lt), some (.int c), some (.int k), none, none, none, some (ofP (a, y)), none, none]) rfl ?_ (fun _ => e_var rfl)
    refine e_and (t := decide (y ∈ th)) (u := decide (c ≤ a)) (h1 := h') (e_inL (h1 := h') (h2 := h') rfl (e_var rfl) ht' (hN _ hq) hth) (fun _ => e_cmp (h1 := h') (h2 := h') (v := .int a) (w := .int c) rfl (e_var rfl) rfl))
  rw [List.map_id, filter_of (dueF th c) (fun q => decide (q.2 ∈ th) && decide (c ≤ q.1)) (fun _ => rfl), ← hS] at e1
  have hNs : ∀ q ∈ fromC ((rows s).filter fun q => decide (q.2 ∈ th)) c, IsN q.2 := fun q hq => hN q (List.mem_filter.mp (List.mem_filter.mp hq).1).1
  have hSl : (fromC ((rows s).filter fun q => decide (q.2 ∈ th)) c).length ≤ 20 := by
    rw [← hlen]
    exact Nat.le_trans (List.length_filter_le _ _) (List.length_filter_le _ _)
  unfold scanP
  generalize fromC ((rows s).filter fun q => decide (q.2 ∈ th)) c = S at e1 hNs hSl
  generalize hh1 : h ++ [PO.lst (S.map ofP)] = h1 at e1
  have f1 : Fr [] h h1 := by rw [← hh1]; exact Fr.app
  have g1 : h1[h.length]? = some (.lst (S.map ofP)) := by rw [← hh1]; simp
  -- some == []
  have e2 : evE T (call n) (.cmp .eq (.var 4) (.lst [])) [some (.ref lr), some (.ref lt), some (.int c), some (.int k), some (.ref h.length), none, none, none, none, none] h1 = .ok (.bl (decide (S = []))) (h1 ++ [.lst []]) :=
    e_eqL (h1 := h1) (h2 := h1 ++ [.lst []]) (q := h.length) (r := h1.length) (xs := S.map ofP) (ys := []) (e_var rfl) e_nilL (app_at g1) (by simp) (pus_of hNs) rfl (by have := dpts_of S; omega) (by decide) (by simp)
  have start : ∀ z, exSs T (call n) 100 (b__law_due.drop 1) [some (.ref lr), some (.ref lt), some (.int c), some (.int k), some (.ref h.length), none, none, none, none, none] h1 = z → exSs T (call n) 100 b__law_due [some (.ref lr), some (.ref lt), some (.int c), some (.int k), none, none, none, none, none, none] h = z := fun z k => st_nx (s_asg e1) k
  by_cases hn : S = []
  · rw [decide_eq_true hn] at e2
    rw [if_pos hn]
    exact ⟨h1 ++ [.lst []], rd_rt rfl (start _ (st_yes e2 rfl)), f1.trans Fr.app⟩
  · rw [decide_eq_false hn] at e2
    rw [if_neg hn]
    have hp : 0 < S.length := List.length_pos_iff.mpr hn
    generalize hh2 : h1 ++ [PO.lst []] = h2 at e2
    have f2 : Fr [] h1 h2 := by rw [← hh2]; exact Fr.app
    have g2 := f2.get0 g1
    -- the last one
    have e3 : evE T (call n) (.sl (.var 4) .nop (.var 3)) [some (.ref lr), some (.ref lt), some (.int c), some (.int k), some (.ref h.length), none, none, none, none, none] h2 = .ok (.ref h2.length) (h2 ++ [.lst ((S.take k).map ofP)]) := by
      have := e_slLU (T := T) (cl := call n) (o := .var 4) (hi := .var 3) (ρ := [some (.ref lr), some (.ref lt), some (.int c), some (.int k), some (.ref h.length), none, none, none, none, none]) (h := h2) (h1 := h2) (h2 := h2) (q := h.length) (xs := S.map ofP) (j := (k : Int)) (fun _ _ => rfl) (e_var rfl) (e_var rfl) g2
      rw [cut_to, ← List.map_take] at this
      exact this
    generalize hh3 : h2 ++ [PO.lst ((S.take k).map ofP)] = h3 at e3
    have f3 : Fr [] h2 h3 := by rw [← hh3]; exact Fr.app
    have g3 : h3[h2.length]? = some (.lst ((S.take k).map ofP)) := by rw [← hh3]; simp
    have hi : min k S.length - 1 < S.length := by omega
    have ez : lastZ S k = S[min k S.length - 1].1 := by
      unfold lastZ
      rw [List.getD_eq_getElem?_getD, List.getElem?_eq_getElem hi]
      rfl
    have e4 : evE T (call n) (.ix (.ix (.sl (.var 4) .nop (.var 3)) (.neg (.con (.int 1)))) (.con (.int 0))) [some (.ref lr), some (.ref lt), some (.int c), some (.int k), some (.ref h.length), none, none, none, none, none] h2 = .ok (.int (lastZ S k)) h3 := by
      refine e_ix (v := ofP S[min k S.length - 1]) (w := .int 0) (h1 := h3) (h2 := h3) (e_ix (v := .ref h2.length) (w := .int (-1)) (h1 := h3) (h2 := h3) e3 (e_neg e_con) ?_) e_con ?_
      · simp only [pIx, g3]
        rw [atI_neg1 (by rw [List.length_map, List.length_take]; omega)]
        simp
      · rw [ez]
        rfl
    have g13 := f3.get0 g2
    -- told
    have e5 := lc_ref (T := T) (cl := call n) (e := .var 9) (src := .var 4) (own := [8, 9]) (t := .tp [8, 9]) (ifs := [.cmp .le (.var 8) (.var 5)]) (ρ := [some (.ref lr), some (.ref lt), some (.int c), some (.int k), some (.ref h.length), some (.int (lastZ S k)), none, none, none, none]) (h := h3) (h1 := h3) (xs := S.map ofP) (l := h.length) (leF (lastZ S k)) sndV (e_var rfl) g13 (by rw [List.length_map]; omega) (fun x hx h' _ hh => by
      obtain ⟨⟨a, y⟩, hq, rfl⟩ := List.mem_map.mp hx
      refine lcB_if (b := leF (lastZ S k) (ofP (a, y))) (ρ1 := [some (.ref lr), some (.ref lt), some (.int c), some (.int k), some (.ref h.length), some (.int (lastZ S k)), none, none, some (.int a), some (.str y)]) rfl (e_cmp (h1 := h') (h2 := h') (v := .int a) (w := .int (lastZ S k)) (e_var rfl) (e_var rfl) rfl) (fun _ => e_var rfl))
    have ft : (S.map ofP).filter (leF (lastZ S k)) = (toldL S k).map ofP := filter_of (leF (lastZ S k)) (fun q => decide (q.1 ≤ lastZ S k)) (fun _ => rfl) S
    rw [ft, snd_map] at e5
    generalize hh4 : h3 ++ [PO.lst (((toldL S k).map (·.2)).map PV.str)] = h4 at e5
    have f4 : Fr [] h3 h4 := by rw [← hh4]; exact Fr.app
    have g4 : h4[h3.length]? = some (.lst (((toldL S k).map (·.2)).map PV.str)) := by rw [← hh4]; simp
    have e6 : evE T (call n) (.bi .tuple [.lc (.var 9) [8, 9] (.tp [8, 9]) .seq [.var 4] [.cmp .le (.var 8) (.var 5)]]) [some (.ref lr), some (.ref lt), some (.int c), some (.int k), some (.ref h.length), some (.int (lastZ S k)), none, none, none, none] h3 = .ok (.tup (((toldL S k).map (·.2)).map .str)) h4 := e_bi (e_one e5) (by simp only [pBi, lstAt, g4])
    have g14 := f4.get0 g13
    have e7 : evE T (call n) (.cmp .lt (.bi .len [.var 6]) (.bi .len [.var 4])) [some (.ref lr), some (.ref lt), some (.int c), some (.int k), some (.ref h.length), some (.int (lastZ S k)), some (.tup (((toldL S k).map (·.2)).map .str)), none, none, none] h4 = .ok (.bl (decide (((toldL S k).length : Int) < S.length))) h4 := by
      have q1 : evE T (call n) (.bi .len [.var 6]) [some (.ref lr), some (.ref lt), some (.int c), some (.int k), some (.ref h.length), some (.int (lastZ S k)), some (.tup (((toldL S k).map (·.2)).map .str)), none, none, none] h4 = .ok (.int (toldL S k).length) h4 := e_bi (e_one (e_var rfl)) (by simp only [pBi, List.length_map])
      have q2 : evE T (call n) (.bi .len [.var 4]) [some (.ref lr), some (.ref lt), some (.int c), some (.int k), some (.ref h.length), some (.int (lastZ S k)), some (.tup (((toldL S k).map (·.2)).map .str)), none, none, none] h4 = .ok (.int S.length) h4 := by
        have := ev_len (cl := call n) (e_var (ρ := [some (.ref lr), some (.ref lt), some (.int c), some (.int k), some (.ref h.length), some (.int (lastZ S k)), some (.tup (((toldL S k).map (·.2)).map .str)), none, none, none]) (i := 4) (v := .ref h.length) rfl) g14
        rwa [List.length_map] at this
      exact e_cmp q1 q2 rfl
    have e8 : evE T (call n) (.ife (.cmp .lt (.bi .len [.var 6]) (.bi .len [.var 4])) (.bin .add (.var 5) (.con (.int 1))) (.con (.int 0))) [some (.ref lr), some (.ref lt), some (.int c), some (.int k), some (.ref h.length), some (.int (lastZ S k)), some (.tup (((toldL S k).map (·.2)).map .str)), none, none, none] h4 = .ok (.int (if (toldL S k).length < S.length then lastZ S k + 1 else 0)) h4 := by
      refine e_ife e7 (fun q => ?_) (fun q => ?_)
      · rw [if_pos (by have := of_decide_eq_true q; omega)]
        exact e_addi (e_var rfl) e_con
      · rw [if_neg (by have := of_decide_eq_false q; omega)]
        exact e_con
    refine ⟨h4, rd_rt rfl (start _ (st_no e2 ?_)), ((f1.trans f2).trans f3).trans f4⟩
    refine st_nx (s_asg e4) (st_nx (s_asg e6) (st_rt (s_ret ?_)))
    exact e_tup (e_two e8 (e_var rfl)) (by simp)
end
end K06
set_option Elab.async false
set_option linter.all false
set_option maxRecDepth 100000
set_option maxHeartbeats 1000000
namespace K06
open PySem PySem.Spec PyProof.Rows L2 Mn
section
variable {T : Tb} {W : Nat} {cl : Nat → List PV → PH → Res PV} {ρ : PEnv} {h h1 h2 : PH}
theorem al_evI {k : Ik} {its : List Ex} {Q : Wk × Nat → PH → Prop} (q : Al (fun vs h1 => ∃ p, wkOf k vs h1 = some p ∧ Q p h1) (evEs T cl its ρ h)) : Al Q (evI T cl k its ρ h) := by
  unfold evI
  refine Al.bind (q.imp fun vs h1 ⟨p, e, z⟩ => ?_)
  rw [e]
  exact Al.ok rfl z
theorem al_forA {t : Tg} {k : Ik} {its : List Ex} {b : List Sm} {P : Fl → PH → Prop} (q : Al (fun p h1 => Al P (forRun (forB T cl W t b) p.1 (p.2 + 1) 0 ρ h1)) (evI T cl k its ρ h)) : Al P (exS T cl W (.for_ t k its b) ρ h) := by
  rw [exS_for]
  exact Al.bind q
theorem e_mtd {o : Ex} {es : List Ex} {m l c g j : Nat} {vs : List PV} {fs : List (Nat × PV)} {q : Nat × List PV} {r : Res PV} (ho : evE T cl o ρ h = .ok (.ref l) h1) (hl : h1[l]? = some (.ins c fs)) (hf : fs.lookup m = none) (hm : ((T.cls[c]?).bind fun ci => ci.meths.lookup m) = some g) (hj : T.dfl[j]? = some q) (hg : g = q.1) (he : evEs T cl es ρ h1 = .ok vs h2) (k : cl g (.ref l :: (vs ++ q.2)) h2 = r) : evE T cl (.mtd m o es j) ρ h = r := by
  simp only [evE, ho, hl, hf, hm, hj]
  rw [if_pos hg, he]
  simp only [Res.bind_ok, k]
theorem e_nes {a b : Ex} {x y : List Nat} {h1 h2 : PH} (ha : evE T cl a ρ h = .ok (.str x) h1) (hb : evE T cl b ρ h1 = .ok (.str y) h2) (hx : PyData.strOk ⟨x.toArray⟩ = true) (hy : PyData.strOk ⟨y.toArray⟩ = true) : evE T cl (.cmp .ne a b) ρ h = .ok (.bl (!decide (x = y))) h2 := by
  refine e_cmp ha hb ?_
  simp only [pCmp, pEq_ss hx hy, Option.map_some, Mn.ob]
end
section
variable {n d b s t lr lt : Nat} {ρ : PEnv} {h h1 h2 h3 : PH} {p p1 p' : Ps} {ns ns' : List Tx}
theorem Own.nin (o : Own p p' h) {m : Nat} (hm : m ∉ p.all) (hl : m < h.length) : m ∉ p'.all := fun z => by
  rcases o.2 m z with q | q
  · exact hm q
  · omega
theorem Own.frd (a : Own p p1 h) (f : Fr (d :: p.all) h h2) (g : Fr (d :: p1.all) h2 h3) : Fr (d :: p.all) h h3 := ⟨Nat.le_trans f.1 g.1, fun m hm hn => by
  rw [g.2 m (Nat.lt_of_lt_of_le hm f.1) fun z => ?_]
  · exact f.2 m hm hn
  · rcases List.mem_cons.mp z with z | z
    · exact hn (by rw [z]; exact List.mem_cons_self ..)
    · rcases a.2 m z with q | q
      · exact hn (List.mem_cons_of_mem _ q)
      · omega⟩
theorem TOk.nd (w : TOk h s p ns) : ns.Nodup := let ⟨_, _, _, _, t⟩ := w; t.nd
theorem TOk.ok (w : TOk h s p ns) : ∀ x ∈ ns, IsN x := let ⟨_, _, _, _, t⟩ := w; t.ok
theorem TOk.ht (w : TOk h s p ns) : ∃ mv, h[p.t]? = some (.ins 1 (fsT s p mv)) := let ⟨_, _, mv, a, _⟩ := w; ⟨mv, a.ht⟩
theorem TOk.len (w : TOk h s p ns) : ns.length ≤ 20 := n20_len w.nd w.ok
structure St (h : PH) (s d b t lr : Nat) (p : Ps) (ns : List Tx) : Prop where
  w : TOk h s p ns
  t_ : p.t = t
  r : h[lr]? = some (.lst ((rows s).map ofP))
  dc : Dc d b h
  nd : d ∉ p.all
  nr : lr ∉ p.all
theorem St.call (S : St h s d b t lr p ns) (w : TOk h1 s p' ns') (o : Own p p' h) (f : Fr p.all h h1) : St h1 s d b t lr p' ns' := ⟨w, o.1.trans S.t_, f.get S.r S.nr, dc_fr S.dc f S.nd, o.nin S.nd S.dc.lt, o.nin S.nr (get_lt S.r)⟩
theorem St.lr_d (S : St h s d b t lr p ns) : lr ≠ d := dc_ne S.dc S.r (by simp)
theorem St.draw {b' : Nat} (S : St h s d b t lr p ns) (dc : Dc d b' h1) (f : Fr [d] h h1) : St h1 s d b' t lr p ns := ⟨S.w.fr f fun m hm z => S.nd (by rw [← List.mem_singleton.mp z]; exact hm), S.t_, f.get S.r (by simpa using S.lr_d), dc, S.nd, S.nr⟩
theorem St.fr0 (S : St h s d b t lr p ns) (f : Fr [] h h1) : St h1 s d b t lr p ns := ⟨S.w.fr f (by simp), S.t_, f.get0 S.r, dc_fr S.dc f (by simp), S.nd, S.nr⟩
theorem St.le {b' : Nat} (S : St h s d b t lr p ns) (hb : b' ≤ b) : St h s d b' t lr p ns := { S with dc := S.dc.le hb }
structure Lt (h : PH) (lt : Nat) (p : Ps) (ns : List Tx) : Prop where
  g : h[lt]? = some (.lst (ns.map .str))
  n : lt ∉ p.all
theorem Lt.call (L : Lt h lt p ns) (o : Own p p' h) (f : Fr p.all h h1) : Lt h1 lt p' ns := ⟨f.get L.g L.n, o.nin L.n (get_lt L.g)⟩
theorem Lt.draw {b : Nat} (L : Lt h lt p ns) (dc : Dc d b h) (f : Fr [d] h h1) : Lt h1 lt p ns := ⟨f.get L.g (by simpa using dc_ne dc L.g (by simp)), L.n⟩
theorem Lt.fr0 (L : Lt h lt p ns) (f : Fr [] h h1) : Lt h1 lt p ns := ⟨f.get0 L.g, L.n⟩
def ρc (d t lr lt i : Nat) (x : Tx) (r : Nat) (z : Option PV) : PEnv := [some (.ref d), some (.ref t), some (.ref lr), some (.ref lt), some (.int i), some (.str x), some (.int r), z]
def cPut : List Sm := [.ex (.mt 15 .none (.var 1) [.var 5, .var 4]), .asg (.nm 3) (.ife (.cmp .nin (.var 5) (.var 3)) (.bin .add (.var 3) (.lst [.var 5])) (.var 3))]
def cTake : List Sm := [.ex (.mtd 16 (.var 1) [.var 5] 2), .asg (.nm 3) (.lc (.var 7) [7] (.nm 7) .seq [.var 3] [.cmp .ne (.var 7) (.var 5)])]
def cGet : List Sm := [.ex (.mtd 17 (.var 1) [.var 5] 3)]
theorem c_put (hs2 : s < 3) {i r : Nat} {x : Tx} {z : Option PV} (hx : IsN x) (S : St h s d b t lr p ns) (L : Lt h lt p ns) : ∃ h' p' lt' ns', exSs T (call (n + 9)) 100 cPut (ρc d t lr lt i x r z) h = .ok (.nx (ρc d t lr lt' i x r z)) h' ∧ St h' s d b t lr p' ns' ∧ Lt h' lt' p' ns' ∧ Own p p' h ∧ Fr p.all h h' := by
  obtain ⟨h1, p1, e1, w1, o1, f1⟩ := p_put (n := n) (v := .int i) hs2 S.w hx (.inl ⟨_, rfl⟩)
  have S1 := S.call w1 o1 f1
  have L1 := L.call o1 f1
  obtain ⟨mv, ht⟩ := S.w.ht
  have m1 : exS T (call (n + 9)) 100 (.ex (.mt 15 .none (.var 1) [.var 5, .var 4])) (ρc d t lr lt i x r z) h = .ok (.nx (ρc d t lr lt i x r z)) h1 := s_ex (e_meth (g := 14) (vs := [.str x, .int i]) (h1 := h) (h2 := h) (e_var (by rw [S.t_]; rfl)) ht rfl rfl (e_two (h1 := h) (e_var rfl) (e_var rfl)) e1)
  have c1 : evE T (call (n + 9)) (.cmp .nin (.var 5) (.var 3)) (ρc d t lr lt i x r z) h1 = .ok (.bl (!decide (x ∈ ns))) h1 := e_ninL (h1 := h1) (h2 := h1) (e_var rfl) (e_var rfl) L1.g hx S.w.ok
  by_cases hm : x ∈ ns
  · rw [decide_eq_true hm] at c1
    have en : put1 ns x = ns := by unfold put1; rw [if_pos hm]
    rw [en] at S1
    refine ⟨h1, p1, lt, ns, st_nx m1 (st_nx (s_asg (v := .ref lt) (e_ife (t := false) c1 (fun q => by cases q) fun _ => e_var rfl)) s_nil), S1, L1, o1, f1⟩
  · rw [decide_eq_false hm] at c1
    have en : put1 ns x = ns ++ [x] := by unfold put1; rw [if_neg hm]
    rw [en] at S1
    have e2 : evE T (call (n + 9)) (.bin .add (.var 3) (.lst [.var 5])) (ρc d t lr lt i x r z) h1 = .ok (.ref (h1.length + 1)) (h1 ++ [.lst [.str x]] ++ [.lst ((ns ++ [x]).map .str)]) := by
      refine e_bin (v := .ref lt) (w := .ref h1.length) (h1 := h1) (h2 := h1 ++ [.lst [.str x]]) (e_var rfl) (e_lst (e_one (e_var rfl)) (by simp)) ?_
      have g1 : (h1 ++ [PO.lst [PV.str x]])[lt]? = some (.lst (ns.map .str)) := app_at L1.g
      have g2 : (h1 ++ [PO.lst [PV.str x]])[h1.length]? = some (.lst [PV.str x]) := by simp
      simp only [pBin, g1, g2]
      have := S.w.len
      rw [if_pos (by rw [List.length_map]; exact Nat.le_trans (show ns.length + 1 ≤ 100 by omega) (by decide))]
      simp
    have fn : Fr [] h1 (h1 ++ [PO.lst [PV.str x]] ++ [PO.lst ((ns ++ [x]).map PV.str)]) := Fr.app.trans Fr.app
    refine ⟨_, p1, h1.length + 1, ns ++ [x], st_nx m1 (st_nx (s_asg (e_ife (t := true) c1 (fun _ => e2) fun q => by cases q)) s_nil), S1.fr0 fn, ⟨by simp, fun q => ?_⟩, o1, f1.trans fn.nil⟩
    have := S1.w.lt q
    omega
def neF (x : Tx) : PV → Bool
  | .str y => !decide (y = x)
  | _ => false
theorem c_take {i r : Nat} {x : Tx} {z : Option PV} (hx : IsN x) (S : St h s d b t lr p ns) (L : Lt h lt p ns) : ∃ h' p' lt' ns', exSs T (call (n + 9)) 100 cTake (ρc d t lr lt i x r z) h = .ok (.nx (ρc d t lr lt' i x r z)) h' ∧ St h' s d b t lr p' ns' ∧ Lt h' lt' p' ns' ∧ Own p p' h ∧ Fr p.all h h' := by
  obtain ⟨h1, p1, v, e1, w1, o1, f1⟩ := p_take (n := n) S.w hx
  have S1 := S.call w1 o1 f1
  have L1 := L.call o1 f1
  obtain ⟨mv, ht⟩ := S.w.ht
  have m1 : exS T (call (n + 9)) 100 (.ex (.mtd 16 (.var 1) [.var 5] 2)) (ρc d t lr lt i x r z) h = .ok (.nx (ρc d t lr lt i x r z)) h1 := s_ex (e_mtd (g := 16) (q := (16, [.non])) (vs := [.str x]) (h1 := h) (h2 := h) (e_var (by rw [S.t_]; rfl)) ht rfl rfl rfl rfl (e_one (e_var rfl)) e1)
  have e2 := lc_ref (T := T) (cl := call (n + 9)) (e := .var 7) (src := .var 3) (own := [7]) (t := .nm 7) (ifs := [.cmp .ne (.var 7) (.var 5)]) (ρ := ρc d t lr lt i x r z) (h := h1) (h1 := h1) (xs := ns.map .str) (l := lt) (neF x) id (e_var rfl) L1.g (by rw [List.length_map]; have := S.w.len; omega) (fun u hu h' _ hh => by
    obtain ⟨y, hy, rfl⟩ := List.mem_map.mp hu
    have q1 : evE T (call (n + 9)) (.cmp .ne (.var 7) (.var 5)) (ρc d t lr lt i x r (some (.str y))) h' = .ok (.bl (!decide (y = x))) h' := e_nes (h1 := h') (h2 := h') (e_var rfl) (e_var rfl) (S.w.ok y hy).str hx.str
    have q3 : neF x (.str y) = !decide (y = x) := rfl
    rw [← q3] at q1
    have q2 : bindTg (.nm 7) (.str y) ([7].foldr (fun i r => r.set i none) (ρc d t lr lt i x r z)) = some (ρc d t lr lt i x r (some (.str y))) := rfl
    exact lcB_if (y := id (PV.str y)) q2 q1 (fun _ => e_var rfl))
  have fe : (ns.map PV.str).filter (neF x) = (ns.erase x).map .str := by
    rw [S.w.nd.erase_eq_filter, List.filter_map]
    refine congrArg (List.map PV.str) (List.filter_congr fun y _ => ?_)
    show (!decide (y = x)) = (y != x)
    by_cases q : y = x
    · rw [decide_eq_true q, q]; simp
    · rw [decide_eq_false q]; simp [q]
  rw [fe, List.map_id] at e2
  have fn : Fr [] h1 (h1 ++ [PO.lst ((ns.erase x).map PV.str)]) := Fr.app
  refine ⟨_, p1, h1.length, ns.erase x, st_nx m1 (st_nx (s_asg e2) s_nil), S1.fr0 fn, ⟨by simp, fun q => ?_⟩, o1, f1.trans fn.nil⟩
  have := S1.w.lt q
  omega
theorem c_get {i r : Nat} {x : Tx} {z : Option PV} (hx : IsN x) (S : St h s d b t lr p ns) (L : Lt h lt p ns) : ∃ h' p' lt' ns', exSs T (call (n + 9)) 100 cGet (ρc d t lr lt i x r z) h = .ok (.nx (ρc d t lr lt' i x r z)) h' ∧ St h' s d b t lr p' ns' ∧ Lt h' lt' p' ns' ∧ Own p p' h ∧ Fr p.all h h' := by
  obtain ⟨h1, p1, v, e1, w1, o1, f1⟩ := p_get (n := n) S.w hx
  obtain ⟨mv, ht⟩ := S.w.ht
  have m1 : exS T (call (n + 9)) 100 (.ex (.mtd 17 (.var 1) [.var 5] 3)) (ρc d t lr lt i x r z) h = .ok (.nx (ρc d t lr lt i x r z)) h1 := s_ex (e_mtd (g := 15) (q := (15, [.non])) (vs := [.str x]) (h1 := h) (h2 := h) (e_var (by rw [S.t_]; rfl)) ht rfl rfl rfl rfl (e_one (e_var rfl)) e1)
  exact ⟨h1, p1, lt, ns, st_nx m1 s_nil, S.call w1 o1 f1, L.call o1 f1, o1, f1⟩
theorem row_of {v : PV} (h : v ∈ (rows s).map ofP) : ∃ x, IsN x ∧ v = ofP (pr s x) := by
  obtain ⟨q, hq, rfl⟩ := List.mem_map.mp h
  obtain ⟨x, hx, rfl⟩ := rows_mem.mp hq
  exact ⟨x, hx, rfl⟩
theorem rows_len (s : Nat) : (rows s).length = 20 := by unfold rows; rw [(srtP_perm _).length_eq]; rfl
theorem rows_ne (s : Nat) : (rows s).map ofP ≠ [] := fun e => by
  have := congrArg List.length e
  rw [List.length_map, rows_len] at this
  simp at this
theorem l_changed (hs2 : s < 3) (S : St h s d (b + 11) t lr p ns) (L : Lt h lt p ns) : Al (fun v h' => ∃ p' lt' ns', v = .ref lt' ∧ St h' s d b t lr p' ns' ∧ Lt h' lt' p' ns' ∧ Own p p' h ∧ Fr (d :: p.all) h h') (call (n + 10) 49 [.ref d, .ref t, .ref lr, .ref lt] h) := by
  rw [call_run (d := d__law_changed) rfl rfl]
  refine al_run rfl ?_
  show Al _ (exSs T (call (n + 9)) 100 b__law_changed [some (.ref d), some (.ref t), some (.ref lr), some (.ref lt), none, none, none, none] h)
  refine al_ss (al_forA (al_evI ?_))
  repeat (first | (with_reducible show Al _ (evEs _ _ (_ :: _) _ _)); refine al_cons (fun _ e => nomatch e) ?_ | (with_reducible show Al _ (evEs _ _ [] _ _)); refine al_nil ?_ | (with_reducible show Al _ (evE _ _ (.var _) _ _)); refine al_var rfl ?_ | (with_reducible show Al _ (evE _ _ (.con _) _ _)); refine al_con ?_ | (with_reducible show Al _ (evE _ _ (.call _ _) _ _)); refine al_call rfl ?_ | (with_reducible show Al _ (evE _ _ (.bin _ _ _) _ _)); refine al_bin ?_ | (with_reducible show Al _ (evE _ _ (.cmp _ _ _) _ _)); refine al_cmp ?_ | (with_reducible show Al _ (evE _ _ (.bi _ _) _ _)); refine al_bi ?_ | (with_reducible show Al _ (evE _ _ (.tup _) _ _)); refine al_tup ?_ | (with_reducible show Al _ (evE _ _ (.lst _) _ _)); refine al_lst ?_ | (with_reducible show Al _ (exS _ _ _ (.ret _) _ _)); refine al_ret ?_ | (with_reducible show Al _ (exS _ _ _ (.asg (.nm _) _) _ _)); refine al_asg ?_ | (with_reducible show Al _ (exS _ _ _ (.asg (.tp _) _) _ _)); refine al_asgt ?_ | (with_reducible show Al _ (exSs _ _ _ (.asg _ _ :: _) _ _)); refine al_ss ?_ | (with_reducible show Al _ (exSs _ _ _ (.ret _ :: _) _ _)); refine al_ss ?_)
  refine (a_roll (n := n + 8) (b := b + 10) S.dc (by omega) (by omega)).imp fun v h1 ⟨⟨N, hN, e⟩, dc1, f1⟩ => ?_
  subst e
  repeat (first | (with_reducible show Al _ (evEs _ _ (_ :: _) _ _)); refine al_cons (fun _ e => nomatch e) ?_ | (with_reducible show Al _ (evEs _ _ [] _ _)); refine al_nil ?_ | (with_reducible show Al _ (evE _ _ (.var _) _ _)); refine al_var rfl ?_ | (with_reducible show Al _ (evE _ _ (.con _) _ _)); refine al_con ?_ | (with_reducible show Al _ (evE _ _ (.call _ _) _ _)); refine al_call rfl ?_ | (with_reducible show Al _ (evE _ _ (.bin _ _ _) _ _)); refine al_bin ?_ | (with_reducible show Al _ (evE _ _ (.cmp _ _ _) _ _)); refine al_cmp ?_ | (with_reducible show Al _ (evE _ _ (.bi _ _) _ _)); refine al_bi ?_ | (with_reducible show Al _ (evE _ _ (.tup _) _ _)); refine al_tup ?_ | (with_reducible show Al _ (evE _ _ (.lst _) _ _)); refine al_lst ?_ | (with_reducible show Al _ (exS _ _ _ (.ret _) _ _)); refine al_ret ?_ | (with_reducible show Al _ (exS _ _ _ (.asg (.nm _) _) _ _)); refine al_asg ?_ | (with_reducible show Al _ (exS _ _ _ (.asg (.tp _) _) _ _)); refine al_asgt ?_ | (with_reducible show Al _ (exSs _ _ _ (.asg _ _ :: _) _ _)); refine al_ss ?_ | (with_reducible show Al _ (exSs _ _ _ (.ret _ :: _) _ _)); refine al_ss ?_)
  refine ⟨_, wk_rng (b := N) (by omega), ?_⟩
  have S1 := S.draw dc1 f1
  have L1 := L.draw S.dc f1
  refine al_forRun (N := N) (Inv := fun i ρ h' => ∃ p' lt' ns' z4 z5 z6 z7, ρ = [some (.ref d), some (.ref t), some (.ref lr), some (.ref lt'), z4, z5, z6, z7] ∧ St h' s d (b + 2 * (N - i)) t lr p' ns' ∧ Lt h' lt' p' ns' ∧ Own p p' h ∧ Fr (d :: p.all) h h') ?_ ?_ N 0 _ h1 (by omega) ⟨p, lt, ns, none, none, none, none, rfl, S1.le (by omega), L1, Own.refl, f1.mono (by simp)⟩
  · intro i hi ρ h' ⟨p2, lt2, ns2, z4, z5, z6, z7, eρ, S2, L2', o2, f2⟩
    subst eρ
    refine ⟨.int i, fix_at (by simp [hi]), ?_⟩
    show Al _ (exSs T (call (n + 9)) 100 _ [some (.ref d), some (.ref t), some (.ref lr), some (.ref lt2), some (.int i), z5, z6, z7] h')
    refine al_ss (al_asgt (al_tup ?_))
    refine al_cons (fun _ e => nomatch e) (al_ix (al_call rfl ?_))
    repeat (first | (with_reducible show Al _ (evEs _ _ (_ :: _) _ _)); refine al_cons (fun _ e => nomatch e) ?_ | (with_reducible show Al _ (evEs _ _ [] _ _)); refine al_nil ?_ | (with_reducible show Al _ (evE _ _ (.var _) _ _)); refine al_var rfl ?_ | (with_reducible show Al _ (evE _ _ (.con _) _ _)); refine al_con ?_ | (with_reducible show Al _ (evE _ _ (.call _ _) _ _)); refine al_call rfl ?_ | (with_reducible show Al _ (evE _ _ (.bin _ _ _) _ _)); refine al_bin ?_ | (with_reducible show Al _ (evE _ _ (.cmp _ _ _) _ _)); refine al_cmp ?_ | (with_reducible show Al _ (evE _ _ (.bi _ _) _ _)); refine al_bi ?_ | (with_reducible show Al _ (evE _ _ (.tup _) _ _)); refine al_tup ?_ | (with_reducible show Al _ (evE _ _ (.lst _) _ _)); refine al_lst ?_ | (with_reducible show Al _ (exS _ _ _ (.ret _) _ _)); refine al_ret ?_ | (with_reducible show Al _ (exS _ _ _ (.asg (.nm _) _) _ _)); refine al_asg ?_ | (with_reducible show Al _ (exS _ _ _ (.asg (.tp _) _) _ _)); refine al_asgt ?_ | (with_reducible show Al _ (exSs _ _ _ (.asg _ _ :: _) _ _)); refine al_ss ?_ | (with_reducible show Al _ (exSs _ _ _ (.ret _ :: _) _ _)); refine al_ss ?_)
    have S3 := S2.le (b' := b + 2 * (N - (i + 1)) + 2) (by omega)
    refine (a_one (n := n + 7) (b := b + 2 * (N - (i + 1)) + 1) S3.dc S3.r (rows_ne s) (by rw [List.length_map, rows_len]; omega) S3.lr_d).imp fun v h3 ⟨hv, dc3, f3⟩ => ?_
    obtain ⟨x, hx, rfl⟩ := row_of hv
    have S4 := S3.draw dc3 f3
    have L4 := L2'.draw S3.dc f3
    refine al_con (Al.ok (a := .str x) (h := h3) rfl ?_)
    refine al_cons (fun _ e => nomatch e) (al_call rfl ?_)
    repeat (first | (with_reducible show Al _ (evEs _ _ (_ :: _) _ _)); refine al_cons (fun _ e => nomatch e) ?_ | (with_reducible show Al _ (evEs _ _ [] _ _)); refine al_nil ?_ | (with_reducible show Al _ (evE _ _ (.var _) _ _)); refine al_var rfl ?_ | (with_reducible show Al _ (evE _ _ (.con _) _ _)); refine al_con ?_ | (with_reducible show Al _ (evE _ _ (.call _ _) _ _)); refine al_call rfl ?_ | (with_reducible show Al _ (evE _ _ (.bin _ _ _) _ _)); refine al_bin ?_ | (with_reducible show Al _ (evE _ _ (.cmp _ _ _) _ _)); refine al_cmp ?_ | (with_reducible show Al _ (evE _ _ (.bi _ _) _ _)); refine al_bi ?_ | (with_reducible show Al _ (evE _ _ (.tup _) _ _)); refine al_tup ?_ | (with_reducible show Al _ (evE _ _ (.lst _) _ _)); refine al_lst ?_ | (with_reducible show Al _ (exS _ _ _ (.ret _) _ _)); refine al_ret ?_ | (with_reducible show Al _ (exS _ _ _ (.asg (.nm _) _) _ _)); refine al_asg ?_ | (with_reducible show Al _ (exS _ _ _ (.asg (.tp _) _) _ _)); refine al_asgt ?_ | (with_reducible show Al _ (exSs _ _ _ (.asg _ _ :: _) _ _)); refine al_ss ?_ | (with_reducible show Al _ (exSs _ _ _ (.ret _ :: _) _ _)); refine al_ss ?_)
    refine (a_roll (n := n + 8) (b := b + 2 * (N - (i + 1))) S4.dc (by omega) (by omega)).imp fun v h4 ⟨⟨r, hr, e⟩, dc4, f4⟩ => ?_
    subst e
    have S5 := S4.draw dc4 f4
    have L5 := L4.draw S4.dc f4
    have f25 : Fr (d :: p2.all) h' h4 := (f3.trans f4).mono (by simp)
    repeat (first | (with_reducible show Al _ (evEs _ _ (_ :: _) _ _)); refine al_cons (fun _ e => nomatch e) ?_ | (with_reducible show Al _ (evEs _ _ [] _ _)); refine al_nil ?_ | (with_reducible show Al _ (evE _ _ (.var _) _ _)); refine al_var rfl ?_ | (with_reducible show Al _ (evE _ _ (.con _) _ _)); refine al_con ?_ | (with_reducible show Al _ (evE _ _ (.call _ _) _ _)); refine al_call rfl ?_ | (with_reducible show Al _ (evE _ _ (.bin _ _ _) _ _)); refine al_bin ?_ | (with_reducible show Al _ (evE _ _ (.cmp _ _ _) _ _)); refine al_cmp ?_ | (with_reducible show Al _ (evE _ _ (.bi _ _) _ _)); refine al_bi ?_ | (with_reducible show Al _ (evE _ _ (.tup _) _ _)); refine al_tup ?_ | (with_reducible show Al _ (evE _ _ (.lst _) _ _)); refine al_lst ?_ | (with_reducible show Al _ (exS _ _ _ (.ret _) _ _)); refine al_ret ?_ | (with_reducible show Al _ (exS _ _ _ (.asg (.nm _) _) _ _)); refine al_asg ?_ | (with_reducible show Al _ (exS _ _ _ (.asg (.tp _) _) _ _)); refine al_asgt ?_ | (with_reducible show Al _ (exSs _ _ _ (.asg _ _ :: _) _ _)); refine al_ss ?_ | (with_reducible show Al _ (exSs _ _ _ (.ret _ :: _) _ _)); refine al_ss ?_)
    refine ⟨by simp [sizeLine], _, rfl, ?_⟩
    show Al _ (exSs T (call (n + 9)) 100 [.ite (.cmp .lt (.var 6) (.con (.int 2))) cPut [.ite (.cmp .lt (.var 6) (.con (.int 4))) cTake cGet]] (ρc d t lr lt2 i x r z7) h4)
    have c1 : ∀ k : Int, evE T (call (n + 9)) (.cmp .lt (.var 6) (.con (.int k))) (ρc d t lr lt2 i x r z7) h4 = .ok (.bl (decide ((r : Int) < k))) h4 := fun k => e_cmp (e_var rfl) e_con rfl
    have fin : ∀ {h5 p5 lt5 ns5}, St h5 s d (b + 2 * (N - (i + 1))) t lr p5 ns5 → Lt h5 lt5 p5 ns5 → Own p2 p5 h4 → Fr p2.all h4 h5 → (∃ p' lt' ns' z4 z5 z6 z7', ρc d t lr lt5 i x r z7 = [some (.ref d), some (.ref t), some (.ref lr), some (.ref lt'), z4, z5, z6, z7'] ∧ St h5 s d (b + 2 * (N - (i + 1))) t lr p' ns' ∧ Lt h5 lt' p' ns' ∧ Own p p' h ∧ Fr (d :: p.all) h h5) := fun {h5 p5 lt5 ns5} a1 a2 a3 a4 => ⟨p5, lt5, ns5, _, _, _, _, rfl, a1, a2, o2.trans a3 (Nat.le_trans f2.1 f25.1), o2.frd f2 (f25.trans (a4.mono fun m hm => List.mem_cons_of_mem _ hm))⟩
    by_cases q1 : (r : Int) < 2
    · have c := c1 2
      rw [decide_eq_true q1] at c
      obtain ⟨h5, p5, lt5, ns5, e5, S6, L6, o6, f6⟩ := c_put (n := n) (i := i) (r := r) (z := z7) hs2 hx S5 L5
      exact Al.ok (st_nx (s_ifT (t_bl c) e5) s_nil) (fin S6 L6 o6 f6)
    · have c := c1 2
      rw [decide_eq_false q1] at c
      by_cases q2 : (r : Int) < 4
      · have c' := c1 4
        rw [decide_eq_true q2] at c'
        obtain ⟨h5, p5, lt5, ns5, e5, S6, L6, o6, f6⟩ := c_take (n := n) (i := i) (r := r) (z := z7) hx S5 L5
        exact Al.ok (st_nx (s_ifF (t_bl c) (st_nx (s_ifT (t_bl c') e5) s_nil)) s_nil) (fin S6 L6 o6 f6)
      · have c' := c1 4
        rw [decide_eq_false q2] at c'
        obtain ⟨h5, p5, lt5, ns5, e5, S6, L6, o6, f6⟩ := c_get (n := n) (i := i) (r := r) (z := z7) hx S5 L5
        exact Al.ok (st_nx (s_ifF (t_bl c) (st_nx (s_ifF (t_bl c') e5) s_nil)) s_nil) (fin S6 L6 o6 f6)
  · intro ρ h' ⟨p2, lt2, ns2, z4, z5, z6, z7, eρ, S2, L2', o2, f2⟩
    subst eρ
    refine ⟨by simpa using fix_end (xs := (List.range N).map fun (i : Nat) => PV.int i) (h := h'), ?_⟩
    refine Al.ok (st_rt (s_ret (e_var (v := .ref lt2) rfl))) ⟨p2, lt2, ns2, rfl, S2.le (by omega), L2', o2, f2⟩
end
end K06
set_option Elab.async false
set_option linter.all false
set_option maxRecDepth 100000
set_option maxHeartbeats 1000000
namespace K06
open Mn
theorem filter_lt {α : Type} {p q : α → Bool} : ∀ {l : List α}, (∀ x ∈ l, q x = true → p x = true) → (∃ x ∈ l, p x = true ∧ q x = false) → (l.filter q).length < (l.filter p).length
  | [], _, h => by obtain ⟨x, hx, _⟩ := h; cases hx
  | a :: l, k, h => by
    have k' : ∀ x ∈ l, q x = true → p x = true := fun x hx => k x (List.mem_cons_of_mem _ hx)
    have le : (l.filter q).length ≤ (l.filter p).length := by
      rw [← List.countP_eq_length_filter, ← List.countP_eq_length_filter]
      exact List.countP_mono_left k'
    rw [List.filter_cons, List.filter_cons]
    by_cases hp : p a = true
    · rw [if_pos hp]
      by_cases hq : q a = true
      · rw [if_pos hq]
        obtain ⟨x, hx, h1, h2⟩ := h
        rcases List.mem_cons.mp hx with rfl | hx
        · rw [hq] at h2; cases h2
        · have := filter_lt k' ⟨x, hx, h1, h2⟩
          simp only [List.length_cons]
          omega
      · rw [if_neg hq]
        simp only [List.length_cons]
        omega
    · have hq : q a ≠ true := fun e => hp (k a (List.mem_cons_self ..) e)
      rw [if_neg hp, if_neg hq]
      obtain ⟨x, hx, h1, h2⟩ := h
      rcases List.mem_cons.mp hx with rfl | hx
      · exact absurd h1 hp
      · exact filter_lt k' ⟨x, hx, h1, h2⟩
theorem filter_all {α : Type} {p : α → Bool} : ∀ {l : List α}, ¬ (l.filter p).length < l.length → ∀ x ∈ l, p x = true
  | [], _, x, hx => by cases hx
  | a :: l, h, x, hx => by
    by_cases hp : p a = true
    · rw [List.filter_cons_of_pos hp] at h
      rcases List.mem_cons.mp hx with rfl | hx
      · exact hp
      · exact filter_all (l := l) (by simpa using h) x hx
    · rw [List.filter_cons_of_neg hp] at h
      have := List.length_filter_le p l
      simp only [List.length_cons] at h
      omega
theorem filter_some {α : Type} {p : α → Bool} : ∀ {l : List α}, (l.filter p).length < l.length → ∃ x ∈ l, p x = false
  | [], h => by simp at h
  | a :: l, h => by
    by_cases hp : p a = true
    · rw [List.filter_cons_of_pos hp] at h
      obtain ⟨x, hx, q⟩ := filter_some (l := l) (by simpa using h)
      exact ⟨x, List.mem_cons_of_mem _ hx, q⟩
    · exact ⟨a, List.mem_cons_self .., by simpa using hp⟩
structure SStep (s : Nat) (ns : List Tx) (c c' : Int) (told : List Tx) : Prop where
  a : ∀ x ∈ told, x ∈ ns ∧ c ≤ (sp s x : Nat) ∧ (c' ≠ 0 → ((sp s x : Nat) : Int) < c')
  nd : told.Nodup
  pw : told.Pairwise fun x y => sp s x ≤ sp s y
  up : c' ≠ 0 → c < c' ∧ c' ≤ 65535 ∧ ∃ x, IsN x ∧ c ≤ (sp s x : Nat) ∧ ((sp s x : Nat) : Int) < c'
  e : ∀ x ∈ ns, c ≤ (sp s x : Nat) → (c' = 0 ∨ ((sp s x : Nat) : Int) < c') → x ∈ told
theorem from_mem {s : Nat} {ns : List Tx} {c : Int} {q : Pr} : q ∈ fromC (srtP (ns.map (pr s))) c ↔ ∃ x ∈ ns, q = pr s x ∧ c ≤ (sp s x : Nat) := by
  unfold fromC
  rw [List.mem_filter, ord_mem]
  constructor
  · rintro ⟨⟨x, hx, rfl⟩, h⟩
    exact ⟨x, hx, rfl, of_decide_eq_true h⟩
  · rintro ⟨x, hx, rfl, h⟩
    exact ⟨⟨x, hx, rfl⟩, decide_eq_true h⟩
theorem told_mem {s : Nat} {ns : List Tx} {c : Int} {k : Nat} {x : Tx} : x ∈ (toldL (fromC (srtP (ns.map (pr s))) c) k).map (·.2) ↔ x ∈ ns ∧ c ≤ (sp s x : Nat) ∧ ((sp s x : Nat) : Int) ≤ lastZ (fromC (srtP (ns.map (pr s))) c) k := by
  rw [List.mem_map]
  unfold toldL
  constructor
  · rintro ⟨q, hq, rfl⟩
    obtain ⟨h1, h2⟩ := List.mem_filter.mp hq
    obtain ⟨x, hx, rfl, h3⟩ := from_mem.mp h1
    exact ⟨hx, h3, of_decide_eq_true h2⟩
  · rintro ⟨h1, h2, h3⟩
    exact ⟨pr s x, List.mem_filter.mpr ⟨from_mem.mpr ⟨x, h1, rfl, h2⟩, decide_eq_true h3⟩, rfl⟩
theorem scan_step {s : Nat} {ns : List Tx} (nd : ns.Nodup) (hn : ∀ x ∈ ns, IsN x) {c : Int} (hc : 0 ≤ c) (k : Nat) : SStep s ns c (scanP (srtP (ns.map (pr s))) c k).1 (scanP (srtP (ns.map (pr s))) c k).2 := by
  have hS : ∀ x ∈ ns, c ≤ (sp s x : Nat) → pr s x ∈ fromC (srtP (ns.map (pr s))) c := fun x hx h => from_mem.mpr ⟨x, hx, rfl, h⟩
  unfold scanP
  by_cases hn0 : fromC (srtP (ns.map (pr s))) c = []
  · rw [if_pos hn0]
    exact ⟨fun x hx => (by cases hx), List.nodup_nil, List.Pairwise.nil, fun h => absurd rfl h, fun x hx h _ => by
      have := hS x hx h
      rw [hn0] at this
      cases this⟩
  · rw [if_neg hn0]
    have tm := fun x => told_mem (s := s) (ns := ns) (c := c) (k := k) (x := x)
    have hz := lastZ_ge (k := k) hn0
    have tnd : ((toldL (fromC (srtP (ns.map (pr s))) c) k).map (·.2)).Nodup := by
      refine (ord_snd (s := s) nd).sublist ?_
      exact ((List.filter_sublist).trans List.filter_sublist).map _
    have tpw : ((toldL (fromC (srtP (ns.map (pr s))) c) k).map (·.2)).Pairwise fun x y => sp s x ≤ sp s y := by
      rw [List.pairwise_map]
      have p1 : (toldL (fromC (srtP (ns.map (pr s))) c) k).Pairwise fun a b => a.1 ≤ b.1 := (srt_fst (srtP_srt (ns.map (pr s)))).sublist (List.filter_sublist.trans List.filter_sublist)
      refine p1.imp_of_mem fun {a b} ha hb hab => ?_
      obtain ⟨x, _, rfl, _⟩ := from_mem.mp (List.mem_filter.mp ha).1
      obtain ⟨y, _, rfl, _⟩ := from_mem.mp (List.mem_filter.mp hb).1
      simp only [pr] at hab ⊢
      omega
    by_cases hl : (toldL (fromC (srtP (ns.map (pr s))) c) k).length < (fromC (srtP (ns.map (pr s))) c).length
    · rw [if_pos hl]
      refine ⟨fun x hx => ?_, tnd, tpw, fun _ => ⟨by simp only; omega, ?_, ?_⟩, fun x hx h1 h2 => ?_⟩
      · obtain ⟨h1, h2, h3⟩ := (tm x).mp hx
        exact ⟨h1, h2, fun _ => by simp only; omega⟩
      · obtain ⟨q, hq, hf⟩ := filter_some hl
        obtain ⟨x, hx, rfl, h⟩ := from_mem.mp hq
        have := sp_lt s x
        have hf := of_decide_eq_false hf
        simp only [pr] at hf ⊢
        omega
      · obtain ⟨q, hq, hf⟩ := lastZ_mem (k := k) hn0
        obtain ⟨x, hx, rfl, h⟩ := from_mem.mp hq
        exact ⟨x, hn x hx, h, by simp only [pr] at hf ⊢; omega⟩
      · refine (tm x).mpr ⟨hx, h1, ?_⟩
        rcases h2 with h2 | h2
        · simp only at h2; omega
        · simp only at h2; omega
    · rw [if_neg hl]
      refine ⟨fun x hx => ?_, tnd, tpw, fun h => absurd rfl h, fun x hx h1 _ => ?_⟩
      · obtain ⟨h1, h2, h3⟩ := (tm x).mp hx
        exact ⟨h1, h2, fun h => absurd rfl h⟩
      · have := filter_all hl _ (hS x hx h1)
        refine (tm x).mpr ⟨hx, h1, ?_⟩
        exact of_decide_eq_true this
def cnt (s : Nat) (c : Int) : Nat := (N20.filter fun x => decide (c ≤ (sp s x : Nat))).length
theorem cnt_le (s : Nat) (c : Int) : cnt s c ≤ 20 := List.length_filter_le _ _
theorem cnt_lt {s : Nat} {c c' : Int} (h : c < c') (k : ∃ x, IsN x ∧ c ≤ (sp s x : Nat) ∧ ((sp s x : Nat) : Int) < c') : cnt s c' < cnt s c := by
  obtain ⟨x, hx, h1, h2⟩ := k
  refine filter_lt (fun y _ q => ?_) ⟨x, hx, by simpa using h1, by simp; omega⟩
  have := of_decide_eq_true q
  simp
  omega
inductive Jv (s : Nat) : Nat → Int → Nat → Int → List Tx → List Tx → Prop
  | live {m : Nat} {c : Int} {calls : Nat} {la : Int} {found always : List Tx} (h0 : calls = 0 ∨ c ≠ 0) (hc : 0 ≤ c ∧ c ≤ 65535) (f : ∀ x ∈ found, ((sp s x : Nat) : Int) < c) (l : la < c) (al : ∀ x ∈ always, ((sp s x : Nat) : Int) < c → x ∈ found) (hm : cnt s c + 1 ≤ m) (hk : calls + m ≤ 21) : Jv s m c calls la found always
  | done {m calls : Nat} {la : Int} {found always : List Tx} (h0 : calls ≠ 0) (al : ∀ x ∈ always, x ∈ found) (hk : calls ≤ 21) : Jv s m 0 calls la found always
theorem Jv.init (s : Nat) (always : List Tx) : Jv s 21 0 0 (-1) [] always := .live (.inl rfl) (by omega) (fun x hx => by cases hx) (by omega) (fun x _ h => by omega) (by have := cnt_le s 0; omega) (by omega)
def laOf (s : Nat) (la : Int) (told : List Tx) : Int := match told.getLast? with
  | some x => (sp s x : Nat)
  | none => la
theorem Jv.step {s m calls : Nat} {c c' la : Int} {found always told ns : List Tx} (J : Jv s m c calls la found always) (hl : calls = 0 ∨ c ≠ 0) (ha : ∀ x ∈ always, x ∈ ns) (S : SStep s ns c c' told) : ∃ m', m' < m ∧ Jv s m' c' (calls + 1) (laOf s la told) (found ++ told) always := by
  cases J with
  | done h0 => rcases hl with q | q; exact absurd q h0; exact absurd rfl q
  | live h0 hc f l al hm hk =>
    by_cases h : c' = 0
    · subst h
      refine ⟨0, by omega, .done (by omega) (fun x hx => ?_) (by omega)⟩
      by_cases q : ((sp s x : Nat) : Int) < c
      · exact List.mem_append_left _ (al x hx q)
      · exact List.mem_append_right _ (S.e x (ha x hx) (by omega) (.inl rfl))
    · obtain ⟨u1, u2, u3⟩ := S.up h
      refine ⟨m - 1, by omega, .live (.inr h) ⟨by omega, u2⟩ (fun x hx => ?_) ?_ (fun x hx q => ?_) (by have := cnt_lt u1 u3; omega) (by omega)⟩
      · rcases List.mem_append.mp hx with hx | hx
        · have := f x hx; omega
        · exact (S.a x hx).2.2 h
      · unfold laOf
        cases e : told.getLast? with
        | none => simp only; omega
        | some y => exact (S.a y (List.mem_of_getLast? e)).2.2 h
      · by_cases q2 : ((sp s x : Nat) : Int) < c
        · exact List.mem_append_left _ (al x hx q2)
        · exact List.mem_append_right _ (S.e x (ha x hx) (by omega) (.inr q))
end K06
set_option Elab.async false
set_option linter.all false
set_option maxRecDepth 100000
set_option maxHeartbeats 1000000
namespace K06
open PySem PySem.Spec PyProof.Rows L2 Mn
section
variable {T : Tb} {W : Nat} {cl : Nat → List PV → PH → Res PV} {ρ ρ1 : PEnv} {h h1 h2 : PH}
theorem al_nxs {P : Fl → PH → Prop} {s : Sm} {r : List Sm} (e : exS T cl W s ρ h = .ok (.nx ρ1) h1) (k : Al P (exSs T cl W r ρ1 h1)) : Al P (exSs T cl W (s :: r) ρ h) := by
  simp only [exSs, e, Res.bind_ok]
  exact k
end
theorem Jv.sub {s m calls : Nat} {c la : Int} {found al al' : List Tx} (J : Jv s m c calls la found al) (h : ∀ x ∈ al', x ∈ al) : Jv s m c calls la found al' := by
  cases J with
  | live h0 hc f l a hm hk => exact .live h0 hc f l (fun x hx => a x (h x hx)) hm hk
  | done h0 a hk => exact .done h0 (fun x hx => a x (h x hx)) hk
theorem Jv.calls {s m calls : Nat} {c la : Int} {found al : List Tx} (J : Jv s m c calls la found al) : calls ≤ 21 := by
  cases J with
  | live h0 hc f l a hm hk => omega
  | done h0 a hk => exact hk
theorem Jv.cur {s m calls : Nat} {c la : Int} {found al : List Tx} (J : Jv s m c calls la found al) : 0 ≤ c ∧ c ≤ 65535 := by
  cases J with
  | live h0 hc f l a hm hk => exact hc
  | done h0 a hk => omega
def ρs (d t lr lt : Nat) (la c : Int) (fq aq calls : Nat) (z9 z10 z11 z12 z13 : Option PV) : PEnv := [some (.ref d), some (.ref t), some (.ref lr), some (.ref lt), some (.int la), some (.int c), some (.ref fq), some (.ref aq), some (.int calls), z9, z10, z11, z12, z13]
def sTold : List Sm := [.asg (.nm 12) (.ix (.lc (.ix (.var 13) (.con (.int 0))) [13] (.nm 13) .seq [.var 2] [.cmp .eq (.ix (.var 13) (.con (.int 1))) (.var 11)]) (.con (.int 0))), .ite (.or (.cmp .in_ (.var 11) (.var 6)) (.or (.cmp .nin (.var 11) (.var 3)) (.cmp .lt (.var 12) (.var 4)))) [.ret (.con (.bl false))] [], .asg (.tp [6, 4]) (.tup [.bin .add (.var 6) (.lst [.var 11]), .var 12])]
def eqF (x : Tx) : PV → Bool
  | .tup [_, .str y] => decide (y = x)
  | _ => false
def fstV : PV → PV
  | .tup [a, _] => a
  | _ => .non
section
variable {n d b s t lr lt fq aq calls : Nat} {la c : Int} {ρ : PEnv} {h h1 h2 h3 : PH} {p p1 p' : Ps} {ns ns' found always told : List Tx} {z9 z10 z11 z12 z13 : Option PV}
theorem Lt.chg (L : Lt h lt p ns) (o : Own p p' h) (f : Fr (d :: p.all) h h1) (hd : lt ≠ d) : Lt h1 lt p' ns := ⟨f.get L.g (by simp only [List.mem_cons, not_or]; exact ⟨hd, L.n⟩), o.nin L.n (get_lt L.g)⟩
theorem e_rowspot {x : Tx} (hr : h[lr]? = some (.lst ((rows s).map ofP))) (hx : IsN x) : ∃ o, evE T (call n) (.ix (.lc (.ix (.var 13) (.con (.int 0))) [13] (.nm 13) .seq [.var 2] [.cmp .eq (.ix (.var 13) (.con (.int 1))) (.var 11)]) (.con (.int 0))) (ρs d t lr lt la c fq aq calls z9 z10 (some (.str x)) z12 z13) h = .ok (.int (sp s x : Nat)) (h ++ [o]) := by
  have hN : ∀ q ∈ rows s, IsN q.2 := fun q hq => by obtain ⟨x, hx, rfl⟩ := rows_mem.mp hq; exact hx
  have e1 := lc_ref (T := T) (cl := call n) (e := .ix (.var 13) (.con (.int 0))) (src := .var 2) (own := [13]) (t := .nm 13) (ifs := [.cmp .eq (.ix (.var 13) (.con (.int 1))) (.var 11)]) (ρ := ρs d t lr lt la c fq aq calls z9 z10 (some (.str x)) z12 z13) (h := h) (h1 := h) (xs := (rows s).map ofP) (l := lr) (eqF x) fstV (e_var rfl) hr (by rw [List.length_map, rows_len]; omega) (fun u hu h' _ hh => by
    obtain ⟨⟨a, y⟩, hq, rfl⟩ := List.mem_map.mp hu
    have hy : IsN y := hN _ hq
    have q1 : evE T (call n) (.cmp .eq (.ix (.var 13) (.con (.int 1))) (.var 11)) (ρs d t lr lt la c fq aq calls z9 z10 (some (.str x)) z12 (some (ofP (a, y)))) h' = .ok (.bl (eqF x (ofP (a, y)))) h' := e_eqs (h1 := h') (h2 := h') (e_ix (v := ofP (a, y)) (w := .int 1) (h1 := h') (h2 := h') (e_var rfl) e_con rfl) (e_var rfl) hy.str hx.str
    have q2 : evE T (call n) (.ix (.var 13) (.con (.int 0))) (ρs d t lr lt la c fq aq calls z9 z10 (some (.str x)) z12 (some (ofP (a, y)))) h' = .ok (fstV (ofP (a, y))) h' := e_ix (v := ofP (a, y)) (w := .int 0) (h1 := h') (h2 := h') (e_var rfl) e_con rfl
    exact lcB_if (b := eqF x (ofP (a, y))) (ρ1 := ρs d t lr lt la c fq aq calls z9 z10 (some (.str x)) z12 (some (ofP (a, y)))) rfl q1 (fun _ => q2))
  refine ⟨PO.lst ((((rows s).map ofP).filter (eqF x)).map fstV), e_ix e1 e_con ?_⟩
  simp only [pIx, get_last]
  have hm : ofP (pr s x) ∈ ((rows s).map ofP).filter (eqF x) := List.mem_filter.mpr ⟨List.mem_map.mpr ⟨_, rows_mem.mpr ⟨x, hx, rfl⟩, rfl⟩, decide_eq_true rfl⟩
  have hall : ∀ v ∈ ((rows s).map ofP).filter (eqF x), v = ofP (pr s x) := fun v hv => by
    obtain ⟨h1, h2⟩ := List.mem_filter.mp hv
    obtain ⟨y, hy, rfl⟩ := row_of h1
    have : y = x := of_decide_eq_true h2
    rw [this]
  generalize ((rows s).map ofP).filter (eqF x) = F at hm hall
  cases F with
  | nil => cases hm
  | cons v F =>
    rw [hall v (List.mem_cons_self ..)]
    have q : atI ((ofP (pr s x) :: F).map fstV) 0 = some (fstV (ofP (pr s x))) := atI_lt (r := 0) (by simp)
    rw [q]
    rfl
theorem la_take {i : Nat} (hi : i < told.length) : laOf s la (told.take (i + 1)) = (sp s told[i] : Nat) := by
  unfold laOf
  rw [List.take_succ_eq_append_getElem hi, List.getLast?_concat]
theorem la_le {i : Nat} (hi : i < told.length) (pw : told.Pairwise fun x y => sp s x ≤ sp s y) (hl : ∀ x ∈ told, la < (sp s x : Nat)) : laOf s la (told.take i) ≤ (sp s told[i] : Nat) := by
  unfold laOf
  cases e : (told.take i).getLast? with
  | none => exact Int.le_of_lt (hl _ (List.getElem_mem hi))
  | some y =>
    obtain ⟨j, hj, rfl⟩ := List.mem_take_iff_getElem.mp (List.mem_of_getLast? e)
    have := List.pairwise_iff_getElem.mp pw j i (by omega) hi (by omega)
    simp only
    omega
theorem s_told {c' : Int} (S : St h s d b t lr p ns) (L : Lt h lt p ns) (F : Lt h fq p found) (hf : ∀ x ∈ found, IsN x) (ht : ∀ x ∈ told, x ∈ ns) (nd : (found ++ told).Nodup) (pw : told.Pairwise fun x y => sp s x ≤ sp s y) (hl : ∀ x ∈ told, la < (sp s x : Nat)) :
    ∃ h' fq' z11' z12' z13', exS T (call n) 100 (.for_ (.nm 11) .seq [.ix (.var 10) (.con (.int 1))] sTold) (ρs d t lr lt la c fq aq calls z9 (some (scanV (c', told))) z11 z12 z13) h = .ok (.nx (ρs d t lr lt (laOf s la told) c fq' aq calls z9 (some (scanV (c', told))) z11' z12' z13')) h' ∧ Fr [] h h' ∧ Lt h' fq' p (found ++ told) := by
  have hall : ∀ x ∈ found ++ told, IsN x := fun x hx => by
    rcases List.mem_append.mp hx with hx | hx
    · exact hf x hx
    · exact S.w.ok x (ht x hx)
  have hlen : (found ++ told).length ≤ 20 := n20_len nd hall
  have esrc : evE T (call n) (.ix (.var 10) (.con (.int 1))) (ρs d t lr lt la c fq aq calls z9 (some (scanV (c', told))) z11 z12 z13) h = .ok (.tup (told.map .str)) h := e_ix (v := scanV (c', told)) (w := .int 1) (h1 := h) (h2 := h) (e_var rfl) e_con rfl
  obtain ⟨ρ3, h3, e3, fq3, y11, y12, y13, eρ, f3, F3⟩ := for_ex (T := T) (W := 100) (cl := call n) (t := .nm 11) (k := .seq) (its := [.ix (.var 10) (.con (.int 1))]) (b := sTold) (ρ := ρs d t lr lt la c fq aq calls z9 (some (scanV (c', told))) z11 z12 z13) (h := h) (h1 := h) (w := .fix (told.map .str)) (N := (told.map PV.str).length)
    (fun i ρ h' => ∃ fq' z11' z12' z13', ρ = ρs d t lr lt (laOf s la (told.take i)) c fq' aq calls z9 (some (scanV (c', told))) z11' z12' z13' ∧ Fr [] h h' ∧ Lt h' fq' p (found ++ told.take i))
    (evI_row esrc) ⟨fq, z11, z12, z13, rfl, Fr.refl, by simpa using F⟩ (fun i hi ρ h' ⟨fq', y11, y12, y13, eρ, f', F'⟩ => by
      subst eρ
      have hi' : i < told.length := by simpa using hi
      have hx : told[i] ∈ ns := ht _ (List.getElem_mem hi')
      have hN := S.w.ok _ hx
      have hle := la_le (s := s) (la := la) hi' pw hl
      have hfi : ∀ x ∈ found ++ told.take i, IsN x := fun x hx => hall x (by
        rcases List.mem_append.mp hx with hx | hx
        · exact List.mem_append_left _ hx
        · exact List.mem_append_right _ (List.mem_of_mem_take hx))
      have hnf : told[i] ∉ found ++ told.take i := fun z => by
        obtain ⟨n1, n2, n3⟩ := List.nodup_append.mp nd
        rcases List.mem_append.mp z with z | z
        · exact n3 _ z _ (List.getElem_mem hi') rfl
        · obtain ⟨j, hj, e⟩ := List.mem_take_iff_getElem.mp z
          have := (List.getElem_inj n2).mp e
          omega
      have hli : (found ++ told.take i).length ≤ 20 := by
        rw [List.length_append, List.length_take]
        rw [List.length_append] at hlen
        omega
      generalize hxx : told[i] = x at hx hN hle hnf
      generalize hla : laOf s la (told.take i) = la' at hle
      obtain ⟨o, eo⟩ := e_rowspot (n := n) (d := d) (t := t) (lt := lt) (la := la') (c := c) (fq := fq') (aq := aq) (calls := calls) (z9 := z9) (z10 := some (scanV (c', told))) (z12 := y12) (z13 := y13) (f'.get0 S.r) hN
      have fo : Fr [] h' (h' ++ [o]) := Fr.app
      have c1 : evE T (call n) (.cmp .in_ (.var 11) (.var 6)) (ρs d t lr lt la' c fq' aq calls z9 (some (scanV (c', told))) (some (.str x)) (some (.int (sp s x : Nat))) y13) (h' ++ [o]) = .ok (.bl (decide (x ∈ found ++ told.take i))) (h' ++ [o]) := e_inL (h1 := h' ++ [o]) (h2 := h' ++ [o]) (e_var rfl) (e_var rfl) (fo.get0 F'.g) hN hfi
      have c2 : evE T (call n) (.cmp .nin (.var 11) (.var 3)) (ρs d t lr lt la' c fq' aq calls z9 (some (scanV (c', told))) (some (.str x)) (some (.int (sp s x : Nat))) y13) (h' ++ [o]) = .ok (.bl (!decide (x ∈ ns))) (h' ++ [o]) := e_ninL (h1 := h' ++ [o]) (h2 := h' ++ [o]) (e_var rfl) (e_var rfl) (fo.get0 (f'.get0 L.g)) hN S.w.ok
      have c3 : evE T (call n) (.cmp .lt (.var 12) (.var 4)) (ρs d t lr lt la' c fq' aq calls z9 (some (scanV (c', told))) (some (.str x)) (some (.int (sp s x : Nat))) y13) (h' ++ [o]) = .ok (.bl (decide (((sp s x : Nat) : Int) < la'))) (h' ++ [o]) := e_cmp (h1 := h' ++ [o]) (h2 := h' ++ [o]) (e_var rfl) (e_var rfl) rfl
      rw [decide_eq_false hnf] at c1
      rw [decide_eq_true hx] at c2
      rw [decide_eq_false (by omega)] at c3
      have e2 : evE T (call n) (.bin .add (.var 6) (.lst [.var 11])) (ρs d t lr lt la' c fq' aq calls z9 (some (scanV (c', told))) (some (.str x)) (some (.int (sp s x : Nat))) y13) (h' ++ [o]) = .ok (.ref (h'.length + 2)) (h' ++ [o] ++ [.lst [.str x]] ++ [.lst ((found ++ told.take (i + 1)).map .str)]) := by
        refine e_bin (v := .ref fq') (w := .ref (h' ++ [o]).length) (h1 := h' ++ [o]) (h2 := h' ++ [o] ++ [.lst [.str x]]) (e_var rfl) (e_lst (e_one (e_var rfl)) (by simp)) ?_
        have g1 : (h' ++ [o] ++ [PO.lst [PV.str x]])[fq']? = some (.lst ((found ++ told.take i).map .str)) := app_at (app_at F'.g)
        have g2 : (h' ++ [o] ++ [PO.lst [PV.str x]])[(h' ++ [o]).length]? = some (.lst [PV.str x]) := get_last
        simp only [pBin, g1, g2]
        rw [if_pos (by rw [List.length_map]; exact Nat.le_trans (show (found ++ told.take i).length + 1 ≤ 100 by omega) (by decide)), List.take_succ_eq_append_getElem hi', hxx]
        simp
      refine ⟨.str x, _, h' ++ [o] ++ [.lst [.str x]] ++ [.lst ((found ++ told.take (i + 1)).map .str)], fix_at (by simp [hi', hxx]), ?_, ⟨h'.length + 2, some (.str x), some (.int (sp s x : Nat)), y13, rfl, ?_, ?_, ?_⟩⟩
      · rw [forB_nm, la_take hi', hxx]
        refine st_nx (ρ1 := ρs d t lr lt la' c fq' aq calls z9 (some (scanV (c', told))) (some (.str x)) (some (.int (sp s x : Nat))) y13) (h1 := h' ++ [o]) (s_asg eo) ?_
        refine st_no (h1 := h' ++ [o]) (e_orF c1 (e_orF c2 c3)) ?_
        exact st_nx (s_asgt (e_tup (e_two e2 (e_var rfl)) (by simp)) rfl) s_nil
      · exact f'.trans ((fo.trans Fr.app).trans Fr.app)
      · have : h'.length + 2 = (h' ++ [o] ++ [PO.lst [PV.str x]]).length := by simp
        rw [this]
        exact get_last
      · intro q
        have := S.w.lt q
        have := f'.1
        omega) (fun ρ h' _ => fix_end)
  subst eρ
  rw [List.length_map, List.take_length] at e3 F3
  exact ⟨h3, fq3, y11, y12, y13, e3, f3, F3⟩
end
end K06
set_option Elab.async false
set_option linter.all false
set_option maxRecDepth 100000
set_option maxHeartbeats 400000
namespace K06
open PySem PySem.Spec PyProof.Rows L2 Mn
def inF (ns : List Tx) : PV → Bool
  | .str y => decide (y ∈ ns)
  | _ => false
def ninF (ns : List Tx) : PV → Bool
  | .str y => !decide (y ∈ ns)
  | _ => false
theorem filter_str (f : PV → Bool) (g : Tx → Bool) (k : ∀ x, f (.str x) = g x) : ∀ l : List Tx, (l.map PV.str).filter f = (l.filter g).map .str
  | [] => rfl
  | q :: l => by
    rw [List.map_cons, List.filter_cons, List.filter_cons, k q, filter_str f g k l]
    split <;> rfl
def sChg : Sm := .ite (.cmp .ne (.var 5) (.con (.int 0))) [.asg (.nm 3) (.call 27 [.var 0, .var 1, .var 2, .var 3])] []
def sBody : List Sm := [.asg (.nm 7) (.lc (.var 11) [11] (.nm 11) .seq [.var 7] [.cmp .in_ (.var 11) (.var 3)]), .asg (.nm 9) (.bin .add (.con (.int 1)) (.call 16 [.var 0, .con (.int 4)])), .asg (.nm 10) (.mt 18 .none (.var 1) [.var 5, .var 9]), .ite (.or (.cmp .ne (.var 10) (.call 26 [.var 2, .var 3, .var 5, .var 9])) (.and (.cmp .ne (.ix (.var 10) (.con (.int 0))) (.con (.int 0))) (.cmp .le (.ix (.var 10) (.con (.int 0))) (.var 5)))) [.ret (.con (.bl false))] [], .for_ (.nm 11) .seq [.ix (.var 10) (.con (.int 1))] sTold, .asg (.tp [5, 8]) (.tup [.ix (.var 10) (.con (.int 0)), .bin .add (.var 8) (.con (.int 1))]), sChg, .ite (.cmp .gt (.var 8) (.con (.int 40))) [.ret (.con (.bl false))] []]
section
variable {n d b s t lr lt fq aq calls m : Nat} {la c : Int} {ρ : PEnv} {h h1 h2 h3 : PH} {p p1 p' : Ps} {ns ns' found always told : List Tx} {z9 z10 z11 z12 z13 : Option PV}
structure Sc (p0 : Ps) (h0 h : PH) (s d b t lr lt fq aq m : Nat) (c la : Int) (calls : Nat) (p : Ps) (ns found always : List Tx) : Prop where
  S : St h s d (b + 12 * m) t lr p ns
  L : Lt h lt p ns
  F : Lt h fq p found
  A : Lt h aq p always
  fo : ∀ x ∈ found, IsN x
  fn : found.Nodup
  ao : ∀ x ∈ always, IsN x
  an : always.length ≤ 20
  J : Jv s m c calls la found always
  o : Own p0 p h0
  f : Fr (d :: p0.all) h0 h
theorem pu_scan {c' : Int} (ht : ∀ x ∈ told, IsN x) : pu (scanV (c', told)) = true ∧ dpt (scanV (c', told)) ≤ 60 := by
  have h1 := (pus_str ht).1
  have h2 := dpts_str told
  unfold scanV
  constructor
  · simp [pu, pus, h1]
  · simp only [dpt, dpts]
    omega
theorem sc_body (hs2 : s < 3) {p0 : Ps} {h0 : PH} (K : Sc p0 h0 h s d b t lr lt fq aq m c la calls p ns found always) (hl : calls = 0 ∨ c ≠ 0) :
    Al (fun f h2 => ∃ ρ1, f = .nx ρ1 ∧ ∃ m', m' < m ∧ ∃ lt' fq' aq' c' la' p' ns' found' always' y9 y10 y11 y12 y13, ρ1 = ρs d t lr lt' la' c' fq' aq' (calls + 1) y9 y10 y11 y12 y13 ∧ Sc p0 h0 h2 s d b t lr lt' fq' aq' m' c' la' (calls + 1) p' ns' found' always')
      (exSs T (call (n + 11)) 100 sBody (ρs d t lr lt la c fq aq calls z9 z10 z11 z12 z13) h) := by
  obtain ⟨S, L, F, A, fo, fn, ao, an, J, o0, f0⟩ := K
  obtain ⟨hc0, hc1⟩ := J.cur
  -- always
  have e1 := lc_ref (T := T) (cl := call (n + 11)) (e := .var 11) (src := .var 7) (own := [11]) (t := .nm 11) (ifs := [.cmp .in_ (.var 11) (.var 3)]) (ρ := ρs d t lr lt la c fq aq calls z9 z10 z11 z12 z13) (h := h) (h1 := h) (xs := always.map .str) (l := aq) (inF ns) id (e_var rfl) A.g (by rw [List.length_map]; omega) (fun u hu h' _ hh => by
    obtain ⟨y, hy, rfl⟩ := List.mem_map.mp hu
    have q1 : evE T (call (n + 11)) (.cmp .in_ (.var 11) (.var 3)) (ρs d t lr lt la c fq aq calls z9 z10 (some (.str y)) z12 z13) h' = .ok (.bl (inF ns (.str y))) h' := e_inL (h1 := h') (h2 := h') (e_var rfl) (e_var rfl) (by rw [hh lt (get_lt L.g)]; exact L.g) (ao y hy) S.w.ok
    exact lcB_if (b := inF ns (.str y)) (ρ1 := ρs d t lr lt la c fq aq calls z9 z10 (some (.str y)) z12 z13) rfl q1 (fun _ => e_var rfl))
  rw [filter_str (inF ns) (fun x => decide (x ∈ ns)) (fun _ => rfl), List.map_id] at e1
  have J1 : Jv s m c calls la found (always.filter fun x => decide (x ∈ ns)) := J.sub fun x hx => (List.mem_filter.mp hx).1
  have ao1 : ∀ x ∈ always.filter (fun x => decide (x ∈ ns)), IsN x := fun x hx => ao x (List.mem_filter.mp hx).1
  have ai1 : ∀ x ∈ always.filter (fun x => decide (x ∈ ns)), x ∈ ns := fun x hx => of_decide_eq_true (List.mem_filter.mp hx).2
  have an1 : (always.filter fun x => decide (x ∈ ns)).length ≤ 20 := Nat.le_trans (List.length_filter_le _ _) an
  generalize always.filter (fun x => decide (x ∈ ns)) = al1 at e1 J1 ao1 ai1 an1
  have fA : Fr [] h (h ++ [PO.lst (al1.map PV.str)]) := Fr.app
  have A1 : Lt (h ++ [PO.lst (al1.map PV.str)]) h.length p al1 := ⟨by simp, fun q => by have := S.w.lt q; omega⟩
  refine al_nxs (s_asg e1) ?_
  generalize h ++ [PO.lst (al1.map PV.str)] = h1 at fA A1
  have S1 := S.fr0 fA
  have L1 := L.fr0 fA
  have F1 := F.fr0 fA
  have f1 := f0.trans fA.nil
  generalize h.length = aq1 at A1
  -- count
  show Al _ (exSs T (call (n + 11)) 100 _ (ρs d t lr lt la c fq aq1 calls z9 z10 z11 z12 z13) h1)
  obtain ⟨m', hm', J2⟩ : ∃ m', m' < m ∧ True := ⟨m - 1, by cases J with | live _ _ _ _ _ hm _ => omega | done h0 => (rcases hl with q | q; exact absurd q h0; exact absurd rfl q), trivial⟩
  clear J2
  refine al_ss (al_asg (al_bin ?_))
  repeat (first | (with_reducible show Al _ (evEs _ _ (_ :: _) _ _)); refine al_cons (fun _ e => nomatch e) ?_ | (with_reducible show Al _ (evEs _ _ [] _ _)); refine al_nil ?_ | (with_reducible show Al _ (evE _ _ (.var _) _ _)); refine al_var rfl ?_ | (with_reducible show Al _ (evE _ _ (.con _) _ _)); refine al_con ?_ | (with_reducible show Al _ (evE _ _ (.call _ _) _ _)); refine al_call rfl ?_ | (with_reducible show Al _ (evE _ _ (.bin _ _ _) _ _)); refine al_bin ?_ | (with_reducible show Al _ (evE _ _ (.cmp _ _ _) _ _)); refine al_cmp ?_ | (with_reducible show Al _ (evE _ _ (.bi _ _) _ _)); refine al_bi ?_ | (with_reducible show Al _ (evE _ _ (.tup _) _ _)); refine al_tup ?_ | (with_reducible show Al _ (evE _ _ (.lst _) _ _)); refine al_lst ?_ | (with_reducible show Al _ (exS _ _ _ (.ret _) _ _)); refine al_ret ?_ | (with_reducible show Al _ (exS _ _ _ (.asg (.nm _) _) _ _)); refine al_asg ?_ | (with_reducible show Al _ (exS _ _ _ (.asg (.tp _) _) _ _)); refine al_asgt ?_ | (with_reducible show Al _ (exSs _ _ _ (.asg _ _ :: _) _ _)); refine al_ss ?_ | (with_reducible show Al _ (exSs _ _ _ (.ret _ :: _) _ _)); refine al_ss ?_)
  have S1' := S1.le (b' := b + 12 * (m - 1) + 11 + 1) (by omega)
  refine (a_roll (n := n + 10) S1'.dc (by omega) (by omega)).imp fun v h2 ⟨⟨r, hr, e⟩, dc2, f2⟩ => ?_
  subst e
  refine Al.ok (a := .int ((r + 1 : Nat))) (h := h2) (by simp only [pBin]; congr 2; push_cast; omega) ?_
  show Al _ (exSs T (call (n + 11)) 100 _ (ρs d t lr lt la c fq aq1 calls (some (.int (r + 1 : Nat))) z10 z11 z12 z13) h2)
  have S2 := S1'.draw dc2 f2
  have L2' := L1.draw S1'.dc f2
  have F2 := F1.draw S1'.dc f2
  have A2 := A1.draw S1'.dc f2
  have f02 := f1.trans (f2.mono (S' := d :: p0.all) (by simp))
  clear dc2 f2 f1 A1 F1 L1 S1 S1' e1 fA
  -- the call
  obtain ⟨h3, e3, f3⟩ := p_scan (n := n + 7) S2.w (c := c) (k := r + 1) hc0 hc1 (by omega) (by omega)
  have ss := scan_step (s := s) S2.w.nd S2.w.ok hc0 (r + 1)
  obtain ⟨mv, ht⟩ := S2.w.ht
  have L3 := L2'.fr0 f3
  have S3 := S2.fr0 f3
  obtain ⟨h4, e4, f4⟩ := l_due (n := n + 10) (c := c) (k := r + 1) S3.r L3.g S3.w.ok (by omega) (by omega)
  rw [rows_there S3.w.nd S3.w.ok fun _ => Iff.rfl] at e4
  obtain ⟨c', told, eS⟩ : ∃ c' told, scanP (srtP (ns.map (pr s))) c (r + 1) = (c', told) := ⟨_, _, rfl⟩
  rw [eS] at e3 e4 ss
  simp only at ss
  have hti : ∀ x ∈ told, x ∈ ns := fun x hx => (ss.a x hx).1
  obtain ⟨pu1, dp1⟩ := pu_scan (c' := c') fun x hx => S2.w.ok x (hti x hx)
  have m3 : exS T (call (n + 11)) 100 (.asg (.nm 10) (.mt 18 .none (.var 1) [.var 5, .var 9])) (ρs d t lr lt la c fq aq1 calls (some (.int (r + 1 : Nat))) z10 z11 z12 z13) h2 = .ok (.nx (ρs d t lr lt la c fq aq1 calls (some (.int (r + 1 : Nat))) (some (scanV (c', told))) z11 z12 z13)) h3 := s_asg (e_meth (g := 17) (vs := [.int c, .int (r + 1 : Nat)]) (h1 := h2) (h2 := h2) (e_var (by rw [S2.t_]; rfl)) ht rfl rfl (e_two (h1 := h2) (e_var rfl) (e_var rfl)) e3)
  refine al_nxs m3 ?_
  have c1 : evE T (call (n + 11)) (.cmp .ne (.var 10) (.call 26 [.var 2, .var 3, .var 5, .var 9])) (ρs d t lr lt la c fq aq1 calls (some (.int (r + 1 : Nat))) (some (scanV (c', told))) z11 z12 z13) h3 = .ok (.bl false) h4 := e_ne_same (h1 := h3) (e_var rfl) (e_call (f := 48) (vs := [.ref lr, .ref lt, .int c, .int (r + 1 : Nat)]) (h1 := h3) rfl rfl e4) pu1 dp1
  have i0 : evE T (call (n + 11)) (.ix (.var 10) (.con (.int 0))) (ρs d t lr lt la c fq aq1 calls (some (.int (r + 1 : Nat))) (some (scanV (c', told))) z11 z12 z13) h4 = .ok (.int c') h4 := e_ix (v := scanV (c', told)) (w := .int 0) (h1 := h4) (h2 := h4) (e_var rfl) e_con rfl
  have c2 : evE T (call (n + 11)) (.and (.cmp .ne (.ix (.var 10) (.con (.int 0))) (.con (.int 0))) (.cmp .le (.ix (.var 10) (.con (.int 0))) (.var 5))) (ρs d t lr lt la c fq aq1 calls (some (.int (r + 1 : Nat))) (some (scanV (c', told))) z11 z12 z13) h4 = .ok (.bl false) h4 := by
    have q := e_and (t := !decide (c' = 0)) (u := decide (c' ≤ c)) (h1 := h4) (e_nei (h1 := h4) i0 e_con) (fun _ => e_cmp (op := .le) (b := .var 5) (w := .int c) (h1 := h4) (h2 := h4) i0 (e_var rfl) rfl)
    have qv : (!decide (c' = 0) && decide (c' ≤ c)) = false := by
      by_cases z : c' = 0
      · rw [decide_eq_true z]; rfl
      · have := (ss.up z).1
        rw [decide_eq_false (p := c' ≤ c) (by omega), Bool.and_false]
    rw [q, qv]
  refine al_no (e_orF c1 c2) ?_
  have L4 := L3.fr0 f4
  have S4 := S3.fr0 f4
  have F4 := (F2.fr0 f3).fr0 f4
  have A4 := (A2.fr0 f3).fr0 f4
  have f04 := f02.trans (f3.trans f4).nil
  have hnd : (found ++ told).Nodup ∧ ∀ x ∈ told, la < (sp s x : Nat) := by
    cases J1 with
    | done h0 => (rcases hl with q | q; exact absurd q h0; exact absurd rfl q)
    | live _ _ ff ll _ _ _ =>
      refine ⟨List.nodup_append.mpr ⟨fn, ss.nd, fun x hx y hy e => ?_⟩, fun x hx => ?_⟩
      · subst e
        have := ff x hx
        have := (ss.a x hy).2.1
        omega
      · have := (ss.a x hx).2.1
        omega
  obtain ⟨h5, fq5, y11, y12, y13, e5, f5, F5⟩ := s_told (n := n + 11) (la := la) (c := c) (aq := aq1) (calls := calls) (z9 := some (.int (r + 1 : Nat))) (z11 := z11) (z12 := z12) (z13 := z13) (c' := c') S4 L4 F4 fo hti hnd.1 ss.pw hnd.2
  refine al_nxs e5 ?_
  obtain ⟨m', hm', J5⟩ := J1.step hl ai1 ss
  have m6 : exS T (call (n + 11)) 100 (.asg (.tp [5, 8]) (.tup [.ix (.var 10) (.con (.int 0)), .bin .add (.var 8) (.con (.int 1))])) (ρs d t lr lt (laOf s la told) c fq5 aq1 calls (some (.int (r + 1 : Nat))) (some (scanV (c', told))) y11 y12 y13) h5 = .ok (.nx (ρs d t lr lt (laOf s la told) c' fq5 aq1 (calls + 1) (some (.int (r + 1 : Nat))) (some (scanV (c', told))) y11 y12 y13)) h5 := by
    refine s_asgt (v := .tup [.int c', .int (calls + 1 : Nat)]) (e_tup (e_two (h1 := h5) (e_ix (v := scanV (c', told)) (w := .int 0) (h1 := h5) (h2 := h5) (e_var rfl) e_con rfl) ?_) (by simp)) rfl
    exact e_addk (e_var rfl) 1 rfl
  refine al_nxs m6 ?_
  have S5 := (S4.fr0 f5).le (b' := b + 12 * m' + 11) (by omega)
  have L5 := L4.fr0 f5
  have A5 := A4.fr0 f5
  have f05 := f04.trans f5.nil
  have fo5 : ∀ x ∈ found ++ told, IsN x := fun x hx => by
    rcases List.mem_append.mp hx with hx | hx
    · exact fo x hx
    · exact S2.w.ok x (hti x hx)
  generalize laOf s la told = la5 at J5
  have ec : evE T (call (n + 11)) (.cmp .ne (.var 5) (.con (.int 0))) (ρs d t lr lt la5 c' fq5 aq1 (calls + 1) (some (.int (r + 1 : Nat))) (some (scanV (c', told))) y11 y12 y13) h5 = .ok (.bl (!decide (c' = 0))) h5 := e_nei (h1 := h5) (e_var rfl) e_con
  have tail : ∀ {h6 p6 ns6 lt6}, Sc p0 h0 h6 s d b t lr lt6 fq5 aq1 m' c' la5 (calls + 1) p6 ns6 (found ++ told) al1 → Al (fun f h2 => ∃ ρ1, f = .nx ρ1 ∧ ∃ m', m' < m ∧ ∃ lt' fq' aq' c' la' p' ns' found' always' y9 y10 y11 y12 y13, ρ1 = ρs d t lr lt' la' c' fq' aq' (calls + 1) y9 y10 y11 y12 y13 ∧ Sc p0 h0 h2 s d b t lr lt' fq' aq' m' c' la' (calls + 1) p' ns' found' always') (exSs T (call (n + 11)) 100 [.ite (.cmp .gt (.var 8) (.con (.int 40))) [.ret (.con (.bl false))] []] (ρs d t lr lt6 la5 c' fq5 aq1 (calls + 1) (some (.int (r + 1 : Nat))) (some (scanV (c', told))) y11 y12 y13) h6) := fun {h6 p6 ns6 lt6} K => by
    have cg : evE T (call (n + 11)) (.cmp .gt (.var 8) (.con (.int 40))) (ρs d t lr lt6 la5 c' fq5 aq1 (calls + 1) (some (.int (r + 1 : Nat))) (some (scanV (c', told))) y11 y12 y13) h6 = .ok (.bl (decide (((calls + 1 : Nat) : Int) > 40))) h6 := e_cmp (h1 := h6) (h2 := h6) (e_var rfl) e_con rfl
    have := K.J.calls
    rw [decide_eq_false (by omega)] at cg
    exact al_no cg (al_nx ⟨_, rfl, m', hm', lt6, fq5, aq1, c', la5, p6, ns6, _, _, _, _, _, _, _, rfl, K⟩)
  by_cases hz : c' = 0
  · rw [decide_eq_true hz] at ec
    refine al_nxs (s_ifF (t_bl ec) s_nil) (tail ⟨S5.le (by omega), L5, F5, A5, fo5, hnd.1, ao1, an1, J5, o0, f05⟩)
  · rw [decide_eq_false hz] at ec
    refine al_ss (al_ite (al_evT (Al.ok ec ⟨true, rfl, ?_⟩)))
    rw [if_pos rfl]
    refine al_ss (al_asg (al_call rfl ?_))
    repeat (first | (with_reducible show Al _ (evEs _ _ (_ :: _) _ _)); refine al_cons (fun _ e => nomatch e) ?_ | (with_reducible show Al _ (evEs _ _ [] _ _)); refine al_nil ?_ | (with_reducible show Al _ (evE _ _ (.var _) _ _)); refine al_var rfl ?_ | (with_reducible show Al _ (evE _ _ (.con _) _ _)); refine al_con ?_ | (with_reducible show Al _ (evE _ _ (.call _ _) _ _)); refine al_call rfl ?_ | (with_reducible show Al _ (evE _ _ (.bin _ _ _) _ _)); refine al_bin ?_ | (with_reducible show Al _ (evE _ _ (.cmp _ _ _) _ _)); refine al_cmp ?_ | (with_reducible show Al _ (evE _ _ (.bi _ _) _ _)); refine al_bi ?_ | (with_reducible show Al _ (evE _ _ (.tup _) _ _)); refine al_tup ?_ | (with_reducible show Al _ (evE _ _ (.lst _) _ _)); refine al_lst ?_ | (with_reducible show Al _ (exS _ _ _ (.ret _) _ _)); refine al_ret ?_ | (with_reducible show Al _ (exS _ _ _ (.asg (.nm _) _) _ _)); refine al_asg ?_ | (with_reducible show Al _ (exS _ _ _ (.asg (.tp _) _) _ _)); refine al_asgt ?_ | (with_reducible show Al _ (exSs _ _ _ (.asg _ _ :: _) _ _)); refine al_ss ?_ | (with_reducible show Al _ (exSs _ _ _ (.ret _ :: _) _ _)); refine al_ss ?_)
    refine (l_changed (n := n + 1) hs2 S5 L5).imp fun v h6 ⟨p6, lt6, ns6, e, S6, L6, o6, f6⟩ => ?_
    subst e
    have fqd : fq5 ≠ d := dc_ne S5.dc F5.g (by simp)
    have aqd : aq1 ≠ d := dc_ne S5.dc A5.g (by simp)
    refine al_nx ?_
    exact tail ⟨S6, L6, F5.chg o6 f6 fqd, A5.chg o6 f6 aqd, fo5, hnd.1, ao1, an1, J5, o0.trans o6 f05.1, o0.frd f05 f6⟩
end
end K06
set_option Elab.async false
set_option linter.all false
set_option maxRecDepth 100000
set_option maxHeartbeats 400000
namespace K06
open PySem PySem.Spec PyProof.Rows L2 Mn
section
variable {n d b s t lr lt fq aq calls m : Nat} {la c : Int} {ρ : PEnv} {h h1 h2 h3 : PH} {p p1 p' : Ps} {ns ns' found always told : List Tx} {z9 z10 z11 z12 z13 : Option PV}
def sCond : Ex := .or (.cmp .eq (.var 8) (.con (.int 0))) (.cmp .ne (.var 5) (.con (.int 0)))
theorem sc_wh (hs2 : s < 3) {p0 : Ps} {h0 : PH} (K : Sc p0 h0 h s d b t lr lt fq aq m c la calls p ns found always) (hm : m < 100) :
    Al (fun f h2 => ∃ lt' fq' aq' la' calls' p' ns' found' always' y9 y10 y11 y12 y13, f = .nx (ρs d t lr lt' la' 0 fq' aq' calls' y9 y10 y11 y12 y13) ∧ ∃ m', Sc p0 h0 h2 s d b t lr lt' fq' aq' m' 0 la' calls' p' ns' found' always' ∧ ∀ x ∈ always', x ∈ found')
      (exS T (call (n + 11)) 100 (.wh sCond sBody) (ρs d t lr lt la c fq aq calls z9 z10 z11 z12 z13) h) := by
  simp only [exS]
  refine al_wh (I := fun m ρ h => ∃ lt fq aq c la calls p ns found always z9 z10 z11 z12 z13, ρ = ρs d t lr lt la c fq aq calls z9 z10 z11 z12 z13 ∧ Sc p0 h0 h s d b t lr lt fq aq m c la calls p ns found always) ?_ m 100 _ h hm ⟨lt, fq, aq, c, la, calls, p, ns, found, always, z9, z10, z11, z12, z13, rfl, K⟩
  rintro m ρ h ⟨lt, fq, aq, c, la, calls, p, ns, found, always, z9, z10, z11, z12, z13, rfl, K⟩
  have e : evT T (call (n + 11)) sCond (ρs d t lr lt la c fq aq calls z9 z10 z11 z12 z13) h = .ok (decide ((calls : Int) = 0) || !decide (c = 0)) h := t_bl (e_or (e_eqi (h1 := h) (h2 := h) (e_var rfl) e_con) fun _ => e_nei (h1 := h) (h2 := h) (e_var rfl) e_con)
  by_cases q : calls = 0 ∨ c ≠ 0
  · have qv : (decide ((calls : Int) = 0) || !decide (c = 0)) = true := by
      rcases q with q | q
      · rw [decide_eq_true (p := (calls : Int) = 0) (by omega)]; rfl
      · rw [decide_eq_false q, Bool.not_false, Bool.or_true]
    rw [qv] at e
    refine Al.ok e ?_
    rw [if_pos rfl]
    refine (sc_body (n := n) hs2 K q).imp fun f h2 ⟨ρ1, ef, m', hm', k⟩ => ?_
    subst ef
    obtain ⟨lt', fq', aq', c', la', p', ns', found', always', y9, y10, y11, y12, y13, e1, K'⟩ := k
    exact ⟨m', hm', lt', fq', aq', c', la', _, p', ns', found', always', y9, y10, y11, y12, y13, e1, K'⟩
  · have q1 : calls ≠ 0 := fun z => q (.inl z)
    have q2 : c = 0 := by
      by_cases z : c = 0
      · exact z
      · exact absurd (.inr z) q
    have qv : (decide ((calls : Int) = 0) || !decide (c = 0)) = false := by
      rw [decide_eq_false (p := (calls : Int) = 0) (by omega), decide_eq_true q2]; rfl
    rw [qv] at e
    refine Al.ok e ?_
    rw [if_neg (by simp)]
    subst q2
    refine ⟨lt, fq, aq, la, calls, p, ns, found, always, z9, z10, z11, z12, z13, rfl, m, K, ?_⟩
    cases K.J with
    | live h0 => rcases h0 with z | z; exact absurd z q1; exact absurd rfl z
    | done _ a _ => exact a
theorem l_scan (hs2 : s < 3) (S : St h s d (b + 252) t lr p ns) (L : Lt h lt p ns) : Al (fun v h' => v = .bl true ∧ ∃ p' ns', St h' s d b t lr p' ns' ∧ Own p p' h ∧ Fr (d :: p.all) h h') (call (n + 12) 50 [.ref d, .ref t, .ref lr, .ref lt] h) := by
  rw [call_run (d := d__law_scan_right) rfl rfl]
  refine al_run rfl ?_
  show Al _ (exSs T (call (n + 11)) 100 b__law_scan_right [some (.ref d), some (.ref t), some (.ref lr), some (.ref lt), none, none, none, none, none, none, none, none, none, none] h)
  have fA : Fr [] h (h ++ [PO.lst []] ++ [PO.lst (ns.map PV.str)]) := Fr.app.trans Fr.app
  have m1 : exS T (call (n + 11)) 100 (.asg (.tp [5, 6, 7, 8]) (.tup [.con (.int 0), .lst [], .bi .list [.var 3], .con (.int 0)])) [some (.ref d), some (.ref t), some (.ref lr), some (.ref lt), none, none, none, none, none, none, none, none, none, none] h = .ok (.nx [some (.ref d), some (.ref t), some (.ref lr), some (.ref lt), none, some (.int 0), some (.ref h.length), some (.ref (h.length + 1)), some (.int 0), none, none, none, none, none]) (h ++ [PO.lst []] ++ [PO.lst (ns.map PV.str)]) := by
    refine s_asgt (v := .tup [.int 0, .ref h.length, .ref (h.length + 1), .int 0]) (e_tup (e_cons (h1 := h) e_con (e_cons (h1 := h ++ [.lst []]) e_nilL (e_cons (h1 := h ++ [PO.lst []] ++ [PO.lst (ns.map PV.str)]) ?_ (e_one e_con)))) (by simp)) rfl
    refine e_bi (vs := [.ref lt]) (h1 := h ++ [.lst []]) (e_one (e_var rfl)) ?_
    simp only [pBi, lstAt, app_at L.g]
    simp
  refine al_nxs m1 (al_nxs (ρ1 := ρs d t lr lt (-1) 0 h.length (h.length + 1) 0 none none none none none) (s_asg (e_neg e_con)) ?_)
  have hF : Lt (h ++ [PO.lst []] ++ [PO.lst (ns.map PV.str)]) h.length p [] := ⟨by simp, fun q => by have := S.w.lt q; omega⟩
  have hA : Lt (h ++ [PO.lst []] ++ [PO.lst (ns.map PV.str)]) (h.length + 1) p ns := ⟨by simp, fun q => by have := S.w.lt q; omega⟩
  have K : Sc p h (h ++ [PO.lst []] ++ [PO.lst (ns.map PV.str)]) s d b t lr lt h.length (h.length + 1) 21 0 (-1) 0 p ns [] ns := ⟨S.fr0 fA, L.fr0 fA, hF, hA, fun x hx => (by cases hx), List.nodup_nil, S.w.ok, S.w.len, Jv.init s ns, Own.refl, fA.nil⟩
  refine al_ss ((sc_wh (n := n) hs2 K (by omega)).imp fun f h2 ⟨lt', fq', aq', la', calls', p', ns', found', always', y9, y10, y11, y12, y13, ef, m', K', hall⟩ => ?_)
  subst ef
  obtain ⟨S', L', F', A', fo, fn, ao, an, J, o', f'⟩ := K'
  have e1 := lc_ref (T := T) (cl := call (n + 11)) (e := .var 11) (src := .var 7) (own := [11]) (t := .nm 11) (ifs := [.cmp .nin (.var 11) (.var 6)]) (ρ := ρs d t lr lt' la' 0 fq' aq' calls' y9 y10 y11 y12 y13) (h := h2) (h1 := h2) (xs := always'.map .str) (l := aq') (ninF found') id (e_var rfl) A'.g (by rw [List.length_map]; omega) (fun u hu h' _ hh => by
    obtain ⟨y, hy, rfl⟩ := List.mem_map.mp hu
    have q1 : evE T (call (n + 11)) (.cmp .nin (.var 11) (.var 6)) (ρs d t lr lt' la' 0 fq' aq' calls' y9 y10 (some (.str y)) y12 y13) h' = .ok (.bl (ninF found' (.str y))) h' := e_ninL (h1 := h') (h2 := h') (e_var rfl) (e_var rfl) (by rw [hh fq' (get_lt F'.g)]; exact F'.g) (ao y hy) fo
    exact lcB_if (b := ninF found' (.str y)) (ρ1 := ρs d t lr lt' la' 0 fq' aq' calls' y9 y10 (some (.str y)) y12 y13) rfl q1 (fun _ => e_var rfl))
  have e0 : (always'.filter fun x => !decide (x ∈ found')) = [] := List.filter_eq_nil_iff.mpr fun x hx => by simp [hall x hx]
  rw [filter_str (ninF found') (fun x => !decide (x ∈ found')) (fun _ => rfl), List.map_id, e0] at e1
  have fE : Fr [] h2 (h2 ++ [PO.lst []] ++ [PO.lst []]) := Fr.app.trans Fr.app
  have e2 : evE T (call (n + 11)) (.cmp .eq (.lc (.var 11) [11] (.nm 11) .seq [.var 7] [.cmp .nin (.var 11) (.var 6)]) (.lst [])) (ρs d t lr lt' la' 0 fq' aq' calls' y9 y10 y11 y12 y13) h2 = .ok (.bl true) (h2 ++ [PO.lst []] ++ [PO.lst []]) := e_eqL (h1 := h2 ++ [PO.lst []]) (q := h2.length) (r := (h2 ++ [PO.lst []]).length) (xs := []) (ys := []) e1 e_nilL (by simp) get_last rfl rfl (by decide) (by decide) (by simp)
  exact Al.ok (st_rt (s_ret e2)) ⟨rfl, p', ns', (S'.fr0 fE).le (by omega), o', f'.trans fE.nil⟩
end
section
variable {n d b s : Nat} {h : PH}
def mBody : List Sm := [.ex (.mt 0 .append (.var 3) [.mt 0 .pop (.var 2) [.call 16 [.var 0, .bi .len [.var 2]]]])]
theorem al_mixed {l : Nat} {xs : List Pr} (dc : Dc d (b + xs.length) h) (hl : h[l]? = some (.lst (xs.map ofP))) (hx : ∀ q ∈ xs, IsN q.2) (hz : xs.length ≤ 60) : Al (fun v h' => ∃ (q : Nat) (ys : List Pr), v = .ref q ∧ h'[q]? = some (.lst (ys.map ofP)) ∧ h.length ≤ q ∧ ys.Perm xs ∧ Dc d b h' ∧ Fr [d] h h') (call (n + 2) 40 [.ref d, .ref l] h) := by
  rw [call_run (d := d__law_mixed) rfl rfl]
  refine al_run rfl ?_
  show Al _ (exSs T (call (n + 1)) 100 [.asg (.tp [2, 3]) (.tup [.bi .list [.var 1], .lst []]), .wh (.cmp .ne (.var 2) (.lst [])) mBody, .ret (.var 3)] [some (.ref d), some (.ref l), none, none] h)
  have m1 : exS T (call (n + 1)) 100 (.asg (.tp [2, 3]) (.tup [.bi .list [.var 1], .lst []])) [some (.ref d), some (.ref l), none, none] h = .ok (.nx [some (.ref d), some (.ref l), some (.ref h.length), some (.ref (h.length + 1))]) (h ++ [PO.lst (xs.map ofP)] ++ [PO.lst []]) := by
    refine s_asgt (v := .tup [.ref h.length, .ref (h.length + 1)]) (e_tup (e_two (h1 := h ++ [PO.lst (xs.map ofP)]) ?_ ?_) (by simp)) rfl
    · exact e_bi (vs := [.ref l]) (h1 := h) (e_one (e_var rfl)) (by simp only [pBi, lstAt, hl])
    · have := e_nilL (T := T) (cl := call (n + 1)) (ρ := [some (.ref d), some (.ref l), none, none]) (h := h ++ [PO.lst (xs.map ofP)])
      rw [this]
      simp
  refine al_nxs m1 ?_
  have dlt := dc.lt
  refine al_ss ?_
  simp only [exS]
  refine al_wh (I := fun m ρ h' => ∃ left found : List Pr, ρ = [some (.ref d), some (.ref l), some (.ref h.length), some (.ref (h.length + 1))] ∧ h'[h.length]? = some (.lst (left.map ofP)) ∧ h'[h.length + 1]? = some (.lst (found.map ofP)) ∧ (found ++ left).Perm xs ∧ m = left.length ∧ Dc d (b + left.length) h' ∧ Fr [d] h h') ?_ xs.length 100 _ _ (by omega) ⟨xs, [], rfl, by simp, by simp, by simp, rfl, (dc.app _).app _, Fr.app.trans Fr.app⟩
  rintro m ρ h' ⟨left, found, rfl, g1, g2, pm, rfl, dc', f'⟩
  have hN : ∀ q ∈ found ++ left, IsN q.2 := fun q hq => hx q (pm.mem_iff.mp hq)
  have hlen : found.length + left.length ≤ 60 := by rw [← List.length_append, pm.length_eq]; exact hz
  have e : evT T (call (n + 1)) (.cmp .ne (.var 2) (.lst [])) [some (.ref d), some (.ref l), some (.ref h.length), some (.ref (h.length + 1))] h' = .ok (!decide (left = [])) (h' ++ [PO.lst []]) := t_bl (e_neL (h1 := h') (h2 := h' ++ [PO.lst []]) (q := h.length) (r := h'.length) (xs := left.map ofP) (ys := []) (e_var rfl) e_nilL (app_at g1) get_last (pus_of fun q hq => hN q (List.mem_append_right _ hq)) rfl (by have := dpts_of left; omega) (by decide) (by simp))
  refine Al.ok e ?_
  have g1' := app_at (g := [PO.lst []]) g1
  have g2' := app_at (g := [PO.lst []]) g2
  have dc2 := dc'.app [PO.lst []]
  have f2 := f'.trans (Fr.app (S := [d]) (h := h') (g := [PO.lst []]))
  generalize h' ++ [PO.lst []] = h2 at g1' g2' dc2 f2
  by_cases hn : left = []
  · subst hn
    rw [if_neg (by simp)]
    refine Al.ok (st_rt (s_ret (e_var (v := .ref (h.length + 1)) rfl))) ⟨_, found, rfl, g2', by omega, by simpa using pm, dc2.le (by simp), f2⟩
  · rw [decide_eq_false hn, if_pos (by rfl)]
    have hp : 0 < left.length := List.length_pos_iff.mpr hn
    refine al_ss (al_ex (al_mt rfl ?_))
    refine al_var (v := .ref (h.length + 1)) rfl ⟨.lappend, by simp only [kindAt, g2']; rfl, ?_⟩
    refine al_cons (fun _ e => nomatch e) (al_mt rfl ?_)
    refine al_var (v := .ref h.length) rfl ⟨.lpop, by simp only [kindAt, g1']; rfl, ?_⟩
    refine al_cons (fun _ e => nomatch e) (al_call rfl ?_)
    refine al_cons (fun _ e => nomatch e) (al_var rfl ?_)
    refine al_cons (fun _ e => nomatch e) (al_bi (al_cons (fun _ e => nomatch e) (al_var (v := .ref h.length) rfl (al_nil ?_))))
    refine Al.ok (a := .int left.length) (h := h2) (by simp only [pBi, g1', List.length_map]) (al_nil ?_)
    refine (a_roll (n := n) (b := b + (left.length - 1)) (dc2.le (by omega)) (by omega) (by omega)).imp fun v h3 ⟨⟨r, hr, ev⟩, dc3, f3⟩ => ?_
    subst ev
    have hr' : r < left.length := by omega
    have g13 := f3.get g1' (by simp; omega)
    have g23 := f3.get g2' (by simp; omega)
    refine al_nil ?_
    have si : PySem.seqIndex? (r : Int) (left.map ofP).length = some r := by
      rw [List.length_map]
      unfold PySem.seqIndex?
      simp
      omega
    refine Al.ok (a := ofP left[r]) (h := h3.set h.length (.lst ((left.eraseIdx r).map ofP))) ?_ ?_
    · simp only [pBq, g13, si]
      have e1 : (left.map ofP)[r]? = some (ofP left[r]) := by simp [hr']
      rw [e1]
      simp only
      rw [if_pos (by simp; omega), erase_map]
    refine al_nil ?_
    have g24 : (h3.set h.length (PO.lst ((left.eraseIdx r).map ofP)))[h.length + 1]? = some (.lst (found.map ofP)) := by rw [set_ne (by omega)]; exact g23
    refine Al.ok (a := .non) (h := (h3.set h.length (PO.lst ((left.eraseIdx r).map ofP))).set (h.length + 1) (.lst ((found ++ [left[r]]).map ofP))) ?_ ?_
    · simp only [pBq, g24]
      rw [if_pos (by rw [List.length_map]; exact sz100 (by omega))]
      simp
    refine al_nx ⟨left.length - 1, by omega, left.eraseIdx r, found ++ [left[r]], rfl, ?_, ?_, ?_, ?_, ?_, ?_⟩
    · rw [set_ne (by omega)]
      exact set_at g13
    · exact set_at g24
    · rw [List.append_assoc]
      exact (List.Perm.append_left _ (perm_erase left r hr')).trans pm
    · rw [List.length_eraseIdx]
      simp [hr']
    · rw [List.length_eraseIdx, if_pos hr']
      obtain ⟨b', eb, hb'⟩ := dc3
      refine ⟨b', ?_, hb'⟩
      rw [set_ne (by omega), set_ne (by omega)]
      exact eb
    · exact ((f2.trans f3).setNew (by omega)).setNew (by omega)
end
end K06
set_option Elab.async false
set_option linter.all false
set_option maxRecDepth 100000
set_option maxHeartbeats 400000
namespace K06
open Mn
theorem ddI_go : ∀ (l a : List Int), a.Nodup → (∀ x, x ∈ l.foldl (fun a n => if a.contains n then a else a ++ [n]) a ↔ x ∈ a ∨ x ∈ l) ∧ (l.foldl (fun a n => if a.contains n then a else a ++ [n]) a).Nodup ∧ (l.foldl (fun a n => if a.contains n then a else a ++ [n]) a).length ≤ a.length + l.length ∧ ((l.foldl (fun a n => if a.contains n then a else a ++ [n]) a).length = a.length + l.length → (a ++ l).Nodup)
  | [], a, nd => ⟨fun x => by simp, nd, by simp, fun _ => by simpa using nd⟩
  | n :: l, a, nd => by
    rw [List.foldl_cons]
    by_cases h : n ∈ a
    · have e : (if a.contains n = true then a else a ++ [n]) = a := if_pos (List.contains_iff_mem.mpr h)
      rw [e]
      obtain ⟨i1, i2, i3, i4⟩ := ddI_go l a nd
      refine ⟨fun x => ?_, i2, by simp only [List.length_cons]; omega, fun z => by simp only [List.length_cons] at z; omega⟩
      rw [i1 x, List.mem_cons]
      constructor
      · rintro (q | q)
        · exact .inl q
        · exact .inr (.inr q)
      · rintro (q | q | q)
        · exact .inl q
        · exact .inl (q ▸ h)
        · exact .inr q
    · have e : (if a.contains n = true then a else a ++ [n]) = a ++ [n] := if_neg fun z => h (List.contains_iff_mem.mp z)
      rw [e]
      have nd' : (a ++ [n]).Nodup := List.nodup_append.mpr ⟨nd, by simp, fun x hx y hy e => by rw [List.mem_singleton.mp hy] at e; exact h (e ▸ hx)⟩
      obtain ⟨i1, i2, i3, i4⟩ := ddI_go l (a ++ [n]) nd'
      refine ⟨fun x => ?_, i2, by simp only [List.length_cons, List.length_append, List.length_nil] at i3 ⊢; omega, fun z => ?_⟩
      · rw [i1 x, List.mem_append, List.mem_singleton, List.mem_cons]
        constructor
        · rintro ((q | q) | q)
          · exact .inl q
          · exact .inr (.inl q)
          · exact .inr (.inr q)
        · rintro (q | q | q)
          · exact .inl (.inl q)
          · exact .inl (.inr q)
          · exact .inr q
      · have := i4 (by simp only [List.length_cons, List.length_append, List.length_nil] at z ⊢; omega)
        simpa using this
theorem ddI_mem {l : List Int} {x : Int} : x ∈ ddI l ↔ x ∈ l := by
  have := (ddI_go l [] List.nodup_nil).1 x
  simpa [ddI] using this
theorem ddI_len (l : List Int) : (ddI l).length ≤ l.length := by
  have := (ddI_go l [] List.nodup_nil).2.2.1
  simpa [ddI] using this
theorem ddI_nd {l : List Int} (h : ¬ (ddI l).length < l.length) : l.Nodup := by
  have h2 := (ddI_go l [] List.nodup_nil).2.2.2
  have h1 := ddI_len l
  have := h2 (by unfold ddI at h h1; simp only [List.length_nil]; omega)
  simpa using this
def callsOk (n k calls : Nat) : Prop := (n = 0 ∧ calls = 1) ∨ ∃ j, calls = j + 1 ∧ j * k < n ∧ n ≤ (j + 1) * k
inductive Vv (L : List Pr) (k : Nat) : Int → Nat → List Tx → Prop
  | live {c : Int} {calls : Nat} {found : List Tx} {zs : List Int} (h0 : calls = 0 ∨ c ≠ 0) (hc : 0 ≤ c) (f : found = (L.take (place L (c, []))).map (·.2)) (zl : zs.length = calls) (zn : zs.Nodup) (zm : ∀ z ∈ zs, z ∈ L.map (·.1) ∧ z < c) (nc : (L.map (·.1)).Nodup → place L (c, []) = calls * k) (lt : calls ≠ 0 → place L (c, []) < L.length) : Vv L k c calls found
  | done {calls : Nat} {found : List Tx} (h0 : calls ≠ 0) (f : found = L.map (·.2)) (zl : calls ≤ max 1 (ddI (L.map (·.1))).length) (nc : (L.map (·.1)).Nodup → callsOk L.length k calls) : Vv L k 0 calls found
theorem place_0 {L : List Pr} (hL : ∀ q ∈ L, 0 ≤ q.1) : place L (0, []) = 0 := by
  unfold place
  rw [List.filter_eq_nil_iff.mpr]
  · rfl
  · intro q hq
    rw [lexP_0]
    have := hL q hq
    simp
    omega
theorem Vv.init {L : List Pr} (hL : ∀ q ∈ L, 0 ≤ q.1) (k : Nat) : Vv L k 0 0 [] := .live (zs := []) (.inl rfl) (by omega) (by rw [place_0 hL]; rfl) rfl List.nodup_nil (fun z h => by cases h) (fun _ => by rw [place_0 hL]; omega) (fun h => absurd rfl h)
theorem zs_le {L : List Pr} {zs : List Int} (zn : zs.Nodup) (zm : ∀ z ∈ zs, z ∈ L.map (·.1)) : zs.length ≤ (ddI (L.map (·.1))).length := nd_len zn fun z hz => ddI_mem.mpr (zm z hz)
theorem strict {L : List Pr} (h : Srt L) (nd : (L.map (·.1)).Nodup) : L.Pairwise fun a b => a.1 < b.1 := by
  rw [List.nodup_iff_pairwise_ne, List.pairwise_map] at nd
  refine (List.pairwise_and_iff.mpr ⟨srt_fst h, nd⟩).imp fun {a b} ⟨h1, h2⟩ => by omega
theorem Vv.step {L : List Pr} {k calls : Nat} {c : Int} {found : List Tx} (h : Srt L) (hk : 1 ≤ k) (hL : ∀ q ∈ L, 0 ≤ q.1) (V : Vv L k c calls found) (hl : calls = 0 ∨ c ≠ 0) : Vv L k (scanP L c k).1 (calls + 1) (found ++ (scanP L c k).2) := by
  cases V with
  | done h0 => rcases hl with q | q; exact absurd q h0; exact absurd rfl q
  | @live _ _ _ zs h0 hc f zl zn zm nc lt =>
    obtain ⟨p1, p2⟩ := scan_prog h (c := c) hk
    have hle := (srt_split (c, []) h).2.2
    by_cases hq : place L (c, []) = L.length
    · have c0 : calls = 0 := by
        by_cases z : calls = 0
        · exact z
        · have := lt z; omega
      rw [p1 hq]
      refine .done (by omega) ?_ (by omega) (fun nd => ?_)
      · rw [f, hq, List.take_length]
        simp
      · have := nc nd
        refine .inl ⟨?_, by omega⟩
        rw [c0] at this
        omega
    · obtain ⟨hi, hcz, es⟩ := p2 (by omega)
      rw [es]
      have hm := place_mono (L := L) (c := c) (e := (L[min (place L (c, []) + k) L.length - 1]).1 + 1) (by omega)
      have h3 := (srt_split ((L[min (place L (c, []) + k) L.length - 1]).1 + 1, []) h).2.2
      have hzm : (L[min (place L (c, []) + k) L.length - 1]).1 ∈ L.map (·.1) := List.mem_map.mpr ⟨_, List.getElem_mem hi, rfl⟩
      have hstr : (L.map (·.1)).Nodup → place L ((L[min (place L (c, []) + k) L.length - 1]).1 + 1, []) = min (place L (c, []) + k) L.length := fun nd => by
        have st := strict h nd
        have g1 := srt_get (p := ((L[min (place L (c, []) + k) L.length - 1]).1 + 1, [])) h hi
        rw [lexP_0] at g1
        have g1 : min (place L (c, []) + k) L.length - 1 < place L ((L[min (place L (c, []) + k) L.length - 1]).1 + 1, []) := of_decide_eq_true (by rw [← g1]; exact decide_eq_true (by omega))
        by_cases z : min (place L (c, []) + k) L.length < L.length
        · have g2 := srt_get (p := ((L[min (place L (c, []) + k) L.length - 1]).1 + 1, [])) h z
          rw [lexP_0] at g2
          have := List.pairwise_iff_getElem.mp st _ _ hi z (by omega)
          rw [decide_eq_false (by omega)] at g2
          have := of_decide_eq_false g2.symm
          omega
        · omega
      have hfnd : found ++ ((L.drop (place L (c, []))).take (place L ((L[min (place L (c, []) + k) L.length - 1]).1 + 1, []) - place L (c, []))).map (·.2) = (L.take (place L ((L[min (place L (c, []) + k) L.length - 1]).1 + 1, []))).map (·.2) := by
        rw [f, ← List.map_append]
        congr 1
        have : place L ((L[min (place L (c, []) + k) L.length - 1]).1 + 1, []) = place L (c, []) + (place L ((L[min (place L (c, []) + k) L.length - 1]).1 + 1, []) - place L (c, [])) := by omega
        conv => rhs; rw [this]
        rw [List.take_add]
      have h0z : 0 ≤ (L[min (place L (c, []) + k) L.length - 1]).1 := hL _ (List.getElem_mem hi)
      simp only
      rw [hfnd]
      have hstr' := hstr
      generalize (L[min (place L (c, []) + k) L.length - 1]).1 = z at hcz hm h3 hzm hstr h0z
      have zn' : (z :: zs).Nodup := List.nodup_cons.mpr ⟨fun q => by have := (zm z q).2; omega, zn⟩
      by_cases hlt : place L (z + 1, []) < L.length
      · rw [if_pos hlt]
        refine .live (zs := z :: zs) (.inr (by omega)) (by omega) rfl (by simp [zl]) zn' (fun y hy => ?_) (fun nd => ?_) (fun _ => hlt)
        · rcases List.mem_cons.mp hy with rfl | hy
          · exact ⟨hzm, by omega⟩
          · exact ⟨(zm y hy).1, by have := (zm y hy).2; omega⟩
        · have := hstr nd
          have := nc nd
          rw [Nat.succ_mul]
          omega
      · rw [if_neg hlt]
        have e : place L (z + 1, []) = L.length := by omega
        refine .done (by omega) (by rw [e, List.take_length]) ?_ (fun nd => ?_)
        · have := zs_le (L := L) zn' fun y hy => by
            rcases List.mem_cons.mp hy with rfl | hy
            · exact hzm
            · exact (zm y hy).1
          simp only [List.length_cons] at this
          omega
        · have h1 := hstr nd
          have h2 := nc nd
          refine .inr ⟨calls, rfl, by omega, ?_⟩
          rw [Nat.succ_mul]
          omega
theorem calls_div {n k calls : Nat} (hk : 1 ≤ k) (h : callsOk n k calls) : calls = max 1 ((n + k - 1) / k) := by
  rcases h with ⟨h1, h2⟩ | ⟨j, h1, h2, h3⟩
  · subst h1 h2
    have : (0 + k - 1) / k = 0 := Nat.div_eq_of_lt (by omega)
    rw [this]
    rfl
  · have : (n + k - 1) / k = j + 1 := by
      rw [Nat.succ_mul] at h3
      refine Nat.div_eq_of_lt_le ?_ ?_
      · rw [Nat.succ_mul]; omega
      · rw [Nat.succ_mul, Nat.succ_mul]; omega
    rw [this, h1]
    omega
end K06
set_option Elab.async false
set_option linter.all false
set_option maxRecDepth 100000
set_option maxHeartbeats 400000
namespace K06
open PySem PySem.Spec PyProof.Rows L2 Mn
def ρt (d t lr lt k : Nat) (c : Int) (fq calls : Nat) (z5 z9 z10 z11 : Option PV) : PEnv := [some (.ref d), some (.ref t), some (.ref lr), some (.ref lt), some (.int k), z5, some (.int c), some (.ref fq), some (.int calls), z9, z10, z11]
def tCond : Ex := .or (.cmp .eq (.var 8) (.con (.int 0))) (.cmp .ne (.var 6) (.con (.int 0)))
def tBody : List Sm := [.asg (.tp [6, 9]) (.mt 18 .none (.var 1) [.var 6, .var 4]), .asg (.tp [7, 8]) (.tup [.bin .add (.var 7) (.bi .list [.var 9]), .bin .add (.var 8) (.con (.int 1))]), .ite (.cmp .gt (.var 8) (.con (.int 40))) [.ret (.con (.bl false))] []]
theorem Vv.mem {L : List Pr} {k calls : Nat} {c : Int} {found : List Tx} (V : Vv L k c calls found) : found.length ≤ L.length ∧ ∀ x ∈ found, ∃ q ∈ L, x = q.2 := by
  cases V with
  | live h0 hc f zl zn zm nc lt =>
    subst f
    refine ⟨by rw [List.length_map, List.length_take]; omega, fun x hx => ?_⟩
    obtain ⟨q, hq, rfl⟩ := List.mem_map.mp hx
    exact ⟨q, List.mem_of_mem_take hq, rfl⟩
  | done h0 f zl nc =>
    subst f
    refine ⟨by rw [List.length_map]; omega, fun x hx => ?_⟩
    obtain ⟨q, hq, rfl⟩ := List.mem_map.mp hx
    exact ⟨q, hq, rfl⟩
def thF (th : List Tx) : PV → Bool
  | .tup [_, .str y] => decide (y ∈ th)
  | _ => false
theorem fst_map : ∀ l : List Pr, (l.map ofP).map fstV = (l.map (·.1)).map .int
  | [] => rfl
  | q :: l => by
    simp only [List.map_cons, fst_map l]
    rfl
theorem e_lset {T : Tb} {cl : Nat → List PV → PH → Res PV} {ρ : PEnv} {h h1 : PH} {e : Ex} {l : Nat} {ns : List Int} (he : evE T cl e ρ h = .ok (.ref l) h1) (hl : h1[l]? = some (.lst (ns.map .int))) (hn : ns.length < 1000) : evE T cl (.lset e) ρ h = .ok (.int (ddI ns).length) h1 := by
  simp only [evE, he, Res.bind_ok, lstAt, hl, intsOf_map]
  rw [if_pos hn]
section
variable {n d b s t lr lt fq calls m k : Nat} {la c : Int} {ρ : PEnv} {h h1 h2 h3 : PH} {p p1 p' : Ps} {ns th found : List Tx} {z5 z9 z10 z11 : Option PV}
theorem t_body (S : St h s d b t lr p ns) (hF : h[fq]? = some (.lst (found.map .str))) (J : Jv s m c calls la found []) (V : Vv (srtP (ns.map (pr s))) k c calls found) (hl : calls = 0 ∨ c ≠ 0) (hk : 1 ≤ k) (hk2 : k ≤ 1000) :
    ∃ h' c' fq' la' m' found' y9, exSs T (call (n + 4)) 100 tBody (ρt d t lr lt k c fq calls z5 z9 z10 z11) h = .ok (.nx (ρt d t lr lt k c' fq' (calls + 1) z5 y9 z10 z11)) h' ∧ m' < m ∧ h'[fq']? = some (.lst (found'.map .str)) ∧ Jv s m' c' (calls + 1) la' found' [] ∧ Vv (srtP (ns.map (pr s))) k c' (calls + 1) found' ∧ Fr [] h h' := by
  obtain ⟨hc0, hc1⟩ := J.cur
  obtain ⟨h1, e1, f1⟩ := p_scan (n := n) S.w (c := c) (k := k) hc0 hc1 hk hk2
  have ss := scan_step (s := s) S.w.nd S.w.ok hc0 k
  have hL : ∀ q ∈ srtP (ns.map (pr s)), 0 ≤ q.1 := fun q hq => by obtain ⟨x, _, rfl⟩ := ord_mem.mp hq; simp only [pr]; omega
  have V' := V.step (srtP_srt _) hk hL hl
  obtain ⟨c', told, eS⟩ : ∃ c' told, scanP (srtP (ns.map (pr s))) c k = (c', told) := ⟨_, _, rfl⟩
  rw [eS] at e1 ss V'
  simp only at ss V'
  obtain ⟨mv, ht⟩ := S.w.ht
  obtain ⟨m', hm', J'⟩ := J.step hl (fun x hx => by cases hx) ss
  have lv := V'.mem.1
  rw [ord_len, List.length_append] at lv
  have ln := S.w.len
  have g1 := f1.get0 hF
  refine ⟨h1 ++ [PO.lst (told.map PV.str)] ++ [PO.lst ((found ++ told).map PV.str)], c', h1.length + 1, laOf s la told, m', found ++ told, some (.tup (told.map .str)), ?_, hm', by simp, J', V', (f1.trans Fr.app).trans Fr.app⟩
  refine st_nx (ρ1 := ρt d t lr lt k c' fq calls z5 (some (.tup (told.map .str))) z10 z11) (h1 := h1) (s_asgt (v := scanV (c', told)) (e_meth (g := 17) (vs := [.int c, .int k]) (h1 := h) (h2 := h) (e_var (by rw [S.t_]; rfl)) ht rfl rfl (e_two (h1 := h) (e_var rfl) (e_var rfl)) e1) rfl) ?_
  refine st_nx (ρ1 := ρt d t lr lt k c' (h1.length + 1) (calls + 1) z5 (some (.tup (told.map .str))) z10 z11) (h1 := h1 ++ [PO.lst (told.map PV.str)] ++ [PO.lst ((found ++ told).map PV.str)]) (s_asgt (v := .tup [.ref (h1.length + 1), .int (calls + 1 : Nat)]) (e_tup (e_two (h1 := h1 ++ [PO.lst (told.map PV.str)] ++ [PO.lst ((found ++ told).map PV.str)]) ?_ (e_addk (e_var rfl) 1 rfl)) (by simp)) rfl) ?_
  · refine e_bin (v := .ref fq) (w := .ref h1.length) (h1 := h1) (h2 := h1 ++ [.lst (told.map .str)]) (e_var rfl) (e_bi (vs := [.tup (told.map .str)]) (h1 := h1) (e_one (e_var rfl)) (by simp only [pBi])) ?_
    have g2 : (h1 ++ [PO.lst (told.map PV.str)])[fq]? = some (.lst (found.map .str)) := app_at g1
    have g3 : (h1 ++ [PO.lst (told.map PV.str)])[h1.length]? = some (.lst (told.map .str)) := get_last
    simp only [pBin, g2, g3]
    rw [if_pos (by rw [List.length_map, List.length_map]; exact Nat.le_trans (show found.length + told.length ≤ 100 by omega) (by decide))]
    simp
  · have cg : evE T (call (n + 4)) (.cmp .gt (.var 8) (.con (.int 40))) (ρt d t lr lt k c' (h1.length + 1) (calls + 1) z5 (some (.tup (told.map .str))) z10 z11) (h1 ++ [PO.lst (told.map PV.str)] ++ [PO.lst ((found ++ told).map PV.str)]) = .ok (.bl (decide (((calls + 1 : Nat) : Int) > 40))) (h1 ++ [PO.lst (told.map PV.str)] ++ [PO.lst ((found ++ told).map PV.str)]) := e_cmp (h1 := h1 ++ [PO.lst (told.map PV.str)] ++ [PO.lst ((found ++ told).map PV.str)]) (e_var rfl) e_con rfl
    have := J'.calls
    rw [decide_eq_false (by omega)] at cg
    exact st_no cg s_nil
theorem t_wh (S : St h s d b t lr p ns) (hF : h[fq]? = some (.lst [])) (hk : 1 ≤ k) (hk2 : k ≤ 1000) :
    ∃ h' fq' calls' y9, exS T (call (n + 4)) 100 (.wh tCond tBody) (ρt d t lr lt k 0 fq 0 z5 z9 z10 z11) h = .ok (.nx (ρt d t lr lt k 0 fq' calls' z5 y9 z10 z11)) h' ∧ h'[fq']? = some (.lst (((srtP (ns.map (pr s))).map (·.2)).map .str)) ∧ calls' ≤ max 1 (ddI ((srtP (ns.map (pr s))).map (·.1))).length ∧ (((srtP (ns.map (pr s))).map (·.1)).Nodup → callsOk (srtP (ns.map (pr s))).length k calls') ∧ Fr [] h h' := by
  have hL : ∀ q ∈ srtP (ns.map (pr s)), 0 ≤ q.1 := fun q hq => by obtain ⟨x, _, rfl⟩ := ord_mem.mp hq; simp only [pr]; omega
  obtain ⟨ρ', h', e, fq', calls', y9, q1, q2, q3, q4, q5⟩ := wh_inv (c := evT T (call (n + 4)) tCond) (body := exSs T (call (n + 4)) 100 tBody)
    (I := fun m ρ h' => ∃ c calls fq la found z9, ρ = ρt d t lr lt k c fq calls z5 z9 z10 z11 ∧ h'[fq]? = some (.lst (found.map .str)) ∧ Jv s m c calls la found [] ∧ Vv (srtP (ns.map (pr s))) k c calls found ∧ Fr [] h h')
    (Q := fun ρ h' => ∃ fq' calls' y9, ρ = ρt d t lr lt k 0 fq' calls' z5 y9 z10 z11 ∧ h'[fq']? = some (.lst (((srtP (ns.map (pr s))).map (·.2)).map .str)) ∧ calls' ≤ max 1 (ddI ((srtP (ns.map (pr s))).map (·.1))).length ∧ (((srtP (ns.map (pr s))).map (·.1)).Nodup → callsOk (srtP (ns.map (pr s))).length k calls') ∧ Fr [] h h')
    (by
      rintro m ρ h' ⟨c, calls, fq, la, found, z9, rfl, hF', J, V, f'⟩
      have e : evT T (call (n + 4)) tCond (ρt d t lr lt k c fq calls z5 z9 z10 z11) h' = .ok (decide ((calls : Int) = 0) || !decide (c = 0)) h' := t_bl (e_or (e_eqi (h1 := h') (h2 := h') (e_var rfl) e_con) fun _ => e_nei (h1 := h') (h2 := h') (e_var rfl) e_con)
      by_cases q : calls = 0 ∨ c ≠ 0
      · have qv : (decide ((calls : Int) = 0) || !decide (c = 0)) = true := by
          rcases q with q | q
          · rw [decide_eq_true (p := (calls : Int) = 0) (by omega)]; rfl
          · rw [decide_eq_false q, Bool.not_false, Bool.or_true]
        rw [qv] at e
        obtain ⟨h2, c', fq2, la', m', found', y9, e2, hm', g2, J', V', f2⟩ := t_body (n := n) (lt := lt) (z5 := z5) (z9 := z9) (z10 := z10) (z11 := z11) (S.fr0 f') hF' J V q hk hk2
        exact .inr ⟨h', _, h2, m', e, e2, hm', c', calls + 1, fq2, la', found', y9, rfl, g2, J', V', f'.trans f2⟩
      · have q1 : calls ≠ 0 := fun z => q (.inl z)
        have q2 : c = 0 := by
          by_cases z : c = 0
          · exact z
          · exact absurd (.inr z) q
        have qv : (decide ((calls : Int) = 0) || !decide (c = 0)) = false := by
          rw [decide_eq_false (p := (calls : Int) = 0) (by omega), decide_eq_true q2]; rfl
        rw [qv] at e
        subst q2
        refine .inl ⟨h', e, fq, calls, z9, rfl, ?_⟩
        cases V with
        | live h0 => rcases h0 with z | z; exact absurd z q1; exact absurd rfl z
        | done _ f zl nc => subst f; exact ⟨hF', zl, nc, f'⟩)
    21 100 (ρt d t lr lt k 0 fq 0 z5 z9 z10 z11) h (by omega) ⟨0, 0, fq, -1, [], z9, rfl, hF, Jv.init s [], Vv.init hL k, Fr.refl⟩
  subst q1
  refine ⟨h', fq', calls', y9, ?_, q2, q3, q4, q5⟩
  simp only [exS]
  exact e
theorem l_still (S : St h s d (b + 1) t lr p ns) (ht : h[lt]? = some (.lst (th.map .str))) (hth : ∀ x, x ∈ th ↔ x ∈ ns) (htd : lt ≠ d) : Al (fun v h' => v = .bl true ∧ Dc d b h') (call (n + 5) 51 [.ref d, .ref t, .ref lr, .ref lt] h) := by
  rw [call_run (d := d__law_still_right) rfl rfl]
  refine al_run rfl ?_
  show Al _ (exSs T (call (n + 4)) 100 b__law_still_right [some (.ref d), some (.ref t), some (.ref lr), some (.ref lt), none, none, none, none, none, none, none, none] h)
  refine al_ss (al_asg (al_bin ?_))
  repeat (first | (with_reducible show Al _ (evEs _ _ (_ :: _) _ _)); refine al_cons (fun _ e => nomatch e) ?_ | (with_reducible show Al _ (evEs _ _ [] _ _)); refine al_nil ?_ | (with_reducible show Al _ (evE _ _ (.var _) _ _)); refine al_var rfl ?_ | (with_reducible show Al _ (evE _ _ (.con _) _ _)); refine al_con ?_ | (with_reducible show Al _ (evE _ _ (.call _ _) _ _)); refine al_call rfl ?_ | (with_reducible show Al _ (evE _ _ (.bin _ _ _) _ _)); refine al_bin ?_ | (with_reducible show Al _ (evE _ _ (.cmp _ _ _) _ _)); refine al_cmp ?_ | (with_reducible show Al _ (evE _ _ (.bi _ _) _ _)); refine al_bi ?_ | (with_reducible show Al _ (evE _ _ (.tup _) _ _)); refine al_tup ?_ | (with_reducible show Al _ (evE _ _ (.lst _) _ _)); refine al_lst ?_ | (with_reducible show Al _ (exS _ _ _ (.ret _) _ _)); refine al_ret ?_ | (with_reducible show Al _ (exS _ _ _ (.asg (.nm _) _) _ _)); refine al_asg ?_ | (with_reducible show Al _ (exS _ _ _ (.asg (.tp _) _) _ _)); refine al_asgt ?_ | (with_reducible show Al _ (exSs _ _ _ (.asg _ _ :: _) _ _)); refine al_ss ?_ | (with_reducible show Al _ (exSs _ _ _ (.ret _ :: _) _ _)); refine al_ss ?_)
  refine (a_roll (n := n + 3) S.dc (by omega) (by omega)).imp fun v h1 ⟨⟨r, hr, e⟩, dc1, f1⟩ => ?_
  subst e
  refine Al.ok (a := .int ((r + 1 : Nat))) (h := h1) (by simp only [pBin]; congr 2; push_cast; omega) ?_
  have S1 := S.draw dc1 f1
  have g1 := f1.get ht (by simpa using htd)
  have hthN : ∀ x ∈ th, IsN x := fun x hx => S.w.ok x ((hth x).mp hx)
  clear dc1 f1
  have m2 : exS T (call (n + 4)) 100 (.asg (.tp [6, 7, 8]) (.tup [.con (.int 0), .lst [], .con (.int 0)])) [some (.ref d), some (.ref t), some (.ref lr), some (.ref lt), some (.int (r + 1 : Nat)), none, none, none, none, none, none, none] h1 = .ok (.nx (ρt d t lr lt (r + 1) 0 h1.length 0 none none none none)) (h1 ++ [PO.lst []]) := s_asgt (v := .tup [.int 0, .ref h1.length, .int 0]) (e_tup (e_cons (h1 := h1) e_con (e_cons (h1 := h1 ++ [.lst []]) e_nilL (e_one e_con))) (by simp)) rfl
  refine al_nxs m2 ?_
  have fA : Fr [] h1 (h1 ++ [PO.lst []]) := Fr.app
  obtain ⟨h2, fq, calls, y9, e2, g2, q3, q4, f2⟩ := t_wh (n := n) (lt := lt) (z5 := none) (z9 := none) (z10 := none) (z11 := none) (k := r + 1) (fq := h1.length) (S1.fr0 fA) (by simp) (by omega) (by omega)
  refine al_nxs e2 ?_
  have S2 := (S1.fr0 fA).fr0 f2
  have gt2 := f2.get0 (fA.get0 g1)
  have hN : ∀ q ∈ rows s, IsN q.2 := fun q hq => by obtain ⟨x, hx, rfl⟩ := rows_mem.mp hq; exact hx
  have LN : ∀ x ∈ (srtP (ns.map (pr s))).map (·.2), IsN x := fun x hx => S2.w.ok x ((ord_snd_pm).mem_iff.mp hx)
  have ll : (srtP (ns.map (pr s))).length ≤ 20 := by rw [ord_len]; exact S2.w.len
  have rt := rows_there (s := s) S2.w.nd S2.w.ok hth
  have tF : ((rows s).map ofP).filter (thF th) = (srtP (ns.map (pr s))).map ofP := by
    rw [filter_of (thF th) (fun q => decide (q.2 ∈ th)) (fun _ => rfl), rt]
  -- lists of the rows that are there
  have elc : ∀ {h' : PH} {z5 : Option PV} (i : Nat) (f : PV → PV), (∀ a y, i = 10 ∧ f (ofP (a, y)) = .int a ∨ i = 11 ∧ f (ofP (a, y)) = .str y) → Fr [] h2 h' → evE T (call (n + 4)) (.lc (.var i) [10, 11] (.tp [10, 11]) .seq [.var 2] [.cmp .in_ (.var 11) (.var 3)]) (ρt d t lr lt (r + 1) 0 fq calls z5 y9 none none) h' = .ok (.ref h'.length) (h' ++ [PO.lst (((srtP (ns.map (pr s))).map ofP).map f)]) := fun {h' z5} i f hf fr => by
    have := lc_ref (T := T) (cl := call (n + 4)) (e := .var i) (src := .var 2) (own := [10, 11]) (t := .tp [10, 11]) (ifs := [.cmp .in_ (.var 11) (.var 3)]) (ρ := ρt d t lr lt (r + 1) 0 fq calls z5 y9 none none) (h := h') (h1 := h') (xs := (rows s).map ofP) (l := lr) (thF th) f (e_var rfl) (fr.get0 S2.r) (by rw [List.length_map, rows_len]; omega) (fun u hu h'' _ hh => by
      obtain ⟨⟨a, y⟩, hq, rfl⟩ := List.mem_map.mp hu
      have hy : IsN y := hN _ hq
      have q1 : evE T (call (n + 4)) (.cmp .in_ (.var 11) (.var 3)) (ρt d t lr lt (r + 1) 0 fq calls z5 y9 (some (.int a)) (some (.str y))) h'' = .ok (.bl (thF th (ofP (a, y)))) h'' := e_inL (h1 := h'') (h2 := h'') (e_var rfl) (e_var rfl) (by rw [hh lt (get_lt (fr.get0 gt2))]; exact fr.get0 gt2) hy hthN
      have q2 : evE T (call (n + 4)) (.var i) (ρt d t lr lt (r + 1) 0 fq calls z5 y9 (some (.int a)) (some (.str y))) h'' = .ok (f (ofP (a, y))) h'' := by
        rcases hf a y with ⟨rfl, e⟩ | ⟨rfl, e⟩
        · rw [e]; exact e_var rfl
        · rw [e]; exact e_var rfl
      exact lcB_if (b := thF th (ofP (a, y))) (ρ1 := ρt d t lr lt (r + 1) 0 fq calls z5 y9 (some (.int a)) (some (.str y))) rfl q1 (fun _ => q2))
    rwa [tF] at this
  have ea := elc (z5 := none) 11 sndV (fun a y => .inr ⟨rfl, rfl⟩) Fr.refl
  rw [snd_map] at ea
  have c1 : evE T (call (n + 4)) (.cmp .ne (.var 7) (.lc (.var 11) [10, 11] (.tp [10, 11]) .seq [.var 2] [.cmp .in_ (.var 11) (.var 3)])) (ρt d t lr lt (r + 1) 0 fq calls none y9 none none) h2 = .ok (.bl false) (h2 ++ [PO.lst (((srtP (ns.map (pr s))).map (·.2)).map PV.str)]) :=
    e_neL (t := true) (h1 := h2) (e_var rfl) ea (app_at g2) get_last (pus_str LN).1 (pus_str LN).1 (Nat.le_trans (dpts_str _) (by decide)) (Nat.le_trans (dpts_str _) (by decide)) (by simp)
  have fB : Fr [] h2 (h2 ++ [PO.lst (((srtP (ns.map (pr s))).map (·.2)).map PV.str)]) := Fr.app
  generalize h2 ++ [PO.lst (((srtP (ns.map (pr s))).map (·.2)).map PV.str)] = h3 at c1 fB
  obtain ⟨h4, e4, f4⟩ := p_names (n := n + 3) (S2.fr0 fB).w
  obtain ⟨mv, hto⟩ := (S2.fr0 fB).w.ht
  have c2 : evE T (call (n + 4)) (.cmp .ne (.bi .tuple [.var 7]) (.mt 19 .none (.var 1) [])) (ρt d t lr lt (r + 1) 0 fq calls none y9 none none) h3 = .ok (.bl false) h4 := by
    refine e_ne_same (h1 := h3) (v := .tup (((srtP (ns.map (pr s))).map (·.2)).map .str)) (e_tuple (l := fq) rfl (fB.get0 g2)) ?_ ?_ ?_
    · exact e_meth (g := 18) (vs := []) (h1 := h3) (h2 := h3) (e_var (by rw [S2.t_]; rfl)) hto rfl rfl e_nil e4
    · simp only [pu, (pus_str LN).1]
    · simp only [dpt]
      exact Nat.le_trans (Nat.succ_le_succ (dpts_str _)) (by decide)
  refine al_no (e_orF c1 c2) ?_
  have f24 := fB.trans f4
  have eb := elc (z5 := none) 10 fstV (fun a y => .inl ⟨rfl, rfl⟩) f24
  rw [fst_map] at eb
  have e5 := e_lset eb get_last (by rw [List.length_map]; omega)
  refine al_nxs (ρ1 := ρt d t lr lt (r + 1) 0 fq calls (some (.int (ddI ((srtP (ns.map (pr s))).map (·.1))).length)) y9 none none) (s_asg e5) ?_
  have f25 : Fr [] h2 (h4 ++ [PO.lst (((srtP (ns.map (pr s))).map (·.1)).map PV.int)]) := f24.trans Fr.app
  generalize h4 ++ [PO.lst (((srtP (ns.map (pr s))).map (·.1)).map PV.int)] = h5 at f25
  have g5 := f25.get0 g2
  have dl := ddI_len ((srtP (ns.map (pr s))).map (·.1))
  have nd := @ddI_nd ((srtP (ns.map (pr s))).map (·.1))
  rw [List.length_map] at dl nd
  have eln : ∀ {z5 : Option PV}, evE T (call (n + 4)) (.bi .len [.var 7]) (ρt d t lr lt (r + 1) 0 fq calls z5 y9 none none) h5 = .ok (.int (srtP (ns.map (pr s))).length) h5 := fun {z5} => by
    have := ev_len (cl := call (n + 4)) (e_var (ρ := ρt d t lr lt (r + 1) 0 fq calls z5 y9 none none) (i := 7) (v := .ref fq) rfl) g5
    rwa [List.length_map, List.length_map] at this
  have dc5 : Dc d b h5 := dc_fr S2.dc f25 (by simp)
  generalize hD : (ddI ((srtP (ns.map (pr s))).map (·.1))).length = D at dl nd q3
  generalize hLn : (srtP (ns.map (pr s))).length = N at dl nd q4 eln ll
  have c3 : evE T (call (n + 4)) (.cmp .lt (.var 5) (.bi .len [.var 7])) (ρt d t lr lt (r + 1) 0 fq calls (some (.int D)) y9 none none) h5 = .ok (.bl (decide ((D : Int) < N))) h5 := e_cmp (h1 := h5) (h2 := h5) (e_var rfl) eln rfl
  by_cases q : (D : Int) < N
  · rw [decide_eq_true q] at c3
    have hv : (if (D : Int) > 1 then (D : Int) else 1) = ((max 1 D : Nat) : Int) := by split <;> omega
    have e6 : evE T (call (n + 4)) (.bi .max [.con (.int 1), .var 5]) (ρt d t lr lt (r + 1) 0 fq calls (some (.int D)) y9 none none) h5 = .ok (.int (max 1 D : Nat)) h5 := e_bi (h1 := h5) (vs := [.int 1, .int D]) (e_two (h1 := h5) e_con (e_var rfl)) (by simp only [pBi]; rw [hv])
    have e7 : evE T (call (n + 4)) (.cmp .le (.var 8) (.bi .max [.con (.int 1), .var 5])) (ρt d t lr lt (r + 1) 0 fq calls (some (.int D)) y9 none none) h5 = .ok (.bl (decide ((calls : Int) ≤ (max 1 D : Nat)))) h5 := e_cmp (h1 := h5) (h2 := h5) (e_var rfl) e6 rfl
    rw [decide_eq_true (by omega)] at e7
    exact Al.ok (st_yes c3 e7) ⟨rfl, dc5⟩
  · rw [decide_eq_false q] at c3
    have cd := calls_div (k := r + 1) (by omega) (q4 (nd (by omega)))
    have l2 : Nat.log2 (r + 1) < 9000 := by
      have : Nat.log2 (r + 1) ≤ r + 1 := Nat.log2_le_self _
      omega
    have e6 : evE T (call (n + 4)) (.bin .fdiv (.bin .sub (.bin .add (.bi .len [.var 7]) (.var 4)) (.con (.int 1))) (.var 4)) (ρt d t lr lt (r + 1) 0 fq calls (some (.int D)) y9 none none) h5 = .ok (.int ((N + (r + 1) - 1) / (r + 1) : Nat)) h5 := by
      refine e_bin (v := .int ((N : Int) + (r + 1 : Nat) - 1)) (w := .int (r + 1 : Nat)) (h1 := h5) (h2 := h5) (e_subi (e_addi eln (e_var rfl)) e_con) (e_var rfl) ?_
      have e1 : ((N : Int) + (r + 1 : Nat) - 1) = ((N + (r + 1) - 1 : Nat) : Int) := by omega
      rw [e1]
      simp only [pBin]
      have hc : (decide ((0 : Int) < ((r + 1 : Nat) : Int)) && decide (((r + 1 : Nat) : Int).natAbs.log2 < 9000)) = true := by
        rw [decide_eq_true (by omega), Int.natAbs_natCast, decide_eq_true l2]
        rfl
      rw [if_pos hc]
      push_cast
      rfl
    have e7 : evE T (call (n + 4)) (.bi .max [.con (.int 1), .bin .fdiv (.bin .sub (.bin .add (.bi .len [.var 7]) (.var 4)) (.con (.int 1))) (.var 4)]) (ρt d t lr lt (r + 1) 0 fq calls (some (.int D)) y9 none none) h5 = .ok (.int calls) h5 := by
      refine e_bi (h1 := h5) (vs := [.int 1, .int ((N + (r + 1) - 1) / (r + 1) : Nat)]) (e_two (h1 := h5) e_con e6) ?_
      generalize (N + (r + 1) - 1) / (r + 1) = X at cd
      have hv : (if (X : Int) > 1 then (X : Int) else 1) = (calls : Int) := by split <;> omega
      simp only [pBi]
      rw [hv]
    have e8 : evE T (call (n + 4)) (.cmp .eq (.var 8) (.bi .max [.con (.int 1), .bin .fdiv (.bin .sub (.bin .add (.bi .len [.var 7]) (.var 4)) (.con (.int 1))) (.var 4)])) (ρt d t lr lt (r + 1) 0 fq calls (some (.int D)) y9 none none) h5 = .ok (.bl true) h5 := e_eqd (e_var rfl) e7 (by simp)
    exact Al.ok (st_no c3 (st_rt (s_ret e8))) ⟨rfl, dc5⟩
end
end K06
set_option Elab.async false
set_option linter.all false
set_option maxRecDepth 100000
set_option maxHeartbeats 400000
namespace K06
open PySem PySem.Spec PyProof.Rows L2 Mn
section
variable {T : Tb} {W : Nat} {cl : Nat → List PV → PH → Res PV} {ρ ρ1 : PEnv} {h h1 h2 : PH}
theorem al_slU {P : PV → PH → Prop} {o hi : Ex} (pu : isPart hi) (k : Al (fun v h1 => Al (fun w h2 => ∃ j, w = .int j ∧ Al P (pSl v none (some j) h2)) (evE T cl hi ρ h1)) (evE T cl o ρ h)) : Al P (evE T cl (.sl o .nop hi) ρ h) := by
  simp only [evE]
  refine Al.bind (k.imp fun v h1 q => ?_)
  rw [partR_nop, Res.bind_ok]
  simp only [pu _ _, Res.bind_assoc]
  refine Al.bind (q.imp fun w h2 ⟨j, e, z⟩ => ?_)
  subst e
  exact z
theorem lcRun_of {e : Ex} {own : List Nat} {t : Tg} {ifs : List Ex} {xs : List PV} {q : Nat} {r : Res PV} (hq : h[q]? = some (.lst xs)) (k : evE T cl (.lc e own t .seq [.con (.ref q)] ifs) ρ h = r) : lcRun (lcB T cl e own t ifs ρ) (.lst q) h.length (xs.length + 1) 0 (h ++ [.lst []]) = r := by
  rw [evE_lc, evI_ref e_con hq, Res.bind_ok] at k
  exact k
end
def ix1 : PV → PV
  | .tup [_, y] => y
  | _ => .non
section
variable {n d b s t lr lt : Nat} {ρ : PEnv} {h h1 h2 h3 : PH} {p p1 p' : Ps} {ns : List Tx}
theorem ix1_map : ∀ l : List Pr, (l.map ofP).map ix1 = (l.map (·.2)).map .str
  | [] => rfl
  | q :: l => by
    simp only [List.map_cons, ix1_map l]
    rfl
theorem perm_nd {s : Nat} {ns : List Tx} {ys : List Pr} (nd : ns.Nodup) (pm : ys.Perm (srtP (ns.map (pr s)))) : (ys.map (·.2)).Nodup := by
  have h := List.Perm.map (fun q : Pr => q.2) pm
  exact h.nodup_iff.mpr (ord_snd nd)
theorem names_nd {s : Nat} {ys : List Pr} (pm : ys.Perm (rows s)) : (ys.map (·.2)).Nodup := by
  unfold rows at pm
  exact perm_nd (s := s) (ns := N20) n20_nd pm
def ρr (d s t lt lr : Nat) (z3 z6 z7 : Option PV) : PEnv := [some (.ref d), some (.int s), some (.ref t), z3, some (.ref lt), some (.ref lr), z6, z7]
theorem s_fill (hs2 : s < 3) {names : List Tx} {q : Nat} {z3 z6 z7 : Option PV} (nd : names.Nodup) (hn : ∀ x ∈ names, IsN x) (S : St h s d b t lr p []) (L : Lt h lt p []) (Q : Lt h q p names) (hqt : q ≠ lt) (hlr : lr ≠ lt) (hdl : d ≠ lt) :
    ∃ h' p' z3', (∀ w, evI T (call (n + 9)) .seq w (ρr d s t lt lr z3 z6 z7) h = .ok (.lst q, names.length) h → exS T (call (n + 9)) 100 (.for_ (.nm 3) .seq w [.ex (.mt 15 .none (.var 2) [.var 3, .con (.int 0)]), .ex (.mt 0 .append (.var 4) [.var 3])]) (ρr d s t lt lr z3 z6 z7) h = .ok (.nx (ρr d s t lt lr z3' z6 z7)) h') ∧ St h' s d b t lr p' names ∧ Lt h' lt p' names := by
  have main : ∃ ρ' h', forRun (forB T (call (n + 9)) 100 (.nm 3) [.ex (.mt 15 .none (.var 2) [.var 3, .con (.int 0)]), .ex (.mt 0 .append (.var 4) [.var 3])]) (.lst q) (names.length + 1) 0 (ρr d s t lt lr z3 z6 z7) h = .ok (.nx ρ') h' ∧ ∃ p' z3', ρ' = ρr d s t lt lr z3' z6 z7 ∧ St h' s d b t lr p' (names.take names.length) ∧ Lt h' lt p' (names.take names.length) ∧ Lt h' q p' names := by
    have := for_ex (T := T) (W := 100) (cl := call (n + 9)) (t := .nm 3) (k := .seq) (its := [.con (.ref q)]) (b := [.ex (.mt 15 .none (.var 2) [.var 3, .con (.int 0)]), .ex (.mt 0 .append (.var 4) [.var 3])]) (ρ := ρr d s t lt lr z3 z6 z7) (h := h) (h1 := h) (w := .lst q) (N := names.length)
      (fun i ρ h' => ∃ p' z3', ρ = ρr d s t lt lr z3' z6 z7 ∧ St h' s d b t lr p' (names.take i) ∧ Lt h' lt p' (names.take i) ∧ Lt h' q p' names)
      (by have := evI_ref (T := T) (cl := call (n + 9)) (ρ := ρr d s t lt lr z3 z6 z7) (src := .con (.ref q)) e_con Q.g; rwa [List.length_map] at this) ⟨p, z3, rfl, S, L, Q⟩
      (fun i hi ρ h' ⟨p', z3', eρ, S', L', Q'⟩ => by
        subst eρ
        have hx := hn _ (List.getElem_mem hi)
        have hnx : names[i] ∉ names.take i := fun z => by
          obtain ⟨j, hj, e⟩ := List.mem_take_iff_getElem.mp z
          have := (List.getElem_inj nd).mp e
          omega
        have ht1 : names.take (i + 1) = names.take i ++ [names[i]] := List.take_succ_eq_append_getElem hi
        obtain ⟨h1, p1, e1, w1, o1, f1⟩ := p_put (n := n) (v := .int 0) hs2 S'.w hx (.inl ⟨_, rfl⟩)
        have S1 := S'.call w1 o1 f1
        have L1 := L'.call o1 f1
        have Q1 := Q'.call o1 f1
        obtain ⟨mv, hto⟩ := S'.w.ht
        have ep : put1 (names.take i) names[i] = names.take (i + 1) := by unfold put1; rw [if_neg hnx, ht1]
        rw [ep] at S1
        have ltl := S'.w.len
        have hset : Fr [lt] h1 (h1.set lt (.lst ((names.take (i + 1)).map .str))) := Fr.set (by simp)
        refine ⟨.str names[i], ρr d s t lt lr (some (.str names[i])) z6 z7, h1.set lt (.lst ((names.take (i + 1)).map .str)), by simp only [wkAt, lstAt, Q'.g]; simp [hi], ?_, p1, some (.str names[i]), rfl, ⟨S1.w.fr hset fun m hm z => L1.n (by rw [← List.mem_singleton.mp z]; exact hm), S1.t_, hset.get S1.r (by simpa using hlr), dc_fr S1.dc hset (by simpa using hdl), S1.nd, S1.nr⟩, ⟨set_at L1.g, L1.n⟩, ⟨hset.get Q1.g (by simpa using hqt), Q1.n⟩⟩
        rw [forB_nm]
        refine st_nx (ρ1 := ρr d s t lt lr (some (.str names[i])) z6 z7) (h1 := h1) (s_ex (e_meth (g := 14) (vs := [.str names[i], .int 0]) (h1 := h') (h2 := h') (e_var (by rw [S'.t_]; rfl)) hto rfl rfl (e_two (h1 := h') (e_var rfl) e_con) e1)) ?_
        refine st_nx (ρ1 := ρr d s t lt lr (some (.str names[i])) z6 z7) (h1 := h1.set lt (.lst ((names.take (i + 1)).map .str))) (s_ex (v := .non) ?_) s_nil
        have := e_app (T := T) (cl := call (n + 9)) (m := 0) (o := .var 4) (e := .var 3) (ρ := ρr d s t lt lr (some (.str names[i])) z6 z7) (h := h1) (h1 := h1) (h2 := h1) (l := lt) (x := .str names[i]) (e_var rfl) L1.g (e_var rfl) L1.g (by rw [List.length_map]; omega)
        rw [this, ht1, List.map_append]
        rfl) (fun ρ h' ⟨p', z3', eρ, S', L', Q'⟩ => by simp only [wkAt, lstAt, Q'.g]; simp)
    obtain ⟨ρ', h', e, k⟩ := this
    refine ⟨ρ', h', ?_, k⟩
    have ev := evI_ref (T := T) (cl := call (n + 9)) (ρ := ρr d s t lt lr z3 z6 z7) (src := .con (.ref q)) e_con Q.g
    rw [exS_for, ev, Res.bind_ok, List.length_map] at e
    exact e
  obtain ⟨ρ', h', e, p', z3', rfl, S', L', _⟩ := main
  rw [List.take_length] at S' L'
  refine ⟨h', p', z3', fun w ew => ?_, S', L'⟩
  rw [exS_for, ew, Res.bind_ok]
  exact e
theorem l_right (dc : Dc d (b + 275) h) : Al (fun v h' => v = .bl true ∧ Dc d b h') (call (n + 13) 52 [.ref d] h) := by
  rw [call_run (d := d__law_right) rfl rfl]
  refine al_run rfl ?_
  show Al _ (exSs T (call (n + 12)) 100 b__law_right [some (.ref d), none, none, none, none, none, none, none] h)
  -- the spread
  refine al_ss (al_asg (al_call rfl ?_))
  refine al_cons (fun _ e => nomatch e) (al_var rfl ?_)
  have el : evE T (call (n + 12)) (.lst [.con (.int 0), .con (.int 0), .con (.int 1), .con (.int 2)]) [some (.ref d), none, none, none, none, none, none, none] h = .ok (.ref h.length) (h ++ [.lst [.int 0, .int 0, .int 1, .int 2]]) := e_lst rfl (by simp)
  refine al_cons (fun _ e => nomatch e) (Al.ok el (al_nil ?_))
  have dlt := dc.lt
  refine (a_one (n := n + 10) (b := b + 274) (dc.app _) get_last (by simp) (by simp) (by omega)).imp fun v h1 ⟨hv, dc1, f1⟩ => ?_
  obtain ⟨s, hs2, rfl⟩ : ∃ s : Nat, s < 3 ∧ v = .int s := by
    simp only [List.mem_cons, List.not_mem_nil, or_false] at hv
    rcases hv with rfl | rfl | rfl | rfl
    · exact ⟨0, by decide, rfl⟩
    · exact ⟨0, by decide, rfl⟩
    · exact ⟨1, by decide, rfl⟩
    · exact ⟨2, by decide, rfl⟩
  clear dc el hv dlt f1
  show Al _ (exSs T (call (n + 12)) 100 _ [some (.ref d), some (.int s), none, none, none, none, none, none] h1)
  -- rows
  obtain ⟨h2, e2, g2, f2⟩ := l_rows (n := n + 8) (h := h1) hs2
  generalize h1.length + 4 = lr at e2 g2
  have m2 : exS T (call (n + 12)) 100 (.asg (.tp [5, 4]) (.tup [.call 25 [.var 1], .lst []])) [some (.ref d), some (.int s), none, none, none, none, none, none] h1 = .ok (.nx [some (.ref d), some (.int s), none, none, some (.ref h2.length), some (.ref lr), none, none]) (h2 ++ [.lst []]) := s_asgt (v := .tup [.ref lr, .ref h2.length]) (e_tup (e_two (h1 := h2) (e_call1 rfl rfl e2) e_nilL) (by simp)) rfl
  refine al_nxs m2 ?_
  have dc2 := dc_fr dc1 f2 (by simp)
  have dl2 := dc2.lt
  have lr2 := get_lt g2
  have lrd : lr ≠ d := dc_ne dc2 g2 (by simp)
  -- the table
  refine al_nxs (ρ1 := ρr d s (h2 ++ [PO.lst []]).length h2.length lr none none none) (h1 := h2 ++ [PO.lst []] ++ made s (h2 ++ [PO.lst []])) (s_asg (e_call1 rfl rfl (l_made (n := n + 9) hs2))) ?_
  have fm : Fr [] h2 (h2 ++ [PO.lst []] ++ made s (h2 ++ [PO.lst []])) := Fr.app.trans Fr.app
  have mo := made_ok s (h2 ++ [PO.lst []])
  have S3 : St (h2 ++ [PO.lst []] ++ made s (h2 ++ [PO.lst []])) s d (b + 274) (h2 ++ [PO.lst []]).length lr (p0 (h2 ++ [PO.lst []])) [] := ⟨mo, rfl, fm.get0 g2, dc_fr dc2 fm (by simp), fun z => by have := made_new z; simp at this; omega, fun z => by have := made_new z; simp at this; omega⟩
  have L3 : Lt (h2 ++ [PO.lst []] ++ made s (h2 ++ [PO.lst []])) h2.length (p0 (h2 ++ [PO.lst []])) [] := ⟨app_at (by simp), fun z => by have := made_new z; simp at this; omega⟩
  generalize h2 ++ [PO.lst []] ++ made s (h2 ++ [PO.lst []]) = h3 at S3 L3
  generalize (h2 ++ [PO.lst []]).length = t at S3
  generalize p0 (h2 ++ [PO.lst []]) = p at S3 L3
  have hlr : lr ≠ h2.length := by omega
  have hdl : d ≠ h2.length := by omega
  generalize h2.length = lt at L3 hlr hdl
  clear m2 f2 g2 e2 dc1 dc2 dl2 lr2 fm mo
  -- names
  refine al_ss (al_forA (al_evI ?_))
  refine al_cons (fun _ e => nomatch e) (al_lc ?_)
  refine al_cons (fun _ e => nomatch e) (al_slU (fun _ _ => rfl) (al_call rfl ?_))
  refine al_cons (fun _ e => nomatch e) (al_var rfl ?_)
  refine al_cons (fun _ e => nomatch e) (al_var rfl (al_nil ?_))
  have hN : ∀ q ∈ rows s, IsN q.2 := fun q hq => by obtain ⟨x, hx, rfl⟩ := rows_mem.mp hq; exact hx
  refine (al_mixed (n := n + 10) (b := b + 254) (S3.dc.le (by rw [rows_len]; omega)) S3.r hN (by rw [rows_len]; omega)).imp fun v h4 ⟨q4, ys, e4, g4, n4, pm, dc4, f4⟩ => ?_
  subst e4
  have S4 := S3.draw dc4 f4
  have L4 := L3.draw S3.dc f4
  have n4p : q4 ∉ p.all := fun z => by have := S3.w.lt z; omega
  refine al_call rfl ?_
  refine al_cons (fun _ e => nomatch e) (al_var rfl ?_)
  refine al_cons (fun _ e => nomatch e) (al_con (al_nil ?_))
  refine (a_roll (n := n + 11) (b := b + 253) S4.dc (by omega) (by omega)).imp fun v h5 ⟨⟨j, hj, e⟩, dc5, f5⟩ => ⟨j, e, ?_⟩
  have S5 := S4.draw dc5 f5
  have L5 := L4.draw S4.dc f5
  have g5 := f5.get g4 (by simpa using dc_ne S4.dc g4 (by simp))
  have esl : pSl (.ref q4) none (some (j : Int)) h5 = .ok (.ref h5.length) (h5 ++ [.lst ((ys.take j).map ofP)]) := by
    simp only [pSl, lstAt, g5]
    rw [cut_to, ← List.map_take]
  refine Al.ok esl (al_nil ?_)
  have fA : Fr [] h5 (h5 ++ [PO.lst ((ys.take j).map ofP)]) := Fr.app
  have gA : (h5 ++ [PO.lst ((ys.take j).map ofP)])[h5.length]? = some (.lst ((ys.take j).map ofP)) := get_last
  have S6 := S5.fr0 fA
  have L6 := L5.fr0 fA
  have yl : ys.length = 20 := by rw [pm.length_eq, rows_len]
  refine ⟨(.lst h5.length, ((ys.take j).map ofP).length), by simp only [wkOf, lstAt, gA, Option.map_some], ?_⟩
  have elc := lc_ref (T := T) (cl := call (n + 12)) (e := .ix (.var 6) (.con (.int 1))) (src := .con (.ref h5.length)) (own := [6]) (t := .nm 6) (ifs := []) (ρ := ρr d s t lt lr none none none) (h := h5 ++ [PO.lst ((ys.take j).map ofP)]) (h1 := h5 ++ [PO.lst ((ys.take j).map ofP)]) (xs := (ys.take j).map ofP) (l := h5.length) (fun _ => true) ix1 e_con gA (by rw [List.length_map, List.length_take]; omega) (fun u hu h' _ hh => by
    obtain ⟨⟨a, y⟩, hq, rfl⟩ := List.mem_map.mp hu
    exact lcB_all (ρ1 := ρr d s t lt lr none (some (ofP (a, y))) none) rfl (e_ix (v := ofP (a, y)) (w := .int 1) (h1 := h') (h2 := h') (e_var rfl) e_con rfl))
  rw [List.filter_eq_self.mpr (fun _ _ => rfl), ix1_map] at elc
  refine Al.ok (lcRun_of gA elc) (al_nil ?_)
  generalize h5 ++ [PO.lst ((ys.take j).map ofP)] = h6 at S6 L6
  have nnd : ((ys.take j).map (·.2)).Nodup := (names_nd pm).sublist ((List.take_sublist j ys).map _)
  have nN : ∀ x ∈ (ys.take j).map (·.2), IsN x := fun x hx => by
    obtain ⟨q, hq, rfl⟩ := List.mem_map.mp hx
    exact hN q (pm.mem_iff.mp (List.mem_of_mem_take hq))
  generalize (ys.take j).map (·.2) = names at nnd nN
  have fB : Fr [] h6 (h6 ++ [PO.lst (names.map PV.str)]) := Fr.app
  have S7 := S6.fr0 fB
  have L7 := L6.fr0 fB
  have Q7 : Lt (h6 ++ [PO.lst (names.map PV.str)]) h6.length p names := ⟨get_last, fun z => by have := S6.w.lt z; omega⟩
  have hqt : h6.length ≠ lt := by have := get_lt L6.g; omega
  generalize h6 ++ [PO.lst (names.map PV.str)] = h7 at S7 L7 Q7
  generalize h6.length = q7 at Q7 hqt
  refine ⟨(.lst q7, (names.map PV.str).length), by simp only [wkOf, lstAt, Q7.g, Option.map_some], ?_⟩
  obtain ⟨h8, p8, z8, e8, S8, L8⟩ := s_fill (n := n + 3) (z3 := none) (z6 := none) (z7 := none) hs2 nnd nN S7 L7 Q7 hqt hlr hdl
  have ev8 : evI T (call (n + 3 + 9)) .seq [.con (.ref q7)] (ρr d s t lt lr none none none) h7 = .ok (.lst q7, names.length) h7 := by
    have := evI_ref (T := T) (cl := call (n + 3 + 9)) (ρ := ρr d s t lt lr none none none) (src := .con (.ref q7)) e_con Q7.g
    rwa [List.length_map] at this
  have e8' := e8 _ ev8
  rw [exS_for, ev8, Res.bind_ok] at e8'
  refine Al.ok (by rw [List.length_map]; exact e8') ?_
  show Al _ (exSs T (call (n + 12)) 100 _ (ρr d s t lt lr z8 none none) h8)
  clear e8 ev8 e8' S7 L7 Q7 elc gA fA S6 L6 esl S5 L5 S4 L4 S3 L3 fB g5 g4 dc4 dc5 f4 f5
  -- the scans
  refine al_ss (al_ite (al_evT (al_not (al_call rfl ?_))))
  repeat (first | (with_reducible show Al _ (evEs _ _ (_ :: _) _ _)); refine al_cons (fun _ e => nomatch e) ?_ | (with_reducible show Al _ (evEs _ _ [] _ _)); refine al_nil ?_ | (with_reducible show Al _ (evE _ _ (.var _) _ _)); refine al_var rfl ?_ | (with_reducible show Al _ (evE _ _ (.con _) _ _)); refine al_con ?_ | (with_reducible show Al _ (evE _ _ (.call _ _) _ _)); refine al_call rfl ?_ | (with_reducible show Al _ (evE _ _ (.bin _ _ _) _ _)); refine al_bin ?_ | (with_reducible show Al _ (evE _ _ (.cmp _ _ _) _ _)); refine al_cmp ?_ | (with_reducible show Al _ (evE _ _ (.bi _ _) _ _)); refine al_bi ?_ | (with_reducible show Al _ (evE _ _ (.tup _) _ _)); refine al_tup ?_ | (with_reducible show Al _ (evE _ _ (.lst _) _ _)); refine al_lst ?_ | (with_reducible show Al _ (exS _ _ _ (.ret _) _ _)); refine al_ret ?_ | (with_reducible show Al _ (exS _ _ _ (.asg (.nm _) _) _ _)); refine al_asg ?_ | (with_reducible show Al _ (exS _ _ _ (.asg (.tp _) _) _ _)); refine al_asgt ?_ | (with_reducible show Al _ (exSs _ _ _ (.asg _ _ :: _) _ _)); refine al_ss ?_ | (with_reducible show Al _ (exSs _ _ _ (.ret _ :: _) _ _)); refine al_ss ?_)
  refine (l_scan (n := n) (b := b + 1) hs2 (S8.le (by omega)) L8).imp fun v h9 ⟨e, p9, ns9, S9, o9, f9⟩ => ?_
  subst e
  refine ⟨true, rfl, _, rfl, ?_⟩
  simp only [Bool.not_true, Bool.false_eq_true, if_false]
  refine al_nx ?_
  show Al _ (exSs T (call (n + 12)) 100 [.asg (.nm 4) (.lc (.var 3) [7, 3] (.tp [7, 3]) .seq [.var 5] [.oin false 20 (.var 3) (.var 2)]), .ret (.call 29 [.var 0, .var 2, .var 5, .var 4])] (ρr d s t lt lr z8 none none) h9)
  have elc := lc_ref (T := T) (cl := call (n + 12)) (e := .var 3) (src := .var 5) (own := [7, 3]) (t := .tp [7, 3]) (ifs := [.oin false 20 (.var 3) (.var 2)]) (ρ := ρr d s t lt lr z8 none none) (h := h9) (h1 := h9) (xs := (rows s).map ofP) (l := lr) (thF ns9) sndV (e_var rfl) S9.r (by rw [List.length_map, rows_len]; omega) (fun u hu h' hle hh => by
    obtain ⟨⟨a, y⟩, hq, rfl⟩ := List.mem_map.mp hu
    have w' : TOk h' s p9 ns9 := S9.w.fr (S := []) ⟨hle, fun m hm _ => hh m hm⟩ (by simp)
    have q1 : evE T (call (n + 12)) (.oin false 20 (.var 3) (.var 2)) (ρr d s t lt lr (some (.str y)) none (some (.int a))) h' = .ok (.bl (thF ns9 (ofP (a, y)))) h' := e_in (n := n + 11) w' rfl (by rw [S9.t_]; rfl)
    exact lcB_if (b := thF ns9 (ofP (a, y))) (ρ1 := ρr d s t lt lr (some (.str y)) none (some (.int a))) rfl q1 (fun _ => e_var rfl))
  rw [filter_of (thF ns9) (fun q => decide (q.2 ∈ ns9)) (fun _ => rfl), snd_map] at elc
  refine al_nxs (ρ1 := ρr d s t h9.length lr z8 none none) (s_asg elc) ?_
  have fC : Fr [] h9 (h9 ++ [PO.lst ((((rows s).filter fun q => decide (q.2 ∈ ns9)).map (·.2)).map PV.str)]) := Fr.app
  have d9 := S9.dc.lt
  refine al_ss (al_ret (al_call rfl ?_))
  repeat (first | (with_reducible show Al _ (evEs _ _ (_ :: _) _ _)); refine al_cons (fun _ e => nomatch e) ?_ | (with_reducible show Al _ (evEs _ _ [] _ _)); refine al_nil ?_ | (with_reducible show Al _ (evE _ _ (.var _) _ _)); refine al_var rfl ?_ | (with_reducible show Al _ (evE _ _ (.con _) _ _)); refine al_con ?_ | (with_reducible show Al _ (evE _ _ (.call _ _) _ _)); refine al_call rfl ?_ | (with_reducible show Al _ (evE _ _ (.bin _ _ _) _ _)); refine al_bin ?_ | (with_reducible show Al _ (evE _ _ (.cmp _ _ _) _ _)); refine al_cmp ?_ | (with_reducible show Al _ (evE _ _ (.bi _ _) _ _)); refine al_bi ?_ | (with_reducible show Al _ (evE _ _ (.tup _) _ _)); refine al_tup ?_ | (with_reducible show Al _ (evE _ _ (.lst _) _ _)); refine al_lst ?_ | (with_reducible show Al _ (exS _ _ _ (.ret _) _ _)); refine al_ret ?_ | (with_reducible show Al _ (exS _ _ _ (.asg (.nm _) _) _ _)); refine al_asg ?_ | (with_reducible show Al _ (exS _ _ _ (.asg (.tp _) _) _ _)); refine al_asgt ?_ | (with_reducible show Al _ (exSs _ _ _ (.asg _ _ :: _) _ _)); refine al_ss ?_ | (with_reducible show Al _ (exSs _ _ _ (.ret _ :: _) _ _)); refine al_ss ?_)
  refine (l_still (n := n + 7) (S9.fr0 fC) get_last (fun x => ?_) (by omega)).imp fun v h' q => q
  constructor
  · intro hx
    obtain ⟨q, hq, rfl⟩ := List.mem_map.mp hx
    exact of_decide_eq_true (List.mem_filter.mp hq).2
  · intro hx
    exact List.mem_map.mpr ⟨pr s x, List.mem_filter.mpr ⟨rows_mem.mpr ⟨x, S9.w.ok x hx, rfl⟩, decide_eq_true hx⟩, rfl⟩
end
end K06
set_option Elab.async false
set_option linter.all false
set_option maxRecDepth 100000
set_option maxHeartbeats 400000
namespace K06
open PySem PySem.Spec PyProof.Rows L2 Mn
section
variable {n d b s t lr lt : Nat} {ρ : PEnv} {h h1 h2 h3 : PH} {p p1 p' : Ps} {ns : List Tx}
def lawEnd : List Sm := [.asg (.nm 2) (.calld 33 [] 1), .for_ (.nm 3) .seq [.lst [.con (.str [97, 99]), .con (.str [98, 66]), .con (.str [97])]] [.ex (.mt 15 .none (.var 2) [.var 3, .var 3])], .asg (.nm 4) (.mt 18 .none (.var 2) [.con (.int 0), .con (.int 1)]), .ret (.and (.cmp .eq (.var 4) (.tup [.ix (.mt 18 .none (.var 2) [.con (.int 0), .con (.int 2)]) (.con (.int 0)), .tup [.con (.str [97, 99]), .con (.str [98, 66])]])) (.cmp .eq (.mt 18 .none (.var 2) [.ix (.var 4) (.con (.int 0)), .con (.int 1)]) (.tup [.con (.int 0), .tup [.con (.str [97])]])))]
def N3 : List Tx := [[97, 99], [98, 66], [97]]
def cur3 : Int := (scanP (srtP (N3.map (pr 0))) 0 1).1
theorem sc1 : scanP (srtP (N3.map (pr 0))) 0 1 = (cur3, [[97, 99], [98, 66]]) := by decide +kernel
theorem sc2 : (scanP (srtP (N3.map (pr 0))) 0 2).1 = cur3 := by decide +kernel
theorem sc3 : scanP (srtP (N3.map (pr 0))) cur3 1 = (0, [[97]]) := by decide +kernel
theorem sc4 : 0 ≤ cur3 ∧ cur3 ≤ 65535 := by decide +kernel
theorem n3_ok : ∀ x ∈ N3, IsN x := by
  intro x hx
  simp only [N3, List.mem_cons, List.not_mem_nil, or_false] at hx
  rcases hx with rfl | rfl | rfl <;> simp [IsN, N20]
theorem n3_put : ∀ (i : Nat) (hi : i < N3.length), put1 (N3.take i) N3[i] = N3.take (i + 1)
  | 0, _ => (by decide +kernel : put1 (N3.take 0) (N3[0]'(by decide)) = N3.take 1)
  | 1, _ => (by decide +kernel : put1 (N3.take 1) (N3[1]'(by decide)) = N3.take 2)
  | 2, _ => (by decide +kernel : put1 (N3.take 2) (N3[2]'(by decide)) = N3.take 3)
  | n + 3, h => absurd h (by simp [N3])
def ρe (script : PV) (z1 : Option PV) (t : Nat) (z3 z4 z5 : Option PV) : PEnv := [some script, z1, some (.ref t), z3, z4, z5]
theorem law_end {script : PV} {z1 z5 : Option PV} : ∃ h', exSs T (call (n + 9)) 100 lawEnd [some script, z1, none, none, none, z5] h = .ok (.rt (.bl true)) h' := by
  have m1 : exS T (call (n + 9)) 100 (.asg (.nm 2) (.calld 33 [] 1)) [some script, z1, none, none, none, z5] h = .ok (.nx (ρe script z1 h.length none none z5)) (h ++ made 0 h) := s_asg (e_made0 (n := n + 7))
  have S1 := made_ok 0 h
  have eq : evE T (call (n + 9)) (.lst [.con (.str [97, 99]), .con (.str [98, 66]), .con (.str [97])]) (ρe script z1 h.length none none z5) (h ++ made 0 h) = .ok (.ref (h ++ made 0 h).length) (h ++ made 0 h ++ [.lst (N3.map .str)]) := e_lst (vs := N3.map .str) rfl (by simp [N3])
  have f1 : Fr [] (h ++ made 0 h) (h ++ made 0 h ++ [.lst (N3.map .str)]) := Fr.app
  have S2 := S1.fr f1 (by simp)
  have hq : (h ++ made 0 h).length ∉ (p0 h).all := fun z => by have := S1.lt z; omega
  have gq : (h ++ made 0 h ++ [PO.lst (N3.map PV.str)])[(h ++ made 0 h).length]? = some (.lst (N3.map .str)) := get_last
  obtain ⟨ρ2, h2, e2, p2, z3, rfl, S3, tt, gq2, hq2⟩ := for_ex (T := T) (W := 100) (cl := call (n + 9)) (t := .nm 3) (k := .seq) (its := [.lst [.con (.str [97, 99]), .con (.str [98, 66]), .con (.str [97])]]) (b := [.ex (.mt 15 .none (.var 2) [.var 3, .var 3])]) (ρ := ρe script z1 h.length none none z5) (h := h ++ made 0 h) (h1 := h ++ made 0 h ++ [.lst (N3.map .str)]) (w := .lst (h ++ made 0 h).length) (N := (N3.map PV.str).length)
    (fun i ρ h' => ∃ p' z3, ρ = ρe script z1 h.length z3 none z5 ∧ TOk h' 0 p' (N3.take i) ∧ p'.t = h.length ∧ h'[(h ++ made 0 h).length]? = some (.lst (N3.map .str)) ∧ (h ++ made 0 h).length ∉ p'.all)
    (evI_ref eq gq) ⟨p0 h, none, rfl, S2, rfl, gq, hq⟩ (fun i hi ρ h' ⟨p', z3, eρ, w', et, g', n'⟩ => by
      subst eρ
      have hi' : i < N3.length := by simpa using hi
      have hx := n3_ok _ (List.getElem_mem hi')
      obtain ⟨h1, p1, e1, w1, o1, f1⟩ := p_put (n := n) (v := .str N3[i]) (by decide) w' hx (.inr (.inl ⟨_, rfl⟩))
      obtain ⟨mv, hto⟩ := w'.ht
      have ep := n3_put i hi'
      rw [ep] at w1
      refine ⟨.str N3[i], ρe script z1 h.length (some (.str N3[i])) none z5, h1, by simp only [wkAt, lstAt, g']; simp [hi'], ?_, p1, _, rfl, w1, o1.1.trans et, f1.get g' n', o1.nin n' (get_lt g')⟩
      rw [forB_nm]
      exact st_nx (s_ex (e_meth (g := 14) (vs := [.str N3[i], .str N3[i]]) (h1 := h') (h2 := h') (e_var (by rw [et]; rfl)) hto rfl rfl (e_two (h1 := h') (e_var rfl) (e_var rfl)) e1)) s_nil) (fun ρ h' ⟨_, _, _, _, _, g', _⟩ => by simp only [wkAt, lstAt, g']; simp)
  have S3 : TOk h2 0 p2 N3 := S3
  obtain ⟨mv, hto⟩ := S3.ht
  obtain ⟨h3, e3, f3⟩ := p_scan (n := n + 5) S3 (c := 0) (k := 1) (by omega) (by omega) (by omega) (by omega)
  have S4 := S3.fr f3 (by simp)
  obtain ⟨h4, e4, f4⟩ := p_scan (n := n + 5) S4 (c := 0) (k := 2) (by omega) (by omega) (by omega) (by omega)
  have S5 := S4.fr f4 (by simp)
  obtain ⟨h5, e5, f5⟩ := p_scan (n := n + 5) S5 (c := cur3) (k := 1) sc4.1 sc4.2 (by omega) (by omega)
  rw [sc1] at e3
  have sc2' := sc2
  obtain ⟨c2, t2, eS2⟩ : ∃ c2 t2, scanP (srtP (N3.map (pr 0))) 0 2 = (c2, t2) := ⟨_, _, rfl⟩
  rw [eS2] at e4 sc2'
  have sc2' : c2 = cur3 := sc2'
  rw [sc2'] at e4
  rw [sc3] at e5
  rw [tt] at e3 e4 e5 hto
  have hto3 := f3.get0 hto
  have hto4 := f4.get0 hto3
  have m3 : exS T (call (n + 9)) 100 (.asg (.nm 4) (.mt 18 .none (.var 2) [.con (.int 0), .con (.int 1)])) (ρe script z1 h.length z3 none z5) h2 = .ok (.nx (ρe script z1 h.length z3 (some (scanV (cur3, [[97, 99], [98, 66]]))) z5)) h3 := s_asg (e_meth (g := 17) (vs := [.int 0, .int 1]) (h1 := h2) (h2 := h2) (e_var rfl) hto rfl rfl (e_two (h1 := h2) e_con e_con) e3)
  have c1 : evE T (call (n + 9)) (.cmp .eq (.var 4) (.tup [.ix (.mt 18 .none (.var 2) [.con (.int 0), .con (.int 2)]) (.con (.int 0)), .tup [.con (.str [97, 99]), .con (.str [98, 66])]])) (ρe script z1 h.length z3 (some (scanV (cur3, [[97, 99], [98, 66]]))) z5) h3 = .ok (.bl true) h4 := by
    refine e_eq_same (v := scanV (cur3, [[97, 99], [98, 66]])) (h1 := h3) (e_var rfl) ?_ (pu_scan (told := [[97, 99], [98, 66]]) fun x hx => n3_ok x (by simp only [N3, List.mem_cons, List.not_mem_nil, or_false] at hx ⊢; rcases hx with q | q; exact .inl q; exact .inr (.inl q))).1 (pu_scan (told := [[97, 99], [98, 66]]) fun x hx => n3_ok x (by simp only [N3, List.mem_cons, List.not_mem_nil, or_false] at hx ⊢; rcases hx with q | q; exact .inl q; exact .inr (.inl q))).2
    have ei : evE T (call (n + 9)) (.ix (.mt 18 .none (.var 2) [.con (.int 0), .con (.int 2)]) (.con (.int 0))) (ρe script z1 h.length z3 (some (scanV (cur3, [[97, 99], [98, 66]]))) z5) h3 = .ok (.int cur3) h4 := e_ix (v := scanV (cur3, t2)) (w := .int 0) (h1 := h4) (h2 := h4) (e_meth (g := 17) (vs := [.int 0, .int 2]) (h1 := h3) (h2 := h3) (e_var rfl) hto3 rfl rfl (e_two (h1 := h3) e_con e_con) e4) e_con rfl
    exact e_tup (e_two (h1 := h4) ei (e_tup (e_two (h1 := h4) e_con e_con) (by simp))) (by simp)
  have c2' : evE T (call (n + 9)) (.cmp .eq (.mt 18 .none (.var 2) [.ix (.var 4) (.con (.int 0)), .con (.int 1)]) (.tup [.con (.int 0), .tup [.con (.str [97])]])) (ρe script z1 h.length z3 (some (scanV (cur3, [[97, 99], [98, 66]]))) z5) h4 = .ok (.bl true) h5 := by
    refine e_eq_same (v := scanV (0, [[97]])) (h1 := h5) ?_ ?_ (pu_scan (told := [[97]]) fun x hx => n3_ok x (by simp only [N3, List.mem_cons, List.not_mem_nil, or_false] at hx ⊢; exact .inr (.inr hx))).1 (pu_scan (told := [[97]]) fun x hx => n3_ok x (by simp only [N3, List.mem_cons, List.not_mem_nil, or_false] at hx ⊢; exact .inr (.inr hx))).2
    · exact e_meth (g := 17) (vs := [.int cur3, .int 1]) (h1 := h4) (h2 := h4) (e_var rfl) hto4 rfl rfl (e_two (h1 := h4) (e_ix (v := scanV (cur3, [[97, 99], [98, 66]])) (w := .int 0) (h1 := h4) (h2 := h4) (e_var rfl) e_con rfl) e_con) e5
    · exact e_tup (e_two (h1 := h5) e_con (e_tup (e_one e_con) (by simp))) (by simp)
  exact ⟨h5, st_nx m1 (st_nx e2 (st_nx m3 (st_rt (s_ret (e_andT c1 c2')))))⟩
theorem law_len {n : Nat} (ns : List Int) : ∃ N : Nat, N ≤ 3 ∧ ∀ ρ h, ρ[0]? = some (some (.frk (ns.map .int))) → evEs T (call n) [.bi .max [.con (.int 1), .bi .min [.con (.int 3), .bi .len [.var 0]]]] ρ h = .ok [.int N] h := by
  obtain ⟨N, hN, e⟩ := min_max3 ns.length
  refine ⟨N, hN, fun ρ h h0 => e_one (e_bi (e_two e_con (e_bi (e_two e_con (e_bi (e_one (e_var h0)) rfl)) rfl)) ?_)⟩
  simp only [pBi, List.length_map]
  rw [e]
theorem law_al {ns : List Int} (hn : ns.length ≤ 63) : Al (fun v _ => v = .bl true) (call 14 53 [.frk (ns.map .int)] []) := by
  rw [call_run (d := d_law) rfl rfl]
  refine al_run rfl ?_
  obtain ⟨N, hN, eN⟩ := law_len (n := 13) ns
  show Al _ (exSs T (call 13) 100 (.for_ (.nm 1) .rng [.bi .max [.con (.int 1), .bi .min [.con (.int 3), .bi .len [.var 0]]]] [.asg (.nm 5) (.call 15 [.var 0, .var 1]), .ite (.or (.not (.call 30 [.var 5])) (.not (.call 30 [.var 5]))) [.ret (.con (.bl false))] []] :: lawEnd) [some (.frk (ns.map .int)), none, none, none, none, none] [])
  refine al_ss (al_for (Inv := fun i ρ h' => ∃ z1 z5, ρ = [some (.frk (ns.map .int)), z1, none, none, none, z5]) (evI_rng (eN _ _ rfl) (by omega)) ?_ ?_ ⟨none, none, rfl⟩)
  · rintro i hi ρ h' ⟨z1, z5, rfl⟩
    refine ⟨.int i, fix_at (by rw [List.getElem?_map, List.getElem?_range hi]; rfl), ?_⟩
    rw [forB_nm]
    show Al _ (exSs T (call 13) 100 [.asg (.nm 5) (.call 15 [.var 0, .var 1]), .ite (.or (.not (.call 30 [.var 5])) (.not (.call 30 [.var 5]))) [.ret (.con (.bl false))] []] [some (.frk (ns.map .int)), some (.int i), none, none, none, z5] h')
    have ed : call 13 37 [.frk (ns.map .int), .int i] h' = .ok (.ref h'.length) (h' ++ [.dice (2 ^ 63)]) := by
      rw [show call 13 37 [.frk (ns.map .int), .int i] h' = spDice [.frk (ns.map .int), .int i] h' from callS_sp (d := d__law_dice) rfl rfl rfl]
      exact al_dice (ints_some ns) (by omega)
    refine al_nxs (ρ1 := [some (.frk (ns.map .int)), some (.int i), none, none, none, some (.ref h'.length)]) (s_asg (e_call (f := 37) rfl (e_two (e_var rfl) (e_var rfl)) ed)) ?_
    have dc : Dc h'.length (0 + 275 + 275) (h' ++ [PO.dice (2 ^ 63)]) := ⟨2 ^ 63, get_last, by decide⟩
    refine al_ss (al_ite (al_evT (al_or (al_not (al_call rfl ?_)))))
    refine al_cons (fun _ e => nomatch e) (al_var rfl (al_nil ?_))
    refine (l_right (n := 0) dc).imp fun v h2 ⟨ev, dc2⟩ => ?_
    subst ev
    refine ⟨true, rfl, false, rfl, ?_⟩
    simp only [Bool.false_eq_true, if_false]
    refine al_not (al_call rfl ?_)
    refine al_cons (fun _ e => nomatch e) (al_var rfl (al_nil ?_))
    refine (l_right (n := 0) dc2).imp fun v h3 ⟨ev, dc3⟩ => ?_
    subst ev
    refine ⟨true, rfl, false, rfl, ?_⟩
    simp only [Bool.false_eq_true, if_false]
    exact al_nx (al_nx ⟨_, _, rfl⟩)
  · rintro ρ h' ⟨z1, z5, rfl⟩
    refine ⟨by simp [wkAt], ?_⟩
    obtain ⟨h2, e⟩ := law_end (n := 4) (script := .frk (ns.map .int)) (z1 := z1) (z5 := z5) (h := h')
    exact Al.ok e rfl
end
end K06
set_option Elab.async false
set_option linter.all false
set_option maxRecDepth 100000
set_option maxHeartbeats 0
namespace K06
open PySem PySem.Spec PyProof.Rows L2 Mn
def Tr : Res PV → Prop
  | .ok v _ => v = .bl true
  | .er _ _ => False
  | .stuck => False
  | .all n k => ∀ i < n, Tr (k i)
theorem Tr.ok {G : Gm} {E : XK} {as : List Addr} {H : Hp} {r : Res PV} (t : Tr r) : OkV G E as H (fun v _ => v = .bl true) r := by
  induction r with
  | ok v h =>
    intro as' H' v' f r
    have e : v = .bl true := t
    rw [e] at r
    exact RepV.blE r
  | er x h => exact False.elim t
  | stuck => exact False.elim t
  | all n f ih => exact fun i hi => ih i (t i hi)
theorem al_tr {r : Res PV} (h : Al (fun v _ => v = .bl true) r) : Tr r := by
  induction h with
  | ret p => exact p
  | draw q ih => exact ih
theorem core (ns : List Int) (h : ns.length ≤ 63) : Tr (call 14 53 [.frk (ns.map .int)] []) := al_tr (law_al h)
theorem spOk (K : PySem.W.Frag) : SpOk (gm K) T 100 defs spec := by
  intro i d r hd hs n as H h xs vs Q E S R hl o
  unfold spec at hs
  split at hs
  · cases hs
    cases hd
    exact ⟨as, h, S, R, dice_ok rfl rfl rfl hl o⟩
  · cases hs
    cases hd
    obtain ⟨h', S', o'⟩ := roll_ok (d := d__law_roll) rfl rfl rfl S hl o
    exact ⟨as, h', S', R, o'⟩
  · cases hs
def spLaw (K : PySem.W.Frag) : Sp := spF (gm K) (call 14) 53 1
theorem frk_ints {G : Gm} {as : List Addr} {H : Hp} : ∀ ns : List Int, RepVs G as H (ns.map .int) (ns.map V.int)
  | [] => .nil
  | n :: ns => .cons (.int n) (frk_ints ns)
theorem law_sp {K : PySem.W.Frag} {H : Hp} {a : Addr} {ns : List Int} (hl : ns.length ≤ 63) (hO : Only H) (hS : SqL K H a (ns.map V.int)) : spLaw K [.ref a] H (fun v _ => v = .bl true) fun _ _ _ => False := by
  have hF : SqF K H a (ns.map V.int) := by
    rcases hS with (h | ⟨o, h⟩) | h
    · rcases hO a with q | ⟨o, xs, q⟩
      · rw [q] at h; cases h
      · rw [q] at h; cases h
    · exact .inl ⟨o, h⟩
    · exact .inr h
  refine ⟨rfl, [], [], [.frk (ns.map .int)], ⟨List.nodup_nil, rfl, fun l o a e => by simp at e⟩, .cons ?_ .nil, (core ns hl).ok⟩
  unfold RepV
  exact ⟨a, ns.map V.int, rfl, hF, frk_ints ns⟩
abbrev RowK : PySem.W.OpenRow := PySem.W.OpenLaw.row PySem.Challenge.rw_deedline_k06_whole_scans_woven_with_chan
abbrev hk : PySem.W.Hook := hkM 6 ck fa fn
def ob (s : PySem.W.SharedT) : He.AlD := obMG 6 ck fa fn (HandSHeadRun.getT s)
theorem ob_eq (s : PySem.W.SharedT) : ob s = hk.obs s.abs := obM_eq (HandSHeadRun.getT_eq s)
theorem run (w : World) : HandSHeadRun.RunEq RowK (PySem.W.view RowK.prog [lawTop]) hk ob 12000 loose w := by
  intro os
  kernel_rfl
def CXw (P : Program) : CXT := fun outer H s E e s' => ∃ w, L2.CX P w outer H s E e s'
theorem fnok_cx {P : Program} {w : World} {K : PySem.W.Frag} {mg : Str → Option Value} {base : Heap} {CX CX' : CXT} {k : Nat} {f : Addr} {fd : FuncData} {ps : List Str} {sp : Sp} (F : FnOk P w K mg base CX k f fd ps sp) (h : ∀ o H s E e s', CX o H s E e s' → CX' o H s E e s') : FnOk P w K mg base CX' k f fd ps sp :=
  ⟨F.len, fun A outer s H args us vs Q E hr he hb hv hs => codeAny_mono (F.run A outer s H args us vs Q E hr he hb hv hs) fun r s' q => by
    cases r with
    | error e => exact h _ _ _ _ _ _ q
    | ok fl => cases fl <;> exact q⟩
theorem facts {P : Program} {w : World} {K : PySem.W.Frag} {h : Heap} {mg : Str → Option Value} {f : Addr} (X : K.In h) (G : h.Ns mainGlobals mg) (hfa : mg ("law" : Str) = some (.ref f)) (c : SaM ck fa fn K) :
    ∃ fd : FuncData, (∀ (s : Shared) (v : Value), BindsTo s fd ⟨[v], []⟩ [("_law_script", v)]) ∧ ∀ base : Heap, K.In base → base.Ns mainGlobals mg → FnOk P w K mg base (CXw P) 28 f fd ["_law_script"] (spLaw K) := by
  obtain ⟨fd, F⟩ := c.def_ 53 (d := D_law) rfl
  have e := hfa.symm.trans (He.glo_ok X G (c.fact 31 (f := .glo "law") rfl))
  cases e
  have b := FunD.bindsA (ps := ["_law_script"]) F fun _ _ _ _ _ _ us hl => match us, hl with | [_], _ => rfl
  refine ⟨fd, fun s v => b s [v] rfl, fun base _ _ => ?_⟩
  have D : DOk (gm K) T nm K 53 d_law fd := ⟨⟨_, _, _, _, _, ⟨_, _, F⟩, S_law, .inl c_law⟩, F.bindsN fun _ _ _ _ _ _ us hl => match us, hl with | [_], _ => rfl, F.kp, dfl_none (by decide)⟩
  refine fnok_cx (CX := L2.CX P w) ?_ fun o H s E e s' q => ⟨w, q⟩
  exact fn_mini (W := 100) (i := 53) (gok X G c) D (all_fns (P := P) (w := w) (base := base) (gok X G c) (dok c) (spOk K) 13)
end K06
open PySem PySem.W PySem.Calls PyProof.Rows
theorem PySem.Challenge.cw_deedline_k06_whole_scans_woven_with_chan_holds : PySem.Challenge.rw_deedline_k06_whole_scans_woven_with_chan.Holds := by
  w_on; o_law
  refine HandSHeadRun.head_any (r := OpenLaw.row PySem.Challenge.rw_deedline_k06_whole_scans_woven_with_chan) (q := view (OpenLaw.row PySem.Challenge.rw_deedline_k06_whole_scans_woven_with_chan).prog [K06.lawTop]) (H := K06.hk) (ob := K06.ob) (M := 12000) (loose := K06.loose) (d := HandSHeadRun.topDef (OpenLaw.row PySem.Challenge.rw_deedline_k06_whole_scans_woven_with_chan).prog K06.lawTop) (kwd := []) K06.ob_eq
    (by kernel_rfl) (fun s => by kernel_rfl) K06.run (by kernel_rfl) (by kernel_rfl) (by kernel_rfl) (by rfl) (by first | assumption | decide +kernel) (by decide +kernel) ⟨rfl, rfl, rfl, rfl, rfl, by decide +kernel⟩ ?hw ?hc
  case hw => w_witness2
  case hc =>
    refine L2.walk_ofE (l := PySem.Challenge.rw_deedline_k06_whole_scans_woven_with_chan) (n := 63) (k := 28) (x := "_law_script") (CX := K06.CXw (PySem.Challenge.rw_deedline_k06_whole_scans_woven_with_chan).prog) rfl (by decide) (by kernel_rfl) ⟨rfl, by decide, by decide⟩ ?F ?G
    case G =>
      intro H s e s' h
      obtain ⟨_, _, _, _, _, _, _, _, _, _, _, _, _, q⟩ := h
      exact q
    intro w mg fa h Y G hmg0
    obtain ⟨K, KX, c⟩ := Y
    have hmg : mg ("law" : PySem.Str) = some (.ref fa) := by
      have e : (HandSHeadRun.topDef (OpenLaw.row PySem.Challenge.rw_deedline_k06_whole_scans_woven_with_chan).prog K06.lawTop).name = ("law" : PySem.Str) := by kernel_rfl
      rw [← e]
      exact hmg0
    obtain ⟨fd, hb, hF⟩ := K06.facts (P := (PySem.Challenge.rw_deedline_k06_whole_scans_woven_with_chan).prog) (w := w) KX G hmg c
    exact ⟨K, fd, K06.spLaw K, KX, hb, fun H a ns hl hO hS => K06.law_sp hl hO hS, hF⟩
