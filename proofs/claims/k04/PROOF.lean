import PyProof.Rows.All
import HandS.ForMost
import HandS.Wide
import HandS.Exc
import HandS.IsInst
import HandS.Walk
import HandS.StrMore
import HandS.TupAny
import HandS.TupLe
import HandS.Deep
import HandS.ExcOwn
import HandS.Flow
import KE.GoesMore
import PyProof.EnumMake
import HandS.Style
import HandS.Small
import HandS.ReplaceDef
import HandS.ReplaceLit
import HandS.Defaults
import Wide.All
import OpenK.AllK
import Wide.FinOn
import KE.KStateDown
import Lean
import HandS.Base
import HandS.Call
import HandS.Ends
import HandS.More
import HandS.Words
import HandS.WordsExc
import HandS.Head0
import HandS.Head1
import HandS.Head2
import HandS.HeadEnd
import HandS.HeadHook1
import HandS.HeadHook2
import PySem.Challenge.RW_deedline_k04_hashes_spots_and_check_sums
import KE.BitLaws
import HandS.ReplaceList
import PyProof.Rows.StrStrike
import PyProof.Rows.StrSigns2
set_option Elab.async false
set_option linter.all false
set_option maxRecDepth 100000
set_option maxHeartbeats 2000000
namespace Mn
open PySem L2
inductive PV where
  | non | bl (b : Bool) | int (i : Int) | str (x : List Nat) | tup (xs : List PV) | ref (l : Nat) | frk (xs : List PV) | fn (i : Nat) | cls (c : Nat) | ty (n : String)
inductive PO where
  | lst (xs : List PV)
  | frz (xs : List PV)
  | dic (kvs : List (Key × PV))
  | ins (c : Nat) (fs : List (Nat × PV))
  | dice (b : Nat)
abbrev PH := List PO
abbrev PEnv := List (Option PV)
structure PX where
  c : Nat
  fs : List (Nat × PV)
inductive Res (α : Type) where
  | ok (a : α) (h : PH)
  | er (x : PX) (h : PH)
  | stuck
  | all (n : Nat) (k : Nat → Res α)
def Res.bind {α β : Type} (r : Res α) (k : α → PH → Res β) : Res β := match r with
  | .ok a h => k a h
  | .er x h => .er x h
  | .stuck => .stuck
  | .all n f => .all n fun i => (f i).bind k
@[simp] theorem Res.bind_ok {α β : Type} (a : α) (h : PH) (k : α → PH → Res β) : (Res.ok a h).bind k = k a h := rfl
@[simp] theorem Res.bind_er {α β : Type} (x : PX) (h : PH) (k : α → PH → Res β) : (Res.er x h : Res α).bind k = .er x h := rfl
@[simp] theorem Res.bind_stuck {α β : Type} (k : α → PH → Res β) : (Res.stuck : Res α).bind k = .stuck := rfl
@[simp] theorem Res.bind_all {α β : Type} (n : Nat) (f : Nat → Res α) (k : α → PH → Res β) : (Res.all n f).bind k = .all n fun i => (f i).bind k := rfl
structure Gm where
  K : PySem.W.Frag
  fa : Nat → Addr
  ca : Nat → Addr
  an : List Str
def SqF (K : PySem.W.Frag) (H : Hp) (a : Addr) (xs : List V) : Prop := (∃ o, H a = some (.frz o (.lst xs))) ∨ ∃ (o : Obj) (its : Array Value) (n : Nat), K.lookup a = some o ∧ o.cls = .type "list" ∧ o.dict = none ∧ o.data = .seq its n ∧ its.size ≤ sizeLine ∧ Vals xs its.toList
theorem SqF.sq {K : PySem.W.Frag} {H : Hp} {a : Addr} {xs : List V} (h : SqF K H a xs) : SqL K H a xs := by
  rcases h with ⟨o, h⟩ | h
  · exact .inl (.inr ⟨o, h⟩)
  · exact .inr h
section
variable (G : Gm) (as : List Addr) (H : Hp)
mutual
def RepV : PV → V → Prop
  | .non, v => v = .non
  | .bl b, v => v = .bl b
  | .int i, v => v = .int i
  | .str x, v => v = .str ⟨x.toArray⟩
  | .tup xs, v => ∃ a vs, v = .ref a ∧ SqT G.K H a vs ∧ RepVs xs vs
  | .ref l, v => ∃ a, as[l]? = some a ∧ v = .ref a
  | .frk xs, v => ∃ a vs, v = .ref a ∧ SqF G.K H a vs ∧ RepVs xs vs
  | .fn i, v => v = .ref (G.fa i)
  | .cls c, v => v = .ref (G.ca c)
  | .ty n, v => v = .ty n
def RepVs : List PV → List V → Prop
  | [], vs => vs = []
  | x :: xs, vs => ∃ v r, vs = v :: r ∧ RepV x v ∧ RepVs xs r
end
def RepK : List (Key × PV) → List (Key × V) → Prop
  | [], ks => ks = []
  | (k, x) :: xs, ks => ∃ v r, ks = (k, v) :: r ∧ RepV G as H x v ∧ RepK xs r
def RepF : List (Nat × PV) → List (Str × V) → Prop
  | [], ks => ks = []
  | (k, x) :: xs, ks => ∃ n v r, ks = (n, v) :: r ∧ G.an[k]? = some n ∧ RepV G as H x v ∧ RepF xs r
def RepO : PO → Addr → Prop
  | .lst xs, a => ∃ vs, H a = some (.lst vs) ∧ RepVs G as H xs vs
  | .frz xs, a => ∃ o vs, H a = some (.frz o (.lst vs)) ∧ RepVs G as H xs vs
  | .dic kvs, a => ∃ ks, H a = some (.dK ks) ∧ RepK G as H kvs ks
  | .ins c fs, a => ∃ dx gs, H a = some (.ins (G.ca c) dx gs) ∧ RepF G as H fs gs
  | .dice b, a => ∃ i j k : Int, H a = some (.lst [.int i, .int j, .int k]) ∧ (0 ≤ i ∧ i < 10 ^ 600) ∧ (0 ≤ j ∧ j < 2 ^ 40) ∧ (0 ≤ k ∧ k + b ≤ 2 ^ 64)
structure SR (h : PH) : Prop where
  nd : as.Nodup
  len : as.length = h.length
  at_ : ∀ (l : Nat) (o : PO) (a : Addr), h[l]? = some o → as[l]? = some a → RepO G as H o a
end
structure Kp (H H' : Hp) : Prop where
  tups : ∀ b xs, H b = some (.tup xs) → H' b = some (.tup xs)
  frzs : ∀ b o u, H b = some (.frz o u) → H' b = some (.frz o u)
theorem Kp.refl (H : Hp) : Kp H H := ⟨fun _ _ h => h, fun _ _ _ h => h⟩
theorem Kp.trans {H H1 H2 : Hp} (a : Kp H H1) (b : Kp H1 H2) : Kp H H2 := ⟨fun x o h => b.tups x o (a.tups x o h), fun x o u h => b.frzs x o u (a.frzs x o u h)⟩
theorem Kp.new {H : Hp} {p : Addr} {o : HO} (h : H p = none) : Kp H (upd H p o) := ⟨fun b xs e => by rw [upd_ne (ne_of_none e h)]; exact e, fun b ob u e => by rw [upd_ne (ne_of_none e h)]; exact e⟩
theorem Kp.rd {H H' : Hp} (k : Kp H H') {a : Addr} {xs : List V} (r : Rd H a (.tup xs)) : Rd H' a (.tup xs) := by
  rcases r with r | ⟨o, r⟩
  · exact .inl (k.tups _ _ r)
  · exact .inr ⟨o, k.frzs _ _ _ r⟩
theorem Kp.sqT {K : PySem.W.Frag} {H H' : Hp} (k : Kp H H') {a : Addr} {xs : List V} (r : SqT K H a xs) : SqT K H' a xs := by
  rcases r with r | r
  · exact .inl (k.rd r)
  · exact .inr r
theorem Kp.sqF {K : PySem.W.Frag} {H H' : Hp} (k : Kp H H') {a : Addr} {xs : List V} (r : SqF K H a xs) : SqF K H' a xs := by
  rcases r with ⟨o, r⟩ | r
  · exact .inl ⟨o, k.frzs _ _ _ r⟩
  · exact .inr r
theorem pre_get {as as' : List Addr} (h : as <+: as') {l : Nat} {a : Addr} (e : as[l]? = some a) : as'[l]? = some a := by
  obtain ⟨t, rfl⟩ := h
  rw [List.getElem?_append_left (List.getElem?_eq_some_iff.mp e).1]
  exact e
section
variable {G : Gm} {as as' : List Addr} {H H' : Hp}
mutual
theorem RepV.mono (hp : as <+: as') (k : Kp H H') : ∀ {x : PV} {v : V}, RepV G as H x v → RepV G as' H' x v
  | .non, _, h => h
  | .bl _, _, h => h
  | .int _, _, h => h
  | .str _, _, h => h
  | .tup xs, v, h => by
    unfold RepV at h ⊢
    obtain ⟨a, vs, e, s, r⟩ := h
    exact ⟨a, vs, e, k.sqT s, RepVs.mono hp k r⟩
  | .ref l, v, h => by
    unfold RepV at h ⊢
    obtain ⟨a, e, r⟩ := h
    exact ⟨a, pre_get hp e, r⟩
  | .frk xs, v, h => by
    unfold RepV at h ⊢
    obtain ⟨a, vs, e, s, r⟩ := h
    exact ⟨a, vs, e, k.sqF s, RepVs.mono hp k r⟩
  | .fn _, _, h => h
  | .cls _, _, h => h
  | .ty _, _, h => h
theorem RepVs.mono (hp : as <+: as') (k : Kp H H') : ∀ {xs : List PV} {vs : List V}, RepVs G as H xs vs → RepVs G as' H' xs vs
  | [], _, h => h
  | x :: xs, vs, h => by
    unfold RepVs at h ⊢
    obtain ⟨v, r, e, h1, h2⟩ := h
    exact ⟨v, r, e, RepV.mono hp k h1, RepVs.mono hp k h2⟩
end
theorem RepK.mono (hp : as <+: as') (k : Kp H H') : ∀ {xs : List (Key × PV)} {vs : List (Key × V)}, RepK G as H xs vs → RepK G as' H' xs vs
  | [], _, h => h
  | (_, x) :: xs, vs, h => by
    unfold RepK at h ⊢
    obtain ⟨v, r, e, h1, h2⟩ := h
    exact ⟨v, r, e, h1.mono hp k, RepK.mono hp k h2⟩
theorem RepF.mono (hp : as <+: as') (k : Kp H H') : ∀ {xs : List (Nat × PV)} {vs : List (Str × V)}, RepF G as H xs vs → RepF G as' H' xs vs
  | [], _, h => h
  | (_, x) :: xs, vs, h => by
    unfold RepF at h ⊢
    obtain ⟨n, v, r, e, en, h1, h2⟩ := h
    exact ⟨n, v, r, e, en, h1.mono hp k, RepF.mono hp k h2⟩
theorem RepO.mono (hp : as <+: as') (k : Kp H H') {o : PO} {a : Addr} (e : H' a = H a) (h : RepO G as H o a) : RepO G as' H' o a := by
  cases o with
  | lst xs => obtain ⟨vs, e1, r⟩ := h; exact ⟨vs, e.trans e1, r.mono hp k⟩
  | frz xs => obtain ⟨o, vs, e1, r⟩ := h; exact ⟨o, vs, e.trans e1, r.mono hp k⟩
  | dic kvs => obtain ⟨ks, e1, r⟩ := h; exact ⟨ks, e.trans e1, r.mono hp k⟩
  | ins c fs => obtain ⟨dx, gs, e1, r⟩ := h; exact ⟨dx, gs, e.trans e1, r.mono hp k⟩
  | dice b => obtain ⟨i, j, m, e1, r⟩ := h; exact ⟨i, j, m, e.trans e1, r⟩
theorem RepO.there {o : PO} {a : Addr} (h : RepO G as H o a) : H a ≠ none := by
  cases o with
  | lst xs => obtain ⟨vs, e1, r⟩ := h; rw [e1]; simp
  | frz xs => obtain ⟨o, vs, e1, r⟩ := h; rw [e1]; simp
  | dic kvs => obtain ⟨ks, e1, r⟩ := h; rw [e1]; simp
  | ins c fs => obtain ⟨dx, gs, e1, r⟩ := h; rw [e1]; simp
  | dice b => obtain ⟨i, j, m, e1, r⟩ := h; rw [e1]; simp
theorem RepO.noTup {o : PO} {a : Addr} (h : RepO G as H o a) (xs : List V) : H a ≠ .some (HO.tup xs) := by
  cases o with
  | lst xs => obtain ⟨vs, e1, r⟩ := h; rw [e1]; simp
  | frz xs => obtain ⟨o, vs, e1, r⟩ := h; rw [e1]; simp
  | dic kvs => obtain ⟨ks, e1, r⟩ := h; rw [e1]; simp
  | ins c fs => obtain ⟨dx, gs, e1, r⟩ := h; rw [e1]; simp
  | dice b => obtain ⟨i, j, m, e1, r⟩ := h; rw [e1]; simp
theorem RepVs.length : ∀ {xs : List PV} {vs : List V}, RepVs G as H xs vs → xs.length = vs.length
  | [], _, h => by unfold RepVs at h; subst h; rfl
  | x :: xs, vs, h => by
    unfold RepVs at h
    obtain ⟨v, r, rfl, _, h2⟩ := h
    simp [RepVs.length h2]
theorem RepVs.get : ∀ {xs : List PV} {vs : List V} {i : Nat} {x : PV}, RepVs G as H xs vs → xs[i]? = some x → ∃ v, vs[i]? = some v ∧ RepV G as H x v
  | [], _, i, x, _, e => by simp at e
  | y :: xs, vs, i, x, h, e => by
    unfold RepVs at h
    obtain ⟨v, r, rfl, h1, h2⟩ := h
    cases i with
    | zero => simp at e; subst e; exact ⟨v, rfl, h1⟩
    | succ i => simpa using RepVs.get (i := i) h2 (by simpa using e)
theorem RepVs.nil : RepVs G as H [] [] := by unfold RepVs; rfl
theorem RepVs.cons {x : PV} {v : V} {xs : List PV} {vs : List V} (h : RepV G as H x v) (r : RepVs G as H xs vs) : RepVs G as H (x :: xs) (v :: vs) := by
  unfold RepVs; exact ⟨v, vs, rfl, h, r⟩
theorem RepVs.append : ∀ {xs ys : List PV} {vs ws : List V}, RepVs G as H xs vs → RepVs G as H ys ws → RepVs G as H (xs ++ ys) (vs ++ ws)
  | [], _, _, _, h, r => by unfold RepVs at h; subst h; simpa using r
  | x :: xs, ys, vs, ws, h, r => by
    unfold RepVs at h
    obtain ⟨v, vs', rfl, h1, h2⟩ := h
    exact .cons h1 (RepVs.append h2 r)
theorem RepVs.set : ∀ {xs : List PV} {vs : List V} {x : PV} {v : V} (i : Nat), RepVs G as H xs vs → RepV G as H x v → RepVs G as H (xs.set i x) (vs.set i v)
  | [], _, _, _, _, h, _ => by unfold RepVs at h; subst h; simpa using RepVs.nil
  | y :: xs, vs, x, v, i, h, r => by
    unfold RepVs at h
    obtain ⟨w, vs', rfl, h1, h2⟩ := h
    cases i with
    | zero => exact .cons r h2
    | succ i => exact .cons h1 (RepVs.set i h2 r)
theorem RepVs.take : ∀ {xs : List PV} {vs : List V} (n : Nat), RepVs G as H xs vs → RepVs G as H (xs.take n) (vs.take n)
  | [], _, _, h => by unfold RepVs at h; subst h; simpa using RepVs.nil
  | y :: xs, vs, n, h => by
    unfold RepVs at h
    obtain ⟨w, vs', rfl, h1, h2⟩ := h
    cases n with
    | zero => simpa using RepVs.nil
    | succ n => exact .cons h1 (RepVs.take n h2)
theorem RepVs.drop : ∀ {xs : List PV} {vs : List V} (n : Nat), RepVs G as H xs vs → RepVs G as H (xs.drop n) (vs.drop n)
  | [], _, _, h => by unfold RepVs at h; subst h; simpa using RepVs.nil
  | y :: xs, vs, n, h => by
    unfold RepVs at h
    obtain ⟨w, vs', rfl, h1, h2⟩ := h
    cases n with
    | zero => exact .cons h1 h2
    | succ n => exact RepVs.drop n h2
theorem RepVs.reverse : ∀ {xs : List PV} {vs : List V}, RepVs G as H xs vs → RepVs G as H xs.reverse vs.reverse
  | [], _, h => by unfold RepVs at h; subst h; simpa using RepVs.nil
  | y :: xs, vs, h => by
    unfold RepVs at h
    obtain ⟨w, vs', rfl, h1, h2⟩ := h
    simp only [List.reverse_cons]
    exact (RepVs.reverse h2).append (.cons h1 .nil)
theorem RepVs.eraseIdx : ∀ {xs : List PV} {vs : List V} (n : Nat), RepVs G as H xs vs → RepVs G as H (xs.eraseIdx n) (vs.eraseIdx n)
  | [], _, _, h => by unfold RepVs at h; subst h; simpa using RepVs.nil
  | y :: xs, vs, n, h => by
    unfold RepVs at h
    obtain ⟨w, vs', rfl, h1, h2⟩ := h
    cases n with
    | zero => exact h2
    | succ n => exact .cons h1 (RepVs.eraseIdx n h2)
end
structure Fut (G : Gm) (as : List Addr) (H : Hp) (as' : List Addr) (H' : Hp) (h' : PH) : Prop where
  pre : as <+: as'
  kp : Kp H H'
  sr : SR G as' H' h'
  fresh : ∀ b ∈ as', b ∉ as → H b = none
  frame : ∀ b o, H b = some o → b ∉ as → H' b = some o
section
variable {G : Gm} {as as' as'' : List Addr} {H H' H'' : Hp} {h h' h'' : PH}
theorem Fut.refl (s : SR G as H h) : Fut G as H as H h := ⟨List.prefix_refl _, Kp.refl _, s, fun _ a b => absurd a b, fun _ _ e _ => e⟩
theorem Fut.trans (a : Fut G as H as' H' h') (b : Fut G as' H' as'' H'' h'') : Fut G as H as'' H'' h'' where
  pre := a.pre.trans b.pre
  kp := a.kp.trans b.kp
  sr := b.sr
  fresh := fun c hc hn => by
    by_cases h1 : c ∈ as'
    · exact a.fresh c h1 hn
    · have h2 := b.fresh c hc h1
      cases e : H c with
      | none => rfl
      | some o =>
        rw [a.frame c o e hn] at h2
        cases h2
  frame := fun c o e hn => by
    have e1 := a.frame c o e hn
    refine b.frame c o e1 fun h1 => ?_
    have h2 := a.fresh c h1 hn
    rw [e] at h2
    cases h2
theorem RepV.fut (f : Fut G as H as' H' h') {x : PV} {v : V} (r : RepV G as H x v) : RepV G as' H' x v := r.mono f.pre f.kp
theorem RepVs.fut (f : Fut G as H as' H' h') {x : List PV} {v : List V} (r : RepVs G as H x v) : RepVs G as' H' x v := r.mono f.pre f.kp
theorem SR.addr (s : SR G as H h) {l : Nat} {o : PO} (e : h[l]? = some o) : ∃ a, as[l]? = some a ∧ RepO G as H o a := by
  have hl : l < as.length := by rw [s.len]; exact (List.getElem?_eq_some_iff.mp e).1
  exact ⟨as[l], List.getElem?_eq_getElem hl, s.at_ l o _ e (List.getElem?_eq_getElem hl)⟩
theorem SR.upd_free (s : SR G as H h) {p : Addr} {o : HO} (hp : H p = none) : Fut G as H as (upd H p o) h := by
  refine ⟨List.prefix_refl _, Kp.new hp, ⟨s.nd, s.len, fun l ob a e1 e2 => ?_⟩, fun _ a b => absurd a b, fun b o e _ => by rw [upd_ne (ne_of_none e hp)]; exact e⟩
  have r := s.at_ l ob a e1 e2
  refine r.mono (List.prefix_refl _) (Kp.new hp) (upd_ne ?_)
  intro z
  subst z
  exact r.there hp
theorem SR.tup (s : SR G as H h) {p : Addr} {xs : List PV} {vs : List V} (hp : H p = none) (r : RepVs G as H xs vs) : Fut G as H as (upd H p (.tup vs)) h ∧ RepV G as (upd H p (.tup vs)) (.tup xs) (.ref p) := by
  have f := s.upd_free (o := .tup vs) hp
  refine ⟨f, ?_⟩
  unfold RepV
  exact ⟨p, vs, rfl, .of upd_same, r.fut f⟩
theorem SR.new (s : SR G as H h) {p : Addr} {o : PO} {ho : HO} (hp : H p = none) (r : RepO G (as ++ [p]) (upd H p ho) o p) : Fut G as H (as ++ [p]) (upd H p ho) (h ++ [o]) ∧ RepV G (as ++ [p]) (upd H p ho) (.ref h.length) (.ref p) := by
  have hn : p ∉ as := fun hm => by
    obtain ⟨l, hl, e⟩ := List.getElem_of_mem hm
    have e1 : as[l]? = some p := by rw [List.getElem?_eq_getElem hl, e]
    have hl2 : l < h.length := by rw [← s.len]; exact hl
    exact (s.at_ l _ p (List.getElem?_eq_getElem hl2) e1).there hp
  have pr : as <+: as ++ [p] := List.prefix_append _ _
  refine ⟨⟨pr, Kp.new hp, ⟨?_, by simp [s.len], fun l ob a e1 e2 => ?_⟩, fun b hb hn => by
    rw [List.mem_append] at hb
    rcases hb with hb | hb
    · exact absurd hb hn
    · simp at hb; subst hb; exact hp, fun b o e _ => by rw [upd_ne (ne_of_none e hp)]; exact e⟩, ?_⟩
  · rw [List.nodup_append]
    exact ⟨s.nd, by simp, fun a ha b hb e => by simp at hb; subst hb; subst e; exact hn ha⟩
  · by_cases hl : l < as.length
    · rw [List.getElem?_append_left hl] at e2
      rw [List.getElem?_append_left (by rw [← s.len]; exact hl)] at e1
      refine (s.at_ l ob a e1 e2).mono pr (Kp.new hp) (upd_ne ?_)
      intro z
      subst z
      exact hn (List.mem_of_getElem? e2)
    · have hl2 : l = as.length := by
        have := (List.getElem?_eq_some_iff.mp e2).1
        simp at this
        omega
      subst hl2
      rw [s.len, List.getElem?_append_right (Nat.le_refl _)] at e1
      rw [List.getElem?_append_right (Nat.le_refl _)] at e2
      simp at e1 e2
      subst e1 e2
      exact r
  · unfold RepV
    exact ⟨p, by rw [← s.len, List.getElem?_append_right (Nat.le_refl _)]; simp, rfl⟩
theorem SR.set (s : SR G as H h) {l : Nat} {a : Addr} {o : PO} {ho : HO} (ea : as[l]? = some a) (k : Kp H (upd H a ho)) (r : RepO G as (upd H a ho) o a) : Fut G as H as (upd H a ho) (h.set l o) := by
  refine ⟨List.prefix_refl _, k, ⟨s.nd, by simp [s.len], fun m ob b e1 e2 => ?_⟩, fun _ a b => absurd a b, fun b o e hn => by
    rw [upd_ne (fun z => hn (by rw [z]; exact List.mem_of_getElem? ea))]; exact e⟩
  by_cases hm : m = l
  · subst hm
    rw [ea] at e2
    cases e2
    have hl : m < h.length := by rw [← s.len]; exact (List.getElem?_eq_some_iff.mp ea).1
    rw [List.getElem?_set_self hl] at e1
    cases e1
    exact r
  · rw [List.getElem?_set_ne (Ne.symm hm)] at e1
    refine (s.at_ m ob b e1 e2).mono (List.prefix_refl _) k (upd_ne ?_)
    intro z
    subst z
    obtain ⟨h1, q1⟩ := List.getElem?_eq_some_iff.mp e2
    obtain ⟨h2, q2⟩ := List.getElem?_eq_some_iff.mp ea
    exact hm ((List.getElem_inj s.nd).mp (q1.trans q2.symm))
theorem Kp.mut {a : Addr} {ho u : HO} (e : H a = some u) (h1 : ∀ xs, u ≠ .tup xs) (h2 : ∀ o w, u ≠ .frz o w) : Kp H (upd H a ho) := ⟨fun b xs q => by
    rw [upd_ne (fun z => by subst z; rw [e] at q; exact h1 _ (Option.some.inj q))]; exact q, fun b o w q => by
    rw [upd_ne (fun z => by subst z; rw [e] at q; exact h2 _ _ (Option.some.inj q))]; exact q⟩
end
def RepX (G : Gm) (as : List Addr) (H : Hp) (x : PX) (e : Value) (d : Option Addr) : Prop :=
  e = .ref (G.ca x.c) ∧ ((x.fs = [] ∧ d = none) ∨ ∃ dx gs, d = some dx ∧ H dx = some (.xd gs) ∧ RepF G as H x.fs gs)
section
variable (G : Gm) (E : XK) (as : List Addr) (H : Hp)
def Ok {α β : Type} (rel : List Addr → Hp → α → β → Prop) (Q : β → Hp → Prop) : Res α → Prop
  | .ok v h' => ∀ as' H' v', Fut G as H as' H' h' → rel as' H' v v' → Q v' H'
  | .er x h' => ∀ as' H' e d, Fut G as H as' H' h' → RepX G as' H' x e d → E e d H'
  | .stuck => False
  | .all n k => ∀ i < n, Ok rel Q (k i)
end
abbrev OkV (G : Gm) (E : XK) (as : List Addr) (H : Hp) (Q : V → Hp → Prop) : Res PV → Prop := Ok G E as H (fun as' H' => RepV G as' H') Q
abbrev OkA (G : Gm) (E : XK) (as : List Addr) (H : Hp) (Q : List V → Hp → Prop) : Res (List PV) → Prop := Ok G E as H (fun as' H' => RepVs G as' H') Q
abbrev OkB (G : Gm) (E : XK) (as : List Addr) (H : Hp) (Q : Bool → Hp → Prop) : Res Bool → Prop := Ok G E as H (fun _ _ b c => b = c) Q
section
variable {G : Gm} {E : XK} {as as' : List Addr} {H H' : Hp} {h h' : PH} {α β γ δ : Type} {rel : List Addr → Hp → α → β → Prop} {rel2 : List Addr → Hp → γ → δ → Prop}
theorem Ok.fut {Q : β → Hp → Prop} {r : Res α} (f : Fut G as H as' H' h') (o : Ok G E as H rel Q r) : Ok G E as' H' rel Q r := by
  induction r with
  | ok v h1 => exact fun as1 H1 v1 f1 => o as1 H1 v1 (f.trans f1)
  | er x h1 => exact fun as1 H1 e d f1 => o as1 H1 e d (f.trans f1)
  | stuck => exact o
  | all n k ih => exact fun i hi => ih i (o i hi)
theorem Ok.imp {Q Q' : β → Hp → Prop} {r : Res α} (o : Ok G E as H rel Q r) (k : ∀ v H, Q v H → Q' v H) : Ok G E as H rel Q' r := by
  induction r with
  | ok v h1 => exact fun as1 H1 v1 f1 r1 => k _ _ (o as1 H1 v1 f1 r1)
  | er x h1 => exact o
  | stuck => exact o
  | all n f ih => exact fun i hi => ih i (o i hi)
theorem Ok.bind {r : Res α} {k : α → PH → Res γ} {Q : β → Hp → Prop} {Q2 : δ → Hp → Prop} (o : Ok G E as H rel2 Q2 (r.bind k))
    (next : ∀ v h1 as1 H1 v', Fut G as H as1 H1 h1 → rel as1 H1 v v' → Ok G E as1 H1 rel2 Q2 (k v h1) → Q v' H1) : Ok G E as H rel Q r := by
  induction r with
  | ok v h1 => exact fun as1 H1 v1 f1 r1 => next v h1 as1 H1 v1 f1 r1 (Ok.fut f1 o)
  | er x h1 => exact o
  | stuck => exact o
  | all n f ih => exact fun i hi => ih i (o i hi)
end
def RepE (G : Gm) (as : List Addr) (H : Hp) (ρ : PEnv) (σ : St) : Prop := ρ.length = σ.length ∧ ∀ (i : Nat) (v : PV), ρ[i]? = some (some v) → ∃ v', σ[i]? = some (some v') ∧ RepV G as H v v'
theorem RepE.fut {G : Gm} {as as' : List Addr} {H H' : Hp} {h' : PH} {ρ : PEnv} {σ : St} (f : Fut G as H as' H' h') (r : RepE G as H ρ σ) : RepE G as' H' ρ σ := ⟨r.1, fun i v e => by
  obtain ⟨v', e', q⟩ := r.2 i v e
  exact ⟨v', e', q.fut f⟩⟩
theorem RepE.set {G : Gm} {as : List Addr} {H : Hp} {ρ : PEnv} {σ : St} {x : PV} {v : V} (r : RepE G as H ρ σ) (i : Nat) (q : RepV G as H x v) : RepE G as H (ρ.set i (some x)) (σ.set i (some v)) := by
  refine ⟨by simp [r.1], fun j y e => ?_⟩
  by_cases hj : i = j
  · subst hj
    by_cases hl : i < ρ.length
    · rw [List.getElem?_set_self hl] at e
      cases e
      exact ⟨v, by rw [List.getElem?_set_self (by rw [← r.1]; exact hl)], q⟩
    · rw [List.getElem?_eq_none (by simpa using hl)] at e
      cases e
  · rw [List.getElem?_set_ne hj] at e
    rw [List.getElem?_set_ne hj]
    exact r.2 j y e
end Mn
set_option Elab.async false
set_option linter.all false
set_option maxRecDepth 100000
set_option maxHeartbeats 2000000
namespace Mn
open PySem L2
inductive Bop where
  | add | sub | mul | fdiv | mod | pow | band | bor | bxor | shl | shr
  deriving DecidableEq
inductive Cop where
  | eq | ne | lt | le | gt | ge | is_ | isn | in_ | nin
  deriving DecidableEq
inductive Bi where
  | len | abs | max | min | int | str | bool | list | tuple | sorted | sum | any | all | ord | isinst | repr | dict
  deriving DecidableEq
def Bi.tyn : Bi → Option String
  | .int => some "int"
  | .str => some "str"
  | .bool => some "bool"
  | .list => some "list"
  | .tuple => some "tuple"
  | .dict => some "dict"
  | _ => none
inductive Bm where
  | none | append | pop | insert | extend | reverse | index | remove | isascii | isprintable | isdigit | join | replace | removeprefix | find | get | keys | items | values | startswith
  deriving DecidableEq
inductive Ik where
  | seq | rng | enum | zip | rev | items | keys | values
  deriving DecidableEq
inductive Tg where
  | nm (i : Nat)
  | tp (is : List Nat)
inductive Ex where
  | var (i : Nat) | con (v : PV) | glob (g : Nat)
  | bin (op : Bop) (a b : Ex) | neg (a : Ex) | not (a : Ex) | and (a b : Ex) | or (a b : Ex)
  | cmp (op : Cop) (a b : Ex) | chn (o1 o2 : Cop) (a b c : Ex) | ife (c a b : Ex)
  | tup (es : List Ex) | lst (es : List Ex) | star (e : Ex)
  | ix (o i : Ex) | sl (o lo hi : Ex) | nop
  | call (g : Nat) (es : List Ex) | bi (f : Bi) (es : List Ex) | mt (m : Nat) (b : Bm) (o : Ex) (es : List Ex)
  | att (o : Ex) (f : Nat)
  | lc (e : Ex) (own : List Nat) (t : Tg) (k : Ik) (its : List Ex) (ifs : List Ex)
  | bty (f : Bi)
  | dsp
  | repl (o : Ex) (y z : List Nat)
  | never
inductive Ta where
  | nm (i : Nat) | tp (is : List Nat) | att (o : Ex) (f : Nat) | ix (o i : Ex)
inductive Sm where
  | asg (t : Ta) (e : Ex) | aug (t : Ta) (op : Bop) (e : Ex)
  | ex (e : Ex) | ret (e : Ex) | retn
  | ite (c : Ex) (a b : List Sm)
  | wh (c : Ex) (b : List Sm)
  | for_ (t : Tg) (k : Ik) (its : List Ex) (b : List Sm)
  | brk | cnt | pass
  | raise (g : Nat) (es : List Ex)
  | del (o i : Ex)
  | never
inductive Fl where
  | nx (ρ : PEnv) | bk (ρ : PEnv) | ct (ρ : PEnv) | rt (v : PV)
structure Ci where
  init : Option Nat
  meths : List (Nat × Nat)
  props : List (Nat × Nat)
  sups : List Nat
structure Tb where
  glob : List PV
  cls : List Ci
section
variable (de : Nat → Option PyData)
mutual
def toD : PV → Option PyData
  | .non => some .none
  | .bl b => some (.bool b)
  | .int i => some (.int i)
  | .str x => some (.str ⟨x.toArray⟩)
  | .tup xs => (toDs xs).map .tuple
  | .ref l => de l
  | .frk _ => none
  | .fn _ => none
  | .cls _ => none
  | .ty _ => none
def toDs : List PV → Option (List PyData)
  | [] => some []
  | x :: xs => match toD x with
    | none => none
    | some d => (toDs xs).map (d :: ·)
end
end
def deref (h : PH) : Nat → Nat → Option PyData
  | 0, _ => none
  | n + 1, l => match h[l]? with
    | some (.lst xs) => (toDs (deref h n) xs).map .list
    | some (.frz xs) => (toDs (deref h n) xs).map .list
    | _ => none
def datum (h : PH) (v : PV) : Option PyData := match toD (deref h 8) v with
  | some d => if SeqAt.shaped d then some d else none
  | none => none
def pEq (h : PH) (v w : PV) : Option Bool := match datum h v, datum h w with
  | some d, some e => some (PyData.eqv d e)
  | _, _ => none
def dLook (kvs : List (Key × PV)) (k : Key) : Option PV := (kvs.find? fun kv => decide (kv.1 = k)).map (·.2)
def dPut (kvs : List (Key × PV)) (k : Key) (v : PV) : List (Key × PV) :=
  if (kvs.any fun kv => decide (kv.1 = k)) = true then kvs.map (fun kv => if kv.1 = k then (kv.1, v) else kv) else kvs ++ [(k, v)]
def dDrop (kvs : List (Key × PV)) (k : Key) : List (Key × PV) := kvs.filter fun kv => decide (kv.1 ≠ k)
def isNon : PV → Bool
  | .non => true
  | _ => false
def pIn (h : PH) (v w : PV) : Option Bool := match w with
  | .tup ys => match datum h v, datum h w with
    | some d, some (.tuple es) => some (es.any fun z => PyData.eqv z d)
    | _, _ => none
  | .ref l => match h[l]? with
    | some (.lst _) => match datum h v, datum h w with
      | some d, some (.list es) => some (es.any fun z => PyData.eqv z d)
      | _, _ => none
    | some (.dic kvs) => match v with
      | .int i => some (dLook kvs (Sum.inl i)).isSome
      | .str x => some (dLook kvs (Sum.inr ⟨x.toArray⟩)).isSome
      | _ => none
    | _ => none
  | .str y => match v with
    | .str [c] => some (y.contains c)
    | _ => none
  | _ => none
def pTru (h : PH) (v : PV) : Option Bool := match v with
  | .non => some false
  | .bl b => some b
  | .int i => some (i != 0)
  | .str x => if x.length ≤ sizeLine then some (!x.isEmpty) else none
  | .tup xs => some (!xs.isEmpty)
  | .ref l => match h[l]? with
    | some (.lst xs) => some (!xs.isEmpty)
    | some (.frz xs) => some (!xs.isEmpty)
    | some (.dic kvs) => some (!kvs.isEmpty)
    | _ => none
  | _ => none
def lstAt (h : PH) (l : Nat) : Option (List PV) := match h[l]? with
  | some (.lst xs) => some xs
  | some (.frz xs) => some xs
  | _ => none
def big (i j : Int) : Bool := decide (i.natAbs.log2 + j.natAbs.log2 < 1000000)
def pBin (op : Bop) (v w : PV) (h : PH) : Res PV := match op, v, w with
  | .add, .int i, .int j => .ok (.int (i + j)) h
  | .add, .str x, .str y => if x.length + y.length ≤ sizeLine then .ok (.str (x ++ y)) h else .stuck
  | .add, .tup x, .tup y => if x.length + y.length ≤ sizeLine then .ok (.tup (x ++ y)) h else .stuck
  | .add, .ref l, .ref m => match h[l]?, h[m]? with
    | some (.lst x), some (.lst y) => if x.length + y.length ≤ sizeLine then .ok (.ref h.length) (h ++ [.lst (x ++ y)]) else .stuck
    | _, _ => .stuck
  | .sub, .int i, .int j => .ok (.int (i - j)) h
  | .mul, .int i, .int j => if big i j then .ok (.int (i * j)) h else .stuck
  | .mul, .ref l, .int k => match h[l]? with
    | some (.lst x) => if decide (-(2 ^ 63) ≤ k) && decide (k < 2 ^ 63) && decide (x.length * k.toNat ≤ sizeLine) then .ok (.ref h.length) (h ++ [.lst (List.replicate k.toNat x).flatten]) else .stuck
    | _ => .stuck
  | .mul, .str x, .int k => if decide (-(2 ^ 63) ≤ k) && decide (k < 2 ^ 63) && decide (x.length * k.toNat ≤ sizeLine) then .ok (.str (List.replicate k.toNat x).flatten) h else .stuck
  | .fdiv, .int i, .int j => if decide (0 < j) && decide (j.natAbs.log2 < 9000) then .ok (.int (i / j)) h else .stuck
  | .mod, .int i, .int j => if decide (0 < j) then .ok (.int (i % j)) h else .stuck
  | .pow, .int i, .int j => if decide (0 ≤ j) && decide ((Builtin.Int.intBits i : Int) * j ≤ 2 ^ 27) then .ok (.int (i ^ j.toNat)) h else .stuck
  | .shl, .int i, .int j => if decide (0 ≤ j) && decide (j ≤ 1000000) && decide (i.natAbs < 2 ^ 64) then .ok (.int (i * 2 ^ j.toNat)) h else .stuck
  | .shr, .int i, .int j => if decide (0 ≤ j) then .ok (.int (i / 2 ^ j.toNat)) h else .stuck
  | .band, .int i, .int j => .ok (.int (Builtin.bitAnd i j)) h
  | .bor, .int i, .int j => .ok (.int (Builtin.bitOr i j)) h
  | .bxor, .int i, .int j => .ok (.int (Builtin.bitXor i j)) h
  | _, _, _ => .stuck
def ob (b : Option Bool) (h : PH) : Res PV := match b with
  | some b => .ok (.bl b) h
  | none => .stuck
def pCmp (op : Cop) (v w : PV) (h : PH) : Res PV := match op with
  | .eq => ob (pEq h v w) h
  | .ne => ob ((pEq h v w).map (!·)) h
  | .in_ => ob (pIn h v w) h
  | .nin => ob ((pIn h v w).map (!·)) h
  | .is_ => match w with
    | .non => .ok (.bl (isNon v)) h
    | _ => .stuck
  | .isn => match w with
    | .non => .ok (.bl (!isNon v)) h
    | _ => .stuck
  | .lt => match v, w with
    | .int i, .int j => .ok (.bl (decide (i < j))) h
    | .str x, .str y => .ok (.bl (decide (x < y))) h
    | _, _ => .stuck
  | .le => match v, w with
    | .int i, .int j => .ok (.bl (decide (i ≤ j))) h
    | .str x, .str y => .ok (.bl (!decide (y < x))) h
    | _, _ => .stuck
  | .gt => match v, w with
    | .int i, .int j => .ok (.bl (decide (j < i))) h
    | .str x, .str y => .ok (.bl (decide (y < x))) h
    | _, _ => .stuck
  | .ge => match v, w with
    | .int i, .int j => .ok (.bl (decide (j ≤ i))) h
    | .str x, .str y => .ok (.bl (!decide (x < y))) h
    | _, _ => .stuck
def pIx (v w : PV) (h : PH) : Res PV := match v, w with
  | .tup xs, .int i => match atI xs i with
    | some x => .ok x h
    | none => .stuck
  | .ref l, .int i => match h[l]? with
    | some (.lst xs) => (match atI xs i with
      | some x => .ok x h
      | none => .stuck)
    | some (.frz xs) => (match atI xs i with
      | some x => .ok x h
      | none => .stuck)
    | some (.dic kvs) => (match dLook kvs (Sum.inl i) with
      | some x => .ok x h
      | none => .stuck)
    | _ => .stuck
  | .ref l, .str y => match h[l]? with
    | some (.dic kvs) => (match dLook kvs (Sum.inr ⟨y.toArray⟩) with
      | some x => .ok x h
      | none => .stuck)
    | _ => .stuck
  | .frk xs, .int i => match atI xs i with
    | some x => .ok x h
    | none => .stuck
  | .str x, .int i => if x.length ≤ sizeLine then (match atI x i with
      | some c => .ok (.str [c]) h
      | none => .stuck) else .stuck
  | _, _ => .stuck
def cut {α : Type} (xs : List α) (lo hi : Option Int) : List α := (xs.drop (HT.sIx xs.length 0 lo)).take (HT.sIx xs.length xs.length hi - HT.sIx xs.length 0 lo)
def pSl (v : PV) (lo hi : Option Int) (h : PH) : Res PV := match v with
  | .tup xs => .ok (.tup (cut xs lo hi)) h
  | .str x => if x.length ≤ sizeLine then .ok (.str (cut x lo hi)) h else .stuck
  | .ref l => match lstAt h l with
    | some xs => .ok (.ref h.length) (h ++ [.lst (cut xs lo hi)])
    | none => .stuck
  | _ => .stuck
def part : PV → Option (Option Int)
  | .int i => some (some i)
  | _ => none
def strsOf : List PV → Option (List (List Nat))
  | [] => some []
  | .str x :: r => (strsOf r).map (x :: ·)
  | _ => none
def intsOf : List PV → Option (List Int)
  | [] => some []
  | .int x :: r => (intsOf r).map (x :: ·)
  | _ => none
def tyNames : List String := ["int", "bool", "str", "list", "tuple", "dict", "NoneType"]
def tyB (a b : String) : Option Bool := if tyNames.contains a && tyNames.contains b then some (a == b || (a == "bool" && b == "int")) else none
def tyOf (h : PH) (v : PV) : Option PV := match v with
  | .non => some (.ty "NoneType")
  | .bl _ => some (.ty "bool")
  | .int _ => some (.ty "int")
  | .str _ => some (.ty "str")
  | .tup _ => some (.ty "tuple")
  | .ref l => match h[l]? with
    | some (.lst _) => some (.ty "list")
    | some (.frz _) => some (.ty "list")
    | some (.dic _) => some (.ty "dict")
    | some (.ins c _) => some (.cls c)
    | _ => none
  | _ => none
def subC (T : Tb) (t c : PV) : Option Bool := match t, c with
  | .ty a, .ty b => tyB a b
  | .cls c, .cls d => (T.cls[c]?).bind fun ci => if d < T.cls.length then some (ci.sups.contains d) else none
  | .cls c, .ty b => if c < T.cls.length && tyNames.contains b then some false else none
  | .ty a, .cls d => if d < T.cls.length && tyNames.contains a then some false else none
  | _, _ => none
def isTy (T : Tb) (h : PH) (v : PV) (c : PV) : Option Bool := (tyOf h v).bind fun t => subC T t c
def isCl : PV → Bool
  | .ty _ => true
  | .cls _ => true
  | _ => false
def isTys (T : Tb) (h : PH) (v : PV) : List PV → Option Bool
  | [] => some false
  | t :: r => match isTy T h v t with
    | some true => some true
    | some false => isTys T h v r
    | none => none
def pBi (T : Tb) (f : Bi) (vs : List PV) (h : PH) : Res PV := match f, vs with
  | .len, [.str x] => if x.length ≤ sizeLine then .ok (.int x.length) h else .stuck
  | .len, [.tup xs] => .ok (.int xs.length) h
  | .len, [.ref l] => (match h[l]? with
    | some (.lst xs) => .ok (.int xs.length) h
    | some (.frz xs) => .ok (.int xs.length) h
    | some (.dic kvs) => .ok (.int kvs.length) h
    | _ => .stuck)
  | .len, [.frk xs] => .ok (.int xs.length) h
  | .abs, [.int i] => .ok (.int (if i < 0 then -i else i)) h
  | .max, [.int i, .int j] => .ok (.int (if j > i then j else i)) h
  | .min, [.int i, .int j] => .ok (.int (if j < i then j else i)) h
  | .int, [.int i] => .ok (.int i) h
  | .int, [.bl b] => .ok (.int (if b then 1 else 0)) h
  | .str, [.int i] => if i.natAbs.log2 < 1920 then .ok (.str (toString i : Str).cps.toList) h else .stuck
  | .ord, [.str [c]] => .ok (.int c) h
  | .list, [.tup xs] => .ok (.ref h.length) (h ++ [.lst xs])
  | .list, [.ref l] => (match lstAt h l with
    | some xs => .ok (.ref h.length) (h ++ [.lst xs])
    | none => .stuck)
  | .list, [.str x] => if x.length ≤ sizeLine then .ok (.ref h.length) (h ++ [.lst (x.map fun c => .str [c])]) else .stuck
  | .tuple, [.tup xs] => .ok (.tup xs) h
  | .tuple, [.ref l] => (match lstAt h l with
    | some xs => .ok (.tup xs) h
    | none => .stuck)
  | .isinst, [v, .tup ts] => if !ts.isEmpty && ts.all isCl then ob (isTys T h v ts) h else .stuck
  | .isinst, [v, t] => ob (isTy T h v t) h
  | .sum, [.ref l] => (match lstAt h l with
    | some xs => (match intsOf xs with
      | some is => .ok (.int is.sum) h
      | none => .stuck)
    | none => .stuck)
  | _, _ => .stuck
inductive Bq where
  | lappend | lpop | lpopl | lextend | lreverse | linsert | lindex | lremove
  | sisascii | sisprintable | sisdigit | sjoin | sremoveprefix
  | dget | dpop
  deriving DecidableEq
def Bq.of : Bm → Nat → Option Bq
  | .append, 0 => some .lappend
  | .pop, 0 => some .lpop
  | .extend, 0 => some .lextend
  | .reverse, 0 => some .lreverse
  | .insert, 0 => some .linsert
  | .index, 0 => some .lindex
  | .remove, 0 => some .lremove
  | .isascii, 2 => some .sisascii
  | .isprintable, 2 => some .sisprintable
  | .isdigit, 2 => some .sisdigit
  | .join, 2 => some .sjoin
  | .removeprefix, 2 => some .sremoveprefix
  | .get, 1 => some .dget
  | .pop, 1 => some .dpop
  | _, _ => none
def kindAt (h : PH) (v : PV) : Nat := match v with
  | .ref l => match h[l]? with
    | some (.lst _) => 0
    | some (.dic _) => 1
    | _ => 9
  | .str _ => 2
  | _ => 9
def keyOf : PV → Option Key
  | .int i => some (.inl i)
  | .str x => some (.inr ⟨x.toArray⟩)
  | _ => none
def pBq (q : Bq) (v : PV) (vs : List PV) (h : PH) : Res PV := match q with
  | .lappend => (match v, vs with
    | .ref l, [x] => (match h[l]? with
      | some (.lst xs) => if xs.length < sizeLine then .ok .non (h.set l (.lst (xs ++ [x]))) else .stuck
      | _ => .stuck)
    | _, _ => .stuck)
  | .lpop => (match v, vs with
    | .ref l, [.int i] => (match h[l]? with
      | some (.lst xs) => (match PySem.seqIndex? i xs.length with
        | some k => (match xs[k]? with
          | some y => if decide (-(2 ^ 63) ≤ i) && decide (i < 2 ^ 63) then .ok y (h.set l (.lst (xs.eraseIdx k))) else .stuck
          | none => .stuck)
        | none => .stuck)
      | _ => .stuck)
    | .ref l, [] => (match h[l]? with
      | some (.lst xs) => (match xs[xs.length - 1]? with
        | some y => .ok y (h.set l (.lst xs.dropLast))
        | none => .stuck)
      | _ => .stuck)
    | _, _ => .stuck)
  | .lextend => (match v, vs with
    | .ref l, [.ref m] => (match h[l]?, h[m]? with
      | some (.lst xs), some (.lst ys) => if xs.length + ys.length ≤ sizeLine then .ok .non (h.set l (.lst (xs ++ ys))) else .stuck
      | _, _ => .stuck)
    | _, _ => .stuck)
  | .lreverse => (match v, vs with
    | .ref l, [] => (match h[l]? with
      | some (.lst xs) => .ok .non (h.set l (.lst xs.reverse))
      | _ => .stuck)
    | _, _ => .stuck)
  | .sisascii => (match v, vs with
    | .str x, [] => .ok (.bl (Txt.isascii ⟨x.toArray⟩)) h
    | _, _ => .stuck)
  | .sisprintable => (match v, vs with
    | .str x, [] => .ok (.bl (Txt.isprintable ⟨x.toArray⟩)) h
    | _, _ => .stuck)
  | .sisdigit => (match v, vs with
    | .str x, [] => .ok (.bl (Txt.isdigit ⟨x.toArray⟩)) h
    | _, _ => .stuck)
  | .sremoveprefix => (match v, vs with
    | .str x, [.str y] => if x.length ≤ sizeLine then .ok (.str (Txt.removeprefix ⟨x.toArray⟩ ⟨y.toArray⟩).cps.toList) h else .stuck
    | _, _ => .stuck)
  | .sjoin => (match v, vs with
    | .str x, [.ref l] => (match lstAt h l with
      | some xs => (match strsOf xs with
        | some ys => if (ys.map (·.length)).sum + ys.length * x.length ≤ 16777216 then .ok (.str (Txt.join ⟨x.toArray⟩ (ys.map fun y => ⟨y.toArray⟩)).cps.toList) h else .stuck
        | none => .stuck)
      | none => .stuck)
    | _, _ => .stuck)
  | .dget => (match v, vs with
    | .ref l, [k] => (match h[l]?, keyOf k with
      | some (.dic kvs), some k => .ok ((dLook kvs k).getD .non) h
      | _, _ => .stuck)
    | .ref l, [k, d] => (match h[l]?, keyOf k with
      | some (.dic kvs), some k => .ok ((dLook kvs k).getD d) h
      | _, _ => .stuck)
    | _, _ => .stuck)
  | .dpop => (match v, vs with
    | .ref l, [k] => (match h[l]?, keyOf k with
      | some (.dic kvs), some k => (match dLook kvs k with
        | some x => .ok x (h.set l (.dic (dDrop kvs k)))
        | none => .stuck)
      | _, _ => .stuck)
    | _, _ => .stuck)
  | _ => .stuck
def Res.noer {α : Type} : Res α → Res α
  | .ok a h => .ok a h
  | .er _ _ => .stuck
  | .stuck => .stuck
  | .all n k => .all n fun i => (k i).noer
def bindTg (t : Tg) (x : PV) (ρ : PEnv) : Option PEnv := match t with
  | .nm i => some (ρ.set i (some x))
  | .tp is => match x with
    | .tup xs => if xs.length = is.length then some ((is.zip xs).foldl (fun r q => r.set q.1 (some q.2)) ρ) else none
    | _ => none
inductive Wk where
  | fix (xs : List PV)
  | lst (l : Nat)
  | enl (l : Nat)
  | rvl (l n : Nat)
  | zll (l m : Nat)
  | ens (x : List Nat)
def wkAt (h : PH) (i : Nat) : Wk → Option (Option PV)
  | .fix xs => some xs[i]?
  | .lst l => (lstAt h l).map fun xs => xs[i]?
  | .enl l => (lstAt h l).map fun xs => xs[i]?.map fun x => .tup [.int i, x]
  | .rvl l n => (lstAt h l).bind fun xs => if xs.length = n then some (if i < n then xs[n - 1 - i]? else none) else none
  | .zll l m => (lstAt h l).bind fun xs => (lstAt h m).map fun ys => match xs[i]?, ys[i]? with
    | some x, some y => some (.tup [x, y])
    | _, _ => none
  | .ens x => if i ≤ x.length then some (x[i]?.map fun c => .tup [.int i, .str [c]]) else none
def wkOf (k : Ik) (vs : List PV) (h : PH) : Option (Wk × Nat) := match k, vs with
  | .seq, [.tup xs] => some (.fix xs, xs.length)
  | .seq, [.str x] => some (.fix (x.map fun c => .str [c]), x.length)
  | .seq, [.ref l] => (lstAt h l).map fun xs => (.lst l, xs.length)
  | .rng, [.int j] => if decide (-(2 ^ 62) ≤ j) && decide (j < 2 ^ 62) then some (.fix ((List.range j.toNat).map fun (i : Nat) => .int i), j.toNat) else none
  | .rng, [.int i, .int j] => if decide (-(2 ^ 62) ≤ i) && decide (i < 2 ^ 62) && decide (-(2 ^ 62) ≤ j) && decide (j < 2 ^ 62) then some (.fix ((List.range (j - i).toNat).map fun (m : Nat) => .int (i + m)), (j - i).toNat) else none
  | .enum, [.ref l] => (lstAt h l).map fun xs => (.enl l, xs.length)
  | .enum, [.str x] => if x.length ≤ sizeLine then some (.ens x, x.length) else none
  | .zip, [.ref l, .ref m] => (lstAt h l).bind fun xs => (lstAt h m).map fun ys => (.zll l m, min xs.length ys.length)
  | .rev, [.ref l] => (lstAt h l).map fun xs => (.rvl l xs.length, xs.length)
  | _, _ => none
section
variable (T : Tb) (call : Nat → List PV → PH → Res PV)
def callG (v : PV) (vs : List PV) (h : PH) : Res PV := match v with
  | .fn f => call f vs h
  | .cls c => match (T.cls[c]?).bind (·.init) with
    | some f => (call f (.ref h.length :: vs) (h ++ [.ins c []])).bind fun v h1 => match v with
      | .non => .ok (.ref h.length) h1
      | _ => .stuck
    | none => .stuck
  | _ => .stuck
def lcRun (body : PV → PH → Res (Option PV)) (w : Wk) (D : Nat) : Nat → Nat → PH → Res PV
  | 0, _, _ => .stuck
  | n + 1, i, h => match wkAt h i w with
    | none => .stuck
    | some none => .ok (.ref D) h
    | some (some x) => (body x h).bind fun y h1 => match y with
      | none => lcRun body w D n (i + 1) h1
      | some v => match h1[D]? with
        | some (.lst acc) => if acc.length < sizeLine then lcRun body w D n (i + 1) (h1.set D (.lst (acc ++ [v]))) else .stuck
        | _ => .stuck
def isNop : Ex → Bool
  | .nop => true
  | _ => false
def partR (e : Ex) (r : Res PV) (h : PH) : Res (Option Int) := match e with
  | .nop => .ok none h
  | _ => r.bind fun v h1 => match v with
    | .int i => .ok (some i) h1
    | _ => .stuck
mutual
def evE : Ex → PEnv → PH → Res PV
  | .var i, ρ, h => match ρ[i]? with
    | some (some v) => .ok v h
    | _ => .stuck
  | .con v, _, h => .ok v h
  | .glob g, _, h => match T.glob[g]? with
    | some v => .ok v h
    | none => .stuck
  | .bin op a b, ρ, h => (evE a ρ h).bind fun v h1 => (evE b ρ h1).bind fun w h2 => pBin op v w h2
  | .neg a, ρ, h => (evE a ρ h).bind fun v h1 => match v with
    | .int i => .ok (.int (-i)) h1
    | _ => .stuck
  | .not a, ρ, h => (evE a ρ h).bind fun v h1 => match pTru h1 v with
    | some b => .ok (.bl (!b)) h1
    | none => .stuck
  | .and a b, ρ, h => (evE a ρ h).bind fun v h1 => match pTru h1 v with
    | some true => evE b ρ h1
    | some false => .ok v h1
    | none => .stuck
  | .or a b, ρ, h => (evE a ρ h).bind fun v h1 => match pTru h1 v with
    | some true => .ok v h1
    | some false => evE b ρ h1
    | none => .stuck
  | .cmp op a b, ρ, h => (evE a ρ h).bind fun v h1 => (evE b ρ h1).bind fun w h2 => pCmp op v w h2
  | .chn o1 o2 a b c, ρ, h => (evE a ρ h).bind fun v h1 => (evE b ρ h1).bind fun w h2 => (pCmp o1 v w h2).bind fun t h3 => match t with
    | .bl true => (evE c ρ h3).bind fun u h4 => pCmp o2 w u h4
    | .bl false => .ok (.bl false) h3
    | _ => .stuck
  | .ife c a b, ρ, h => (evE c ρ h).bind fun v h1 => match pTru h1 v with
    | some true => evE a ρ h1
    | some false => evE b ρ h1
    | none => .stuck
  | .tup es, ρ, h => (evEs es ρ h).bind fun vs h1 => if vs.length ≤ sizeLine then .ok (.tup vs) h1 else .stuck
  | .lst es, ρ, h => (evEs es ρ h).bind fun vs h1 => if vs.length ≤ sizeLine then .ok (.ref h1.length) (h1 ++ [.lst vs]) else .stuck
  | .star _, _, _ => .stuck
  | .ix o i, ρ, h => (evE o ρ h).bind fun v h1 => (evE i ρ h1).bind fun w h2 => pIx v w h2
  | .sl o lo hi, ρ, h => (evE o ρ h).bind fun v h1 => (partR lo (evE lo ρ h1) h1).bind fun l h2 => (partR hi (evE hi ρ h2) h2).bind fun u h3 => pSl v l u h3
  | .nop, _, _ => .stuck
  | .call g es, ρ, h => match T.glob[g]? with
    | some f => (evEs es ρ h).bind fun vs h1 => callG T call f vs h1
    | none => .stuck
  | .bi f es, ρ, h => (evEs es ρ h).bind fun vs h1 => pBi T f vs h1
  | .mt m b o es, ρ, h => (evE o ρ h).bind fun v h1 => match b with
    | .none => (match v with
      | .ref l => (match h1[l]? with
        | some (.ins c fs) => (match fs.lookup m, (T.cls[c]?).bind fun ci => ci.meths.lookup m with
          | none, some f => (evEs es ρ h1).bind fun vs h2 => call f (v :: vs) h2
          | _, _ => .stuck)
        | _ => .stuck)
      | _ => .stuck)
    | b => (match Bq.of b (kindAt h1 v) with
      | some q => (evEs es ρ h1).bind fun vs h2 => pBq q v vs h2
      | none => .stuck)
  | .repl o y z, ρ, h => (evE o ρ h).bind fun v h1 => match v with
    | .str x => if decide (x.length + (x.length + 1) * z.length ≤ 16777216) && decide (y ≠ z) then .ok (.str (Txt.replace ⟨x.toArray⟩ ⟨y.toArray⟩ ⟨z.toArray⟩).cps.toList) h1 else .stuck
    | _ => .stuck
  | .att o f, ρ, h => (evE o ρ h).bind fun v h1 => match v with
    | .ref l => match h1[l]? with
      | some (.ins c fs) => (match fs.lookup f, (T.cls[c]?).bind fun ci => ci.props.lookup f with
        | some x, none => .ok x h1
        | none, some g => call g [v] h1
        | _, _ => .stuck)
      | _ => .stuck
    | _ => .stuck
  | .lc e own t k its ifs, ρ, h => ((evEs its ρ h).bind fun vs h1 => match wkOf k vs h1 with
    | none => .stuck
    | some (w, n) => lcRun (fun x h2 => match bindTg t x (own.foldr (fun i r => r.set i none) ρ) with
      | none => .stuck
      | some ρ1 => ((evIf ifs ρ1 h2).bind fun b h3 => if b then (evE e ρ1 h3).bind fun y h4 => .ok (some y) h4 else .ok none h3).noer) w h1.length (n + 1) 0 (h1 ++ [.lst []]))
  | .bty f, _, h => match f.tyn with
    | some n => .ok (.ty n) h
    | none => .stuck
  | .dsp, _, h => .ok (.ref h.length) (h ++ [.dic []])
  | .never, _, _ => .stuck
def evEs : List Ex → PEnv → PH → Res (List PV)
  | [], _, h => .ok [] h
  | .star e :: es, ρ, h => (evE e ρ h).bind fun v h1 => match v with
    | .tup xs => (evEs es ρ h1).bind fun vs h2 => .ok (xs ++ vs) h2
    | .ref l => (match lstAt h1 l with
      | some xs => (evEs es ρ h1).bind fun vs h2 => .ok (xs ++ vs) h2
      | none => .stuck)
    | _ => .stuck
  | e :: es, ρ, h => (evE e ρ h).bind fun v h1 => (evEs es ρ h1).bind fun vs h2 => .ok (v :: vs) h2
def evIf : List Ex → PEnv → PH → Res Bool
  | [], _, h => .ok true h
  | e :: es, ρ, h => (evE e ρ h).bind fun v h1 => match pTru h1 v with
    | some true => evIf es ρ h1
    | some false => .ok false h1
    | none => .stuck
end
def evT (e : Ex) (ρ : PEnv) (h : PH) : Res Bool := (evE T call e ρ h).bind fun v h1 => match pTru h1 v with
  | some b => .ok b h1
  | none => .stuck
def putN (f : Nat) (v : PV) : List (Nat × PV) → List (Nat × PV)
  | [] => [(f, v)]
  | (g, x) :: r => if g = f then (f, v) :: r else (g, x) :: putN f v r
def pSet (w k v : PV) (h : PH) : Option PH := match w with
  | .ref l => match h[l]? with
    | some (.lst xs) => (match k with
      | .int j => (match ixN xs.length j with
        | some m => some (h.set l (.lst (xs.set m v)))
        | none => none)
      | _ => none)
    | some (.dic kvs) => (match keyOf k with
      | some k => if kvs.length < sizeLine then some (h.set l (.dic (dPut kvs k v))) else none
      | none => none)
    | _ => none
  | _ => none
def pFld (w : PV) (f : Nat) (v : PV) (h : PH) : Option PH := match w with
  | .ref l => match h[l]? with
    | some (.ins c fs) => if fs.length < 1000 then some (h.set l (.ins c (putN f v fs))) else none
    | _ => none
  | _ => none
def asgTa (t : Ta) (v : PV) (ρ : PEnv) (h : PH) : Res PEnv := match t with
  | .nm i => .ok (ρ.set i (some v)) h
  | .tp is => match bindTg (.tp is) v ρ with
    | some ρ1 => .ok ρ1 h
    | none => .stuck
  | .att o f => (evE T call o ρ h).bind fun w h1 => match pFld w f v h1 with
    | some h2 => .ok ρ h2
    | none => .stuck
  | .ix o i => (evE T call o ρ h).bind fun w h1 => (evE T call i ρ h1).bind fun k h2 => match pSet w k v h2 with
    | some h3 => .ok ρ h3
    | none => .stuck
def forRun (body : PV → PEnv → PH → Res Fl) (w : Wk) : Nat → Nat → PEnv → PH → Res Fl
  | 0, _, _, _ => .stuck
  | n + 1, i, ρ, h => match wkAt h i w with
    | none => .stuck
    | some none => .ok (.nx ρ) h
    | some (some x) => (body x ρ h).bind fun f h1 => match f with
      | .nx ρ1 => forRun body w n (i + 1) ρ1 h1
      | .ct ρ1 => forRun body w n (i + 1) ρ1 h1
      | .bk ρ1 => .ok (.nx ρ1) h1
      | .rt v => .ok (.rt v) h1
def whRun (c : PEnv → PH → Res Bool) (body : PEnv → PH → Res Fl) : Nat → PEnv → PH → Res Fl
  | 0, _, _ => .stuck
  | n + 1, ρ, h => (c ρ h).bind fun b h1 => if b then (body ρ h1).bind fun f h2 => match f with
      | .nx ρ1 => whRun c body n ρ1 h2
      | .ct ρ1 => whRun c body n ρ1 h2
      | .bk ρ1 => .ok (.nx ρ1) h2
      | .rt v => .ok (.rt v) h2
    else .ok (.nx ρ) h1
mutual
def exS (W : Nat) : Sm → PEnv → PH → Res Fl
  | .asg t e, ρ, h => (evE T call e ρ h).bind fun v h1 => (asgTa T call t v ρ h1).bind fun ρ1 h2 => .ok (.nx ρ1) h2
  | .aug t op e, ρ, h => match t with
    | .nm i => (match ρ[i]? with
      | some (some v) => (evE T call e ρ h).bind fun w h1 => match op, v, w with
        | .add, .int a, .int b => .ok (.nx (ρ.set i (some (.int (a + b))))) h1
        | .sub, .int a, .int b => .ok (.nx (ρ.set i (some (.int (a - b))))) h1
        | _, _, _ => .stuck
      | _ => .stuck)
    | _ => .stuck
  | .ex e, ρ, h => (evE T call e ρ h).bind fun _ h1 => .ok (.nx ρ) h1
  | .ret e, ρ, h => (evE T call e ρ h).bind fun v h1 => .ok (.rt v) h1
  | .retn, _, h => .ok (.rt .non) h
  | .ite c a b, ρ, h => (evT T call c ρ h).bind fun t h1 => if t then exSs W a ρ h1 else exSs W b ρ h1
  | .wh c b, ρ, h => whRun (evT T call c) (exSs W b) W ρ h
  | .for_ t k its b, ρ, h => (evEs T call its ρ h).bind fun vs h1 => match wkOf k vs h1 with
    | none => .stuck
    | some (w, n) => forRun (fun x ρ1 h2 => match bindTg t x ρ1 with
      | none => .stuck
      | some ρ2 => exSs W b ρ2 h2) w (n + 1) 0 ρ h1
  | .brk, ρ, h => .ok (.bk ρ) h
  | .cnt, ρ, h => .ok (.ct ρ) h
  | .pass, ρ, h => .ok (.nx ρ) h
  | .raise _ _, _, _ => .stuck
  | .del _ _, _, _ => .stuck
  | .never, _, _ => .stuck
def exSs (W : Nat) : List Sm → PEnv → PH → Res Fl
  | [], ρ, h => .ok (.nx ρ) h
  | s :: r, ρ, h => (exS W s ρ h).bind fun f h1 => match f with
    | .nx ρ1 => exSs W r ρ1 h1
    | f => .ok f h1
end
def runBody (W ns : Nat) (b : List Sm) (vs : List PV) (h : PH) : Res PV :=
  (exSs T call W b (vs.map some ++ List.replicate (ns - vs.length) none) h).bind fun f h1 => match f with
    | .nx _ => .ok .non h1
    | .rt v => .ok v h1
    | _ => .stuck
end
end Mn
set_option Elab.async false
set_option linter.all false
set_option maxRecDepth 100000
set_option maxHeartbeats 4000000
namespace Mn
open PySem PySem.Spec L2 PyProof.Rows
def Bop.py : Bop → Operator
  | .add => .Add | .sub => .Sub | .mul => .Mult | .fdiv => .FloorDiv | .mod => .Mod | .pow => .Pow | .band => .BitAnd | .bor => .BitOr | .bxor => .BitXor | .shl => .LShift | .shr => .RShift
def Cop.py : Cop → CmpOp
  | .eq => .Eq | .ne => .NotEq | .lt => .Lt | .le => .LtE | .gt => .Gt | .ge => .GtE | .is_ => .Is | .isn => .IsNot | .in_ => .In | .nin => .NotIn
section
variable {G : Gm} {E : XK} {X : Cx} {as : List Addr} {H : Hp} {h : PH}
theorem RepV.refE {l : Nat} {v : V} (r : RepV G as H (.ref l) v) : ∃ a, as[l]? = some a ∧ v = .ref a := by unfold RepV at r; exact r
theorem RepV.intE {i : Int} {v : V} (r : RepV G as H (.int i) v) : v = .int i := by unfold RepV at r; exact r
theorem RepV.blE {i : Bool} {v : V} (r : RepV G as H (.bl i) v) : v = .bl i := by unfold RepV at r; exact r
theorem RepV.nonE {v : V} (r : RepV G as H .non v) : v = .non := by unfold RepV at r; exact r
theorem RepV.strE {x : List Nat} {v : V} (r : RepV G as H (.str x) v) : v = .str ⟨x.toArray⟩ := by unfold RepV at r; exact r
theorem RepV.tupE {xs : List PV} {v : V} (r : RepV G as H (.tup xs) v) : ∃ a vs, v = .ref a ∧ SqT G.K H a vs ∧ RepVs G as H xs vs := by unfold RepV at r; exact r
theorem RepV.frkE {xs : List PV} {v : V} (r : RepV G as H (.frk xs) v) : ∃ a vs, v = .ref a ∧ SqF G.K H a vs ∧ RepVs G as H xs vs := by unfold RepV at r; exact r
theorem RepV.tyE {n : String} {v : V} (r : RepV G as H (.ty n) v) : v = .ty n := by unfold RepV at r; exact r
theorem RepV.int (i : Int) : RepV G as H (.int i) (.int i) := by unfold RepV; rfl
theorem RepV.bl (i : Bool) : RepV G as H (.bl i) (.bl i) := by unfold RepV; rfl
theorem RepV.non : RepV G as H .non .non := by unfold RepV; rfl
theorem RepV.str (x : List Nat) : RepV G as H (.str x) (.str ⟨x.toArray⟩) := by unfold RepV; rfl
theorem RepV.strO (x : Str) : RepV G as H (.str x.cps.toList) (.str x) := by unfold RepV; rfl
theorem SR.obj (S : SR G as H h) {l : Nat} {a : Addr} {o : PO} (e : h[l]? = some o) (ea : as[l]? = some a) : RepO G as H o a := S.at_ l o a e ea
theorem SR.lst (S : SR G as H h) {l : Nat} {a : Addr} {xs : List PV} (e : lstAt h l = some xs) (ea : as[l]? = some a) : ∃ vs, SqL G.K H a vs ∧ RepVs G as H xs vs := by
  unfold lstAt at e
  split at e
  · rename_i ys q
    cases e
    obtain ⟨vs, e1, r⟩ := S.obj q ea
    exact ⟨vs, .of e1, r⟩
  · rename_i ys q
    cases e
    obtain ⟨o, vs, e1, r⟩ := S.obj q ea
    exact ⟨vs, .inl (.inr ⟨o, e1⟩), r⟩
  · cases e
theorem lstAt_of {l : Nat} {xs : List PV} (e : h[l]? = some (.lst xs)) : lstAt h l = some xs := by unfold lstAt; rw [e]
theorem lstAt_frz {l : Nat} {xs : List PV} (e : h[l]? = some (.frz xs)) : lstAt h l = some xs := by unfold lstAt; rw [e]
theorem SR.lstM (S : SR G as H h) {l : Nat} {a : Addr} {xs : List PV} (e : h[l]? = some (.lst xs)) (ea : as[l]? = some a) : ∃ vs, H a = some (.lst vs) ∧ RepVs G as H xs vs := S.obj e ea
theorem SR.setL (S : SR G as H h) {l : Nat} {a : Addr} {vs ws : List V} {ys : List PV} (ea : as[l]? = some a) (e : H a = some (.lst vs)) (r : RepVs G as H ys ws) : Fut G as H as (upd H a (.lst ws)) (h.set l (.lst ys)) := by
  have k : Kp H (upd H a (.lst ws)) := Kp.mut e (fun _ z => by cases z) (fun _ _ z => by cases z)
  exact S.set ea k ⟨ws, upd_same, r.mono (List.prefix_refl _) k⟩
theorem SR.newL (S : SR G as H h) {p : Addr} {ys : List PV} {ws : List V} (hp : H p = none) (r : RepVs G as H ys ws) : Fut G as H (as ++ [p]) (upd H p (.lst ws)) (h ++ [.lst ys]) ∧ RepV G (as ++ [p]) (upd H p (.lst ws)) (.ref h.length) (.ref p) :=
  S.new hp ⟨ws, upd_same, r.mono (List.prefix_append _ _) (Kp.new hp)⟩
mutual
theorem toD_ok {de : Nat → Option PyData} (hd : ∀ l d a, de l = some d → as[l]? = some a → Dp G.K H (.ref a) d) : ∀ {v : PV} {x : V} {d : PyData}, toD de v = some d → RepV G as H v x → Dp G.K H x d
  | .non, x, d, e, r => by
    simp only [toD] at e; cases e; rw [r.nonE]; exact .non
  | .bl b, x, d, e, r => by
    simp only [toD] at e; cases e; rw [r.blE]; exact .bl b
  | .int i, x, d, e, r => by
    simp only [toD] at e; cases e; rw [r.intE]; exact .int i
  | .str y, x, d, e, r => by
    simp only [toD] at e; cases e; rw [r.strE]; exact .str _
  | .tup xs, x, d, e, r => by
    simp only [toD] at e
    obtain ⟨ds, e1, e2⟩ := Option.map_eq_some_iff.mp e
    subst e2
    obtain ⟨a, vs, rfl, s, rv⟩ := r.tupE
    exact .tup s (toDs_ok hd e1 rv)
  | .ref l, x, d, e, r => by
    simp only [toD] at e
    obtain ⟨a, ea, rfl⟩ := r.refE
    exact hd l d a e ea
  | .frk _, _, _, e, _ => by simp [toD] at e
  | .fn _, _, _, e, _ => by simp [toD] at e
  | .cls _, _, _, e, _ => by simp [toD] at e
  | .ty _, _, _, e, _ => by simp [toD] at e
theorem toDs_ok {de : Nat → Option PyData} (hd : ∀ l d a, de l = some d → as[l]? = some a → Dp G.K H (.ref a) d) : ∀ {vs : List PV} {xs : List V} {ds : List PyData}, toDs de vs = some ds → RepVs G as H vs xs → DpAll G.K H xs ds
  | [], xs, ds, e, r => by
    simp only [toDs] at e; cases e
    unfold RepVs at r; subst r; exact .nil
  | v :: vs, xs, ds, e, r => by
    simp only [toDs] at e
    unfold RepVs at r
    obtain ⟨x, rest, rfl, r1, r2⟩ := r
    split at e
    · cases e
    · rename_i d q
      obtain ⟨es, e1, e2⟩ := Option.map_eq_some_iff.mp e
      subst e2
      exact .cons (toD_ok hd q r1) (toDs_ok hd e1 r2)
end
theorem deref_ok (S : SR G as H h) : ∀ (n l : Nat) (d : PyData) (a : Addr), deref h n l = some d → as[l]? = some a → Dp G.K H (.ref a) d
  | 0, l, d, a, e, _ => by simp [deref] at e
  | n + 1, l, d, a, e, ea => by
    simp only [deref] at e
    split at e
    · rename_i xs q
      obtain ⟨ds, e1, e2⟩ := Option.map_eq_some_iff.mp e
      subst e2
      obtain ⟨vs, s, r⟩ := S.lst (lstAt_of q) ea
      exact .lst s (toDs_ok (deref_ok S n) e1 r)
    · rename_i xs q
      obtain ⟨ds, e1, e2⟩ := Option.map_eq_some_iff.mp e
      subst e2
      obtain ⟨vs, s, r⟩ := S.lst (lstAt_frz q) ea
      exact .lst s (toDs_ok (deref_ok S n) e1 r)
    · cases e
theorem datum_ok (S : SR G as H h) {v : PV} {x : V} {d : PyData} (e : datum h v = some d) (r : RepV G as H v x) : Dp G.K H x d ∧ SeqAt.shaped d = true := by
  unfold datum at e
  split at e
  · rename_i d' q
    split at e
    · rename_i sh
      cases e
      exact ⟨toD_ok (deref_ok S 8) q r, sh⟩
    · cases e
  · cases e
theorem pEq_ok (S : SR G as H h) {v w : PV} {x y : V} {b : Bool} (e : pEq h v w = some b) (r1 : RepV G as H v x) (r2 : RepV G as H w y) :
    ∃ d d', Dp G.K H x d ∧ Dp G.K H y d' ∧ SeqAt.shaped d = true ∧ SeqAt.shaped d' = true ∧ b = PyData.eqv d d' := by
  unfold pEq at e
  split at e
  · rename_i d d' q1 q2
    cases e
    obtain ⟨a1, a2⟩ := datum_ok S q1 r1
    obtain ⟨b1, b2⟩ := datum_ok S q2 r2
    exact ⟨d, d', a1, b1, a2, b2, rfl⟩
  · cases e
abbrev rP2 (G : Gm) (E : XK) (pr : PV → PV → PH → Res PV) : R2 := fun x y H Q => ∃ as h va vb, SR G as H h ∧ RepV G as H va x ∧ RepV G as H vb y ∧ OkV G E as H Q (pr va vb h)
theorem okv {Q : V → Hp → Prop} {w : PV} {v : V} (S : SR G as H h) (o : OkV G E as H Q (.ok w h)) (r : RepV G as H w v) : Q v H := o as H v (Fut.refl S) r
theorem okn {Q : V → Hp → Prop} {w : PV} {v : V} {as' : List Addr} {H' : Hp} {h' : PH} (o : OkV G E as H Q (.ok w h')) (f : Fut G as H as' H' h') (r : RepV G as' H' w v) : Q v H' := o as' H' v f r
theorem str_app (x y : List Nat) : (⟨x.toArray⟩ : Str) ++ (⟨y.toArray⟩ : Str) = ⟨(x ++ y).toArray⟩ := by
  show Str.append _ _ = _
  unfold Str.append
  simp
theorem str_len (x : List Nat) : (⟨x.toArray⟩ : Str).length = x.length := by unfold Str.length; simp
theorem pow_any {pins : List (Addr × Obj)} {s : Shared} {σ : L2.St} {x y : V} {v u : Value} {Q : VK} {i j : Int} (I : Inv X pins σ H s) (rx : RelV (.int i) v) (ry : RelV (.int j) u) (h0 : 0 ≤ j) (hsz : (Builtin.Int.intBits i : Int) * j ≤ 2 ^ 27) (q : Q (.int (i ^ j.toNat)) H) :
    wpAny (model X.prog X.w) X.A (binaryOp .Pow v u) (EP X pins σ Q) X.xe s := by
  obtain ⟨t, rfl⟩ := rx
  obtain ⟨t', rfl⟩ := ry
  exact pow_int h0 hsz ⟨.int _, H, I.tok _, ⟨_, rfl⟩, q⟩
open PySem.P in
theorem mul_strP {prog : Program} {w : World} {A : Around} {E : Value → Shared → Prop} {s : Shared} {x : Str} {n : Int} {t u : Tok} {Q : Value → Shared → Prop} (hr : (decide (n < -(2 ^ 63 : Int)) || decide (n ≥ 2 ^ 63)) = false)
    (hb : ¬ n < 1 → (n == 1 || x.length == 0) = false → ¬ ((x.length : Int) > (2 ^ 63 - 1) / n)) (hl : ¬ n < 1 → (n == 1 || x.length == 0) = false → Builtin.Str.tooLong (x.length * n.toNat) = false)
    (h : (if n < 1 then Made.str Str.empty else if (n == 1 || x.length == 0) = true then Made.val (.str x t) else Made.str ⟨(List.replicate n.toNat x.cps).foldl (· ++ ·) #[]⟩).post Q s) :
    wpAny (model prog w) A (binaryOp .Mult (.str x t) (.int n u)) Q E s := mul_str hr hb hl h
theorem op_bin (hk : X.K = G.K) (op : Bop) : OpR X (binaryOp op.py) (rP2 G E (pBin op)) := by
  intro pins s σ H x y v u Q I rx ry ⟨as, h, va, vb, S, ra, rb, o⟩
  unfold pBin at o
  split at o
  · -- int + int
    rw [ra.intE] at rx; rw [rb.intE] at ry
    exact op_add pins s σ H _ _ v u Q I rx ry ⟨_, _, rfl, rfl, okv S o (.int _)⟩
  · -- str + str
    split at o
    · rename_i hl
      rw [ra.strE] at rx; rw [rb.strE] at ry
      refine op_add_str pins s σ H _ _ v u Q I rx ry ⟨_, _, rfl, rfl, by simpa [str_len] using hl, ?_⟩
      rw [str_app]
      exact okv S o (.str _)
    · exact False.elim o
  · -- tuple + tuple
    split at o
    · rename_i hl
      obtain ⟨a, vs, rfl, sa, r1⟩ := ra.tupE
      obtain ⟨b, ws, rfl, sb, r2⟩ := rb.tupE
      rename_i xs ys
      refine op_catA pins s σ H _ _ v u Q I rx ry ⟨a, b, vs, ws, rfl, rfl, by rw [hk]; exact sa, by rw [hk]; exact sb, by rw [← r1.length, ← r2.length]; exact hl, fun e => ?_, fun _ e => ?_, fun _ _ p hp => ?_⟩
      · have e2 : xs = [] := List.eq_nil_of_length_eq_zero (by rw [r1.length, e]; rfl)
        subst e2
        exact okv S o (by unfold RepV; exact ⟨b, ws, rfl, sb, by simpa using r2⟩)
      · have e2 : ys = [] := List.eq_nil_of_length_eq_zero (by rw [r2.length, e]; rfl)
        subst e2
        exact okv S o (by unfold RepV; exact ⟨a, vs, rfl, sa, by simpa using r1⟩)
      · obtain ⟨f, r⟩ := S.tup hp (r1.append r2)
        exact okn o f r
    · exact False.elim o
  · -- list + list
    obtain ⟨a, ea, rfl⟩ := ra.refE
    obtain ⟨b, eb, rfl⟩ := rb.refE
    split at o
    · rename_i x1 y1 q1 q2
      split at o
      · rename_i hl
        obtain ⟨vs, e1, r1⟩ := S.lstM q1 ea
        obtain ⟨ws, e2, r2⟩ := S.lstM q2 eb
        refine op_cat pins s σ H _ _ v u Q I rx ry ⟨a, b, vs, ws, rfl, rfl, e1, e2, by rw [← r1.length, ← r2.length]; exact hl, fun p hp => ?_⟩
        obtain ⟨f, r⟩ := S.newL hp (r1.append r2)
        exact okn o f r
      · exact False.elim o
    · exact False.elim o
  · rw [ra.intE] at rx; rw [rb.intE] at ry
    exact op_sub pins s σ H _ _ v u Q I rx ry ⟨_, _, rfl, rfl, okv S o (.int _)⟩
  · -- int * int
    split at o
    · rename_i hb
      rw [ra.intE] at rx; rw [rb.intE] at ry
      exact op_mulW pins s σ H _ _ v u Q I rx ry ⟨_, _, rfl, rfl, (show _ < 1000000 from of_decide_eq_true hb), okv S o (.int _)⟩
    · exact False.elim o
  · -- list * int
    obtain ⟨a, ea, rfl⟩ := ra.refE
    rw [rb.intE] at ry
    split at o
    · rename_i x1 q1
      split at o
      · rename_i hl
        simp only [Bool.and_eq_true, decide_eq_true_eq] at hl
        obtain ⟨vs, e1, r1⟩ := S.lstM q1 ea
        refine op_rep pins s σ H _ _ v u Q I rx ry ⟨a, _, vs, rfl, rfl, e1, hl.1.1, hl.1.2, by rw [← r1.length]; exact hl.2, fun p hp => ?_⟩
        have rr : ∀ n : Nat, RepVs G as H (List.replicate n x1).flatten (List.replicate n vs).flatten := fun n => by
          induction n with
          | zero => simpa using RepVs.nil
          | succ n ih => simpa [List.replicate_succ] using r1.append ih
        obtain ⟨f, r⟩ := S.newL hp (rr _)
        exact okn o f r
      · exact False.elim o
    · exact False.elim o
  · -- str * int
    split at o
    · rename_i x1 k1 hl
      simp only [Bool.and_eq_true, decide_eq_true_eq] at hl
      rw [ra.strE] at rx; rw [rb.intE] at ry
      obtain ⟨t, rfl⟩ := rx
      obtain ⟨t', rfl⟩ := ry
      obtain ⟨⟨h1, h2⟩, h3⟩ := hl
      have hlen : (⟨x1.toArray⟩ : Str).length = x1.length := by rw [str_len]
      refine mul_strP (by rw [decide_eq_false (by omega), decide_eq_false (by omega)]; rfl) ?_ (fun a b => ?_) ?_
      · intro a b
        rw [hlen]
        have hk1 : 0 < k1 := by omega
        have h4 : x1.length * k1.toNat ≤ 16777216 := h3
        have h5 : (x1.length : Int) * k1 ≤ 16777216 := by
          have e : ((x1.length * k1.toNat : Nat) : Int) = (x1.length : Int) * k1 := by
            push_cast
            rw [Int.toNat_of_nonneg (by omega)]
          omega
        have h6 : (x1.length : Int) ≤ (2 ^ 63 - 1) / k1 := (Int.le_ediv_iff_mul_le hk1).mpr (by omega)
        omega
      · unfold Builtin.Str.tooLong
        rw [hlen]
        exact decide_eq_false (by omega)
      · have key : ∀ n : Nat, ((List.replicate n (⟨x1.toArray⟩ : Str).cps).foldl (· ++ ·) #[] : Array Nat) = ((List.replicate n x1).flatten).toArray := fun n => by
          have gen : ∀ (n : Nat) (acc : List Nat), (List.replicate n (x1.toArray)).foldl (· ++ ·) acc.toArray = (acc ++ (List.replicate n x1).flatten).toArray := fun n => by
            induction n with
            | zero => intro acc; simp
            | succ n ih =>
              intro acc
              rw [List.replicate_succ, List.foldl_cons, List.append_toArray, ih]
              simp [List.replicate_succ]
          simpa using gen n []
        have fin : ∀ (z : Str), z = ⟨(List.replicate k1.toNat x1).flatten.toArray⟩ → Q (.str z) H := fun z e => by
          rw [e]
          exact okv S o (.str _)
        split
        · rename_i hn
          refine ⟨by decide, ?_⟩
          have e0 : k1.toNat = 0 := by omega
          exact ⟨.str Str.empty, H, I.tok _, ⟨_, rfl⟩, fin _ (by rw [e0]; rfl)⟩
        · split
          · rename_i hc
            have e1 : (⟨x1.toArray⟩ : Str) = ⟨(List.replicate k1.toNat x1).flatten.toArray⟩ := by
              simp only [Bool.or_eq_true, beq_iff_eq] at hc
              rcases hc with hc | hc
              · subst hc; simp
              · rw [hlen] at hc
                have : x1 = [] := List.eq_nil_of_length_eq_zero hc
                subst this
                congr 1
                have : ∀ n : Nat, (List.replicate n ([] : List Nat)).flatten = [] := fun n => by induction n <;> simp_all [List.replicate_succ]
                rw [this]
            exact ⟨.str _, H, I, ⟨_, rfl⟩, fin _ e1⟩
          · refine ⟨?_, ⟨.str _, H, I.tok _, ⟨_, rfl⟩, fin _ (by rw [key])⟩⟩
            rw [key, str_len]
            have ln : ∀ n : Nat, (List.replicate n x1).flatten.length = x1.length * n := fun n => by
              induction n with
              | zero => simp
              | succ n ih => simp [List.replicate_succ, ih, Nat.mul_succ, Nat.add_comm]
            rw [ln]
            exact h3
    · exact False.elim o
  · -- //
    split at o
    · rename_i hb
      simp only [Bool.and_eq_true, decide_eq_true_eq] at hb
      rw [ra.intE] at rx; rw [rb.intE] at ry
      exact op_fdivW pins s σ H _ _ v u Q I rx ry ⟨_, _, rfl, rfl, hb, okv S o (.int _)⟩
    · exact False.elim o
  · split at o
    · rename_i hb
      rw [ra.intE] at rx; rw [rb.intE] at ry
      exact op_mod pins s σ H _ _ v u Q I rx ry ⟨_, _, rfl, rfl, of_decide_eq_true hb, okv S o (.int _)⟩
    · exact False.elim o
  · split at o
    · rename_i hb
      simp only [Bool.and_eq_true, decide_eq_true_eq] at hb
      rw [ra.intE] at rx; rw [rb.intE] at ry
      exact pow_any (x := x) (y := y) I rx ry hb.1 hb.2 (okv S o (.int _))
    · exact False.elim o
  · split at o
    · rename_i hb
      simp only [Bool.and_eq_true, decide_eq_true_eq] at hb
      rw [ra.intE] at rx; rw [rb.intE] at ry
      exact op_shl pins s σ H _ _ v u Q I rx ry ⟨_, _, rfl, rfl, ⟨hb.1.1, hb.1.2, hb.2⟩, okv S o (.int _)⟩
    · exact False.elim o
  · split at o
    · rename_i hb
      rw [ra.intE] at rx; rw [rb.intE] at ry
      exact op_shr pins s σ H _ _ v u Q I rx ry ⟨_, _, rfl, rfl, of_decide_eq_true hb, okv S o (.int _)⟩
    · exact False.elim o
  · rw [ra.intE] at rx; rw [rb.intE] at ry
    exact op_and pins s σ H _ _ v u Q I rx ry ⟨_, _, rfl, rfl, okv S o (.int _)⟩
  · rw [ra.intE] at rx; rw [rb.intE] at ry
    exact op_or pins s σ H _ _ v u Q I rx ry ⟨_, _, rfl, rfl, okv S o (.int _)⟩
  · rw [ra.intE] at rx; rw [rb.intE] at ry
    exact op_xor pins s σ H _ _ v u Q I rx ry ⟨_, _, rfl, rfl, okv S o (.int _)⟩
  · exact False.elim o
theorem ob_ok {b : Option Bool} {Q : V → Hp → Prop} (o : OkV G E as H Q (ob b h)) (S : SR G as H h) : ∃ c, b = some c ∧ Q (.bl c) H := by
  unfold ob at o
  split at o
  · exact ⟨_, rfl, okv S o (.bl _)⟩
  · exact False.elim o
theorem flat_in {y : List Nat} {c : Nat} : decide (c ∈ (⟨y.toArray⟩ : Str).cps.toList) = y.contains c := by
  show decide (c ∈ y.toArray.toList) = _
  rw [Bool.eq_iff_iff]
  simp
theorem op_inT (hu : X.A.units + 65 < cLine) : OpR X (compareOp .In) (fun x y H Q => ∃ d ds, Dp X.K H x d ∧ Dp X.K H y (.tuple ds) ∧ SeqAt.shaped d = true ∧ SeqAt.shaped (.tuple ds) = true ∧ Q (.bl (ds.any fun z => PyData.eqv z d)) H) := by
  intro pins s σ H x y v u Q I rx ry h
  obtain ⟨d, ds, hd, he, sd, se, q⟩ := h
  obtain ⟨as, r1⟩ := Dp.reads I d x v hd rx
  obtain ⟨bs, r2⟩ := Dp.reads I (.tuple ds) y u he ry
  exact SeqAt.in_tuple_reads r2 r1 (SeqAt.canLay_of_shaped se) (SeqAt.canLay_of_shaped sd) (room_in_shaped sd hu) ⟨.bl _, H, I, rfl, q⟩
theorem op_notInT (hu : X.A.units + 65 < cLine) : OpR X (compareOp .NotIn) (fun x y H Q => ∃ d ds, Dp X.K H x d ∧ Dp X.K H y (.tuple ds) ∧ SeqAt.shaped d = true ∧ SeqAt.shaped (.tuple ds) = true ∧ Q (.bl (!ds.any fun z => PyData.eqv z d)) H) := by
  intro pins s σ H x y v u Q I rx ry h
  obtain ⟨d, ds, hd, he, sd, se, q⟩ := h
  obtain ⟨as, r1⟩ := Dp.reads I d x v hd rx
  obtain ⟨bs, r2⟩ := Dp.reads I (.tuple ds) y u he ry
  exact SeqAt.notIn_tuple_reads r2 r1 (SeqAt.canLay_of_shaped se) (SeqAt.canLay_of_shaped sd) (room_in_shaped sd hu) ⟨.bl _, H, I, rfl, q⟩
theorem dLook_ok : ∀ {kvs : List (Key × PV)} {ks : List (Key × V)} (k : Key), RepK G as H kvs ks → (∀ x, dLook kvs k = some x → ∃ v, valV ks k = some v ∧ RepV G as H x v) ∧ (dLook kvs k = none → valV ks k = none)
  | [], ks, k, r => by
    unfold RepK at r; subst r
    exact ⟨fun x e => by simp [dLook] at e, fun _ => rfl⟩
  | (k', x) :: kvs, ks, k, r => by
    unfold RepK at r
    obtain ⟨v, rest, rfl, r1, r2⟩ := r
    obtain ⟨i1, i2⟩ := dLook_ok k r2
    by_cases e : k' = k
    · subst e
      refine ⟨fun y q => ?_, fun q => ?_⟩
      · simp [dLook] at q
        subst q
        exact ⟨v, by simp [valV], r1⟩
      · simp [dLook] at q
    · have a : dLook ((k', x) :: kvs) k = dLook kvs k := by simp [dLook, List.find?_cons, e]
      have b : valV ((k', v) :: rest) k = valV rest k := by simp [valV, List.find?_cons, e]
      rw [a, b]
      exact ⟨i1, i2⟩
theorem dLook_iff {kvs : List (Key × PV)} {ks : List (Key × V)} (k : Key) (r : RepK G as H kvs ks) : (dLook kvs k).isSome = (valV ks k).isSome := by
  obtain ⟨a, b⟩ := dLook_ok k r
  cases e : dLook kvs k with
  | none => rw [b e]; rfl
  | some x => obtain ⟨v, e1, _⟩ := a x e; rw [e1]; rfl
theorem RepK.length : ∀ {kvs : List (Key × PV)} {ks : List (Key × V)}, RepK G as H kvs ks → kvs.length = ks.length
  | [], ks, r => by unfold RepK at r; subst r; rfl
  | (k', x) :: kvs, ks, r => by
    unfold RepK at r
    obtain ⟨v, rest, rfl, r1, r2⟩ := r
    simp [RepK.length r2]
theorem RepK.append : ∀ {kvs : List (Key × PV)} {ks : List (Key × V)} {k : Key} {x : PV} {v : V}, RepK G as H kvs ks → RepV G as H x v → RepK G as H (kvs ++ [(k, x)]) (ks ++ [(k, v)])
  | [], ks, k, x, v, r, q => by unfold RepK at r; subst r; unfold RepK; exact ⟨v, [], rfl, q, by unfold RepK; rfl⟩
  | (k', y) :: kvs, ks, k, x, v, r, q => by
    unfold RepK at r
    obtain ⟨w, rest, rfl, r1, r2⟩ := r
    show RepK G as H ((k', y) :: (kvs ++ [(k, x)])) ((k', w) :: (rest ++ [(k, v)]))
    unfold RepK
    exact ⟨w, _, rfl, r1, RepK.append r2 q⟩
theorem RepK.mapP : ∀ {kvs : List (Key × PV)} {ks : List (Key × V)} {k : Key} {x : PV} {v : V}, RepK G as H kvs ks → RepV G as H x v →
    RepK G as H (kvs.map fun kv => if kv.1 = k then (kv.1, x) else kv) (ks.map fun kv => if kv.1 = k then (kv.1, v) else kv)
  | [], ks, k, x, v, r, q => by unfold RepK at r; subst r; unfold RepK; rfl
  | (k', y) :: kvs, ks, k, x, v, r, q => by
    unfold RepK at r
    obtain ⟨w, rest, rfl, r1, r2⟩ := r
    by_cases e : k' = k
    · simp only [List.map_cons, e, if_true]
      unfold RepK
      exact ⟨v, _, rfl, q, RepK.mapP r2 q⟩
    · simp only [List.map_cons, e, if_false]
      unfold RepK
      exact ⟨w, _, rfl, r1, RepK.mapP r2 q⟩
theorem dPut_ok {kvs : List (Key × PV)} {ks : List (Key × V)} {k : Key} {x : PV} {v : V} (r : RepK G as H kvs ks) (q : RepV G as H x v) : RepK G as H (dPut kvs k x) (putK ks k v) := by
  have e : (kvs.any fun kv => decide (kv.1 = k)) = (ks.any fun kv => decide (kv.1 = k)) := by
    clear q
    induction kvs generalizing ks with
    | nil => unfold RepK at r; subst r; rfl
    | cons p kvs ih =>
      obtain ⟨k', y⟩ := p
      unfold RepK at r
      obtain ⟨w, rest, rfl, r1, r2⟩ := r
      simp only [List.any_cons, ih r2]
  unfold dPut putK
  rw [e]
  split
  · exact r.mapP q
  · exact r.append q
theorem dDrop_ok : ∀ {kvs : List (Key × PV)} {ks : List (Key × V)} {k : Key}, RepK G as H kvs ks → RepK G as H (dDrop kvs k) (dropK ks k)
  | [], ks, k, r => by unfold RepK at r; subst r; unfold dDrop dropK RepK; rfl
  | (k', y) :: kvs, ks, k, r => by
    unfold RepK at r
    obtain ⟨w, rest, rfl, r1, r2⟩ := r
    have ih := dDrop_ok (k := k) r2
    unfold dDrop dropK at ih ⊢
    by_cases e : k' = k
    · simp only [List.filter_cons, e, ne_eq, not_true_eq_false, decide_false]
      simpa using ih
    · simp only [List.filter_cons, e, ne_eq, not_false_eq_true, decide_true, if_true]
      unfold RepK
      exact ⟨w, _, rfl, r1, ih⟩
theorem SR.dic (S : SR G as H h) {l : Nat} {a : Addr} {kvs : List (Key × PV)} (e : h[l]? = some (.dic kvs)) (ea : as[l]? = some a) : ∃ ks, H a = some (.dK ks) ∧ RepK G as H kvs ks := S.obj e ea
theorem SR.setD (S : SR G as H h) {l : Nat} {a : Addr} {ks ws : List (Key × V)} {ys : List (Key × PV)} (ea : as[l]? = some a) (e : H a = some (.dK ks)) (r : RepK G as H ys ws) : Fut G as H as (upd H a (.dK ws)) (h.set l (.dic ys)) := by
  have k : Kp H (upd H a (.dK ws)) := Kp.mut e (fun _ z => by cases z) (fun _ _ z => by cases z)
  exact S.set ea k ⟨ws, upd_same, r.mono (List.prefix_refl _) k⟩
theorem pIn_ok (hk : X.K = G.K) (hu : X.A.units + 70 < cLine) {va vb : PV} {x y : V} {b : Bool} {Q : V → Hp → Prop} {pins : List (Addr × Obj)} {s : Shared} {σ : L2.St} {v u : Value} (S : SR G as H h) (I : Inv X pins σ H s) (rx : RelV x v) (ry : RelV y u) (ra : RepV G as H va x) (rb : RepV G as H vb y) (e : pIn h va vb = some b) :
    (Q (.bl b) H → wpAny (model X.prog X.w) X.A (compareOp .In v u) (EP X pins σ Q) X.xe s) ∧ (Q (.bl (!b)) H → wpAny (model X.prog X.w) X.A (compareOp .NotIn v u) (EP X pins σ Q) X.xe s) := by
  unfold pIn at e
  split at e
  · split at e
    · rename_i d ds q1 q2
      cases e
      obtain ⟨a1, a2⟩ := datum_ok S q1 ra
      obtain ⟨b1, b2⟩ := datum_ok S q2 rb
      exact ⟨fun q => op_inT (by omega) pins s σ H x y v u Q I rx ry ⟨d, ds, by rw [hk]; exact a1, by rw [hk]; exact b1, a2, b2, q⟩,
        fun q => op_notInT (by omega) pins s σ H x y v u Q I rx ry ⟨d, ds, by rw [hk]; exact a1, by rw [hk]; exact b1, a2, b2, q⟩⟩
    · cases e
  · split at e
    · split at e
      · rename_i d ds q1 q2
        cases e
        obtain ⟨a1, a2⟩ := datum_ok S q1 ra
        obtain ⟨b1, b2⟩ := datum_ok S q2 rb
        exact ⟨fun q => op_inD (by omega) pins s σ H x y v u Q I rx ry ⟨d, ds, by rw [hk]; exact a1, by rw [hk]; exact b1, a2, b2, q⟩,
          fun q => op_notInD (by omega) pins s σ H x y v u Q I rx ry ⟨d, ds, by rw [hk]; exact a1, by rw [hk]; exact b1, a2, b2, q⟩⟩
      · cases e
    · rename_i l kvs ql
      obtain ⟨a, ea, rfl⟩ := rb.refE
      obtain ⟨ks, ed, rk⟩ := S.dic ql ea
      obtain rfl : u = Value.ref a := ry
      split at e
      · rename_i i
        cases e
        rw [ra.intE] at rx
        refine ⟨fun q => d_in (by omega) I (DGet.k (k := Sum.inl i) ed) rx fun s' I' => ⟨.bl _, H, I', rfl, by rw [← dLook_iff _ rk]; exact q⟩,
          fun q => d_notIn (by omega) I (DGet.k (k := Sum.inl i) ed) rx fun s' I' => ⟨.bl _, H, I', rfl, by rw [← dLook_iff _ rk]; exact q⟩⟩
      · rename_i z
        cases e
        rw [ra.strE] at rx
        refine ⟨fun q => d_in (by omega) I (DGet.k (k := Sum.inr ⟨z.toArray⟩) ed) rx fun s' I' => ⟨.bl _, H, I', rfl, by rw [← dLook_iff _ rk]; exact q⟩,
          fun q => d_notIn (by omega) I (DGet.k (k := Sum.inr ⟨z.toArray⟩) ed) rx fun s' I' => ⟨.bl _, H, I', rfl, by rw [← dLook_iff _ rk]; exact q⟩⟩
      · cases e
    · cases e
  · split at e
    · rename_i y c
      cases e
      rw [ra.strE] at rx; rw [rb.strE] at ry
      refine ⟨fun q => op_in_sign pins s σ H _ _ v u Q I rx ry ⟨c, _, by simp, rfl, by rw [flat_in]; exact q⟩,
        fun q => op_notIn_sign pins s σ H _ _ v u Q I rx ry ⟨c, _, by simp, rfl, by rw [flat_in]; exact q⟩⟩
    · cases e
  · cases e
theorem repNon {v : PV} {x : V} (r : RepV G as H v x) : decide (x = .non) = isNon v := by
  unfold isNon
  cases v with
  | non => rw [r.nonE]; simp
  | bl b => rw [r.blE]; simp
  | int b => rw [r.intE]; simp
  | str b => rw [r.strE]; simp
  | tup xs => obtain ⟨a, vs, rfl, _⟩ := r.tupE; simp
  | ref l => obtain ⟨a, _, rfl⟩ := r.refE; simp
  | frk l => obtain ⟨a, _, rfl, _⟩ := r.frkE; simp
  | fn i => unfold RepV at r; subst r; simp
  | cls i => unfold RepV at r; subst r; simp
  | ty i => unfold RepV at r; subst r; simp
theorem op_cmp (hk : X.K = G.K) (hu : X.A.units + 70 < cLine) (op : Cop) : OpR X (compareOp op.py) (rP2 G E (pCmp op)) := by
  intro pins s σ H x y v u Q I rx ry ⟨as, h, va, vb, S, ra, rb, o⟩
  unfold pCmp at o
  cases op with
  | eq =>
    obtain ⟨b, e, q⟩ := ob_ok o S
    obtain ⟨d, d', h1, h2, h3, h4, rfl⟩ := pEq_ok S e ra rb
    exact op_eqD (by omega) pins s σ H x y v u Q I rx ry ⟨d, d', by rw [hk]; exact h1, by rw [hk]; exact h2, h3, h4, q⟩
  | ne =>
    obtain ⟨b, e, q⟩ := ob_ok o S
    obtain ⟨c, e1, rfl⟩ := Option.map_eq_some_iff.mp e
    obtain ⟨d, d', h1, h2, h3, h4, rfl⟩ := pEq_ok S e1 ra rb
    exact op_neD (by omega) pins s σ H x y v u Q I rx ry ⟨d, d', by rw [hk]; exact h1, by rw [hk]; exact h2, h3, h4, q⟩
  | in_ =>
    obtain ⟨b, e, q⟩ := ob_ok o S
    exact (pIn_ok hk hu S I rx ry ra rb e).1 q
  | nin =>
    obtain ⟨b, e, q⟩ := ob_ok o S
    obtain ⟨c, e1, rfl⟩ := Option.map_eq_some_iff.mp e
    exact (pIn_ok hk hu S I rx ry ra rb e1).2 q
  | is_ =>
    dsimp only at o
    split at o
    · rw [rb.nonE] at ry
      exact op_isN pins s σ H x _ v u Q I rx ry ⟨rfl, by rw [repNon ra]; exact okv S o (.bl _)⟩
    · exact False.elim o
  | isn =>
    dsimp only at o
    split at o
    · rw [rb.nonE] at ry
      refine op_notN pins s σ H x _ v u Q I rx ry ⟨rfl, by rw [repNon ra]; exact okv S o (.bl _)⟩
    · exact False.elim o
  | lt =>
    dsimp only at o
    split at o
    · rw [ra.intE] at rx; rw [rb.intE] at ry
      exact op_lt pins s σ H _ _ v u Q I rx ry ⟨_, _, rfl, rfl, okv S o (.bl _)⟩
    · rw [ra.strE] at rx; rw [rb.strE] at ry
      exact op_lt_str pins s σ H _ _ v u Q I rx ry ⟨_, _, rfl, rfl, okv S o (.bl _)⟩
    · exact False.elim o
  | le =>
    dsimp only at o
    split at o
    · rw [ra.intE] at rx; rw [rb.intE] at ry
      exact op_le pins s σ H _ _ v u Q I rx ry ⟨_, _, rfl, rfl, okv S o (.bl _)⟩
    · rw [ra.strE] at rx; rw [rb.strE] at ry
      exact op_le_str pins s σ H _ _ v u Q I rx ry ⟨_, _, rfl, rfl, okv S o (.bl _)⟩
    · exact False.elim o
  | gt =>
    dsimp only at o
    split at o
    · rw [ra.intE] at rx; rw [rb.intE] at ry
      exact op_gt pins s σ H _ _ v u Q I rx ry ⟨_, _, rfl, rfl, okv S o (.bl _)⟩
    · rw [ra.strE] at rx; rw [rb.strE] at ry
      exact op_gt_str pins s σ H _ _ v u Q I rx ry ⟨_, _, rfl, rfl, okv S o (.bl _)⟩
    · exact False.elim o
  | ge =>
    dsimp only at o
    split at o
    · rw [ra.intE] at rx; rw [rb.intE] at ry
      exact op_ge pins s σ H _ _ v u Q I rx ry ⟨_, _, rfl, rfl, okv S o (.bl _)⟩
    · rw [ra.strE] at rx; rw [rb.strE] at ry
      exact op_ge_str pins s σ H _ _ v u Q I rx ry ⟨_, _, rfl, rfl, okv S o (.bl _)⟩
    · exact False.elim o
end
end Mn
set_option Elab.async false
set_option linter.all false
set_option maxRecDepth 100000
set_option maxHeartbeats 4000000
namespace Mn
open PySem PySem.Spec L2 PyProof.Rows
structure COk (G : Gm) (T : Tb) : Prop where
  cc : ∀ (c d : Nat) (ci : Ci), T.cls[c]? = some ci → d < T.cls.length → PySem.W.kitOne G.K (.ref (G.ca c)) (.ref (G.ca d)) = some (ci.sups.contains d)
  ct : ∀ (c : Nat) (n : String), c < T.cls.length → n ∈ tyNames → PySem.W.kitOne G.K (.ref (G.ca c)) (.type n) = some false
  tc : ∀ (c : Nat) (n : String), c < T.cls.length → n ∈ tyNames → PySem.W.kitOne G.K (.type n) (.ref (G.ca c)) = some false
  cl : ∀ c, c < T.cls.length → Cls G.K (G.ca c)
  ha : ∀ c, c < T.cls.length → PySem.W.findIn G.K (.ref (G.ca c)) "__class__" = some (some (.builtin "object.__class__"))
  hm : ∀ c, c < T.cls.length → PySem.W.mroIn G.K (G.ca c) (.type "object") = some true
  hn : T.cls ≠ [] → PySem.W.specialIn G.K (.builtin "object.__class__") "__get__" = some (some (.builtin "getset_descriptor.__get__"))
  htk : T.cls ≠ [] → PySem.W.takesIn G.K (.builtin "object.__class__") = some true
def Bi.py : Bi → Value
  | .len => .builtin "len" | .abs => .builtin "abs" | .max => .builtin "max" | .min => .builtin "min" | .int => .type "int" | .str => .type "str" | .bool => .type "bool" | .list => .type "list" | .tuple => .type "tuple"
  | .sorted => .builtin "sorted" | .sum => .builtin "sum" | .any => .builtin "any" | .all => .builtin "all" | .ord => .builtin "ord" | .isinst => .builtin "isinstance" | .repr => .builtin "repr" | .dict => .type "dict"
section
variable {G : Gm} {T : Tb} {E : XK} {X : Cx} {as : List Addr} {H : Hp} {h : PH}
abbrev rPn (G : Gm) (E : XK) (pr : List PV → PH → Res PV) : List V → Hp → VK → Prop := fun xs H Q => ∃ as h vs, SR G as H h ∧ RepVs G as H vs xs ∧ OkV G E as H Q (pr vs h)
theorem RepVs.one {x : PV} {xs : List V} (r : RepVs G as H [x] xs) : ∃ v, xs = [v] ∧ RepV G as H x v := by
  unfold RepVs at r
  obtain ⟨v, rest, rfl, r1, r2⟩ := r
  unfold RepVs at r2
  subst r2
  exact ⟨v, rfl, r1⟩
theorem RepVs.two {x y : PV} {xs : List V} (r : RepVs G as H [x, y] xs) : ∃ v w, xs = [v, w] ∧ RepV G as H x v ∧ RepV G as H y w := by
  unfold RepVs at r
  obtain ⟨v, rest, rfl, r1, r2⟩ := r
  obtain ⟨w, rfl, r3⟩ := r2.one
  exact ⟨v, w, rfl, r1, r3⟩
theorem RepVs.zero {xs : List V} (r : RepVs G as H [] xs) : xs = [] := by unfold RepVs at r; exact r
theorem intsOf_ok : ∀ {vs : List PV} {xs : List V} {is : List Int}, intsOf vs = some is → RepVs G as H vs xs → xs = is.map V.int
  | [], xs, is, e, r => by simp only [intsOf] at e; cases e; rw [r.zero]; rfl
  | .int i :: vs, xs, is, e, r => by
    simp only [intsOf] at e
    obtain ⟨js, e1, rfl⟩ := Option.map_eq_some_iff.mp e
    unfold RepVs at r
    obtain ⟨v, rest, rfl, r1, r2⟩ := r
    rw [r1.intE, intsOf_ok e1 r2]
    rfl
  | .non :: _, _, _, e, _ => by simp [intsOf] at e
  | .bl _ :: _, _, _, e, _ => by simp [intsOf] at e
  | .str _ :: _, _, _, e, _ => by simp [intsOf] at e
  | .tup _ :: _, _, _, e, _ => by simp [intsOf] at e
  | .ref _ :: _, _, _, e, _ => by simp [intsOf] at e
  | .fn _ :: _, _, _, e, _ => by simp [intsOf] at e
  | .cls _ :: _, _, _, e, _ => by simp [intsOf] at e
  | .ty _ :: _, _, _, e, _ => by simp [intsOf] at e
theorem strsOf_ok : ∀ {vs : List PV} {xs : List V} {is : List (List Nat)}, strsOf vs = some is → RepVs G as H vs xs → xs = (is.map fun y => (⟨y.toArray⟩ : Str)).map V.str
  | [], xs, is, e, r => by simp only [strsOf] at e; cases e; rw [r.zero]; rfl
  | .str i :: vs, xs, is, e, r => by
    simp only [strsOf] at e
    obtain ⟨js, e1, rfl⟩ := Option.map_eq_some_iff.mp e
    unfold RepVs at r
    obtain ⟨v, rest, rfl, r1, r2⟩ := r
    rw [r1.strE, strsOf_ok e1 r2]
    rfl
  | .non :: _, _, _, e, _ => by simp [strsOf] at e
  | .bl _ :: _, _, _, e, _ => by simp [strsOf] at e
  | .int _ :: _, _, _, e, _ => by simp [strsOf] at e
  | .tup _ :: _, _, _, e, _ => by simp [strsOf] at e
  | .ref _ :: _, _, _, e, _ => by simp [strsOf] at e
  | .fn _ :: _, _, _, e, _ => by simp [strsOf] at e
  | .cls _ :: _, _, _, e, _ => by simp [strsOf] at e
  | .ty _ :: _, _, _, e, _ => by simp [strsOf] at e
theorem tyB_kit {K : PySem.W.Frag} {a b : String} {r : Bool} (e : tyB a b = some r) : PySem.W.kitOne K (.type a) (.type b) = some r := by
  unfold tyB at e
  split at e
  · rename_i hh
    cases e
    simp only [Bool.and_eq_true, List.contains_iff_mem] at hh
    obtain ⟨h1, h2⟩ := hh
    simp only [tyNames, List.mem_cons, List.not_mem_nil, or_false] at h1 h2
    rcases h1 with rfl | rfl | rfl | rfl | rfl | rfl | rfl <;> rcases h2 with rfl | rfl | rfl | rfl | rfl | rfl | rfl <;> exact kit_ty (by decide +kernel)
  · cases e
def clV (G : Gm) : PV → Value
  | .ty n => .type n
  | .cls c => .ref (G.ca c)
  | _ => .none
theorem subC_kit (C : COk G T) {t c : PV} {b : Bool} (e : subC T t c = some b) : PySem.W.kitOne G.K (clV G t) (clV G c) = some b := by
  unfold subC at e
  split at e
  · exact tyB_kit e
  · obtain ⟨ci, e1, e2⟩ := Option.bind_eq_some_iff.mp e
    split at e2
    · cases e2
      exact C.cc _ _ ci e1 (by assumption)
    · cases e2
  · split at e
    · rename_i hh
      cases e
      simp only [Bool.and_eq_true, decide_eq_true_eq, List.contains_iff_mem] at hh
      exact C.ct _ _ hh.1 hh.2
    · cases e
  · split at e
    · rename_i hh
      cases e
      simp only [Bool.and_eq_true, decide_eq_true_eq, List.contains_iff_mem] at hh
      exact C.tc _ _ hh.1 hh.2
    · cases e
  · cases e
theorem subC_lt {c : Nat} {d : PV} {b : Bool} (e : subC T (.cls c) d = some b) : c < T.cls.length := by
  cases d with
  | ty n =>
    simp only [subC] at e
    split at e
    · rename_i hh
      simp only [Bool.and_eq_true, decide_eq_true_eq] at hh
      exact hh.1
    · cases e
  | cls d =>
    simp only [subC] at e
    obtain ⟨ci, e2, _⟩ := Option.bind_eq_some_iff.mp e
    exact (List.getElem?_eq_some_iff.mp e2).1
  | _ => simp [subC] at e
theorem tyOf_ok (hk : X.K = G.K) (C : COk G T) (S : SR G as H h) {v t c : PV} {x : V} {b : Bool} (e : tyOf h v = some t) (eb : subC T t c = some b) (r : RepV G as H v x) : TyX X.K H x (clV G t) := by
  unfold tyOf at e
  split at e
  · cases e; rw [r.nonE]; exact .base .non
  · cases e; rw [r.blE]; exact .base (.bl _)
  · cases e; rw [r.intE]; exact .base (.int _)
  · cases e; rw [r.strE]; exact .base (.str _)
  · cases e
    obtain ⟨a, vs, rfl, s, rv⟩ := r.tupE
    rw [hk]
    rcases s with s | s
    · rcases s with s | ⟨o, s⟩
      · exact .base (.tup s)
      · exact .fTuple s
    · obtain ⟨o, its, n, e1, e2, _⟩ := s
      exact .kTuple e1 e2
  · obtain ⟨a, ea, rfl⟩ := r.refE
    split at e
    · rename_i q
      cases e
      obtain ⟨vs, e1, _⟩ := S.obj q ea
      exact .base (.lst e1)
    · rename_i q
      cases e
      obtain ⟨o, vs, e1, _⟩ := S.obj q ea
      exact .base (.frz e1)
    · rename_i q
      cases e
      obtain ⟨vs, e1, _⟩ := S.obj q ea
      exact .base (.dK e1)
    · rename_i cc fs q
      cases e
      obtain ⟨dx, gs, e1, _⟩ := S.obj q ea
      have hc : cc < T.cls.length := subC_lt eb
      rw [hk]
      exact .base (.ins e1 (C.cl _ hc) (C.ha _ hc) (C.hn fun z => by rw [z] at hc; simp at hc) (C.htk fun z => by rw [z] at hc; simp at hc) (C.hm _ hc))
    · cases e
  · cases e
theorem clV_ok {c : PV} {t : PV} {b : Bool} {x : V} (e : subC T t c = some b) (r : RepV G as H c x) : ClsV x (clV G c) := by
  cases c with
  | ty n => rw [r.tyE]; exact .ty n
  | cls d => unfold RepV at r; subst r; exact .own _
  | _ => simp [subC] at e
theorem clVs_ok : ∀ {ts : List PV} {ws : List V} {its : List Value}, ts.all isCl = true → RepVs G as H ts ws → Vals ws its → its = ts.map (clV G)
  | [], ws, its, _, r, rv => by
    rw [r.zero] at rv
    cases rv
    rfl
  | t :: ts, ws, its, h, r, rv => by
    simp only [List.all_cons, Bool.and_eq_true] at h
    unfold RepVs at r
    obtain ⟨v, rest, rfl, r1, r2⟩ := r
    cases rv with
    | cons a b =>
      rename_i u us
      have e : u = clV G t := by
        cases t with
        | ty n => rw [r1.tyE] at a; exact a
        | cls c => unfold RepV at r1; subst r1; exact a
        | _ => simp [isCl] at h
      rw [e, clVs_ok h.2 r2 b]
      rfl
theorem isTys_ty {v t : PV} {ts : List PV} {b : Bool} (e : isTys T h v (t :: ts) = some b) : ∃ tt, tyOf h v = some tt := by
  unfold isTys isTy at e
  cases q : tyOf h v with
  | none => rw [q] at e; simp at e
  | some tt => exact ⟨tt, rfl⟩
theorem isTys_sub {v t tt : PV} {ts : List PV} {b : Bool} (q : tyOf h v = some tt) (e : isTys T h v (t :: ts) = some b) : ∃ b0, subC T tt t = some b0 := by
  unfold isTys isTy at e
  rw [q] at e
  simp only [Option.bind_some] at e
  cases q2 : subC T tt t with
  | none => rw [q2] at e; simp at e
  | some b0 => exact ⟨b0, rfl⟩
theorem isTys_kit (C : COk G T) {v tt : PV} (q : tyOf h v = some tt) : ∀ {ts : List PV} {b : Bool}, isTys T h v ts = some b → PySem.W.kitAny G.K (clV G tt) (ts.map (clV G)) = some b
  | [], b, e => by
    simp only [isTys] at e
    cases e
    rfl
  | t :: ts, b, e => by
    unfold isTys isTy at e
    rw [q] at e
    simp only [Option.bind_some] at e
    cases q2 : subC T tt t with
    | none => rw [q2] at e; simp at e
    | some b0 =>
      rw [q2] at e
      have k := subC_kit C q2
      refine kitAny_cons k (fun hb => ?_) (fun hb => ?_)
      · subst hb
        exact isTys_kit C q e
      · subst hb
        simpa using e.symm
theorem vals_get : ∀ {xs : List V} {us : List Value}, xs.length = us.length → (∀ (j : Nat) (w : Value), us[j]? = some w → ∃ v, xs[j]? = some v ∧ RelV v w) → Vals xs us
  | [], [], _, _ => .nil
  | x :: xs, u :: us, hl, h => by
    obtain ⟨v, e, r⟩ := h 0 u rfl
    cases e
    exact .cons r (vals_get (by simpa using hl) fun j w hw => by simpa using h (j + 1) w (by simpa using hw))
  | [], _ :: _, hl, _ => by simp at hl
  | _ :: _, [], hl, _ => by simp at hl
theorem repVs_signs : ∀ x : List Nat, RepVs G as H (x.map fun c => PV.str [c]) (x.map fun c => V.str ⟨#[c]⟩)
  | [] => .nil
  | c :: x => .cons (.str [c]) (repVs_signs x)
theorem call_bi (hk : X.K = G.K) (hc : X.calm = true) (C : COk G T) (f : Bi) : CallR X f.py (rPn G E (pBi T f)) := by
  intro pins s σ H xs us Q I rx ⟨as, h, vs, S, r, o⟩
  unfold pBi at o
  split at o
  · -- len of a text
    split at o
    · rename_i hl
      obtain ⟨v, rfl, r1⟩ := r.one
      rw [r1.strE] at rx
      refine call_len pins s σ H _ us Q I rx ⟨_, _, rfl, ⟨by rw [str_len]; exact hl, rfl⟩, ?_⟩
      rw [str_len]
      exact okv S o (.int _)
    · exact False.elim o
  · -- len of a tuple
    obtain ⟨v, rfl, r1⟩ := r.one
    obtain ⟨a, ws, rfl, sa, r2⟩ := r1.tupE
    refine call_len pins s σ H _ us Q I rx ⟨_, _, rfl, .inr ⟨ws, by rw [hk]; exact sa, rfl⟩, ?_⟩
    rw [← r2.length]
    exact okv S o (.int _)
  · -- len of what stands at a place
    obtain ⟨v, rfl, r1⟩ := r.one
    obtain ⟨a, ea, rfl⟩ := r1.refE
    split at o
    · rename_i q
      obtain ⟨ws, sl, r2⟩ := S.lst (lstAt_of q) ea
      refine call_len pins s σ H _ us Q I rx ⟨_, _, rfl, .inl ⟨ws, by rw [hk]; exact sl, rfl⟩, ?_⟩
      rw [← r2.length]
      exact okv S o (.int _)
    · rename_i q
      obtain ⟨ws, sl, r2⟩ := S.lst (lstAt_frz q) ea
      refine call_len pins s σ H _ us Q I rx ⟨_, _, rfl, .inl ⟨ws, by rw [hk]; exact sl, rfl⟩, ?_⟩
      rw [← r2.length]
      exact okv S o (.int _)
    · rename_i q
      obtain ⟨ks, ed, rk⟩ := S.dic q ea
      obtain ⟨u, rfl, ru⟩ := vals1 rx
      obtain rfl : u = Value.ref a := ru
      refine d_len I (.of ed) fun t s' I' => ⟨.int _, H, I', ⟨t, rfl⟩, ?_⟩
      rw [← rk.length]
      exact okv S o (.int _)
    · exact False.elim o
  · obtain ⟨v, rfl, r1⟩ := r.one
    obtain ⟨a, ws, rfl, sf, r2⟩ := r1.frkE
    refine call_len pins s σ H _ us Q I rx ⟨_, _, rfl, .inl ⟨ws, by rw [hk]; exact sf.sq, rfl⟩, ?_⟩
    rw [← r2.length]
    exact okv S o (.int _)
  · obtain ⟨v, rfl, r1⟩ := r.one
    rw [r1.intE] at rx
    exact call_abs pins s σ H _ us Q I rx ⟨_, rfl, okv S o (.int _)⟩
  · obtain ⟨v, w, rfl, r1, r2⟩ := r.two
    rw [r1.intE, r2.intE] at rx
    exact call_max2 hc pins s σ H _ us Q I rx ⟨_, _, rfl, okv S o (.int _)⟩
  · obtain ⟨v, w, rfl, r1, r2⟩ := r.two
    rw [r1.intE, r2.intE] at rx
    exact call_min2 hc pins s σ H _ us Q I rx ⟨_, _, rfl, okv S o (.int _)⟩
  · obtain ⟨v, rfl, r1⟩ := r.one
    rw [r1.intE] at rx
    exact call_int1 pins s σ H _ us Q I rx (.inl ⟨_, rfl, okv S o (.int _)⟩)
  · obtain ⟨v, rfl, r1⟩ := r.one
    rw [r1.blE] at rx
    exact call_int1 pins s σ H _ us Q I rx (.inr ⟨_, rfl, okv S o (.int _)⟩)
  · split at o
    · rename_i hl
      obtain ⟨v, rfl, r1⟩ := r.one
      rw [r1.intE] at rx
      exact call_str_int pins s σ H _ us Q I rx ⟨_, rfl, hl, okv S o (.strO _)⟩
    · exact False.elim o
  · obtain ⟨v, rfl, r1⟩ := r.one
    rw [r1.strE] at rx
    exact call_ord pins s σ H _ us Q I rx ⟨_, rfl, by rw [str_len]; rfl, okv S o (.int _)⟩
  · -- list of a tuple
    obtain ⟨v, rfl, r1⟩ := r.one
    obtain ⟨a, ws, rfl, sa, r2⟩ := r1.tupE
    refine call_list_of pins s σ H _ us Q I rx ⟨_, _, rfl, .inr (by rw [hk]; exact sa), fun l hl => ?_⟩
    obtain ⟨f, rr⟩ := S.newL hl r2
    exact okn o f rr
  · obtain ⟨v, rfl, r1⟩ := r.one
    obtain ⟨a, ea, rfl⟩ := r1.refE
    split at o
    · rename_i ys q
      obtain ⟨ws, sl, r2⟩ := S.lst q ea
      refine call_list_of pins s σ H _ us Q I rx ⟨_, _, rfl, .inl (by rw [hk]; exact sl), fun l hl => ?_⟩
      obtain ⟨f, rr⟩ := S.newL hl r2
      exact okn o f rr
    · exact False.elim o
  · -- list of a str
    split at o
    · rename_i x1 hl
      obtain ⟨v, rfl, r1⟩ := r.one
      rw [r1.strE] at rx
      obtain ⟨u, rfl, rx1⟩ := vals1 rx
      obtain ⟨t, rfl⟩ := rx1
      refine PySem.call_list_str (I.ok.hd hc) _ t (hn := by simpa using hl) fun h' tk acc' c' hkeep hS' hacc => ?_
      have rv : Vals (x1.map fun c => V.str ⟨#[c]⟩) acc'.toList := by
        refine vals_get (by have := hacc.1; simp at this ⊢; omega) fun j w hw => ?_
        obtain ⟨c, u, ec, rfl⟩ := hacc.2 j w (by simpa using hw)
        refine ⟨.str ⟨#[c]⟩, ?_, ⟨u, rfl⟩⟩
        rw [List.getElem?_map]
        have : x1[j]? = some c := by simpa using ec
        rw [this]; rfl
      obtain ⟨f, rr⟩ := S.newL (p := s.heap.objs.size) (I.hok.fresh (Nat.le_refl _)) (repVs_signs (G := G) (as := as) (H := H) x1)
      refine ⟨.ref s.heap.objs.size, _, I.laid (o := .lst (x1.map fun c => V.str ⟨#[c]⟩)) (t' := tk) hkeep (Nat.le_refl _) (show ObjOk X.prog X.w _ h' _ (.lst _) from ⟨by simpa using hl, acc'.toList, c', rv, by simpa using hS'⟩), rfl, okn o f rr⟩
    · exact False.elim o
  · obtain ⟨v, rfl, r1⟩ := r.one
    obtain ⟨a, ws, rfl, sa, r2⟩ := r1.tupE
    exact call_tuple_of pins s σ H _ us Q I rx ⟨_, _, rfl, .inr ⟨by rw [hk]; exact sa, okv S o r1⟩⟩
  · obtain ⟨v, rfl, r1⟩ := r.one
    obtain ⟨a, ea, rfl⟩ := r1.refE
    split at o
    · rename_i ys q
      obtain ⟨ws, sl, r2⟩ := S.lst q ea
      refine call_tuple_of pins s σ H _ us Q I rx ⟨_, _, rfl, .inl ⟨by rw [hk]; exact sl, fun l hl => ?_⟩⟩
      obtain ⟨f, rr⟩ := S.tup hl r2
      exact okn o f rr
    · exact False.elim o
  · -- isinstance, a tuple of classes
    split at o
    · rename_i v ts hcl
      simp only [Bool.and_eq_true] at hcl
      obtain ⟨hne, hcl⟩ := hcl
      obtain ⟨w, y, rfl, r1, r2⟩ := r.two
      obtain ⟨b, e, q⟩ := ob_ok o S
      obtain ⟨a, ws, rfl, sa, rw⟩ := r2.tupE
      obtain ⟨u1, u2, rfl, q1, q2⟩ := vals2 rx
      cases (show u2 = Value.ref a from q2)
      obtain ⟨its, rv, ⟨ob', h1, h2, n, h3⟩, _⟩ := I.tuple (show SqT X.K H a ws by rw [hk]; exact sa)
      have ei : its = ts.map (clV G) := clVs_ok hcl rw rv
      cases hts : ts with
      | nil =>
        rw [hts] at hne
        cases hne
      | cons t0 tr =>
        have e0 := e
        rw [hts] at e0
        obtain ⟨tt, et⟩ := isTys_ty e0
        have e2 : ∃ b0, subC T tt t0 = some b0 := isTys_sub et e0
        obtain ⟨b0, e2⟩ := e2
        obtain ⟨P, Z, p, hx⟩ := kit_of I q1 (tyOf_ok hk C S et e2 r1)
        obtain ⟨oc, od, dt, sl⟩ := ob'
        simp only at h2 h3
        subst h2 h3
        refine PySem.W.kia_tup Z I.kIn p h1 (b := b) ?_ hx fun tk => ⟨.bl b, H, I.tok tk, rfl, q⟩
        rw [ei, hk]
        exact isTys_kit C et e
    · exact False.elim o
  · rename_i v t
    obtain ⟨w, y, rfl, r1, r2⟩ := r.two
    obtain ⟨b, e, q⟩ := ob_ok o S
    unfold isTy at e
    obtain ⟨tt, e1, e2⟩ := Option.bind_eq_some_iff.mp e
    exact call_isi pins s σ H _ us Q I rx ⟨w, y, _, _, b, rfl, clV_ok e2 r2, tyOf_ok hk C S e1 e2 r1, by rw [hk]; exact subC_kit C e2, q⟩
  · obtain ⟨v, rfl, r1⟩ := r.one
    obtain ⟨a, ea, rfl⟩ := r1.refE
    split at o
    · rename_i ys q
      split at o
      · rename_i is qi
        obtain ⟨ws, sl, r2⟩ := S.lst q ea
        have ew := intsOf_ok qi r2
        subst ew
        exact cr_sum hc pins s σ H _ us Q I rx ⟨_, _, rfl, by rw [hk]; exact sl, okv S o (.int _)⟩
      · exact False.elim o
    · exact False.elim o
  · exact False.elim o
end
end Mn
set_option Elab.async false
set_option linter.all false
set_option maxRecDepth 100000
set_option maxHeartbeats 4000000
namespace Mn
open PySem PySem.Spec L2 PyProof.Rows
def Bq.T : Bq → String
  | .lappend | .lpop | .lpopl | .lextend | .lreverse | .linsert | .lindex | .lremove => "list"
  | .sisascii | .sisprintable | .sisdigit | .sjoin | .sremoveprefix => "str"
  | .dget | .dpop => "dict"
def Bm.nm : Bm → Str
  | .append => Str.ofString "append" | .pop => Str.ofString "pop" | .insert => Str.ofString "insert" | .extend => Str.ofString "extend" | .reverse => Str.ofString "reverse" | .index => Str.ofString "index" | .remove => Str.ofString "remove"
  | .isascii => Str.ofString "isascii" | .isprintable => Str.ofString "isprintable" | .isdigit => Str.ofString "isdigit" | .join => Str.ofString "join" | .replace => Str.ofString "replace" | .removeprefix => Str.ofString "removeprefix"
  | .find => Str.ofString "find" | .get => Str.ofString "get" | .keys => Str.ofString "keys" | .items => Str.ofString "items" | .values => Str.ofString "values" | .startswith => Str.ofString "startswith" | .none => Str.ofString ""
def Bq.id : Bq → String
  | .lappend => "list.append" | .lpop | .lpopl => "list.pop" | .lextend => "list.extend" | .lreverse => "list.reverse" | .linsert => "list.insert" | .lindex => "list.index" | .lremove => "list.remove"
  | .sisascii => "str.isascii" | .sisprintable => "str.isprintable" | .sisdigit => "str.isdigit" | .sjoin => "str.join" | .sremoveprefix => "str.removeprefix"
  | .dget => "dict.get" | .dpop => "dict.pop"
theorem bq_plain : ∀ q : Bq, PlainAttrs q.T
  | .lappend | .lpop | .lpopl | .lextend | .lreverse | .linsert | .lindex | .lremove => PySem.F.plainAttrs_list
  | .sisascii | .sisprintable | .sisdigit | .sjoin | .sremoveprefix => PySem.F.plainAttrs_str
  | .dget | .dpop => PySem.F.plainAttrs_dict
theorem bq_slot {m : Bm} {k : Nat} {q : Bq} (e : Bq.of m k = some q) : Slot q.T m.nm q.id := by
  unfold Bq.of at e
  split at e
  · cases e; exact PySem.F.slot_list_append
  · cases e; exact PySem.F.slot_list_pop
  · cases e; exact PySem.F.slot_list_extend
  · cases e; exact PySem.F.slot_list_reverse
  · cases e; exact PySem.F.slot_list_insert
  · cases e; exact PySem.F.slot_list_index
  · cases e; exact PySem.F.slot_list_remove
  · cases e; exact PySem.F.slot_str_isascii
  · cases e; exact PySem.F.slot_str_isprintable
  · cases e; exact PySem.F.slot_str_isdigit
  · cases e; exact PySem.F.slot_str_join
  · cases e; exact PySem.F.slot_str_removeprefix
  · cases e; exact PySem.F.slot_dict_get
  · cases e; exact PySem.F.slot_dict_pop
  · cases e
theorem bq_ty : ∀ q : Bq, typeOf (.builtin q.id) = pure (.type "method_descriptor")
  | .lappend => PySem.F.type_list_append
  | .lpop => PySem.F.type_list_pop
  | .lpopl => PySem.F.type_list_pop
  | .lextend => PySem.F.type_list_extend
  | .lreverse => PySem.F.type_list_reverse
  | .linsert => PySem.F.type_list_insert
  | .lindex => PySem.F.type_list_index
  | .lremove => PySem.F.type_list_remove
  | .sisascii => PySem.F.type_str_isascii
  | .sisprintable => PySem.F.type_str_isprintable
  | .sisdigit => PySem.F.type_str_isdigit
  | .sjoin => PySem.F.type_str_join
  | .sremoveprefix => PySem.F.type_str_removeprefix
  | .dget => PySem.F.type_dict_get
  | .dpop => PySem.F.type_dict_pop
theorem bq_T {m : Bm} {k : Nat} {q : Bq} (e : Bq.of m k = some q) : (k = 0 ∧ q.T = "list") ∨ (k = 1 ∧ q.T = "dict") ∨ (k = 2 ∧ q.T = "str") := by
  unfold Bq.of at e
  split at e
  · cases e; exact .inl ⟨rfl, rfl⟩
  · cases e; exact .inl ⟨rfl, rfl⟩
  · cases e; exact .inl ⟨rfl, rfl⟩
  · cases e; exact .inl ⟨rfl, rfl⟩
  · cases e; exact .inl ⟨rfl, rfl⟩
  · cases e; exact .inl ⟨rfl, rfl⟩
  · cases e; exact .inl ⟨rfl, rfl⟩
  · cases e; exact .inr (.inr ⟨rfl, rfl⟩)
  · cases e; exact .inr (.inr ⟨rfl, rfl⟩)
  · cases e; exact .inr (.inr ⟨rfl, rfl⟩)
  · cases e; exact .inr (.inr ⟨rfl, rfl⟩)
  · cases e; exact .inr (.inr ⟨rfl, rfl⟩)
  · cases e; exact .inr (.inl ⟨rfl, rfl⟩)
  · cases e; exact .inr (.inl ⟨rfl, rfl⟩)
  · cases e
section
variable {G : Gm} {T : Tb} {E : XK} {X : Cx} {as : List Addr} {H : Hp} {h : PH}
theorem kind_ty (hk : X.K = G.K) (S : SR G as H h) {m : Bm} {v : PV} {x : V} {q : Bq} (e : Bq.of m (kindAt h v) = some q) (r : RepV G as H v x) : tyV X.K q.T x H := by
  have t := bq_T e
  clear e
  generalize q.T = TT at t ⊢
  unfold kindAt at t
  split at t
  · rename_i l
    obtain ⟨a, ea, rfl⟩ := r.refE
    split at t
    · rename_i xs qq
      obtain ⟨vs, e1, _⟩ := S.obj qq ea
      rcases t with ⟨_, e⟩ | ⟨e, _⟩ | ⟨e, _⟩
      · exact .inl ⟨e, vs, .of e1⟩
      · cases e
      · cases e
    · rename_i xs qq
      obtain ⟨vs, e1, _⟩ := S.obj qq ea
      rcases t with ⟨e, _⟩ | ⟨_, e⟩ | ⟨e, _⟩
      · cases e
      · exact .inr (.inr (.inl ⟨e, .inl ⟨vs, e1⟩⟩))
      · cases e
    · rcases t with ⟨e, _⟩ | ⟨e, _⟩ | ⟨e, _⟩ <;> cases e
  · rw [r.strE]
    rcases t with ⟨e, _⟩ | ⟨e, _⟩ | ⟨_, e⟩
    · cases e
    · cases e
    · exact e
  · rcases t with ⟨e, _⟩ | ⟨e, _⟩ | ⟨e, _⟩ <;> cases e
abbrev rMq (G : Gm) (E : XK) (q : Bq) : V → List V → Hp → VK → Prop := fun x xs H Q => ∃ as h v vs, SR G as H h ∧ RepV G as H v x ∧ RepVs G as H vs xs ∧ OkV G E as H Q (pBq q v vs h)
theorem key_rel {v : PV} {x : V} {k : Key} (e : keyOf v = some k) (r : RepV G as H v x) : x = kV k := by
  unfold keyOf at e
  split at e
  · cases e; exact r.intE
  · cases e; exact r.strE
  · cases e
theorem mt_bq (hk : X.K = G.K) (hu : X.A.units + 70 < cLine) (q : Bq) : MtR X q.id (rMq G E q) := by
  intro pins s σ H x xs v us Q I rx rs ⟨as, h, w, ws, S, r, rws, o⟩
  unfold pBq at o
  cases q with
  | lappend =>
    dsimp only at o
    split at o
    · obtain ⟨a, ea, rfl⟩ := r.refE
      obtain ⟨y, rfl, ry⟩ := rws.one
      split at o
      · rename_i qq
        split at o
        · rename_i hl
          obtain ⟨vs, e1, rl⟩ := S.lstM qq ea
          exact mt_append pins s σ H _ _ v us Q I rx rs ⟨a, vs, y, rfl, rfl, e1, by rw [← rl.length]; exact hl, okn o (S.setL ea e1 (rl.append (.cons ry .nil))) .non⟩
        · exact False.elim o
      · exact False.elim o
    · exact False.elim o
  | lpop =>
    dsimp only at o
    split at o
    · obtain ⟨a, ea, rfl⟩ := r.refE
      obtain ⟨y, rfl, ry⟩ := rws.one
      rw [ry.intE] at rs
      split at o
      · rename_i qq
        split at o
        · rename_i k qk
          split at o
          · rename_i y qy
            split at o
            · rename_i hl
              simp only [Bool.and_eq_true, decide_eq_true_eq] at hl
              obtain ⟨vs, e1, rl⟩ := S.lstM qq ea
              obtain ⟨z, ez, rz⟩ := rl.get qy
              have f := S.setL ea e1 (rl.eraseIdx k)
              exact mt_popAt pins s σ H _ _ v us Q I rx rs ⟨a, vs, _, k, z, rfl, rfl, e1, hl.1, hl.2, by rw [← rl.length]; exact qk, ez, okn o f (rz.fut f)⟩
            · exact False.elim o
          · exact False.elim o
        · exact False.elim o
      · exact False.elim o
    · obtain ⟨a, ea, rfl⟩ := r.refE
      have := rws.zero
      subst this
      split at o
      · rename_i xs0 qq
        split at o
        · rename_i y qy
          obtain ⟨vs, e1, rl⟩ := S.lstM qq ea
          obtain ⟨z, ez, rz⟩ := rl.get qy
          have rd : RepVs G as H xs0.dropLast vs.dropLast := by
            rw [List.dropLast_eq_take, List.dropLast_eq_take, rl.length]
            exact rl.take _
          have f := S.setL ea e1 rd
          exact mt_pop pins s σ H _ _ v us Q I rx rs ⟨a, vs, z, rfl, rfl, e1, by rw [← rl.length]; exact ez, okn o f (rz.fut f)⟩
        · exact False.elim o
      · exact False.elim o
    · exact False.elim o
  | lextend =>
    dsimp only at o
    split at o
    · obtain ⟨a, ea, rfl⟩ := r.refE
      obtain ⟨y, rfl, ry⟩ := rws.one
      obtain ⟨b, eb, rfl⟩ := ry.refE
      split at o
      · rename_i q1 q2
        split at o
        · rename_i hl
          obtain ⟨vs, e1, rl⟩ := S.lstM q1 ea
          obtain ⟨ws, e2, rl2⟩ := S.lstM q2 eb
          exact mt_extend pins s σ H _ _ v us Q I rx rs ⟨a, b, vs, ws, rfl, rfl, e1, e2, by rw [← rl.length, ← rl2.length]; exact hl, okn o (S.setL ea e1 (rl.append rl2)) .non⟩
        · exact False.elim o
      · exact False.elim o
    · exact False.elim o
  | lreverse =>
    dsimp only at o
    split at o
    · obtain ⟨a, ea, rfl⟩ := r.refE
      have := rws.zero
      subst this
      split at o
      · rename_i qq
        obtain ⟨vs, e1, rl⟩ := S.lstM qq ea
        exact mt_reverse pins s σ H _ _ v us Q I rx rs ⟨a, vs, rfl, rfl, e1, okn o (S.setL ea e1 rl.reverse) .non⟩
      · exact False.elim o
    · exact False.elim o
  | sisascii =>
    dsimp only at o
    split at o
    · have := rws.zero
      subst this
      rw [r.strE] at rx
      exact mt_isascii pins s σ H _ _ v us Q I rx rs ⟨_, rfl, rfl, True.intro, okv S o (.bl _)⟩
    · exact False.elim o
  | sisprintable =>
    dsimp only at o
    split at o
    · have := rws.zero
      subst this
      rw [r.strE] at rx
      exact mt_isprintable pins s σ H _ _ v us Q I rx rs ⟨_, rfl, rfl, True.intro, okv S o (.bl _)⟩
    · exact False.elim o
  | sisdigit =>
    dsimp only at o
    split at o
    · have := rws.zero
      subst this
      rw [r.strE] at rx
      exact mt_isdigit pins s σ H _ _ v us Q I rx rs ⟨_, rfl, rfl, True.intro, okv S o (.bl _)⟩
    · exact False.elim o
  | sremoveprefix =>
    dsimp only at o
    split at o
    · obtain ⟨y, rfl, ry⟩ := rws.one
      rw [r.strE] at rx
      rw [ry.strE] at rs
      split at o
      · rename_i hl
        exact mt_removeprefix pins s σ H _ _ v us Q I rx rs ⟨_, _, rfl, rfl, by rw [str_len]; exact hl, okv S o (.strO _)⟩
      · exact False.elim o
    · exact False.elim o
  | sjoin =>
    dsimp only at o
    split at o
    · obtain ⟨y, rfl, ry⟩ := rws.one
      obtain ⟨a, ea, rfl⟩ := ry.refE
      rw [r.strE] at rx
      split at o
      · rename_i ys q1
        split at o
        · rename_i zs q2
          split at o
          · rename_i hl
            obtain ⟨vs, sl, rl⟩ := S.lst q1 ea
            have e := strsOf_ok q2 rl
            subst e
            refine mt_join pins s σ H _ _ v us Q I rx rs ⟨_, a, _, rfl, rfl, .inl (by rw [hk]; exact sl), ?_, okv S o (.strO _)⟩
            rw [List.map_map, List.length_map, str_len]
            have : ((fun x : Str => x.length) ∘ fun y : List Nat => (⟨y.toArray⟩ : Str)) = fun y => y.length := by
              funext y
              exact str_len y
            rw [this]
            exact hl
          · exact False.elim o
        · exact False.elim o
      · exact False.elim o
    · exact False.elim o
  | dget =>
    dsimp only at o
    split at o
    · obtain ⟨a, ea, rfl⟩ := r.refE
      obtain ⟨y, rfl, ry⟩ := rws.one
      split at o
      · rename_i kvs k q1 q2
        obtain ⟨ks, ed, rk⟩ := S.dic q1 ea
        have ey := key_rel q2 ry
        subst ey
        obtain ⟨u, rfl, ru⟩ := vals1 rs
        obtain rfl : v = Value.ref a := rx
        refine d_get1 (by omega) I (DGet.k (k := k) ed) ru fun w' s' I' rw' => ⟨_, H, I', rw', ?_⟩
        obtain ⟨c1, c2⟩ := dLook_ok k rk
        cases qd : dLook kvs k with
        | none => rw [qd] at o; rw [c2 qd]; exact okv S o .non
        | some z => rw [qd] at o; obtain ⟨z', ez, rz⟩ := c1 z qd; rw [ez]; exact okv S o rz
      · exact False.elim o
    · obtain ⟨a, ea, rfl⟩ := r.refE
      obtain ⟨y, d, rfl, ry, rd⟩ := rws.two
      split at o
      · rename_i kvs k q1 q2
        obtain ⟨ks, ed, rk⟩ := S.dic q1 ea
        have ey := key_rel q2 ry
        subst ey
        obtain ⟨u, u2, rfl, ru, ru2⟩ := vals2 rs
        obtain rfl : v = Value.ref a := rx
        refine d_get2 (by omega) I (DGet.k (k := k) ed) ru ru2 fun w' s' I' rw' => ⟨_, H, I', rw', ?_⟩
        obtain ⟨c1, c2⟩ := dLook_ok k rk
        cases qd : dLook kvs k with
        | none => rw [qd] at o; rw [c2 qd]; exact okv S o rd
        | some z => rw [qd] at o; obtain ⟨z', ez, rz⟩ := c1 z qd; rw [ez]; exact okv S o rz
      · exact False.elim o
    · exact False.elim o
  | dpop =>
    dsimp only at o
    split at o
    · obtain ⟨a, ea, rfl⟩ := r.refE
      obtain ⟨y, rfl, ry⟩ := rws.one
      split at o
      · rename_i kvs k q1 q2
        split at o
        · rename_i z qd
          obtain ⟨ks, ed, rk⟩ := S.dic q1 ea
          have ey := key_rel q2 ry
          subst ey
          obtain ⟨u, rfl, ru⟩ := vals1 rs
          obtain rfl : v = Value.ref a := rx
          obtain ⟨z', ez, rz⟩ := (dLook_ok k rk).1 z qd
          have f := S.setD ea ed (dDrop_ok (k := k) rk)
          exact d_pop I ed ru ez (.inl rfl) fun w' s' I' rw' => ⟨_, _, I', rw', okn o f (rz.fut f)⟩
        · exact False.elim o
      · exact False.elim o
    · exact False.elim o
  | _ => exact False.elim o
theorem atI_ok {xs : List PV} {vs : List V} {i : Int} {x : PV} (r : RepVs G as H xs vs) (e : atI xs i = some x) : ∃ v, atI vs i = some v ∧ RepV G as H x v := by
  unfold atI at e ⊢
  rw [← r.length]
  obtain ⟨j, e1, e2⟩ := Option.bind_eq_some_iff.mp e
  obtain ⟨v, e3, rv⟩ := r.get e2
  exact ⟨v, by rw [e1]; exact e3, rv⟩
theorem ixd {value slice : Expr} {pins : List (Addr × Obj)} {s : Shared} {σ : L2.St} {a : Addr} {ks : List (Key × V)} {k : Key} {u : Value} {z : V} {Q : VK} (I : Inv X pins σ H s) (ed : H a = some (.dK ks)) (ry : RelV (kV k) u) (ez : valV ks k = some z)
    (hs : subscripted slice false (.ref a) u = operate [.ref a, u] (getItem (.ref a) u)) (hu : X.A.units + 1 < cLine) (q : Q z H) : wpAny (model X.prog X.w) X.A (subscriptTail value slice (.ref a) u) (EP X pins σ Q) X.xe s := by
  have g : DGet H a (kV k) (some z) := by rw [← ez]; exact DGet.k ed
  exact tail_any (dict_typeIs I g) PySem.F.slot_dict_getitem.lookup (d_getItem hu I g ry fun w' s3 I3 rw' => ⟨z, H, I3, rw', q⟩) hs
theorem op_ix (hk : X.K = G.K) (hu : X.A.units + 70 < cLine) : IxR X (rP2 G E pIx) := by
  intro value slice pins s σ H x y v u Q I rx ry ⟨as, h, va, vb, S, ra, rb, o⟩ hs
  unfold pIx at o
  split at o
  · split at o
    · rename_i q
      obtain ⟨a, vs, rfl, sa, r⟩ := ra.tupE
      obtain ⟨z, ez, rz⟩ := atI_ok r q
      rw [rb.intE] at ry
      exact ix_tup value slice pins s σ H _ _ v u Q I rx ry ⟨a, vs, _, z, rfl, rfl, by rw [hk]; exact sa, ez, okv S o rz⟩ hs
    · exact False.elim o
  · obtain ⟨a, ea, rfl⟩ := ra.refE
    rw [rb.intE] at ry
    split at o
    · rename_i ql
      split at o
      · rename_i q
        obtain ⟨vs, sl, r⟩ := S.lst (lstAt_of ql) ea
        obtain ⟨z, ez, rz⟩ := atI_ok r q
        exact ix_list value slice pins s σ H _ _ v u Q I rx ry ⟨a, vs, _, z, rfl, rfl, by rw [hk]; exact sl, ez, okv S o rz⟩ hs
      · exact False.elim o
    · rename_i ql
      split at o
      · rename_i q
        obtain ⟨vs, sl, r⟩ := S.lst (lstAt_frz ql) ea
        obtain ⟨z, ez, rz⟩ := atI_ok r q
        exact ix_list value slice pins s σ H _ _ v u Q I rx ry ⟨a, vs, _, z, rfl, rfl, by rw [hk]; exact sl, ez, okv S o rz⟩ hs
      · exact False.elim o
    · rename_i ql
      split at o
      · rename_i q
        obtain ⟨ks, ed, rk⟩ := S.dic ql ea
        obtain ⟨z, ez, rz⟩ := (dLook_ok _ rk).1 _ q
        obtain rfl : v = Value.ref a := rx
        exact ixd I ed (k := .inl _) ry ez hs (by omega) (okv S o rz)
      · exact False.elim o
    · exact False.elim o
  · obtain ⟨a, ea, rfl⟩ := ra.refE
    rw [rb.strE] at ry
    split at o
    · rename_i ql
      split at o
      · rename_i q
        obtain ⟨ks, ed, rk⟩ := S.dic ql ea
        obtain ⟨z, ez, rz⟩ := (dLook_ok _ rk).1 _ q
        obtain rfl : v = Value.ref a := rx
        exact ixd I ed (k := .inr _) ry ez hs (by omega) (okv S o rz)
      · exact False.elim o
    · exact False.elim o
  · split at o
    · rename_i q
      obtain ⟨a, vs, rfl, sf, r⟩ := ra.frkE
      rw [rb.intE] at ry
      obtain ⟨z, ez, rz⟩ := atI_ok r q
      exact ix_list value slice pins s σ H _ _ v u Q I rx ry ⟨a, vs, _, z, rfl, rfl, by rw [hk]; exact sf.sq, ez, okv S o rz⟩ hs
    · exact False.elim o
  · split at o
    · rename_i hl
      split at o
      · rename_i q
        rw [ra.strE] at rx
        rw [rb.intE] at ry
        exact ix_str value slice pins s σ H _ _ v u Q I rx ry ⟨_, _, _, rfl, rfl, by rw [str_len]; exact hl, by simpa using q, okv S o (.str _)⟩ hs
      · exact False.elim o
    · exact False.elim o
  · exact False.elim o
theorem cut_ok {xs : List PV} {vs : List V} (r : RepVs G as H xs vs) (lo hi : Option Int) : RepVs G as H (cut xs lo hi) (cutV vs lo hi) := by
  unfold cut cutV
  rw [r.length]
  exact (r.drop _).take _
theorem cut_str (x : List Nat) (lo hi : Option Int) : cutS ⟨x.toArray⟩ lo hi = ⟨(cut x lo hi).toArray⟩ := by
  unfold cutS cut
  rw [str_len]
abbrev rSp (G : Gm) (E : XK) : V → Option Int → Option Int → Hp → VK → Prop := fun x lo hi H Q => ∃ as h v, SR G as H h ∧ RepV G as H v x ∧ OkV G E as H Q (pSl v lo hi h)
theorem sl_all (hk : X.K = G.K) : SlR X (rSp G E) := by
  intro pins s σ H x v vl vu lo hi sl Q I rx hs pl pu ⟨as, h, va, S, ra, o⟩
  unfold pSl at o
  split at o
  · rename_i xs
    obtain ⟨a, vs, rfl, sa, r⟩ := ra.tupE
    refine sl_tupA pins s σ H _ v vl vu lo hi sl Q I rx hs pl pu ⟨a, vs, rfl, by rw [hk]; exact sa, fun hw => ?_, fun hw p hp => ?_⟩
    · have ew : cut xs lo hi = xs := by
        unfold cut
        rw [r.length, hw.1, hw.2, List.drop_zero, Nat.sub_zero, ← r.length, List.take_length]
      rw [ew] at o
      exact okv S o ra
    · obtain ⟨f, rr⟩ := S.tup hp (cut_ok r lo hi)
      exact okn o f rr
  · split at o
    · rename_i hl
      rw [ra.strE] at rx
      refine sl_str pins s σ H _ v vl vu lo hi sl Q I rx hs pl pu ⟨_, rfl, by rw [str_len]; exact hl, ?_⟩
      rw [cut_str]
      exact okv S o (.str _)
    · exact False.elim o
  · obtain ⟨a, ea, rfl⟩ := ra.refE
    split at o
    · rename_i q
      obtain ⟨vs, sq, r⟩ := S.lst q ea
      refine sl_list pins s σ H _ v vl vu lo hi sl Q I rx hs pl pu ⟨a, vs, rfl, by rw [hk]; exact sq, fun p hp => ?_⟩
      obtain ⟨f, rr⟩ := S.newL hp (cut_ok r lo hi)
      exact okn o f rr
    · exact False.elim o
  · exact False.elim o
theorem tru_p (hk : X.K = G.K) (S : SR G as H h) {v : PV} {x : V} {b : Bool} (e : pTru h v = some b) (r : RepV G as H v x) : TruV X.K x H b := by
  unfold pTru at e
  split at e
  · cases e; rw [r.nonE]; rfl
  · cases e; rw [r.blE]; rfl
  · cases e; rw [r.intE]; rfl
  · split at e
    · rename_i y hl
      cases e
      rw [r.strE]
      refine ⟨by rw [str_len]; exact hl, ?_⟩
      rw [str_len]
      cases y <;> simp
      omega
    · cases e
  · rename_i xs
    cases e
    obtain ⟨a, vs, rfl, sa, rv⟩ := r.tupE
    exact .inr (.inl ⟨vs, by rw [hk]; exact sa, by
      cases xs with
      | nil => rw [rv.zero]; rfl
      | cons y ys => unfold RepVs at rv; obtain ⟨w, rest, rfl, _⟩ := rv; rfl⟩)
  · obtain ⟨a, ea, rfl⟩ := r.refE
    have fin : ∀ {xs : List PV} {vs : List V}, RepVs G as H xs vs → (!xs.isEmpty) = !vs.isEmpty := fun {xs vs} rv => by
      cases xs with
      | nil => rw [rv.zero]; rfl
      | cons y ys => unfold RepVs at rv; obtain ⟨w, rest, rfl, _⟩ := rv; rfl
    split at e
    · rename_i q
      cases e
      obtain ⟨vs, sl, rv⟩ := S.lst (lstAt_of q) ea
      exact .inl ⟨vs, by rw [hk]; exact sl, fin rv⟩
    · rename_i q
      cases e
      obtain ⟨vs, sl, rv⟩ := S.lst (lstAt_frz q) ea
      exact .inl ⟨vs, by rw [hk]; exact sl, fin rv⟩
    · rename_i kvs q
      cases e
      obtain ⟨ks, ed, rk⟩ := S.dic q ea
      refine .inr (.inr ⟨ks, ed, ?_⟩)
      cases kvs with
      | nil => unfold RepK at rk; subst rk; rfl
      | cons y ys => obtain ⟨k, z⟩ := y; unfold RepK at rk; obtain ⟨w, rest, rfl, _⟩ := rk; rfl
    · cases e
  · cases e
end
end Mn
set_option Elab.async false
set_option linter.all false
set_option maxRecDepth 100000
set_option maxHeartbeats 4000000
namespace Mn
open PySem PySem.Spec L2 PyProof.Rows
structure Nm where
  gn : List Str
  an : List Str
structure Fx where
  N : List Str
  names : List (Str × NameKind)
  st : List Str
def Bi.nm : Bi → Str
  | .len => "len" | .abs => "abs" | .max => "max" | .min => "min" | .int => "int" | .str => "str" | .bool => "bool" | .list => "list" | .tuple => "tuple" | .sorted => "sorted" | .sum => "sum" | .any => "any" | .all => "all"
  | .ord => "ord" | .isinst => "isinstance" | .repr => "repr" | .dict => "dict"
theorem bi_boot (f : Bi) : bootBuiltins f.nm = some f.py := by cases f <;> decide +kernel
section
variable (G : Gm) (T : Tb) (nm : Nm) (call : Nat → List PV → PH → Res PV)
def RelG (v : PV) (u : Value) : Prop := ∃ x, RelV x u ∧ ∀ as H, RepV G as H v x
def spF (f np : Nat) : Sp := fun vs H Q E => vs.length = np ∧ ∃ as h xs, SR G as H h ∧ RepVs G as H xs vs ∧ OkV G E as H Q (call f xs h)
structure XOk (fx : Fx) (X : Cx) (E : XK) : Prop where
  K : X.K = G.K
  calm : X.calm = true
  hu : X.A.units + 70 < cLine
  N : X.N = fx.N
  nd : X.N.Nodup
  names : X.env.scope.names = fx.names
  gl : ∀ (g : Nat) (x : Str) (v : PV), nm.gn[g]? = some x → T.glob[g]? = some v → ∃ u, X.mg x = some u ∧ RelG G v u
  bl : ∀ f : Bi, X.mg f.nm = none
  st : ∀ x ∈ fx.st, Loc X.env.scope x ∧ (X.fn x = true ∨ X.env.scope.names.lookup x = some .local)
  rng : X.mg "range" = none
  enm : X.mg "enumerate" = none
  zp : X.mg "zip" = none
  rvs : X.mg "reversed" = none
  cls : COk G T
  kind : X.env.scope.kind = .function
  pass : Passes (L2.CX X.prog X.w) X E
  fns : ∀ (g : Nat) (x : Str) (f : Nat), nm.gn[g]? = some x → T.glob[g]? = some (.fn f) → ∃ (k : Nat) (fd : FuncData) (ps : List Str), FnOk X.prog X.w X.K X.mg X.base (L2.CX X.prog X.w) k (G.fa f) fd ps (spF G call f ps.length) ∧ Room k X.A ∧ PySem.W.keepIn X.K (.ref (G.fa f)) = true ∧ Binds X.K fd ps [] ∧ X.mg x = some (.ref (G.fa f)) ∧ ∀ xs h, xs.length ≠ ps.length → call f xs h = .stuck
end
def visB (names : List (Str × NameKind)) (x : Str) : Bool := match names.lookup x with
  | some .local => true
  | some .cell => true
  | some .free => true
  | _ => false
def glB (names : List (Str × NameKind)) (x : Str) : Bool := match names.lookup x with
  | some .globalImplicit => true
  | _ => false
def plainName (x : Str) : Bool := !(x == ("__debug__" : Str)) && !(x == ("__classdict__" : Str)) && decide (x ≠ "__name__")
def isStar : Expr → Bool
  | .Starred .. => true
  | _ => false
def isSlice : Expr → Bool
  | .Slice .. => true
  | _ => false
def conOk : PV → Const → Bool
  | .non, .none => true
  | .bl b, .bool c => b == c
  | .int i, .int j => decide (i = j)
  | .str x, .str y => decide (x = y.cps.toList)
  | _, _ => false
def opB : Bop → Operator → Bool
  | .add, .Add | .sub, .Sub | .mul, .Mult | .fdiv, .FloorDiv | .mod, .Mod | .pow, .Pow | .band, .BitAnd | .bor, .BitOr | .bxor, .BitXor | .shl, .LShift | .shr, .RShift => true
  | _, _ => false
theorem opB_ok {a : Bop} {b : Operator} (h : opB a b = true) : b = a.py := by cases a <;> cases b <;> first | rfl | cases h
def cpB : Cop → CmpOp → Bool
  | .eq, .Eq | .ne, .NotEq | .lt, .Lt | .le, .LtE | .gt, .Gt | .ge, .GtE | .is_, .Is | .isn, .IsNot | .in_, .In | .nin, .NotIn => true
  | _, _ => false
theorem cpB_ok {a : Cop} {b : CmpOp} (h : cpB a b = true) : b = a.py := by cases a <;> cases b <;> first | rfl | cases h
def noSet : Expr → Bool
  | .Set .. => false
  | _ => true
theorem noSet_ok {e : Expr} {op : CmpOp} (h : noSet e = true) : behindInMarks op e = false := by cases e <;> first | rfl | cases h
section
variable (nm : Nm)
mutual
def chkE (fx : Fx) : Ex → Expr → Bool
  | .var i, .Name x _ => decide (fx.N[i]? = some x) && visB fx.names x && plainName x
  | .con v, .Constant c _ _ => conOk v c
  | .glob g, .Name x _ => decide (nm.gn[g]? = some x) && glB fx.names x && plainName x
  | .bin op a b, .BinOp x o y _ => opB op o && chkE fx a x && chkE fx b y
  | .neg a, .UnaryOp .USub x _ => chkE fx a x
  | .not a, .UnaryOp .Not x _ => chkE fx a x
  | .and a b, .BoolOp .And (x :: y :: r) p => chkE fx a x && (match r with
      | [] => chkE fx b y
      | _ :: _ => chkE fx b (.BoolOp .And (y :: r) p))
  | .or a b, .BoolOp .Or (x :: y :: r) p => chkE fx a x && (match r with
      | [] => chkE fx b y
      | _ :: _ => chkE fx b (.BoolOp .Or (y :: r) p))
  | .cmp op a b, .Compare x [o] [y] _ => cpB op o && noSet y && chkE fx a x && chkE fx b y
  | .chn o1 o2 a b c, .Compare x [p1, p2] [y, z] _ => cpB o1 p1 && cpB o2 p2 && noSet y && noSet z && chkE fx a x && chkE fx b y && chkE fx c z
  | .ife c a b, .IfExp z x y _ => chkE fx c z && chkE fx a x && chkE fx b y
  | .tup es, .Tuple xs _ _ => chkEs fx es xs
  | .lst es, .List xs _ => chkEs fx es xs
  | .ix o i, .Subscript x y _ => !isSlice y && chkE fx o x && chkE fx i y
  | .sl o lo hi, .Subscript x (.Slice l u none _) _ => chkE fx o x && (match l with
      | none => isNop lo
      | some e => !isNop lo && chkE fx lo e) && (match u with
      | none => isNop hi
      | some e => !isNop hi && chkE fx hi e)
  | .call g es, .Call (.Name x _) xs [] _ => decide (nm.gn[g]? = some x) && glB fx.names x && plainName x && chkEs fx es xs
  | .bi f es, .Call (.Name x _) xs [] _ => decide (x = f.nm) && glB fx.names x && chkEs fx es xs && !es.isEmpty
  | _, _ => false
def chkEs (fx : Fx) : List Ex → List Expr → Bool
  | [], [] => true
  | e :: es, x :: xs => chkE fx e x && chkEs fx es xs
  | _, _ => false
end
end
section
variable (G : Gm) (E : XK)
def tE (ev : PEnv → PH → Res PV) : TE := fun σ H Q => ∃ as ρ h, SR G as H h ∧ RepE G as H ρ σ ∧ OkV G E as H Q (ev ρ h)
def tT (ev : PEnv → PH → Res Bool) : TT := fun σ H Q => ∃ as ρ h, SR G as H h ∧ RepE G as H ρ σ ∧ OkB G E as H Q (ev ρ h)
def tA (ev : PEnv → PH → Res (List PV)) : TA := fun σ H Q => ∃ as ρ h, SR G as H h ∧ RepE G as H ρ σ ∧ OkA G E as H Q (ev ρ h)
def tO (ev : PEnv → PH → Res (Option Int)) : TO := fun σ H Q => ∃ as ρ h, SR G as H h ∧ RepE G as H ρ σ ∧ Ok G E as H (fun _ _ a b => b = a) Q (ev ρ h)
end
theorem _root_.L2.PE.imp {X : Cx} {e : Expr} {t t' : TE} (p : PE X e t) (h : ∀ σ H Q, t' σ H Q → t σ H Q) : PE X e t' := ⟨fun pins s σ H Q I q => p.run pins s σ H Q I (h σ H Q q)⟩
theorem _root_.L2.PT.imp {X : Cx} {e : Expr} {t t' : TT} (p : PT X e t) (h : ∀ σ H Q, t' σ H Q → t σ H Q) : PT X e t' := ⟨fun pins s σ H Q I q => p.run pins s σ H Q I (h σ H Q q)⟩
theorem _root_.L2.PA.imp {X : Cx} {e : List Expr} {t t' : TA} (p : PA X e t) (h : ∀ σ H Q, t' σ H Q → t σ H Q) : PA X e t' := ⟨fun pos pins s σ H Q I q => p.run pos pins s σ H Q I (h σ H Q q)⟩
section
variable {G : Gm} {T : Tb} {nm : Nm} {call : Nat → List PV → PH → Res PV} {fx : Fx} {X : Cx} {E : XK}
theorem plain_ok {x : Str} (h : plainName x = true) : (x == ("__debug__" : Str)) = false ∧ (x == ("__classdict__" : Str)) = false ∧ x ≠ "__name__" := by
  unfold plainName at h
  simp only [Bool.and_eq_true, Bool.not_eq_true', decide_eq_true_eq] at h
  exact ⟨h.1.1, h.1.2, h.2⟩
theorem vis_ok (O : XOk G T nm call fx X E) {x : Str} (h : visB fx.names x = true) : Vis X.env.scope x := by
  unfold visB at h
  unfold Vis
  rw [O.names]
  split at h
  · rename_i q; exact .inl q
  · rename_i q; exact .inr (.inl q)
  · rename_i q; exact .inr (.inr q)
  · cases h
theorem gl_ok (O : XOk G T nm call fx X E) {x : Str} (h : glB fx.names x = true) : Gl X x := by
  unfold glB at h
  unfold Gl Env.kindOf
  rw [O.names]
  split at h
  · rename_i q; exact q
  · cases h
theorem okE_var (O : XOk G T nm call fx X E) {i : Nat} {x : Str} {p : Pos} (h : chkE nm fx (.var i) (.Name x p) = true) : PE X (.Name x p) (tE G E (evE T call (.var i))) := by
  simp only [chkE, Bool.and_eq_true, decide_eq_true_eq] at h
  obtain ⟨⟨h1, h2⟩, h3⟩ := h
  obtain ⟨p1, p2, p3⟩ := plain_ok h3
  refine (pe_var (i := i) (by rw [O.N]; exact h1) (vis_ok O h2) p1 p2).imp fun σ H Q ⟨as, ρ, h, S, R, o⟩ => ?_
  simp only [evE] at o
  split at o
  · rename_i v q
    obtain ⟨v', e, r⟩ := R.2 i v q
    exact ⟨v', e, okv S o r⟩
  · exact False.elim o
theorem okE_con {v : PV} {c : Const} {j : Nat} {p : Pos} (h : conOk v c = true) : PE X (.Constant c j p) (tE G E (evE T call (.con v))) := by
  cases v with
  | non => cases c <;> first | exact pe_non.imp fun σ H Q ⟨as, ρ, h, S, R, o⟩ => okv S o .non | cases h
  | bl b =>
    cases c with
    | bool b' =>
      have e : b = b' := by simpa [conOk] using h
      subst e
      exact pe_bl.imp fun σ H Q ⟨as, ρ, h, S, R, o⟩ => okv S o (.bl _)
    | _ => cases h
  | int b =>
    cases c with
    | int b' =>
      have e : b = b' := by simpa [conOk] using h
      subst e
      exact pe_int.imp fun σ H Q ⟨as, ρ, h, S, R, o⟩ => okv S o (.int _)
    | _ => cases h
  | str b =>
    cases c with
    | str b' =>
      have e : b = b'.cps.toList := by simpa [conOk] using h
      subst e
      exact pe_str.imp fun σ H Q ⟨as, ρ, h, S, R, o⟩ => okv S o (.strO _)
    | _ => cases h
  | _ => cases c <;> cases h
def btyB (names : List (Str × NameKind)) (f : Bi) (x : Str) : Bool := decide (x = f.nm) && glB names x && f.tyn.isSome
theorem bi_dbg' (f : Bi) : (f.nm == ("__debug__" : Str)) = false := by cases f <;> decide +kernel
theorem bi_name' (f : Bi) : f.nm ≠ "__name__" := by cases f <;> decide +kernel
theorem bi_tyn {f : Bi} {n : String} (h : f.tyn = some n) : bootBuiltins f.nm = some (.type n) := by
  rw [bi_boot]
  cases f <;> cases h <;> rfl
theorem okE_bty (O : XOk G T nm call fx X E) {f : Bi} {x : Str} {p : Pos} (h : btyB fx.names f x = true) : PE X (.Name x p) (tE G E (evE T call (.bty f))) := by
  unfold btyB at h
  simp only [Bool.and_eq_true, decide_eq_true_eq] at h
  obtain ⟨⟨rfl, h2⟩, h3⟩ := h
  refine ⟨fun pins s σ H Q I ⟨as, ρ, h, S, R, o⟩ => ?_⟩
  simp only [evE] at o
  split at o
  · rename_i n q
    refine ld_blt I (gl_ok O h2) (O.bl f) (bi_tyn q) ?_ (bi_name' f) (bi_dbg' f)
    exact ⟨.ty n, H, I, rfl, okv S o (by unfold RepV; rfl)⟩
  · exact False.elim o
theorem okE_glob (O : XOk G T nm call fx X E) {g : Nat} {x : Str} {p : Pos} (h : chkE nm fx (.glob g) (.Name x p) = true) : PE X (.Name x p) (tE G E (evE T call (.glob g))) := by
  simp only [chkE, Bool.and_eq_true, decide_eq_true_eq] at h
  obtain ⟨⟨h1, h2⟩, h3⟩ := h
  obtain ⟨p1, p2, p3⟩ := plain_ok h3
  cases q : T.glob[g]? with
  | none =>
    exact ⟨fun pins s σ H Q I ⟨as, ρ, h, S, R, o⟩ => by simp only [evE, q] at o; exact False.elim o⟩
  | some v =>
    obtain ⟨u, e, y, ry, rep⟩ := O.gl g x v h1 q
    refine (pe_glob (gl_ok O h2) e ry p1).imp fun σ H Q ⟨as, ρ, h, S, R, o⟩ => ?_
    simp only [evE, q] at o
    exact okv S o (rep _ _)
theorem two_parts {a b : PEnv → PH → Res PV} {pr : PV → PV → PH → Res PV} {σ : L2.St} {H : Hp} {Q : VK} {r : R2} (hr : ∀ x y H Q, rP2 G E pr x y H Q → r x y H Q)
    (q : tE G E (fun ρ h => (a ρ h).bind fun v h1 => (b ρ h1).bind fun w h2 => pr v w h2) σ H Q) : tOp r (tE G E a) (tE G E b) σ H Q := by
  obtain ⟨as, ρ, h, S, R, o⟩ := q
  refine ⟨as, ρ, h, S, R, Ok.bind o fun v h1 as1 H1 v' f1 r1 o1 => ?_⟩
  refine ⟨as1, ρ, h1, f1.sr, R.fut f1, Ok.bind o1 fun w h2 as2 H2 w' f2 r2 o2 => ?_⟩
  exact hr _ _ _ _ ⟨as2, h2, v, w, f2.sr, r1.fut f2, r2, o2⟩
theorem okE_bin (O : XOk G T nm call fx X E) {op : Bop} {a b : Ex} {x y : Expr} {p : Pos} (ha : PE X x (tE G E (evE T call a))) (hb : PE X y (tE G E (evE T call b))) : PE X (.BinOp x op.py y p) (tE G E (evE T call (.bin op a b))) := by
  refine (pe_op (op_bin (E := E) O.K op) ha hb).imp fun σ H Q q => ?_
  refine two_parts (fun _ _ _ _ h => h) ?_
  simpa only [tE, evE] using q
theorem okE_cmp (O : XOk G T nm call fx X E) {op : Cop} {a b : Ex} {x y : Expr} {p : Pos} (hm : noSet y = true) (ha : PE X x (tE G E (evE T call a))) (hb : PE X y (tE G E (evE T call b))) : PE X (.Compare x [op.py] [y] p) (tE G E (evE T call (.cmp op a b))) := by
  refine (pe_cmpR (op_cmp (E := E) O.K O.hu op) ha hb (noSet_ok hm)).imp fun σ H Q q => ?_
  refine two_parts (fun _ _ _ _ h => h) ?_
  simpa only [tE, evE] using q
theorem okE_ix (O : XOk G T nm call fx X E) {a b : Ex} {x y : Expr} {p : Pos} (hy : isSlice y = false) (ha : PE X x (tE G E (evE T call a))) (hb : PE X y (tE G E (evE T call b))) : PE X (.Subscript x y p) (tE G E (evE T call (.ix a b))) := by
  have hs : PlainIx y := fun o i => by cases y <;> first | rfl | cases hy
  refine (pe_ix (op_ix (E := E) O.K O.hu) ha hb hs).imp fun σ H Q q => ?_
  refine two_parts (fun _ _ _ _ h => h) ?_
  simpa only [tE, evE] using q
theorem okE_neg {a : Ex} {x : Expr} {p : Pos} (ha : PE X x (tE G E (evE T call a))) : PE X (.UnaryOp .USub x p) (tE G E (evE T call (.neg a))) := by
  refine (pe_un un_neg ha).imp fun σ H Q ⟨as, ρ, h, S, R, o⟩ => ?_
  simp only [evE] at o
  refine ⟨as, ρ, h, S, R, Ok.bind o fun v h1 as1 H1 v' f1 r1 o1 => ?_⟩
  cases v with
  | int i => rw [r1.intE]; exact ⟨i, rfl, okv f1.sr o1 (.int _)⟩
  | _ => exact False.elim o1
theorem okT_of (O : XOk G T nm call fx X E) {a : Ex} {x : Expr} (ha : PE X x (tE G E (evE T call a))) (he : ∀ whole, isTrue x X.env whole = (do let v ← whole; standAt x.pos; holding [v] (truthy v))) : PT X x (tT G E (evT T call a)) := by
  refine (pt_truth ha he).imp fun σ H Q ⟨as, ρ, h, S, R, o⟩ => ?_
  simp only [evT] at o
  refine ⟨as, ρ, h, S, R, Ok.bind o fun v h1 as1 H1 v' f1 r1 o1 => ?_⟩
  split at o1
  · rename_i b q
    exact ⟨b, tru_p O.K f1.sr q r1, o1 as1 H1 b (Fut.refl f1.sr) rfl⟩
  · exact False.elim o1
end
end Mn
set_option Elab.async false
set_option linter.all false
set_option maxRecDepth 100000
set_option maxHeartbeats 4000000
namespace Mn
open PySem PySem.Spec L2 PyProof.Rows
theorem Res.bind_assoc {α β γ : Type} (r : Res α) (k : α → PH → Res β) (l : β → PH → Res γ) : (r.bind k).bind l = r.bind fun a h => (k a h).bind l := by
  induction r with
  | ok a h => rfl
  | er x h => rfl
  | stuck => rfl
  | all n f ih => simp only [Res.bind_all, ih]
theorem pCmp_form (op : Cop) (v w : PV) (h : PH) : pCmp op v w h = .stuck ∨ ∃ b, pCmp op v w h = .ok (.bl b) h := by
  have obf : ∀ b : Option Bool, ob b h = .stuck ∨ ∃ c, ob b h = .ok (.bl c) h := fun b => by
    cases b with
    | none => exact .inl rfl
    | some c => exact .inr ⟨c, rfl⟩
  unfold pCmp
  cases op <;> dsimp only <;> first
    | exact obf _
    | (split <;> first | exact .inl rfl | exact .inr ⟨_, rfl⟩)
section
variable {G : Gm} {T : Tb} {nm : Nm} {call : Nat → List PV → PH → Res PV} {fx : Fx} {X : Cx} {E : XK}
theorem evT_not (a : Ex) (ρ : PEnv) (h : PH) : evT T call (.not a) ρ h = (evT T call a ρ h).bind fun b h1 => .ok (!b) h1 := by
  simp only [evT, evE, Res.bind_assoc]
  congr 1
  funext v h1
  cases e : pTru h1 v with
  | none => rfl
  | some b => rfl
theorem evT_and (a b : Ex) (ρ : PEnv) (h : PH) : evT T call (.and a b) ρ h = (evT T call a ρ h).bind fun t h1 => if t then evT T call b ρ h1 else .ok false h1 := by
  simp only [evT, evE, Res.bind_assoc]
  congr 1
  funext v h1
  cases e : pTru h1 v with
  | none => rfl
  | some t =>
    cases t with
    | true => rfl
    | false => simp only [Res.bind_ok, e]; rfl
theorem evT_or (a b : Ex) (ρ : PEnv) (h : PH) : evT T call (.or a b) ρ h = (evT T call a ρ h).bind fun t h1 => if t then .ok true h1 else evT T call b ρ h1 := by
  simp only [evT, evE, Res.bind_assoc]
  congr 1
  funext v h1
  cases e : pTru h1 v with
  | none => rfl
  | some t =>
    cases t with
    | false => rfl
    | true => simp only [Res.bind_ok, e]; rfl
theorem okT_not {a : Ex} {x : Expr} {p : Pos} (ha : PT X x (tT G E (evT T call a))) : PT X (.UnaryOp .Not x p) (tT G E (evT T call (.not a))) := by
  refine (pt_not ha).imp fun σ H Q ⟨as, ρ, h, S, R, o⟩ => ?_
  rw [evT_not] at o
  refine ⟨as, ρ, h, S, R, Ok.bind o fun b h1 as1 H1 b' f1 e o1 => ?_⟩
  subst e
  exact o1 as1 H1 _ (Fut.refl f1.sr) rfl
theorem okT_and {a b : Ex} {x y : Expr} {r : List Expr} {p : Pos} (ha : PT X x (tT G E (evT T call a))) (hb : PW X (.BoolOp .And (y :: r) p) (tT G E (evT T call b))) : PW X (.BoolOp .And (x :: y :: r) p) (tT G E (evT T call (.and a b))) := by
  refine ⟨fun whole pins s σ H Q I ⟨as, ρ, h, S, R, o⟩ => (pw_and ha hb).run whole pins s σ H Q I ?_⟩
  rw [evT_and] at o
  refine ⟨as, ρ, h, S, R, Ok.bind o fun b h1 as1 H1 b' f1 e o1 => ?_⟩
  subst e
  cases b with
  | true => exact ⟨as1, ρ, h1, f1.sr, R.fut f1, o1⟩
  | false => exact o1 as1 H1 _ (Fut.refl f1.sr) rfl
theorem okT_or {a b : Ex} {x y : Expr} {r : List Expr} {p : Pos} (ha : PT X x (tT G E (evT T call a))) (hb : PW X (.BoolOp .Or (y :: r) p) (tT G E (evT T call b))) : PW X (.BoolOp .Or (x :: y :: r) p) (tT G E (evT T call (.or a b))) := by
  refine ⟨fun whole pins s σ H Q I ⟨as, ρ, h, S, R, o⟩ => (pw_or ha hb).run whole pins s σ H Q I ?_⟩
  rw [evT_or] at o
  refine ⟨as, ρ, h, S, R, Ok.bind o fun b h1 as1 H1 b' f1 e o1 => ?_⟩
  subst e
  cases b with
  | false => exact ⟨as1, ρ, h1, f1.sr, R.fut f1, o1⟩
  | true => exact o1 as1 H1 _ (Fut.refl f1.sr) rfl
theorem okE_not (O : XOk G T nm call fx X E) {a : Ex} {x : Expr} {p : Pos} (ha : PE X x (tE G E (evE T call a))) : PE X (.UnaryOp .Not x p) (tE G E (evE T call (.not a))) := by
  refine (pe_notT ha).imp fun σ H Q ⟨as, ρ, h, S, R, o⟩ => ?_
  simp only [evE] at o
  refine ⟨as, ρ, h, S, R, Ok.bind o fun v h1 as1 H1 v' f1 r1 o1 => ?_⟩
  split at o1
  · rename_i b q
    exact ⟨b, tru_p O.K f1.sr q r1, okv f1.sr o1 (.bl _)⟩
  · exact False.elim o1
theorem okE_and (O : XOk G T nm call fx X E) {a b : Ex} {x y : Expr} {r : List Expr} {p : Pos} (ha : PE X x (tE G E (evE T call a))) (hb : PE X (.BoolOp .And (y :: r) p) (tE G E (evE T call b))) : PE X (.BoolOp .And (x :: y :: r) p) (tE G E (evE T call (.and a b))) := by
  refine (pe_andT ha hb).imp fun σ H Q ⟨as, ρ, h, S, R, o⟩ => ?_
  simp only [evE] at o
  refine ⟨as, ρ, h, S, R, Ok.bind o fun v h1 as1 H1 v' f1 r1 o1 => ?_⟩
  split at o1
  · rename_i q
    exact ⟨true, tru_p O.K f1.sr q r1, ⟨as1, ρ, h1, f1.sr, R.fut f1, o1⟩⟩
  · rename_i q
    exact ⟨false, tru_p O.K f1.sr q r1, okv f1.sr o1 r1⟩
  · exact False.elim o1
theorem okE_or (O : XOk G T nm call fx X E) {a b : Ex} {x y : Expr} {r : List Expr} {p : Pos} (ha : PE X x (tE G E (evE T call a))) (hb : PE X (.BoolOp .Or (y :: r) p) (tE G E (evE T call b))) : PE X (.BoolOp .Or (x :: y :: r) p) (tE G E (evE T call (.or a b))) := by
  refine (pe_orT ha hb).imp fun σ H Q ⟨as, ρ, h, S, R, o⟩ => ?_
  simp only [evE] at o
  refine ⟨as, ρ, h, S, R, Ok.bind o fun v h1 as1 H1 v' f1 r1 o1 => ?_⟩
  split at o1
  · rename_i q
    exact ⟨true, tru_p O.K f1.sr q r1, okv f1.sr o1 r1⟩
  · rename_i q
    exact ⟨false, tru_p O.K f1.sr q r1, ⟨as1, ρ, h1, f1.sr, R.fut f1, o1⟩⟩
  · exact False.elim o1
theorem okE_ife (O : XOk G T nm call fx X E) {c a b : Ex} {z x y : Expr} {p : Pos} (hc : PT X z (tT G E (evT T call c))) (ha : PE X x (tE G E (evE T call a))) (hb : PE X y (tE G E (evE T call b))) : PE X (.IfExp z x y p) (tE G E (evE T call (.ife c a b))) := by
  refine (pe_ifExp hc ha hb).imp fun σ H Q ⟨as, ρ, h, S, R, o⟩ => ?_
  have e : evE T call (.ife c a b) ρ h = (evT T call c ρ h).bind fun t h1 => if t then evE T call a ρ h1 else evE T call b ρ h1 := by
    simp only [evT, evE, Res.bind_assoc]
    congr 1
    funext v h1
    cases e : pTru h1 v with
    | none => rfl
    | some t => cases t <;> rfl
  rw [e] at o
  refine ⟨as, ρ, h, S, R, Ok.bind o fun b h1 as1 H1 b' f1 e o1 => ?_⟩
  subst e
  cases b with
  | true => exact ⟨as1, ρ, h1, f1.sr, R.fut f1, o1⟩
  | false => exact ⟨as1, ρ, h1, f1.sr, R.fut f1, o1⟩
theorem okT_cmp (O : XOk G T nm call fx X E) {op : Cop} {a b : Ex} {x y : Expr} {p : Pos} (hm : noSet y = true) (ha : PE X x (tE G E (evE T call a))) (hb : PE X y (tE G E (evE T call b))) : PT X (.Compare x [op.py] [y] p) (tT G E (evT T call (.cmp op a b))) := by
  refine (pt_cmpR (op_cmp (E := E) O.K O.hu op) ha hb (noSet_ok hm)).imp fun σ H Q ⟨as, ρ, h, S, R, o⟩ => ?_
  simp only [evT, evE, Res.bind_assoc] at o
  refine ⟨as, ρ, h, S, R, Ok.bind o fun v h1 as1 H1 v' f1 r1 o1 => ⟨as1, ρ, h1, f1.sr, R.fut f1, Ok.bind o1 fun w h2 as2 H2 w' f2 r2 o2 => ?_⟩⟩
  refine ⟨as2, h2, v, w, f2.sr, r1.fut f2, r2, ?_⟩
  rcases pCmp_form op v w h2 with e | ⟨b, e⟩
  · rw [e] at o2; exact False.elim o2
  · rw [e] at o2 ⊢
    exact fun as' H' v'' f r => ⟨b, r.blE, o2 as' H' b f rfl⟩
theorem lastM {o1 o2 : CmpOp} {y z : Expr} (h : noSet z = true) : lastMarks [o1, o2] [y, z] = false := by
  show behindInMarks o2 z = false
  exact noSet_ok h
theorem okE_chn (O : XOk G T nm call fx X E) {o1 o2 : Cop} {a b c : Ex} {x y z : Expr} {p : Pos} (hm : noSet z = true) (ha : PE X x (tE G E (evE T call a))) (hb : PE X y (tE G E (evE T call b))) (hc : PE X z (tE G E (evE T call c))) :
    PE X (.Compare x [o1.py, o2.py] [y, z] p) (tE G E (evE T call (.chn o1 o2 a b c))) := by
  refine (pe_chain (op_cmp (E := E) O.K O.hu o1) (op_cmp (E := E) O.K O.hu o2) ha hb hc (lastM hm)).imp fun σ H Q ⟨as, ρ, h, S, R, o⟩ => ?_
  simp only [evE] at o
  refine ⟨as, ρ, h, S, R, Ok.bind o fun v h1 as1 H1 v' f1 r1 q1 => ⟨as1, ρ, h1, f1.sr, R.fut f1, Ok.bind q1 fun w h2 as2 H2 w' f2 r2 q2 => ?_⟩⟩
  refine ⟨as2, h2, v, w, f2.sr, r1.fut f2, r2, ?_⟩
  rcases pCmp_form o1 v w h2 with e | ⟨b, e⟩
  · rw [e] at q2; exact False.elim q2
  · rw [e] at q2 ⊢
    refine fun as' H' v'' f r => ⟨b, r.blE, ?_⟩
    have q3 := Ok.fut f q2
    cases b with
    | false => exact okv f.sr q3 (.bl _)
    | true =>
      exact ⟨as', ρ, h2, f.sr, (R.fut (f1.trans f2)).fut f, Ok.bind q3 fun u h4 as4 H4 u' f4 r4 q4 => ⟨as4, h4, w, u, f4.sr, (r2.fut f).fut f4, r4, q4⟩⟩
theorem okT_chn (O : XOk G T nm call fx X E) {o1 o2 : Cop} {a b c : Ex} {x y z : Expr} {p : Pos} (hm : noSet z = true) (ha : PE X x (tE G E (evE T call a))) (hb : PE X y (tE G E (evE T call b))) (hc : PE X z (tE G E (evE T call c))) :
    PT X (.Compare x [o1.py, o2.py] [y, z] p) (tT G E (evT T call (.chn o1 o2 a b c))) := by
  refine (pt_chain (op_cmp (E := E) O.K O.hu o1) (op_cmp (E := E) O.K O.hu o2) ha hb hc (lastM hm)).imp fun σ H Q ⟨as, ρ, h, S, R, o⟩ => ?_
  simp only [evT, evE, Res.bind_assoc] at o
  refine ⟨as, ρ, h, S, R, Ok.bind o fun v h1 as1 H1 v' f1 r1 q1 => ⟨as1, ρ, h1, f1.sr, R.fut f1, Ok.bind q1 fun w h2 as2 H2 w' f2 r2 q2 => ?_⟩⟩
  refine ⟨as2, h2, v, w, f2.sr, r1.fut f2, r2, ?_⟩
  rcases pCmp_form o1 v w h2 with e | ⟨b, e⟩
  · rw [e] at q2; exact False.elim q2
  · rw [e] at q2 ⊢
    refine fun as' H' v'' f r => ⟨b, r.blE, ?_⟩
    have q3 := Ok.fut f q2
    cases b with
    | false => exact ⟨false, rfl, q3 as' H' false (Fut.refl f.sr) rfl⟩
    | true =>
      simp only [Res.bind_ok, Res.bind_assoc] at q3
      refine ⟨as', ρ, h2, f.sr, (R.fut (f1.trans f2)).fut f, Ok.bind q3 fun u h4 as4 H4 u' f4 r4 q4 => ⟨as4, h4, w, u, f4.sr, (r2.fut f).fut f4, r4, ?_⟩⟩
      rcases pCmp_form o2 w u h4 with e | ⟨b, e⟩
      · rw [e] at q4; exact False.elim q4
      · rw [e] at q4 ⊢
        exact fun as' H' v'' f r => ⟨b, r.blE, q4 as' H' b f rfl⟩
theorem okA_nil : PA X [] (tA G E (evEs T call [])) := by
  refine pa_nil.imp fun σ H Q ⟨as, ρ, h, S, R, o⟩ => ?_
  simp only [evEs] at o
  exact o as H [] (Fut.refl S) .nil
theorem evEs_cons {e : Ex} {es : List Ex} (he : ∀ x, e ≠ .star x) (ρ : PEnv) (h : PH) : evEs T call (e :: es) ρ h = (evE T call e ρ h).bind fun v h1 => (evEs T call es ρ h1).bind fun vs h2 => .ok (v :: vs) h2 := by
  cases e <;> first | rfl | exact absurd rfl (he _)
theorem star_cons {x : Expr} {xs : List Expr} {env : Env} (h : isStar x = false) : starEach (x :: xs) env = (false, eval x env) :: starEach xs env := by
  cases x <;> first | rfl | cases h
theorem okA_cons {e : Ex} {es : List Ex} {x : Expr} {xs : List Expr} (hs : isStar x = false) (he : ∀ y, e ≠ .star y) (h1 : PE X x (tE G E (evE T call e))) (h2 : PA X xs (tA G E (evEs T call es))) : PA X (x :: xs) (tA G E (evEs T call (e :: es))) := by
  refine (pa_cons h1 h2 (star_cons hs)).imp fun σ H Q ⟨as, ρ, h, S, R, o⟩ => ?_
  rw [evEs_cons he] at o
  refine ⟨as, ρ, h, S, R, Ok.bind o fun v h1 as1 H1 v' f1 r1 o1 => ⟨as1, ρ, h1, f1.sr, R.fut f1, Ok.bind o1 fun vs h2 as2 H2 vs' f2 r2 o2 => ?_⟩⟩
  exact o2 as2 H2 _ (Fut.refl f2.sr) (.cons (r1.fut f2) r2)
theorem okE_tup {es : List Ex} {xs : List Expr} {k : Nat} {p : Pos} (h : PA X xs (tA G E (evEs T call es))) : PE X (.Tuple xs k p) (tE G E (evE T call (.tup es))) := by
  refine (pe_tup h).imp fun σ H Q ⟨as, ρ, h, S, R, o⟩ => ?_
  simp only [evE] at o
  refine ⟨as, ρ, h, S, R, Ok.bind o fun vs h1 as1 H1 vs' f1 r1 o1 => ?_⟩
  split at o1
  · rename_i hl
    refine ⟨by rw [← r1.length]; exact hl, fun p hp => ?_⟩
    obtain ⟨f, r⟩ := f1.sr.tup hp r1
    exact okn o1 f r
  · exact False.elim o1
theorem okE_lst {es : List Ex} {xs : List Expr} {p : Pos} (h : PA X xs (tA G E (evEs T call es))) : PE X (.List xs p) (tE G E (evE T call (.lst es))) := by
  refine (pe_lst h).imp fun σ H Q ⟨as, ρ, h, S, R, o⟩ => ?_
  simp only [evE] at o
  refine ⟨as, ρ, h, S, R, Ok.bind o fun vs h1 as1 H1 vs' f1 r1 o1 => ?_⟩
  split at o1
  · rename_i hl
    refine ⟨by rw [← r1.length]; exact hl, fun p hp => ?_⟩
    obtain ⟨f, r⟩ := f1.sr.newL hp r1
    exact okn o1 f r
  · exact False.elim o1
theorem okP_none : L2.PO X none (tO G E fun ρ h => partR .nop (evE T call .nop ρ h) h) := by
  refine ⟨fun pins s σ H Q I ⟨as, ρ, h, S, R, o⟩ => po_none.run pins s σ H Q I ?_⟩
  exact o as H none (Fut.refl S) rfl
theorem partR_e {e : Ex} (h : isNop e = false) (r : Res PV) (hh : PH) : partR e r hh = r.bind fun v h1 => match v with
    | .int i => .ok (some i) h1
    | _ => .stuck := by cases e <;> first | rfl | cases h
theorem okP_some {e : Ex} {x : Expr} (hn : isNop e = false) (he : PE X x (tE G E (evE T call e))) : L2.PO X (some x) (tO G E fun ρ h => partR e (evE T call e ρ h) h) := by
  refine ⟨fun pins s σ H Q I ⟨as, ρ, h, S, R, o⟩ => (po_some he).run pins s σ H Q I ?_⟩
  dsimp only at o
  rw [partR_e hn] at o
  refine ⟨as, ρ, h, S, R, Ok.bind o fun v h1 as1 H1 v' f1 r1 o1 => ?_⟩
  cases v with
  | int i => rw [r1.intE]; exact ⟨i, rfl, o1 as1 H1 _ (Fut.refl f1.sr) rfl⟩
  | _ => exact False.elim o1
theorem okE_sl (O : XOk G T nm call fx X E) {a lo hi : Ex} {x : Expr} {l u : Option Expr} {p p2 : Pos} (ha : PE X x (tE G E (evE T call a))) (hl : L2.PO X l (tO G E fun ρ h => partR lo (evE T call lo ρ h) h)) (hu : L2.PO X u (tO G E fun ρ h => partR hi (evE T call hi ρ h) h)) :
    PE X (.Subscript x (.Slice l u none p2) p) (tE G E (evE T call (.sl a lo hi))) := by
  refine (pe_slice (sl_all (E := E) O.K) ha hl hu).imp fun σ H Q ⟨as, ρ, h, S, R, o⟩ => ?_
  simp only [evE] at o
  refine ⟨as, ρ, h, S, R, Ok.bind o fun v h1 as1 H1 v' f1 r1 o1 => ⟨as1, ρ, h1, f1.sr, R.fut f1, Ok.bind o1 fun w h2 as2 H2 w' f2 r2 o2 => ?_⟩⟩
  subst r2
  refine ⟨as2, ρ, h2, f2.sr, R.fut (f1.trans f2), Ok.bind o2 fun w h3 as3 H3 w' f3 r3 o3 => ?_⟩
  subst r3
  exact ⟨as3, h3, v, f3.sr, r1.fut (f2.trans f3), o3⟩
theorem noStars : ∀ {xs : List Expr} {env : Env} {pos : Pos}, xs.all (fun x => !isStar x) = true → (backTo pos (starEach xs env)).any (·.1) = false
  | [], _, _, _ => rfl
  | x :: xs, env, pos, h => by
    simp only [List.all_cons, Bool.and_eq_true, Bool.not_eq_true'] at h
    rw [star_cons h.1]
    show (false || (backTo pos (starEach xs env)).any (·.1)) = false
    rw [noStars h.2]
    rfl
theorem bi_dbg (f : Bi) : (f.nm == ("__debug__" : Str)) = false := by cases f <;> decide +kernel
theorem bi_name (f : Bi) : f.nm ≠ "__name__" := by cases f <;> decide +kernel
theorem okE_bi (O : XOk G T nm call fx X E) {f : Bi} {es : List Ex} {x : Expr} {xs : List Expr} {p pos : Pos} (hg : glB fx.names f.nm = true) (h : PA X (x :: xs) (tA G E (evEs T call es))) (hx : isStar x = false) (hxs : xs.all (fun x => !isStar x) = true) :
    PE X (.Call (.Name f.nm p) (x :: xs) [] pos) (tE G E (evE T call (.bi f es))) := by
  have key : PE X (.Call (.Name f.nm p) (x :: xs) [] pos) (tCB (rPn G E (pBi T f)) (tA G E (evEs T call es))) := by
    have c := call_bi (E := E) (T := T) O.K O.calm O.cls f
    have b := bi_boot f
    have hm := O.bl f
    have hgl := gl_ok O hg
    cases hf : f.py with
    | builtin id => rw [hf] at c b; exact pe_callB c hgl hm b h (bi_name f) (bi_dbg f) (star_cons hx) (noStars hxs)
    | type id => rw [hf] at c b; exact pe_callTy c hgl hm b h (bi_name f) (bi_dbg f) (star_cons hx) (noStars hxs)
    | _ => cases f <;> cases hf
  refine key.imp fun σ H Q ⟨as, ρ, h, S, R, o⟩ => ?_
  simp only [evE] at o
  exact ⟨as, ρ, h, S, R, Ok.bind o fun vs h1 as1 H1 vs' f1 r1 o1 => ⟨as1, h1, vs, f1.sr, r1, o1⟩⟩
end
end Mn
set_option Elab.async false
set_option linter.all false
set_option maxRecDepth 100000
set_option maxHeartbeats 4000000
namespace Mn
open PySem PySem.Spec L2 PyProof.Rows
def Itst (x : Str) : It :=
  ⟨fun i H => i < x.cps.size, fun i H v H' => ∃ T c, v = .ref T ∧ H T = none ∧ H' = upd H T (.tup [.int (i : Nat), .str ⟨#[c]⟩]) ∧ x.cps[i]? = some c, fun i H => i = x.cps.size⟩
theorem turn_ens {P : Program} {w : World} {K : PySem.W.Frag} {elts : List Expr} {kk : Nat} {tpos : Pos} (x : Str) (t : Tok) (e it : Addr) :
    Turn P w K (.Tuple elts kk tpos) (Itst x) [e, it] e (fun i h => (∃ old, IsEnum h e it ((i : Nat) : Int) old) ∧ h.IsStrIter it (strIterType x) x t i ∧ e ≠ it) where
  mem := by simp
  obj := fun i h st b hb => by
    obtain ⟨⟨old, he⟩, ⟨o, ho, hc, hd⟩, _⟩ := st
    have e' : b = e ∨ b = it := by simpa using hb
    rcases e' with z | z
    · rw [z]; exact ⟨_, he, fun v q => nomatch q⟩
    · rw [z]; exact ⟨o, ho, fun v q => by rw [hd] at q; cases q⟩
  keep := fun i h h' st k => let ⟨⟨old, he⟩, hi, hne⟩ := st; ⟨⟨old, k e (by simp) _ he⟩, let ⟨o, ho, r⟩ := hi; ⟨o, k it (by simp) o ho, r⟩, hne⟩
  item := by
    intro X hP hw hK hc i pins s σ H E I hf st hg
    subst hP hw hK
    obtain ⟨⟨old, he⟩, hit, hne⟩ := st
    have hef : e ∉ [it] := fun h => hne (List.mem_singleton.mp h)
    have hel : e < s.heap.objs.size := Heap.lt_size he
    have hil : it < s.heap.objs.size := by obtain ⟨_, q, _⟩ := hit; exact Heap.lt_size q
    refine wpAny_pyNext_enum_itemD (Draws.text (A := X.A.in1) (I.ok.hd hc) it x t) he hit hg hne hef fun u h' tk hPu ho hit' hT hsz hk => ?_
    obtain ⟨c, tc, ec, rfl⟩ := hPu
    refine ⟨_, rfl, wpAny_letOwnedTupleGo_enum (s := { s with heap := h', toks := tk + 1 }) ho fun h'' he' sb => ?_⟩
    have hT2 : h''.get? s.heap.objs.size = some { cls := .type "tuple", data := .seq #[.int i tk, .str ⟨#[c]⟩ tc] } := (sb.2 _ (Nat.ne_of_gt hel)).trans hT
    have new : ObjOk X.prog X.w (upd H s.heap.objs.size (.tup [.int (i : Nat), .str ⟨#[c]⟩])) h'' s.heap.objs.size (.tup [.int (i : Nat), .str ⟨#[c]⟩]) :=
      ⟨by show 2 ≤ sizeLine; decide, [.int i tk, .str ⟨#[c]⟩ tc], .cons ⟨_, rfl⟩ (.cons ⟨_, rfl⟩ .nil), ⟨_, hT2, rfl, _, rfl⟩⟩
    have I1 : Inv X pins σ (upd H s.heap.objs.size (.tup [.int (i : Nat), .str ⟨#[c]⟩])) { s with heap := h'', toks := tk + 1 } :=
      I.turnedNew (ch := [e, it]) (fun b ob hb q => (sb.2 b (fun z => hb (by simp [z]))).trans (hk b ob (fun z => hb (by simp [z])) (fun z => hb (by simp [z])) q)) hf (Nat.le_refl _) new
    refine ⟨.ref s.heap.objs.size, _, I1, rfl, ⟨_, c, rfl, I.hok.fresh (Nat.le_refl _), rfl, ec⟩, ⟨⟨.str ⟨#[c]⟩ tc, ?_⟩, ?_, hne⟩, fun b hb => ?_⟩
    · have e1 : ((i + 1 : Nat) : Int) = (i : Int) + 1 := by omega
      rw [e1]; exact he'
    · obtain ⟨o, ho2, r⟩ := hit'
      exact ⟨o, (sb.2 it (Ne.symm hne)).trans ho2, r⟩
    · have hb' : b < s.heap.objs.size := by
        have e' : b = e ∨ b = it := by simpa using hb
        rcases e' with z | z
        · rw [z]; exact hel
        · rw [z]; exact hil
      rw [upd_ne (Nat.ne_of_lt hb')]
      exact (hf b hb).1
  done := by
    intro X hP hw hK hc i pins s σ H E I hf st hg
    subst hP hw hK
    obtain ⟨⟨old, he⟩, hit, hne⟩ := st
    obtain ⟨f0, f1, f2, f3, f4, f5⟩ := hf it (by simp)
    have hg' : i = x.cps.size := hg
    subst hg'
    exact wpAny_pyNext_enum_endD (Draws.text (A := X.A.in1) (I.ok.hd hc) it x t) he hit fun h' eb => ⟨rfl, I.turned (t' := s.toks) (fun b o hb q => eb b o hb q) f0 f1 f3 f4 f5⟩
  self := fun A i s Q E st h => let ⟨⟨_, he⟩, _⟩ := st; wpAny_pyIter_enum he h
def iEnums (K : PySem.W.Frag) (ta : TA) : TI := fun σ H R => ta σ H fun vs H1 => (∃ a xs, vs = [.ref a] ∧ SqL K H1 a xs ∧ R (Ite K a) H1) ∨ ∃ x, vs = [.str x] ∧ R (Itst x) H1
theorem pi_enums {X : Cx} {e : Expr} {ta : TA} {p pos tpos : Pos} {elts : List Expr} {kk : Nat} (hg : Gl X "enumerate") (hm : X.mg "enumerate" = none) (ha : PA X [e] ta) (hs : starEach [e] X.env = [(false, eval e X.env)] := by rfl) :
    PI X (.Tuple elts kk tpos) (.Call (.Name "enumerate" p) [e] [] pos) (iEnums X.K ta) := by
  refine ⟨fun pins s σ H R I h => ?_⟩
  refine Call_ (ld_blt I hg hm boot_enumerate (PyProof.Rows.callWith_type1 (thn (ha.run pos pins s σ H _ I h) fun us s1 ⟨vs, H1, I1, r1, q1⟩ => ?_) hs rfl))
  rcases q1 with ⟨a, xs, ex, hq, q⟩ | ⟨x, ex, q⟩
  · subst ex
    cases r1 with
    | cons r rr =>
      cases rr
      cases r
      obtain ⟨its, rv, p', hz⟩ := I1.list hq
      refine call_enumerate_list p'.isList fun h' he hit hsz hk => wpAny_pyIter_enum he ?_
      have I2 : Inv X pins σ H1 { s1 with heap := h' } := I1.kept (t' := s1.toks) hk
      refine ⟨s1.heap.objs.size + 1, [s1.heap.objs.size + 1, s1.heap.objs.size], _, _, H1, rfl, I2, turn_enum a (s1.heap.objs.size + 1) s1.heap.objs.size, ⟨⟨.none, he⟩, hit, Nat.succ_ne_self _⟩, fun b hb => ?_, q⟩
      have e' : b = s1.heap.objs.size + 1 ∨ b = s1.heap.objs.size := by simpa using hb
      have hle : s1.heap.objs.size ≤ b := by
        rcases e' with z | z
        · rw [z]; exact Nat.le_add_right _ _
        · rw [z]; exact Nat.le_refl _
      exact I1.fpOk hle (I1.hok.fresh hle)
  · subst ex
    cases r1 with
    | cons r rr =>
      cases rr
      obtain ⟨t, rfl⟩ := r
      refine call_enumerate_str fun h' he hit hsz hk => wpAny_pyIter_enum he ?_
      have I2 : Inv X pins σ H1 { s1 with heap := h' } := I1.kept (t' := s1.toks) hk
      refine ⟨s1.heap.objs.size + 1, [s1.heap.objs.size + 1, s1.heap.objs.size], _, _, H1, rfl, I2, turn_ens x t (s1.heap.objs.size + 1) s1.heap.objs.size, ⟨⟨.none, he⟩, hit, Nat.succ_ne_self _⟩, fun b hb => ?_, q⟩
      have e' : b = s1.heap.objs.size + 1 ∨ b = s1.heap.objs.size := by simpa using hb
      have hle : s1.heap.objs.size ≤ b := by
        rcases e' with z | z
        · rw [z]; exact Nat.le_add_right _ _
        · rw [z]; exact Nat.le_refl _
      exact I1.fpOk hle (I1.hok.fresh hle)
end Mn
set_option Elab.async false
set_option linter.all false
set_option maxRecDepth 100000
set_option maxHeartbeats 4000000
namespace Mn
open PySem PySem.Spec L2 PyProof.Rows
section
variable {G : Gm} {T : Tb} {nm : Nm} {call : Nat → List PV → PH → Res PV} {fx : Fx} {X : Cx} {E : XK}
def WkOk (G : Gm) (as0 : List Addr) (H0 : Hp) (w : Wk) (J : It) : Prop := ∀ as H h, as0 <+: as → Kp H0 H → SR G as H h → ∀ i,
  (wkAt h i w = some none → J.stop i H) ∧ ∀ x, wkAt h i w = some (some x) → J.go i H ∧ ∀ v H', J.yld i H v H' → Fut G as H as H' h ∧ RepV G as H' x v
def tI (G : Gm) (E : XK) (ev : PEnv → PH → Res (Wk × Nat)) : TI := fun σ H R => ∃ as ρ h, SR G as H h ∧ RepE G as H ρ σ ∧ Ok G E as H (fun as' H' (p : Wk × Nat) (J : It) => WkOk G as' H' p.1 J) R (ev ρ h)
def evI (T : Tb) (call : Nat → List PV → PH → Res PV) (k : Ik) (its : List Ex) (ρ : PEnv) (h : PH) : Res (Wk × Nat) := (evEs T call its ρ h).bind fun vs h1 => match wkOf k vs h1 with
  | none => .stuck
  | some p => .ok p h1
theorem WkOk.fixT {as : List Addr} {H : Hp} {a : Addr} {xs : List PV} {vs : List V} (s : SqT G.K H a vs) (r : RepVs G as H xs vs) : WkOk G as H (.fix xs) (Itt G.K a) := fun as' H' h hp kp S i => by
  have s' := kp.sqT s
  have r' := r.mono hp kp
  refine ⟨fun e => ⟨vs, s', ?_⟩, fun x e => ?_⟩
  · simp only [wkAt, Option.some.injEq] at e
    rw [← r'.length]
    exact List.getElem?_eq_none_iff.mp e
  · simp only [wkAt, Option.some.injEq] at e
    obtain ⟨v, ev, rv⟩ := r'.get e
    refine ⟨⟨vs, v, s', ev⟩, fun u H2 y => ?_⟩
    obtain ⟨rfl, q⟩ := y
    have := q vs s'
    rw [ev] at this
    cases this
    exact ⟨Fut.refl S, rv⟩
theorem WkOk.lst {as : List Addr} {H : Hp} {a : Addr} {l : Nat} (ea : as[l]? = some a) : WkOk G as H (.lst l) (Itl G.K a) := fun as' H' h hp kp S i => by
  have ea' := pre_get hp ea
  refine ⟨fun e => ?_, fun x e => ?_⟩
  · simp only [wkAt] at e
    obtain ⟨xs, e1, e2⟩ := Option.map_eq_some_iff.mp e
    obtain ⟨vs, s, r⟩ := S.lst e1 ea'
    exact ⟨vs, s, by rw [← r.length]; exact List.getElem?_eq_none_iff.mp e2⟩
  · simp only [wkAt] at e
    obtain ⟨xs, e1, e2⟩ := Option.map_eq_some_iff.mp e
    obtain ⟨vs, s, r⟩ := S.lst e1 ea'
    obtain ⟨v, ev, rv⟩ := r.get e2
    refine ⟨⟨vs, v, s, ev⟩, fun u H2 y => ?_⟩
    obtain ⟨rfl, q⟩ := y
    have := q vs s
    rw [ev] at this
    cases this
    exact ⟨Fut.refl S, rv⟩
theorem WkOk.str {as : List Addr} {H : Hp} {x : List Nat} : WkOk G as H (.fix (x.map fun c => .str [c])) (Its ⟨x.toArray⟩) := fun as' H' h hp kp S i => by
  refine ⟨fun e => ?_, fun y e => ?_⟩
  · simp only [wkAt, Option.some.injEq, List.getElem?_map, Option.map_eq_none_iff] at e
    show x.toArray.size ≤ i
    simpa using e
  · simp only [wkAt, Option.some.injEq, List.getElem?_map] at e
    obtain ⟨c, ec, rfl⟩ := Option.map_eq_some_iff.mp e
    refine ⟨by show i < x.toArray.size; simpa using (List.getElem?_eq_some_iff.mp ec).1, fun u H2 y => ?_⟩
    obtain ⟨rfl, c', ec', rfl⟩ := y
    have : some c = some c' := by rw [← ec, ← ec']; simp
    cases this
    refine ⟨Fut.refl S, ?_⟩
    have : (⟨#[c]⟩ : Str) = ⟨[c].toArray⟩ := by simp
    rw [this]
    exact .str _
theorem WkOk.rng {as : List Addr} {H : Hp} {lo : Int} {n : Nat} : WkOk G as H (.fix ((List.range n).map fun (m : Nat) => .int (lo + m))) (Itr lo n) := fun as' H' h hp kp S i => by
  refine ⟨fun e => ?_, fun y e => ?_⟩
  · simp only [wkAt, Option.some.injEq, List.getElem?_map, Option.map_eq_none_iff] at e
    show n ≤ i
    simpa using e
  · simp only [wkAt, Option.some.injEq, List.getElem?_map] at e
    obtain ⟨c, ec, rfl⟩ := Option.map_eq_some_iff.mp e
    obtain ⟨hl, e2⟩ := List.getElem?_eq_some_iff.mp ec
    simp at hl e2
    subst e2
    refine ⟨hl, fun u H2 y => ?_⟩
    obtain ⟨rfl, rfl⟩ := y
    exact ⟨Fut.refl S, .int _⟩
theorem WkOk.enl {as : List Addr} {H : Hp} {a : Addr} {l : Nat} (ea : as[l]? = some a) : WkOk G as H (.enl l) (Ite G.K a) := fun as' H' h hp kp S i => by
  have ea' := pre_get hp ea
  refine ⟨fun e => ?_, fun x e => ?_⟩
  · simp only [wkAt] at e
    obtain ⟨xs, e1, e2⟩ := Option.map_eq_some_iff.mp e
    obtain ⟨vs, s, r⟩ := S.lst e1 ea'
    rw [Option.map_eq_none_iff] at e2
    exact ⟨vs, s, by rw [← r.length]; exact List.getElem?_eq_none_iff.mp e2⟩
  · simp only [wkAt] at e
    obtain ⟨xs, e1, e2⟩ := Option.map_eq_some_iff.mp e
    obtain ⟨vs, s, r⟩ := S.lst e1 ea'
    obtain ⟨z, ez, rfl⟩ := Option.map_eq_some_iff.mp e2
    obtain ⟨v, ev, rv⟩ := r.get ez
    refine ⟨⟨vs, v, s, ev⟩, fun u H2 y => ?_⟩
    obtain ⟨TT, y, rfl, hn, rfl, q⟩ := y
    have := q vs s
    rw [ev] at this
    cases this
    exact S.tup hn (.cons (.int _) (.cons rv .nil))
theorem WkOk.ens {as : List Addr} {H : Hp} {x : List Nat} : WkOk G as H (.ens x) (Itst ⟨x.toArray⟩) := fun as' H' h hp kp S i => by
  refine ⟨fun e => ?_, fun y e => ?_⟩
  · simp only [wkAt] at e
    split at e
    · simp only [Option.some.injEq, Option.map_eq_none_iff, List.getElem?_eq_none_iff] at e
      show i = x.toArray.size
      simp
      omega
    · cases e
  · simp only [wkAt] at e
    split at e
    · simp only [Option.some.injEq] at e
      obtain ⟨c, ec, rfl⟩ := Option.map_eq_some_iff.mp e
      refine ⟨by show i < x.toArray.size; simpa using (List.getElem?_eq_some_iff.mp ec).1, fun u H2 y => ?_⟩
      obtain ⟨TT, c', rfl, hn, rfl, ec'⟩ := y
      have : some c = some c' := by rw [← ec, ← ec']; simp
      cases this
      exact S.tup hn (.cons (.int _) (.cons (.str [c]) .nil))
    · cases e
theorem WkOk.zll {as : List Addr} {H : Hp} {a b : Addr} {l m : Nat} (ea : as[l]? = some a) (eb : as[m]? = some b) : WkOk G as H (.zll l m) (Itz G.K a b) := fun as' H' h hp kp S i => by
  have ea' := pre_get hp ea
  have eb' := pre_get hp eb
  refine ⟨fun e => ?_, fun x e => ?_⟩
  · simp only [wkAt] at e
    obtain ⟨xs, e1, e2⟩ := Option.bind_eq_some_iff.mp e
    obtain ⟨ys, e3, e4⟩ := Option.map_eq_some_iff.mp e2
    obtain ⟨vs, s, r⟩ := S.lst e1 ea'
    obtain ⟨ws, s2, r2⟩ := S.lst e3 eb'
    refine ⟨vs, ws, s, s2, ?_⟩
    rw [← r.length, ← r2.length]
    cases q1 : xs[i]? with
    | none => exact .inl (List.getElem?_eq_none_iff.mp q1)
    | some x =>
      cases q2 : ys[i]? with
      | none => exact .inr (List.getElem?_eq_none_iff.mp q2)
      | some y => rw [q1, q2] at e4; cases e4
  · simp only [wkAt] at e
    obtain ⟨xs, e1, e2⟩ := Option.bind_eq_some_iff.mp e
    obtain ⟨ys, e3, e4⟩ := Option.map_eq_some_iff.mp e2
    obtain ⟨vs, s, r⟩ := S.lst e1 ea'
    obtain ⟨ws, s2, r2⟩ := S.lst e3 eb'
    cases q1 : xs[i]? with
    | none => rw [q1] at e4; cases e4
    | some x' =>
      cases q2 : ys[i]? with
      | none => rw [q1, q2] at e4; cases e4
      | some y' =>
        rw [q1, q2] at e4
        cases e4
        obtain ⟨v, ev, rv⟩ := r.get q1
        obtain ⟨w, ew, rw'⟩ := r2.get q2
        refine ⟨⟨vs, ws, v, w, s, s2, ev, ew⟩, fun u H2 y => ?_⟩
        obtain ⟨TT, y, z, rfl, hn, rfl, q, q'⟩ := y
        have h1 := q vs s
        rw [ev] at h1
        cases h1
        have h2 := q' ws s2
        rw [ew] at h2
        cases h2
        exact S.tup hn (.cons rv (.cons rw' .nil))
theorem WkOk.rvl {as : List Addr} {H : Hp} {a : Addr} {l n : Nat} (ea : as[l]? = some a) : WkOk G as H (.rvl l n) (Itv G.K a n) := fun as' H' h hp kp S i => by
  have ea' := pre_get hp ea
  refine ⟨fun e => ?_, fun x e => ?_⟩
  · simp only [wkAt] at e
    obtain ⟨xs, e1, e2⟩ := Option.bind_eq_some_iff.mp e
    split at e2
    · rename_i hn
      split at e2
      · rename_i hi
        cases q : xs[n - 1 - i]? with
        | none => rw [List.getElem?_eq_none_iff] at q; omega
        | some y => rw [q] at e2; cases e2
      · rename_i hi
        show n ≤ i
        omega
    · cases e2
  · simp only [wkAt] at e
    obtain ⟨xs, e1, e2⟩ := Option.bind_eq_some_iff.mp e
    split at e2
    · split at e2
      · rename_i hn hi
        obtain ⟨vs, s, r⟩ := S.lst e1 ea'
        obtain ⟨v, ev, rv⟩ := r.get (Option.some.inj e2)
        refine ⟨⟨hi, vs, v, s, ev⟩, fun u H2 y => ?_⟩
        obtain ⟨rfl, q⟩ := y
        have := q vs s
        rw [ev] at this
        cases this
        exact ⟨Fut.refl S, rv⟩
      · cases e2
    · cases e2
theorem evI_one {k : Ik} {e : Ex} (he : ∀ x, e ≠ .star x) (ρ : PEnv) (h : PH) : evI T call k [e] ρ h = (evE T call e ρ h).bind fun v h1 => match wkOf k [v] h1 with
    | none => .stuck
    | some p => .ok p h1 := by
  unfold evI
  rw [evEs_cons he]
  simp only [Res.bind_assoc, evEs, Res.bind_ok]
theorem pi_list_at {pins : List (Addr × Obj)} {σ : L2.St} {H : Hp} {s : Shared} {R : It → Hp → Prop} {tg : Expr} {a : Addr} {xs : List V} {v : Value} (I1 : Inv X pins σ H s) (r : RelV (.ref a) v) (hq : SqL X.K H a xs) (q : R (Itl X.K a) H) :
    wpAny (model X.prog X.w) X.A (pyIter v) (PIE X pins σ tg R) X.xe s := by
  cases r
  obtain ⟨its, rv, p, hz⟩ := I1.list hq
  refine wpAny_pyIter_list p.isList ?_
  refine ⟨s.heap.objs.size, [s.heap.objs.size], _, _, H, rfl, I1.kept (t' := s.toks) fun b o e => Heap.get?_push_of_some _ e, turn_list a _, ⟨_, Heap.get?_push_size _ rfl, rfl, rfl⟩, fun b hb => ?_, q⟩
  have e : b = s.heap.objs.size := by simpa using hb
  subst e
  exact I1.fpOk (Nat.le_refl _) (I1.hok.fresh (Nat.le_refl _))
theorem pi_tup_at {pins : List (Addr × Obj)} {σ : L2.St} {H : Hp} {s : Shared} {R : It → Hp → Prop} {tg : Expr} {a : Addr} {xs : List V} {v : Value} (I1 : Inv X pins σ H s) (r : RelV (.ref a) v) (hq : SqT X.K H a xs) (q : R (Itt X.K a) H) :
    wpAny (model X.prog X.w) X.A (pyIter v) (PIE X pins σ tg R) X.xe s := by
  cases r
  obtain ⟨its, rv, p, hz⟩ := I1.tuple hq
  refine wpAny_pyIter_tuple (show s.heap.IsTuple a its.toArray from p) ?_
  refine ⟨s.heap.objs.size, [s.heap.objs.size], _, _, H, rfl, I1.kept (t' := s.toks) fun b o e => Heap.get?_push_of_some _ e, turn_tuple a _, ⟨_, Heap.get?_push_size _ rfl, rfl, rfl⟩, fun b hb => ?_, q⟩
  have e : b = s.heap.objs.size := by simpa using hb
  subst e
  exact I1.fpOk (Nat.le_refl _) (I1.hok.fresh (Nat.le_refl _))
theorem pi_str_at {pins : List (Addr × Obj)} {σ : L2.St} {H : Hp} {s : Shared} {R : It → Hp → Prop} {tg : Expr} {x : Str} {v : Value} (I1 : Inv X pins σ H s) (r : RelV (.str x) v) (q : R (Its x) H) :
    wpAny (model X.prog X.w) X.A (pyIter v) (PIE X pins σ tg R) X.xe s := by
  obtain ⟨t, rfl⟩ := r
  cases ha : x.cps.all (· < 128)
  · exact wpAny_pyIter_wide ha (pi_one (tk := s.toks) I1 _ (turn_str _ x t "str_iterator" (.inr rfl)) ⟨_, Heap.get?_push_size _ rfl, rfl, rfl⟩ q)
  · exact wpAny_pyIter_ascii ha (pi_one (tk := s.toks) I1 _ (turn_str _ x t "str_ascii_iterator" (.inl rfl)) ⟨_, Heap.get?_push_size _ rfl, rfl, rfl⟩ q)
theorem okI_seq (O : XOk G T nm call fx X E) {tg : Expr} {e : Ex} {x : Expr} (hs : ∀ y, e ≠ .star y) (he : PE X x (tE G E (evE T call e))) : PI X tg x (tI G E (evI T call .seq [e])) := by
  have key : ∀ as1 H1 h1 v v' (R : It → Hp → Prop), SR G as1 H1 h1 → RepV G as1 H1 v v' → Ok G E as1 H1 (fun as' H' (p : Wk × Nat) (J : It) => WkOk G as' H' p.1 J) R (match wkOf .seq [v] h1 with | none => .stuck | some p => .ok p h1) →
      (∃ a vs, v' = .ref a ∧ SqT X.K H1 a vs ∧ R (Itt X.K a) H1) ∨ (∃ a vs, v' = .ref a ∧ SqL X.K H1 a vs ∧ R (Itl X.K a) H1) ∨ ∃ z, v' = .str z ∧ R (Its z) H1 := fun as1 H1 h1 v v' R S r o => by
    rw [O.K]
    cases v with
    | tup xs =>
      obtain ⟨a, vs, rfl, s, rv⟩ := r.tupE
      exact .inl ⟨a, vs, rfl, s, o as1 H1 _ (Fut.refl S) (WkOk.fixT s rv)⟩
    | str z =>
      rw [r.strE]
      exact .inr (.inr ⟨_, rfl, o as1 H1 _ (Fut.refl S) WkOk.str⟩)
    | ref l =>
      obtain ⟨a, ea, rfl⟩ := r.refE
      simp only [wkOf] at o
      cases q : lstAt h1 l with
      | none => rw [q] at o; exact False.elim o
      | some xs =>
        rw [q] at o
        obtain ⟨vs, s, rv⟩ := S.lst q ea
        exact .inr (.inl ⟨a, vs, rfl, s, o as1 H1 _ (Fut.refl S) (WkOk.lst ea)⟩)
    | _ => exact False.elim o
  refine ⟨fun pins s σ H R I ⟨as, ρ, h, S, Rρ, o⟩ => ?_⟩
  rw [evI_one hs] at o
  -- which walk it is shows at the value
  have hv : tE G E (evE T call e) σ H (fun v' H1 => (∃ a vs, v' = .ref a ∧ SqT X.K H1 a vs ∧ R (Itt X.K a) H1) ∨ (∃ a vs, v' = .ref a ∧ SqL X.K H1 a vs ∧ R (Itl X.K a) H1) ∨ ∃ z, v' = .str z ∧ R (Its z) H1) :=
    ⟨as, ρ, h, S, Rρ, Ok.bind o fun v h1 as1 H1 v' f1 r1 o1 => key as1 H1 h1 v v' R f1.sr r1 o1⟩
  refine thn (he.run pins s σ H _ I hv) fun u s1 ⟨y, H1, I1, ry, q⟩ => ?_
  rcases q with ⟨a, vs, rfl, sq, q⟩ | ⟨a, vs, rfl, sq, q⟩ | ⟨z, rfl, q⟩
  · exact pi_tup_at I1 ry sq q
  · exact pi_list_at I1 ry sq q
  · exact pi_str_at I1 ry q
theorem Ok.bindK {α β γ δ ε : Type} {G : Gm} {E : XK} {as : List Addr} {H : Hp} {r : Res α} {k : α → PH → Res γ} {k' : α → PH → Res ε} {rel : List Addr → Hp → ε → β → Prop} {rel2 : List Addr → Hp → γ → δ → Prop} {Q : β → Hp → Prop} {Q2 : δ → Hp → Prop}
    (o : Ok G E as H rel2 Q2 (r.bind k)) (next : ∀ v h1, Ok G E as H rel2 Q2 (k v h1) → Ok G E as H rel Q (k' v h1)) : Ok G E as H rel Q (r.bind k') := by
  induction r with
  | ok v h1 => exact next v h1 o
  | er x h1 => exact o
  | stuck => exact o
  | all n f ih => exact fun i hi => ih i (o i hi)
theorem evEs_one {e : Ex} (he : ∀ x, e ≠ .star x) (ρ : PEnv) (h : PH) : evEs T call [e] ρ h = (evE T call e ρ h).bind fun v h1 => .ok [v] h1 := by
  rw [evEs_cons he]
  simp only [evEs, Res.bind_ok]
theorem evEs_two {e e2 : Ex} (he : ∀ x, e ≠ .star x) (he2 : ∀ x, e2 ≠ .star x) (ρ : PEnv) (h : PH) : evEs T call [e, e2] ρ h = (evE T call e ρ h).bind fun v h1 => (evE T call e2 ρ h1).bind fun w h2 => .ok [v, w] h2 := by
  rw [evEs_cons he]
  simp only [evEs_one he2, Res.bind_assoc, Res.bind_ok]
theorem evI_two {k : Ik} {e e2 : Ex} (he : ∀ x, e ≠ .star x) (he2 : ∀ x, e2 ≠ .star x) (ρ : PEnv) (h : PH) : evI T call k [e, e2] ρ h = (evE T call e ρ h).bind fun v h1 => (evE T call e2 ρ h1).bind fun w h2 => match wkOf k [v, w] h2 with
    | none => .stuck
    | some p => .ok p h2 := by
  unfold evI
  rw [evEs_two he he2]
  simp only [Res.bind_assoc, Res.bind_ok]
theorem tI_one {k : Ik} {e : Ex} (hs : ∀ y, e ≠ .star y) {σ : L2.St} {H : Hp} {R : It → Hp → Prop} {Q : List V → Hp → Prop} (q : tI G E (evI T call k [e]) σ H R)
    (next : ∀ v h1 as1 H1 v' p, SR G as1 H1 h1 → RepV G as1 H1 v v' → wkOf k [v] h1 = some p → (∀ J, WkOk G as1 H1 p.1 J → R J H1) → Q [v'] H1) : tA G E (evEs T call [e]) σ H Q := by
  obtain ⟨as, ρ, h, S, Rρ, o⟩ := q
  rw [evI_one hs] at o
  refine ⟨as, ρ, h, S, Rρ, ?_⟩
  rw [evEs_one hs]
  refine Ok.bindK o fun v h1 o1 as1 H1 vs' f r1 => ?_
  obtain ⟨v', rfl, rv⟩ := r1.one
  cases q : wkOf k [v] h1 with
  | none => rw [q] at o1; exact False.elim o1
  | some p =>
    rw [q] at o1
    exact next v h1 as1 H1 v' p f.sr rv q fun J hJ => o1 as1 H1 J f hJ
theorem tI_two {k : Ik} {e e2 : Ex} (hs : ∀ y, e ≠ .star y) (hs2 : ∀ y, e2 ≠ .star y) {σ : L2.St} {H : Hp} {R : It → Hp → Prop} {Q : List V → Hp → Prop} (q : tI G E (evI T call k [e, e2]) σ H R)
    (next : ∀ v w h1 as1 H1 v' w' p, SR G as1 H1 h1 → RepV G as1 H1 v v' → RepV G as1 H1 w w' → wkOf k [v, w] h1 = some p → (∀ J, WkOk G as1 H1 p.1 J → R J H1) → Q [v', w'] H1) : tA G E (evEs T call [e, e2]) σ H Q := by
  obtain ⟨as, ρ, h, S, Rρ, o⟩ := q
  rw [evI_two hs hs2] at o
  refine ⟨as, ρ, h, S, Rρ, ?_⟩
  rw [evEs_two hs hs2]
  refine Ok.bindK o fun v h1 o1 => Ok.bindK o1 fun w h2 o2 as1 H1 vs' f r1 => ?_
  obtain ⟨v', w', rfl, rv, rw'⟩ := r1.two
  cases q : wkOf k [v, w] h2 with
  | none => rw [q] at o2; exact False.elim o2
  | some p =>
    rw [q] at o2
    exact next v w h2 as1 H1 v' w' p f.sr rv rw' q fun J hJ => o2 as1 H1 J f hJ
theorem PI.imp {tg x : Expr} {t t' : TI} (p : PI X tg x t) (h : ∀ σ H R, t' σ H R → t σ H R) : PI X tg x t' := ⟨fun pins s σ H R I q => p.run pins s σ H R I (h σ H R q)⟩
theorem okI_rng1 (O : XOk G T nm call fx X E) {tg x : Expr} {p pos : Pos} {e : Ex} (hs : ∀ y, e ≠ .star y) (hx : isStar x = false) (hg : glB fx.names "range" = true) (ha : PA X [x] (tA G E (evEs T call [e]))) : PI X tg (.Call (.Name "range" p) [x] [] pos) (tI G E (evI T call .rng [e])) := by
  refine PI.imp (pi_range1 (gl_ok O hg) O.rng ha (star_cons hx)) fun σ H R q => tI_one hs q fun v h1 as1 H1 v' pr S r qw k => ?_
  cases v with
  | int j =>
    simp only [wkOf] at qw
    split at qw
    · rename_i hb
      cases qw
      simp only [Bool.and_eq_true, decide_eq_true_eq] at hb
      rw [r.intE]
      refine ⟨j, rfl, hb.1, hb.2, k _ ?_⟩
      have := WkOk.rng (G := G) (as := as1) (H := H1) (lo := 0) (n := j.toNat)
      simpa using this
    · cases qw
  | _ => simp [wkOf] at qw
theorem okI_rng2 (O : XOk G T nm call fx X E) {tg x y : Expr} {p pos : Pos} {e e2 : Ex} (hs : ∀ y, e ≠ .star y) (hs2 : ∀ y, e2 ≠ .star y) (hx : isStar x = false) (hy : isStar y = false) (hg : glB fx.names "range" = true) (ha : PA X [x, y] (tA G E (evEs T call [e, e2]))) :
    PI X tg (.Call (.Name "range" p) [x, y] [] pos) (tI G E (evI T call .rng [e, e2])) := by
  have s2 : starEach [y] X.env = [(false, eval y X.env)] := star_cons hy
  refine PI.imp (pi_range2 (gl_ok O hg) O.rng ha (by rw [star_cons hx, s2]) s2) fun σ H R q => tI_two hs hs2 q fun v w h1 as1 H1 v' w' pr S r r2 qw k => ?_
  cases v with
  | int i =>
    cases w with
    | int j =>
      simp only [wkOf] at qw
      split at qw
      · rename_i hb
        cases qw
        simp only [Bool.and_eq_true, decide_eq_true_eq] at hb
        rw [r.intE, r2.intE]
        exact ⟨i, j, rfl, ⟨hb.1.1.1, hb.1.1.2, hb.1.2, hb.2⟩, k _ WkOk.rng⟩
      · cases qw
    | _ => simp [wkOf] at qw
  | _ => simp [wkOf] at qw
theorem okI_enum (O : XOk G T nm call fx X E) {x : Expr} {p pos tpos : Pos} {elts : List Expr} {kk : Nat} {e : Ex} (hs : ∀ y, e ≠ .star y) (hx : isStar x = false) (hg : glB fx.names "enumerate" = true) (ha : PA X [x] (tA G E (evEs T call [e]))) : PI X (.Tuple elts kk tpos) (.Call (.Name "enumerate" p) [x] [] pos) (tI G E (evI T call .enum [e])) := by
  refine PI.imp (pi_enums (gl_ok O hg) O.enm ha (star_cons hx)) fun σ H R q => tI_one hs q fun v h1 as1 H1 v' pr S r qw k => ?_
  cases v with
  | ref l =>
    simp only [wkOf] at qw
    obtain ⟨xs, e1, rfl⟩ := Option.map_eq_some_iff.mp qw
    obtain ⟨a, ea, rfl⟩ := r.refE
    obtain ⟨vs, sl, rl⟩ := S.lst e1 ea
    rw [O.K]
    exact .inl ⟨a, vs, rfl, sl, k _ (WkOk.enl ea)⟩
  | str x =>
    simp only [wkOf] at qw
    split at qw
    · cases qw
      rw [r.strE]
      exact .inr ⟨_, rfl, k _ WkOk.ens⟩
    · cases qw
  | _ => simp [wkOf] at qw
theorem okI_zip (O : XOk G T nm call fx X E) {x y : Expr} {p pos tpos : Pos} {elts : List Expr} {kk : Nat} {e e2 : Ex} (hs : ∀ y, e ≠ .star y) (hs2 : ∀ y, e2 ≠ .star y) (hx : isStar x = false) (hy : isStar y = false) (hg : glB fx.names "zip" = true) (ha : PA X [x, y] (tA G E (evEs T call [e, e2]))) :
    PI X (.Tuple elts kk tpos) (.Call (.Name "zip" p) [x, y] [] pos) (tI G E (evI T call .zip [e, e2])) := by
  refine PI.imp (pi_zip (gl_ok O hg) O.zp ha (star_cons hx) (noStars (by simp [hy]))) fun σ H R q => tI_two hs hs2 q fun v w h1 as1 H1 v' w' pr S r r2 qw k => ?_
  cases v with
  | ref l =>
    cases w with
    | ref m =>
      simp only [wkOf] at qw
      obtain ⟨xs, e1, q2⟩ := Option.bind_eq_some_iff.mp qw
      obtain ⟨ys, e3, rfl⟩ := Option.map_eq_some_iff.mp q2
      obtain ⟨a, ea, rfl⟩ := r.refE
      obtain ⟨b, eb, rfl⟩ := r2.refE
      obtain ⟨vs, sl, rl⟩ := S.lst e1 ea
      obtain ⟨ws, sl2, rl2⟩ := S.lst e3 eb
      rw [O.K]
      exact ⟨a, b, vs, ws, rfl, sl, sl2, k _ (WkOk.zll ea eb)⟩
    | _ => simp [wkOf] at qw
  | _ => simp [wkOf] at qw
theorem okI_rev (O : XOk G T nm call fx X E) {tg x : Expr} {p pos : Pos} {e : Ex} (hs : ∀ y, e ≠ .star y) (hx : isStar x = false) (hg : glB fx.names "reversed" = true) (ha : PA X [x] (tA G E (evEs T call [e]))) : PI X tg (.Call (.Name "reversed" p) [x] [] pos) (tI G E (evI T call .rev [e])) := by
  refine PI.imp (pi_reversed (gl_ok O hg) O.rvs ha (star_cons hx)) fun σ H R q => tI_one hs q fun v h1 as1 H1 v' pr S r qw k => ?_
  cases v with
  | ref l =>
    simp only [wkOf] at qw
    obtain ⟨xs, e1, rfl⟩ := Option.map_eq_some_iff.mp qw
    obtain ⟨a, ea, rfl⟩ := r.refE
    obtain ⟨vs, sl, rl⟩ := S.lst e1 ea
    rw [O.K]
    exact ⟨a, vs, rfl, sl, k _ (by rw [← rl.length]; exact WkOk.rvl ea)⟩
  | _ => simp [wkOf] at qw
theorem foldl_set_ok {as : List Addr} {H : Hp} : ∀ {is : List Nat} {xs : List PV} {vs : List V} {ρ : PEnv} {σ : L2.St}, RepE G as H ρ σ → RepVs G as H xs vs →
    RepE G as H ((is.zip xs).foldl (fun r q => r.set q.1 (some q.2)) ρ) ((is.zip vs).foldl (fun r q => r.set q.1 (some q.2)) σ)
  | [], _, _, _, _, R, _ => R
  | i :: is, [], _, _, _, R, r => by rw [r.zero]; exact R
  | i :: is, x :: xs, vs, ρ, σ, R, r => by
    unfold RepVs at r
    obtain ⟨v, rest, rfl, r1, r2⟩ := r
    have := foldl_set_ok (is := is) (R.set i r1) r2
    exact this
def chkNm (fx : Fx) (i : Nat) : Expr → Bool
  | .Name x _ => decide (fx.N[i]? = some x) && fx.st.contains x
  | _ => false
def chkNms (fx : Fx) : List Nat → List Expr → Bool
  | [], [] => true
  | i :: is, x :: xs => chkNm fx i x && chkNms fx is xs
  | _, _ => false
def gNames (is : List Nat) : TGs := fun vs σ H Q => vs.length = is.length ∧ Q ((is.zip vs).foldl (fun r q => r.set q.1 (some q.2)) σ) H
theorem okG_name (O : XOk G T nm call fx X E) {i : Nat} {e : Expr} (h : chkNm fx i e = true) : PG X e (gName i) := by
  cases e with
  | Name x p =>
    simp only [chkNm, Bool.and_eq_true, decide_eq_true_eq, List.contains_iff_mem] at h
    obtain ⟨l, f⟩ := O.st x h.2
    exact pg_name O.nd (by rw [O.N]; exact h.1) l f
  | _ => cases h
theorem nm_assign {fx : Fx} {i : Nat} {e : Expr} {es : List Expr} {env : Env} (h : chkNm fx i e = true) : assignEach (e :: es) env = (false, assign e env) :: assignEach es env := by
  cases e <;> first | rfl | cases h
theorem okG_names (O : XOk G T nm call fx X E) : ∀ {is : List Nat} {es : List Expr}, chkNms fx is es = true → PGs X es (gNames is) ∧ (assignEach es X.env).length = is.length ∧ (assignEach es X.env).findIdx? (·.1) = none
  | [], [], _ => ⟨⟨fun pins s σ H vs us Q I r h => pgs_nil.run pins s σ H vs us Q I r ⟨List.eq_nil_of_length_eq_zero h.1, h.2⟩⟩, rfl, rfl⟩
  | i :: is, e :: es, h => by
    simp only [chkNms, Bool.and_eq_true] at h
    obtain ⟨i1, i2, i3⟩ := okG_names O h.2
    have na := nm_assign (es := es) (env := X.env) h.1
    refine ⟨⟨fun pins s σ H vs us Q I r hw => ?_⟩, ?_, ?_⟩
    · refine (pgs_cons (okG_name O h.1) i1 (by rw [na]; rfl)).run pins s σ H vs us Q I r ?_
      obtain ⟨hl, q⟩ := hw
      cases vs with
      | nil => simp at hl
      | cons v vr => exact ⟨v, vr, rfl, by simpa using hl, q⟩
    · rw [na]; simp [i2]
    · rw [na]
      rw [List.findIdx?_cons, i3]
      rfl
  | [], _ :: _, h => by cases h
  | _ :: _, [], h => by cases h
def chkTg (fx : Fx) : Tg → Expr → Bool
  | .nm i, e => chkNm fx i e
  | .tp is, .Tuple es _ _ => chkNms fx is es
  | .tp _, _ => false
def tG (G : Gm) (t : Tg) : TG := fun v σ H Q => ∃ as ρ h x ρ', SR G as H h ∧ RepE G as H ρ σ ∧ RepV G as H x v ∧ bindTg t x ρ = some ρ' ∧ ∀ σ', RepE G as H ρ' σ' → (∃ (is : List Nat) (vs : List V), σ' = (is.zip vs).foldl (fun r q => r.set q.1 (some q.2)) σ ∧ ∀ i ∈ is, i ∈ (match t with | .nm j => [j] | .tp js => js)) → Q σ' H
theorem okG_tg (O : XOk G T nm call fx X E) {t : Tg} {e : Expr} (h : chkTg fx t e = true) : PG X e (tG G t) := by
  cases t with
  | nm i =>
    refine ⟨fun pins s σ H v u Q I r ⟨as, ρ, hh, x, ρ', S, R, rx, eb, k⟩ => (okG_name O h).run pins s σ H v u Q I r ?_⟩
    simp only [bindTg] at eb
    cases eb
    exact k _ (R.set i rx) ⟨[i], [v], rfl, fun j hj => hj⟩
  | tp is =>
    cases e with
    | Tuple es kk pos =>
      obtain ⟨g, l, f⟩ := okG_names O (show chkNms fx is es = true from h)
      refine ⟨fun pins s σ H v u Q I r ⟨as, ρ, hh, x, ρ', S, R, rx, eb, k⟩ => (pg_tup O.calm g l f).run pins s σ H v u Q I r ?_⟩
      simp only [bindTg] at eb
      split at eb
      · rename_i xs
        split at eb
        · rename_i hl
          cases eb
          obtain ⟨a, vs, rfl, sa, rv⟩ := rx.tupE
          refine ⟨a, vs, rfl, by rw [O.K]; exact sa, by rw [← rv.length]; exact hl, by rw [← rv.length]; exact hl, k _ (foldl_set_ok R rv) ⟨is, vs, rfl, fun j hj => hj⟩⟩
        · cases eb
      · cases eb
    | _ => cases h
end
end Mn
set_option Elab.async false
set_option linter.all false
set_option maxRecDepth 100000
set_option maxHeartbeats 4000000
namespace Mn
open PySem PySem.Spec L2 PyProof.Rows
def rlb (fx : List (Str × NameKind)) (q : Str × NameKind) : Str × NameKind := if (q.2 == .free && fx.lookup q.1 == some .cell) then (q.1, .cell) else (q.1, q.2)
def fxB (fx : Fx) (sc : Scope) : Fx where
  N := fx.N
  names := sc.names.map (rlb fx.names)
  st := (sc.names.filter fun q => (match q.2 with | .local => true | .cell => true | _ => false)).map (·.1)
def ownsOf (fx : Fx) (own : List Nat) : List (Str × Nat) := own.map fun i => (fx.N.getD i Str.empty, i)
def scOf (fx : Fx) : Scope := { kind := .function, names := fx.names, isGenerator := false, isCoroutine := false }
section
variable {G : Gm} {T : Tb} {nm : Nm} {call : Nat → List PV → PH → Res PV} {fx : Fx} {X : Cx} {E : XK}
theorem blk_scope (O : XOk G T nm call fx X E) {sc : Scope} {cl : List (Str × Addr)} {C : Addr} : (compEnvC sc cl C X.env).scope.names = (fxB fx sc).names := by
  show (relabel sc X.env).names = _
  unfold relabel fxB Env.kindOf rlb
  rw [O.names, O.kind]
  have e : (ScopeKind.function == ScopeKind.function) = true := rfl
  simp only [e, Bool.and_true]
def uniqB (sc : Scope) : Bool := sc.names.all fun y => decide (sc.names.lookup y.1 = some y.2)
theorem relab_lookup {sc fx : List (Str × NameKind)} {x : Str} {k : NameKind} (h : sc.lookup x = some k) (hk : k = .local ∨ k = .cell) : (sc.map (rlb fx)).lookup x = some k := by
  induction sc with
  | nil => simp at h
  | cons p r ih =>
    obtain ⟨n, kn⟩ := p
    by_cases e : x = n
    · subst e
      simp at h
      subst h
      have e1 : rlb fx (x, kn) = (x, kn) := by
        rcases hk with rfl | rfl <;> rfl
      rw [List.map_cons, e1]
      simp
    · have e2 : (x == n) = false := by simpa using e
      rw [List.lookup_cons, e2] at h
      have ih' := ih h
      obtain ⟨k2, e1⟩ : ∃ k2, rlb fx (n, kn) = (n, k2) := by
        unfold rlb
        split <;> exact ⟨_, rfl⟩
      rw [List.map_cons, e1, List.lookup_cons, e2]
      exact ih'
theorem XOk.blk (O : XOk G T nm call fx X E) {sc : Scope} (hu : uniqB sc = true) (s : Shared) (H : Hp) (C : Addr) (cl : List (Str × Addr)) (fp : List Addr) (hk : sc.kind = .function) : XOk G T nm call (fxB fx sc) (X.blk s H sc (compEnvC sc cl C X.env) fp) E0 where
  K := O.K
  calm := O.calm
  hu := O.hu
  N := O.N
  nd := O.nd
  names := blk_scope O
  gl := O.gl
  bl := O.bl
  st := fun x hx => by
    obtain ⟨q, hq, rfl⟩ := List.mem_map.mp hx
    obtain ⟨h1, h2⟩ := List.mem_filter.mp hq
    have u := of_decide_eq_true (List.all_eq_true.mp hu q h1)
    have kk : q.2 = .local ∨ q.2 = .cell := by
      cases e : q.2 with
      | «local» => exact .inl rfl
      | cell => exact .inr rfl
      | _ => rw [e] at h2; cases h2
    have l2 : (compEnvC sc cl C X.env).scope.names.lookup q.1 = some q.2 := by
      rw [blk_scope O]
      exact relab_lookup u kk
    refine ⟨?_, ?_⟩
    · rcases kk with e | e
      · exact .inl (by rw [← e]; exact l2)
      · exact .inr (by rw [← e]; exact l2)
    · rcases kk with e | e
      · exact .inr (by rw [← e]; exact l2)
      · left
        show (sc.names.lookup q.1 == some .cell) = true
        rw [u, e]
        rfl
  rng := O.rng
  enm := O.enm
  zp := O.zp
  rvs := O.rvs
  cls := O.cls
  kind := hk
  pass := fun pins σ H s e s' I c => by
    obtain ⟨_, _, _, _, _, _, _, _, _, _, _, _, q⟩ := c
    exact q
  fns := O.fns
theorem noer_bind {α β : Type} (r : Res α) (k : α → PH → Res β) : (r.bind k).noer = r.noer.bind fun a h => (k a h).noer := by
  induction r with
  | ok a h => rfl
  | er x h => rfl
  | stuck => rfl
  | all n f ih => simp only [Res.bind_all, Res.noer, ih]
theorem Ok.noer {α β γ δ : Type} {G : Gm} {E E' : XK} {as : List Addr} {H : Hp} {r : Res α} {k : α → PH → Res γ} {rel : List Addr → Hp → α → β → Prop} {rel2 : List Addr → Hp → γ → δ → Prop} {Q : β → Hp → Prop} {Q2 : δ → Hp → Prop}
    (o : Ok G E as H rel2 Q2 (r.noer.bind k)) (next : ∀ v h1 as1 H1 v', Fut G as H as1 H1 h1 → rel as1 H1 v v' → Ok G E as1 H1 rel2 Q2 (k v h1) → Q v' H1) : Ok G E' as H rel Q r := by
  induction r with
  | ok v h1 => exact fun as1 H1 v1 f1 r1 => next v h1 as1 H1 v1 f1 r1 (Ok.fut f1 o)
  | er x h1 => exact False.elim o
  | stuck => exact o
  | all n f ih => exact fun i hi => ih i (o i hi)
theorem wipe_ok {as : List Addr} {H : Hp} {ρ : PEnv} {σ : L2.St} (R : RepE G as H ρ σ) : ∀ own : List Nat, RepE G as H (own.foldr (fun i r => r.set i none) ρ) (wipe σ own)
  | [] => R
  | i :: own => by
    have ih := wipe_ok R own
    show RepE G as H ((own.foldr (fun i r => r.set i none) ρ).set i none) ((wipe σ own).set i none)
    refine ⟨by simp [ih.1], fun j v e => ?_⟩
    by_cases hj : i = j
    · subst hj
      by_cases hl : i < (own.foldr (fun i r => r.set i none) ρ).length
      · rw [List.getElem?_set_self hl] at e; cases e
      · rw [List.getElem?_eq_none (by simpa using hl)] at e; cases e
    · rw [List.getElem?_set_ne hj] at e ⊢
      exact ih.2 j v e
theorem wipe_set {σ : L2.St} {i : Nat} {v : Option V} : ∀ {own : List Nat}, i ∈ own → wipe (σ.set i v) own = wipe σ own
  | [], h => by simp at h
  | j :: own, h => by
    unfold wipe
    by_cases hj : i ∈ own
    · rw [wipe_set hj]
    · have e : i = j := by simpa [hj] using h
      subst e
      clear h
      have key : ∀ own : List Nat, i ∉ own → wipe (σ.set i v) own = (wipe σ own).set i v := fun own => by
        induction own with
        | nil => intro _; rfl
        | cons k own ih =>
          intro hn
          simp only [List.mem_cons, not_or] at hn
          unfold wipe
          rw [ih hn.2, List.set_comm _ _ hn.1]
      rw [key own hj, List.set_set]
theorem wipe_fold {own : List Nat} : ∀ {is : List Nat} {vs : List V} {σ : L2.St}, (∀ i ∈ is, i ∈ own) → wipe ((is.zip vs).foldl (fun r q => r.set q.1 (some q.2)) σ) own = wipe σ own
  | [], _, _, _ => rfl
  | i :: is, [], _, _ => rfl
  | i :: is, v :: vs, σ, h => by
    show wipe ((is.zip vs).foldl _ (σ.set i (some v))) own = _
    rw [wipe_fold (fun j hj => h j (List.mem_cons_of_mem _ hj)), wipe_set (h i List.mem_cons_self)]
theorem wipe_wipe {σ : L2.St} (own : List Nat) : wipe (wipe σ own) own = wipe σ own := by
  have key : ∀ is : List Nat, (∀ i ∈ is, i ∈ own) → wipe (wipe σ is) own = wipe σ own := fun is => by
    induction is with
    | nil => intro _; rfl
    | cons i is ih =>
      intro h
      show wipe ((wipe σ is).set i none) own = _
      rw [wipe_set (h i List.mem_cons_self)]
      exact ih fun j hj => h j (List.mem_cons_of_mem _ hj)
  exact key own fun _ h => h
def tgIs : Tg → List Nat
  | .nm j => [j]
  | .tp js => js
def lcB (T : Tb) (call : Nat → List PV → PH → Res PV) (e : Ex) (own : List Nat) (t : Tg) (ifs : List Ex) (ρ : PEnv) (x : PV) (h2 : PH) : Res (Option PV) := match bindTg t x (own.foldr (fun i r => r.set i none) ρ) with
      | none => .stuck
      | some ρ1 => ((evIf T call ifs ρ1 h2).bind fun b h3 => if b then (evE T call e ρ1 h3).bind fun y h4 => .ok (some y) h4 else .ok none h3).noer
theorem evE_lc {e : Ex} {own : List Nat} {t : Tg} {k : Ik} {its ifs : List Ex} {ρ : PEnv} {h : PH} : evE T call (.lc e own t k its ifs) ρ h = (evI T call k its ρ h).bind fun p h1 => lcRun (lcB T call e own t ifs ρ) p.1 h1.length (p.2 + 1) 0 (h1 ++ [.lst []]) := by
  unfold evI
  simp only [evE, Res.bind_assoc]
  congr 1
  funext vs h1
  cases q : wkOf k vs h1 with
  | none => rfl
  | some p => rfl
theorem lc_core' (O : XOk G T nm call fx X E) {e : Ex} {own : List Nat} {t : Tg} {k : Ik} {its ifs : List Ex} {elt tg iter : Expr} {xifs : List Expr} {sc : Scope}
    (hi : PI X tg iter (tI G E (evI T call k its))) (hb : blkC fx.N (scOf fx) sc (ownsOf fx own) = true) (htg : ∀ i ∈ tgIs t, i ∈ own)
    (hg : ∀ (X' : Cx), XOk G T nm call (fxB fx sc) X' E0 → PG X' tg (tG G t)) (ht : ∀ (X' : Cx), XOk G T nm call (fxB fx sc) X' E0 → PTs X' xifs (tT G E0 (evIf T call ifs))) (he : ∀ (X' : Cx), XOk G T nm call (fxB fx sc) X' E0 → PE X' elt (tE G E0 (evE T call e)))
    (hs : noSet iter = true) (σ : L2.St) (H : Hp) (Q : VK) : tE G E (evE T call (.lc e own t k its ifs)) σ H Q → tLc (tI G E (evI T call k its)) (tG G t) (tT G E0 (evIf T call ifs)) (tE G E0 (evE T call e)) ((ownsOf fx own).map (·.2)) σ H Q := by
  have ow : (ownsOf fx own).map (·.2) = own := by unfold ownsOf; rw [List.map_map]; exact (List.map_congr_left (fun _ _ => rfl)).trans (List.map_id own)
  intro ⟨as, ρ, h, S, R, o⟩
  rw [ow]
  rw [evE_lc] at o
  refine ⟨as, ρ, h, S, R, Ok.bind o fun p h1 as1 H1 J f1 hJ o1 D hD => ?_⟩
  -- the new list
  obtain ⟨f2, rD⟩ := f1.sr.newL (ys := []) hD .nil
  have eD : (as1 ++ [D])[h1.length]? = some D := by
    rw [← f1.sr.len, List.getElem?_append_right (Nat.le_refl _)]
    simp
  have Rw : RepE G as1 H1 ρ σ := R.fut f1
  refine ⟨fun i m H => ∃ as2 h2, Fut G (as1 ++ [D]) (upd H1 D (.lst [])) as2 H h2 ∧ OkV G E as2 H Q (lcRun (lcB T call e own t ifs ρ) p.1 h1.length m i h2), ⟨p.2 + 1, as1 ++ [D], _, Fut.refl f2.sr, Ok.fut f2 o1⟩, ?_⟩
  rintro i m H' ⟨as2, h2, f3, o2⟩
  cases m with
  | zero => exact False.elim o2
  | succ m =>
    have f23 : Fut G as1 H1 as2 H' h2 := f2.trans f3
    obtain ⟨j1, j2⟩ := hJ as2 H' h2 f23.pre f23.kp f3.sr i
    unfold lcRun at o2
    have eD2 : as2[h1.length]? = some D := pre_get f3.pre eD
    split at o2
    · exact False.elim o2
    · rename_i q
      refine .inl ⟨j1 q, okv f3.sr o2 ?_⟩
      unfold RepV
      exact ⟨D, eD2, rfl⟩
    · rename_i x q
      obtain ⟨jg, jy⟩ := j2 x q
      refine .inr ⟨jg, fun H3 => ∃ as3 h3, Fut G (as1 ++ [D]) (upd H1 D (.lst [])) as3 H3 h3 ∧ OkV G E as3 H3 Q (lcRun (lcB T call e own t ifs ρ) p.1 h1.length m (i + 1) h3), fun H3 n => ⟨m, Nat.lt_succ_self _, n⟩, fun v H3 y => ?_⟩
      obtain ⟨f4, rv⟩ := jy v H3 y
      have o3 := Ok.fut f4 o2
      have f34 := f3.trans f4
      have R3 : RepE G as2 H3 ρ σ := (Rw.fut f23).fut f4
      unfold lcB at o3
      split at o3
      · exact False.elim o3
      · rename_i ρ1 qb
        refine ⟨as2, _, h2, x, ρ1, f4.sr, wipe_ok R3 own, rv, qb, fun σ1 R1 ⟨is, vs, e1, e2⟩ => ⟨?_, ?_⟩⟩
        · rw [e1, wipe_fold (fun j hj => htg j (by have := e2 j hj; cases t <;> exact this)), wipe_wipe]
        · rw [noer_bind, Res.bind_assoc] at o3
          refine ⟨as2, ρ1, h2, f4.sr, R1, Ok.noer o3 fun b h4 as4 H4 b' f5 eb o4 => ?_⟩
          subst eb
          cases b with
          | false =>
            simp only [Bool.false_eq_true, if_false] at o4 ⊢
            exact ⟨as4, h4, f34.trans f5, o4⟩
          | true =>
            simp only [if_true] at o4 ⊢
            rw [noer_bind, Res.bind_assoc] at o4
            refine ⟨as4, ρ1, h4, f5.sr, R1.fut f5, Ok.noer o4 fun y h5 as5 H5 y' f6 ry o5 => ?_⟩
            have o6 : Ok G E as5 H5 (fun as' H' => RepV G as' H') Q (match h5[h1.length]? with
              | some (.lst acc) => if acc.length < sizeLine then lcRun (lcB T call e own t ifs ρ) p.1 h1.length m (i + 1) (h5.set h1.length (.lst (acc ++ [y]))) else .stuck
              | _ => .stuck) := o5
            split at o6
            · rename_i acc qa
              split at o6
              · rename_i hl
                have eD5 := pre_get (f5.pre.trans f6.pre) eD2
                obtain ⟨ws, eH, rl⟩ := f6.sr.lstM qa eD5
                have f7 := f6.sr.setL eD5 eH (rl.append (.cons ry .nil))
                exact ⟨ws, eH, by rw [← rl.length]; exact hl, as5, _, ((f34.trans f5).trans f6).trans f7, Ok.fut f7 o6⟩
              · exact False.elim o6
            · exact False.elim o6
theorem lc_parts (O : XOk G T nm call fx X E) {e : Ex} {own : List Nat} {t : Tg} {k : Ik} {its ifs : List Ex} {elt tg iter : Expr} {xifs : List Expr} {sc : Scope}
    (hi : PI X tg iter (tI G E (evI T call k its))) (hb : blkC fx.N (scOf fx) sc (ownsOf fx own) = true) (htg : ∀ i ∈ tgIs t, i ∈ own)
    (hg : ∀ (X' : Cx), XOk G T nm call (fxB fx sc) X' E0 → PG X' tg (tG G t)) (ht : ∀ (X' : Cx), XOk G T nm call (fxB fx sc) X' E0 → PTs X' xifs (tT G E0 (evIf T call ifs))) (he : ∀ (X' : Cx), XOk G T nm call (fxB fx sc) X' E0 → PE X' elt (tE G E0 (evE T call e)))
    (hs : noSet iter = true) : BlkOk X.N X.env.scope sc (ownsOf fx own) ∧
      (∀ (s : Shared) (H : Hp) (C : Addr) (cl : List (Str × Addr)) (fp : List Addr), PG (X.blk s H sc (compEnvC sc cl C X.env) fp) tg (tG G t)) ∧
      (∀ (s : Shared) (H : Hp) (C : Addr) (cl : List (Str × Addr)) (fp : List Addr), PTs (X.blk s H sc (compEnvC sc cl C X.env) fp) xifs (tT G E0 (evIf T call ifs))) ∧
      (∀ (s : Shared) (H : Hp) (C : Addr) (cl : List (Str × Addr)) (fp : List Addr), PE (X.blk s H sc (compEnvC sc cl C X.env) fp) elt (tE G E0 (evE T call e))) ∧
      ∀ x, foldedSetIterable iter X.env x = pure x := by
  have hb0 := blkOk_by hb
  have hu : uniqB sc = true := List.all_eq_true.mpr fun y hy => decide_eq_true (hb0.uniq y hy)
  exact ⟨⟨hb0.kind, hb0.uniq, by rw [O.N]; exact hb0.ix, fun y hy e => by rw [O.names]; exact hb0.free y hy e, by rw [O.N]; exact hb0.own⟩,
    fun s H C cl fp => hg _ (O.blk hu s H C cl fp hb0.kind), fun s H C cl fp => ht _ (O.blk hu s H C cl fp hb0.kind), fun s H C cl fp => he _ (O.blk hu s H C cl fp hb0.kind), fun x => by cases iter <;> first | rfl | cases hs⟩
theorem okE_lc (O : XOk G T nm call fx X E) {e : Ex} {own : List Nat} {t : Tg} {k : Ik} {its ifs : List Ex} {elt tg iter : Expr} {xifs : List Expr} {sc : Scope} {pos : Pos}
    (hi : PI X tg iter (tI G E (evI T call k its))) (hb : blkC fx.N (scOf fx) sc (ownsOf fx own) = true) (htg : ∀ i ∈ tgIs t, i ∈ own)
    (hg : ∀ (X' : Cx), XOk G T nm call (fxB fx sc) X' E0 → PG X' tg (tG G t)) (ht : ∀ (X' : Cx), XOk G T nm call (fxB fx sc) X' E0 → PTs X' xifs (tT G E0 (evIf T call ifs))) (he : ∀ (X' : Cx), XOk G T nm call (fxB fx sc) X' E0 → PE X' elt (tE G E0 (evE T call e)))
    (hs : noSet iter = true) : PE X (.ListComp elt [⟨tg, iter, xifs, 0⟩] sc pos) (tE G E (evE T call (.lc e own t k its ifs))) := by
  obtain ⟨h1, h2, h3, h4, h5⟩ := lc_parts O hi hb htg hg ht he hs
  exact (pe_lc O.calm O.nd hi h1 h2 h3 h4 h5).imp (lc_core' O hi hb htg hg ht he hs)
theorem _root_.L2.PTs.imp {X : Cx} {es : List Expr} {t t' : TT} (p : PTs X es t) (h : ∀ σ H Q, t' σ H Q → t σ H Q) : PTs X es t' := ⟨fun pins s σ H Q I q => p.run pins s σ H Q I (h σ H Q q)⟩
theorem okTs_nil : PTs X [] (tT G E (evIf T call [])) := by
  refine pts_nil.imp fun σ H Q ⟨as, ρ, h, S, R, o⟩ => ?_
  simp only [evIf] at o
  exact o as H true (Fut.refl S) rfl
theorem okTs_one {c : Ex} {x : Expr} (h : PT X x (tT G E (evT T call c))) : PTs X [x] (tT G E (evIf T call [c])) := by
  refine (pts_one h).imp fun σ H Q ⟨as, ρ, h, S, R, o⟩ => ⟨as, ρ, h, S, R, ?_⟩
  have e : evIf T call [c] ρ h = evT T call c ρ h := by
    simp only [evIf, evT]
    congr 1
    funext v h1
    cases q : pTru h1 v with
    | none => rfl
    | some b => cases b <;> rfl
  rw [← e]
  exact o
end
end Mn
set_option Elab.async false
set_option linter.all false
set_option maxRecDepth 100000
set_option maxHeartbeats 4000000
namespace Mn
open PySem PySem.Spec L2 PyProof.Rows
inductive FlV where
  | nx (σ : L2.St) | bk (σ : L2.St) | ct (σ : L2.St) | rt (v : V)
def relF (G : Gm) (as : List Addr) (H : Hp) : Fl → FlV → Prop
  | .nx ρ, .nx σ => RepE G as H ρ σ
  | .bk ρ, .bk σ => RepE G as H ρ σ
  | .ct ρ, .ct σ => RepE G as H ρ σ
  | .rt v, .rt x => RepV G as H v x
  | _, _ => False
def endsQ (D : Ends) : FlV → Hp → Prop
  | .nx σ, H => D.nx σ H
  | .bk σ, H => D.bk σ H
  | .ct σ, H => D.ct σ H
  | .rt v, H => D.rt v H
def tS (G : Gm) (E : XK) (ev : PEnv → PH → Res Fl) : TS := fun D σ H => ∃ as ρ h, SR G as H h ∧ RepE G as H ρ σ ∧ Ok G E as H (fun as' H' => relF G as' H') (endsQ D) (ev ρ h)
section
variable {G : Gm} {T : Tb} {nm : Nm} {call : Nat → List PV → PH → Res PV} {fx : Fx} {X : Cx} {E : XK} {W : Nat}
theorem _root_.L2.PS.imp {X : Cx} {e : Stmt} {t t' : TS} (p : PS X e t) (h : ∀ D σ H, t' D σ H → t D σ H) : PS X e t' := ⟨fun pins s σ H D I q => p.run pins s σ H D I (h D σ H q)⟩
theorem _root_.L2.PSs.imp {X : Cx} {e : List Stmt} {t t' : TS} (p : PSs X e t) (h : ∀ D σ H, t' D σ H → t D σ H) : PSs X e t' := ⟨fun pins s σ H D I q => p.run pins s σ H D I (h D σ H q)⟩
theorem okSs_nil : PSs X [] (tS G E (exSs T call W [])) := by
  refine pss_nil.imp fun D σ H ⟨as, ρ, h, S, R, o⟩ => ?_
  simp only [exSs] at o
  exact o as H (.nx σ) (Fut.refl S) R
theorem okSs_cons {s : Sm} {r : List Sm} {x : Stmt} {xs : List Stmt} (h1 : PS X x (tS G E (exS T call W s))) (h2 : PSs X xs (tS G E (exSs T call W r))) : PSs X (x :: xs) (tS G E (exSs T call W (s :: r))) := by
  refine (pss_cons h1 h2).imp fun D σ H ⟨as, ρ, h, S, R, o⟩ => ?_
  simp only [exSs] at o
  refine ⟨as, ρ, h, S, R, Ok.bind o fun f h1 as1 H1 fv f1 r1 o1 => ?_⟩
  cases f with
  | nx ρ1 =>
    cases fv with
    | nx σ1 => exact ⟨as1, ρ1, h1, f1.sr, r1, o1⟩
    | _ => exact False.elim r1
  | bk ρ1 =>
    cases fv with
    | bk σ1 => exact o1 as1 H1 (.bk σ1) (Fut.refl f1.sr) r1
    | _ => exact False.elim r1
  | ct ρ1 =>
    cases fv with
    | ct σ1 => exact o1 as1 H1 (.ct σ1) (Fut.refl f1.sr) r1
    | _ => exact False.elim r1
  | rt v =>
    cases fv with
    | rt v1 => exact o1 as1 H1 (.rt v1) (Fut.refl f1.sr) r1
    | _ => exact False.elim r1
theorem okS_pass {p : Pos} : PS X (.Pass p) (tS G E (exS T call W .pass)) := ps_pass.imp fun D σ H ⟨as, ρ, h, S, R, o⟩ => by
  simp only [exS] at o
  exact o as H (.nx σ) (Fut.refl S) R
theorem okS_brk {p : Pos} : PS X (.Break p) (tS G E (exS T call W .brk)) := ps_break.imp fun D σ H ⟨as, ρ, h, S, R, o⟩ => by
  simp only [exS] at o
  exact o as H (.bk σ) (Fut.refl S) R
theorem okS_cnt {p : Pos} : PS X (.Continue p) (tS G E (exS T call W .cnt)) := ps_continue.imp fun D σ H ⟨as, ρ, h, S, R, o⟩ => by
  simp only [exS] at o
  exact o as H (.ct σ) (Fut.refl S) R
theorem okS_never {x : Stmt} : PS X x (tS G E (exS T call W .never)) := ⟨fun pins s σ H D I ⟨as, ρ, h, S, R, o⟩ => False.elim (by simp only [exS] at o; exact o)⟩
theorem okS_retn {p : Pos} : PS X (.Return none p) (tS G E (exS T call W .retn)) := ps_retN.imp fun D σ H ⟨as, ρ, h, S, R, o⟩ => by
  simp only [exS] at o
  exact o as H (.rt .non) (Fut.refl S) (show RepV G as H .non .non from .non)
theorem okS_ret {e : Ex} {x : Expr} {p : Pos} (he : PE X x (tE G E (evE T call e))) : PS X (.Return (some x) p) (tS G E (exS T call W (.ret e))) := by
  refine (ps_ret he).imp fun D σ H ⟨as, ρ, h, S, R, o⟩ => ?_
  simp only [exS] at o
  exact ⟨as, ρ, h, S, R, Ok.bind o fun v h1 as1 H1 v' f1 r1 o1 => o1 as1 H1 (.rt v') (Fut.refl f1.sr) r1⟩
def isComp : Expr → Bool
  | .ListComp .. | .SetComp .. | .DictComp .. => true
  | _ => false
theorem noSwap {e : Expr} {t : Option Expr} {l : Nat} {env : Env} (h : isComp e = false) : swapsWith e t l env = pure false := by cases e <;> first | rfl | cases h
theorem okS_ex {e : Ex} {x : Expr} {p : Pos} (hc : isComp x = false) (he : PE X x (tE G E (evE T call e))) : PS X (.Expr x p) (tS G E (exS T call W (.ex e))) := by
  refine (ps_expr he (noSwap hc)).imp fun D σ H ⟨as, ρ, h, S, R, o⟩ => ?_
  simp only [exS] at o
  exact ⟨as, ρ, h, S, R, Ok.bind o fun v h1 as1 H1 v' f1 r1 o1 => o1 as1 H1 (.nx σ) (Fut.refl f1.sr) (R.fut f1)⟩
theorem okS_ite {c : Ex} {a b : List Sm} {z : Expr} {xa xb : List Stmt} {p : Pos} (hc : PT X z (tT G E (evT T call c))) (ha : PSs X xa (tS G E (exSs T call W a))) (hb : PSs X xb (tS G E (exSs T call W b))) : PS X (.If z xa xb p) (tS G E (exS T call W (.ite c a b))) := by
  refine (ps_if hc ha hb).imp fun D σ H ⟨as, ρ, h, S, R, o⟩ => ?_
  simp only [exS] at o
  refine ⟨as, ρ, h, S, R, Ok.bind o fun t h1 as1 H1 t' f1 r1 o1 => ?_⟩
  subst r1
  cases t with
  | true => exact ⟨as1, ρ, h1, f1.sr, R.fut f1, o1⟩
  | false => exact ⟨as1, ρ, h1, f1.sr, R.fut f1, o1⟩
theorem okS_wh {c : Ex} {b : List Sm} {z : Expr} {xb : List Stmt} {p : Pos} (po : PassesOwn (model X.prog X.w) X.A X.env X.xe) (hc : PT X z (tT G E (evT T call c))) (hb : PSs X xb (tS G E (exSs T call W b))) : PS X (.While z xb [] p) (tS G E (exS T call W (.wh c b))) := by
  refine (ps_while po hc hb).imp fun D σ H ⟨as, ρ, h, S, R, o⟩ => ?_
  simp only [exS] at o
  refine ⟨fun m σ H => ∃ as ρ h, SR G as H h ∧ RepE G as H ρ σ ∧ Ok G E as H (fun as' H' => relF G as' H') (endsQ D) (whRun (evT T call c) (exSs T call W b) m ρ h), ⟨W, as, ρ, h, S, R, o⟩, ?_⟩
  rintro m σ H ⟨as, ρ, h, S, R, o⟩
  cases m with
  | zero => exact False.elim o
  | succ m =>
    unfold whRun at o
    refine ⟨as, ρ, h, S, R, Ok.bind o fun t h1 as1 H1 t' f1 r1 o1 => ?_⟩
    subst r1
    cases t with
    | false => exact o1 as1 H1 (.nx σ) (Fut.refl f1.sr) (R.fut f1)
    | true =>
      simp only [if_true] at o1 ⊢
      refine ⟨fun σ' H' => ∃ as ρ h, SR G as H' h ∧ RepE G as H' ρ σ' ∧ Ok G E as H' (fun as' H' => relF G as' H') (endsQ D) (whRun (evT T call c) (exSs T call W b) m ρ h), fun σ' H' n => ⟨m, Nat.lt_succ_self _, n⟩, ?_⟩
      refine ⟨as1, ρ, h1, f1.sr, R.fut f1, Ok.bind o1 fun f h2 as2 H2 fv f2 r2 o2 => ?_⟩
      cases f with
      | nx ρ1 =>
        cases fv with
        | nx σ1 => exact ⟨as2, ρ1, h2, f2.sr, r2, o2⟩
        | _ => exact False.elim r2
      | bk ρ1 =>
        cases fv with
        | bk σ1 => exact o2 as2 H2 (.nx σ1) (Fut.refl f2.sr) r2
        | _ => exact False.elim r2
      | ct ρ1 =>
        cases fv with
        | ct σ1 => exact ⟨as2, ρ1, h2, f2.sr, r2, o2⟩
        | _ => exact False.elim r2
      | rt v =>
        cases fv with
        | rt v1 => exact o2 as2 H2 (.rt v1) (Fut.refl f2.sr) r2
        | _ => exact False.elim r2
def forB (T : Tb) (call : Nat → List PV → PH → Res PV) (W : Nat) (t : Tg) (b : List Sm) (x : PV) (ρ1 : PEnv) (h2 : PH) : Res Fl := match bindTg t x ρ1 with
      | none => .stuck
      | some ρ2 => exSs T call W b ρ2 h2
theorem exS_for {t : Tg} {k : Ik} {its : List Ex} {b : List Sm} {ρ : PEnv} {h : PH} : exS T call W (.for_ t k its b) ρ h = (evI T call k its ρ h).bind fun p h1 => forRun (forB T call W t b) p.1 (p.2 + 1) 0 ρ h1 := by
  unfold evI
  simp only [exS, Res.bind_assoc]
  congr 1
  funext vs h1
  cases q : wkOf k vs h1 with
  | none => rfl
  | some p => rfl
theorem okS_for (O : XOk G T nm call fx X E) {t : Tg} {k : Ik} {its : List Ex} {b : List Sm} {tg iter : Expr} {xb : List Stmt} {p : Pos} (po : PassesOwn (model X.prog X.w) X.A X.env X.xe) (hi : PI X tg iter (tI G E (evI T call k its))) (hg : PG X tg (tG G t)) (hb : PSs X xb (tS G E (exSs T call W b))) (hs : noSet iter = true) :
    PS X (.For tg iter xb [] p) (tS G E (exS T call W (.for_ t k its b))) := by
  refine (ps_for po O.calm hi hg hb (fun x => by cases iter <;> first | rfl | cases hs)).imp fun D σ H ⟨as, ρ, h, S, R, o⟩ => ?_
  rw [exS_for] at o
  refine ⟨as, ρ, h, S, R, Ok.bind o fun p h1 as1 H1 J f1 hJ o1 => ?_⟩
  refine ⟨fun i m σ H => ∃ as2 ρ2 h2, Fut G as1 H1 as2 H h2 ∧ RepE G as2 H ρ2 σ ∧ Ok G E as2 H (fun as' H' => relF G as' H') (endsQ D) (forRun (forB T call W t b) p.1 m i ρ2 h2), ⟨p.2 + 1, as1, ρ, h1, Fut.refl f1.sr, R.fut f1, o1⟩, ?_⟩
  rintro i m σ2 H2 ⟨as2, ρ2, h2, f2, R2, o2⟩
  cases m with
  | zero => exact False.elim o2
  | succ m =>
    obtain ⟨j1, j2⟩ := hJ as2 H2 h2 f2.pre f2.kp f2.sr i
    unfold forRun at o2
    split at o2
    · exact False.elim o2
    · rename_i q
      exact .inl ⟨j1 q, o2 as2 H2 (.nx σ2) (Fut.refl f2.sr) R2⟩
    · rename_i x q
      obtain ⟨jg, jy⟩ := j2 x q
      refine .inr ⟨jg, fun σ3 H3 => ∃ as3 ρ3 h3, Fut G as1 H1 as3 H3 h3 ∧ RepE G as3 H3 ρ3 σ3 ∧ Ok G E as3 H3 (fun as' H' => relF G as' H') (endsQ D) (forRun (forB T call W t b) p.1 m (i + 1) ρ3 h3), fun σ3 H3 n => ⟨m, Nat.lt_succ_self _, n⟩, fun v H3 y => ?_⟩
      obtain ⟨f3, rv⟩ := jy v H3 y
      have o3 := Ok.fut f3 o2
      unfold forB at o3
      split at o3
      · exact False.elim o3
      · rename_i ρ3 qb
        refine ⟨as2, ρ2, h2, x, ρ3, f3.sr, R2.fut f3, rv, qb, fun σ3 R3 _ => ?_⟩
        refine ⟨as2, ρ3, h2, f3.sr, R3, Ok.bind o3 fun f h4 as4 H4 fv f4 r4 o4 => ?_⟩
        cases f with
        | nx ρ1 =>
          cases fv with
          | nx σ1 => exact ⟨as4, ρ1, h4, (f2.trans f3).trans f4, r4, o4⟩
          | _ => exact False.elim r4
        | bk ρ1 =>
          cases fv with
          | bk σ1 => exact o4 as4 H4 (.nx σ1) (Fut.refl f4.sr) r4
          | _ => exact False.elim r4
        | ct ρ1 =>
          cases fv with
          | ct σ1 => exact ⟨as4, ρ1, h4, (f2.trans f3).trans f4, r4, o4⟩
          | _ => exact False.elim r4
        | rt v =>
          cases fv with
          | rt v1 => exact o4 as4 H4 (.rt v1) (Fut.refl f4.sr) r4
          | _ => exact False.elim r4
theorem okS_nm (O : XOk G T nm call fx X E) {i : Nat} {e : Ex} {t x : Expr} {p : Pos} (ht : chkNm fx i t = true) (hc : isComp x = false) (he : PE X x (tE G E (evE T call e))) : PS X (.Assign [t] x p) (tS G E (exS T call W (.asg (.nm i) e))) := by
  cases t with
  | Name y q =>
    simp only [chkNm, Bool.and_eq_true, decide_eq_true_eq, List.contains_iff_mem] at ht
    obtain ⟨l, f⟩ := O.st y ht.2
    refine (ps_set (i := i) O.nd (by rw [O.N]; exact ht.1) l he (noSwap hc) f).imp fun D σ H ⟨as, ρ, h, S, R, o⟩ => ?_
    simp only [exS, asgTa, Res.bind_ok] at o
    exact ⟨as, ρ, h, S, R, Ok.bind o fun v h1 as1 H1 v' f1 r1 o1 => o1 as1 H1 (.nx _) (Fut.refl f1.sr) ((R.fut f1).set i r1)⟩
  | _ => cases ht
def lcLine (y : Str) (py pos : Pos) (sc : Scope) (l : Nat) : Bool := (py.line == pos.line) && !(sc.names.any fun (n, k) => n == y && (k == .local || k == .cell))
theorem okS_nmLc (O : XOk G T nm call fx X E) {i : Nat} {y : Str} {py spos : Pos} {e : Ex} {own : List Nat} {t : Tg} {k : Ik} {its ifs : List Ex} {elt tg iter : Expr} {xifs : List Expr} {sc : Scope} {pos : Pos}
    (hy : fx.N[i]? = some y) (hl : fx.names.lookup y = some .local) (hline : lcLine y py pos sc spos.line = true)
    (hi : PI X tg iter (tI G E (evI T call k its))) (hb : blkC fx.N (scOf fx) sc (ownsOf fx own) = true) (htg : ∀ i ∈ tgIs t, i ∈ own)
    (hg : ∀ (X' : Cx), XOk G T nm call (fxB fx sc) X' E0 → PG X' tg (tG G t)) (ht : ∀ (X' : Cx), XOk G T nm call (fxB fx sc) X' E0 → PTs X' xifs (tT G E0 (evIf T call ifs))) (he : ∀ (X' : Cx), XOk G T nm call (fxB fx sc) X' E0 → PE X' elt (tE G E0 (evE T call e)))
    (hs : noSet iter = true) : PS X (.Assign [.Name y py] (.ListComp elt [⟨tg, iter, xifs, 0⟩] sc pos) spos) (tS G E (exS T call W (.asg (.nm i) (.lc e own t k its ifs)))) := by
  obtain ⟨hbk, hpg, hpt, hpe, fs⟩ := lc_parts O hi hb htg hg ht he hs
  simp only [lcLine, Bool.and_eq_true, Bool.not_eq_true'] at hline
  refine (ps_setLc O.calm O.nd (i := i) (by rw [O.N]; exact hy) (by rw [O.names]; exact hl) (sw_true O.kind (by rw [O.names]; exact hl) hline.1 hline.2) hi hbk hpg hpt hpe fs).imp fun D σ H ⟨as, ρ, h, S, R, o⟩ => ?_
  simp only [exS, asgTa, Res.bind_ok] at o
  refine lc_core' O hi hb htg hg ht he hs σ H _ ⟨as, ρ, h, S, R, Ok.bind o fun v h1 as1 H1 v' f1 r1 o1 => ?_⟩
  exact o1 as1 H1 (.nx _) (Fut.refl f1.sr) ((R.fut f1).set i r1)
end
end Mn
set_option Elab.async false
set_option linter.all false
set_option maxRecDepth 100000
set_option maxHeartbeats 4000000
namespace Mn
open PySem PySem.Spec L2 PyProof.Rows
section
variable {G : Gm} {T : Tb} {nm : Nm} {call : Nat → List PV → PH → Res PV} {fx : Fx} {X : Cx} {E : XK} {W : Nat}
def rSet (G : Gm) : TSet := fun o i v H Q => ∃ as h x y z h', SR G as H h ∧ RepV G as H x o ∧ RepV G as H y i ∧ RepV G as H z v ∧ pSet x y z h = some h' ∧ ∀ H', Fut G as H as H' h' → Q H'
theorem keyOf_ok {y : PV} {k : Key} {as : List Addr} {H : Hp} {v : V} (e : keyOf y = some k) (r : RepV G as H y v) : v = kV k := by
  cases y with
  | int i => cases e; rw [r.intE]; rfl
  | str x => cases e; rw [r.strE]; rfl
  | _ => cases e
theorem set_all (hu : X.A.units + 70 < cLine) : PSet X (rSet G) := by
  intro pins s σ H o i v ov iv u Q I ro ri rv h
  obtain ⟨as, h, x, y, z, h', S, rx, ry, rz, e, q⟩ := h
  cases x with
  | ref l =>
    obtain ⟨a, ea, rfl⟩ := rx.refE
    simp only [pSet] at e
    split at e
    · rename_i xs q1
      split at e
      · rename_i j
        split at e
        · rename_i m qm
          cases e
          obtain ⟨vs, e1, rl⟩ := S.lstM q1 ea
          obtain rfl := ry.intE
          exact set_list pins s σ H _ _ v ov iv u Q I ro ri rv ⟨a, vs, j, m, rfl, rfl, e1, by rw [← rl.length]; exact qm, q _ (S.setL ea e1 (rl.set m rz))⟩
        · cases e
      · cases e
    · rename_i kvs q1
      split at e
      · rename_i k qk
        split at e
        · rename_i hl
          cases e
          obtain ⟨ks, ed, rk⟩ := S.dic q1 ea
          obtain rfl := keyOf_ok qk ry
          have hl2 : ks.length = kvs.length := by
            clear q hl q1 ed
            induction kvs generalizing ks with
            | nil => unfold RepK at rk; subst rk; rfl
            | cons p r ih =>
              obtain ⟨k', x'⟩ := p
              unfold RepK at rk
              obtain ⟨v', r', rfl, _, r2⟩ := rk
              simp [ih _ r2]
          refine set_dict (by omega) pins s σ H _ _ v ov iv u Q I ro ri rv ⟨a, _, rfl, DPut.k ed (by rw [hl2]; exact hl), q _ (S.setD ea ed (dPut_ok rk rz))⟩
        · cases e
      · cases e
    · cases e
  | _ => cases e
theorem noSwapIx {e o i : Expr} {l : Nat} {env : Env} {p : Pos} : swapsWithSole [.Subscript o i p] e l env = pure false := by cases e <;> rfl
theorem noStoresIx {e o i : Expr} {env : Env} {p : Pos} : swappedStores [.Subscript o i p] e env = pure none := by cases e <;> rfl
theorem okS_ix (O : XOk G T nm call fx X E) {e o i : Ex} {x xo xi : Expr} {p p2 : Pos} (hy : isSlice xi = false) (he : PE X x (tE G E (evE T call e))) (ho : PE X xo (tE G E (evE T call o))) (hi : PE X xi (tE G E (evE T call i))) :
    PS X (.Assign [.Subscript xo xi p2] x p) (tS G E (exS T call W (.asg (.ix o i) e))) := by
  refine (ps_asg he (pg_sub ho hi (set_all (G := G) O.hu) (fun v => by cases xi <;> first | rfl | cases hy)) noSwapIx noStoresIx).imp fun D σ H ⟨as, ρ, h, S, R, q⟩ => ?_
  simp only [exS, asgTa, Res.bind_assoc] at q
  refine ⟨as, ρ, h, S, R, Ok.bind q fun v h1 as1 H1 v' f1 r1 q1 => ⟨as1, ρ, h1, f1.sr, R.fut f1, Ok.bind q1 fun w h2 as2 H2 w' f2 r2 q2 => ⟨as2, ρ, h2, f2.sr, (R.fut f1).fut f2, Ok.bind q2 fun k h3 as3 H3 k' f3 r3 q3 => ?_⟩⟩⟩
  split at q3
  · rename_i h4 q4
    refine ⟨as3, h3, w, k, v, h4, f3.sr, r2.fut f3, r3, (r1.fut f2).fut f3, q4, fun H' f4 => ?_⟩
    simp only [Res.bind_ok] at q3
    exact q3 as3 H' (.nx σ) f4 (((R.fut f1).fut f2).fut f3 |>.fut f4)
  · exact False.elim q3
def swNone : Expr → Bool
  | .Tuple vs _ _ => vs.all (foldedForSure 8)
  | _ => true
theorem swNone_ok {ts : List Expr} {k : Nat} {p : Pos} {x : Expr} {env : Env} (h : swNone x = true) : swappedStores [.Tuple ts k p] x env = pure none := by
  cases x with
  | Tuple vs kk pp =>
    have hf : vs.all (foldedForSure 8) = true := h
    unfold swappedStores
    dsimp only
    rw [hf]
    split
    · rfl
    · split
      · rfl
      · split
        · rfl
        · rfl
  | _ => rfl
theorem noSwapTp {x : Expr} {ts : List Expr} {k l : Nat} {p : Pos} {env : Env} : swapsWithSole [.Tuple ts k p] x l env = pure false := by cases x <;> rfl
theorem okS_tp (O : XOk G T nm call fx X E) {e : Ex} {is : List Nat} {x : Expr} {ts : List Expr} {k : Nat} {p p2 : Pos} (hs : swNone x = true) (ht : chkNms fx is ts = true) (he : PE X x (tE G E (evE T call e))) :
    PS X (.Assign [.Tuple ts k p2] x p) (tS G E (exS T call W (.asg (.tp is) e))) := by
  refine (ps_asg he (okG_tg (G := G) (T := T) (nm := nm) (call := call) (E := E) O (t := .tp is) (e := .Tuple ts k p2) ht) noSwapTp (swNone_ok hs)).imp fun D σ H ⟨as, ρ, h, S, R, q⟩ => ?_
  simp only [exS, asgTa] at q
  refine ⟨as, ρ, h, S, R, Ok.bind q fun v h1 as1 H1 v' f1 r1 q1 => ?_⟩
  split at q1
  · rename_i ρ1 qb
    refine ⟨as1, ρ, h1, v, ρ1, f1.sr, R.fut f1, r1, qb, fun σ' R' _ => ?_⟩
    exact q1 as1 H1 (.nx σ') (Fut.refl f1.sr) R'
  · exact False.elim q1
def locB (names : List (Str × NameKind)) (x : Str) : Bool := match names.lookup x with
  | some .local => true
  | _ => false
theorem locB_ok {names : List (Str × NameKind)} {x : Str} (h : locB names x = true) : names.lookup x = some .local := by
  unfold locB at h
  split at h
  · rename_i q; exact q
  · cases h
def par2B (names : List (Str × NameKind)) (x y : Str) (px py : Pos) (a b : Expr) : Bool := locB names x && locB names y && decide (x ≠ y) && (py.line == px.line) && !isStar a && !isStar b && !(foldedForSure 8 a && foldedForSure 8 b) && !(constantsAlone 8 a && constantsAlone 8 b)
theorem bk_fn {env : Env} (h : env.scope.kind = .function) : env.blockKind = .function := by
  unfold Env.blockKind
  rw [h]
  rfl
theorem par2_ok {env : Env} {x y : Str} {px py p p2 : Pos} {k k2 : Nat} {a b : Expr} (hk : env.scope.kind = .function) (h : par2B env.scope.names x y px py a b = true) : swappedStores [.Tuple [.Name x px, .Name y py] k p] (.Tuple [a, b] k2 p2) env = pure (some [x, y]) := by
  unfold par2B at h
  simp only [Bool.and_eq_true, Bool.not_eq_true', decide_eq_true_eq] at h
  obtain ⟨⟨⟨⟨⟨⟨⟨h1, h2⟩, h3⟩, h4⟩, h5⟩, h6⟩, h7⟩, h8⟩ := h
  have k1 : env.kindOf x = some .local := locB_ok h1
  have k2 : env.kindOf y = some .local := locB_ok h2
  have hb := bk_fn hk
  have ha : ([a, b].any fun e => match e with | .Starred .. => true | _ => false) = false := by
    have q : ∀ e : Expr, isStar e = false → (match e with | .Starred .. => true | _ => false) = false := fun e he => by cases e <;> first | rfl | cases he
    simp only [List.any_cons, List.any_nil, q a h5, q b h6, Bool.or_false]
  have hf : [a, b].all (foldedForSure 8) = false := by simpa using h7
  have hc : [a, b].all (constantsAlone 8) = false := by simpa using h8
  have ed : [x, y].eraseDups.length = 2 := by
    rw [List.eraseDups_cons]
    have : [y].filter (fun b => !b == x) = [y] := by
      have hyx : (y == x) = false := by
        rw [beq_eq_false_iff_ne]
        exact fun z => h3 z.symm
      simp [hyx]
    rw [this]
    rfl
  have hb2 : (env.blockKind != ScopeKind.function) = false := by rw [hb]; rfl
  have l1 : (px.line == px.line) = true := by simp
  unfold swappedStores
  dsimp only
  simp only [hb2]
  generalize hA : List.any [a, b] _ = A
  have eA : A = false := by rw [← hA]; exact ha
  generalize hN : List.filterMap _ [Expr.Name x px, Expr.Name y py] = N
  have eN : N = [x, y] := by
    rw [← hN]
    simp only [List.filterMap_cons, List.filterMap_nil, k1, k2, List.head?, Option.map, Option.getD, Expr.pos, h4, l1]
    rfl
  rw [eA, eN, hf, hc]
  simp only [ed]
  rfl
end
end Mn
set_option Elab.async false
set_option linter.all false
set_option maxRecDepth 100000
set_option maxHeartbeats 4000000
namespace Mn
open PySem PySem.Spec L2 PyProof.Rows
section
variable {G : Gm} {T : Tb} {nm : Nm} {call : Nat → List PV → PH → Res PV} {fx : Fx} {X : Cx} {E : XK} {W : Nat}
theorem Ok.bind_call {f : Nat} {np : Nat} {as : List Addr} {H : Hp} {Q : V → Hp → Prop} {vs : List PV} {h : PH} {xs : List V} (ar : ∀ xs h, xs.length ≠ np → call f xs h = .stuck) (S : SR G as H h) (r : RepVs G as H vs xs) (o : OkV G E as H Q (call f vs h)) : spF G call f np xs H Q E := by
  by_cases hl : vs.length = np
  · exact ⟨by rw [← r.length]; exact hl, as, h, vs, S, r, o⟩
  · rw [ar vs h hl] at o
    exact False.elim o
theorem okE_call (O : XOk G T nm call fx X E) {g f : Nat} {es : List Ex} {x : Str} {y : Expr} {ys : List Expr} {p pos : Pos} (hg : nm.gn[g]? = some x) (hf : T.glob[g]? = some (.fn f)) (hb : glB fx.names x = true) (hp : plainName x = true)
    (hx : isStar y = false) (hxs : ys.all (fun x => !isStar x) = true) (ha : PA X (y :: ys) (tA G E (evEs T call es))) : PE X (.Call (.Name x p) (y :: ys) [] pos) (tE G E (evE T call (.call g es))) := by
  obtain ⟨k, fd, ps, F, hr, hk, hbd, hm, ar⟩ := O.fns g x f hg hf
  refine (pe_call F hr (gl_ok O hb) hm hk hbd .nil O.pass ha (plain_ok hp).1 (star_cons hx) (noStars hxs)).imp fun σ H Q ⟨as, ρ, h, S, R, o⟩ => ?_
  simp only [evE, hf, callG] at o
  refine ⟨as, ρ, h, S, R, Ok.bind o fun vs h1 as1 H1 vs' f1 r1 o1 => ?_⟩
  rw [List.append_nil]
  exact Ok.bind_call ar f1.sr r1 o1
theorem okE_call0 (O : XOk G T nm call fx X E) {g f : Nat} {x : Str} {p pos : Pos} (hg : nm.gn[g]? = some x) (hf : T.glob[g]? = some (.fn f)) (hb : glB fx.names x = true) (hp : plainName x = true) :
    PE X (.Call (.Name x p) [] [] pos) (tE G E (evE T call (.call g []))) := by
  obtain ⟨k, fd, ps, F, hr, hk, hbd, hm, ar⟩ := O.fns g x f hg hf
  refine (pe_call0 F hr (gl_ok O hb) hm hk hbd .nil O.pass (plain_ok hp).1).imp fun σ H Q ⟨as, ρ, h, S, R, o⟩ => ?_
  simp only [evE, hf, callG, evEs, Res.bind_ok] at o
  show spF G call f ps.length ([] ++ []) H Q E
  exact Ok.bind_call ar S .nil o
theorem noBase {o : Expr} {m : Str} {env : Env} (h : o.pos = o.pos) : True := trivial
def notCall : Expr → Bool
  | .Call .. => false
  | _ => true
theorem few_ok {xs : List Expr} {env : Env} {pos : Pos} (h : xs.all (fun x => !isStar x) = true) (hl : xs.length < 29) :
    ((backTo pos (starEach xs env)).all (fun x => !x.1) && (backToKw pos (keywordEach [] env)).all (fun x => x.1.isSome) && decide (xs.length + ([] : List Keyword).length + (if ([] : List Keyword).isEmpty then 0 else 1) < 30)) = true := by
  have h1 : (backTo pos (starEach xs env)).all (fun x => !x.1) = true := by
    clear hl
    induction xs with
    | nil => rfl
    | cons x xs ih =>
      simp only [List.all_cons, Bool.and_eq_true, Bool.not_eq_true'] at h
      rw [star_cons h.1]
      show (!false && (backTo pos (starEach xs env)).all (fun x => !x.1)) = true
      rw [ih h.2]
      rfl
  rw [h1]
  have h2 : (backToKw pos (keywordEach [] env)).all (fun x => x.1.isSome) = true := rfl
  rw [h2]
  simp only [List.length_nil, List.isEmpty_nil, if_true, Bool.true_and, decide_eq_true_eq]
  omega
def tMB (X : Cx) (name : Str) (to : TE) (t : TA) : TE := fun σ H Q => to σ H fun x H1 => ∃ (TT id : String) (r : V → List V → Hp → VK → Prop), PlainAttrs TT ∧ Slot TT name id ∧ typeOf (.builtin id) = pure (.type "method_descriptor") ∧ MtR X id r ∧ tyV X.K TT x H1 ∧ t σ H1 fun xs H2 => r x xs H2 Q
theorem pe_mtB {o e : Expr} {es : List Expr} {to : TE} {t : TA} {name : Str} {apos cpos : Pos} (ho : PE X o to) (ha : PA X (e :: es) t) (hbase : attributeBase o name X.env (eval o X.env) = eval o X.env)
    (hxs : (e :: es).all (fun x => !isStar x) = true) (hl : (e :: es).length < 29) (hline : (apos.endLine == cpos.line) = true) : PE X (.Call (.Attribute o name apos) (e :: es) [] cpos) (tMB X name to t) := by
  refine ⟨fun pins s σ H Q I h => ?_⟩
  refine wpAny_Call_method_late hbase (few_ok hxs hl) hline rfl (thn (ho.run pins s σ H _ I h) fun v s1 ⟨x, H1, I1, r1, TT, id, r, pa, slot, hty, hm, ty, q1⟩ => ?_)
  obtain ⟨h1, h2⟩ := tyV_is I1 r1 ty
  refine ⟨TT, id, pa, slot, hty, h1, h2, ?_⟩
  have hA := ha.run cpos pins s1 σ H1 _ I1 q1
  simp only [List.all_cons, Bool.and_eq_true, Bool.not_eq_true'] at hxs
  rw [star_cons hxs.1] at hA ⊢
  refine Calls.callWith_builtin (by show (false || (backTo cpos (starEach es X.env)).any (·.1)) = false; rw [noStars hxs.2] <;> rfl) (Calls.evalArgs_plain ?_)
  exact thn hA fun us s2 ⟨vs, H2, I2, r2, q2⟩ => hm pins s2 σ H2 x vs v us Q I2 r1 r2 q2
def tMB0 (X : Cx) (name : Str) (to : TE) : TE := fun σ H Q => to σ H fun x H1 => ∃ (TT id : String) (r : V → List V → Hp → VK → Prop), PlainAttrs TT ∧ Slot TT name id ∧ typeOf (.builtin id) = pure (.type "method_descriptor") ∧ MtR X id r ∧ tyV X.K TT x H1 ∧ r x [] H1 Q
theorem pe_mtB0 {o : Expr} {to : TE} {name : Str} {apos cpos : Pos} (ho : PE X o to) (hbase : attributeBase o name X.env (eval o X.env) = eval o X.env) (hline : (apos.endLine == cpos.line) = true) : PE X (.Call (.Attribute o name apos) [] [] cpos) (tMB0 X name to) := by
  refine ⟨fun pins s σ H Q I h => ?_⟩
  refine wpAny_Call_method0_late hbase hline (thn (ho.run pins s σ H _ I h) fun v s1 ⟨x, H1, I1, r1, TT, id, r, pa, slot, hty, hm, ty, q1⟩ => ?_)
  obtain ⟨h1, h2⟩ := tyV_is I1 r1 ty
  exact ⟨TT, id, pa, slot, hty, h1, h2, Calls.callWith_builtin rfl (PySem.evalArgs_none (hm pins s1 σ H1 x [] v [] Q I1 r1 .nil q1))⟩
def notNone : Bm → Bool
  | .none => false
  | _ => true
theorem evE_mt {m : Nat} {b : Bm} {o : Ex} {es : List Ex} (hb : notNone b = true) (ρ : PEnv) (h : PH) : evE T call (.mt m b o es) ρ h = (evE T call o ρ h).bind fun v h1 => match Bq.of b (kindAt h1 v) with
      | some q => (evEs T call es ρ h1).bind fun vs h2 => pBq q v vs h2
      | none => .stuck := by cases b <;> first | rfl | cases hb
theorem okE_mt (O : XOk G T nm call fx X E) {m : Nat} {b : Bm} {o : Ex} {es : List Ex} {xo y : Expr} {ys : List Expr} {apos pos : Pos} (hb : notNone b = true) (ho : PE X xo (tE G E (evE T call o))) (ha : PA X (y :: ys) (tA G E (evEs T call es)))
    (hbase : attributeBase xo b.nm X.env (eval xo X.env) = eval xo X.env) (hxs : (y :: ys).all (fun x => !isStar x) = true) (hl : (y :: ys).length < 29) (hline : (apos.endLine == pos.line) = true) :
    PE X (.Call (.Attribute xo b.nm apos) (y :: ys) [] pos) (tE G E (evE T call (.mt m b o es))) := by
  refine (pe_mtB ho ha hbase hxs hl hline).imp fun σ H Q ⟨as, ρ, h, S, R, o⟩ => ?_
  rw [evE_mt hb] at o
  refine ⟨as, ρ, h, S, R, Ok.bind o fun v h1 as1 H1 v' f1 r1 o1 => ?_⟩
  split at o1
  · rename_i q qe
    refine ⟨q.T, q.id, rMq G E q, bq_plain q, bq_slot qe, bq_ty q, mt_bq O.K O.hu q, kind_ty O.K f1.sr qe r1, as1, ρ, h1, f1.sr, R.fut f1, Ok.bind o1 fun vs h2 as2 H2 vs' f2 r2 o2 => ?_⟩
    exact ⟨as2, h2, v, vs, f2.sr, r1.fut f2, r2, o2⟩
  · exact False.elim o1
theorem okE_mt0 (O : XOk G T nm call fx X E) {m : Nat} {b : Bm} {o : Ex} {xo : Expr} {apos pos : Pos} (hb : notNone b = true) (ho : PE X xo (tE G E (evE T call o))) (hbase : attributeBase xo b.nm X.env (eval xo X.env) = eval xo X.env) (hline : (apos.endLine == pos.line) = true) :
    PE X (.Call (.Attribute xo b.nm apos) [] [] pos) (tE G E (evE T call (.mt m b o []))) := by
  refine (pe_mtB0 ho hbase hline).imp fun σ H Q ⟨as, ρ, h, S, R, o⟩ => ?_
  rw [evE_mt hb] at o
  refine ⟨as, ρ, h, S, R, Ok.bind o fun v h1 as1 H1 v' f1 r1 o1 => ?_⟩
  split at o1
  · rename_i q qe
    simp only [evEs, Res.bind_ok] at o1
    exact ⟨q.T, q.id, rMq G E q, bq_plain q, bq_slot qe, bq_ty q, mt_bq O.K O.hu q, kind_ty O.K f1.sr qe r1, as1, h1, v, [], f1.sr, r1, .nil, o1⟩
  · exact False.elim o1
end
end Mn
set_option Elab.async false
set_option linter.all false
set_option maxRecDepth 100000
set_option maxHeartbeats 4000000
namespace Mn
open PySem PySem.Spec L2 PyProof.Rows
def baseB : Expr → Bool
  | .Call (.Name ..) [] [] _ => false
  | _ => true
theorem base_ok {o : Expr} {m : Str} {env : Env} {w : Sem Value} (h : baseB o = true) : attributeBase o m env w = w := by
  unfold attributeBase
  split
  · cases h
  · rfl
section
variable {G : Gm} {T : Tb} {nm : Nm} {call : Nat → List PV → PH → Res PV} {fx : Fx} {X : Cx} {E : XK} {W : Nat}
theorem noStarE {e : Ex} (h : (match e with | .star _ => false | _ => true) = true) : ∀ x, e ≠ .star x := fun x e => by subst e; cases h
theorem okS_par2 (O : XOk G T nm call fx X E) {es : List Ex} {i j : Nat} {x y : Str} {px py p p2 pos : Pos} {k k2 : Nat} {a b : Expr} (hi : fx.N[i]? = some x) (hj : fx.N[j]? = some y) (hp : par2B fx.names x y px py a b = true) (ha : PA X [a, b] (tA G E (evEs T call es))) :
    PS X (.Assign [.Tuple [.Name x px, .Name y py] k p] (.Tuple [a, b] k2 p2) pos) (tS G E (exS T call W (.asg (.tp [i, j]) (.tup es)))) := by
  have hp2 := hp
  unfold par2B at hp2
  simp only [Bool.and_eq_true, Bool.not_eq_true', decide_eq_true_eq] at hp2
  obtain ⟨⟨⟨⟨⟨⟨⟨h1, h2⟩, h3⟩, _⟩, _⟩, _⟩, _⟩, _⟩ := hp2
  have hij : i ≠ j := fun e => by subst e; rw [hi] at hj; exact h3 (Option.some.inj hj)
  refine (ps_par (i := i) (j := j) O.calm O.nd (by rw [O.N]; exact hi) (by rw [O.N]; exact hj) hij (by rw [O.names]; exact locB_ok h1) (by rw [O.names]; exact locB_ok h2) ha (par2_ok O.kind (by rw [O.names]; exact hp))).imp fun D σ H ⟨as, ρ, h, S, R, o⟩ => ?_
  simp only [exS, evE, Res.bind_assoc] at o
  refine ⟨as, ρ, h, S, R, Ok.bind o fun vs h1 as1 H1 vs' f1 r1 o1 => ?_⟩
  split at o1
  · rename_i hl
    simp only [Res.bind_ok, asgTa, bindTg] at o1
    split at o1
    · rename_i ρ1 qb
      split at qb
      · rename_i hl2
        cases qb
        have hlen : vs.length = 2 := by simpa using hl2
        match vs, hlen, r1, o1 with
        | [v, w], _, r1, o1 =>
          obtain ⟨v', w', rfl, rv, rw'⟩ := r1.two
          refine ⟨v', w', rfl, ?_⟩
          have R1 := ((R.fut f1).set i rv).set j rw'
          exact o1 as1 H1 (.nx _) (Fut.refl f1.sr) R1
      · cases qb
    · exact False.elim o1
  · exact False.elim o1
theorem okS_aug (O : XOk G T nm call fx X E) {op : Bop} {i : Nat} {e : Ex} {x : Str} {y : Expr} {px p : Pos} (hop : op = .add ∨ op = .sub) (ht : chkNm fx i (.Name x px) = true) (he : PE X y (tE G E (evE T call e))) :
    PS X (.AugAssign (.Name x px) op.py y p) (tS G E (exS T call W (.aug (.nm i) op e))) := by
  simp only [chkNm, Bool.and_eq_true, decide_eq_true_eq, List.contains_iff_mem] at ht
  obtain ⟨l, f⟩ := O.st x ht.2
  rcases hop with rfl | rfl
  · refine (ps_aug (i := i) O.nd (by rw [O.N]; exact ht.1) l he (op := .Add) (ti := rAdd) (fun pins s σ H x y v u Q I rx ry h => in_add pins s σ H x y v u Q I rx ry h) f).imp fun D σ H ⟨as, ρ, h, S, R, o⟩ => ?_
    simp only [exS] at o
    split at o
    · rename_i v q
      obtain ⟨v', e', rv⟩ := R.2 i v q
      refine ⟨v', e', as, ρ, h, S, R, Ok.bind o fun w h1 as1 H1 w' f1 r1 o1 => ?_⟩
      cases v with
      | int a =>
        cases w with
        | int b =>
          obtain rfl := rv.intE
          obtain rfl := r1.intE
          exact ⟨_, _, rfl, rfl, o1 as1 H1 (.nx _) (Fut.refl f1.sr) ((R.fut f1).set i (.int _))⟩
        | _ => exact False.elim o1
      | _ => exact False.elim o1
    · exact False.elim o
  · refine (ps_aug (i := i) O.nd (by rw [O.N]; exact ht.1) l he (op := .Sub) (ti := rSub) (fun pins s σ H x y v u Q I rx ry h => in_sub pins s σ H x y v u Q I rx ry h) f).imp fun D σ H ⟨as, ρ, h, S, R, o⟩ => ?_
    simp only [exS] at o
    split at o
    · rename_i v q
      obtain ⟨v', e', rv⟩ := R.2 i v q
      refine ⟨v', e', as, ρ, h, S, R, Ok.bind o fun w h1 as1 H1 w' f1 r1 o1 => ?_⟩
      cases v with
      | int a =>
        cases w with
        | int b =>
          obtain rfl := rv.intE
          obtain rfl := r1.intE
          exact ⟨_, _, rfl, rfl, o1 as1 H1 (.nx _) (Fut.refl f1.sr) ((R.fut f1).set i (.int _))⟩
        | _ => exact False.elim o1
      | _ => exact False.elim o1
    · exact False.elim o
end
end Mn
set_option Elab.async false
set_option linter.all false
set_option maxRecDepth 100000
set_option maxHeartbeats 8000000
namespace Mn
open PySem PySem.Spec L2 PyProof.Rows
def isBoolOp : Expr → Bool
  | .BoolOp .. => true
  | _ => false
def isTup : Expr → Bool
  | .Tuple .. => true
  | _ => false
def itB (names : List (Str × NameKind)) (k : Ik) (tg iter : Expr) (n : Nat) (ck : List Expr → Bool) : Bool := match k, iter with
  | .seq, x => (n == 1) && ck [x]
  | .rng, .Call (.Name y _) xs [] _ => decide (y = "range") && glB names "range" && (n == 1 && xs.length == 1 || n == 2 && xs.length == 2) && ck xs
  | .enum, .Call (.Name y _) xs [] _ => decide (y = "enumerate") && glB names "enumerate" && isTup tg && (n == 1 && xs.length == 1) && ck xs
  | .zip, .Call (.Name y _) xs [] _ => decide (y = "zip") && glB names "zip" && isTup tg && (n == 2 && xs.length == 2) && ck xs
  | .rev, .Call (.Name y _) xs [] _ => decide (y = "reversed") && glB names "reversed" && (n == 1 && xs.length == 1) && ck xs
  | _, _ => false
def isFn : Option PV → Bool
  | some (.fn _) => true
  | _ => false
section
variable (T : Tb) (nm : Nm)
mutual
def chkX (fx : Fx) : Ex → Expr → Bool
  | .var i, x => chkE nm fx (.var i) x
  | .con v, .Constant c _ _ => conOk v c
  | .glob g, x => chkE nm fx (.glob g) x
  | .bty f, .Name x _ => btyB fx.names f x
  | .bin op a b, .BinOp x o y _ => opB op o && chkX fx a x && chkX fx b y
  | .neg a, .UnaryOp .USub x _ => chkX fx a x
  | .not a, .UnaryOp .Not x _ => chkX fx a x
  | .and a b, .BoolOp .And (x :: y :: r) p => chkX fx a x && (match r with
      | [] => chkX fx b y
      | z :: r => chkX fx b (.BoolOp .And (y :: z :: r) p))
  | .or a b, .BoolOp .Or (x :: y :: r) p => chkX fx a x && (match r with
      | [] => chkX fx b y
      | z :: r => chkX fx b (.BoolOp .Or (y :: z :: r) p))
  | .cmp op a b, .Compare x [o] [y] _ => cpB op o && noSet y && chkX fx a x && chkX fx b y
  | .chn o1 o2 a b c, .Compare x [p1, p2] [y, z] _ => cpB o1 p1 && cpB o2 p2 && noSet y && noSet z && chkX fx a x && chkX fx b y && chkX fx c z
  | .ife c a b, .IfExp z x y _ => chkX fx c z && chkX fx a x && chkX fx b y
  | .tup es, .Tuple xs _ _ => chkXs fx es xs
  | .lst es, .List xs _ => chkXs fx es xs
  | .ix o i, .Subscript x y _ => !isSlice y && chkX fx o x && chkX fx i y
  | .sl o lo hi, .Subscript x (.Slice l u none _) _ => chkX fx o x && (match l with
      | none => isNop lo
      | some e => !isNop lo && chkX fx lo e) && (match u with
      | none => isNop hi
      | some e => !isNop hi && chkX fx hi e)
  | .call g es, .Call (.Name x _) xs [] _ => decide (nm.gn[g]? = some x) && glB fx.names x && plainName x && isFn T.glob[g]? && chkXs fx es xs
  | .bi f es, .Call (.Name x _) xs [] _ => decide (x = f.nm) && glB fx.names x && !xs.isEmpty && chkXs fx es xs
  | .mt m b o es, .Call (.Attribute xo name ap) xs [] pos => notNone b && decide (name = b.nm) && baseB xo && (ap.endLine == pos.line) && decide (xs.length < 29) && chkX fx o xo && chkXs fx es xs
  | .lc e own t k its ifs, .ListComp elt [⟨tg, iter, xifs, 0⟩] sc _ => blkC fx.N (scOf fx) sc (ownsOf fx own) && (tgIs t).all (fun i => own.contains i) && chkTg (fxB fx sc) t tg && noSet iter && itB fx.names k tg iter its.length (fun xs => chkXs fx its xs) && decide (xifs.length ≤ 1) && chkXs (fxB fx sc) ifs xifs && chkX (fxB fx sc) e elt
  | _, _ => false
def chkXs (fx : Fx) : List Ex → List Expr → Bool
  | [], [] => true
  | e :: es, x :: xs => chkX fx e x && chkXs fx es xs
  | _, _ => false
end
end
section
variable (G : Gm) (T : Tb) (nm : Nm) (call : Nat → List PV → PH → Res PV)
structure CE (fx : Fx) (e : Ex) (x : Expr) : Prop where
  ns : isStar x = false
  ne : ∀ y, e ≠ .star y
  pe : ∀ X E, XOk G T nm call fx X E → PE X x (tE G E (evE T call e))
  pt : ∀ X E, XOk G T nm call fx X E → PT X x (tT G E (evT T call e))
  pw : ∀ X E, XOk G T nm call fx X E → isBoolOp x = true → PW X x (tT G E (evT T call e))
structure CEs (fx : Fx) (es : List Ex) (xs : List Expr) : Prop where
  len : es.length = xs.length
  ns : xs.all (fun x => !isStar x) = true
  ne : ∀ e ∈ es, ∀ y, e ≠ .star y
  pa : ∀ X E, XOk G T nm call fx X E → PA X xs (tA G E (evEs T call es))
  one : ∀ e x, es = [e] → xs = [x] → CE G T nm call fx e x
end
section
variable {G : Gm} {T : Tb} {nm : Nm} {call : Nat → List PV → PH → Res PV} {fx : Fx}
def isPlainT : Expr → Bool
  | .UnaryOp .Not _ _ => false
  | .BoolOp .. => false
  | .IfExp .. => false
  | .Compare .. => false
  | _ => true
theorem plainT_ok {x : Expr} {env : Env} (h : isPlainT x = true) : ∀ whole, isTrue x env whole = (do let v ← whole; standAt x.pos; holding [v] (truthy v)) := fun whole => by
  unfold PySem.isTrue
  split <;> first | rfl | cases h
theorem CE.val {e : Ex} {x : Expr} (ns : isStar x = false) (ne : ∀ y, e ≠ .star y) (pl : isPlainT x = true) (pe : ∀ X E, XOk G T nm call fx X E → PE X x (tE G E (evE T call e))) : CE G T nm call fx e x where
  ns := ns
  ne := ne
  pe := pe
  pt := fun X E O => okT_of O (pe X E O) (plainT_ok pl)
  pw := fun X E O hb => by cases x <;> first | exact Bool.noConfusion (show false = true from hb) | exact Bool.noConfusion (show false = true from pl)
theorem okI_by {k : Ik} {tg iter : Expr} {its : List Ex} {ck : List Expr → Bool} (h : itB fx.names k tg iter its.length ck = true) (hck : ∀ xs, ck xs = true → CEs G T nm call fx its xs) {X : Cx} {E : XK} (O : XOk G T nm call fx X E) : PI X tg iter (tI G E (evI T call k its)) := by
  unfold itB at h
  split at h
  · rename_i x
    simp only [Bool.and_eq_true, beq_iff_eq] at h
    match its, h with
    | [e], h => exact okI_seq O ((hck _ h.2).ne e (by simp)) (((hck _ h.2).one e _ rfl rfl).pe X E O)
  · rename_i y q xs pos
    simp only [Bool.and_eq_true, Bool.or_eq_true, beq_iff_eq, decide_eq_true_eq] at h
    obtain ⟨⟨⟨rfl, hg⟩, hl⟩, hc⟩ := h
    have c := hck _ hc
    have cn := c.ns
    rcases hl with ⟨h1, h2⟩ | ⟨h1, h2⟩
    · match its, xs, h1, h2, c, cn with
      | [e], [x], _, _, c, cn => exact okI_rng1 O (c.ne e (by simp)) (by simpa using cn) hg (c.pa X E O)
    · match its, xs, h1, h2, c, cn with
      | [e, e2], [x, x2], _, _, c, cn =>
        have cn' : isStar x = false ∧ isStar x2 = false := by simpa using cn
        exact okI_rng2 O (c.ne e (by simp)) (c.ne e2 (by simp)) cn'.1 cn'.2 hg (c.pa X E O)
  · rename_i y q xs pos
    simp only [Bool.and_eq_true, beq_iff_eq, decide_eq_true_eq] at h
    obtain ⟨⟨⟨⟨rfl, hg⟩, ht⟩, h1, h2⟩, hc⟩ := h
    have c := hck _ hc
    have cn := c.ns
    cases tg with
    | Tuple elts kk tp =>
      match its, xs, h1, h2, c, cn with
      | [e], [x], _, _, c, cn => exact okI_enum O (c.ne e (by simp)) (by simpa using cn) hg (c.pa X E O)
    | _ => cases ht
  · rename_i y q xs pos
    simp only [Bool.and_eq_true, beq_iff_eq, decide_eq_true_eq] at h
    obtain ⟨⟨⟨⟨rfl, hg⟩, ht⟩, h1, h2⟩, hc⟩ := h
    have c := hck _ hc
    have cn := c.ns
    cases tg with
    | Tuple elts kk tp =>
      match its, xs, h1, h2, c, cn with
      | [e, e2], [x, x2], _, _, c, cn =>
        have cn' : isStar x = false ∧ isStar x2 = false := by simpa using cn
        exact okI_zip O (c.ne e (by simp)) (c.ne e2 (by simp)) cn'.1 cn'.2 hg (c.pa X E O)
    | _ => cases ht
  · rename_i y q xs pos
    simp only [Bool.and_eq_true, beq_iff_eq, decide_eq_true_eq] at h
    obtain ⟨⟨⟨rfl, hg⟩, h1, h2⟩, hc⟩ := h
    have c := hck _ hc
    have cn := c.ns
    match its, xs, h1, h2, c, cn with
    | [e], [x], _, _, c, cn => exact okI_rev O (c.ne e (by simp)) (by simpa using cn) hg (c.pa X E O)
  · cases h
theorem okTs_le {es : List Ex} {xs : List Expr} (c : CEs G T nm call fx es xs) (hl : xs.length ≤ 1) {X : Cx} {E : XK} (O : XOk G T nm call fx X E) : PTs X xs (tT G E (evIf T call es)) := by
  have ln := c.len
  cases xs with
  | nil =>
    cases es with
    | nil => exact okTs_nil
    | cons e es => simp at ln
  | cons x xs =>
    cases xs with
    | nil =>
      cases es with
      | nil => simp at ln
      | cons e es =>
        cases es with
        | nil => exact okTs_one ((c.one e x rfl rfl).pt X E O)
        | cons e2 es => simp at ln
    | cons y ys => simp at hl
end
end Mn
set_option Elab.async false
set_option linter.all false
set_option maxRecDepth 100000
set_option maxHeartbeats 8000000
namespace Mn
open PySem PySem.Spec L2 PyProof.Rows
section
variable {G : Gm} {T : Tb} {nm : Nm} {call : Nat → List PV → PH → Res PV}
theorem okT_ife {fx : Fx} {X : Cx} {E : XK} (O : XOk G T nm call fx X E) {c a b : Ex} {z x y : Expr} {p : Pos} (hc : PT X z (tT G E (evT T call c))) (ha : PT X x (tT G E (evT T call a))) (hb : PT X y (tT G E (evT T call b))) : PT X (.IfExp z x y p) (tT G E (evT T call (.ife c a b))) := by
  refine ⟨fun pins s σ H Q I ⟨as, ρ, h, S, R, o⟩ => ?_⟩
  have e : evT T call (.ife c a b) ρ h = (evT T call c ρ h).bind fun t h1 => if t then evT T call a ρ h1 else evT T call b ρ h1 := by
    simp only [evT, evE, Res.bind_assoc]
    congr 1
    funext v h1
    cases e : pTru h1 v with
    | none => rfl
    | some t => cases t <;> rfl
  rw [e] at o
  have e2 : ∀ w, PySem.isTrue (.IfExp z x y p) X.env w = (do
    if ← PySem.isTrue z X.env (eval z X.env) then PySem.isTrue x X.env (eval x X.env) else PySem.isTrue y X.env (eval y X.env)) := fun w => by conv => lhs; unfold PySem.isTrue
  rw [e2]
  refine wpAny_bind (thn (hc.run pins s σ H (fun t H1 => ∃ as1 h1, SR G as1 H1 h1 ∧ RepE G as1 H1 ρ σ ∧ OkB G E as1 H1 Q (if t then evT T call a ρ h1 else evT T call b ρ h1)) I ⟨as, ρ, h, S, R, Ok.bind o fun t h1 as1 H1 t' f1 et o1 => ?_⟩) fun d s1 ⟨H1, I1, as1, h1, S1, R1, o1⟩ => ?_)
  · subst et
    exact ⟨as1, h1, f1.sr, R.fut f1, o1⟩
  · cases d with
    | true => exact ha.run pins s1 σ H1 Q I1 ⟨as1, ρ, h1, S1, R1, o1⟩
    | false => exact hb.run pins s1 σ H1 Q I1 ⟨as1, ρ, h1, S1, R1, o1⟩
theorem pN {o : Option Expr} (h : (match o with | none => true | some _ => false) = true) : o = none := by cases o <;> first | rfl | cases h
mutual
theorem okX : ∀ (e : Ex) (fx : Fx) (x : Expr), chkX T nm fx e x = true → CE G T nm call fx e x
  | .var i, fx, x, h => by
    cases x with
    | Name y p => exact .val rfl (fun _ e => (nomatch e)) rfl fun X E O => okE_var O h
    | _ => cases h
  | .con v, fx, x, h => by
    cases x with
    | Constant c j p => exact .val rfl (fun _ e => (nomatch e)) rfl fun X E O => okE_con h
    | _ => cases h
  | .glob g, fx, x, h => by
    cases x with
    | Name y p => exact .val rfl (fun _ e => (nomatch e)) rfl fun X E O => okE_glob O h
    | _ => cases h
  | .bty f, fx, x, h => by
    cases x with
    | Name y p => exact .val rfl (fun _ e => (nomatch e)) rfl fun X E O => okE_bty O h
    | _ => cases h
  | .bin op a b, fx, x, h => by
    cases x with
    | BinOp x o y p =>
      simp only [chkX, Bool.and_eq_true] at h
      obtain ⟨⟨ho, ha⟩, hb⟩ := h
      obtain rfl := opB_ok ho
      have ca := okX a fx x ha
      have cb := okX b fx y hb
      exact .val rfl (fun _ e => (nomatch e)) rfl fun X E O => okE_bin O (ca.pe X E O) (cb.pe X E O)
    | _ => cases h
  | .neg a, fx, x, h => by
    cases x with
    | UnaryOp o y p =>
      cases o with
      | USub =>
        have ca := okX a fx y h
        exact .val rfl (fun _ e => (nomatch e)) rfl fun X E O => okE_neg (ca.pe X E O)
      | _ => cases h
    | _ => cases h
  | .not a, fx, x, h => by
    cases x with
    | UnaryOp o y p =>
      cases o with
      | Not =>
        have ca := okX a fx y h
        exact { ns := rfl, ne := fun _ e => (nomatch e), pe := fun X E O => okE_not O (ca.pe X E O), pt := fun X E O => okT_not (ca.pt X E O), pw := fun X E O hb => (nomatch hb) }
      | _ => cases h
    | _ => cases h
  | .and a b, fx, x, h => by
    cases x with
    | BoolOp o xs p =>
      cases o with
      | And =>
        match xs, h with
        | [x, y], h =>
          simp only [chkX, Bool.and_eq_true] at h
          have ca := okX a fx x h.1
          have cb := okX b fx y h.2
          exact { ns := rfl, ne := fun _ e => (nomatch e), pe := fun X E O => okE_and O (ca.pe X E O) (pe_one (cb.pe X E O)), pt := fun X E O => (okT_and (ca.pt X E O) (pw_and1 (cb.pt X E O))).pt, pw := fun X E O _ => okT_and (ca.pt X E O) (pw_and1 (cb.pt X E O)) }
        | x :: y :: z :: r, h =>
          simp only [chkX, Bool.and_eq_true] at h
          have ca := okX a fx x h.1
          have cb := okX b fx (.BoolOp .And (y :: z :: r) p) h.2
          exact { ns := rfl, ne := fun _ e => (nomatch e), pe := fun X E O => okE_and O (ca.pe X E O) (cb.pe X E O), pt := fun X E O => (okT_and (ca.pt X E O) (cb.pw X E O rfl)).pt, pw := fun X E O _ => okT_and (ca.pt X E O) (cb.pw X E O rfl) }
      | _ => cases h
    | _ => cases h
  | .or a b, fx, x, h => by
    cases x with
    | BoolOp o xs p =>
      cases o with
      | Or =>
        match xs, h with
        | [x, y], h =>
          simp only [chkX, Bool.and_eq_true] at h
          have ca := okX a fx x h.1
          have cb := okX b fx y h.2
          exact { ns := rfl, ne := fun _ e => (nomatch e), pe := fun X E O => okE_or O (ca.pe X E O) (pe_one (cb.pe X E O)), pt := fun X E O => (okT_or (ca.pt X E O) (pw_or1 (cb.pt X E O))).pt, pw := fun X E O _ => okT_or (ca.pt X E O) (pw_or1 (cb.pt X E O)) }
        | x :: y :: z :: r, h =>
          simp only [chkX, Bool.and_eq_true] at h
          have ca := okX a fx x h.1
          have cb := okX b fx (.BoolOp .Or (y :: z :: r) p) h.2
          exact { ns := rfl, ne := fun _ e => (nomatch e), pe := fun X E O => okE_or O (ca.pe X E O) (cb.pe X E O), pt := fun X E O => (okT_or (ca.pt X E O) (cb.pw X E O rfl)).pt, pw := fun X E O _ => okT_or (ca.pt X E O) (cb.pw X E O rfl) }
      | _ => cases h
    | _ => cases h
  | .cmp op a b, fx, x, h => by
    cases x with
    | Compare x os ys p =>
      match os, ys, h with
      | [o], [y], h =>
        simp only [chkX, Bool.and_eq_true] at h
        obtain ⟨⟨⟨ho, hs⟩, ha⟩, hb⟩ := h
        obtain rfl := cpB_ok ho
        have ca := okX a fx x ha
        have cb := okX b fx y hb
        exact { ns := rfl, ne := fun _ e => (nomatch e), pe := fun X E O => okE_cmp O hs (ca.pe X E O) (cb.pe X E O), pt := fun X E O => okT_cmp O hs (ca.pe X E O) (cb.pe X E O), pw := fun X E O hb => (nomatch hb) }
    | _ => cases h
  | .chn o1 o2 a b c, fx, x, h => by
    cases x with
    | Compare x os ys p =>
      match os, ys, h with
      | [p1, p2], [y, z], h =>
        simp only [chkX, Bool.and_eq_true] at h
        obtain ⟨⟨⟨⟨⟨⟨h1, h2⟩, _⟩, hz⟩, ha⟩, hb⟩, hc⟩ := h
        obtain rfl := cpB_ok h1
        obtain rfl := cpB_ok h2
        have ca := okX a fx x ha
        have cb := okX b fx y hb
        have cc := okX c fx z hc
        exact { ns := rfl, ne := fun _ e => (nomatch e), pe := fun X E O => okE_chn O hz (ca.pe X E O) (cb.pe X E O) (cc.pe X E O), pt := fun X E O => okT_chn O hz (ca.pe X E O) (cb.pe X E O) (cc.pe X E O), pw := fun X E O hb => (nomatch hb) }
    | _ => cases h
  | .ife c a b, fx, x, h => by
    cases x with
    | IfExp z x y p =>
      simp only [chkX, Bool.and_eq_true] at h
      have cc := okX c fx z h.1.1
      have ca := okX a fx x h.1.2
      have cb := okX b fx y h.2
      exact { ns := rfl, ne := fun _ e => (nomatch e), pe := fun X E O => okE_ife O (cc.pt X E O) (ca.pe X E O) (cb.pe X E O), pt := fun X E O => okT_ife O (cc.pt X E O) (ca.pt X E O) (cb.pt X E O), pw := fun X E O hb => (nomatch hb) }
    | _ => cases h
  | .tup es, fx, x, h => by
    cases x with
    | Tuple xs k p =>
      have c := okXs es fx xs h
      exact .val rfl (fun _ e => (nomatch e)) rfl fun X E O => okE_tup (c.pa X E O)
    | _ => cases h
  | .lst es, fx, x, h => by
    cases x with
    | List xs p =>
      have c := okXs es fx xs h
      exact .val rfl (fun _ e => (nomatch e)) rfl fun X E O => okE_lst (c.pa X E O)
    | _ => cases h
  | .ix o i, fx, x, h => by
    cases x with
    | Subscript x y p =>
      simp only [chkX, Bool.and_eq_true, Bool.not_eq_true'] at h
      have h' := h
      have ca := okX o fx x h'.1.2
      have cb := okX i fx y h'.2
      exact .val rfl (fun _ e => (nomatch e)) rfl fun X E O => okE_ix O h'.1.1 (ca.pe X E O) (cb.pe X E O)
    | _ => cases h
  | .sl o lo hi, fx, x, h => by
    cases x with
    | Subscript x y p =>
      cases y with
      | Slice l u st p2 =>
        cases st with
        | none =>
          simp only [chkX, Bool.and_eq_true] at h
          have co := okX o fx x h.1.1
          have kl : ∀ X E, XOk G T nm call fx X E → L2.PO X l (tO G E fun ρ h => partR lo (evE T call lo ρ h) h) := by
            cases l with
            | none =>
              have hn : lo = .nop := by
                have := h.1.2
                revert this
                cases lo <;> intro this <;> first | rfl | cases this
              subst hn
              exact fun X E O => okP_none
            | some e =>
              have h1 : isNop lo = false ∧ chkX T nm fx lo e = true := by simpa using h.1.2
              have c1 := okX lo fx e h1.2
              exact fun X E O => okP_some h1.1 (c1.pe X E O)
          have ku : ∀ X E, XOk G T nm call fx X E → L2.PO X u (tO G E fun ρ h => partR hi (evE T call hi ρ h) h) := by
            cases u with
            | none =>
              have hn : hi = .nop := by
                have := h.2
                revert this
                cases hi <;> intro this <;> first | rfl | cases this
              subst hn
              exact fun X E O => okP_none
            | some e =>
              have h1 : isNop hi = false ∧ chkX T nm fx hi e = true := by simpa using h.2
              have c1 := okX hi fx e h1.2
              exact fun X E O => okP_some h1.1 (c1.pe X E O)
          exact .val rfl (fun _ e => (nomatch e)) rfl fun X E O => okE_sl O (co.pe X E O) (kl X E O) (ku X E O)
        | some _ => cases h
      | _ => cases h
    | _ => cases h
  | .call g es, fx, x, h => by
    cases x with
    | Call f xs ks p =>
      cases f with
      | Name y q =>
        cases ks with
        | nil =>
          simp only [chkX, Bool.and_eq_true, decide_eq_true_eq] at h
          obtain ⟨⟨⟨⟨hg, hb⟩, hp⟩, hf⟩, hc⟩ := h
          have c := okXs es fx xs hc
          have ⟨f, hf'⟩ : ∃ f, T.glob[g]? = some (.fn f) := by
            unfold isFn at hf
            split at hf
            · rename_i f q; exact ⟨f, q⟩
            · cases hf
          cases xs with
          | nil =>
            have e0 : es = [] := List.eq_nil_of_length_eq_zero c.len
            subst e0
            exact .val rfl (fun _ e => (nomatch e)) rfl fun X E O => okE_call0 O hg hf' hb hp
          | cons z zs =>
            have cn := c.ns
            simp only [List.all_cons, Bool.and_eq_true, Bool.not_eq_true'] at cn
            exact .val rfl (fun _ e => (nomatch e)) rfl fun X E O => okE_call O hg hf' hb hp cn.1 cn.2 (c.pa X E O)
        | cons _ _ => cases h
      | _ => cases h
    | _ => cases h
  | .bi f es, fx, x, h => by
    cases x with
    | Call g xs ks p =>
      cases g with
      | Name y q =>
        cases ks with
        | nil =>
          simp only [chkX, Bool.and_eq_true, decide_eq_true_eq] at h
          obtain ⟨⟨⟨rfl, hb⟩, hne⟩, hc⟩ := h
          have c := okXs es fx xs hc
          cases xs with
          | nil => cases hne
          | cons z zs =>
            have cn := c.ns
            simp only [List.all_cons, Bool.and_eq_true, Bool.not_eq_true'] at cn
            exact .val rfl (fun _ e => (nomatch e)) rfl fun X E O => okE_bi O hb (c.pa X E O) cn.1 cn.2
        | cons _ _ => cases h
      | _ => cases h
    | _ => cases h
  | .mt m b o es, fx, x, h => by
    cases x with
    | Call g xs ks p =>
      cases g with
      | Attribute xo name ap =>
        cases ks with
        | nil =>
          simp only [chkX, Bool.and_eq_true, decide_eq_true_eq] at h
          obtain ⟨⟨⟨⟨⟨⟨hb, rfl⟩, hba⟩, hl⟩, h30⟩, ho⟩, hc⟩ := h
          have co := okX o fx xo ho
          have c := okXs es fx xs hc
          cases xs with
          | nil =>
            have e0 : es = [] := List.eq_nil_of_length_eq_zero c.len
            subst e0
            exact .val rfl (fun _ e => (nomatch e)) rfl fun X E O => okE_mt0 O hb (co.pe X E O) (base_ok hba) hl
          | cons z zs => exact .val rfl (fun _ e => (nomatch e)) rfl fun X E O => okE_mt O hb (co.pe X E O) (c.pa X E O) (base_ok hba) c.ns h30 hl
        | cons _ _ => cases h
      | _ => cases h
    | _ => cases h
  | .lc e own t k its ifs, fx, x, h => by
    cases x with
    | ListComp elt gs sc p =>
      match gs, h with
      | [⟨tg, iter, xifs, 0⟩], h =>
        simp only [chkX, Bool.and_eq_true, decide_eq_true_eq] at h
        obtain ⟨⟨⟨⟨⟨⟨⟨hb, hown⟩, htg⟩, hns⟩, hit⟩, hl⟩, hifs⟩, he⟩ := h
        have ce := okX e (fxB fx sc) elt he
        have ci := okXs ifs (fxB fx sc) xifs hifs
        have cits : ∀ xs, chkXs T nm fx its xs = true → CEs G T nm call fx its xs := fun xs hx => okXs its fx xs hx
        refine .val rfl (fun _ e => (nomatch e)) rfl fun X E O => okE_lc O (okI_by hit cits O) hb (fun i hi => ?_) (fun X' O' => okG_tg O' htg) (fun X' O' => okTs_le ci hl O') (fun X' O' => ce.pe X' E0 O') hns
        have := List.all_eq_true.mp hown i hi
        simpa using this
    | _ => cases h
  | .star e, fx, x, h => by cases x <;> cases h
  | .nop, fx, x, h => by cases x <;> cases h
  | .att o f, fx, x, h => by cases x <;> cases h
  | .dsp, fx, x, h => by cases x <;> cases h
  | .repl o y z, fx, x, h => by cases x <;> cases h
  | .never, fx, x, h => by cases x <;> cases h
theorem okXs : ∀ (es : List Ex) (fx : Fx) (xs : List Expr), chkXs T nm fx es xs = true → CEs G T nm call fx es xs
  | [], fx, xs, h => by
    cases xs with
    | nil => exact { len := rfl, ns := rfl, ne := fun _ h => (by simp at h), pa := fun X E O => okA_nil, one := fun e x q => (nomatch q) }
    | cons _ _ => cases h
  | e :: es, fx, xs, h => by
    cases xs with
    | nil => cases h
    | cons x xs =>
      simp only [chkXs, Bool.and_eq_true] at h
      have c := okX e fx x h.1
      have cs := okXs es fx xs h.2
      refine { len := by simp [cs.len], ns := by simp [c.ns, cs.ns], ne := fun e' h' => ?_, pa := fun X E O => okA_cons c.ns c.ne (c.pe X E O) (cs.pa X E O), one := fun e' x' q1 q2 => ?_ }
      · rcases List.mem_cons.mp h' with rfl | h'
        · exact c.ne
        · exact cs.ne e' h'
      · cases q1
        cases q2
        exact c
end
end
end Mn
set_option Elab.async false
set_option linter.all false
set_option maxRecDepth 100000
set_option maxHeartbeats 8000000
namespace Mn
open PySem PySem.Spec L2 PyProof.Rows
def isName : Expr → Bool
  | .Name .. => true
  | _ => false
section
variable (T : Tb) (nm : Nm)
def nmB (fx : Fx) (tg x : Expr) (l : Nat) : Bool := match tg, x with
  | .Name y py, .ListComp _ _ sc pos => locB fx.names y && lcLine y py pos sc l
  | _, x => !isComp x
def tpB (fx : Fx) (is : List Nat) (ts : List Expr) (e : Ex) (x : Expr) : Bool := match is, ts, e, x with
  | [i, j], [.Name y py, .Name z pz], .tup es, .Tuple [a, b] _ _ => decide (fx.N[i]? = some y) && decide (fx.N[j]? = some z) && par2B fx.names y z py pz a b && chkXs T nm fx es [a, b]
  | _, _, _, _ => false
def augB : Bop → Bool
  | .add => true
  | .sub => true
  | _ => false
mutual
def chkS (fx : Fx) : Sm → Stmt → Bool
  | .pass, .Pass _ => true
  | .brk, .Break _ => true
  | .cnt, .Continue _ => true
  | .retn, .Return none _ => true
  | .never, _ => true
  | .ret e, .Return (some x) _ => chkX T nm fx e x
  | .ex e, .Expr x _ => !isComp x && chkX T nm fx e x
  | .ite c a b, .If z xa xb _ => chkX T nm fx c z && chkSs fx a xa && chkSs fx b xb
  | .wh c b, .While z xb [] _ => chkX T nm fx c z && chkSs fx b xb
  | .for_ t k its b, .For tg iter xb [] _ => chkTg fx t tg && noSet iter && itB fx.names k tg iter its.length (fun xs => chkXs T nm fx its xs) && chkSs fx b xb
  | .asg (.nm i) e, .Assign [tg] x p => chkNm fx i tg && nmB fx tg x p.line && chkX T nm fx e x
  | .asg (.tp is) e, .Assign [.Tuple ts _ _] x _ => (swNone x && chkNms fx is ts && chkX T nm fx e x) || tpB T nm fx is ts e x
  | .asg (.ix o i) e, .Assign [.Subscript xo xi _] x _ => !isSlice xi && chkX T nm fx o xo && chkX T nm fx i xi && chkX T nm fx e x
  | .aug (.nm i) op e, .AugAssign tg o x _ => augB op && opB op o && isName tg && chkNm fx i tg && chkX T nm fx e x
  | _, _ => false
def chkSs (fx : Fx) : List Sm → List Stmt → Bool
  | [], [] => true
  | s :: r, x :: xs => chkS fx s x && chkSs fx r xs
  | _, _ => false
end
end
section
variable {G : Gm} {T : Tb} {nm : Nm} {call : Nat → List PV → PH → Res PV} {W : Nat}
theorem okS_ret' {fx : Fx} {X : Cx} {E : XK} (O : XOk G T nm call fx X E) (po : PassesOwn (model X.prog X.w) X.A X.env X.xe) {t : Tg} {k : Ik} {its : List Ex} : True := trivial
mutual
theorem okS : ∀ (s : Sm) (fx : Fx) (x : Stmt), chkS T nm fx s x = true → ∀ X E, XOk G T nm call fx X E → PassesOwn (model X.prog X.w) X.A X.env X.xe → PS X x (tS G E (exS T call W s))
  | .pass, fx, x, h, X, E, O, po => by
    cases x with
    | Pass p => exact okS_pass
    | _ => cases h
  | .brk, fx, x, h, X, E, O, po => by
    cases x with
    | Break p => exact okS_brk
    | _ => cases h
  | .cnt, fx, x, h, X, E, O, po => by
    cases x with
    | Continue p => exact okS_cnt
    | _ => cases h
  | .retn, fx, x, h, X, E, O, po => by
    cases x with
    | Return o p =>
      cases o with
      | none => exact okS_retn
      | some _ => cases h
    | _ => cases h
  | .never, fx, x, h, X, E, O, po => okS_never
  | .ret e, fx, x, h, X, E, O, po => by
    cases x with
    | Return o p =>
      cases o with
      | none => cases h
      | some x => exact okS_ret ((okX e fx x h).pe X E O)
    | _ => cases h
  | .ex e, fx, x, h, X, E, O, po => by
    cases x with
    | Expr x p =>
      simp only [chkS, Bool.and_eq_true, Bool.not_eq_true'] at h
      exact okS_ex h.1 ((okX e fx x h.2).pe X E O)
    | _ => cases h
  | .ite c a b, fx, x, h, X, E, O, po => by
    cases x with
    | If z xa xb p =>
      simp only [chkS, Bool.and_eq_true] at h
      exact okS_ite ((okX c fx z h.1.1).pt X E O) (okSs a fx xa h.1.2 X E O po) (okSs b fx xb h.2 X E O po)
    | _ => cases h
  | .wh c b, fx, x, h, X, E, O, po => by
    cases x with
    | While z xb xo p =>
      cases xo with
      | nil =>
        simp only [chkS, Bool.and_eq_true] at h
        exact okS_wh po ((okX c fx z h.1).pt X E O) (okSs b fx xb h.2 X E O po)
      | cons _ _ => cases h
    | _ => cases h
  | .for_ t k its b, fx, x, h, X, E, O, po => by
    cases x with
    | For tg iter xb xo p =>
      cases xo with
      | nil =>
        simp only [chkS, Bool.and_eq_true] at h
        obtain ⟨⟨⟨ht, hs⟩, hi⟩, hb⟩ := h
        have cits : ∀ xs, chkXs T nm fx its xs = true → CEs G T nm call fx its xs := fun xs hx => okXs its fx xs hx
        exact okS_for O po (okI_by hi cits O) (okG_tg O ht) (okSs b fx xb hb X E O po) hs
      | cons _ _ => cases h
    | _ => cases h
  | .asg (.nm i) e, fx, x, h, X, E, O, po => by
    cases x with
    | Assign ts x p =>
      match ts, h with
      | [tg], h =>
        simp only [chkS, Bool.and_eq_true] at h
        obtain ⟨⟨ht, hn⟩, he⟩ := h
        cases hc : isComp x with
        | false => exact okS_nm O ht hc ((okX e fx x he).pe X E O)
        | true =>
          cases tg with
          | Name y py =>
            cases x with
            | ListComp elt gs sc pos =>
              simp only [nmB, Bool.and_eq_true] at hn
              simp only [chkNm, Bool.and_eq_true, decide_eq_true_eq] at ht
              cases e with
              | lc e own t k its ifs =>
                match gs, he with
                | [⟨tg, iter, xifs, 0⟩], he =>
                  simp only [chkX, Bool.and_eq_true, decide_eq_true_eq] at he
                  obtain ⟨⟨⟨⟨⟨⟨⟨hb, hown⟩, htg⟩, hns⟩, hit⟩, hl⟩, hifs⟩, he⟩ := he
                  have ce : CE G T nm call (fxB fx sc) e elt := okX e (fxB fx sc) elt he
                  have ci : CEs G T nm call (fxB fx sc) ifs xifs := okXs ifs (fxB fx sc) xifs hifs
                  have cits : ∀ xs, chkXs T nm fx its xs = true → CEs G T nm call fx its xs := fun xs hx => okXs its fx xs hx
                  refine okS_nmLc O ht.1 (locB_ok hn.1) hn.2 (okI_by hit cits O) hb (fun i hi => ?_) (fun X' O' => okG_tg O' htg) (fun X' O' => okTs_le ci hl O') (fun X' O' => ce.pe X' E0 O') hns
                  have := List.all_eq_true.mp hown i hi
                  simpa using this
              | _ => cases he
            | SetComp _ _ _ _ => simp [nmB, isComp] at hn
            | DictComp _ _ _ _ _ => simp [nmB, isComp] at hn
            | _ => cases hc
          | _ => cases ht
    | _ => cases h
  | .asg (.tp is) e, fx, x, h, X, E, O, po => by
    cases x with
    | Assign ts x p =>
      match ts, h with
      | [.Tuple ts k p2], h =>
        simp only [chkS, Bool.or_eq_true, Bool.and_eq_true] at h
        rcases h with ⟨⟨h1, h2⟩, h3⟩ | h
        · exact okS_tp O h1 h2 ((okX e fx x h3).pe X E O)
        · unfold tpB at h
          split at h
          · rename_i i j y py z pz es a b k2 p3 hh
            simp only [Bool.and_eq_true, decide_eq_true_eq] at h
            obtain ⟨⟨⟨h1, h2⟩, h3⟩, h4⟩ := h
            exact okS_par2 O h1 h2 h3 ((okXs es fx [a, b] h4).pa X E O)
          · cases h
    | _ => cases h
  | .asg (.ix o i) e, fx, x, h, X, E, O, po => by
    cases x with
    | Assign ts x p =>
      match ts, h with
      | [.Subscript xo xi p2], h =>
        simp only [chkS, Bool.and_eq_true, Bool.not_eq_true'] at h
        obtain ⟨⟨⟨h1, h2⟩, h3⟩, h4⟩ := h
        exact okS_ix O h1 ((okX e fx x h4).pe X E O) ((okX o fx xo h2).pe X E O) ((okX i fx xi h3).pe X E O)
    | _ => cases h
  | .asg (.att o f) e, fx, x, h, X, E, O, po => by cases x <;> cases h
  | .aug (.nm i) op e, fx, x, h, X, E, O, po => by
    cases x with
    | AugAssign tg o x p =>
      simp only [chkS, Bool.and_eq_true] at h
      obtain ⟨⟨⟨⟨h1, h2⟩, h3⟩, h4⟩, h5⟩ := h
      obtain rfl := opB_ok h2
      cases tg with
      | Name y q => exact okS_aug O (by cases op <;> first | exact .inl rfl | exact .inr rfl | cases h1) h4 ((okX e fx x h5).pe X E O)
      | _ => cases h3
    | _ => cases h
  | .aug (.tp _) op e, fx, x, h, X, E, O, po => by cases x <;> cases h
  | .aug (.att _ _) op e, fx, x, h, X, E, O, po => by cases x <;> cases h
  | .aug (.ix _ _) op e, fx, x, h, X, E, O, po => by cases x <;> cases h
  | .raise _ _, fx, x, h, X, E, O, po => by cases x <;> cases h
  | .del _ _, fx, x, h, X, E, O, po => by cases x <;> cases h
theorem okSs : ∀ (ss : List Sm) (fx : Fx) (xs : List Stmt), chkSs T nm fx ss xs = true → ∀ X E, XOk G T nm call fx X E → PassesOwn (model X.prog X.w) X.A X.env X.xe → PSs X xs (tS G E (exSs T call W ss))
  | [], fx, xs, h, X, E, O, po => by
    cases xs with
    | nil => exact okSs_nil
    | cons _ _ => cases h
  | s :: r, fx, xs, h, X, E, O, po => by
    cases xs with
    | nil => cases h
    | cons x xs =>
      simp only [chkSs, Bool.and_eq_true] at h
      exact okSs_cons (okS s fx x h.1 X E O po) (okSs r fx xs h.2 X E O po)
end
end
end Mn
set_option Elab.async false
set_option linter.all false
set_option maxRecDepth 100000
set_option maxHeartbeats 8000000
namespace Mn
open PySem PySem.Spec L2 PyProof.Rows CwR
section
variable (T : Tb) (nm : Nm)
mutual
def chkET (fx : Fx) : Ex → Expr → Bool
  | .repl o y z, .Call (.Attribute xo name ap) [.Constant (.str c) _ _, .Constant (.str d) _ _] [] pos => decide (name = "replace") && decide (y = c.cps.toList) && decide (z = d.cps.toList) && !(c == d) && baseB xo && (ap.endLine == pos.line) && chkET fx o xo
  | .lst es, .List xs _ => chkXs T nm fx es xs || chkAT fx es xs
  | e, x => chkX T nm fx e x
def chkAT (fx : Fx) : List Ex → List Expr → Bool
  | [], [] => true
  | e :: es, x :: xs => chkET fx e x && chkAT fx es xs
  | _, _ => false
end
mutual
def chkST (fx : Fx) : Sm → Stmt → Bool
  | .asg (.nm i) e, .Assign [tg] x p => chkS T nm fx (.asg (.nm i) e) (.Assign [tg] x p) || (chkNm fx i tg && !isComp x && chkET T nm fx e x)
  | .ret e, .Return (some x) _ => chkET T nm fx e x
  | .ite c a b, .If z xa xb _ => chkX T nm fx c z && chkSTs fx a xa && chkSTs fx b xb
  | s, x => chkS T nm fx s x
def chkSTs (fx : Fx) : List Sm → List Stmt → Bool
  | [], [] => true
  | s :: r, x :: xs => chkST fx s x && chkSTs fx r xs
  | _, _ => false
end
end
section
variable {G : Gm} {T : Tb} {nm : Nm} {call : Nat → List PV → PH → Res PV} {W : Nat} {X : Cx} {E : XK}
theorem PET.imp {x : Expr} {t t' : TE} (p : PET X x t) (h : ∀ σ H Q, t' σ H Q → t σ H Q) : PET X x t' := fun pins s σ H Q h0 I q => p pins s σ H Q h0 I (h σ H Q q)
theorem PAT.imp {x : List Expr} {t t' : TA} (p : PAT X x t) (h : ∀ σ H Q, t' σ H Q → t σ H Q) : PAT X x t' := fun pos pins s σ H Q h0 I q => p pos pins s σ H Q h0 I (h σ H Q q)
theorem PST.imp {x : Stmt} {t t' : TS} (p : PST X x t) (h : ∀ D σ H, t' D σ H → t D σ H) : PST X x t' := fun pins s σ H D h0 I q => p pins s σ H D h0 I (h D σ H q)
theorem PSsT.imp {x : List Stmt} {t t' : TS} (p : PSsT X x t) (h : ∀ D σ H, t' D σ H → t D σ H) : PSsT X x t' := fun pins s σ H D h0 I q => p pins s σ H D h0 I (h D σ H q)
structure CT (G : Gm) (T : Tb) (nm : Nm) (call : Nat → List PV → PH → Res PV) (fx : Fx) (e : Ex) (x : Expr) : Prop where
  ns : isStar x = false
  ne : ∀ y, e ≠ .star y
  pe : ∀ X E, XOk G T nm call fx X E → PET X x (tE G E (evE T call e))
theorem CE.ct {fx : Fx} {e : Ex} {x : Expr} (c : CE G T nm call fx e x) : CT G T nm call fx e x := ⟨c.ns, c.ne, fun X E O => PET.of (c.pe X E O)⟩
theorem okET_lst {es : List Ex} {xs : List Expr} {p : Pos} (h : PAT X xs (tA G E (evEs T call es))) : PET X (.List xs p) (tE G E (evE T call (.lst es))) := by
  refine PET.imp (pet_lst h) fun σ H Q ⟨as, ρ, h, S, R, o⟩ => ?_
  simp only [evE] at o
  refine ⟨as, ρ, h, S, R, Ok.bind o fun vs h1 as1 H1 vs' f1 r1 o1 => ?_⟩
  split at o1
  · rename_i hl
    refine ⟨by rw [← r1.length]; exact hl, fun p hp => ?_⟩
    obtain ⟨f, r⟩ := f1.sr.newL hp r1
    exact okn o1 f r
  · exact False.elim o1
theorem okET_repl {o : Ex} {xo : Expr} {y z : List Nat} {c d : Str} {j k : Nat} {c0 c1 ap pos : Pos} (ho : PET X xo (tE G E (evE T call o))) (hy : y = c.cps.toList) (hz : z = d.cps.toList) (hne : (c == d) = false) (hb : baseB xo = true) (hl : (ap.endLine == pos.line) = true) :
    PET X (.Call (.Attribute xo "replace" ap) [.Constant (.str c) j c0, .Constant (.str d) k c1] [] pos) (tE G E (evE T call (.repl o y z))) := by
  refine PET.imp (pet_replT ho hne rfl (base_ok hb) hl) fun σ H Q ⟨as, ρ, h, S, R, q⟩ => ?_
  simp only [evE] at q
  refine ⟨as, ρ, h, S, R, Ok.bind q fun v h1 as1 H1 v' f1 r1 q1 => ?_⟩
  cases v with
  | str x =>
    dsimp only at q1
    split at q1
    · rename_i hq
      simp only [Bool.and_eq_true, decide_eq_true_eq] at hq
      obtain rfl := r1.strE
      have ec : (⟨y.toArray⟩ : Str) = c := by rw [hy]
      have ed : (⟨z.toArray⟩ : Str) = d := by rw [hz]
      rw [ec, ed] at q1
      refine ⟨_, rfl, ?_, okv f1.sr q1 (.strO _)⟩
      rw [str_len, ← ed, str_len]
      exact hq.1
    · exact False.elim q1
  | _ => exact False.elim q1
mutual
theorem okET : ∀ (e : Ex) (fx : Fx) (x : Expr), chkET T nm fx e x = true → CT G T nm call fx e x
  | .repl o y z, fx, x, h => by
    cases x with
    | Call f xs ks pos =>
      cases f with
      | Attribute xo name ap =>
        match xs, ks, h with
        | [.Constant (.str c) j c0, .Constant (.str d) k c1], [], h =>
          simp only [chkET, Bool.and_eq_true, decide_eq_true_eq, Bool.not_eq_true'] at h
          obtain ⟨⟨⟨⟨⟨⟨rfl, h1⟩, h2⟩, h3⟩, h4⟩, h5⟩, h6⟩ := h
          have co := okET o fx xo h6
          exact ⟨rfl, fun _ e => (nomatch e), fun X E O => okET_repl (co.pe X E O) h1 h2 h3 h4 h5⟩
      | _ => cases h
    | _ => cases h
  | .lst es, fx, x, h => by
    cases x with
    | List xs p =>
      simp only [chkET, Bool.or_eq_true] at h
      rcases h with h | h
      · have c := okXs (G := G) (call := call) es fx xs h
        exact ⟨rfl, fun _ e => (nomatch e), fun X E O => PET.of (okE_lst (c.pa X E O))⟩
      · have c := okAT es fx xs h
        exact ⟨rfl, fun _ e => (nomatch e), fun X E O => okET_lst (c X E O)⟩
    | _ => cases h
  | .var i, fx, x, h => (okX (.var i) fx x h).ct
  | .con v, fx, x, h => (okX (.con v) fx x h).ct
  | .glob g, fx, x, h => (okX (.glob g) fx x h).ct
  | .bty f, fx, x, h => (okX (.bty f) fx x h).ct
  | .bin op a b, fx, x, h => (okX (.bin op a b) fx x h).ct
  | .neg a, fx, x, h => (okX (.neg a) fx x h).ct
  | .not a, fx, x, h => (okX (.not a) fx x h).ct
  | .and a b, fx, x, h => (okX (.and a b) fx x h).ct
  | .or a b, fx, x, h => (okX (.or a b) fx x h).ct
  | .cmp op a b, fx, x, h => (okX (.cmp op a b) fx x h).ct
  | .chn o1 o2 a b c, fx, x, h => (okX (.chn o1 o2 a b c) fx x h).ct
  | .ife c a b, fx, x, h => (okX (.ife c a b) fx x h).ct
  | .tup es, fx, x, h => (okX (.tup es) fx x h).ct
  | .star e, fx, x, h => (okX (.star e) fx x h).ct
  | .ix o i, fx, x, h => (okX (.ix o i) fx x h).ct
  | .sl o lo hi, fx, x, h => (okX (.sl o lo hi) fx x h).ct
  | .nop, fx, x, h => (okX (.nop) fx x h).ct
  | .call g es, fx, x, h => (okX (.call g es) fx x h).ct
  | .bi f es, fx, x, h => (okX (.bi f es) fx x h).ct
  | .mt m b o es, fx, x, h => (okX (.mt m b o es) fx x h).ct
  | .att o f, fx, x, h => (okX (.att o f) fx x h).ct
  | .lc e own t k its ifs, fx, x, h => (okX (.lc e own t k its ifs) fx x h).ct
  | .dsp, fx, x, h => (okX (.dsp) fx x h).ct
  | .never, fx, x, h => (okX (.never) fx x h).ct
theorem okAT : ∀ (es : List Ex) (fx : Fx) (xs : List Expr), chkAT T nm fx es xs = true → ∀ X E, XOk G T nm call fx X E → PAT X xs (tA G E (evEs T call es))
  | [], fx, xs, h, X, E, O => by
    cases xs with
    | nil => exact PAT.imp pat_nil fun σ H Q ⟨as, ρ, h, S, R, o⟩ => (by
        simp only [evEs] at o
        exact o as H [] (Fut.refl S) .nil)
    | cons _ _ => cases h
  | e :: es, fx, xs, h, X, E, O => by
    cases xs with
    | nil => cases h
    | cons x xs =>
      simp only [chkAT, Bool.and_eq_true] at h
      have c := okET e fx x h.1
      have cs := okAT es fx xs h.2 X E O
      refine PAT.imp (pat_cons (c.pe X E O) cs (star_cons c.ns)) fun σ H Q ⟨as, ρ, h, S, R, o⟩ => ?_
      rw [evEs_cons c.ne] at o
      refine ⟨as, ρ, h, S, R, Ok.bind o fun v h1 as1 H1 v' f1 r1 o1 => ⟨as1, ρ, h1, f1.sr, R.fut f1, Ok.bind o1 fun vs h2 as2 H2 vs' f2 r2 o2 => ?_⟩⟩
      exact o2 as2 H2 _ (Fut.refl f2.sr) (.cons (r1.fut f2) r2)
end
theorem pst_set {i : Nat} {x : Str} {e : Expr} {te : TE} {pos' pos : Pos} (hN : X.N.Nodup) (hi : X.N[i]? = some x) (hx : Loc X.env.scope x) (he : PET X e te) (hs : swapsWith e (some (.Name x pos')) pos.line X.env = pure false) (hf : X.fn x = true ∨ X.env.scope.names.lookup x = some .local) :
    PST X (.Assign [.Name x pos'] e pos) (tAsg te (gName i)) := by
  intro pins s σ H D h0 I h
  refine wpAny_Assign_Name (thn (he pins s σ H _ h0 I h) fun v s1 ⟨y, H1, I1, r1, q1⟩ => ?_) hs
  exact store_ok I1 hN hi hx r1 (fun s2 I2 => ⟨_, H1, I2, q1⟩) hf
theorem okST_nm {fx : Fx} (O : XOk G T nm call fx X E) {i : Nat} {e : Ex} {t x : Expr} {p : Pos} (ht : chkNm fx i t = true) (hc : isComp x = false) (he : PET X x (tE G E (evE T call e))) : PST X (.Assign [t] x p) (tS G E (exS T call W (.asg (.nm i) e))) := by
  cases t with
  | Name y q =>
    simp only [chkNm, Bool.and_eq_true, decide_eq_true_eq, List.contains_iff_mem] at ht
    obtain ⟨l, f⟩ := O.st y ht.2
    refine PST.imp (pst_set (i := i) O.nd (by rw [O.N]; exact ht.1) l he (noSwap hc) f) fun D σ H ⟨as, ρ, h, S, R, o⟩ => ?_
    simp only [exS, asgTa, Res.bind_ok] at o
    exact ⟨as, ρ, h, S, R, Ok.bind o fun v h1 as1 H1 v' f1 r1 o1 => o1 as1 H1 (.nx _) (Fut.refl f1.sr) ((R.fut f1).set i r1)⟩
  | _ => cases ht
theorem okST_ret {e : Ex} {x : Expr} {p : Pos} (he : PET X x (tE G E (evE T call e))) : PST X (.Return (some x) p) (tS G E (exS T call W (.ret e))) := by
  refine PST.imp (pst_ret he) fun D σ H ⟨as, ρ, h, S, R, o⟩ => ?_
  simp only [exS] at o
  exact ⟨as, ρ, h, S, R, Ok.bind o fun v h1 as1 H1 v' f1 r1 o1 => o1 as1 H1 (.rt v') (Fut.refl f1.sr) r1⟩
theorem okST_ite {c : Ex} {a b : List Sm} {z : Expr} {xa xb : List Stmt} {p : Pos} (hc : PT X z (tT G E (evT T call c))) (ha : PSsT X xa (tS G E (exSs T call W a))) (hb : PSsT X xb (tS G E (exSs T call W b))) : PST X (.If z xa xb p) (tS G E (exS T call W (.ite c a b))) := by
  refine PST.imp (pst_if hc ha hb) fun D σ H ⟨as, ρ, h, S, R, o⟩ => ?_
  simp only [exS] at o
  refine ⟨as, ρ, h, S, R, Ok.bind o fun t h1 as1 H1 t' f1 r1 o1 => ?_⟩
  subst r1
  cases t with
  | true => exact ⟨as1, ρ, h1, f1.sr, R.fut f1, o1⟩
  | false => exact ⟨as1, ρ, h1, f1.sr, R.fut f1, o1⟩
theorem okSTs_cons {s : Sm} {r : List Sm} {x : Stmt} {xs : List Stmt} (h1 : PST X x (tS G E (exS T call W s))) (h2 : PSsT X xs (tS G E (exSs T call W r))) : PSsT X (x :: xs) (tS G E (exSs T call W (s :: r))) := by
  refine PSsT.imp (psst_cons h1 h2) fun D σ H ⟨as, ρ, h, S, R, o⟩ => ?_
  simp only [exSs] at o
  refine ⟨as, ρ, h, S, R, Ok.bind o fun f h1 as1 H1 fv f1 r1 o1 => ?_⟩
  cases f with
  | nx ρ1 =>
    cases fv with
    | nx σ1 => exact ⟨as1, ρ1, h1, f1.sr, r1, o1⟩
    | _ => exact False.elim r1
  | bk ρ1 =>
    cases fv with
    | bk σ1 => exact o1 as1 H1 (.bk σ1) (Fut.refl f1.sr) r1
    | _ => exact False.elim r1
  | ct ρ1 =>
    cases fv with
    | ct σ1 => exact o1 as1 H1 (.ct σ1) (Fut.refl f1.sr) r1
    | _ => exact False.elim r1
  | rt v =>
    cases fv with
    | rt v1 => exact o1 as1 H1 (.rt v1) (Fut.refl f1.sr) r1
    | _ => exact False.elim r1
mutual
theorem okST : ∀ (s : Sm) (fx : Fx) (x : Stmt), chkST T nm fx s x = true → ∀ X E, XOk G T nm call fx X E → PassesOwn (model X.prog X.w) X.A X.env X.xe → PST X x (tS G E (exS T call W s))
  | .asg (.nm i) e, fx, x, h, X, E, O, po => by
    cases x with
    | Assign ts x p =>
      match ts, h with
      | [tg], h =>
        simp only [chkST, Bool.or_eq_true, Bool.and_eq_true, Bool.not_eq_true'] at h
        rcases h with h | ⟨⟨h1, h2⟩, h3⟩
        · exact PST.of (okS _ fx _ h X E O po)
        · exact okST_nm O h1 h2 ((okET e fx x h3).pe X E O)
    | _ => cases h
  | .ret e, fx, x, h, X, E, O, po => by
    cases x with
    | Return o p =>
      cases o with
      | none => cases h
      | some x => exact okST_ret ((okET e fx x h).pe X E O)
    | _ => cases h
  | .ite c a b, fx, x, h, X, E, O, po => by
    cases x with
    | If z xa xb p =>
      simp only [chkST, Bool.and_eq_true] at h
      exact okST_ite ((okX c fx z h.1.1).pt X E O) (okSTs a fx xa h.1.2 X E O po) (okSTs b fx xb h.2 X E O po)
    | _ => cases h
  | .asg (.tp is) e, fx, x, h, X, E, O, po => PST.of (okS _ fx x h X E O po)
  | .asg (.att o f) e, fx, x, h, X, E, O, po => PST.of (okS _ fx x h X E O po)
  | .asg (.ix o i) e, fx, x, h, X, E, O, po => PST.of (okS _ fx x h X E O po)
  | .aug t op e, fx, x, h, X, E, O, po => PST.of (okS _ fx x h X E O po)
  | .ex e, fx, x, h, X, E, O, po => PST.of (okS _ fx x h X E O po)
  | .retn, fx, x, h, X, E, O, po => PST.of (okS _ fx x h X E O po)
  | .wh c b, fx, x, h, X, E, O, po => PST.of (okS _ fx x h X E O po)
  | .for_ t k its b, fx, x, h, X, E, O, po => PST.of (okS _ fx x h X E O po)
  | .brk, fx, x, h, X, E, O, po => PST.of (okS _ fx x h X E O po)
  | .cnt, fx, x, h, X, E, O, po => PST.of (okS _ fx x h X E O po)
  | .pass, fx, x, h, X, E, O, po => PST.of (okS _ fx x h X E O po)
  | .raise g es, fx, x, h, X, E, O, po => PST.of (okS _ fx x h X E O po)
  | .del o i, fx, x, h, X, E, O, po => PST.of (okS _ fx x h X E O po)
  | .never, fx, x, h, X, E, O, po => PST.of (okS _ fx x h X E O po)
theorem okSTs : ∀ (ss : List Sm) (fx : Fx) (xs : List Stmt), chkSTs T nm fx ss xs = true → ∀ X E, XOk G T nm call fx X E → PassesOwn (model X.prog X.w) X.A X.env X.xe → PSsT X xs (tS G E (exSs T call W ss))
  | [], fx, xs, h, X, E, O, po => by
    cases xs with
    | nil => exact PSsT.of okSs_nil
    | cons _ _ => cases h
  | s :: r, fx, xs, h, X, E, O, po => by
    cases xs with
    | nil => cases h
    | cons x xs =>
      simp only [chkSTs, Bool.and_eq_true] at h
      exact okSTs_cons (okST s fx x h.1 X E O po) (okSTs r fx xs h.2 X E O po)
end
end
end Mn
set_option Elab.async false
set_option linter.all false
set_option maxRecDepth 100000
set_option maxHeartbeats 8000000
namespace Mn
open PySem PySem.Spec L2 PyProof.Rows CwR
structure Df where
  ps : List Str
  N : List Str
  body : List Sm
def locC (names : List (Str × NameKind)) (x : Str) : Bool := match names.lookup x with
  | some .local => true
  | some .cell => true
  | _ => false
theorem locC_ok {names : List (Str × NameKind)} {x : Str} (h : locC names x = true) : names.lookup x = some .local ∨ names.lookup x = some .cell := by
  unfold locC at h
  split at h
  · rename_i q; exact .inl q
  · rename_i q; exact .inr q
  · cases h
def Df.fx (d : Df) (sc : Scope) : Fx where
  N := d.N
  names := sc.names
  st := d.N.filter (locC sc.names)
def runD (T : Tb) (W : Nat) (call : Nat → List PV → PH → Res PV) (d : Df) (vs : List PV) (h : PH) : Res PV := if vs.length = d.ps.length then runBody T call W d.N.length d.body vs h else .stuck
def callS (T : Tb) (W : Nat) (D : List Df) (sp : Nat → Option (List PV → PH → Res PV)) : Nat → Nat → List PV → PH → Res PV
  | 0, _, _, _ => .stuck
  | n + 1, i, vs, h => match D[i]? with
    | none => .stuck
    | some d => match sp i with
      | none => runD T W (callS T W D sp n) d vs h
      | some r => if vs.length = d.ps.length then r vs h else .stuck
section
variable (G : Gm) (T : Tb) (nm : Nm) (D : List Df) (K : PySem.W.Frag) (mg : Str → Option Value)
structure GOk : Prop where
  K : K = G.K
  gl : ∀ (g : Nat) (x : Str) (v : PV), nm.gn[g]? = some x → T.glob[g]? = some v → ∃ u, mg x = some u ∧ RelG G v u
  bl : ∀ f : Bi, mg f.nm = none
  rng : mg "range" = none
  enm : mg "enumerate" = none
  zp : mg "zip" = none
  rvs : mg "reversed" = none
  cls : COk G T
  lt : ∀ (g f : Nat), T.glob[g]? = some (.fn f) → f < D.length
structure DOk (i : Nat) (d : Df) (fd : FuncData) : Prop where
  ex : ∃ (x qual : Str) (params : Arguments) (body : List Stmt) (scope : Scope), FunD K x qual params body scope [] [] (G.fa i) fd ∧ FnScope d.N d.ps scope ∧ ((chkSs T nm (d.fx scope) d.body body = true) ∨ ((∀ y ∈ scope.names, y.2 ≠ .cell) ∧ 1 ≤ d.ps.length ∧ chkSTs T nm (d.fx scope) d.body body = true))
  bn : Binds K fd d.ps []
  kp : PySem.W.keepIn K (.ref (G.fa i)) = true
end
section
variable {G : Gm} {T : Tb} {nm : Nm} {D : List Df} {K : PySem.W.Frag} {mg : Str → Option Value} {P : Program} {w : World} {base : Heap} {W : Nat} {sp : Nat → Option (List PV → PH → Res PV)}
def FnsAt (G : Gm) (T : Tb) (D : List Df) (P : Program) (w : World) (K : PySem.W.Frag) (mg : Str → Option Value) (base : Heap) (call : Nat → List PV → PH → Res PV) (k : Nat) : Prop :=
  ∀ i d, D[i]? = some d → ∃ fd, FnOk P w K mg base (L2.CX P w) k (G.fa i) fd d.ps (spF G call i d.ps.length) ∧ PySem.W.keepIn K (.ref (G.fa i)) = true ∧ Binds K fd d.ps [] ∧ ∀ xs h, xs.length ≠ d.ps.length → call i xs h = .stuck
theorem xok {call : Nat → List PV → PH → Res PV} {d : Df} {qual : Str} {scope : Scope} {f : Addr} {cdv : Value} {A : Around} {outer : List Env} {s : Shared} {H : Hp} {E : XK} {k : Nat} (O : GOk G T nm D K mg) (S : FnScope d.N d.ps scope) (hr : Room k (A.deeper (envOfC qual scope s.heap.objs.size f cdv)))
    (F : FnsAt G T D P w K mg base call k) : XOk G T nm call (d.fx scope) (cxOf (L2.CX P w) P w K mg base d.N qual scope f cdv A outer s H E) E where
  K := O.K
  calm := rfl
  hu := by have := hr.un; show (A.deeper (envOfC qual scope s.heap.objs.size f cdv)).units + 70 < cLine; omega
  N := rfl
  nd := S.nd
  names := rfl
  gl := O.gl
  bl := O.bl
  st := fun x hx => by
    have : locC scope.names x = true := (List.mem_filter.mp hx).2
    exact ⟨locC_ok this, .inl rfl⟩
  rng := O.rng
  enm := O.enm
  zp := O.zp
  rvs := O.rvs
  cls := O.cls
  kind := S.kind
  pass := passes_call (takes_of rfl rfl rfl rfl) fun _ _ _ _ h => h
  fns := fun g x f' h1 h2 => by
    have hl := O.lt g f' h2
    obtain ⟨fd, F1, kp, bn, ar⟩ := F f' D[f'] (List.getElem?_eq_getElem hl)
    obtain ⟨u, e, y, ry, rep⟩ := O.gl g x _ h1 h2
    have e2 : y = .ref (G.fa f') := by
      have := rep [] (fun _ => none)
      unfold RepV at this
      exact this
    subst e2
    cases ry
    exact ⟨k, fd, D[f'].ps, F1, hr, kp, bn, e, ar⟩
theorem repE_start {as : List Addr} {H : Hp} {xs : List PV} {vs : List V} {N : List Str} (r : RepVs G as H xs vs) : RepE G as H (xs.map some ++ List.replicate (N.length - xs.length) none) (L2.start N vs) := by
  refine ⟨by simp [L2.start, r.length], fun i v e => ?_⟩
  unfold L2.start
  by_cases hi : i < xs.length
  · rw [List.getElem?_append_left (by simpa using hi), List.getElem?_map] at e
    rw [List.getElem?_append_left (by simpa [← r.length] using hi), List.getElem?_map]
    cases q : xs[i]? with
    | none => rw [q] at e; cases e
    | some y =>
      rw [q] at e
      cases e
      obtain ⟨v', e1, rv⟩ := r.get q
      exact ⟨v', by rw [e1]; rfl, rv⟩
  · rw [List.getElem?_append_right (by simpa using hi)] at e
    have := List.mem_of_getElem? e
    simp at this
theorem fn_mini {call : Nat → List PV → PH → Res PV} {i k : Nat} {d : Df} {fd : FuncData} (O : GOk G T nm D K mg) (DO : DOk G T nm K i d fd) (F : FnsAt G T D P w K mg base call k) : FnOk P w K mg base (L2.CX P w) (k + 1) (G.fa i) fd d.ps (spF G (fun _ => runD T W call d) i d.ps.length) := by
  obtain ⟨x, qual, params, body, scope, FD, S, hcc⟩ := DO.ex
  obtain ⟨oc, od, dV, kV, doc, pm, an, cdv, ct, osl, rfl, lk, hcd, _, _⟩ := FD.ex
  have fin : ∀ (vs : List V) (xs : List PV) (as : List Addr) (H : Hp) (h : PH) (Q : VK) (E : XK), vs.length = d.ps.length → RepVs G as H xs vs → OkV G E as H Q (runD T W call d xs h) →
      Ok G E as H (fun as' H' => relF G as' H') (endsQ { nx := fun _ H' => Q .non H', rt := Q }) (exSs T call W d.body (xs.map some ++ List.replicate (d.N.length - xs.length) none) h) := fun vs xs as H h Q E hl R o => by
    have hx : xs.length = d.ps.length := by rw [R.length]; exact hl
    unfold runD at o
    rw [if_pos hx] at o
    unfold runBody at o
    refine Ok.bind o fun f h1 as1 H1 fv f1 r1 o1 => ?_
    cases f with
    | nx ρ1 =>
      cases fv with
      | nx σ1 => exact o1 as1 H1 .non (Fut.refl f1.sr) .non
      | _ => exact False.elim r1
    | bk ρ1 => exact False.elim o1
    | ct ρ1 => exact False.elim o1
    | rt v =>
      cases fv with
      | rt v1 => exact o1 as1 H1 v1 (Fut.refl f1.sr) r1
      | _ => exact False.elim r1
  rcases hcc with hc | ⟨hnc, hps, hc⟩
  · refine fn_of lk hcd S (fun vs H Q E h => h.1) fun A outer s H vs Q E hr hsp => ?_
    obtain ⟨hl, as, h, xs, Sr, R, o⟩ := hsp
    have X := xok (P := P) (w := w) (base := base) (A := A) (outer := outer) (s := s) (H := H) (E := E) (qual := qual) (f := G.fa i) (cdv := cdv) O S hr F
    exact ⟨_, okSs (W := W) d.body _ body hc _ E X (passes_of rfl), as, _, h, Sr, repE_start R, fin vs xs as H h Q E hl R o⟩
  · refine fn_ofT lk hcd S hnc hps (fun vs H Q E h => h.1) fun A outer s H vs Q E hr hsp => ?_
    obtain ⟨hl, as, h, xs, Sr, R, o⟩ := hsp
    have X := xok (P := P) (w := w) (base := base) (A := A) (outer := outer) (s := s) (H := H) (E := E) (qual := qual) (f := G.fa i) (cdv := cdv) O S hr F
    exact ⟨_, okSTs (W := W) d.body _ body hc _ E X (passes_of rfl), as, _, h, Sr, repE_start R, fin vs xs as H h Q E hl R o⟩
def SpOk (G : Gm) (T : Tb) (W : Nat) (D : List Df) (sp : Nat → Option (List PV → PH → Res PV)) : Prop := ∀ i d r, D[i]? = some d → sp i = some r → ∀ (n : Nat) (as : List Addr) (H : Hp) (h : PH) (xs : List PV) (vs : List V) (Q : VK) (E : XK), SR G as H h → RepVs G as H xs vs → xs.length = d.ps.length → OkV G E as H Q (r xs h) →
  ∃ as' h', SR G as' H h' ∧ RepVs G as' H xs vs ∧ OkV G E as' H Q (runD T W (callS T W D sp n) d xs h')
theorem all_fns (O : GOk G T nm D K mg) (DO : ∀ i d, D[i]? = some d → ∃ fd, DOk G T nm K i d fd) (so : SpOk G T W D sp) : ∀ n, FnsAt G T D P w K mg base (callS T W D sp n) n
  | 0 => fun i d e => by
    obtain ⟨fd, q⟩ := DO i d e
    refine ⟨fd, ⟨fun vs H Q E h => h.1, fun A outer s H args us vs Q E hr e0 hb r h => ?_⟩, q.kp, q.bn, fun xs h _ => rfl⟩
    obtain ⟨_, _, _, _, _, _, o⟩ := h
    exact False.elim o
  | n + 1 => fun i d e => by
    obtain ⟨fd, q⟩ := DO i d e
    have F := fn_mini (W := W) (i := i) O q (all_fns O DO so n)
    refine ⟨fd, F.imp fun vs H Q E h => ?_, q.kp, q.bn, fun xs h hl => ?_⟩
    · obtain ⟨hl, as, h, xs, Sr, R, o⟩ := h
      have hx : xs.length = d.ps.length := by rw [R.length]; exact hl
      simp only [callS, e] at o
      cases hs : sp i with
      | none =>
        rw [hs] at o
        exact ⟨hl, as, h, xs, Sr, R, o⟩
      | some r =>
        rw [hs] at o
        dsimp only at o
        rw [if_pos hx] at o
        obtain ⟨as', h', S', R', o'⟩ := so i d r e hs n as H h xs vs Q E Sr R hx o
        exact ⟨hl, as', h', xs, S', R', o'⟩
    · simp only [callS, e]
      cases hs : sp i with
      | none => simp only [runD, if_neg hl]
      | some r => simp only [if_neg hl]
end
end Mn
set_option Elab.async false
set_option linter.all false
set_option maxRecDepth 100000
set_option maxHeartbeats 1000000
namespace Mn
open PySem PySem.Spec L2 PyProof.Rows CwR
def bDice : List Sm := [.asg (.nm 2) (.bin .add (.bin .mul (.con (.int 83)) (.var 1)) (.con (.int 59))), .ite (.cmp .lt (.var 1) (.bi .len [.var 0])) [.asg (.nm 2) (.ix (.var 0) (.var 1))] [], .asg (.nm 3) (.bin .mod (.bi .int [.bi .abs [.var 2]]) (.bin .pow (.bin .pow (.con (.int 10)) (.con (.int 60))) (.con (.int 10)))), .asg (.nm 4) (.bin .fdiv (.var 3) (.bin .pow (.con (.int 10)) (.con (.int 18)))), .asg (.nm 5) (.bin .add (.bin .add (.bin .add (.bin .mul (.bin .mod (.var 3) (.con (.int 2147482811))) (.con (.int 60509))) (.bin .mul (.con (.int 3499)) (.var 1))) (.bin .mul (.con (.int 73)) (.bi .int [.cmp .lt (.var 2) (.con (.int 0))]))) (.con (.int 101))), .ret (.lst [.var 4, .bin .mod (.var 5) (.con (.int 2147482801)), .con (.int 0)])]
def bRoll : List Sm := [.asg (.nm 2) (.bi .int [.var 1]), .ite (.cmp .gt (.ix (.var 0) (.con (.int 0))) (.con (.int 0))) [.asg (.nm 5) (.bin .mod (.ix (.var 0) (.con (.int 0))) (.var 2)), .asg (.ix (.var 0) (.con (.int 0))) (.bin .fdiv (.ix (.var 0) (.con (.int 0))) (.var 2)), .ret (.bi .int [.var 5])] [], .asg (.ix (.var 0) (.con (.int 2))) (.bin .add (.ix (.var 0) (.con (.int 2))) (.con (.int 1))), .asg (.nm 3) (.bin .mod (.bin .add (.ix (.var 0) (.con (.int 1))) (.bin .mul (.con (.int 1000333)) (.ix (.var 0) (.con (.int 2))))) (.con (.int 2305843009213693951))), .asg (.nm 4) (.bin .add (.bin .mul (.bin .mod (.bin .mul (.var 3) (.var 3)) (.con (.int 2305843009213693921))) (.var 3)) (.bin .mul (.con (.int 9479)) (.ix (.var 0) (.con (.int 2))))), .asg (.nm 4) (.bin .mod (.var 4) (.con (.int 2305843009213693907))), .ret (.bi .int [.bin .mod (.bin .fdiv (.var 4) (.con (.int 4096))) (.var 2)])]
def spRoll (xs : List PV) (h : PH) : Res PV := match xs with
  | [.ref l, .int n] => (match h[l]? with
    | some (.dice (b + 1)) => if 0 < n ∧ n < 2 ^ 62 then .all n.toNat fun r => .ok (.int r) (h.set l (.dice b)) else .stuck
    | _ => .stuck)
  | _ => .stuck
def spDice (xs : List PV) (h : PH) : Res PV := match xs with
  | [.frk xs, .int i] => if (intsOf xs).isSome ∧ 0 ≤ i ∧ i < 2 ^ 20 then .ok (.ref h.length) (h ++ [.dice (2 ^ 63)]) else .stuck
  | _ => .stuck
section
variable {T : Tb} {cl : Nat → List PV → PH → Res PV} {W : Nat}
theorem D_nx {s : Sm} {r : List Sm} {ρ ρ1 : PEnv} {h h1 : PH} {z : Res Fl} (e : exS T cl W s ρ h = .ok (.nx ρ1) h1) (k : exSs T cl W r ρ1 h1 = z) : exSs T cl W (s :: r) ρ h = z := by
  simp only [exSs, e, Res.bind_ok]
  exact k
theorem D_rt {s : Sm} {r : List Sm} {ρ : PEnv} {h h1 : PH} {v : PV} (e : exS T cl W s ρ h = .ok (.rt v) h1) : exSs T cl W (s :: r) ρ h = .ok (.rt v) h1 := by
  simp only [exSs, e, Res.bind_ok]
theorem run_rt {d : Df} {vs : List PV} {h h1 : PH} {v : PV} (hl : vs.length = d.ps.length) (e : exSs T cl W d.body (vs.map some ++ List.replicate (d.N.length - vs.length) none) h = .ok (.rt v) h1) : runD T W cl d vs h = .ok v h1 := by
  unfold runD
  rw [if_pos hl]
  unfold runBody
  rw [e]
  rfl
theorem nat_log {x k : Nat} (h : x < 2 ^ k) (hk : k ≤ 400000) : x.log2 < 400000 + 1 := by
  by_cases hz : x = 0
  · rw [hz]; decide
  · have := (Nat.log2_lt hz).mpr h
    omega
theorem big_nat {a b : Int} {k : Nat} (ha : a.natAbs < 2 ^ k) (hb : b.natAbs < 2 ^ k) (hk : k ≤ 400000) : big a b = true := by
  unfold big
  have h1 := nat_log ha hk
  have h2 := nat_log hb hk
  simp
  omega
theorem roll_great {l : Nat} {n i j k : Int} {h : PH} (e : h[l]? = some (.lst [.int i, .int j, .int k])) (hn : 0 < n) (hs : n < 2 ^ 62) (hi : 0 < i) :
    exSs T cl W bRoll [some (.ref l), some (.int n), none, none, none, none] h = .ok (.rt (.int (i % n))) (h.set l (.lst [.int (i / n), .int j, .int k])) := by
  have hl : n.natAbs.log2 < 9000 := by
    have h1 : n.natAbs < 2 ^ 62 := by omega
    have := nat_log h1 (by decide)
    by_cases hz : n.natAbs = 0
    · rw [hz]; decide
    · have := (Nat.log2_lt hz).mpr h1
      omega
  unfold bRoll
  refine D_nx (ρ1 := [some (.ref l), some (.int n), some (.int n), none, none, none]) (h1 := h) (by simp [exSs, exS, evE, evEs, evT, evIf, asgTa, bindTg, pBin, pCmp, pBi, pTru, ob, pIx, atI, ixN, Res.bind, pSet]) ?_
  refine D_rt ?_
  have c : evT T cl (.cmp .gt (.ix (.var 0) (.con (.int 0))) (.con (.int 0))) [some (.ref l), some (.int n), some (.int n), none, none, none] h = .ok true h := by simp [exSs, exS, evE, evEs, evT, evIf, asgTa, bindTg, pBin, pCmp, pBi, pTru, ob, pIx, atI, ixN, Res.bind, pSet, e, hi]
  simp only [exS, c, Res.bind_ok, if_true]
  refine D_nx (ρ1 := [some (.ref l), some (.int n), some (.int n), none, none, some (.int (i % n))]) (h1 := h) (by simp [exSs, exS, evE, evEs, evT, evIf, asgTa, bindTg, pBin, pCmp, pBi, pTru, ob, pIx, atI, ixN, Res.bind, pSet, e, hn]) ?_
  refine D_nx (ρ1 := [some (.ref l), some (.int n), some (.int n), none, none, some (.int (i % n))]) (h1 := h.set l (.lst [.int (i / n), .int j, .int k])) (by simp [exSs, exS, evE, evEs, evT, evIf, asgTa, bindTg, pBin, pCmp, pBi, pTru, ob, pIx, atI, ixN, Res.bind, pSet, e, hn, hl]) ?_
  exact D_rt (by simp [exSs, exS, evE, evEs, evT, evIf, asgTa, bindTg, pBin, pCmp, pBi, pTru, ob, pIx, atI, ixN, Res.bind, pSet])
theorem roll_small {l : Nat} {n i j k : Int} {h : PH} (e : h[l]? = some (.lst [.int i, .int j, .int k])) (hn : 0 < n) (hs : n < 2 ^ 62) (hi : ¬ 0 < i) (hj : 0 ≤ j ∧ j < 2 ^ 40) (hk : 0 ≤ k ∧ k < 2 ^ 64) :
    ∃ r : Int, 0 ≤ r ∧ r < n ∧ exSs T cl W bRoll [some (.ref l), some (.int n), none, none, none, none] h = .ok (.rt (.int r)) (h.set l (.lst [.int i, .int j, .int (k + 1)])) := by
  have hl : l < h.length := (List.getElem?_eq_some_iff.mp e).1
  have e2 : (h.set l (.lst [.int i, .int j, .int (k + 1)]))[l]? = some (.lst [.int i, .int j, .int (k + 1)]) := List.getElem?_set_self hl
  have l4 : Nat.log2 4096 = 12 := by decide
  obtain ⟨o, ho⟩ : ∃ o, (j + 1000333 * (k + 1)) % 2305843009213693951 = o := ⟨_, rfl⟩
  have o1 : 0 ≤ o := by rw [← ho]; exact Int.emod_nonneg _ (by decide)
  have o2 : o < 2305843009213693951 := by rw [← ho]; exact Int.emod_lt_of_pos _ (by decide)
  obtain ⟨q, hq⟩ : ∃ q, o * o % 2305843009213693921 = q := ⟨_, rfl⟩
  have q1 : 0 ≤ q := by rw [← hq]; exact Int.emod_nonneg _ (by decide)
  have q2 : q < 2305843009213693921 := by rw [← hq]; exact Int.emod_lt_of_pos _ (by decide)
  have b1 : big 1000333 (k + 1) = true := big_nat (k := 70) (by decide) (by omega) (by decide)
  have b2 : big o o = true := big_nat (k := 70) (by omega) (by omega) (by decide)
  have b3 : big q o = true := big_nat (k := 70) (by omega) (by omega) (by decide)
  have b4 : big 9479 (k + 1) = true := big_nat (k := 70) (by decide) (by omega) (by decide)
  refine ⟨(q * o + 9479 * (k + 1)) % 2305843009213693907 / 4096 % n, Int.emod_nonneg _ (by omega), Int.emod_lt_of_pos _ hn, ?_⟩
  unfold bRoll
  refine D_nx (ρ1 := [some (.ref l), some (.int n), some (.int n), none, none, none]) (h1 := h) (by simp [exSs, exS, evE, evEs, evT, evIf, asgTa, bindTg, pBin, pCmp, pBi, pTru, ob, pIx, atI, ixN, Res.bind, pSet]) ?_
  refine D_nx (ρ1 := [some (.ref l), some (.int n), some (.int n), none, none, none]) (h1 := h) ?_ ?_
  · have c : evT T cl (.cmp .gt (.ix (.var 0) (.con (.int 0))) (.con (.int 0))) [some (.ref l), some (.int n), some (.int n), none, none, none] h = .ok false h := by simp [exSs, exS, evE, evEs, evT, evIf, asgTa, bindTg, pBin, pCmp, pBi, pTru, ob, pIx, atI, ixN, Res.bind, pSet, e, hi]
    simp only [exS, c, Res.bind_ok, exSs]
    rfl
  refine D_nx (ρ1 := [some (.ref l), some (.int n), some (.int n), none, none, none]) (h1 := h.set l (.lst [.int i, .int j, .int (k + 1)])) (by simp [exSs, exS, evE, evEs, evT, evIf, asgTa, bindTg, pBin, pCmp, pBi, pTru, ob, pIx, atI, ixN, Res.bind, pSet, e]) ?_
  generalize h.set l (.lst [.int i, .int j, .int (k + 1)]) = h2 at e2 ⊢
  refine D_nx (ρ1 := [some (.ref l), some (.int n), some (.int n), some (.int o), none, none]) (h1 := h2) (by simp [exSs, exS, evE, evEs, evT, evIf, asgTa, bindTg, pBin, pCmp, pBi, pTru, ob, pIx, atI, ixN, Res.bind, pSet, e2, b1, ho]) ?_
  refine D_nx (ρ1 := [some (.ref l), some (.int n), some (.int n), some (.int o), some (.int (q * o + 9479 * (k + 1))), none]) (h1 := h2) (by simp [exSs, exS, evE, evEs, evT, evIf, asgTa, bindTg, pBin, pCmp, pBi, pTru, ob, pIx, atI, ixN, Res.bind, pSet, e2, b2, b3, b4, hq]) ?_
  generalize (q * o + 9479 * (k + 1)) = t
  refine D_nx (ρ1 := [some (.ref l), some (.int n), some (.int n), some (.int o), some (.int (t % 2305843009213693907)), none]) (h1 := h2) (by simp [exSs, exS, evE, evEs, evT, evIf, asgTa, bindTg, pBin, pCmp, pBi, pTru, ob, pIx, atI, ixN, Res.bind, pSet]) ?_
  exact D_rt (by simp [exSs, exS, evE, evEs, evT, evIf, asgTa, bindTg, pBin, pCmp, pBi, pTru, ob, pIx, atI, ixN, Res.bind, pSet, l4, hn])
theorem ten_pow : Builtin.Int.intBits 10 = 4 ∧ Builtin.Int.intBits (10 ^ 60) = 200 := by decide +kernel
theorem dice_run {xs : List PV} {at_ : Int} {is : List Int} {h : PH} (e : intsOf xs = some is) (h0 : 0 ≤ at_) (h1 : at_ < 2 ^ 20) :
    ∃ a b : Int, (0 ≤ a ∧ a < 10 ^ 600) ∧ (0 ≤ b ∧ b < 2 ^ 40) ∧ exSs T cl W bDice [some (.frk xs), some (.int at_), none, none, none, none] h = .ok (.rt (.ref h.length)) (h ++ [.lst [.int a, .int b, .int 0]]) := by
  have gets : ∀ (xs : List PV) (is : List Int), intsOf xs = some is → xs.length = is.length ∧ ∀ (m : Nat) (x : PV), xs[m]? = some x → ∃ c : Int, x = .int c := fun xs => by
    induction xs with
    | nil => intro is e; simp only [intsOf] at e; cases e; exact ⟨rfl, fun m x q => by simp at q⟩
    | cons y ys ih =>
      intro is e
      cases y with
      | int c =>
        simp only [intsOf] at e
        cases q : intsOf ys with
        | none => rw [q] at e; cases e
        | some js =>
          rw [q] at e
          cases e
          obtain ⟨l1, l2⟩ := ih js q
          refine ⟨by simp [l1], fun m x z => ?_⟩
          cases m with
          | zero => simp at z; exact ⟨c, z.symm⟩
          | succ m => exact l2 m x (by simpa using z)
      | _ => simp only [intsOf] at e; cases e
  obtain ⟨_, gx⟩ := gets xs is e
  -- the cell
  obtain ⟨c, hc⟩ : ∃ c : Int, exSs T cl W (bDice.take 2) [some (.frk xs), some (.int at_), none, none, none, none] h = .ok (.nx [some (.frk xs), some (.int at_), some (.int c), none, none, none]) h := by
    have b1 : big 83 at_ = true := big_nat (k := 70) (by decide) (by omega) (by decide)
    unfold bDice
    by_cases q : at_ < xs.length
    · obtain ⟨m, rfl⟩ : ∃ m : Nat, at_ = m := ⟨at_.toNat, by omega⟩
      have hm : m < xs.length := by omega
      obtain ⟨c, hx⟩ := gx m xs[m] (List.getElem?_eq_getElem hm)
      refine ⟨c, ?_⟩
      have hb2 : big 83 (m : Int) = true := b1
      have ea : atI xs (m : Int) = some (.int c) := by
        unfold atI ixN
        rw [if_pos (by omega), if_pos q]
        simp [hm, hx]
      refine D_nx (ρ1 := [some (.frk xs), some (.int m), some (.int (83 * m + 59)), none, none, none]) (h1 := h) (by simp [exSs, exS, evE, evEs, evT, evIf, asgTa, bindTg, pBin, pCmp, pBi, pTru, ob, pIx, atI, ixN, Res.bind, pSet, hb2]) ?_
      generalize (83 * (m : Int) + 59) = z
      have cc : evT T cl (.cmp .lt (.var 1) (.bi .len [.var 0])) [some (.frk xs), some (.int m), some (.int z), none, none, none] h = .ok true h := by simp [exSs, exS, evE, evEs, evT, evIf, asgTa, bindTg, pBin, pCmp, pBi, pTru, ob, pIx, atI, ixN, Res.bind, pSet, hm]
      refine D_nx (ρ1 := [some (.frk xs), some (.int m), some (.int c), none, none, none]) (h1 := h) ?_ (by simp only [List.take_zero, exSs])
      simp only [exS, cc, Res.bind_ok, if_true, exSs, evE, asgTa, List.getElem?_cons_zero, List.getElem?_cons_succ, pIx, ea]
      rfl
    · refine ⟨83 * at_ + 59, ?_⟩
      refine D_nx (ρ1 := [some (.frk xs), some (.int at_), some (.int (83 * at_ + 59)), none, none, none]) (h1 := h) (by simp [exSs, exS, evE, evEs, evT, evIf, asgTa, bindTg, pBin, pCmp, pBi, pTru, ob, pIx, atI, ixN, Res.bind, pSet, b1]) ?_
      generalize (83 * at_ + 59) = z
      have cc : evT T cl (.cmp .lt (.var 1) (.bi .len [.var 0])) [some (.frk xs), some (.int at_), some (.int z), none, none, none] h = .ok false h := by simp [exSs, exS, evE, evEs, evT, evIf, asgTa, bindTg, pBin, pCmp, pBi, pTru, ob, pIx, atI, ixN, Res.bind, pSet, q]
      refine D_nx (ρ1 := [some (.frk xs), some (.int at_), some (.int z), none, none, none]) (h1 := h) ?_ (by simp only [List.take_zero, exSs])
      simp only [exS, cc, Res.bind_ok, exSs]
      rfl
  have split : ∀ (a b : List Sm) (ρ ρ1 : PEnv) (h h1 : PH), exSs T cl W a ρ h = .ok (.nx ρ1) h1 → exSs T cl W (a ++ b) ρ h = exSs T cl W b ρ1 h1 := fun a => by
    induction a with
    | nil => intro b ρ ρ1 h h1 q; simp only [exSs] at q; cases q; rfl
    | cons s r ih =>
      intro b ρ ρ1 h h1 q
      simp only [List.cons_append, exSs] at q ⊢
      cases w : exS T cl W s ρ h with
      | ok f h2 =>
        rw [w, Res.bind_ok] at q
        rw [Res.bind_ok]
        cases f with
        | nx ρ2 => exact ih b ρ2 ρ1 h2 h1 q
        | _ => simp at q
      | _ => rw [w] at q; simp [Res.bind] at q
  have main := split (bDice.take 2) (bDice.drop 2) _ _ _ _ hc
  rw [List.take_append_drop] at main
  obtain ⟨g, hg⟩ : ∃ g : Int, (if c < 0 then -c else c) % ((10 : Int) ^ 60) ^ 10 = g := ⟨_, rfl⟩
  have p600 : ((10 : Int) ^ 60) ^ 10 = 10 ^ 600 := by decide +kernel
  have g1 : 0 ≤ g := by rw [← hg]; exact Int.emod_nonneg _ (by rw [p600]; decide +kernel)
  have g2 : g < 10 ^ 600 := by rw [← hg, ← p600]; exact Int.emod_lt_of_pos _ (by rw [p600]; decide +kernel)
  have s3 : 3 ≤ sizeLine := Nat.le_trans (show 3 ≤ 16 by decide) (by decide)
  have hp1 : ∀ (ρ : PEnv) (h : PH), evE T cl (.bin .pow (.bin .pow (.con (.int 10)) (.con (.int 60))) (.con (.int 10))) ρ h = .ok (.int (((10 : Int) ^ 60) ^ 10)) h := fun ρ h => by
    simp only [evE, Res.bind_ok, pBin]
    rw [if_pos (by decide +kernel)]
    simp only [Res.bind_ok]
    rw [if_pos (by decide +kernel)]
    rfl
  have hp2 : ∀ (ρ : PEnv) (h : PH), evE T cl (.bin .pow (.con (.int 10)) (.con (.int 18))) ρ h = .ok (.int 1000000000000000000) h := fun ρ h => by
    simp only [evE, Res.bind_ok, pBin]
    rw [if_pos (by decide +kernel)]
    rfl
  have pos : (0 : Int) < ((10 : Int) ^ 60) ^ 10 := by rw [p600]; decide +kernel
  have l18 : (1000000000000000000 : Int).natAbs.log2 < 9000 := by decide +kernel
  obtain ⟨m, hm⟩ : ∃ m : Int, g % 2147482811 = m := ⟨_, rfl⟩
  have m1 : 0 ≤ m := by rw [← hm]; exact Int.emod_nonneg _ (by decide)
  have m2 : m < 2147482811 := by rw [← hm]; exact Int.emod_lt_of_pos _ (by decide)
  have b1 : big m 60509 = true := big_nat (k := 70) (by omega) (by decide) (by decide)
  have b2 : big 3499 at_ = true := big_nat (k := 70) (by decide) (by omega) (by decide)
  have b3 : big 73 (if c < 0 then 1 else 0) = true := big_nat (k := 70) (by decide) (by split <;> decide) (by decide)
  have d1 : g / 1000000000000000000 ≤ g := Int.ediv_le_self _ g1
  have d2 : 0 ≤ g / 1000000000000000000 := Int.ediv_nonneg g1 (by decide)
  refine ⟨g / 1000000000000000000, (m * 60509 + 3499 * at_ + 73 * (if c < 0 then 1 else 0) + 101) % 2147482801, ⟨d2, Int.lt_of_le_of_lt d1 g2⟩, ⟨Int.emod_nonneg _ (by decide), Int.lt_trans (Int.emod_lt_of_pos _ (by decide)) (by decide)⟩, ?_⟩
  rw [main]
  clear main hc split d1 d2 g2
  unfold bDice
  refine D_nx (ρ1 := [some (.frk xs), some (.int at_), some (.int c), some (.int g), none, none]) (h1 := h) ?_ ?_
  · have ea : evE T cl (.bi .int [.bi .abs [.var 2]]) [some (.frk xs), some (.int at_), some (.int c), none, none, none] h = .ok (.int (if c < 0 then -c else c)) h := by
      simp only [evE, evEs, List.getElem?_cons_succ, List.getElem?_cons_zero, Res.bind_ok, pBi]
    unfold exS
    rw [show evE T cl (.bin .mod (.bi .int [.bi .abs [.var 2]]) (.bin .pow (.bin .pow (.con (.int 10)) (.con (.int 60))) (.con (.int 10)))) [some (.frk xs), some (.int at_), some (.int c), none, none, none] h = .ok (.int g) h by
      rw [evE, ea, Res.bind_ok, hp1, Res.bind_ok]
      simp only [pBin]
      rw [if_pos (decide_eq_true pos), hg]]
    rfl
  clear hp1 hg pos p600
  refine D_nx (ρ1 := [some (.frk xs), some (.int at_), some (.int c), some (.int g), some (.int (g / 1000000000000000000)), none]) (h1 := h) ?_ ?_
  · unfold exS
    rw [show evE T cl (.bin .fdiv (.var 3) (.bin .pow (.con (.int 10)) (.con (.int 18)))) [some (.frk xs), some (.int at_), some (.int c), some (.int g), none, none] h = .ok (.int (g / 1000000000000000000)) h by
      rw [evE, show evE T cl (.var 3) [some (.frk xs), some (.int at_), some (.int c), some (.int g), none, none] h = .ok (.int g) h from rfl, Res.bind_ok, hp2, Res.bind_ok]
      simp only [pBin]
      rw [if_pos (by rw [decide_eq_true l18]; rfl)]]
    rfl
  generalize g / 1000000000000000000 = gl
  have e8 : evE T cl (.bi .int [.cmp .lt (.var 2) (.con (.int 0))]) [some (.frk xs), some (.int at_), some (.int c), some (.int g), some (.int gl), none] h = .ok (.int (if c < 0 then 1 else 0)) h := by
    simp only [evE, evEs, List.getElem?_cons_succ, List.getElem?_cons_zero, Res.bind_ok, pCmp, pBi]
    by_cases q : c < 0 <;> simp [q]
  generalize (if c < 0 then (1 : Int) else 0) = sg at b3 e8 ⊢
  refine D_nx (ρ1 := [some (.frk xs), some (.int at_), some (.int c), some (.int g), some (.int gl), some (.int (m * 60509 + 3499 * at_ + 73 * sg + 101))]) (h1 := h) ?_ ?_
  · unfold exS
    rw [show evE T cl (.bin .add (.bin .add (.bin .add (.bin .mul (.bin .mod (.var 3) (.con (.int 2147482811))) (.con (.int 60509))) (.bin .mul (.con (.int 3499)) (.var 1))) (.bin .mul (.con (.int 73)) (.bi .int [.cmp .lt (.var 2) (.con (.int 0))]))) (.con (.int 101))) [some (.frk xs), some (.int at_), some (.int c), some (.int g), some (.int gl), none] h = .ok (.int (m * 60509 + 3499 * at_ + 73 * sg + 101)) h by
      generalize hx : (Ex.bi .int [.cmp .lt (.var 2) (.con (.int 0))]) = ex at e8
      simp [evE, e8, pBin, hm, b1, b2, b3]]
    rfl
  generalize (m * 60509 + 3499 * at_ + 73 * sg + 101) = t
  refine D_rt ?_
  simp [exS, evE, evEs, pBin, s3]
end
end Mn
set_option Elab.async false
set_option linter.all false
set_option maxRecDepth 100000
set_option maxHeartbeats 1000000
namespace Mn
open PySem PySem.Spec L2 PyProof.Rows CwR
section
variable {G : Gm} {as as' : List Addr} {H H' : Hp} {h : PH}
theorem SR.say (s : SR G as H h) {l : Nat} {o : PO} (k : ∀ a, as[l]? = some a → RepO G as H o a) : SR G as H (h.set l o) := by
  refine ⟨s.nd, by simp [s.len], fun m ob b e1 e2 => ?_⟩
  by_cases hm : m = l
  · subst hm
    have hl : m < h.length := by
      have := (List.getElem?_eq_some_iff.mp e1).1
      simpa using this
    rw [List.getElem?_set_self hl] at e1
    cases e1
    exact k b e2
  · rw [List.getElem?_set_ne (Ne.symm hm)] at e1
    exact s.at_ m ob b e1 e2
theorem Fut.say {h' : PH} (f : Fut G as H as' H' h') {l : Nat} {o : PO} (k : ∀ a, as'[l]? = some a → RepO G as' H' o a) : Fut G as H as' H' (h'.set l o) := ⟨f.pre, f.kp, f.sr.say k, f.fresh, f.frame⟩
theorem rep_ints {a : Addr} {i j k : Int} (r : RepO G as H (.lst [.int i, .int j, .int k]) a) : H a = some (.lst [.int i, .int j, .int k]) := by
  obtain ⟨vs, e, q⟩ := r
  simp only [RepVs, RepV] at q
  obtain ⟨v, r1, rfl, rfl, v2, r2, rfl, rfl, v3, r3, rfl, rfl, rfl⟩ := q
  exact e
theorem ints_rep {a : Addr} {i j k : Int} (e : H a = some (.lst [.int i, .int j, .int k])) : RepO G as H (.lst [.int i, .int j, .int k]) a := by
  refine ⟨_, e, .cons ?_ (.cons ?_ (.cons ?_ .nil))⟩ <;> (unfold RepV; rfl)
theorem dice_ok {T : Tb} {W : Nat} {cl : Nat → List PV → PH → Res PV} {d : Df} {xs : List PV} {Q : VK} {E : XK} (hp : d.ps.length = 2) (hN : d.N.length = 6) (hb : d.body = bDice) (hx : xs.length = 2) (o : OkV G E as H Q (spDice xs h)) :
    OkV G E as H Q (runD T W cl d xs h) := by
  match xs, hx with
  | [x, y], _ =>
    unfold spDice at o
    split at o
    · rename_i ys i ee
      cases ee
      split at o
      · rename_i q
        obtain ⟨is, e⟩ := Option.isSome_iff_exists.mp q.1
        obtain ⟨a, b, ha, hb', er⟩ := dice_run (T := T) (cl := cl) (W := W) (h := h) e q.2.1 q.2.2
        have : runD T W cl d [.frk ys, .int i] h = .ok (.ref h.length) (h ++ [.lst [.int a, .int b, .int 0]]) := by
          refine run_rt (by simp [hp]) ?_
          rw [hb, hN]
          exact er
        rw [this]
        intro as1 H1 v1 f1 r1
        refine o as1 H1 v1 ?_ r1
        have f2 := f1.say (l := h.length) (o := .dice (2 ^ 63)) fun c ec => by
          obtain ⟨c', ec', rc⟩ := f1.sr.addr (l := h.length) (o := .lst [.int a, .int b, .int 0]) (by simp)
          rw [ec] at ec'
          cases ec'
          exact ⟨a, b, 0, rep_ints rc, ha, hb', by decide, by decide⟩
        simpa using f2
      · exact False.elim o
    · exact False.elim o
theorem roll_ok {T : Tb} {W : Nat} {cl : Nat → List PV → PH → Res PV} {d : Df} {xs : List PV} {Q : VK} {E : XK} (hp : d.ps.length = 2) (hN : d.N.length = 6) (hb : d.body = bRoll) (s : SR G as H h) (hx : xs.length = 2) (o : OkV G E as H Q (spRoll xs h)) :
    ∃ h', SR G as H h' ∧ OkV G E as H Q (runD T W cl d xs h') := by
  match xs, hx with
  | [x, y], _ =>
    unfold spRoll at o
    split at o
    · rename_i l n ee
      cases ee
      split at o
      · rename_i b el
        split at o
        · rename_i q
          obtain ⟨a, ea, ro⟩ := s.addr el
          obtain ⟨i, j, k, eh, hi, hj, hk⟩ := ro
          have hl : l < h.length := (List.getElem?_eq_some_iff.mp el).1
          have eget : (h.set l (.lst [.int i, .int j, .int k]))[l]? = some (.lst [.int i, .int j, .int k]) := List.getElem?_set_self hl
          refine ⟨h.set l (.lst [.int i, .int j, .int k]), s.say fun c ec => ?_, ?_⟩
          · rw [ea] at ec
            cases ec
            exact ints_rep eh
          have fin : ∀ (r i' k' : Int), 0 ≤ r → r < n → (0 ≤ i' ∧ i' < 10 ^ 600) → (0 ≤ k' ∧ k' + b ≤ 2 ^ 64) → exSs T cl W bRoll [some (.ref l), some (.int n), none, none, none, none] (h.set l (.lst [.int i, .int j, .int k])) = .ok (.rt (.int r)) ((h.set l (.lst [.int i, .int j, .int k])).set l (.lst [.int i', .int j, .int k'])) →
              OkV G E as H Q (runD T W cl d [.ref l, .int n] (h.set l (.lst [.int i, .int j, .int k]))) := by
            intro r i' k' r0 rn hi' hk' er
            have e2 : runD T W cl d [.ref l, .int n] (h.set l (.lst [.int i, .int j, .int k])) = .ok (.int r) (h.set l (.lst [.int i', .int j, .int k'])) := by
              rw [List.set_set] at er
              refine run_rt (by simp [hp]) ?_
              rw [hb, hN]
              exact er
            rw [e2]
            intro as1 H1 v1 f1 r1
            have o2 : OkV G E as H Q (.ok (.int (r.toNat : Int)) (h.set l (.dice b))) := o r.toNat (by omega)
            rw [Int.toNat_of_nonneg r0] at o2
            refine o2 as1 H1 v1 ?_ r1
            have f2 := f1.say (l := l) (o := .dice b) fun c ec => by
              obtain ⟨c', ec', rc⟩ := f1.sr.addr (l := l) (o := .lst [.int i', .int j, .int k']) (List.getElem?_set_self hl)
              rw [ec] at ec'
              cases ec'
              exact ⟨i', j, k', rep_ints rc, hi', hj, hk'⟩
            rw [List.set_set] at f2
            exact f2
          by_cases hz : 0 < i
          · refine fin (i % n) (i / n) k (Int.emod_nonneg _ (by omega)) (Int.emod_lt_of_pos _ q.1) ⟨Int.ediv_nonneg hi.1 (by omega), Int.lt_of_le_of_lt (Int.ediv_le_self _ hi.1) hi.2⟩ ⟨hk.1, by omega⟩ (roll_great eget q.1 q.2 hz)
          · obtain ⟨r, r0, rn, er⟩ := roll_small (T := T) (cl := cl) (W := W) eget q.1 q.2 hz hj ⟨hk.1, by omega⟩
            exact fin r i (k + 1) r0 rn hi ⟨by omega, by omega⟩ er
        · exact False.elim o
      · exact False.elim o
    · exact False.elim o
end
end Mn
set_option Elab.async false
set_option linter.all false
set_option maxRecDepth 100000
set_option maxHeartbeats 0
namespace K04
open PySem PySem.Spec PyProof.Rows L2 Mn
def top (i : Nat) : Stmt := PySem.Challenge.pw_deedline_k04_hashes_spots_and_check_sums.main.body.getD i (.Pass ⟨0, 0, 0, 0⟩)
def b_is_within : List Sm := [.ret (.and (.bi .isinst [.var 0, .bty .int]) (.and (.not (.bi .isinst [.var 0, .bty .bool])) (.chn .le .le (.var 1) (.var 0) (.var 2))))]
def d_is_within : Df := ⟨["value", "least", "most"], ["value", "least", "most"], b_is_within⟩
def b_is_text : List Sm := [.ret (.and (.bi .isinst [.var 0, .bty .str]) (.and (.cmp .le (.bi .len [.var 0]) (.glob 26)) (.and (.mt 0 .isascii (.var 0) []) (.mt 0 .isprintable (.var 0) []))))]
def d_is_text : Df := ⟨["value"], ["value"], b_is_text⟩
def b_check_text : List Sm := [.ite (.not (.call 1 [.var 0])) [.never] []]
def d_check_text : Df := ⟨["text"], ["text"], b_check_text⟩
def b_check_within : List Sm := [.ite (.not (.call 0 [.var 0, .var 1, .var 2])) [.never] []]
def d_check_within : Df := ⟨["number", "least", "most"], ["number", "least", "most"], b_check_within⟩
def b_hash_of : List Sm := [.ex (.call 2 [.var 0]), .asg (.nm 1) (.con (.int 0)), .for_ (.nm 2) .seq [.var 0] [.asg (.nm 1) (.bin .mod (.bin .add (.bin .mul (.var 1) (.con (.int 33))) (.bi .ord [.var 2])) (.glob 29))], .ret (.var 1)]
def d_hash_of : Df := ⟨["text"], ["text", "code", "sign"], b_hash_of⟩
def b_spot_of : List Sm := [.ret (.call 8 [.call 4 [.var 0], .glob 27])]
def d_spot_of : Df := ⟨["text"], ["text"], b_spot_of⟩
def b_sum_of : List Sm := [.ite (.not (.call 7 [.var 0])) [.never] [], .asg (.nm 1) (.bi .sum [.lc (.bin .mul (.bi .ord [.var 3]) (.bin .add (.var 2) (.con (.int 1)))) [2, 3] (.tp [2, 3]) .enum [.var 0] []]), .ret (.bin .mod (.var 1) (.glob 28))]
def d_sum_of : Df := ⟨["signs"], ["signs", "total", "at", "sign"], b_sum_of⟩
def b__are_signs : List Sm := [.ite (.not (.bi .isinst [.var 0, .bty .str])) [.ret (.con (.bl false))] [], .asg (.nm 1) (.repl (.var 0) [10] []), .ret (.and (.mt 0 .isascii (.var 1) []) (.mt 0 .isprintable (.var 1) []))]
def d__are_signs : Df := ⟨["value"], ["value", "shown"], b__are_signs⟩
def b_reversed_bits : List Sm := [.ex (.call 10 [.var 0, .var 1, .glob 30]), .asg (.nm 2) (.con (.int 0)), .for_ (.nm 3) .rng [.var 1] [.asg (.nm 2) (.bin .add (.bin .mul (.var 2) (.con (.int 2))) (.bin .band (.bin .shr (.var 0) (.var 3)) (.con (.int 1))))], .ret (.var 2)]
def d_reversed_bits : Df := ⟨["value", "bits"], ["value", "bits", "turned", "at"], b_reversed_bits⟩
def b_bucket_spots : List Sm := [.ex (.call 10 [.var 0, .var 1, .glob 27]), .asg (.nm 2) (.bin .shl (.con (.int 1)) (.bin .sub (.glob 27) (.var 1))), .asg (.nm 3) (.bin .mul (.call 8 [.var 0, .var 1]) (.var 2)), .ret (.tup [.var 3, .bin .sub (.bin .add (.var 3) (.var 2)) (.con (.int 1))])]
def d_bucket_spots : Df := ⟨["bucket", "bits"], ["bucket", "bits", "width", "first"], b_bucket_spots⟩
def b__check_bits : List Sm := [.asg (.nm 3) (.and (.bi .isinst [.var 0, .bty .int]) (.and (.not (.bi .isinst [.var 0, .bty .bool])) (.cmp .ge (.var 0) (.con (.int 0))))), .ite (.not (.var 3)) [.never] [], .ex (.call 3 [.var 1, .con (.int 0), .var 2]), .ite (.cmp .ge (.var 0) (.bin .shl (.con (.int 1)) (.var 1))) [.never] []]
def d__check_bits : Df := ⟨["value", "bits", "most"], ["value", "bits", "most", "is_count"], b__check_bits⟩
def b__law_dice : List Sm := [.asg (.nm 2) (.bin .add (.bin .mul (.con (.int 83)) (.var 1)) (.con (.int 59))), .ite (.cmp .lt (.var 1) (.bi .len [.var 0])) [.asg (.nm 2) (.ix (.var 0) (.var 1))] [], .asg (.nm 3) (.bin .mod (.bi .int [.bi .abs [.var 2]]) (.bin .pow (.bin .pow (.con (.int 10)) (.con (.int 60))) (.con (.int 10)))), .asg (.nm 4) (.bin .fdiv (.var 3) (.bin .pow (.con (.int 10)) (.con (.int 18)))), .asg (.nm 5) (.bin .add (.bin .add (.bin .add (.bin .mul (.bin .mod (.var 3) (.con (.int 2147482811))) (.con (.int 60509))) (.bin .mul (.con (.int 3499)) (.var 1))) (.bin .mul (.con (.int 73)) (.bi .int [.cmp .lt (.var 2) (.con (.int 0))]))) (.con (.int 101))), .ret (.lst [.var 4, .bin .mod (.var 5) (.con (.int 2147482801)), .con (.int 0)])]
def d__law_dice : Df := ⟨["_law_script", "_law_at"], ["_law_script", "_law_at", "_law_cell", "_law_great", "_law_left", "_law_mixed"], b__law_dice⟩
def b__law_roll : List Sm := [.asg (.nm 2) (.bi .int [.var 1]), .ite (.cmp .gt (.ix (.var 0) (.con (.int 0))) (.con (.int 0))) [.asg (.nm 5) (.bin .mod (.ix (.var 0) (.con (.int 0))) (.var 2)), .asg (.ix (.var 0) (.con (.int 0))) (.bin .fdiv (.ix (.var 0) (.con (.int 0))) (.var 2)), .ret (.bi .int [.var 5])] [], .asg (.ix (.var 0) (.con (.int 2))) (.bin .add (.ix (.var 0) (.con (.int 2))) (.con (.int 1))), .asg (.nm 3) (.bin .mod (.bin .add (.ix (.var 0) (.con (.int 1))) (.bin .mul (.con (.int 1000333)) (.ix (.var 0) (.con (.int 2))))) (.con (.int 2305843009213693951))), .asg (.nm 4) (.bin .add (.bin .mul (.bin .mod (.bin .mul (.var 3) (.var 3)) (.con (.int 2305843009213693921))) (.var 3)) (.bin .mul (.con (.int 9479)) (.ix (.var 0) (.con (.int 2))))), .asg (.nm 4) (.bin .mod (.var 4) (.con (.int 2305843009213693907))), .ret (.bi .int [.bin .mod (.bin .fdiv (.var 4) (.con (.int 4096))) (.var 2)])]
def d__law_roll : Df := ⟨["_law_dice_here", "_law_total"], ["_law_dice_here", "_law_total", "_law_size", "_law_one", "_law_two", "_law_drawn"], b__law_roll⟩
def b__law_one_of : List Sm := [.ret (.ix (.var 1) (.call 12 [.var 0, .bi .len [.var 1]]))]
def d__law_one_of : Df := ⟨["_law_dice_here", "_law_items"], ["_law_dice_here", "_law_items"], b__law_one_of⟩
def b__law_key : List Sm := [.ret (.call 13 [.var 0, .lst [.con (.str [97]), .con (.str [97, 99]), .con (.str [98, 66]), .con (.str [107, 101, 121]), .con (.str [108, 32, 49]), .con (.str [122])]])]
def d__law_key : Df := ⟨["_law_dice_here"], ["_law_dice_here"], b__law_key⟩
def b__law_text : List Sm := [.asg (.nm 1) (.lst [.con (.str []), .con (.str [120]), .con (.str [97, 32, 98]), .con (.str [107, 59, 58]), .con (.str [55, 32, 56]), .con (.str [108, 111, 110, 103, 101, 114, 32, 116, 104, 97, 110, 32, 97, 108, 108, 32, 111, 102, 32, 116, 104, 101, 32, 111, 116, 104, 101, 114, 115])]), .ret (.ife (.cmp .eq (.call 12 [.var 0, .con (.int 2)]) (.con (.int 0))) (.call 13 [.var 0, .var 1]) (.call 16 [.var 0]))]
def d__law_text : Df := ⟨["_law_dice_here"], ["_law_dice_here", "_law_some"], b__law_text⟩
def b__law_number : List Sm := [.ite (.cmp .eq (.call 12 [.var 0, .con (.int 12)]) (.con (.int 0))) [.ret (.bi .str [.call 13 [.var 0, .lst [.bin .sub (.bin .pow (.con (.int 2)) (.con (.int 63))) (.con (.int 1)), .bin .sub (.bin .sub (.con (.int 1)) (.bin .pow (.con (.int 2)) (.con (.int 63)))) (.con (.int 1)), .bin .pow (.con (.int 2)) (.con (.int 62)), .bin .pow (.con (.int 10)) (.con (.int 18))]]])] [], .ret (.bi .str [.bin .sub (.call 12 [.var 0, .con (.int 9)]) (.con (.int 4))])]
def d__law_number : Df := ⟨["_law_dice_here"], ["_law_dice_here"], b__law_number⟩
def b__law_power : List Sm := [.asg (.nm 1) (.con (.int 1)), .for_ (.nm 2) .rng [.var 0] [.asg (.nm 1) (.bin .mul (.var 1) (.con (.int 2)))], .ret (.var 1)]
def d__law_power : Df := ⟨["_law_bits"], ["_law_bits", "_law_found", "_law_turn"], b__law_power⟩
def b__law_turned : List Sm := [.asg (.nm 2) (.lst []), .for_ (.nm 3) .rng [.var 1] [.ex (.mt 0 .append (.var 2) [.bin .mod (.bi .int [.var 0]) (.con (.int 2))]), .asg (.nm 0) (.bin .fdiv (.var 0) (.con (.int 2)))], .asg (.nm 4) (.con (.int 0)), .for_ (.nm 5) .seq [.var 2] [.asg (.nm 4) (.bin .add (.bin .mul (.var 4) (.con (.int 2))) (.var 5))], .ret (.var 4)]
def d__law_turned : Df := ⟨["_law_value", "_law_bits"], ["_law_value", "_law_bits", "_law_digits", "_law_turn", "_law_found", "_law_digit"], b__law_turned⟩
def b__law_hash : List Sm := [.asg (.nm 1) (.con (.int 0)), .for_ (.nm 2) .seq [.var 0] [.asg (.nm 1) (.bin .mod (.bi .int [.bin .add (.bin .mul (.var 1) (.con (.int 33))) (.bi .ord [.var 2])]) (.con (.int 65536)))], .ret (.var 1)]
def d__law_hash : Df := ⟨["_law_text_here"], ["_law_text_here", "_law_found", "_law_sign"], b__law_hash⟩
def b__law_sum : List Sm := [.asg (.nm 1) (.con (.int 0)), .for_ (.tp [2, 3]) .enum [.var 0] [.asg (.nm 1) (.bin .add (.var 1) (.bin .mul (.bi .ord [.var 3]) (.bin .add (.var 2) (.con (.int 1)))))], .ret (.bin .mod (.bi .int [.var 1]) (.con (.int 99991)))]
def d__law_sum : Df := ⟨["_law_signs_here"], ["_law_signs_here", "_law_found", "_law_at", "_law_sign"], b__law_sum⟩
def b__law_signs : List Sm := [.asg (.nm 2) (.con (.str [10, 32, 33, 48, 57, 65, 90, 97, 122, 126, 58, 59, 44, 98, 66])), .ret (.mt 0 .join (.con (.str [])) [.lc (.call 13 [.var 0, .bi .list [.var 2]]) [3] (.nm 3) .rng [.call 12 [.var 0, .var 1]] []])]
def d__law_signs : Df := ⟨["_law_dice_here", "_law_most"], ["_law_dice_here", "_law_most", "_law_some", "_law_turn"], b__law_signs⟩
def b__law_texts_right : List Sm := [.asg (.nm 1) (.lst [.call 15 [.var 0], .call 14 [.var 0], .repl (.call 21 [.var 0, .con (.int 12)]) [10] [110], .bin .mul (.con (.str [126])) (.call 12 [.var 0, .con (.int 201)])]), .for_ (.nm 2) .seq [.var 1] [.asg (.nm 3) (.call 19 [.var 2]), .ite (.or (.cmp .ne (.call 4 [.var 2]) (.var 3)) (.cmp .ne (.call 5 [.var 2]) (.call 18 [.var 3, .con (.int 16)]))) [.ret (.con (.bl false))] []], .ret (.con (.bl true))]
def d__law_texts_right : Df := ⟨["_law_dice_here"], ["_law_dice_here", "_law_some", "_law_text_here", "_law_number_here"], b__law_texts_right⟩
def b__law_bits_right : List Sm := [.asg (.nm 1) (.call 12 [.var 0, .con (.int 65)]), .asg (.nm 2) (.call 12 [.var 0, .call 17 [.bi .min [.var 1, .con (.int 40)]]]), .asg (.nm 3) (.call 18 [.var 2, .var 1]), .ite (.or (.cmp .ne (.call 8 [.var 2, .var 1]) (.var 3)) (.cmp .ne (.call 8 [.var 3, .var 1]) (.var 2))) [.ret (.con (.bl false))] [], .asg (.nm 1) (.call 12 [.var 0, .con (.int 17)]), .asg (.nm 4) (.call 17 [.var 1]), .asg (.tp [7, 8]) (.tup [.call 12 [.var 0, .var 4], .call 12 [.var 0, .con (.int 65536)]]), .asg (.tp [9, 10]) (.call 9 [.var 7, .var 1]), .ite (.or (.cmp .ne (.bin .add (.bin .sub (.var 10) (.var 9)) (.con (.int 1))) (.call 17 [.bin .sub (.con (.int 16)) (.var 1)])) (.cmp .ne (.var 9) (.bin .mul (.call 18 [.var 7, .var 1]) (.call 17 [.bin .sub (.con (.int 16)) (.var 1)])))) [.ret (.con (.bl false))] [], .asg (.nm 5) (.call 18 [.var 8, .con (.int 16)]), .ite (.cmp .ne (.chn .le .le (.var 9) (.var 5) (.var 10)) (.cmp .eq (.bin .mod (.bi .int [.var 8]) (.var 4)) (.var 7))) [.ret (.con (.bl false))] [], .ite (.cmp .eq (.var 1) (.con (.int 16))) [.ret (.chn .eq .eq (.var 9) (.var 10) (.call 18 [.var 7, .con (.int 16)]))] [], .asg (.nm 6) (.lst [.call 9 [.var 7, .bin .add (.var 1) (.con (.int 1))], .call 9 [.bin .add (.var 7) (.var 4), .bin .add (.var 1) (.con (.int 1))]]), .ret (.cmp .eq (.lst [.ix (.ix (.var 6) (.con (.int 0))) (.con (.int 0)), .bin .add (.ix (.ix (.var 6) (.con (.int 0))) (.con (.int 1))) (.con (.int 1)), .ix (.ix (.var 6) (.con (.int 1))) (.con (.int 1))]) (.lst [.var 9, .ix (.ix (.var 6) (.con (.int 1))) (.con (.int 0)), .var 10]))]
def d__law_bits_right : Df := ⟨["_law_dice_here"], ["_law_dice_here", "_law_bits", "_law_value", "_law_turned_here", "_law_many", "_law_spot", "_law_halves", "_law_bucket", "_law_number_here", "_law_first", "_law_last"], b__law_bits_right⟩
def b__law_sums_right : List Sm := [.asg (.nm 1) (.call 21 [.var 0, .con (.int 30)]), .ite (.cmp .ne (.call 6 [.var 1]) (.call 20 [.var 1])) [.ret (.con (.bl false))] [], .ite (.cmp .eq (.var 1) (.con (.str []))) [.ret (.con (.bl true))] [], .asg (.tp [5, 6]) (.tup [.call 12 [.var 0, .bi .len [.var 1]], .call 12 [.var 0, .bi .len [.var 1]]]), .asg (.nm 2) (.call 13 [.var 0, .lst [.con (.str [113]), .con (.str [48]), .con (.str [126])]]), .asg (.nm 3) (.bin .add (.bin .add (.sl (.var 1) .nop (.var 5)) (.var 2)) (.sl (.var 1) (.bin .add (.var 5) (.con (.int 1))) .nop)), .ite (.cmp .ne (.cmp .eq (.call 6 [.var 3]) (.call 6 [.var 1])) (.cmp .eq (.ix (.var 1) (.var 5)) (.var 2))) [.ret (.con (.bl false))] [], .asg (.tp [7, 8]) (.tup [.bi .min [.var 5, .var 6], .bi .max [.var 5, .var 6]]), .ite (.cmp .eq (.var 7) (.var 8)) [.ret (.con (.bl true))] [], .asg (.nm 4) (.bin .add (.bin .add (.bin .add (.bin .add (.sl (.var 1) .nop (.var 7)) (.ix (.var 1) (.var 8))) (.sl (.var 1) (.bin .add (.var 7) (.con (.int 1))) (.var 8))) (.ix (.var 1) (.var 7))) (.sl (.var 1) (.bin .add (.var 8) (.con (.int 1))) .nop)), .ret (.cmp .eq (.cmp .eq (.call 6 [.var 4]) (.call 6 [.var 1])) (.cmp .eq (.ix (.var 1) (.var 7)) (.ix (.var 1) (.var 8))))]
def d__law_sums_right : Df := ⟨["_law_dice_here"], ["_law_dice_here", "_law_signs_here", "_law_other", "_law_changed", "_law_swapped", "_law_at", "_law_to", "_law_low", "_law_high"], b__law_sums_right⟩
def b_law : List Sm := [.for_ (.nm 1) .rng [.bi .max [.con (.int 1), .bi .min [.con (.int 5), .bi .len [.var 0]]]] [.asg (.nm 3) (.call 11 [.var 0, .var 1]), .for_ (.nm 4) .rng [.con (.int 3)] [.ite (.or (.not (.call 22 [.var 3])) (.or (.not (.call 23 [.var 3])) (.not (.call 24 [.var 3])))) [.ret (.con (.bl false))] []]], .asg (.nm 2) (.lst [.call 4 [.con (.str [97, 99])], .call 4 [.con (.str [98, 66])], .call 5 [.con (.str [])], .call 6 [.con (.str [])], .call 6 [.con (.str [10])], .call 9 [.con (.int 1), .con (.int 1)]]), .ret (.cmp .eq (.bin .add (.var 2) (.lst [.call 8 [.con (.int 3), .con (.int 64)]])) (.lst [.con (.int 3300), .con (.int 3300), .con (.int 0), .con (.int 0), .con (.int 10), .tup [.con (.int 32768), .con (.int 65535)], .bin .mul (.con (.int 3)) (.con (.int 4611686018427387904))]))]
def d_law : Df := ⟨["_law_script"], ["_law_script", "_law_at", "_law_told", "_law_dice_here", "_law_turn"], b_law⟩
def defs : List Df := [d_is_within, d_is_text, d_check_text, d_check_within, d_hash_of, d_spot_of, d_sum_of, d__are_signs, d_reversed_bits, d_bucket_spots, d__check_bits, d__law_dice, d__law_roll, d__law_one_of, d__law_key, d__law_text, d__law_number, d__law_power, d__law_turned, d__law_hash, d__law_sum, d__law_signs, d__law_texts_right, d__law_bits_right, d__law_sums_right, d_law]
def gn : List Str := ["is_within", "is_text", "check_text", "check_within", "hash_of", "spot_of", "sum_of", "_are_signs", "reversed_bits", "bucket_spots", "_check_bits", "_law_dice", "_law_roll", "_law_one_of", "_law_key", "_law_text", "_law_number", "_law_power", "_law_turned", "_law_hash", "_law_sum", "_law_signs", "_law_texts_right", "_law_bits_right", "_law_sums_right", "law", "MAX_TEXT", "HASH_BITS", "SUM_MODULUS", "_HASH_MODULUS", "_MAX_BITS"]
def nm : Nm := ⟨gn, []⟩
def T : Tb := ⟨[.fn 0, .fn 1, .fn 2, .fn 3, .fn 4, .fn 5, .fn 6, .fn 7, .fn 8, .fn 9, .fn 10, .fn 11, .fn 12, .fn 13, .fn 14, .fn 15, .fn 16, .fn 17, .fn 18, .fn 19, .fn 20, .fn 21, .fn 22, .fn 23, .fn 24, .fn 25, .int 200, .int 16, .int 99991, .int 65536, .int 64], []⟩
abbrev s_is_within : Stmt := top 6
def D_is_within : He.DefD := ⟨("is_within", none), "is_within", "is_within", defArgs s_is_within, defBody s_is_within, defScope s_is_within, [], []⟩
abbrev s_is_text : Stmt := top 7
def D_is_text : He.DefD := ⟨("is_text", none), "is_text", "is_text", defArgs s_is_text, defBody s_is_text, defScope s_is_text, [], []⟩
abbrev s_check_text : Stmt := top 8
def D_check_text : He.DefD := ⟨("check_text", none), "check_text", "check_text", defArgs s_check_text, defBody s_check_text, defScope s_check_text, [], []⟩
abbrev s_check_within : Stmt := top 9
def D_check_within : He.DefD := ⟨("check_within", none), "check_within", "check_within", defArgs s_check_within, defBody s_check_within, defScope s_check_within, [], []⟩
abbrev s_hash_of : Stmt := top 15
def D_hash_of : He.DefD := ⟨("hash_of", none), "hash_of", "hash_of", defArgs s_hash_of, defBody s_hash_of, defScope s_hash_of, [], []⟩
abbrev s_spot_of : Stmt := top 16
def D_spot_of : He.DefD := ⟨("spot_of", none), "spot_of", "spot_of", defArgs s_spot_of, defBody s_spot_of, defScope s_spot_of, [], []⟩
abbrev s_sum_of : Stmt := top 17
def D_sum_of : He.DefD := ⟨("sum_of", none), "sum_of", "sum_of", defArgs s_sum_of, defBody s_sum_of, defScope s_sum_of, [], []⟩
abbrev s__are_signs : Stmt := top 18
def D__are_signs : He.DefD := ⟨("_are_signs", none), "_are_signs", "_are_signs", defArgs s__are_signs, defBody s__are_signs, defScope s__are_signs, [], []⟩
abbrev s_reversed_bits : Stmt := top 19
def D_reversed_bits : He.DefD := ⟨("reversed_bits", none), "reversed_bits", "reversed_bits", defArgs s_reversed_bits, defBody s_reversed_bits, defScope s_reversed_bits, [], []⟩
abbrev s_bucket_spots : Stmt := top 20
def D_bucket_spots : He.DefD := ⟨("bucket_spots", none), "bucket_spots", "bucket_spots", defArgs s_bucket_spots, defBody s_bucket_spots, defScope s_bucket_spots, [], []⟩
abbrev s__check_bits : Stmt := top 21
def D__check_bits : He.DefD := ⟨("_check_bits", none), "_check_bits", "_check_bits", defArgs s__check_bits, defBody s__check_bits, defScope s__check_bits, [], []⟩
abbrev s__law_dice : Stmt := top 23
def D__law_dice : He.DefD := ⟨("_law_dice", none), "_law_dice", "_law_dice", defArgs s__law_dice, defBody s__law_dice, defScope s__law_dice, [], []⟩
abbrev s__law_roll : Stmt := top 24
def D__law_roll : He.DefD := ⟨("_law_roll", none), "_law_roll", "_law_roll", defArgs s__law_roll, defBody s__law_roll, defScope s__law_roll, [], []⟩
abbrev s__law_one_of : Stmt := top 25
def D__law_one_of : He.DefD := ⟨("_law_one_of", none), "_law_one_of", "_law_one_of", defArgs s__law_one_of, defBody s__law_one_of, defScope s__law_one_of, [], []⟩
abbrev s__law_key : Stmt := top 26
def D__law_key : He.DefD := ⟨("_law_key", none), "_law_key", "_law_key", defArgs s__law_key, defBody s__law_key, defScope s__law_key, [], []⟩
abbrev s__law_text : Stmt := top 27
def D__law_text : He.DefD := ⟨("_law_text", none), "_law_text", "_law_text", defArgs s__law_text, defBody s__law_text, defScope s__law_text, [], []⟩
abbrev s__law_number : Stmt := top 28
def D__law_number : He.DefD := ⟨("_law_number", none), "_law_number", "_law_number", defArgs s__law_number, defBody s__law_number, defScope s__law_number, [], []⟩
abbrev s__law_power : Stmt := top 29
def D__law_power : He.DefD := ⟨("_law_power", none), "_law_power", "_law_power", defArgs s__law_power, defBody s__law_power, defScope s__law_power, [], []⟩
abbrev s__law_turned : Stmt := top 30
def D__law_turned : He.DefD := ⟨("_law_turned", none), "_law_turned", "_law_turned", defArgs s__law_turned, defBody s__law_turned, defScope s__law_turned, [], []⟩
abbrev s__law_hash : Stmt := top 31
def D__law_hash : He.DefD := ⟨("_law_hash", none), "_law_hash", "_law_hash", defArgs s__law_hash, defBody s__law_hash, defScope s__law_hash, [], []⟩
abbrev s__law_sum : Stmt := top 32
def D__law_sum : He.DefD := ⟨("_law_sum", none), "_law_sum", "_law_sum", defArgs s__law_sum, defBody s__law_sum, defScope s__law_sum, [], []⟩
abbrev s__law_signs : Stmt := top 33
def D__law_signs : He.DefD := ⟨("_law_signs", none), "_law_signs", "_law_signs", defArgs s__law_signs, defBody s__law_signs, defScope s__law_signs, [], []⟩
abbrev s__law_texts_right : Stmt := top 34
def D__law_texts_right : He.DefD := ⟨("_law_texts_right", none), "_law_texts_right", "_law_texts_right", defArgs s__law_texts_right, defBody s__law_texts_right, defScope s__law_texts_right, [], []⟩
abbrev s__law_bits_right : Stmt := top 35
def D__law_bits_right : He.DefD := ⟨("_law_bits_right", none), "_law_bits_right", "_law_bits_right", defArgs s__law_bits_right, defBody s__law_bits_right, defScope s__law_bits_right, [], []⟩
abbrev s__law_sums_right : Stmt := top 36
def D__law_sums_right : He.DefD := ⟨("_law_sums_right", none), "_law_sums_right", "_law_sums_right", defArgs s__law_sums_right, defBody s__law_sums_right, defScope s__law_sums_right, [], []⟩
abbrev s_law : Stmt := top 37
def D_law : He.DefD := ⟨("law", none), "law", "law", defArgs s_law, defBody s_law, defScope s_law, [], []⟩
def fn : List He.DefD := [D_is_within, D_is_text, D_check_text, D_check_within, D_hash_of, D_spot_of, D_sum_of, D__are_signs, D_reversed_bits, D_bucket_spots, D__check_bits, D__law_dice, D__law_roll, D__law_one_of, D__law_key, D__law_text, D__law_number, D__law_power, D__law_turned, D__law_hash, D__law_sum, D__law_signs, D__law_texts_right, D__law_bits_right, D__law_sums_right, D_law]
def fa : List He.Fa := [.glo "is_within", .glo "is_text", .glo "check_text", .glo "check_within", .glo "hash_of", .glo "spot_of", .glo "sum_of", .glo "_are_signs", .glo "reversed_bits", .glo "bucket_spots", .glo "_check_bits", .glo "_law_dice", .glo "_law_roll", .glo "_law_one_of", .glo "_law_key", .glo "_law_text", .glo "_law_number", .glo "_law_power", .glo "_law_turned", .glo "_law_hash", .glo "_law_sum", .glo "_law_signs", .glo "_law_texts_right", .glo "_law_bits_right", .glo "_law_sums_right", .glo "law", .int "MAX_TEXT" 200, .int "HASH_BITS" 16, .int "SUM_MODULUS" 99991, .int "_HASH_MODULUS" 65536, .int "_MAX_BITS" 64, .free "len", .free "abs", .free "max", .free "min", .free "int", .free "str", .free "bool", .free "list", .free "tuple", .free "sorted", .free "sum", .free "any", .free "all", .free "ord", .free "isinstance", .free "repr", .free "dict", .free "range", .free "enumerate", .free "zip", .free "reversed"]
-- loose: "__name__", "DeedError", "InvalidText", "InvalidNumber", "MAX_TEXT", "is_within", "is_text", "check_text", "check_within", "HASH_BITS", "SUM_MODULUS", "_HASH_MODULUS", "_MAX_BITS", "hash_of", "spot_of", "sum_of", "_are_signs", "reversed_bits", "bucket_spots", "_check_bits", "_law_dice", "_law_roll", "_law_one_of", "_law_key", "_law_text", "_law_number", "_law_power", "_law_turned", "_law_hash", "_law_sum", "_law_signs", "_law_texts_right", "_law_bits_right", "_law_sums_right" ; law at 37
section
variable {K : PySem.W.Frag} {h : Heap} {mg : Str → Option Value}
def names : List Str := ["is_within", "is_text", "check_text", "check_within", "hash_of", "spot_of", "sum_of", "_are_signs", "reversed_bits", "bucket_spots", "_check_bits", "_law_dice", "_law_roll", "_law_one_of", "_law_key", "_law_text", "_law_number", "_law_power", "_law_turned", "_law_hash", "_law_sum", "_law_signs", "_law_texts_right", "_law_bits_right", "_law_sums_right", "law"]
def gm (K : PySem.W.Frag) : Gm := { K := K, fa := fun i => He.fAd K ((names.getD i Str.empty), none), ca := fun _ => 0, an := [] }
theorem c_is_within : chkSs T nm (d_is_within.fx (defScope s_is_within)) d_is_within.body (defBody s_is_within) = true := by decide +kernel
theorem S_is_within : FnScope d_is_within.N d_is_within.ps (defScope s_is_within) := ⟨rfl, rfl, rfl, by decide +kernel, rfl, by decide +kernel, by decide +kernel⟩
theorem k_is_within (c : He.SaysD fa fn K) : ∃ fd, DOk (gm K) T nm K 0 d_is_within fd := by
  obtain ⟨fd, F⟩ := c.def_ 0 (d := D_is_within) rfl
  exact ⟨fd, ⟨_, _, _, _, _, F, S_is_within, .inl c_is_within⟩, F.bindsN fun _ _ _ _ _ _ us hl => match us, hl with | [_, _, _], _ => rfl, F.kp⟩
theorem c_is_text : chkSs T nm (d_is_text.fx (defScope s_is_text)) d_is_text.body (defBody s_is_text) = true := by decide +kernel
theorem S_is_text : FnScope d_is_text.N d_is_text.ps (defScope s_is_text) := ⟨rfl, rfl, rfl, by decide +kernel, rfl, by decide +kernel, by decide +kernel⟩
theorem k_is_text (c : He.SaysD fa fn K) : ∃ fd, DOk (gm K) T nm K 1 d_is_text fd := by
  obtain ⟨fd, F⟩ := c.def_ 1 (d := D_is_text) rfl
  exact ⟨fd, ⟨_, _, _, _, _, F, S_is_text, .inl c_is_text⟩, F.bindsN fun _ _ _ _ _ _ us hl => match us, hl with | [_], _ => rfl, F.kp⟩
theorem c_check_text : chkSs T nm (d_check_text.fx (defScope s_check_text)) d_check_text.body (defBody s_check_text) = true := by decide +kernel
theorem S_check_text : FnScope d_check_text.N d_check_text.ps (defScope s_check_text) := ⟨rfl, rfl, rfl, by decide +kernel, rfl, by decide +kernel, by decide +kernel⟩
theorem k_check_text (c : He.SaysD fa fn K) : ∃ fd, DOk (gm K) T nm K 2 d_check_text fd := by
  obtain ⟨fd, F⟩ := c.def_ 2 (d := D_check_text) rfl
  exact ⟨fd, ⟨_, _, _, _, _, F, S_check_text, .inl c_check_text⟩, F.bindsN fun _ _ _ _ _ _ us hl => match us, hl with | [_], _ => rfl, F.kp⟩
theorem c_check_within : chkSs T nm (d_check_within.fx (defScope s_check_within)) d_check_within.body (defBody s_check_within) = true := by decide +kernel
theorem S_check_within : FnScope d_check_within.N d_check_within.ps (defScope s_check_within) := ⟨rfl, rfl, rfl, by decide +kernel, rfl, by decide +kernel, by decide +kernel⟩
theorem k_check_within (c : He.SaysD fa fn K) : ∃ fd, DOk (gm K) T nm K 3 d_check_within fd := by
  obtain ⟨fd, F⟩ := c.def_ 3 (d := D_check_within) rfl
  exact ⟨fd, ⟨_, _, _, _, _, F, S_check_within, .inl c_check_within⟩, F.bindsN fun _ _ _ _ _ _ us hl => match us, hl with | [_, _, _], _ => rfl, F.kp⟩
theorem c_hash_of : chkSs T nm (d_hash_of.fx (defScope s_hash_of)) d_hash_of.body (defBody s_hash_of) = true := by decide +kernel
theorem S_hash_of : FnScope d_hash_of.N d_hash_of.ps (defScope s_hash_of) := ⟨rfl, rfl, rfl, by decide +kernel, rfl, by decide +kernel, by decide +kernel⟩
theorem k_hash_of (c : He.SaysD fa fn K) : ∃ fd, DOk (gm K) T nm K 4 d_hash_of fd := by
  obtain ⟨fd, F⟩ := c.def_ 4 (d := D_hash_of) rfl
  exact ⟨fd, ⟨_, _, _, _, _, F, S_hash_of, .inl c_hash_of⟩, F.bindsN fun _ _ _ _ _ _ us hl => match us, hl with | [_], _ => rfl, F.kp⟩
theorem c_spot_of : chkSs T nm (d_spot_of.fx (defScope s_spot_of)) d_spot_of.body (defBody s_spot_of) = true := by decide +kernel
theorem S_spot_of : FnScope d_spot_of.N d_spot_of.ps (defScope s_spot_of) := ⟨rfl, rfl, rfl, by decide +kernel, rfl, by decide +kernel, by decide +kernel⟩
theorem k_spot_of (c : He.SaysD fa fn K) : ∃ fd, DOk (gm K) T nm K 5 d_spot_of fd := by
  obtain ⟨fd, F⟩ := c.def_ 5 (d := D_spot_of) rfl
  exact ⟨fd, ⟨_, _, _, _, _, F, S_spot_of, .inl c_spot_of⟩, F.bindsN fun _ _ _ _ _ _ us hl => match us, hl with | [_], _ => rfl, F.kp⟩
theorem c_sum_of : chkSs T nm (d_sum_of.fx (defScope s_sum_of)) d_sum_of.body (defBody s_sum_of) = true := by decide +kernel
theorem S_sum_of : FnScope d_sum_of.N d_sum_of.ps (defScope s_sum_of) := ⟨rfl, rfl, rfl, by decide +kernel, rfl, by decide +kernel, by decide +kernel⟩
theorem k_sum_of (c : He.SaysD fa fn K) : ∃ fd, DOk (gm K) T nm K 6 d_sum_of fd := by
  obtain ⟨fd, F⟩ := c.def_ 6 (d := D_sum_of) rfl
  exact ⟨fd, ⟨_, _, _, _, _, F, S_sum_of, .inl c_sum_of⟩, F.bindsN fun _ _ _ _ _ _ us hl => match us, hl with | [_], _ => rfl, F.kp⟩
theorem c__are_signs : chkSTs T nm (d__are_signs.fx (defScope s__are_signs)) d__are_signs.body (defBody s__are_signs) = true := by decide +kernel
theorem S__are_signs : FnScope d__are_signs.N d__are_signs.ps (defScope s__are_signs) := ⟨rfl, rfl, rfl, by decide +kernel, rfl, by decide +kernel, by decide +kernel⟩
theorem k__are_signs (c : He.SaysD fa fn K) : ∃ fd, DOk (gm K) T nm K 7 d__are_signs fd := by
  obtain ⟨fd, F⟩ := c.def_ 7 (d := D__are_signs) rfl
  exact ⟨fd, ⟨_, _, _, _, _, F, S__are_signs, .inr ⟨by decide +kernel, by decide, c__are_signs⟩⟩, F.bindsN fun _ _ _ _ _ _ us hl => match us, hl with | [_], _ => rfl, F.kp⟩
theorem c_reversed_bits : chkSs T nm (d_reversed_bits.fx (defScope s_reversed_bits)) d_reversed_bits.body (defBody s_reversed_bits) = true := by decide +kernel
theorem S_reversed_bits : FnScope d_reversed_bits.N d_reversed_bits.ps (defScope s_reversed_bits) := ⟨rfl, rfl, rfl, by decide +kernel, rfl, by decide +kernel, by decide +kernel⟩
theorem k_reversed_bits (c : He.SaysD fa fn K) : ∃ fd, DOk (gm K) T nm K 8 d_reversed_bits fd := by
  obtain ⟨fd, F⟩ := c.def_ 8 (d := D_reversed_bits) rfl
  exact ⟨fd, ⟨_, _, _, _, _, F, S_reversed_bits, .inl c_reversed_bits⟩, F.bindsN fun _ _ _ _ _ _ us hl => match us, hl with | [_, _], _ => rfl, F.kp⟩
theorem c_bucket_spots : chkSs T nm (d_bucket_spots.fx (defScope s_bucket_spots)) d_bucket_spots.body (defBody s_bucket_spots) = true := by decide +kernel
theorem S_bucket_spots : FnScope d_bucket_spots.N d_bucket_spots.ps (defScope s_bucket_spots) := ⟨rfl, rfl, rfl, by decide +kernel, rfl, by decide +kernel, by decide +kernel⟩
theorem k_bucket_spots (c : He.SaysD fa fn K) : ∃ fd, DOk (gm K) T nm K 9 d_bucket_spots fd := by
  obtain ⟨fd, F⟩ := c.def_ 9 (d := D_bucket_spots) rfl
  exact ⟨fd, ⟨_, _, _, _, _, F, S_bucket_spots, .inl c_bucket_spots⟩, F.bindsN fun _ _ _ _ _ _ us hl => match us, hl with | [_, _], _ => rfl, F.kp⟩
theorem c__check_bits : chkSs T nm (d__check_bits.fx (defScope s__check_bits)) d__check_bits.body (defBody s__check_bits) = true := by decide +kernel
theorem S__check_bits : FnScope d__check_bits.N d__check_bits.ps (defScope s__check_bits) := ⟨rfl, rfl, rfl, by decide +kernel, rfl, by decide +kernel, by decide +kernel⟩
theorem k__check_bits (c : He.SaysD fa fn K) : ∃ fd, DOk (gm K) T nm K 10 d__check_bits fd := by
  obtain ⟨fd, F⟩ := c.def_ 10 (d := D__check_bits) rfl
  exact ⟨fd, ⟨_, _, _, _, _, F, S__check_bits, .inl c__check_bits⟩, F.bindsN fun _ _ _ _ _ _ us hl => match us, hl with | [_, _, _], _ => rfl, F.kp⟩
theorem c__law_dice : chkSs T nm (d__law_dice.fx (defScope s__law_dice)) d__law_dice.body (defBody s__law_dice) = true := by decide +kernel
theorem S__law_dice : FnScope d__law_dice.N d__law_dice.ps (defScope s__law_dice) := ⟨rfl, rfl, rfl, by decide +kernel, rfl, by decide +kernel, by decide +kernel⟩
theorem k__law_dice (c : He.SaysD fa fn K) : ∃ fd, DOk (gm K) T nm K 11 d__law_dice fd := by
  obtain ⟨fd, F⟩ := c.def_ 11 (d := D__law_dice) rfl
  exact ⟨fd, ⟨_, _, _, _, _, F, S__law_dice, .inl c__law_dice⟩, F.bindsN fun _ _ _ _ _ _ us hl => match us, hl with | [_, _], _ => rfl, F.kp⟩
theorem c__law_roll : chkSs T nm (d__law_roll.fx (defScope s__law_roll)) d__law_roll.body (defBody s__law_roll) = true := by decide +kernel
theorem S__law_roll : FnScope d__law_roll.N d__law_roll.ps (defScope s__law_roll) := ⟨rfl, rfl, rfl, by decide +kernel, rfl, by decide +kernel, by decide +kernel⟩
theorem k__law_roll (c : He.SaysD fa fn K) : ∃ fd, DOk (gm K) T nm K 12 d__law_roll fd := by
  obtain ⟨fd, F⟩ := c.def_ 12 (d := D__law_roll) rfl
  exact ⟨fd, ⟨_, _, _, _, _, F, S__law_roll, .inl c__law_roll⟩, F.bindsN fun _ _ _ _ _ _ us hl => match us, hl with | [_, _], _ => rfl, F.kp⟩
theorem c__law_one_of : chkSs T nm (d__law_one_of.fx (defScope s__law_one_of)) d__law_one_of.body (defBody s__law_one_of) = true := by decide +kernel
theorem S__law_one_of : FnScope d__law_one_of.N d__law_one_of.ps (defScope s__law_one_of) := ⟨rfl, rfl, rfl, by decide +kernel, rfl, by decide +kernel, by decide +kernel⟩
theorem k__law_one_of (c : He.SaysD fa fn K) : ∃ fd, DOk (gm K) T nm K 13 d__law_one_of fd := by
  obtain ⟨fd, F⟩ := c.def_ 13 (d := D__law_one_of) rfl
  exact ⟨fd, ⟨_, _, _, _, _, F, S__law_one_of, .inl c__law_one_of⟩, F.bindsN fun _ _ _ _ _ _ us hl => match us, hl with | [_, _], _ => rfl, F.kp⟩
theorem c__law_key : chkSs T nm (d__law_key.fx (defScope s__law_key)) d__law_key.body (defBody s__law_key) = true := by decide +kernel
theorem S__law_key : FnScope d__law_key.N d__law_key.ps (defScope s__law_key) := ⟨rfl, rfl, rfl, by decide +kernel, rfl, by decide +kernel, by decide +kernel⟩
theorem k__law_key (c : He.SaysD fa fn K) : ∃ fd, DOk (gm K) T nm K 14 d__law_key fd := by
  obtain ⟨fd, F⟩ := c.def_ 14 (d := D__law_key) rfl
  exact ⟨fd, ⟨_, _, _, _, _, F, S__law_key, .inl c__law_key⟩, F.bindsN fun _ _ _ _ _ _ us hl => match us, hl with | [_], _ => rfl, F.kp⟩
theorem c__law_text : chkSs T nm (d__law_text.fx (defScope s__law_text)) d__law_text.body (defBody s__law_text) = true := by decide +kernel
theorem S__law_text : FnScope d__law_text.N d__law_text.ps (defScope s__law_text) := ⟨rfl, rfl, rfl, by decide +kernel, rfl, by decide +kernel, by decide +kernel⟩
theorem k__law_text (c : He.SaysD fa fn K) : ∃ fd, DOk (gm K) T nm K 15 d__law_text fd := by
  obtain ⟨fd, F⟩ := c.def_ 15 (d := D__law_text) rfl
  exact ⟨fd, ⟨_, _, _, _, _, F, S__law_text, .inl c__law_text⟩, F.bindsN fun _ _ _ _ _ _ us hl => match us, hl with | [_], _ => rfl, F.kp⟩
theorem c__law_number : chkSs T nm (d__law_number.fx (defScope s__law_number)) d__law_number.body (defBody s__law_number) = true := by decide +kernel
theorem S__law_number : FnScope d__law_number.N d__law_number.ps (defScope s__law_number) := ⟨rfl, rfl, rfl, by decide +kernel, rfl, by decide +kernel, by decide +kernel⟩
theorem k__law_number (c : He.SaysD fa fn K) : ∃ fd, DOk (gm K) T nm K 16 d__law_number fd := by
  obtain ⟨fd, F⟩ := c.def_ 16 (d := D__law_number) rfl
  exact ⟨fd, ⟨_, _, _, _, _, F, S__law_number, .inl c__law_number⟩, F.bindsN fun _ _ _ _ _ _ us hl => match us, hl with | [_], _ => rfl, F.kp⟩
theorem c__law_power : chkSs T nm (d__law_power.fx (defScope s__law_power)) d__law_power.body (defBody s__law_power) = true := by decide +kernel
theorem S__law_power : FnScope d__law_power.N d__law_power.ps (defScope s__law_power) := ⟨rfl, rfl, rfl, by decide +kernel, rfl, by decide +kernel, by decide +kernel⟩
theorem k__law_power (c : He.SaysD fa fn K) : ∃ fd, DOk (gm K) T nm K 17 d__law_power fd := by
  obtain ⟨fd, F⟩ := c.def_ 17 (d := D__law_power) rfl
  exact ⟨fd, ⟨_, _, _, _, _, F, S__law_power, .inl c__law_power⟩, F.bindsN fun _ _ _ _ _ _ us hl => match us, hl with | [_], _ => rfl, F.kp⟩
theorem c__law_turned : chkSs T nm (d__law_turned.fx (defScope s__law_turned)) d__law_turned.body (defBody s__law_turned) = true := by decide +kernel
theorem S__law_turned : FnScope d__law_turned.N d__law_turned.ps (defScope s__law_turned) := ⟨rfl, rfl, rfl, by decide +kernel, rfl, by decide +kernel, by decide +kernel⟩
theorem k__law_turned (c : He.SaysD fa fn K) : ∃ fd, DOk (gm K) T nm K 18 d__law_turned fd := by
  obtain ⟨fd, F⟩ := c.def_ 18 (d := D__law_turned) rfl
  exact ⟨fd, ⟨_, _, _, _, _, F, S__law_turned, .inl c__law_turned⟩, F.bindsN fun _ _ _ _ _ _ us hl => match us, hl with | [_, _], _ => rfl, F.kp⟩
theorem c__law_hash : chkSs T nm (d__law_hash.fx (defScope s__law_hash)) d__law_hash.body (defBody s__law_hash) = true := by decide +kernel
theorem S__law_hash : FnScope d__law_hash.N d__law_hash.ps (defScope s__law_hash) := ⟨rfl, rfl, rfl, by decide +kernel, rfl, by decide +kernel, by decide +kernel⟩
theorem k__law_hash (c : He.SaysD fa fn K) : ∃ fd, DOk (gm K) T nm K 19 d__law_hash fd := by
  obtain ⟨fd, F⟩ := c.def_ 19 (d := D__law_hash) rfl
  exact ⟨fd, ⟨_, _, _, _, _, F, S__law_hash, .inl c__law_hash⟩, F.bindsN fun _ _ _ _ _ _ us hl => match us, hl with | [_], _ => rfl, F.kp⟩
theorem c__law_sum : chkSs T nm (d__law_sum.fx (defScope s__law_sum)) d__law_sum.body (defBody s__law_sum) = true := by decide +kernel
theorem S__law_sum : FnScope d__law_sum.N d__law_sum.ps (defScope s__law_sum) := ⟨rfl, rfl, rfl, by decide +kernel, rfl, by decide +kernel, by decide +kernel⟩
theorem k__law_sum (c : He.SaysD fa fn K) : ∃ fd, DOk (gm K) T nm K 20 d__law_sum fd := by
  obtain ⟨fd, F⟩ := c.def_ 20 (d := D__law_sum) rfl
  exact ⟨fd, ⟨_, _, _, _, _, F, S__law_sum, .inl c__law_sum⟩, F.bindsN fun _ _ _ _ _ _ us hl => match us, hl with | [_], _ => rfl, F.kp⟩
theorem c__law_signs : chkSs T nm (d__law_signs.fx (defScope s__law_signs)) d__law_signs.body (defBody s__law_signs) = true := by decide +kernel
theorem S__law_signs : FnScope d__law_signs.N d__law_signs.ps (defScope s__law_signs) := ⟨rfl, rfl, rfl, by decide +kernel, rfl, by decide +kernel, by decide +kernel⟩
theorem k__law_signs (c : He.SaysD fa fn K) : ∃ fd, DOk (gm K) T nm K 21 d__law_signs fd := by
  obtain ⟨fd, F⟩ := c.def_ 21 (d := D__law_signs) rfl
  exact ⟨fd, ⟨_, _, _, _, _, F, S__law_signs, .inl c__law_signs⟩, F.bindsN fun _ _ _ _ _ _ us hl => match us, hl with | [_, _], _ => rfl, F.kp⟩
theorem c__law_texts_right : chkSTs T nm (d__law_texts_right.fx (defScope s__law_texts_right)) d__law_texts_right.body (defBody s__law_texts_right) = true := by decide +kernel
theorem S__law_texts_right : FnScope d__law_texts_right.N d__law_texts_right.ps (defScope s__law_texts_right) := ⟨rfl, rfl, rfl, by decide +kernel, rfl, by decide +kernel, by decide +kernel⟩
theorem k__law_texts_right (c : He.SaysD fa fn K) : ∃ fd, DOk (gm K) T nm K 22 d__law_texts_right fd := by
  obtain ⟨fd, F⟩ := c.def_ 22 (d := D__law_texts_right) rfl
  exact ⟨fd, ⟨_, _, _, _, _, F, S__law_texts_right, .inr ⟨by decide +kernel, by decide, c__law_texts_right⟩⟩, F.bindsN fun _ _ _ _ _ _ us hl => match us, hl with | [_], _ => rfl, F.kp⟩
theorem c__law_bits_right : chkSs T nm (d__law_bits_right.fx (defScope s__law_bits_right)) d__law_bits_right.body (defBody s__law_bits_right) = true := by decide +kernel
theorem S__law_bits_right : FnScope d__law_bits_right.N d__law_bits_right.ps (defScope s__law_bits_right) := ⟨rfl, rfl, rfl, by decide +kernel, rfl, by decide +kernel, by decide +kernel⟩
theorem k__law_bits_right (c : He.SaysD fa fn K) : ∃ fd, DOk (gm K) T nm K 23 d__law_bits_right fd := by
  obtain ⟨fd, F⟩ := c.def_ 23 (d := D__law_bits_right) rfl
  exact ⟨fd, ⟨_, _, _, _, _, F, S__law_bits_right, .inl c__law_bits_right⟩, F.bindsN fun _ _ _ _ _ _ us hl => match us, hl with | [_], _ => rfl, F.kp⟩
theorem c__law_sums_right : chkSs T nm (d__law_sums_right.fx (defScope s__law_sums_right)) d__law_sums_right.body (defBody s__law_sums_right) = true := by decide +kernel
theorem S__law_sums_right : FnScope d__law_sums_right.N d__law_sums_right.ps (defScope s__law_sums_right) := ⟨rfl, rfl, rfl, by decide +kernel, rfl, by decide +kernel, by decide +kernel⟩
theorem k__law_sums_right (c : He.SaysD fa fn K) : ∃ fd, DOk (gm K) T nm K 24 d__law_sums_right fd := by
  obtain ⟨fd, F⟩ := c.def_ 24 (d := D__law_sums_right) rfl
  exact ⟨fd, ⟨_, _, _, _, _, F, S__law_sums_right, .inl c__law_sums_right⟩, F.bindsN fun _ _ _ _ _ _ us hl => match us, hl with | [_], _ => rfl, F.kp⟩
theorem c_law : chkSs T nm (d_law.fx (defScope s_law)) d_law.body (defBody s_law) = true := by decide +kernel
theorem S_law : FnScope d_law.N d_law.ps (defScope s_law) := ⟨rfl, rfl, rfl, by decide +kernel, rfl, by decide +kernel, by decide +kernel⟩
theorem k_law (c : He.SaysD fa fn K) : ∃ fd, DOk (gm K) T nm K 25 d_law fd := by
  obtain ⟨fd, F⟩ := c.def_ 25 (d := D_law) rfl
  exact ⟨fd, ⟨_, _, _, _, _, F, S_law, .inl c_law⟩, F.bindsN fun _ _ _ _ _ _ us hl => match us, hl with | [_], _ => rfl, F.kp⟩
theorem dok (c : He.SaysD fa fn K) : ∀ i d, defs[i]? = some d → ∃ fd, DOk (gm K) T nm K i d fd
  | 0, _, e => by cases e; exact k_is_within c
  | 1, _, e => by cases e; exact k_is_text c
  | 2, _, e => by cases e; exact k_check_text c
  | 3, _, e => by cases e; exact k_check_within c
  | 4, _, e => by cases e; exact k_hash_of c
  | 5, _, e => by cases e; exact k_spot_of c
  | 6, _, e => by cases e; exact k_sum_of c
  | 7, _, e => by cases e; exact k__are_signs c
  | 8, _, e => by cases e; exact k_reversed_bits c
  | 9, _, e => by cases e; exact k_bucket_spots c
  | 10, _, e => by cases e; exact k__check_bits c
  | 11, _, e => by cases e; exact k__law_dice c
  | 12, _, e => by cases e; exact k__law_roll c
  | 13, _, e => by cases e; exact k__law_one_of c
  | 14, _, e => by cases e; exact k__law_key c
  | 15, _, e => by cases e; exact k__law_text c
  | 16, _, e => by cases e; exact k__law_number c
  | 17, _, e => by cases e; exact k__law_power c
  | 18, _, e => by cases e; exact k__law_turned c
  | 19, _, e => by cases e; exact k__law_hash c
  | 20, _, e => by cases e; exact k__law_sum c
  | 21, _, e => by cases e; exact k__law_signs c
  | 22, _, e => by cases e; exact k__law_texts_right c
  | 23, _, e => by cases e; exact k__law_bits_right c
  | 24, _, e => by cases e; exact k__law_sums_right c
  | 25, _, e => by cases e; exact k_law c
  | n + 26, _, e => by simp [defs] at e
theorem gls (X : K.In h) (G : h.Ns mainGlobals mg) (c : He.SaysD fa fn K) : ∀ (g : Nat) (x : Str) (v : PV), nm.gn[g]? = some x → T.glob[g]? = some v → ∃ u, mg x = some u ∧ RelG (gm K) v u
  | 0, _, _, e1, e2 => by cases e1; cases e2; exact ⟨_, He.glo_ok X G (c.fact 0 (f := .glo "is_within") rfl), .ref _, rfl, fun as H => by unfold RepV; rfl⟩
  | 1, _, _, e1, e2 => by cases e1; cases e2; exact ⟨_, He.glo_ok X G (c.fact 1 (f := .glo "is_text") rfl), .ref _, rfl, fun as H => by unfold RepV; rfl⟩
  | 2, _, _, e1, e2 => by cases e1; cases e2; exact ⟨_, He.glo_ok X G (c.fact 2 (f := .glo "check_text") rfl), .ref _, rfl, fun as H => by unfold RepV; rfl⟩
  | 3, _, _, e1, e2 => by cases e1; cases e2; exact ⟨_, He.glo_ok X G (c.fact 3 (f := .glo "check_within") rfl), .ref _, rfl, fun as H => by unfold RepV; rfl⟩
  | 4, _, _, e1, e2 => by cases e1; cases e2; exact ⟨_, He.glo_ok X G (c.fact 4 (f := .glo "hash_of") rfl), .ref _, rfl, fun as H => by unfold RepV; rfl⟩
  | 5, _, _, e1, e2 => by cases e1; cases e2; exact ⟨_, He.glo_ok X G (c.fact 5 (f := .glo "spot_of") rfl), .ref _, rfl, fun as H => by unfold RepV; rfl⟩
  | 6, _, _, e1, e2 => by cases e1; cases e2; exact ⟨_, He.glo_ok X G (c.fact 6 (f := .glo "sum_of") rfl), .ref _, rfl, fun as H => by unfold RepV; rfl⟩
  | 7, _, _, e1, e2 => by cases e1; cases e2; exact ⟨_, He.glo_ok X G (c.fact 7 (f := .glo "_are_signs") rfl), .ref _, rfl, fun as H => by unfold RepV; rfl⟩
  | 8, _, _, e1, e2 => by cases e1; cases e2; exact ⟨_, He.glo_ok X G (c.fact 8 (f := .glo "reversed_bits") rfl), .ref _, rfl, fun as H => by unfold RepV; rfl⟩
  | 9, _, _, e1, e2 => by cases e1; cases e2; exact ⟨_, He.glo_ok X G (c.fact 9 (f := .glo "bucket_spots") rfl), .ref _, rfl, fun as H => by unfold RepV; rfl⟩
  | 10, _, _, e1, e2 => by cases e1; cases e2; exact ⟨_, He.glo_ok X G (c.fact 10 (f := .glo "_check_bits") rfl), .ref _, rfl, fun as H => by unfold RepV; rfl⟩
  | 11, _, _, e1, e2 => by cases e1; cases e2; exact ⟨_, He.glo_ok X G (c.fact 11 (f := .glo "_law_dice") rfl), .ref _, rfl, fun as H => by unfold RepV; rfl⟩
  | 12, _, _, e1, e2 => by cases e1; cases e2; exact ⟨_, He.glo_ok X G (c.fact 12 (f := .glo "_law_roll") rfl), .ref _, rfl, fun as H => by unfold RepV; rfl⟩
  | 13, _, _, e1, e2 => by cases e1; cases e2; exact ⟨_, He.glo_ok X G (c.fact 13 (f := .glo "_law_one_of") rfl), .ref _, rfl, fun as H => by unfold RepV; rfl⟩
  | 14, _, _, e1, e2 => by cases e1; cases e2; exact ⟨_, He.glo_ok X G (c.fact 14 (f := .glo "_law_key") rfl), .ref _, rfl, fun as H => by unfold RepV; rfl⟩
  | 15, _, _, e1, e2 => by cases e1; cases e2; exact ⟨_, He.glo_ok X G (c.fact 15 (f := .glo "_law_text") rfl), .ref _, rfl, fun as H => by unfold RepV; rfl⟩
  | 16, _, _, e1, e2 => by cases e1; cases e2; exact ⟨_, He.glo_ok X G (c.fact 16 (f := .glo "_law_number") rfl), .ref _, rfl, fun as H => by unfold RepV; rfl⟩
  | 17, _, _, e1, e2 => by cases e1; cases e2; exact ⟨_, He.glo_ok X G (c.fact 17 (f := .glo "_law_power") rfl), .ref _, rfl, fun as H => by unfold RepV; rfl⟩
  | 18, _, _, e1, e2 => by cases e1; cases e2; exact ⟨_, He.glo_ok X G (c.fact 18 (f := .glo "_law_turned") rfl), .ref _, rfl, fun as H => by unfold RepV; rfl⟩
  | 19, _, _, e1, e2 => by cases e1; cases e2; exact ⟨_, He.glo_ok X G (c.fact 19 (f := .glo "_law_hash") rfl), .ref _, rfl, fun as H => by unfold RepV; rfl⟩
  | 20, _, _, e1, e2 => by cases e1; cases e2; exact ⟨_, He.glo_ok X G (c.fact 20 (f := .glo "_law_sum") rfl), .ref _, rfl, fun as H => by unfold RepV; rfl⟩
  | 21, _, _, e1, e2 => by cases e1; cases e2; exact ⟨_, He.glo_ok X G (c.fact 21 (f := .glo "_law_signs") rfl), .ref _, rfl, fun as H => by unfold RepV; rfl⟩
  | 22, _, _, e1, e2 => by cases e1; cases e2; exact ⟨_, He.glo_ok X G (c.fact 22 (f := .glo "_law_texts_right") rfl), .ref _, rfl, fun as H => by unfold RepV; rfl⟩
  | 23, _, _, e1, e2 => by cases e1; cases e2; exact ⟨_, He.glo_ok X G (c.fact 23 (f := .glo "_law_bits_right") rfl), .ref _, rfl, fun as H => by unfold RepV; rfl⟩
  | 24, _, _, e1, e2 => by cases e1; cases e2; exact ⟨_, He.glo_ok X G (c.fact 24 (f := .glo "_law_sums_right") rfl), .ref _, rfl, fun as H => by unfold RepV; rfl⟩
  | 25, _, _, e1, e2 => by cases e1; cases e2; exact ⟨_, He.glo_ok X G (c.fact 25 (f := .glo "law") rfl), .ref _, rfl, fun as H => by unfold RepV; rfl⟩
  | 26, _, _, e1, e2 => by cases e1; cases e2; obtain ⟨t, e⟩ := He.int_ok X G (c.fact 26 (f := .int "MAX_TEXT" 200) rfl); exact ⟨_, e, .int _, ⟨t, rfl⟩, fun as H => .int _⟩
  | 27, _, _, e1, e2 => by cases e1; cases e2; obtain ⟨t, e⟩ := He.int_ok X G (c.fact 27 (f := .int "HASH_BITS" 16) rfl); exact ⟨_, e, .int _, ⟨t, rfl⟩, fun as H => .int _⟩
  | 28, _, _, e1, e2 => by cases e1; cases e2; obtain ⟨t, e⟩ := He.int_ok X G (c.fact 28 (f := .int "SUM_MODULUS" 99991) rfl); exact ⟨_, e, .int _, ⟨t, rfl⟩, fun as H => .int _⟩
  | 29, _, _, e1, e2 => by cases e1; cases e2; obtain ⟨t, e⟩ := He.int_ok X G (c.fact 29 (f := .int "_HASH_MODULUS" 65536) rfl); exact ⟨_, e, .int _, ⟨t, rfl⟩, fun as H => .int _⟩
  | 30, _, _, e1, e2 => by cases e1; cases e2; obtain ⟨t, e⟩ := He.int_ok X G (c.fact 30 (f := .int "_MAX_BITS" 64) rfl); exact ⟨_, e, .int _, ⟨t, rfl⟩, fun as H => .int _⟩
  | n + 31, _, _, e1, e2 => by simp [T] at e2
theorem bls (X : K.In h) (G : h.Ns mainGlobals mg) (c : He.SaysD fa fn K) : ∀ f : Bi, mg f.nm = none
  | .len => He.free_ok X G (c.fact 31 (f := .free "len") rfl)
  | .abs => He.free_ok X G (c.fact 32 (f := .free "abs") rfl)
  | .max => He.free_ok X G (c.fact 33 (f := .free "max") rfl)
  | .min => He.free_ok X G (c.fact 34 (f := .free "min") rfl)
  | .int => He.free_ok X G (c.fact 35 (f := .free "int") rfl)
  | .str => He.free_ok X G (c.fact 36 (f := .free "str") rfl)
  | .bool => He.free_ok X G (c.fact 37 (f := .free "bool") rfl)
  | .list => He.free_ok X G (c.fact 38 (f := .free "list") rfl)
  | .tuple => He.free_ok X G (c.fact 39 (f := .free "tuple") rfl)
  | .sorted => He.free_ok X G (c.fact 40 (f := .free "sorted") rfl)
  | .sum => He.free_ok X G (c.fact 41 (f := .free "sum") rfl)
  | .any => He.free_ok X G (c.fact 42 (f := .free "any") rfl)
  | .all => He.free_ok X G (c.fact 43 (f := .free "all") rfl)
  | .ord => He.free_ok X G (c.fact 44 (f := .free "ord") rfl)
  | .isinst => He.free_ok X G (c.fact 45 (f := .free "isinstance") rfl)
  | .repr => He.free_ok X G (c.fact 46 (f := .free "repr") rfl)
  | .dict => He.free_ok X G (c.fact 47 (f := .free "dict") rfl)
theorem lts : ∀ (g f : Nat), T.glob[g]? = some (.fn f) → f < defs.length
  | 0, _, e => by cases e; decide
  | 1, _, e => by cases e; decide
  | 2, _, e => by cases e; decide
  | 3, _, e => by cases e; decide
  | 4, _, e => by cases e; decide
  | 5, _, e => by cases e; decide
  | 6, _, e => by cases e; decide
  | 7, _, e => by cases e; decide
  | 8, _, e => by cases e; decide
  | 9, _, e => by cases e; decide
  | 10, _, e => by cases e; decide
  | 11, _, e => by cases e; decide
  | 12, _, e => by cases e; decide
  | 13, _, e => by cases e; decide
  | 14, _, e => by cases e; decide
  | 15, _, e => by cases e; decide
  | 16, _, e => by cases e; decide
  | 17, _, e => by cases e; decide
  | 18, _, e => by cases e; decide
  | 19, _, e => by cases e; decide
  | 20, _, e => by cases e; decide
  | 21, _, e => by cases e; decide
  | 22, _, e => by cases e; decide
  | 23, _, e => by cases e; decide
  | 24, _, e => by cases e; decide
  | 25, _, e => by cases e; decide
  | 26, _, e => by cases e
  | 27, _, e => by cases e
  | 28, _, e => by cases e
  | 29, _, e => by cases e
  | 30, _, e => by cases e
  | n + 31, _, e => by simp [T] at e
theorem gok (X : K.In h) (G : h.Ns mainGlobals mg) (c : He.SaysD fa fn K) : GOk (gm K) T nm defs K mg := ⟨rfl, gls X G c, bls X G c, He.free_ok X G (c.fact 48 (f := .free "range") rfl), He.free_ok X G (c.fact 49 (f := .free "enumerate") rfl), He.free_ok X G (c.fact 50 (f := .free "zip") rfl), He.free_ok X G (c.fact 51 (f := .free "reversed") rfl), ⟨fun c d ci h => by simp [T] at h, fun c n h => absurd h (Nat.not_lt_zero _), fun c n h => absurd h (Nat.not_lt_zero _), fun c h => absurd h (Nat.not_lt_zero _), fun c h => absurd h (Nat.not_lt_zero _), fun c h => absurd h (Nat.not_lt_zero _), fun h => absurd rfl h, fun h => absurd rfl h⟩, lts⟩
end
end K04
set_option linter.all false
namespace K04
def R : Nat → Nat → Nat
  | 0, _ => 0
  | b + 1, v => R b v * 2 + v / 2 ^ b % 2
theorem R_lt : ∀ b v, R b v < 2 ^ b
  | 0, _ => by simp [R]
  | b + 1, v => by
    have h := R_lt b v
    have h2 : v / 2 ^ b % 2 < 2 := Nat.mod_lt _ (by decide)
    unfold R
    rw [Nat.pow_succ]
    omega
theorem digit_mod {v i b : Nat} (h : i < b) : v % 2 ^ b / 2 ^ i % 2 = v / 2 ^ i % 2 := by
  have e : 2 ^ b = 2 ^ i * 2 ^ (b - i) := by rw [← Nat.pow_add]; congr 1; omega
  rw [e, Nat.mod_mul_right_div_self]
  have e2 : 2 ^ (b - i) = 2 * 2 ^ (b - i - 1) := by rw [← Nat.pow_succ']; congr 1; omega
  rw [e2, Nat.mod_mul_right_mod]
theorem R_mod' : ∀ a b v, a ≤ b → R a (v % 2 ^ b) = R a v
  | 0, _, _, _ => rfl
  | a + 1, b, v, h => by
    unfold R
    rw [R_mod' a b v (by omega), digit_mod (by omega)]
theorem R_mod (b v : Nat) : R b (v % 2 ^ b) = R b v := R_mod' b b v (Nat.le_refl _)
theorem R_add (a v : Nat) : ∀ b, R (a + b) v = R a v * 2 ^ b + R b (v / 2 ^ a)
  | 0 => by simp [R]
  | b + 1 => by
    show R (a + b) v * 2 + v / 2 ^ (a + b) % 2 = R a v * 2 ^ (b + 1) + (R b (v / 2 ^ a) * 2 + v / 2 ^ a / 2 ^ b % 2)
    rw [R_add a v b, Nat.div_div_eq_div_mul, ← Nat.pow_add, Nat.pow_succ, Nat.add_mul, Nat.mul_assoc]
    omega
theorem R_one (v : Nat) : R 1 v = v % 2 := by simp [R]
theorem R_R : ∀ b v, R b (R b v) = v % 2 ^ b
  | 0, v => by simp [R, Nat.mod_one]
  | b + 1, v => by
    have e : R (1 + b) (R (b + 1) v) = R 1 (R (b + 1) v) * 2 ^ b + R b (R (b + 1) v / 2 ^ 1) := R_add 1 _ b
    rw [Nat.add_comm 1 b] at e
    rw [e, R_one]
    have hd : v / 2 ^ b % 2 < 2 := Nat.mod_lt _ (by decide)
    have e1 : R (b + 1) v % 2 = v / 2 ^ b % 2 := by
      show (R b v * 2 + v / 2 ^ b % 2) % 2 = _
      omega
    have e2 : R (b + 1) v / 2 ^ 1 = R b v := by
      show (R b v * 2 + v / 2 ^ b % 2) / 2 ^ 1 = _
      omega
    rw [e1, e2, R_R b v, Nat.pow_succ, Nat.mod_mul]
    rw [Nat.mul_comm, Nat.add_comm]
theorem R_inj {b u v : Nat} (hu : u < 2 ^ b) (hv : v < 2 ^ b) (h : R b u = R b v) : u = v := by
  have e := R_R b u
  rw [h, R_R b v, Nat.mod_eq_of_lt hv, Nat.mod_eq_of_lt hu] at e
  exact e.symm
theorem spot_in {b v k : Nat} (hb : b ≤ 16) (hk : k < 2 ^ b) : (R b k * 2 ^ (16 - b) ≤ R 16 v ∧ R 16 v ≤ R b k * 2 ^ (16 - b) + 2 ^ (16 - b) - 1) ↔ v % 2 ^ b = k := by
  have e : R (b + (16 - b)) v = R b v * 2 ^ (16 - b) + R (16 - b) (v / 2 ^ b) := R_add b v _
  rw [show b + (16 - b) = 16 by omega] at e
  have hl := R_lt (16 - b) (v / 2 ^ b)
  have hp : 0 < 2 ^ (16 - b) := Nat.pow_pos (by decide)
  generalize hw : 2 ^ (16 - b) = w at *
  generalize R (16 - b) (v / 2 ^ b) = r at *
  constructor
  · intro ⟨h1, h2⟩
    have q : R b v = R b k := by
      rw [e] at h1 h2
      apply Nat.le_antisymm
      · apply Nat.le_of_not_lt
        intro hlt
        have : (R b k + 1) * w ≤ R b v * w := Nat.mul_le_mul_right _ hlt
        rw [Nat.add_mul] at this
        omega
      · apply Nat.le_of_not_lt
        intro hlt
        have : (R b v + 1) * w ≤ R b k * w := Nat.mul_le_mul_right _ hlt
        rw [Nat.add_mul] at this
        omega
    refine R_inj (Nat.mod_lt _ (Nat.pow_pos (by decide))) hk ?_
    rw [R_mod, q]
  · intro h
    have q : R b v = R b k := by rw [← h, R_mod]
    rw [e, q]
    omega
theorem R_half0 {b k : Nat} (hk : k < 2 ^ b) : R (b + 1) k = R b k * 2 := by
  show R b k * 2 + k / 2 ^ b % 2 = _
  rw [Nat.div_eq_of_lt hk]
  simp
theorem R_half1 {b k : Nat} (hk : k < 2 ^ b) : R (b + 1) (k + 2 ^ b) = R b k * 2 + 1 := by
  show R b (k + 2 ^ b) * 2 + (k + 2 ^ b) / 2 ^ b % 2 = _
  rw [Nat.add_div_right _ (Nat.pow_pos (by decide)), Nat.div_eq_of_lt hk, ← R_mod, Nat.add_mod_right, Nat.mod_eq_of_lt hk]
def hsh (x : List Nat) : Nat := x.foldl (fun c s => (c * 33 + s) % 65536) 0
theorem hsh_lt (x : List Nat) : hsh x < 65536 := by
  have gen : ∀ (x : List Nat) (c : Nat), c < 65536 → x.foldl (fun c s => (c * 33 + s) % 65536) c < 65536 := fun x => by
    induction x with
    | nil => exact fun c h => h
    | cons s x ih => exact fun c h => ih _ (Nat.mod_lt _ (by decide))
  exact gen x 0 (by decide)
def sm : Nat → List Nat → Nat
  | _, [] => 0
  | i, c :: x => c * (i + 1) + sm (i + 1) x
theorem sm_set : ∀ (x : List Nat) (i k c d : Nat), x[k]? = some d → sm i (x.set k c) + d * (i + k + 1) = sm i x + c * (i + k + 1)
  | [], i, k, c, d, h => by simp at h
  | a :: x, i, 0, c, d, h => by
    simp at h
    subst h
    simp only [List.set_cons_zero, sm, Nat.add_zero]
    omega
  | a :: x, i, k + 1, c, d, h => by
    have q := sm_set x (i + 1) k c d (by simpa using h)
    simp only [List.set_cons_succ, sm]
    rw [show i + (k + 1) + 1 = i + 1 + k + 1 by omega]
    omega
theorem sum_one {x : List Nat} {k c d : Nat} (hx : x[k]? = some d) (hk : k < 30) (hd : d < 128) (hc : c < 128) : (sm 0 (x.set k c) % 99991 = sm 0 x % 99991) ↔ d = c := by
  have q := sm_set x 0 k c d hx
  rw [Nat.zero_add] at q
  constructor
  · intro h
    rcases Nat.lt_trichotomy d c with hlt | he | hgt
    · exfalso
      obtain ⟨e, rfl⟩ : ∃ e, c = d + e := ⟨c - d, by omega⟩
      rw [Nat.add_mul] at q
      have h1 : sm 0 (x.set k (d + e)) = sm 0 x + e * (k + 1) := by omega
      rw [h1] at h
      have h2 : e * (k + 1) ≤ 127 * 30 := Nat.mul_le_mul (by omega) (by omega)
      have h3 : 0 < e * (k + 1) := Nat.mul_pos (by omega) (by omega)
      omega
    · exact he
    · exfalso
      obtain ⟨e, rfl⟩ : ∃ e, d = c + e := ⟨d - c, by omega⟩
      rw [Nat.add_mul] at q
      have h1 : sm 0 x = sm 0 (x.set k c) + e * (k + 1) := by omega
      rw [h1] at h
      have h2 : e * (k + 1) ≤ 127 * 30 := Nat.mul_le_mul (by omega) (by omega)
      have h3 : 0 < e * (k + 1) := Nat.mul_pos (by omega) (by omega)
      omega
  · intro h
    subst h
    have : sm 0 (x.set k d) = sm 0 x := by omega
    rw [this]
theorem sum_two {x : List Nat} {k m c d : Nat} (hk : x[k]? = some c) (hm : x[m]? = some d) (hlt : k < m) (hm30 : m < 30) (hc : c < 128) (hd : d < 128) : (sm 0 ((x.set k d).set m c) % 99991 = sm 0 x % 99991) ↔ c = d := by
  have q1 := sm_set x 0 k d c hk
  have hm' : (x.set k d)[m]? = some d := by rw [List.getElem?_set_ne (by omega)]; exact hm
  have q2 := sm_set (x.set k d) 0 m c d hm'
  rw [Nat.zero_add] at q1 q2
  constructor
  · intro h
    rcases Nat.lt_trichotomy c d with h1 | h1 | h1
    · exfalso
      obtain ⟨e, rfl⟩ : ∃ e, d = c + e := ⟨d - c, by omega⟩
      obtain ⟨f, rfl⟩ : ∃ f, m = k + f := ⟨m - k, by omega⟩
      rw [Nat.add_mul] at q1 q2
      have e3 : e * (k + f + 1) = e * (k + 1) + e * f := by rw [← Nat.mul_add]; congr 1; omega
      have h4 : 0 < e * f := Nat.mul_pos (by omega) (by omega)
      have h5 : e * f ≤ 127 * 30 := Nat.mul_le_mul (by omega) (by omega)
      omega
    · exact h1
    · exfalso
      obtain ⟨e, rfl⟩ : ∃ e, c = d + e := ⟨c - d, by omega⟩
      obtain ⟨f, rfl⟩ : ∃ f, m = k + f := ⟨m - k, by omega⟩
      rw [Nat.add_mul] at q1 q2
      have e3 : e * (k + f + 1) = e * (k + 1) + e * f := by rw [← Nat.mul_add]; congr 1; omega
      have h4 : 0 < e * f := Nat.mul_pos (by omega) (by omega)
      have h5 : e * f ≤ 127 * 30 := Nat.mul_le_mul (by omega) (by omega)
      omega
  · intro h
    subst h
    have : sm 0 ((x.set k c).set m c) = sm 0 x := by omega
    rw [this]
end K04
set_option Elab.async false
set_option linter.all false
set_option maxRecDepth 100000
set_option maxHeartbeats 4000000
namespace K04
open PySem PySem.Spec PyProof.Rows L2 Mn
def spec : Nat → Option (List PV → PH → Res PV)
  | 11 => some spDice
  | 12 => some spRoll
  | _ => none
abbrev call (n : Nat) : Nat → List PV → PH → Res PV := callS T 0 defs spec n
theorem call_run {n i : Nat} {d : Df} {vs : List PV} {h : PH} (hd : defs[i]? = some d) (hs : spec i = none) : call (n + 1) i vs h = runD T 0 (call n) d vs h := by
  show callS T 0 defs spec (n + 1) i vs h = _
  simp only [callS, hd, hs]
theorem e_roll {n l b : Nat} {k : Int} {h : PH} (hl : h[l]? = some (.dice (b + 1))) (h0 : 0 < k) (h1 : k < 2 ^ 62) : call (n + 1) 12 [.ref l, .int k] h = .all k.toNat fun r => .ok (.int r) (h.set l (.dice b)) := by
  have e : call (n + 1) 12 [.ref l, .int k] h = spRoll [.ref l, .int k] h := by
    show callS T 0 defs spec (n + 1) 12 [.ref l, .int k] h = _
    simp only [callS, show defs[12]? = some d__law_roll from rfl, show spec 12 = some spRoll from rfl]
    rfl
  rw [e]
  unfold spRoll
  simp only [hl]
  rw [if_pos ⟨h0, h1⟩]
theorem e_within {n : Nat} {v l m : Int} {h : PH} (h1 : l ≤ v) (h2 : v ≤ m) : call (n + 1) 0 [.int v, .int l, .int m] h = .ok (.bl true) h := by
  rw [call_run (d := d_is_within) rfl rfl]
  simp [runD, runBody, exSs, exS, evE, evEs, evT, evIf, asgTa, bindTg, pBin, pCmp, pBi, pTru, ob, pIx, Res.bind, callG, T, isTy, isTys, tyOf, subC, tyB, tyNames, Bi.tyn, d_is_within, b_is_within, h1, h2]
theorem e_checkw {n : Nat} {v l m : Int} {h : PH} (h1 : l ≤ v) (h2 : v ≤ m) : call (n + 2) 3 [.int v, .int l, .int m] h = .ok .non h := by
  rw [call_run (d := d_check_within) rfl rfl]
  simp [runD, runBody, exSs, exS, evE, evEs, evT, evIf, asgTa, bindTg, pBin, pCmp, pBi, pTru, ob, pIx, Res.bind, callG, T, isTy, isTys, tyOf, subC, tyB, tyNames, Bi.tyn, d_check_within, b_check_within, e_within h1 h2]
theorem e_checkb {n : Nat} {v b m : Nat} {h : PH} (h1 : b ≤ m) (h2 : v < 2 ^ b) (h3 : b ≤ 1000) : call (n + 3) 10 [.int v, .int b, .int m] h = .ok .non h := by
  rw [call_run (d := d__check_bits) rfl rfl]
  have e := e_checkw (n := n) (v := b) (l := 0) (m := m) (h := h) (by omega) (by omega)
  have h4 : ¬ ((2 : Int) ^ b ≤ v) := by
    have : ((2 ^ b : Nat) : Int) > v := by omega
    push_cast at this
    omega
  have h5 : (b : Int) ≤ 1000000 := by omega
  simp [runD, runBody, exSs, exS, evE, evEs, evT, evIf, asgTa, bindTg, pBin, pCmp, pBi, pTru, ob, pIx, Res.bind, callG, T, isTy, isTys, tyOf, subC, tyB, tyNames, Bi.tyn, d__check_bits, b__check_bits, e, h4, h5]
theorem for_det {body : PV → PEnv → PH → Res Fl} {w : Wk} {N : Nat} {item : Nat → PV} {f : Nat → PEnv} {hp : Nat → PH} (hi : ∀ i < N, wkAt (hp i) i w = some (some (item i))) (he : wkAt (hp N) N w = some none) (hb : ∀ i < N, body (item i) (f i) (hp i) = .ok (.nx (f (i + 1))) (hp (i + 1))) :
    forRun body w (N + 1) 0 (f 0) (hp 0) = .ok (.nx (f N)) (hp N) := by
  have gen : ∀ m i, i + m = N → forRun body w (m + 1) i (f i) (hp i) = .ok (.nx (f N)) (hp N) := fun m => by
    induction m with
    | zero =>
      intro i hi'
      have : i = N := by omega
      subst this
      unfold forRun
      rw [he]
    | succ m ih =>
      intro i hi'
      unfold forRun
      rw [hi i (by omega)]
      simp only
      rw [hb i (by omega)]
      exact ih (i + 1) (by omega)
  exact gen N 0 (by omega)
theorem fix_at {xs : List PV} {h : PH} {i : Nat} {x : PV} (e : xs[i]? = some x) : wkAt h i (.fix xs) = some (some x) := by simp only [wkAt, e]
theorem fix_end {xs : List PV} {h : PH} : wkAt h xs.length (.fix xs) = some none := by simp [wkAt]
section
variable {cl : Nat → List PV → PH → Res PV}
theorem st_nx {s : Sm} {r : List Sm} {ρ ρ1 : PEnv} {h h1 : PH} {z : Res Fl} (e : exS T cl 0 s ρ h = .ok (.nx ρ1) h1) (k : exSs T cl 0 r ρ1 h1 = z) : exSs T cl 0 (s :: r) ρ h = z := by
  simp only [exSs, e, Res.bind_ok]
  exact k
theorem st_rt {s : Sm} {r : List Sm} {ρ : PEnv} {h h1 : PH} {v : PV} (e : exS T cl 0 s ρ h = .ok (.rt v) h1) : exSs T cl 0 (s :: r) ρ h = .ok (.rt v) h1 := by
  simp only [exSs, e, Res.bind_ok]
theorem rb_rt {ns : Nat} {b : List Sm} {vs : List PV} {h h1 : PH} {v : PV} (e : exSs T cl 0 b (vs.map some ++ List.replicate (ns - vs.length) none) h = .ok (.rt v) h1) : runBody T cl 0 ns b vs h = .ok v h1 := by
  unfold runBody
  rw [e]
  rfl
theorem rd_rt {d : Df} {vs : List PV} {h h1 : PH} {v : PV} (hl : vs.length = d.ps.length) (e : exSs T cl 0 d.body (vs.map some ++ List.replicate (d.N.length - vs.length) none) h = .ok (.rt v) h1) : runD T 0 cl d vs h = .ok v h1 := by
  unfold runD
  rw [if_pos hl]
  exact rb_rt e
theorem for_st {t : Tg} {k : Ik} {its : List Ex} {b : List Sm} {w : Wk} {N : Nat} {ρ : PEnv} {h : PH} (item : Nat → PV) (f : Nat → PEnv) (hp : Nat → PH) (hv : evI T cl k its ρ h = .ok (w, N) (hp 0)) (h0 : ρ = f 0)
    (hi : ∀ i < N, wkAt (hp i) i w = some (some (item i))) (he : wkAt (hp N) N w = some none) (hb : ∀ i < N, forB T cl 0 t b (item i) (f i) (hp i) = .ok (.nx (f (i + 1))) (hp (i + 1))) :
    exS T cl 0 (.for_ t k its b) ρ h = .ok (.nx (f N)) (hp N) := by
  rw [exS_for, hv, Res.bind_ok, h0]
  exact for_det hi he hb
end
theorem wk_rng {b : Nat} {h : PH} (hb : b ≤ 1000000) : wkOf .rng [.int b] h = some (.fix ((List.range b).map fun (i : Nat) => .int i), b) := by
  have h3 : (b : Int) < 4611686018427387904 := by omega
  have h4 : (-4611686018427387904 : Int) ≤ b := by omega
  simp [wkOf, h3, h4]
theorem evI_rng {cl : Nat → List PV → PH → Res PV} {its : List Ex} {ρ : PEnv} {h h1 : PH} {b : Nat} (he : evEs T cl its ρ h = .ok [.int b] h1) (hb : b ≤ 1000000) : evI T cl .rng its ρ h = .ok (.fix ((List.range b).map fun (i : Nat) => .int i), b) h1 := by
  unfold evI
  rw [he, Res.bind_ok, wk_rng hb]
theorem log_lt {x k : Nat} (h : x < 2 ^ k) (hk : k ≤ 400000) : x.log2 < 400000 + 1 := by
  by_cases hz : x = 0
  · rw [hz]; decide
  · have := (Nat.log2_lt hz).mpr h
    omega
theorem big_ok {a b k : Nat} (ha : a < 2 ^ k) (hb : b < 2 ^ k) (hk : k ≤ 400000) : big a b = true := by
  unfold big
  have h1 := log_lt ha hk
  have h2 := log_lt hb hk
  simp
  omega
theorem e_rev {n : Nat} {v b : Nat} {h : PH} (h1 : b ≤ 64) (h2 : v < 2 ^ b) : call (n + 4) 8 [.int v, .int b] h = .ok (.int (R b v)) h := by
  rw [call_run (d := d_reversed_bits) rfl rfl]
  have e : call (n + 3) 10 [.int v, .int b, .int 64] h = .ok .non h := e_checkb (n := n) (v := v) (b := b) (m := 64) (h := h) h1 h2 (by omega)
  refine rd_rt rfl ?_
  show exSs T (call (n + 3)) 0 b_reversed_bits [some (.int v), some (.int b), none, none] h = _
  refine st_nx (ρ1 := [some (.int v), some (.int b), none, none]) (h1 := h) (by simp [runD, runBody, exSs, exS, evE, evEs, evT, evIf, asgTa, bindTg, pBin, pCmp, pBi, pTru, ob, pIx, Res.bind, callG, T, isTy, isTys, tyOf, subC, tyB, tyNames, Bi.tyn, e]) ?_
  refine st_nx (ρ1 := [some (.int v), some (.int b), some (.int 0), none]) (h1 := h) (by simp [runD, runBody, exSs, exS, evE, evEs, evT, evIf, asgTa, bindTg, pBin, pCmp, pBi, pTru, ob, pIx, Res.bind, callG, T, isTy, isTys, tyOf, subC, tyB, tyNames, Bi.tyn]) ?_
  refine st_nx (for_st (w := .fix ((List.range b).map fun (i : Nat) => .int i)) (N := b) (fun i => .int i) (fun i => [some (.int v), some (.int b), some (.int (R i v)), if i = 0 then none else some (.int (i - 1 : Int))]) (fun _ => h)
    ?_ rfl (fun i hi => fix_at (by simp [hi])) (by simpa using fix_end (xs := (List.range b).map fun (i : Nat) => PV.int i) (h := h)) fun i hi => ?_) ?_
  · exact evI_rng (by simp [runD, runBody, exSs, exS, evE, evEs, evT, evIf, asgTa, bindTg, pBin, pCmp, pBi, pTru, ob, pIx, Res.bind, callG, T, isTy, isTys, tyOf, subC, tyB, tyNames, Bi.tyn]) (by omega)
  · have hb : big (R i v) 2 = true := big_ok (k := 65) (Nat.lt_of_lt_of_le (R_lt i v) (Nat.pow_le_pow_right (by decide) (by omega))) (by decide) (by decide)
    unfold forB
    simp [runD, runBody, exSs, exS, evE, evEs, evT, evIf, asgTa, bindTg, pBin, pCmp, pBi, pTru, ob, pIx, Res.bind, callG, T, isTy, isTys, tyOf, subC, tyB, tyNames, Bi.tyn, hb, bitAnd_m1]
    simp only [R]
    push_cast
    rfl
  · exact st_rt (by simp [runD, runBody, exSs, exS, evE, evEs, evT, evIf, asgTa, bindTg, pBin, pCmp, pBi, pTru, ob, pIx, Res.bind, callG, T, isTy, isTys, tyOf, subC, tyB, tyNames, Bi.tyn])
theorem e_bucket {n : Nat} {k b : Nat} {h : PH} (h1 : b ≤ 16) (h2 : k < 2 ^ b) : call (n + 5) 9 [.int k, .int b] h = .ok (.tup [.int (R b k * 2 ^ (16 - b) : Nat), .int ((R b k * 2 ^ (16 - b) + 2 ^ (16 - b) - 1 : Nat))]) h := by
  rw [call_run (d := d_bucket_spots) rfl rfl]
  have e : call (n + 4) 10 [.int k, .int b, .int 16] h = .ok .non h := e_checkb (n := n + 1) (v := k) (b := b) (m := 16) (h := h) h1 h2 (by omega)
  have e2 := e_rev (n := n) (v := k) (b := b) (h := h) (by omega) h2
  refine rd_rt rfl ?_
  show exSs T (call (n + 4)) 0 b_bucket_spots [some (.int k), some (.int b), none, none] h = _
  have ht : ((16 : Int) - b).toNat = 16 - b := by omega
  have hc1 : (b : Int) ≤ 16 := by omega
  have hc2 : (16 : Int) - b ≤ 1000000 := by omega
  refine st_nx (ρ1 := [some (.int k), some (.int b), none, none]) (h1 := h) (by simp [runD, runBody, exSs, exS, evE, evEs, evT, evIf, asgTa, bindTg, pBin, pCmp, pBi, pTru, ob, pIx, Res.bind, callG, T, isTy, isTys, tyOf, subC, tyB, tyNames, Bi.tyn, e]) ?_
  refine st_nx (ρ1 := [some (.int k), some (.int b), some (.int (2 ^ (16 - b) : Nat)), none]) (h1 := h) (by
    simp [runD, runBody, exSs, exS, evE, evEs, evT, evIf, asgTa, bindTg, pBin, pCmp, pBi, pTru, ob, pIx, Res.bind, callG, T, isTy, isTys, tyOf, subC, tyB, tyNames, Bi.tyn, ht, hc1, hc2]) ?_
  have hb : big (R b k) ((2 ^ (16 - b) : Nat)) = true := big_ok (k := 65) (Nat.lt_of_lt_of_le (R_lt b k) (Nat.pow_le_pow_right (by decide) (by omega))) (Nat.pow_lt_pow_right (by decide) (by omega)) (by decide)
  refine st_nx (ρ1 := [some (.int k), some (.int b), some (.int (2 ^ (16 - b) : Nat)), some (.int (R b k * 2 ^ (16 - b) : Nat))]) (h1 := h) (by
    push_cast at hb
    simp [runD, runBody, exSs, exS, evE, evEs, evT, evIf, asgTa, bindTg, pBin, pCmp, pBi, pTru, ob, pIx, Res.bind, callG, T, isTy, isTys, tyOf, subC, tyB, tyNames, Bi.tyn, e2, hb]) ?_
  refine st_rt ?_
  have hp : 0 < 2 ^ (16 - b) := Nat.pow_pos (by decide)
  have hh : ((R b k * 2 ^ (16 - b) + 2 ^ (16 - b) - 1 : Nat) : Int) = ((R b k * 2 ^ (16 - b) : Nat) : Int) + ((2 ^ (16 - b) : Nat) : Int) - 1 := by omega
  rw [hh]
  have hs : 2 ≤ sizeLine := by decide
  simp [runD, runBody, exSs, exS, evE, evEs, evT, evIf, asgTa, bindTg, pBin, pCmp, pBi, pTru, ob, pIx, Res.bind, callG, T, isTy, isTys, tyOf, subC, tyB, tyNames, Bi.tyn, hs]
theorem e_power {n b : Nat} {h : PH} (h1 : b ≤ 100) : call (n + 1) 17 [.int b] h = .ok (.int (2 ^ b : Nat)) h := by
  rw [call_run (d := d__law_power) rfl rfl]
  refine rd_rt rfl ?_
  show exSs T (call n) 0 b__law_power [some (.int b), none, none] h = _
  refine st_nx (ρ1 := [some (.int b), some (.int 1), none]) (h1 := h) (by simp [runD, runBody, exSs, exS, evE, evEs, evT, evIf, asgTa, bindTg, pBin, pCmp, pBi, pTru, ob, pIx, Res.bind, callG, T, isTy, isTys, tyOf, subC, tyB, tyNames, Bi.tyn]) ?_
  refine st_nx (for_st (w := .fix ((List.range b).map fun (i : Nat) => .int i)) (N := b) (fun i => .int i) (fun i => [some (.int b), some (.int (2 ^ i : Nat)), if i = 0 then none else some (.int (i - 1 : Int))]) (fun _ => h)
    ?_ rfl (fun i hi => fix_at (by simp [hi])) (by simpa using fix_end (xs := (List.range b).map fun (i : Nat) => PV.int i) (h := h)) fun i hi => ?_) ?_
  · exact evI_rng (by simp [runD, runBody, exSs, exS, evE, evEs, evT, evIf, asgTa, bindTg, pBin, pCmp, pBi, pTru, ob, pIx, Res.bind, callG, T, isTy, isTys, tyOf, subC, tyB, tyNames, Bi.tyn]) (by omega)
  · have hb : big ((2 ^ i : Nat)) 2 = true := big_ok (k := 101) (Nat.pow_lt_pow_right (by decide) (by omega)) (by decide) (by decide)
    unfold forB
    push_cast at hb
    simp [runD, runBody, exSs, exS, evE, evEs, evT, evIf, asgTa, bindTg, pBin, pCmp, pBi, pTru, ob, pIx, Res.bind, callG, T, isTy, isTys, tyOf, subC, tyB, tyNames, Bi.tyn, hb]
    rw [Int.pow_succ]
  · exact st_rt (by simp [runD, runBody, exSs, exS, evE, evEs, evT, evIf, asgTa, bindTg, pBin, pCmp, pBi, pTru, ob, pIx, Res.bind, callG, T, isTy, isTys, tyOf, subC, tyB, tyNames, Bi.tyn])
end K04
set_option Elab.async false
set_option linter.all false
set_option maxRecDepth 100000
set_option maxHeartbeats 4000000
namespace K04
open PySem PySem.Spec PyProof.Rows L2 Mn
def okc (c : Nat) : Prop := 32 ≤ c ∧ c < 127
def okx (x : List Nat) : Prop := ∀ c ∈ x, okc c
theorem pr_ok : ∀ c, c < 127 → 32 ≤ c → Unicode.isPrintable c = true := by decide +kernel
theorem ascii_ok {x : List Nat} (h : okx x) : Txt.isascii ⟨x.toArray⟩ = true := by
  unfold Txt.isascii
  simp only [List.all_toArray, List.all_eq_true, decide_eq_true_eq]
  intro c hc
  have := h c hc
  unfold okc at this
  omega
theorem print_ok {x : List Nat} (h : okx x) : Txt.isprintable ⟨x.toArray⟩ = true := by
  unfold Txt.isprintable
  simp only [List.all_toArray, List.all_eq_true]
  intro c hc
  have := h c hc
  exact pr_ok c this.2 this.1
theorem e_istext {n : Nat} {x : List Nat} {h : PH} (hx : okx x) (hl : x.length ≤ 200) : call (n + 1) 1 [.str x] h = .ok (.bl true) h := by
  rw [call_run (d := d_is_text) rfl rfl]
  have h1 : x.length ≤ sizeLine := Nat.le_trans hl (by decide)
  have h2 : (x.length : Int) ≤ 200 := by omega
  simp [runD, runBody, exSs, exS, evE, evEs, evT, evIf, asgTa, bindTg, pBin, pCmp, pBi, pTru, ob, pIx, Res.bind, callG, T, isTy, isTys, tyOf, subC, tyB, tyNames, Bi.tyn, d_is_text, b_is_text, h1, h2, Bq.of, kindAt, pBq, ascii_ok hx, print_ok hx]
theorem e_checkt {n : Nat} {x : List Nat} {h : PH} (hx : okx x) (hl : x.length ≤ 200) : call (n + 2) 2 [.str x] h = .ok .non h := by
  rw [call_run (d := d_check_text) rfl rfl]
  simp [runD, runBody, exSs, exS, evE, evEs, evT, evIf, asgTa, bindTg, pBin, pCmp, pBi, pTru, ob, pIx, Res.bind, callG, T, isTy, isTys, tyOf, subC, tyB, tyNames, Bi.tyn, d_check_text, b_check_text, e_istext hx hl]
theorem hsh_take {x : List Nat} {i : Nat} (hi : i < x.length) : hsh (x.take (i + 1)) = (hsh (x.take i) * 33 + x[i]) % 65536 := by
  unfold hsh
  rw [List.take_succ_eq_append_getElem hi, List.foldl_append]
  rfl
theorem hash_big (y : List Nat) : big (hsh y) 33 = true := big_ok (k := 17) (by have := hsh_lt y; omega) (by decide) (by decide)
theorem hash_turn_p {cl : Nat → List PV → PH → Res PV} {x : List Nat} {i : Nat} {h : PH} (hi : i < x.length) : forB T cl 0 (.nm 2) [.asg (.nm 1) (.bin .mod (.bin .add (.bin .mul (.var 1) (.con (.int 33))) (.bi .ord [.var 2])) (.glob 29))] (.str [x.getD i 0]) [some (.str x), some (.int (hsh (x.take i))), if i = 0 then none else some (.str [x.getD (i - 1) 0])] h =
    .ok (.nx [some (.str x), some (.int (hsh (x.take (i + 1)))), if i + 1 = 0 then none else some (.str [x.getD (i + 1 - 1) 0])]) h := by
  have e1 : hsh (x.take (i + 1)) = (hsh (x.take i) * 33 + x.getD i 0) % 65536 := by rw [hsh_take hi]; simp [hi]
  have hb := hash_big (x.take i)
  rw [e1, if_neg (Nat.succ_ne_zero i), Nat.add_sub_cancel]
  generalize (if i = 0 then none else some (PV.str [x.getD (i - 1) 0])) = z
  generalize hsh (x.take i) = H at hb ⊢
  generalize x.getD i 0 = c
  unfold forB
  simp [runD, runBody, exSs, exS, evE, evEs, evT, evIf, asgTa, bindTg, pBin, pCmp, pBi, pTru, ob, pIx, Res.bind, callG, T, isTy, isTys, tyOf, subC, tyB, tyNames, Bi.tyn, hb]
theorem hash_turn_l {cl : Nat → List PV → PH → Res PV} {x : List Nat} {i : Nat} {h : PH} (hi : i < x.length) : forB T cl 0 (.nm 2) [.asg (.nm 1) (.bin .mod (.bi .int [.bin .add (.bin .mul (.var 1) (.con (.int 33))) (.bi .ord [.var 2])]) (.con (.int 65536)))] (.str [x.getD i 0]) [some (.str x), some (.int (hsh (x.take i))), if i = 0 then none else some (.str [x.getD (i - 1) 0])] h =
    .ok (.nx [some (.str x), some (.int (hsh (x.take (i + 1)))), if i + 1 = 0 then none else some (.str [x.getD (i + 1 - 1) 0])]) h := by
  have e1 : hsh (x.take (i + 1)) = (hsh (x.take i) * 33 + x.getD i 0) % 65536 := by rw [hsh_take hi]; simp [hi]
  have hb := hash_big (x.take i)
  rw [e1, if_neg (Nat.succ_ne_zero i), Nat.add_sub_cancel]
  generalize (if i = 0 then none else some (PV.str [x.getD (i - 1) 0])) = z
  generalize hsh (x.take i) = H at hb ⊢
  generalize x.getD i 0 = c
  unfold forB
  simp [runD, runBody, exSs, exS, evE, evEs, evT, evIf, asgTa, bindTg, pBin, pCmp, pBi, pTru, ob, pIx, Res.bind, callG, T, isTy, isTys, tyOf, subC, tyB, tyNames, Bi.tyn, hb]
theorem e_hash {n : Nat} {x : List Nat} {h : PH} (hx : okx x) (hl : x.length ≤ 200) : call (n + 3) 4 [.str x] h = .ok (.int (hsh x)) h := by
  rw [call_run (d := d_hash_of) rfl rfl]
  have e := e_checkt (n := n) (h := h) hx hl
  refine rd_rt rfl ?_
  show exSs T (call (n + 2)) 0 b_hash_of [some (.str x), none, none] h = _
  refine st_nx (ρ1 := [some (.str x), none, none]) (h1 := h) (by simp [runD, runBody, exSs, exS, evE, evEs, evT, evIf, asgTa, bindTg, pBin, pCmp, pBi, pTru, ob, pIx, Res.bind, callG, T, isTy, isTys, tyOf, subC, tyB, tyNames, Bi.tyn, e]) ?_
  refine st_nx (ρ1 := [some (.str x), some (.int 0), none]) (h1 := h) (by simp [runD, runBody, exSs, exS, evE, evEs, evT, evIf, asgTa, bindTg, pBin, pCmp, pBi, pTru, ob, pIx, Res.bind, callG, T, isTy, isTys, tyOf, subC, tyB, tyNames, Bi.tyn]) ?_
  refine st_nx (for_st (w := .fix (x.map fun c => .str [c])) (N := x.length) (fun i => .str [x.getD i 0]) (fun i => [some (.str x), some (.int (hsh (x.take i))), if i = 0 then none else some (.str [x.getD (i - 1) 0])]) (fun _ => h)
    ?_ rfl (fun i hi => fix_at (by simp [hi])) (by simp [wkAt]) fun i hi => ?_) ?_
  · unfold evI
    simp [runD, runBody, exSs, exS, evE, evEs, evT, evIf, asgTa, bindTg, pBin, pCmp, pBi, pTru, ob, pIx, Res.bind, callG, T, isTy, isTys, tyOf, subC, tyB, tyNames, Bi.tyn, wkOf]
  · exact hash_turn_p hi
  · refine st_rt ?_
    simp [runD, runBody, exSs, exS, evE, evEs, evT, evIf, asgTa, bindTg, pBin, pCmp, pBi, pTru, ob, pIx, Res.bind, callG, T, isTy, isTys, tyOf, subC, tyB, tyNames, Bi.tyn]
theorem e_lhash {n : Nat} {x : List Nat} {h : PH} : call (n + 1) 19 [.str x] h = .ok (.int (hsh x)) h := by
  rw [call_run (d := d__law_hash) rfl rfl]
  refine rd_rt rfl ?_
  show exSs T (call n) 0 b__law_hash [some (.str x), none, none] h = _
  refine st_nx (ρ1 := [some (.str x), some (.int 0), none]) (h1 := h) (by simp [runD, runBody, exSs, exS, evE, evEs, evT, evIf, asgTa, bindTg, pBin, pCmp, pBi, pTru, ob, pIx, Res.bind, callG, T, isTy, isTys, tyOf, subC, tyB, tyNames, Bi.tyn]) ?_
  refine st_nx (for_st (w := .fix (x.map fun c => .str [c])) (N := x.length) (fun i => .str [x.getD i 0]) (fun i => [some (.str x), some (.int (hsh (x.take i))), if i = 0 then none else some (.str [x.getD (i - 1) 0])]) (fun _ => h)
    ?_ rfl (fun i hi => fix_at (by simp [hi])) (by simp [wkAt]) fun i hi => ?_) ?_
  · unfold evI
    simp [runD, runBody, exSs, exS, evE, evEs, evT, evIf, asgTa, bindTg, pBin, pCmp, pBi, pTru, ob, pIx, Res.bind, callG, T, isTy, isTys, tyOf, subC, tyB, tyNames, Bi.tyn, wkOf]
  · exact hash_turn_l hi
  · refine st_rt ?_
    simp [runD, runBody, exSs, exS, evE, evEs, evT, evIf, asgTa, bindTg, pBin, pCmp, pBi, pTru, ob, pIx, Res.bind, callG, T, isTy, isTys, tyOf, subC, tyB, tyNames, Bi.tyn]
theorem e_spot {n : Nat} {x : List Nat} {h : PH} (hx : okx x) (hl : x.length ≤ 200) : call (n + 5) 5 [.str x] h = .ok (.int (R 16 (hsh x))) h := by
  rw [call_run (d := d_spot_of) rfl rfl]
  have e : call (n + 4) 8 [.int (hsh x), .int 16] h = .ok (.int (R 16 (hsh x))) h := e_rev (n := n) (v := hsh x) (b := 16) (by decide) (by have := hsh_lt x; omega)
  have e2 := e_hash (n := n + 1) (h := h) hx hl
  simp [runD, runBody, exSs, exS, evE, evEs, evT, evIf, asgTa, bindTg, pBin, pCmp, pBi, pTru, ob, pIx, Res.bind, callG, T, isTy, isTys, tyOf, subC, tyB, tyNames, Bi.tyn, d_spot_of, b_spot_of, e, e2]
end K04
set_option Elab.async false
set_option linter.all false
set_option maxRecDepth 100000
set_option maxHeartbeats 4000000
namespace K04
open PySem PySem.Spec PyProof.Rows L2 Mn
theorem get_last {h : PH} {o : PO} : (h ++ [o])[h.length]? = some o := by simp
theorem set_last {h : PH} {o o' : PO} : (h ++ [o]).set h.length o' = h ++ [o'] := by simp
def digs (v i : Nat) : List PV := (List.range i).map fun j => .int (v / 2 ^ j % 2 : Nat)
theorem digs_succ (v i : Nat) : digs v (i + 1) = digs v i ++ [.int (v / 2 ^ i % 2 : Nat)] := by simp [digs, List.range_succ]
theorem digs_len (v i : Nat) : (digs v i).length = i := by simp [digs]
theorem digs_get {v b i : Nat} (h : i < b) : (digs v b)[i]? = some (.int (v / 2 ^ i % 2 : Nat)) := by simp [digs, h]
theorem turn_a {cl : Nat → List PV → PH → Res PV} {v b i : Nat} {h : PH} {z : Option PV} (hi : i < 100) : forB T cl 0 (.nm 3) [.ex (.mt 0 .append (.var 2) [.bin .mod (.bi .int [.var 0]) (.con (.int 2))]), .asg (.nm 0) (.bin .fdiv (.var 0) (.con (.int 2)))] (.int i)
    [some (.int (v / 2 ^ i : Nat)), some (.int b), some (.ref h.length), z, none, none] (h ++ [.lst (digs v i)]) = .ok (.nx [some (.int (v / 2 ^ (i + 1) : Nat)), some (.int b), some (.ref h.length), some (.int i), none, none]) (h ++ [.lst (digs v (i + 1))]) := by
  have e1 : ((v / 2 ^ (i + 1) : Nat) : Int) = ((v / 2 ^ i : Nat) : Int) / 2 := by
    rw [Nat.pow_succ, ← Nat.div_div_eq_div_mul]
    push_cast
    rfl
  have e2 : ((v / 2 ^ i % 2 : Nat) : Int) = ((v / 2 ^ i : Nat) : Int) % 2 := by push_cast; rfl
  have hl : (digs v i).length < sizeLine := by rw [digs_len]; exact Nat.lt_of_lt_of_le hi (by decide)
  have l2 : Nat.log2 2 = 1 := by decide
  rw [digs_succ, e1, e2]
  generalize ((v / 2 ^ i : Nat) : Int) = V
  generalize digs v i = xs at hl ⊢
  unfold forB
  simp [runD, runBody, exSs, exS, evE, evEs, evT, evIf, asgTa, bindTg, pBin, pCmp, pBi, pTru, ob, pIx, Res.bind, callG, T, isTy, isTys, tyOf, subC, tyB, tyNames, Bi.tyn, Bq.of, kindAt, pBq, hl, l2]
theorem turn_b {cl : Nat → List PV → PH → Res PV} {v i : Nat} {d0 d1 d2 d3 z : Option PV} {h : PH} (hi : i < 100) : forB T cl 0 (.nm 5) [.asg (.nm 4) (.bin .add (.bin .mul (.var 4) (.con (.int 2))) (.var 5))] (.int (v / 2 ^ i % 2 : Nat))
    [d0, d1, d2, d3, some (.int (R i v)), z] h = .ok (.nx [d0, d1, d2, d3, some (.int (R (i + 1) v)), some (.int (v / 2 ^ i % 2 : Nat))]) h := by
  have hb : big (R i v) 2 = true := big_ok (k := 101) (Nat.lt_of_lt_of_le (R_lt i v) (Nat.pow_le_pow_right (by decide) (by omega))) (by decide) (by decide)
  have e : ((R (i + 1) v : Nat) : Int) = (R i v : Int) * 2 + ((v / 2 ^ i % 2 : Nat) : Int) := by simp only [R]; push_cast; rfl
  rw [e]
  generalize ((R i v : Nat) : Int) = r at hb ⊢
  generalize ((v / 2 ^ i % 2 : Nat) : Int) = w
  unfold forB
  simp [runD, runBody, exSs, exS, evE, evEs, evT, evIf, asgTa, bindTg, pBin, pCmp, pBi, pTru, ob, pIx, Res.bind, callG, T, isTy, isTys, tyOf, subC, tyB, tyNames, Bi.tyn, hb]
theorem e_turned {n : Nat} {v b : Nat} {h : PH} (hb : b ≤ 64) : call (n + 1) 18 [.int v, .int b] h = .ok (.int (R b v)) (h ++ [.lst (digs v b)]) := by
  rw [call_run (d := d__law_turned) rfl rfl]
  refine rd_rt rfl ?_
  show exSs T (call n) 0 b__law_turned [some (.int v), some (.int b), none, none, none, none] h = _
  refine st_nx (ρ1 := [some (.int v), some (.int b), some (.ref h.length), none, none, none]) (h1 := h ++ [.lst []]) (by simp [runD, runBody, exSs, exS, evE, evEs, evT, evIf, asgTa, bindTg, pBin, pCmp, pBi, pTru, ob, pIx, Res.bind, callG, T, isTy, isTys, tyOf, subC, tyB, tyNames, Bi.tyn]) ?_
  refine st_nx (for_st (w := .fix ((List.range b).map fun (i : Nat) => .int i)) (N := b) (fun i => .int i) (fun i => [some (.int (v / 2 ^ i : Nat)), some (.int b), some (.ref h.length), if i = 0 then none else some (.int (i - 1 : Nat)), none, none]) (fun i => h ++ [.lst (digs v i)])
    ?_ (by simp) (fun i hi => fix_at (by simp [hi])) (by simpa using fix_end (xs := (List.range b).map fun (i : Nat) => PV.int i) (h := h ++ [.lst (digs v b)])) fun i hi => ?_) ?_
  · exact evI_rng (by simp [runD, runBody, exSs, exS, evE, evEs, evT, evIf, asgTa, bindTg, pBin, pCmp, pBi, pTru, ob, pIx, Res.bind, callG, T, isTy, isTys, tyOf, subC, tyB, tyNames, Bi.tyn, digs]) (by omega)
  · have q := turn_a (cl := call n) (v := v) (b := b) (i := i) (h := h) (z := if i = 0 then none else some (.int (i - 1 : Nat))) (by omega)
    rw [q, if_neg (Nat.succ_ne_zero i), Nat.add_sub_cancel]
  generalize (if b = 0 then none else some (PV.int ((b - 1 : Nat) : Int))) = z
  refine st_nx (ρ1 := [some (.int (v / 2 ^ b : Nat)), some (.int b), some (.ref h.length), z, some (.int 0), none]) (h1 := h ++ [.lst (digs v b)]) (by simp [runD, runBody, exSs, exS, evE, evEs, evT, evIf, asgTa, bindTg, pBin, pCmp, pBi, pTru, ob, pIx, Res.bind, callG, T, isTy, isTys, tyOf, subC, tyB, tyNames, Bi.tyn]) ?_
  refine st_nx (for_st (w := .lst h.length) (N := b) (fun i => .int (v / 2 ^ i % 2 : Nat)) (fun i => [some (.int (v / 2 ^ b : Nat)), some (.int b), some (.ref h.length), z, some (.int (R i v)), if i = 0 then none else some (.int (v / 2 ^ (i - 1) % 2 : Nat))]) (fun i => h ++ [.lst (digs v b)])
    ?_ rfl (fun i hi => ?_) ?_ fun i hi => ?_) ?_
  · unfold evI
    simp [runD, runBody, exSs, exS, evE, evEs, evT, evIf, asgTa, bindTg, pBin, pCmp, pBi, pTru, ob, pIx, Res.bind, callG, T, isTy, isTys, tyOf, subC, tyB, tyNames, Bi.tyn, wkOf, lstAt, digs_len]
  · simp only [wkAt, lstAt, get_last, Option.map_some, digs_get hi]
  · simp only [wkAt, lstAt, get_last, Option.map_some]
    rw [List.getElem?_eq_none (by rw [digs_len]; exact Nat.le_refl _)]
  · rw [turn_b (by omega), if_neg (Nat.succ_ne_zero i), Nat.add_sub_cancel]
  · exact st_rt (by simp [runD, runBody, exSs, exS, evE, evEs, evT, evIf, asgTa, bindTg, pBin, pCmp, pBi, pTru, ob, pIx, Res.bind, callG, T, isTy, isTys, tyOf, subC, tyB, tyNames, Bi.tyn])
end K04
set_option Elab.async false
set_option linter.all false
set_option maxRecDepth 100000
set_option maxHeartbeats 4000000
namespace K04
open PySem PySem.Spec PyProof.Rows L2 Mn
def oks (x : List Nat) : Prop := ∀ c ∈ x, c = 10 ∨ okc c
theorem strike (x : List Nat) : (Txt.replace ⟨x.toArray⟩ ⟨[10].toArray⟩ ⟨([] : List Nat).toArray⟩).cps.toList = x.filter (· != 10) := by
  have e := replace_strikes ⟨x.toArray⟩ 10
  simpa using e
theorem strike_ok {x : List Nat} (h : oks x) : okx (x.filter (· != 10)) := fun c hc => by
  rw [List.mem_filter] at hc
  rcases h c hc.1 with rfl | q
  · simp at hc
  · exact q
theorem e_signs {n : Nat} {x : List Nat} {h : PH} (hx : oks x) (hl : x.length ≤ 1000) : call (n + 1) 7 [.str x] h = .ok (.bl true) h := by
  rw [call_run (d := d__are_signs) rfl rfl]
  have h1 : x.length ≤ 16777216 := by omega
  refine rd_rt rfl ?_
  show exSs T (call n) 0 b__are_signs [some (.str x), none] h = _
  refine st_nx (ρ1 := [some (.str x), none]) (h1 := h) (by simp [runD, runBody, exSs, exS, evE, evEs, evT, evIf, asgTa, bindTg, pBin, pCmp, pBi, pTru, ob, pIx, Res.bind, callG, T, isTy, isTys, tyOf, subC, tyB, tyNames, Bi.tyn]) ?_
  refine st_nx (ρ1 := [some (.str x), some (.str (x.filter (· != 10)))]) (h1 := h) (by
    have e := strike x
    simp only [exS, evE, asgTa]
    simp [Res.bind, h1]
    simpa using e) ?_
  refine st_rt ?_
  have a := ascii_ok (strike_ok hx)
  have b := print_ok (strike_ok hx)
  generalize x.filter (· != 10) = y at a b
  simp [runD, runBody, exSs, exS, evE, evEs, evT, evIf, asgTa, bindTg, pBin, pCmp, pBi, pTru, ob, pIx, Res.bind, callG, T, isTy, isTys, tyOf, subC, tyB, tyNames, Bi.tyn, Bq.of, kindAt, pBq, a, b]
theorem lc_det {body : PV → PH → Res (Option PV)} {w : Wk} {N : Nat} {item y : Nat → PV} {h : PH} (hN : N ≤ 1000) (hi : ∀ i < N, ∀ h', wkAt h' i w = some (some (item i))) (he : ∀ h', wkAt h' N w = some none) (hb : ∀ i < N, ∀ h', body (item i) h' = .ok (some (y i)) h') :
    lcRun body w h.length (N + 1) 0 (h ++ [.lst []]) = .ok (.ref h.length) (h ++ [.lst ((List.range N).map y)]) := by
  have gen : ∀ m i, i + m = N → lcRun body w h.length (m + 1) i (h ++ [.lst ((List.range i).map y)]) = .ok (.ref h.length) (h ++ [.lst ((List.range N).map y)]) := fun m => by
    induction m with
    | zero =>
      intro i hi'
      have : i = N := by omega
      subst this
      unfold lcRun
      rw [he]
    | succ m ih =>
      intro i hi'
      unfold lcRun
      rw [hi i (by omega)]
      simp only
      rw [hb i (by omega), Res.bind_ok]
      simp only [get_last, set_last]
      have hs : ((List.range i).map y).length < sizeLine := by
        rw [List.length_map, List.length_range]
        exact Nat.lt_of_lt_of_le (Nat.lt_of_le_of_lt (by omega : i ≤ 1000) (by decide : 1000 < 1001)) (by decide)
      rw [if_pos hs]
      have := ih (i + 1) (by omega)
      rw [List.range_succ, List.map_append] at this
      exact this
  exact gen N 0 (by omega)
theorem sm_range : ∀ (x : List Nat) (k : Nat), ((List.range x.length).map fun i => x.getD i 0 * (k + i + 1)).sum = sm k x
  | [], k => rfl
  | c :: x, k => by
    have q := sm_range x (k + 1)
    rw [List.length_cons, List.range_succ_eq_map, List.map_cons, List.sum_cons, List.map_map]
    simp only [sm]
    rw [← q]
    congr 1
    congr 1
    apply List.map_congr_left
    intro i _
    simp only [Function.comp, List.getD_cons_succ]
    congr 1
    omega
theorem ints_range (f : Nat → Nat) : ∀ l : List Nat, intsOf (l.map fun i => PV.int (f i : Nat)) = some (l.map fun i => ((f i : Nat) : Int))
  | [] => rfl
  | a :: l => by simp only [List.map_cons, intsOf, ints_range f l, Option.map_some]
theorem sum_cast (f : Nat → Nat) : ∀ l : List Nat, (l.map fun i => ((f i : Nat) : Int)).sum = (((l.map f).sum : Nat) : Int)
  | [] => rfl
  | a :: l => by simp only [List.map_cons, List.sum_cons, sum_cast f l]; push_cast; rfl
theorem sum_turn {cl : Nat → List PV → PH → Res PV} {x : List Nat} {c i : Nat} {h : PH} (hc : c < 1000000) (hi : i < 1000) : lcB T cl (.bin .mul (.bi .ord [.var 3]) (.bin .add (.var 2) (.con (.int 1)))) [2, 3] (.tp [2, 3]) [] [some (.str x), none, none, none] (.tup [.int i, .str [c]]) h = .ok (some (.int (c * (i + 1) : Nat))) h := by
  have hb : big c ((i : Int) + 1) = true := by
    have := big_ok (a := c) (b := i + 1) (k := 20) (by omega) (by omega) (by decide)
    push_cast at this
    exact this
  unfold lcB
  simp [runD, runBody, exSs, exS, evE, evEs, evT, evIf, asgTa, bindTg, pBin, pCmp, pBi, pTru, ob, pIx, Res.bind, callG, T, isTy, isTys, tyOf, subC, tyB, tyNames, Bi.tyn, hb, Res.noer]
theorem e_sum {n : Nat} {x : List Nat} {h : PH} (hx : oks x) (hl : x.length ≤ 500) : ∃ g, call (n + 2) 6 [.str x] h = .ok (.int (sm 0 x % 99991 : Nat)) (h ++ g) := by
  refine ⟨[.lst ((List.range x.length).map fun i => .int (x.getD i 0 * (i + 1) : Nat))], ?_⟩
  rw [call_run (d := d_sum_of) rfl rfl]
  have e := e_signs (n := n) (h := h) hx (by omega)
  have cc : ∀ i, x.getD i 0 < 1000000 := fun i => by
    by_cases hi : i < x.length
    · have hm : x[i] ∈ x := List.getElem_mem hi
      have : x.getD i 0 = x[i] := by simp [hi]
      rw [this]
      rcases hx _ hm with q | q
      · omega
      · unfold okc at q; omega
    · have : x.getD i 0 = 0 := by simp [hi]
      omega
  refine rd_rt rfl ?_
  show exSs T (call (n + 1)) 0 b_sum_of [some (.str x), none, none, none] h = _
  refine st_nx (ρ1 := [some (.str x), none, none, none]) (h1 := h) (by simp [runD, runBody, exSs, exS, evE, evEs, evT, evIf, asgTa, bindTg, pBin, pCmp, pBi, pTru, ob, pIx, Res.bind, callG, T, isTy, isTys, tyOf, subC, tyB, tyNames, Bi.tyn, e]) ?_
  have key : evE T (call (n + 1)) (.lc (.bin .mul (.bi .ord [.var 3]) (.bin .add (.var 2) (.con (.int 1)))) [2, 3] (.tp [2, 3]) .enum [.var 0] []) [some (.str x), none, none, none] h =
      .ok (.ref h.length) (h ++ [.lst ((List.range x.length).map fun i => .int (x.getD i 0 * (i + 1) : Nat))]) := by
    have hI : evI T (call (n + 1)) .enum [.var 0] [some (.str x), none, none, none] h = .ok (.ens x, x.length) h := by
      have hs : x.length ≤ sizeLine := Nat.le_trans hl (by decide)
      unfold evI
      simp [runD, runBody, exSs, exS, evE, evEs, evT, evIf, asgTa, bindTg, pBin, pCmp, pBi, pTru, ob, pIx, Res.bind, callG, T, isTy, isTys, tyOf, subC, tyB, tyNames, Bi.tyn, wkOf, hs]
    rw [evE_lc, hI, Res.bind_ok]
    refine lc_det (item := fun i => .tup [.int i, .str [x.getD i 0]]) (by omega) (fun i hi h' => ?_) (fun h' => ?_) fun i hi h' => sum_turn (cc i) (by omega)
    · have : i ≤ x.length := by omega
      simp [wkAt, this, hi]
    · simp [wkAt]
  have s1 : ((List.range x.length).map fun i => ((x.getD i 0 * (i + 1) : Nat) : Int)).sum = (sm 0 x : Int) := by
    have := sum_cast (fun i => x.getD i 0 * (i + 1)) (List.range x.length)
    rw [this]
    have q := sm_range x 0
    simp only [Nat.zero_add] at q
    rw [q]
  have s2 := ints_range (fun i => x.getD i 0 * (i + 1)) (List.range x.length)
  obtain ⟨L, sL, sS⟩ : ∃ L, intsOf ((List.range x.length).map fun i => PV.int ((x.getD i 0 * (i + 1) : Nat) : Int)) = some L ∧ L.sum = (sm 0 x : Int) := ⟨_, s2, s1⟩
  clear s1 s2
  generalize ((List.range x.length).map fun i => PV.int ((x.getD i 0 * (i + 1) : Nat) : Int)) = ys at key sL ⊢
  refine st_nx (ρ1 := [some (.str x), some (.int (sm 0 x)), none, none]) (h1 := h ++ [.lst ys]) (by
    unfold exS evE evEs
    rw [key]
    simp [evEs, Res.bind, pBi, lstAt, sL, asgTa, sS]) ?_
  refine st_rt ?_
  have hm : ((sm 0 x % 99991 : Nat) : Int) = (sm 0 x : Int) % 99991 := by omega
  rw [hm]
  generalize ((sm 0 x : Nat) : Int) = z
  simp only [exS, evE, T, List.getElem?_cons_succ, List.getElem?_cons_zero, Res.bind_ok, pBin]
  rw [if_pos (by decide)]
  rfl
end K04
namespace K04
open PySem PySem.Spec PyProof.Rows L2 Mn
theorem sm_take {x : List Nat} {i k : Nat} (hi : i < x.length) : sm k (x.take (i + 1)) = sm k (x.take i) + x.getD i 0 * (k + i + 1) := by
  induction x generalizing i k with
  | nil => simp at hi
  | cons c x ih =>
    cases i with
    | zero => simp [sm]
    | succ i =>
      have q := ih (i := i) (k := k + 1) (by simpa using hi)
      simp only [List.take_succ_cons, sm, q, List.getD_cons_succ]
      rw [show k + 1 + i + 1 = k + (i + 1) + 1 by omega]
      omega
theorem lsum_turn {cl : Nat → List PV → PH → Res PV} {x : List Nat} {c i : Nat} {s : Nat} {z2 z3 : Option PV} {h : PH} (hc : c < 1000000) (hi : i < 1000) : forB T cl 0 (.tp [2, 3]) [.asg (.nm 1) (.bin .add (.var 1) (.bin .mul (.bi .ord [.var 3]) (.bin .add (.var 2) (.con (.int 1)))))] (.tup [.int i, .str [c]]) [some (.str x), some (.int s), z2, z3] h =
    .ok (.nx [some (.str x), some (.int (s + c * (i + 1) : Nat)), some (.int i), some (.str [c])]) h := by
  have hb : big c ((i : Int) + 1) = true := by
    have := big_ok (a := c) (b := i + 1) (k := 20) (by omega) (by omega) (by decide)
    push_cast at this
    exact this
  unfold forB
  simp [runD, runBody, exSs, exS, evE, evEs, evT, evIf, asgTa, bindTg, pBin, pCmp, pBi, pTru, ob, pIx, Res.bind, callG, T, isTy, isTys, tyOf, subC, tyB, tyNames, Bi.tyn, hb]
theorem e_lsum {n : Nat} {x : List Nat} {h : PH} (hx : oks x) (hl : x.length ≤ 500) : call (n + 1) 20 [.str x] h = .ok (.int (sm 0 x % 99991 : Nat)) h := by
  rw [call_run (d := d__law_sum) rfl rfl]
  have cc : ∀ i, x.getD i 0 < 1000000 := fun i => by
    by_cases hi : i < x.length
    · have hm : x[i] ∈ x := List.getElem_mem hi
      have : x.getD i 0 = x[i] := by simp [hi]
      rw [this]
      rcases hx _ hm with q | q
      · omega
      · unfold okc at q; omega
    · have : x.getD i 0 = 0 := by simp [hi]
      omega
  refine rd_rt rfl ?_
  show exSs T (call n) 0 b__law_sum [some (.str x), none, none, none] h = _
  refine st_nx (ρ1 := [some (.str x), some (.int 0), none, none]) (h1 := h) (by simp [runD, runBody, exSs, exS, evE, evEs, evT, evIf, asgTa, bindTg, pBin, pCmp, pBi, pTru, ob, pIx, Res.bind, callG, T, isTy, isTys, tyOf, subC, tyB, tyNames, Bi.tyn]) ?_
  refine st_nx (for_st (w := .ens x) (N := x.length) (fun i => .tup [.int i, .str [x.getD i 0]]) (fun i => [some (.str x), some (.int (sm 0 (x.take i))), if i = 0 then none else some (.int (i - 1 : Nat)), if i = 0 then none else some (.str [x.getD (i - 1) 0])]) (fun _ => h)
    ?_ rfl (fun i hi => ?_) (by simp [wkAt]) fun i hi => ?_) ?_
  · have hs : x.length ≤ sizeLine := Nat.le_trans hl (by decide)
    unfold evI
    simp [runD, runBody, exSs, exS, evE, evEs, evT, evIf, asgTa, bindTg, pBin, pCmp, pBi, pTru, ob, pIx, Res.bind, callG, T, isTy, isTys, tyOf, subC, tyB, tyNames, Bi.tyn, wkOf, hs]
  · have : i ≤ x.length := by omega
    simp [wkAt, this, hi]
  · rw [sm_take hi, if_neg (Nat.succ_ne_zero i), if_neg (Nat.succ_ne_zero i), Nat.add_sub_cancel, Nat.zero_add]
    exact lsum_turn (cc i) (by omega)
  · refine st_rt ?_
    rw [List.take_length]
    have hm : ((sm 0 x % 99991 : Nat) : Int) = (sm 0 x : Int) % 99991 := by omega
    rw [hm]
    generalize ((sm 0 x : Nat) : Int) = z
    simp only [exS, evE, evEs, pBi, List.getElem?_cons_succ, List.getElem?_cons_zero, Res.bind_ok, pBin]
    rw [if_pos (by decide)]
    rfl
end K04
set_option Elab.async false
set_option linter.all false
set_option maxRecDepth 100000
set_option maxHeartbeats 4000000
namespace K04
open PySem PySem.Spec PyProof.Rows L2 Mn
inductive Al {α : Type} (P : α → PH → Prop) : Res α → Prop
  | ret {a : α} {h : PH} (p : P a h) : Al P (.ok a h)
  | draw {n : Nat} {k : Nat → Res α} (q : ∀ i < n, Al P (k i)) : Al P (.all n k)
theorem Al.bind {α β : Type} {P : β → PH → Prop} {r : Res α} {k : α → PH → Res β} (h : Al (fun a h1 => Al P (k a h1)) r) : Al P (r.bind k) := by
  induction h with
  | ret p => exact p
  | draw q ih => exact .draw ih
theorem Al.imp {α : Type} {P Q : α → PH → Prop} {r : Res α} (h : Al P r) (k : ∀ a h1, P a h1 → Q a h1) : Al Q r := by
  induction h with
  | ret p => exact .ret (k _ _ p)
  | draw q ih => exact .draw ih
theorem Al.ok {α : Type} {P : α → PH → Prop} {r : Res α} {a : α} {h : PH} (e : r = .ok a h) (p : P a h) : Al P r := by rw [e]; exact .ret p
section
variable {cl : Nat → List PV → PH → Res PV} {ρ : PEnv} {h : PH}
theorem al_call {P : PV → PH → Prop} {g f : Nat} {es : List Ex} (hg : T.glob[g]? = some (.fn f)) (k : Al (fun vs h1 => Al P (cl f vs h1)) (evEs T cl es ρ h)) : Al P (evE T cl (.call g es) ρ h) := by
  simp only [evE, hg, callG]
  exact Al.bind k
theorem al_ix {P : PV → PH → Prop} {o i : Ex} (k : Al (fun v h1 => Al (fun w h2 => Al P (pIx v w h2)) (evE T cl i ρ h1)) (evE T cl o ρ h)) : Al P (evE T cl (.ix o i) ρ h) := by
  simp only [evE]
  exact Al.bind (k.imp fun v h1 q => Al.bind q)
theorem al_bin {P : PV → PH → Prop} {op : Bop} {o i : Ex} (k : Al (fun v h1 => Al (fun w h2 => Al P (pBin op v w h2)) (evE T cl i ρ h1)) (evE T cl o ρ h)) : Al P (evE T cl (.bin op o i) ρ h) := by
  simp only [evE]
  exact Al.bind (k.imp fun v h1 q => Al.bind q)
theorem al_cmp {P : PV → PH → Prop} {op : Cop} {o i : Ex} (k : Al (fun v h1 => Al (fun w h2 => Al P (pCmp op v w h2)) (evE T cl i ρ h1)) (evE T cl o ρ h)) : Al P (evE T cl (.cmp op o i) ρ h) := by
  simp only [evE]
  exact Al.bind (k.imp fun v h1 q => Al.bind q)
theorem al_bi {P : PV → PH → Prop} {f : Bi} {es : List Ex} (k : Al (fun vs h1 => Al P (pBi T f vs h1)) (evEs T cl es ρ h)) : Al P (evE T cl (.bi f es) ρ h) := by
  simp only [evE]
  exact Al.bind k
theorem al_nil {P : List PV → PH → Prop} (k : P [] h) : Al P (evEs T cl [] ρ h) := by
  simp only [evEs]
  exact .ret k
theorem al_cons {P : List PV → PH → Prop} {e : Ex} {es : List Ex} (he : ∀ x, e ≠ .star x) (k : Al (fun v h1 => Al (fun vs h2 => P (v :: vs) h2) (evEs T cl es ρ h1)) (evE T cl e ρ h)) : Al P (evEs T cl (e :: es) ρ h) := by
  rw [evEs_cons he]
  exact Al.bind (k.imp fun v h1 q => Al.bind (q.imp fun vs h2 z => .ret z))
theorem al_var {P : PV → PH → Prop} {i : Nat} {v : PV} (e : ρ[i]? = some (some v)) (k : P v h) : Al P (evE T cl (.var i) ρ h) := by
  simp only [evE, e]
  exact .ret k
theorem al_con {P : PV → PH → Prop} {v : PV} (k : P v h) : Al P (evE T cl (.con v) ρ h) := by
  simp only [evE]
  exact .ret k
theorem al_ife {P : PV → PH → Prop} {c a b : Ex} (k : Al (fun v h1 => ∃ t, pTru h1 v = some t ∧ if t then Al P (evE T cl a ρ h1) else Al P (evE T cl b ρ h1)) (evE T cl c ρ h)) : Al P (evE T cl (.ife c a b) ρ h) := by
  simp only [evE]
  refine Al.bind (k.imp fun v h1 ⟨t, e, q⟩ => ?_)
  rw [e]
  cases t <;> exact q
theorem al_evT {P : Bool → PH → Prop} {c : Ex} (k : Al (fun v h1 => ∃ t, pTru h1 v = some t ∧ P t h1) (evE T cl c ρ h)) : Al P (evT T cl c ρ h) := by
  unfold evT
  refine Al.bind (k.imp fun v h1 ⟨t, e, q⟩ => ?_)
  rw [e]
  exact .ret q
theorem al_ss {P : Fl → PH → Prop} {s : Sm} {r : List Sm} (k : Al (fun f h1 => match f with
    | .nx ρ1 => Al P (exSs T cl 0 r ρ1 h1)
    | f => P f h1) (exS T cl 0 s ρ h)) : Al P (exSs T cl 0 (s :: r) ρ h) := by
  simp only [exSs]
  refine Al.bind (k.imp fun f h1 q => ?_)
  cases f
  · exact q
  all_goals exact .ret q
theorem al_asg {P : Fl → PH → Prop} {i : Nat} {e : Ex} (k : Al (fun v h1 => P (.nx (ρ.set i (some v))) h1) (evE T cl e ρ h)) : Al P (exS T cl 0 (.asg (.nm i) e) ρ h) := by
  simp only [exS]
  exact Al.bind (k.imp fun v h1 q => .ret q)
theorem al_ret {P : Fl → PH → Prop} {e : Ex} (k : Al (fun v h1 => P (.rt v) h1) (evE T cl e ρ h)) : Al P (exS T cl 0 (.ret e) ρ h) := by
  simp only [exS]
  exact Al.bind (k.imp fun v h1 q => .ret q)
theorem al_ite {P : Fl → PH → Prop} {c : Ex} {a b : List Sm} (k : Al (fun t h1 => if t then Al P (exSs T cl 0 a ρ h1) else Al P (exSs T cl 0 b ρ h1)) (evT T cl c ρ h)) : Al P (exS T cl 0 (.ite c a b) ρ h) := by
  simp only [exS]
  refine Al.bind (k.imp fun t h1 q => ?_)
  cases t <;> exact q
theorem al_run {P : PV → PH → Prop} {d : Df} {vs : List PV} (hl : vs.length = d.ps.length) (k : Al (fun f h1 => match f with
    | .nx _ => P .non h1
    | .rt v => P v h1
    | _ => False) (exSs T cl 0 d.body (vs.map some ++ List.replicate (d.N.length - vs.length) none) h)) : Al P (runD T 0 cl d vs h) := by
  unfold runD runBody
  rw [if_pos hl]
  refine Al.bind (k.imp fun f h1 q => ?_)
  cases f
  · exact .ret q
  · exact False.elim q
  · exact False.elim q
  · exact .ret q
end
def Dc (l b : Nat) (h : PH) : Prop := ∃ b', h[l]? = some (.dice b') ∧ b ≤ b'
def Gr (l : Nat) (h h' : PH) : Prop := h.length ≤ h'.length ∧ ∀ m, m < h.length → m ≠ l → h'[m]? = h[m]?
theorem Gr.refl (l : Nat) (h : PH) : Gr l h h := ⟨Nat.le_refl _, fun _ _ _ => rfl⟩
theorem Gr.trans {l : Nat} {a b c : PH} (x : Gr l a b) (y : Gr l b c) : Gr l a c := ⟨Nat.le_trans x.1 y.1, fun m hm hn => (y.2 m (Nat.lt_of_lt_of_le hm x.1) hn).trans (x.2 m hm hn)⟩
theorem Gr.app (l : Nat) (h g : PH) : Gr l h (h ++ g) := ⟨by simp, fun m hm _ => List.getElem?_append_left hm⟩
theorem Gr.get {l m : Nat} {h h' : PH} {o : PO} (g : Gr l h h') (e : h[m]? = some o) (hn : m ≠ l) : h'[m]? = some o := by
  rw [g.2 m (List.getElem?_eq_some_iff.mp e).1 hn]
  exact e
theorem Dc.le {l b c : Nat} {h : PH} (d : Dc l b h) (hc : c ≤ b) : Dc l c h := let ⟨b', e, q⟩ := d; ⟨b', e, Nat.le_trans hc q⟩
theorem Dc.lt {l b : Nat} {h : PH} (d : Dc l b h) : l < h.length := let ⟨_, e, _⟩ := d; (List.getElem?_eq_some_iff.mp e).1
theorem Dc.app {l b : Nat} {h : PH} (d : Dc l b h) (g : PH) : Dc l b (h ++ g) := let ⟨b', e, q⟩ := d; ⟨b', by rw [List.getElem?_append_left d.lt]; exact e, q⟩
theorem a_roll {n l b : Nat} {k : Int} {h : PH} (d : Dc l (b + 1) h) (h0 : 0 < k) (h1 : k < 2 ^ 62) : Al (fun v h' => (∃ r : Nat, (r : Int) < k ∧ v = .int r) ∧ Dc l b h' ∧ Gr l h h') (call (n + 1) 12 [.ref l, .int k] h) := by
  obtain ⟨b', e, hb⟩ := d
  obtain ⟨b2, rfl⟩ : ∃ b2, b' = b2 + 1 := ⟨b' - 1, by omega⟩
  rw [e_roll e h0 h1]
  refine .draw fun r hr => .ret ⟨⟨r, by omega, rfl⟩, ⟨b2, ?_, by omega⟩, by simp, fun m hm hn => ?_⟩
  · rw [List.getElem?_set_self (List.getElem?_eq_some_iff.mp e).1]
  · rw [List.getElem?_set_ne (Ne.symm hn)]
theorem Al.noer {α : Type} {P : α → PH → Prop} {r : Res α} (h : Al P r) : Al P r.noer := by
  induction h with
  | ret p => exact .ret p
  | draw q ih => exact .draw ih
theorem atI_lt {xs : List PV} {r : Nat} (hr : r < xs.length) : atI xs r = some xs[r] := by
  exact atI_nat (List.getElem?_eq_getElem hr)
theorem a_one {n l m b : Nat} {xs : List PV} {h : PH} (d : Dc l (b + 1) h) (e : h[m]? = some (.lst xs)) (hne : m ≠ l) (h0 : 0 < xs.length) (h1 : xs.length < 1000) : Al (fun v h' => v ∈ xs ∧ Dc l b h' ∧ Gr l h h') (call (n + 2) 13 [.ref l, .ref m] h) := by
  rw [call_run (d := d__law_one_of) rfl rfl]
  refine al_run rfl (al_ss (al_ret (al_ix (al_var (v := .ref m) rfl (al_call (f := 12) rfl (al_cons (fun _ e => nomatch e) (al_var (v := .ref l) rfl (al_cons (fun _ e => nomatch e) (Al.ok (a := .int xs.length) (h := h) ?_ (al_nil ?_))))))))))
  · show evE T (call (n + 1)) (.bi .len [.var 1]) [some (.ref l), some (.ref m)] h = _
    simp [runD, runBody, exSs, exS, evE, evEs, evT, evIf, asgTa, bindTg, pBin, pCmp, pBi, pTru, ob, pIx, Res.bind, callG, T, isTy, isTys, tyOf, subC, tyB, tyNames, Bi.tyn, e]
  · refine (a_roll (n := n) (k := xs.length) d (by omega) (by omega)).imp fun v h' ⟨⟨r, hr, er⟩, d', g⟩ => ?_
    subst er
    have e' := g.get e hne
    have hr' : r < xs.length := by omega
    refine Al.ok (a := xs[r]) (h := h') ?_ ⟨List.getElem_mem hr', d', g⟩
    simp only [pIx, e', atI_lt hr']
end K04
set_option Elab.async false
set_option linter.all false
set_option maxRecDepth 100000
set_option maxHeartbeats 4000000
namespace K04
open PySem PySem.Spec PyProof.Rows L2 Mn
def okb (x : List Nat) : Bool := x.all (fun c => decide (32 ≤ c) && decide (c < 127)) && decide (x.length ≤ 200)
def TX (v : PV) : Prop := ∃ x, v = .str x ∧ okx x ∧ x.length ≤ 200
theorem okb_ok {x : List Nat} (h : okb x = true) : okx x ∧ x.length ≤ 200 := by
  unfold okb at h
  simp only [Bool.and_eq_true, List.all_eq_true, decide_eq_true_eq] at h
  exact ⟨fun c hc => h.1 c hc, h.2⟩
def pvb : PV → Bool
  | .str x => okb x
  | _ => false
theorem pvb_ok {v : PV} (h : pvb v = true) : TX v := by
  cases v with
  | str x => exact ⟨x, rfl, okb_ok h⟩
  | _ => cases h
theorem all_mem {xs : List PV} {p : PV → Bool} (h : xs.all p = true) {v : PV} (hv : v ∈ xs) : p v = true := List.all_eq_true.mp h v hv
def keys : List PV := [.str [97], .str [97, 99], .str [98, 66], .str [107, 101, 121], .str [108, 32, 49], .str [122]]
theorem a_key {n l b : Nat} {h : PH} (d : Dc l (b + 1) h) : Al (fun v h' => TX v ∧ Dc l b h' ∧ Gr l h h') (call (n + 3) 14 [.ref l] h) := by
  rw [call_run (d := d__law_key) rfl rfl]
  refine al_run rfl (al_ss (al_ret (al_call (f := 13) rfl (al_cons (fun _ e => nomatch e) (al_var (v := .ref l) rfl (al_cons (fun _ e => nomatch e) (Al.ok (a := .ref h.length) (h := h ++ [.lst keys]) ?_ (al_nil ?_))))))))
  · simp only [evE, evEs, Res.bind_ok]
    exact if_pos (show [PV.str [97], .str [97, 99], .str [98, 66], .str [107, 101, 121], .str [108, 32, 49], .str [122]].length ≤ sizeLine from Nat.le_trans (show 6 ≤ 16 by decide) (by decide))
  · refine (a_one (n := n) (xs := keys) (d.app _) get_last (Nat.ne_of_gt d.lt) (by decide) (by decide)).imp fun v h' ⟨hv, d', g⟩ => ?_
    exact ⟨pvb_ok (all_mem (p := pvb) (by decide +kernel) hv), d', (Gr.app l h _).trans g⟩
theorem datum_int {h : PH} {a : Int} : datum h (.int a) = some (.int a) := rfl
theorem pEq_int {h : PH} {a b : Int} : pEq h (.int a) (.int b) = some (decide (a = b)) := by
  have e : pEq h (.int a) (.int b) = some (PyData.eqv (.int a) (.int b)) := by
    unfold pEq
    rw [datum_int, datum_int]
  rw [e]
  unfold PyData.eqv
  by_cases q : a = b <;> simp [q]
def nums : List PV := [.int (2 ^ 63 - 1), .int (1 - 2 ^ 63 - 1), .int (2 ^ 62), .int (10 ^ 18)]
def numb : PV → Bool
  | .int i => decide (i.natAbs.log2 < 1920) && okb (toString i : Str).cps.toList
  | _ => false
theorem num_str {v : PV} {h : PH} (hv : numb v = true) : ∃ w, pBi T .str [v] h = .ok w h ∧ TX w := by
  cases v with
  | int i =>
    unfold numb at hv
    simp only [Bool.and_eq_true, decide_eq_true_eq] at hv
    exact ⟨.str (toString i : Str).cps.toList, by simp only [pBi]; rw [if_pos hv.1], _, rfl, okb_ok hv.2⟩
  | _ => cases hv
theorem small_num : ∀ r : Nat, r < 9 → numb (.int ((r : Int) - 4)) = true := by decide +kernel
theorem nums_ok : nums.all numb = true := by decide +kernel
theorem a_number {n l b : Nat} {h : PH} (d : Dc l (b + 2) h) : Al (fun v h' => TX v ∧ Dc l b h' ∧ Gr l h h') (call (n + 3) 16 [.ref l] h) := by
  rw [call_run (d := d__law_number) rfl rfl]
  refine al_run rfl (al_ss (al_ite (al_evT (al_cmp (al_call (f := 12) rfl (al_cons (fun _ e => nomatch e) (al_var (v := .ref l) rfl (al_cons (fun _ e => nomatch e) (al_con (al_nil ?_))))))))))
  refine (a_roll (n := n + 1) (b := b + 1) d (by decide) (by decide)).imp fun v h1 ⟨⟨r, hr, er⟩, d1, g1⟩ => ?_
  subst er
  refine al_con (Al.ok (a := .bl (decide ((r : Int) = 0))) (h := h1) (by simp only [pCmp, ob, pEq_int]) ⟨decide ((r : Int) = 0), rfl, ?_⟩)
  cases decide ((r : Int) = 0) with
  | true =>
    simp only [if_true]
    refine al_ss (al_ret (al_bi (al_cons (fun _ e => nomatch e) (al_call (f := 13) rfl (al_cons (fun _ e => nomatch e) (al_var (v := .ref l) rfl (al_cons (fun _ e => nomatch e) (Al.ok (a := .ref h1.length) (h := h1 ++ [.lst nums]) ?_ (al_nil ?_)))))))))
    · have q1 : Nat.log2 2 = 1 := by decide
      have q2 : Nat.log2 10 = 3 := by decide
      have q3 : 4 ≤ sizeLine := Nat.le_trans (show 4 ≤ 16 by decide) (by decide)
      simp [evE, evEs, Res.bind, pBin, nums, Builtin.Int.intBits, q1, q2, q3]
    · refine (a_one (n := n) (b := b) (xs := nums) (d1.app _) get_last (Nat.ne_of_gt d1.lt) (by decide) (by decide)).imp fun v h2 ⟨hv, d2, g2⟩ => al_nil ?_
      obtain ⟨w, ew, tw⟩ := num_str (h := h2) (all_mem (p := numb) nums_ok hv)
      exact Al.ok ew ⟨tw, d2, g1.trans ((Gr.app l h1 _).trans g2)⟩
  | false =>
    simp only [Bool.false_eq_true, if_false]
    refine Al.ok (a := .nx [some (.ref l)]) (h := h1) (by simp only [exSs]; rfl) ?_
    refine al_ss (al_ret (al_bi (al_cons (fun _ e => nomatch e) (al_bin (al_call (f := 12) rfl (al_cons (fun _ e => nomatch e) (al_var (v := .ref l) rfl (al_cons (fun _ e => nomatch e) (al_con (al_nil ?_))))))))))
    refine (a_roll (n := n + 1) (b := b) d1 (by decide) (by decide)).imp fun v h2 ⟨⟨r2, hr2, er2⟩, d2, g2⟩ => ?_
    subst er2
    refine al_con (Al.ok (a := .int ((r2 : Int) - 4)) (h := h2) (by simp only [pBin]) (al_nil ?_))
    obtain ⟨w, ew, tw⟩ := num_str (h := h2) (small_num r2 (by omega))
    exact Al.ok ew ⟨tw, d2, g1.trans g2⟩
end K04
set_option Elab.async false
set_option linter.all false
set_option maxRecDepth 100000
set_option maxHeartbeats 4000000
namespace K04
open PySem PySem.Spec PyProof.Rows L2 Mn
def words : List PV := [.str [], .str [120], .str [97, 32, 98], .str [107, 59, 58], .str [55, 32, 56], .str [108, 111, 110, 103, 101, 114, 32, 116, 104, 97, 110, 32, 97, 108, 108, 32, 111, 102, 32, 116, 104, 101, 32, 111, 116, 104, 101, 114, 115]]
theorem a_text {n l b : Nat} {h : PH} (d : Dc l (b + 3) h) : Al (fun v h' => TX v ∧ Dc l b h' ∧ Gr l h h') (call (n + 4) 15 [.ref l] h) := by
  rw [call_run (d := d__law_text) rfl rfl]
  have q3 : 6 ≤ sizeLine := Nat.le_trans (show 6 ≤ 16 by decide) (by decide)
  refine al_run rfl (al_ss (al_asg (Al.ok (a := .ref h.length) (h := h ++ [.lst words]) (by simp [evE, evEs, Res.bind, words, q3]) ?_)))
  have d0 : Dc l (b + 3) (h ++ [.lst words]) := d.app _
  refine al_ss (al_ret (al_ife (al_cmp (al_call (f := 12) rfl (al_cons (fun _ e => nomatch e) (al_var (v := .ref l) rfl (al_cons (fun _ e => nomatch e) (al_con (al_nil ?_)))))))))
  refine (a_roll (n := n + 2) (b := b + 2) d0 (by decide) (by decide)).imp fun v h1 ⟨⟨r, hr, er⟩, d1, g1⟩ => ?_
  subst er
  have w1 : h1[h.length]? = some (.lst words) := g1.get get_last (Nat.ne_of_gt d.lt)
  refine al_con (Al.ok (a := .bl (decide ((r : Int) = 0))) (h := h1) (by simp only [pCmp, ob, pEq_int]) ⟨decide ((r : Int) = 0), rfl, ?_⟩)
  have g0 : Gr l h h1 := (Gr.app l h _).trans g1
  cases decide ((r : Int) = 0) with
  | true =>
    simp only [if_true]
    refine al_call (f := 13) rfl (al_cons (fun _ e => nomatch e) (al_var (v := .ref l) rfl (al_cons (fun _ e => nomatch e) (al_var (v := .ref h.length) rfl (al_nil ?_)))))
    refine (a_one (n := n + 1) (b := b) (xs := words) (d1.le (by omega)) w1 (Nat.ne_of_gt d.lt) (by decide) (by decide)).imp fun v h2 ⟨hv, d2, g2⟩ => ?_
    exact ⟨pvb_ok (all_mem (p := pvb) (by decide +kernel) hv), d2, g0.trans g2⟩
  | false =>
    simp only [Bool.false_eq_true, if_false]
    refine al_call (f := 16) rfl (al_cons (fun _ e => nomatch e) (al_var (v := .ref l) rfl (al_nil ?_)))
    refine (a_number (n := n) (b := b) d1).imp fun v h2 ⟨tv, d2, g2⟩ => ?_
    exact ⟨tv, d2, g0.trans g2⟩
end K04
set_option Elab.async false
set_option linter.all false
set_option maxRecDepth 100000
set_option maxHeartbeats 4000000
namespace K04
open PySem PySem.Spec PyProof.Rows L2 Mn
theorem lc_al {body : PV → PH → Res (Option PV)} {w : Wk} {N l : Nat} {item : Nat → PV} {C : PV → Prop} {h0 : PH} {P : PV → PH → Prop} (hN : N ≤ 1000) (hl : l < h0.length)
    (hi : ∀ i < N, ∀ h', wkAt h' i w = some (some (item i))) (he : ∀ h', wkAt h' N w = some none)
    (hb : ∀ i < N, ∀ b h', Dc l (b + 1) h' → Gr l h0 h' → Al (fun y h2 => (∃ v, y = some v ∧ C v) ∧ Dc l b h2 ∧ Gr l h' h2) (body (item i) h')) :
    ∀ m i b h' acc, i + m = N → h'[h0.length]? = some (.lst acc) → acc.length = i → (∀ v ∈ acc, C v) → Dc l (b + m) h' → Gr l h0 h' →
      (∀ h2 ys, h2[h0.length]? = some (.lst ys) → ys.length = N → (∀ v ∈ ys, C v) → Dc l b h2 → Gr l h0 h2 → P (.ref h0.length) h2) → Al P (lcRun body w h0.length (m + 1) i h') := fun m => by
  induction m with
  | zero =>
    intro i b h' acc hi' ea hl2 hc d g k
    have : i = N := by omega
    subst this
    unfold lcRun
    rw [he]
    exact Al.ok rfl (k h' acc ea hl2 hc d g)
  | succ m ih =>
    intro i b h' acc hi' ea hl2 hc d g k
    unfold lcRun
    rw [hi i (by omega)]
    refine Al.bind ((hb i (by omega) (b + m) h' d g).imp fun y h2 ⟨⟨v, ey, cv⟩, d2, g2⟩ => ?_)
    subst ey
    have e2 : h2[h0.length]? = some (.lst acc) := g2.get ea (Nat.ne_of_gt hl)
    have hs : acc.length < sizeLine := Nat.lt_of_lt_of_le (show acc.length < 1001 by omega) (by decide)
    have hlt : h0.length < h2.length := (List.getElem?_eq_some_iff.mp e2).1
    simp only [e2]
    rw [if_pos hs]
    refine ih (i + 1) b _ (acc ++ [v]) (by omega) ?_ (by simp [hl2]) (fun u hu => ?_) ?_ ?_ k
    · rw [List.getElem?_set_self hlt]
    · rcases List.mem_append.mp hu with hu | hu
      · exact hc u hu
      · rw [List.mem_singleton.mp hu]; exact cv
    · obtain ⟨b', q1, q2⟩ := d2
      exact ⟨b', by rw [List.getElem?_set_ne (Nat.ne_of_gt hl)]; exact q1, q2⟩
    · have g3 := g.trans g2
      exact ⟨by simpa using g3.1, fun m' hm hn => by rw [List.getElem?_set_ne (Nat.ne_of_gt hm)]; exact g3.2 m' hm hn⟩
end K04
set_option Elab.async false
set_option linter.all false
set_option maxRecDepth 100000
set_option maxHeartbeats 4000000
namespace K04
open PySem PySem.Spec PyProof.Rows L2 Mn
section
variable {cl : Nat → List PV → PH → Res PV} {ρ : PEnv} {h : PH}
theorem al_mt {P : PV → PH → Prop} {m : Nat} {b : Bm} {o : Ex} {es : List Ex} (hb : notNone b = true) (k : Al (fun v h1 => ∃ q, Bq.of b (kindAt h1 v) = some q ∧ Al (fun vs h2 => Al P (pBq q v vs h2)) (evEs T cl es ρ h1)) (evE T cl o ρ h)) : Al P (evE T cl (.mt m b o es) ρ h) := by
  rw [evE_mt hb]
  refine Al.bind (k.imp fun v h1 ⟨q, e, z⟩ => ?_)
  rw [e]
  exact Al.bind z
theorem al_lc {P : PV → PH → Prop} {e : Ex} {own : List Nat} {t : Tg} {k : Ik} {its ifs : List Ex} (q : Al (fun vs h1 => ∃ p, wkOf k vs h1 = some p ∧ Al P (lcRun (lcB T cl e own t ifs ρ) p.1 h1.length (p.2 + 1) 0 (h1 ++ [.lst []]))) (evEs T cl its ρ h)) : Al P (evE T cl (.lc e own t k its ifs) ρ h) := by
  rw [evE_lc]
  unfold evI
  rw [Res.bind_assoc]
  refine Al.bind (q.imp fun vs h1 ⟨p, e1, z⟩ => ?_)
  rw [e1]
  exact z
end
def sgn : List Nat := [10, 32, 33, 48, 57, 65, 90, 97, 122, 126, 58, 59, 44, 98, 66]
def Sg (v : PV) : Prop := ∃ c, v = .str [c] ∧ (c = 10 ∨ okc c)
theorem sgn_ok {v : PV} (h : v ∈ sgn.map fun c => PV.str [c]) : Sg v := by
  obtain ⟨c, hc, rfl⟩ := List.mem_map.mp h
  refine ⟨c, rfl, ?_⟩
  show c = 10 ∨ (32 ≤ c ∧ c < 127)
  have : sgn.all (fun c => decide (c = 10 ∨ (32 ≤ c ∧ c < 127))) = true := by decide
  exact of_decide_eq_true (List.all_eq_true.mp this c hc)
theorem all_sg : ∀ {ys : List PV}, (∀ v ∈ ys, Sg v) → ∃ x : List Nat, ys = x.map (fun c => PV.str [c]) ∧ oks x
  | [], _ => ⟨[], rfl, fun c h => by simp at h⟩
  | y :: ys, h => by
    obtain ⟨x, rfl, hx⟩ := all_sg fun v hv => h v (List.mem_cons_of_mem _ hv)
    obtain ⟨c, rfl, hc⟩ := h _ List.mem_cons_self
    exact ⟨c :: x, rfl, fun d hd => by
      rcases List.mem_cons.mp hd with rfl | hd
      · exact hc
      · exact hx d hd⟩
theorem strs_sg : ∀ x : List Nat, strsOf (x.map fun c => PV.str [c]) = some (x.map fun c => [c])
  | [] => rfl
  | c :: x => by simp only [List.map_cons, strsOf, strs_sg x, Option.map_some]
theorem join_sg (x : List Nat) : (Txt.join ⟨([] : List Nat).toArray⟩ ((x.map fun c => [c]).map fun y => (⟨y.toArray⟩ : Str))).cps.toList = x := by
  have e := join_nil_signs ⟨x.toArray⟩
  have e2 : ((x.map fun c => [c]).map fun y => (⟨y.toArray⟩ : Str)) = signs ⟨x.toArray⟩ := by simp [signs]
  rw [e2]
  have e3 : Txt.join (⟨#[]⟩ : Str) (signs ⟨x.toArray⟩) = Str.join ⟨#[]⟩ (signs ⟨x.toArray⟩) := StrLaws.glued_eq_join _ _
  show (Txt.join (⟨#[]⟩ : Str) (signs ⟨x.toArray⟩)).cps.toList = x
  rw [e3, e]
theorem a_signs {n l b most : Nat} {h : PH} (hm : 0 < most) (hm2 : most ≤ 100) (d : Dc l (b + most + 1) h) : Al (fun v h' => (∃ x, v = .str x ∧ oks x ∧ x.length < most) ∧ Dc l b h' ∧ Gr l h h') (call (n + 3) 21 [.ref l, .int most] h) := by
  rw [call_run (d := d__law_signs) rfl rfl]
  refine al_run rfl (al_ss (al_asg (al_con ?_)))
  refine al_ss (al_ret (al_mt rfl (al_con ⟨.sjoin, rfl, al_cons (fun _ e => nomatch e) (al_lc (al_cons (fun _ e => nomatch e) (al_call (f := 12) rfl (al_cons (fun _ e => nomatch e) (al_var (v := .ref l) rfl (al_cons (fun _ e => nomatch e) (al_var (v := .int most) rfl (al_nil ?_))))))))⟩)))
  refine (a_roll (n := n + 1) (b := b + most) d (by omega) (by omega)).imp fun v h1 ⟨⟨r, hr, er⟩, d1, g1⟩ => ?_
  subst er
  have hr' : r < most := by omega
  refine al_nil ⟨_, wk_rng (by omega), ?_⟩
  refine lc_al (N := r) (w := .fix ((List.range r).map fun (i : Nat) => .int i)) (item := fun i => .int i) (C := Sg) (h0 := h1) (l := l) (by omega) d1.lt (fun i hi h' => fix_at (by simp [hi])) (fun h' => by simpa using fix_end (xs := (List.range r).map fun (i : Nat) => PV.int i) (h := h')) (fun i hi b2 h2 d2 g2 => ?_)
    r 0 b (h1 ++ [.lst []]) [] (by omega) get_last rfl (fun v hv => by simp at hv) (d1.app _ |>.le (by omega)) (Gr.app l h1 _) fun h2 ys e2 hy hc d2 g2 => ?_
  · have q3 : 15 ≤ sizeLine := Nat.le_trans (show 15 ≤ 16 by decide) (by decide)
    unfold lcB
    simp only [bindTg]
    refine Al.noer (Al.bind (Al.ok (a := true) (h := h2) (by simp only [evIf]) ?_))
    simp only [if_true]
    refine Al.bind (al_call (f := 13) rfl (al_cons (fun _ e => nomatch e) (al_var (v := .ref l) rfl (al_cons (fun _ e => nomatch e) (Al.ok (a := .ref h2.length) (h := h2 ++ [.lst (sgn.map fun c => PV.str [c])]) (by simp [evE, evEs, Res.bind, pBi, sgn, q3, d__law_signs]) (al_nil ?_))))))
    refine (a_one (n := n) (xs := sgn.map fun c => PV.str [c]) (d2.app _) get_last (Nat.ne_of_gt d2.lt) (by decide) (by decide)).imp fun v h3 ⟨hv, d3, g3⟩ => ?_
    exact Al.ok rfl ⟨⟨v, rfl, sgn_ok hv⟩, d3, (Gr.app l h2 _).trans g3⟩
  · refine al_nil ?_
    obtain ⟨x, rfl, hx⟩ := all_sg hc
    have hxl : x.length = r := by simpa using hy
    refine Al.ok (a := .str x) (h := h2) ?_ ⟨⟨x, rfl, hx, by omega⟩, d2, g1.trans g2⟩
    simp only [pBq, lstAt, e2, strs_sg]
    have hsum : ∀ y : List Nat, ((y.map fun c => [c]).map fun z => z.length).sum = y.length := fun y => by
      induction y with
      | nil => rfl
      | cons c y ih => simp only [List.map_cons, List.sum_cons, ih, List.length_cons, List.length_nil]; omega
    rw [if_pos (by rw [hsum]; simp; omega), join_sg]
end K04
set_option Elab.async false
set_option linter.all false
set_option maxRecDepth 100000
set_option maxHeartbeats 4000000
namespace K04
open PySem PySem.Spec PyProof.Rows L2 Mn
theorem al_forRun {body : PV → PEnv → PH → Res Fl} {w : Wk} {N : Nat} {Inv : Nat → PEnv → PH → Prop} {P : Fl → PH → Prop}
    (hb : ∀ i < N, ∀ ρ h, Inv i ρ h → ∃ x, wkAt h i w = some (some x) ∧ Al (fun f h1 => match f with
      | .nx ρ1 => Inv (i + 1) ρ1 h1
      | .ct ρ1 => Inv (i + 1) ρ1 h1
      | .bk ρ1 => P (.nx ρ1) h1
      | .rt v => P (.rt v) h1) (body x ρ h))
    (he : ∀ ρ h, Inv N ρ h → wkAt h N w = some none ∧ P (.nx ρ) h) :
    ∀ m i ρ h, i + m = N → Inv i ρ h → Al P (forRun body w (m + 1) i ρ h) := fun m => by
  induction m with
  | zero =>
    intro i ρ h hi I
    have : i = N := by omega
    subst this
    obtain ⟨e, p⟩ := he ρ h I
    unfold forRun
    rw [e]
    exact Al.ok rfl p
  | succ m ih =>
    intro i ρ h hi I
    obtain ⟨x, e, q⟩ := hb i (by omega) ρ h I
    unfold forRun
    rw [e]
    refine Al.bind (q.imp fun f h1 z => ?_)
    cases f with
    | nx ρ1 => exact ih (i + 1) ρ1 h1 (by omega) z
    | ct ρ1 => exact ih (i + 1) ρ1 h1 (by omega) z
    | bk ρ1 => exact Al.ok rfl z
    | rt v => exact Al.ok rfl z
section
variable {cl : Nat → List PV → PH → Res PV} {ρ : PEnv} {h : PH}
theorem al_for {t : Tg} {k : Ik} {its : List Ex} {b : List Sm} {w : Wk} {N : Nat} {h1 : PH} {Inv : Nat → PEnv → PH → Prop} {P : Fl → PH → Prop} (hv : evI T cl k its ρ h = .ok (w, N) h1)
    (hb : ∀ i < N, ∀ ρ h, Inv i ρ h → ∃ x, wkAt h i w = some (some x) ∧ Al (fun f h1 => match f with
      | .nx ρ1 => Inv (i + 1) ρ1 h1
      | .ct ρ1 => Inv (i + 1) ρ1 h1
      | .bk ρ1 => P (.nx ρ1) h1
      | .rt v => P (.rt v) h1) (forB T cl 0 t b x ρ h))
    (he : ∀ ρ h, Inv N ρ h → wkAt h N w = some none ∧ P (.nx ρ) h) (h0 : Inv 0 ρ h1) : Al P (exS T cl 0 (.for_ t k its b) ρ h) := by
  rw [exS_for, hv, Res.bind_ok]
  exact al_forRun hb he N 0 ρ h1 (by omega) h0
theorem al_lst {P : PV → PH → Prop} {es : List Ex} (k : Al (fun vs h1 => vs.length ≤ sizeLine ∧ P (.ref h1.length) (h1 ++ [.lst vs])) (evEs T cl es ρ h)) : Al P (evE T cl (.lst es) ρ h) := by
  simp only [evE]
  refine Al.bind (k.imp fun vs h1 ⟨q, z⟩ => ?_)
  rw [if_pos q]
  exact Al.ok rfl z
theorem al_tup {P : PV → PH → Prop} {es : List Ex} (k : Al (fun vs h1 => vs.length ≤ sizeLine ∧ P (.tup vs) h1) (evEs T cl es ρ h)) : Al P (evE T cl (.tup es) ρ h) := by
  simp only [evE]
  refine Al.bind (k.imp fun vs h1 ⟨q, z⟩ => ?_)
  rw [if_pos q]
  exact Al.ok rfl z
theorem al_repl {P : PV → PH → Prop} {o : Ex} {y z : List Nat} (hyz : y ≠ z) (k : Al (fun v h1 => ∃ x : List Nat, v = .str x ∧ x.length + (x.length + 1) * z.length ≤ 16777216 ∧ P (.str (Txt.replace ⟨x.toArray⟩ ⟨y.toArray⟩ ⟨z.toArray⟩).cps.toList) h1) (evE T cl o ρ h)) : Al P (evE T cl (.repl o y z) ρ h) := by
  simp only [evE]
  refine Al.bind (k.imp fun v h1 ⟨x, e, q, p⟩ => ?_)
  subst e
  simp only
  rw [if_pos (by simp [q, hyz])]
  exact Al.ok rfl p
theorem al_nx {P : Fl → PH → Prop} (k : P (.nx ρ) h) : Al P (exSs T cl 0 [] ρ h) := Al.ok (by simp only [exSs]) k
end
theorem swap10L : ∀ x : List Nat, StrLaws.replL [10] [110] x = x.map fun c => if c = 10 then 110 else c
  | [] => StrLaws.replL_nil
  | c :: x => by
    by_cases h : c = 10
    · subst h
      rw [StrLaws.replL_hit (by simp) (by simp)]
      simp [swap10L x]
    · rw [StrLaws.replL_miss (by simpa using h), swap10L x]
      simp [h]
theorem swap10 (x : List Nat) : (Txt.replace ⟨x.toArray⟩ ⟨[10].toArray⟩ ⟨[110].toArray⟩).cps.toList = x.map fun c => if c = 10 then 110 else c := by
  rw [StrLaws.replace_list (by decide)]
  exact swap10L x
theorem swap_ok {x : List Nat} (h : oks x) : okx (x.map fun c => if c = 10 then 110 else c) := fun c hc => by
  obtain ⟨d, hd, rfl⟩ := List.mem_map.mp hc
  have q := h d hd
  unfold okc at q
  show okc _
  unfold okc
  split <;> omega
theorem rep_flat (c : Nat) : ∀ r : Nat, (List.replicate r [c]).flatten = List.replicate r c
  | 0 => rfl
  | r + 1 => by rw [List.replicate_succ, List.flatten_cons, rep_flat c r]; rfl
theorem pEq_ii {h : PH} {a b : Int} : pEq h (.int a) (.int b) = some (decide (a = b)) := pEq_int
theorem text_turn {n : Nat} {l L : Nat} {x : List Nat} {z2 z3 : Option PV} {h : PH} (hx : okx x) (hl : x.length ≤ 200) : forB T (call (n + 5)) 0 (.nm 2) [.asg (.nm 3) (.call 19 [.var 2]), .ite (.or (.cmp .ne (.call 4 [.var 2]) (.var 3)) (.cmp .ne (.call 5 [.var 2]) (.call 18 [.var 3, .con (.int 16)]))) [.ret (.con (.bl false))] []]
    (.str x) [some (.ref l), some (.ref L), z2, z3] h = .ok (.nx [some (.ref l), some (.ref L), some (.str x), some (.int (hsh x))]) (h ++ [.lst (digs (hsh x) 16)]) := by
  have e1 : call (n + 5) 19 [.str x] h = .ok (.int (hsh x)) h := e_lhash (n := n + 4) (h := h)
  have e2 : call (n + 5) 4 [.str x] h = .ok (.int (hsh x)) h := e_hash (n := n + 2) (h := h) hx hl
  have e3 : call (n + 5) 5 [.str x] h = .ok (.int (R 16 (hsh x))) h := e_spot (n := n) (h := h) hx hl
  have e4 : call (n + 5) 18 [.int (hsh x), .int 16] h = .ok (.int (R 16 (hsh x))) (h ++ [.lst (digs (hsh x) 16)]) := e_turned (n := n + 4) (v := hsh x) (b := 16) (h := h) (by decide)
  unfold forB
  simp [runD, runBody, exSs, exS, evE, evEs, evT, evIf, asgTa, bindTg, pBin, pCmp, pBi, pTru, ob, pIx, Res.bind, callG, T, isTy, isTys, tyOf, subC, tyB, tyNames, Bi.tyn, e1, e2, e3, e4, pEq_ii]
theorem a_texts {n l b : Nat} {h : PH} (d : Dc l (b + 18) h) : Al (fun v h' => v = .bl true ∧ Dc l b h' ∧ Gr l h h') (call (n + 6) 22 [.ref l] h) := by
  rw [call_run (d := d__law_texts_right) rfl rfl]
  have q4 : 4 ≤ sizeLine := Nat.le_trans (show 4 ≤ 16 by decide) (by decide)
  refine al_run rfl (al_ss (al_asg (al_lst (al_cons (fun _ e => nomatch e) (al_call (f := 15) rfl (al_cons (fun _ e => nomatch e) (al_var (v := .ref l) rfl (al_nil ?_))))))))
  refine (a_text (n := n + 1) (b := b + 15) d).imp fun v1 h1 ⟨t1, d1, g1⟩ => ?_
  refine al_cons (fun _ e => nomatch e) (al_call (f := 14) rfl (al_cons (fun _ e => nomatch e) (al_var (v := .ref l) rfl (al_nil ?_))))
  refine (a_key (n := n + 2) (b := b + 14) d1).imp fun v2 h2 ⟨t2, d2, g2⟩ => ?_
  refine al_cons (fun _ e => nomatch e) (al_repl (by decide) (al_call (f := 21) rfl (al_cons (fun _ e => nomatch e) (al_var (v := .ref l) rfl (al_cons (fun _ e => nomatch e) (al_con (al_nil ?_)))))))
  refine (a_signs (n := n + 2) (b := b + 1) (most := 12) (by decide) (by decide) d2).imp fun v3 h3 ⟨⟨x, e3, ox, lx⟩, d3, g3⟩ => ⟨x, e3, by simp; omega, ?_⟩
  rw [swap10]
  refine al_cons (fun _ e => nomatch e) (al_bin (al_con (al_call (f := 12) rfl (al_cons (fun _ e => nomatch e) (al_var (v := .ref l) rfl (al_cons (fun _ e => nomatch e) (al_con (al_nil ?_))))))))
  refine (a_roll (n := n + 4) (b := b) d3 (by decide) (by decide)).imp fun v4 h4 ⟨⟨r, hr, er⟩, d4, g4⟩ => ?_
  subst er
  have hr' : r < 201 := by omega
  refine Al.ok (a := .str (List.replicate r 126)) (h := h4) ?_ (al_nil ⟨q4, ?_⟩)
  · have c1 : (-(2 ^ 63) : Int) ≤ r := by omega
    have c2 : (r : Int) < 2 ^ 63 := by omega
    have c3 : [126].length * r ≤ sizeLine := Nat.le_trans (show [126].length * r ≤ 300 by simp; omega) (by decide)
    simp only [pBin, c1, c2, c3, decide_true, Bool.and_self, if_true, Int.toNat_natCast, rep_flat]
  have t3 : TX (.str (x.map fun c => if c = 10 then 110 else c)) := ⟨_, rfl, swap_ok ox, by simp; omega⟩
  have t4 : TX (.str (List.replicate r 126)) := ⟨_, rfl, fun c hc => by rw [List.eq_of_mem_replicate hc]; exact ⟨by decide, by decide⟩, by simp; omega⟩
  generalize (PV.str (x.map fun c => if c = 10 then 110 else c)) = w3 at t3 ⊢
  generalize (PV.str (List.replicate r 126)) = w4 at t4 ⊢
  have gg : Gr l h h4 := g1.trans (g2.trans (g3.trans g4))
  have all4 : ∀ v ∈ [v1, v2, w3, w4], TX v := by
    intro v hv
    simp only [List.mem_cons, List.not_mem_nil, or_false] at hv
    rcases hv with rfl | rfl | rfl | rfl <;> assumption
  generalize hxs : [v1, v2, w3, w4] = xs at all4 ⊢
  have hlen : xs.length = 4 := by rw [← hxs]; rfl
  have hI : evI T (call (n + 5)) .seq [.var 1] [some (.ref l), some (.ref h4.length), none, none] (h4 ++ [.lst xs]) = .ok (.lst h4.length, 4) (h4 ++ [.lst xs]) := by
    unfold evI
    simp [runD, runBody, exSs, exS, evE, evEs, evT, evIf, asgTa, bindTg, pBin, pCmp, pBi, pTru, ob, pIx, Res.bind, callG, T, isTy, isTys, tyOf, subC, tyB, tyNames, Bi.tyn, wkOf, lstAt, hlen]
  refine al_ss (al_for (ρ := [some (.ref l), some (.ref h4.length), none, none]) (N := 4) (w := .lst h4.length) (h1 := h4 ++ [PO.lst xs]) (Inv := fun i ρ h' => (∃ z2 z3, ρ = [some (.ref l), some (.ref h4.length), z2, z3]) ∧ h'[h4.length]? = some (.lst xs) ∧ Dc l b h' ∧ Gr l h h') hI ?_ ?_ ?_)
  · rintro i hi ρ h' ⟨⟨z2, z3, rfl⟩, e', d', g'⟩
    have hi' : i < xs.length := by omega
    obtain ⟨x, ex, ox, lx⟩ := all4 xs[i] (List.getElem_mem hi')
    refine ⟨.str x, by simp only [wkAt, lstAt, e', Option.map_some, List.getElem?_eq_getElem hi', ex], ?_⟩
    refine Al.ok (text_turn (n := n) (l := l) (L := h4.length) (x := x) (z2 := z2) (z3 := z3) (h := h') ox lx) ?_
    refine ⟨⟨_, _, rfl⟩, ?_, d'.app _, g'.trans (Gr.app l h' _)⟩
    rw [List.getElem?_append_left (List.getElem?_eq_some_iff.mp e').1]
    exact e'
  · rintro ρ h' ⟨⟨z2, z3, rfl⟩, e', d', g'⟩
    refine ⟨by simp only [wkAt, lstAt, e', Option.map_some]; rw [List.getElem?_eq_none (by omega)], ?_⟩
    refine al_ss (al_ret (al_con ?_))
    exact ⟨rfl, d', g'⟩
  · exact ⟨⟨_, _, rfl⟩, get_last, d4.app _, gg.trans (Gr.app l h4 _)⟩
end K04
set_option Elab.async false
set_option linter.all false
set_option maxRecDepth 100000
set_option maxHeartbeats 4000000
namespace K04
open PySem PySem.Spec PyProof.Rows L2 Mn
section
variable {cl : Nat → List PV → PH → Res PV} {ρ : PEnv} {h : PH}
theorem al_asgt {P : Fl → PH → Prop} {is : List Nat} {e : Ex} (k : Al (fun v h1 => ∃ ρ1, bindTg (.tp is) v ρ = some ρ1 ∧ P (.nx ρ1) h1) (evE T cl e ρ h)) : Al P (exS T cl 0 (.asg (.tp is) e) ρ h) := by
  simp only [exS, asgTa]
  refine Al.bind (k.imp fun v h1 ⟨ρ1, e1, q⟩ => ?_)
  rw [e1]
  exact Al.ok rfl q
theorem al_no {P : Fl → PH → Prop} {c : Ex} {a r : List Sm} {h1 : PH} (e : evE T cl c ρ h = .ok (.bl false) h1) (k : Al P (exSs T cl 0 r ρ h1)) : Al P (exSs T cl 0 (.ite c a [] :: r) ρ h) :=
  al_ss (al_ite (al_evT (Al.ok e ⟨false, rfl, by simpa using al_nx k⟩)))
theorem al_yes {P : Fl → PH → Prop} {c : Ex} {a r : List Sm} {h1 : PH} (e : evE T cl c ρ h = .ok (.bl true) h1) (k : Al (fun f h2 => match f with
    | .nx ρ1 => Al P (exSs T cl 0 r ρ1 h2)
    | f => P f h2) (exSs T cl 0 a ρ h1)) : Al P (exSs T cl 0 (.ite c a [] :: r) ρ h) :=
  al_ss (al_ite (al_evT (Al.ok e ⟨true, rfl, by rw [if_pos rfl]; exact k⟩)))
end
theorem pEq_bb {h : PH} {a b : Bool} : pEq h (.bl a) (.bl b) = some (a == b) := by
  show some (PyData.eqv (.bool a) (.bool b)) = _
  unfold PyData.eqv
  rfl
theorem datum_str {h : PH} {x : List Nat} (hx : PyData.strOk ⟨x.toArray⟩ = true) : datum h (.str x) = some (.str ⟨x.toArray⟩) := by
  unfold datum
  simp only [toD]
  rw [if_pos]
  unfold SeqAt.shaped
  simp [PyData.canLay0, hx, PyData.depth]
theorem pEq_ss {h : PH} {x y : List Nat} (hx : PyData.strOk ⟨x.toArray⟩ = true) (hy : PyData.strOk ⟨y.toArray⟩ = true) : pEq h (.str x) (.str y) = some (decide (x = y)) := by
  unfold pEq
  rw [datum_str hx, datum_str hy]
  simp only [PyData.eqv]
  congr 1
  by_cases e : x = y
  · subst e; simp
  · simp [e]
theorem deref_ints {h : PH} {m : Nat} {a b c : Int} (e : h[m]? = some (.lst [.int a, .int b, .int c])) : datum h (.ref m) = some (.list [.int a, .int b, .int c]) := by
  unfold datum
  simp only [toD, deref, e, toDs, Option.map_some]
  rfl
theorem pEq_l3 {h : PH} {m k : Nat} {a b c : Int} (e : h[m]? = some (.lst [.int a, .int b, .int c])) (e2 : h[k]? = some (.lst [.int a, .int b, .int c])) : pEq h (.ref m) (.ref k) = some true := by
  unfold pEq
  rw [deref_ints e, deref_ints e2]
  simp [PyData.eqv, PyData.eqvAll]
theorem chn_le {cl : Nat → List PV → PH → Res PV} {ρ : PEnv} {h : PH} {i j k : Nat} {a b c : Int} (ha : ρ[i]? = some (some (.int a))) (hb : ρ[j]? = some (some (.int b))) (hc : ρ[k]? = some (some (.int c))) : evE T cl (.chn .le .le (.var i) (.var j) (.var k)) ρ h = .ok (.bl (decide (a ≤ b ∧ b ≤ c))) h := by
  simp only [evE, ha, hb, hc, Res.bind_ok, pCmp]
  by_cases q : a ≤ b
  · simp [q]
  · simp [q]
theorem pEq_refl_int {h : PH} {a b : Int} (e : a = b) : pEq h (.int a) (.int b) = some true := by rw [pEq_int, e]; simp
theorem bits_one {n l b k : Nat} {z4 z5 z6 z7 z8 z9 z10 : Option PV} {h : PH} (hb : b ≤ 64) (hk : k < 2 ^ b) :
    evE T (call (n + 5)) (.or (.cmp .ne (.call 8 [.var 2, .var 1]) (.var 3)) (.cmp .ne (.call 8 [.var 3, .var 1]) (.var 2))) [some (.ref l), some (.int b), some (.int k), some (.int (R b k)), z4, z5, z6, z7, z8, z9, z10] h = .ok (.bl false) h := by
  have e1 : call (n + 5) 8 [.int k, .int b] h = .ok (.int (R b k)) h := e_rev (n := n + 1) (v := k) (b := b) (h := h) hb hk
  have e2 : call (n + 5) 8 [.int (R b k), .int b] h = .ok (.int (R b (R b k))) h := e_rev (n := n + 1) (v := R b k) (b := b) (h := h) hb (R_lt b k)
  rw [R_R, Nat.mod_eq_of_lt hk] at e2
  simp [runD, runBody, exSs, exS, evE, evEs, evT, evIf, asgTa, bindTg, pBin, pCmp, pBi, pTru, ob, pIx, Res.bind, callG, T, isTy, isTys, tyOf, subC, tyB, tyNames, Bi.tyn, e1, e2, pEq_ii]
theorem bits_two' {cl : Nat → List PV → PH → Res PV} {l : Nat} {b k u r w fi la m : Int} {z2 z3 z5 z6 : Option PV} {h h1 : PH} (e1 : cl 17 [.int (16 - b)] h = .ok (.int w) h) (e2 : cl 18 [.int k, .int b] h = .ok (.int r) h1) (e3 : cl 17 [.int (16 - b)] h1 = .ok (.int w) h1) (hb : big r w = true) (c1 : la - fi + 1 = w) (c2 : fi = r * w) :
    evE T cl (.or (.cmp .ne (.bin .add (.bin .sub (.var 10) (.var 9)) (.con (.int 1))) (.call 17 [.bin .sub (.con (.int 16)) (.var 1)])) (.cmp .ne (.var 9) (.bin .mul (.call 18 [.var 7, .var 1]) (.call 17 [.bin .sub (.con (.int 16)) (.var 1)])))) [some (.ref l), some (.int b), z2, z3, some (.int m), z5, z6, some (.int k), some (.int u), some (.int fi), some (.int la)] h = .ok (.bl false) h1 := by
  subst c2
  simp [runD, runBody, exSs, exS, evE, evEs, evT, evIf, asgTa, bindTg, pBin, pCmp, pBi, pTru, ob, pIx, Res.bind, callG, T, isTy, isTys, tyOf, subC, tyB, tyNames, Bi.tyn, e1, e2, e3, hb, c1, pEq_ii]
theorem bits_three {cl : Nat → List PV → PH → Res PV} {l : Nat} {b k u m fi la s : Int} {z2 z3 z6 : Option PV} {h : PH} (hm : 0 < m) (e : (fi ≤ s ∧ s ≤ la) ↔ u % m = k) :
    evE T cl (.cmp .ne (.chn .le .le (.var 9) (.var 5) (.var 10)) (.cmp .eq (.bin .mod (.bi .int [.var 8]) (.var 4)) (.var 7))) [some (.ref l), some (.int b), z2, z3, some (.int m), some (.int s), z6, some (.int k), some (.int u), some (.int fi), some (.int la)] h = .ok (.bl false) h := by
  have q := chn_le (cl := cl) (ρ := [some (.ref l), some (.int b), z2, z3, some (.int m), some (.int s), z6, some (.int k), some (.int u), some (.int fi), some (.int la)]) (h := h) (i := 9) (j := 5) (k := 10) rfl rfl rfl
  have q2 : evE T cl (.cmp .eq (.bin .mod (.bi .int [.var 8]) (.var 4)) (.var 7)) [some (.ref l), some (.int b), z2, z3, some (.int m), some (.int s), z6, some (.int k), some (.int u), some (.int fi), some (.int la)] h = .ok (.bl (decide (u % m = k))) h := by
    simp [runD, runBody, exSs, exS, evE, evEs, evT, evIf, asgTa, bindTg, pBin, pCmp, pBi, pTru, ob, pIx, Res.bind, callG, T, isTy, isTys, tyOf, subC, tyB, tyNames, Bi.tyn, hm, pEq_ii]
  have e2 : decide (fi ≤ s ∧ s ≤ la) = decide (u % m = k) := decide_eq_decide.mpr e
  unfold evE
  rw [q, Res.bind_ok, q2, Res.bind_ok, e2]
  simp only [pCmp, pEq_bb, ob, Option.map_some, beq_self_eq_true, Bool.not_true]
theorem nx_int {r : Nat} {k : Nat} (h : (r : Int) < ((k : Nat) : Int)) : r < k := by omega
theorem bits_four {cl : Nat → List PV → PH → Res PV} {l H : Nat} {b k u m fi la f0 l0 f1 l1 : Int} {z2 z3 z5 : Option PV} {h : PH} (e : h[H]? = some (.lst [.tup [.int f0, .int l0], .tup [.int f1, .int l1]])) (c0 : f0 = fi) (c1 : l0 + 1 = f1) (c2 : l1 = la) :
    ∃ g, evE T cl (.cmp .eq (.lst [.ix (.ix (.var 6) (.con (.int 0))) (.con (.int 0)), .bin .add (.ix (.ix (.var 6) (.con (.int 0))) (.con (.int 1))) (.con (.int 1)), .ix (.ix (.var 6) (.con (.int 1))) (.con (.int 1))]) (.lst [.var 9, .ix (.ix (.var 6) (.con (.int 1))) (.con (.int 0)), .var 10]))
      [some (.ref l), some (.int b), z2, z3, some (.int m), z5, some (.ref H), some (.int k), some (.int u), some (.int fi), some (.int la)] h = .ok (.bl true) (h ++ g) := by
  subst c0 c1 c2
  have q3 : 3 ≤ sizeLine := Nat.le_trans (show 3 ≤ 16 by decide) (by decide)
  have e' : (h ++ [PO.lst [.int f0, .int (l0 + 1), .int l1]])[H]? = some (.lst [.tup [.int f0, .int l0], .tup [.int (l0 + 1 - 1 - 0), .int l1]]) ∨ True := .inr trivial
  have hH : H < h.length := (List.getElem?_eq_some_iff.mp e).1
  have e2 : ∀ o : PO, (h ++ [o])[H]? = some (.lst [.tup [.int f0, .int l0], .tup [.int (l0 + 1), .int l1]]) := fun o => by rw [List.getElem?_append_left hH]; exact e
  refine ⟨[.lst [.int f0, .int (l0 + 1), .int l1], .lst [.int f0, .int (l0 + 1), .int l1]], ?_⟩
  have p := pEq_l3 (h := h ++ [.lst [.int f0, .int (l0 + 1), .int l1], .lst [.int f0, .int (l0 + 1), .int l1]]) (m := h.length) (k := h.length + 1) (a := f0) (b := l0 + 1) (c := l1) (by simp) (by simp)
  simp [evE, evEs, Res.bind, pIx, e, e2, atI, ixN, q3, pBin, pCmp, ob, p]
end K04
set_option Elab.async false
set_option linter.all false
set_option maxRecDepth 100000
set_option maxHeartbeats 4000000
namespace K04
open PySem PySem.Spec PyProof.Rows L2 Mn
theorem min40 (r : Nat) : ∃ k : Nat, (if (40 : Int) < (r : Int) then (40 : Int) else (r : Int)) = (k : Int) ∧ k ≤ 40 ∧ k ≤ r := by
  by_cases q : (40 : Int) < (r : Int)
  · exact ⟨40, by rw [if_pos q]; rfl, by omega, by omega⟩
  · exact ⟨r, by rw [if_neg q], by omega, by omega⟩
theorem pow_nat (k : Nat) : ((2 ^ k : Nat) : Int) = 2 ^ k := by push_cast; rfl
theorem pow_lt62 {k : Nat} (h : k ≤ 40) : ((2 ^ k : Nat) : Int) < 2 ^ 62 := by
  have : 2 ^ k ≤ 2 ^ 40 := Nat.pow_le_pow_right (by decide) h
  have h2 : (2 : Nat) ^ 40 < 2 ^ 62 := by decide
  exact_mod_cast Nat.lt_of_le_of_lt this h2
theorem bits_tail {cl : Nat → List PV → PH → Res PV} {l b : Nat} {c k u r w m s F la : Int} {z2 z3 : Option PV} {h6 : PH} {dg dg2 dg3 : List PV} (d6 : Dc l b h6)
    (eb : cl 9 [.int k, .int c] h6 = .ok (.tup [.int F, .int la]) h6) (e17 : ∀ hh, cl 17 [.int (16 - c)] hh = .ok (.int w) hh) (e18 : cl 18 [.int k, .int c] h6 = .ok (.int r) (h6 ++ [.lst dg]))
    (e16 : ∀ hh, cl 18 [.int u, .int 16] hh = .ok (.int s) (hh ++ [.lst dg2])) (hb : big r w = true) (c1 : la - F + 1 = w) (c2 : F = r * w) (hm : 0 < m) (hsp : (F ≤ s ∧ s ≤ la) ↔ u % m = k)
    (h16 : c = 16 → F = la ∧ la = r ∧ ∀ hh, cl 18 [.int k, .int 16] hh = .ok (.int r) (hh ++ [.lst dg3]))
    (hne : c ≠ 16 → ∃ l0 f1 : Int, l0 + 1 = f1 ∧ ∀ hh, cl 9 [.int k, .int (c + 1)] hh = .ok (.tup [.int F, .int l0]) hh ∧ cl 9 [.int (k + m), .int (c + 1)] hh = .ok (.tup [.int f1, .int la]) hh) :
    Al (fun f h' => f = .rt (.bl true) ∧ Dc l b h' ∧ Gr l h6 h') (exSs T cl 0 (b__law_bits_right.drop 7) [some (.ref l), some (.int c), z2, z3, some (.int m), none, none, some (.int k), some (.int u), none, none] h6) := by
  unfold b__law_bits_right
  refine al_ss (al_asgt (Al.ok (a := .tup [.int F, .int la]) (h := h6) (by simp [runD, runBody, exSs, exS, evE, evEs, evT, evIf, asgTa, bindTg, pBin, pCmp, pBi, pTru, ob, pIx, Res.bind, callG, T, isTy, isTys, tyOf, subC, tyB, tyNames, Bi.tyn, eb]) ⟨_, rfl, ?_⟩))
  refine al_no (bits_two' (l := l) (b := c) (k := k) (u := u) (r := r) (w := w) (fi := F) (la := la) (m := m) (e17 h6) e18 (e17 _) hb c1 c2) ?_
  refine al_ss (al_asg (Al.ok (a := .int s) (h := h6 ++ [.lst dg] ++ [.lst dg2]) (by simp [runD, runBody, exSs, exS, evE, evEs, evT, evIf, asgTa, bindTg, pBin, pCmp, pBi, pTru, ob, pIx, Res.bind, callG, T, isTy, isTys, tyOf, subC, tyB, tyNames, Bi.tyn, e16]) ?_))
  have d8 : Dc l b (h6 ++ [.lst dg] ++ [.lst dg2]) := (d6.app _).app _
  have g8 : Gr l h6 (h6 ++ [.lst dg] ++ [.lst dg2]) := (Gr.app l h6 _).trans (Gr.app l _ _)
  generalize h6 ++ [.lst dg] ++ [.lst dg2] = h8 at d8 g8 ⊢
  refine al_no (bits_three (l := l) (b := c) (k := k) (u := u) (fi := F) (la := la) (s := s) hm hsp) ?_
  by_cases q : c = 16
  · obtain ⟨p1, p2, p3⟩ := h16 q
    subst q
    refine al_yes (h1 := h8) (by simp [runD, runBody, exSs, exS, evE, evEs, evT, evIf, asgTa, bindTg, pBin, pCmp, pBi, pTru, ob, pIx, Res.bind, callG, T, isTy, isTys, tyOf, subC, tyB, tyNames, Bi.tyn, pEq_ii]) (al_ss (al_ret (Al.ok (a := .bl true) (h := h8 ++ [.lst dg3]) ?_ ⟨rfl, d8.app _, g8.trans (Gr.app l h8 _)⟩)))
    subst p1
    subst p2
    simp [runD, runBody, exSs, exS, evE, evEs, evT, evIf, asgTa, bindTg, pBin, pCmp, pBi, pTru, ob, pIx, Res.bind, callG, T, isTy, isTys, tyOf, subC, tyB, tyNames, Bi.tyn, p3, pEq_ii]
  · obtain ⟨l0, f1, p1, p2⟩ := hne q
    refine al_no (h1 := h8) (by simp [runD, runBody, exSs, exS, evE, evEs, evT, evIf, asgTa, bindTg, pBin, pCmp, pBi, pTru, ob, pIx, Res.bind, callG, T, isTy, isTys, tyOf, subC, tyB, tyNames, Bi.tyn, pEq_ii, q]) ?_
    have q2 : 2 ≤ sizeLine := Nat.le_trans (show 2 ≤ 16 by decide) (by decide)
    refine al_ss (al_asg (Al.ok (a := .ref h8.length) (h := h8 ++ [.lst [.tup [.int F, .int l0], .tup [.int f1, .int la]]]) (by simp [runD, runBody, exSs, exS, evE, evEs, evT, evIf, asgTa, bindTg, pBin, pCmp, pBi, pTru, ob, pIx, Res.bind, callG, T, isTy, isTys, tyOf, subC, tyB, tyNames, Bi.tyn, (p2 h8).1, (p2 h8).2, q2]) ?_))
    obtain ⟨g, e⟩ := bits_four (cl := cl) (l := l) (H := h8.length) (b := c) (k := k) (u := u) (m := m) (fi := F) (la := la) (f0 := F) (l0 := l0) (f1 := f1) (l1 := la) (z2 := z2) (z3 := z3) (z5 := some (.int s)) (h := h8 ++ [.lst [.tup [.int F, .int l0], .tup [.int f1, .int la]]]) (by simp) rfl p1 rfl
    refine al_ss (al_ret (Al.ok e ⟨rfl, (d8.app _).app _, (g8.trans (Gr.app l h8 _)).trans (Gr.app l _ _)⟩))
end K04
set_option Elab.async false
set_option linter.all false
set_option maxRecDepth 100000
set_option maxHeartbeats 4000000
namespace K04
open PySem PySem.Spec PyProof.Rows L2 Mn
theorem pw_half {c : Nat} (h : c < 16) : 2 ^ (16 - c) = 2 * 2 ^ (16 - (c + 1)) := by
  have e : 16 - c = 16 - (c + 1) + 1 := by omega
  rw [e, Nat.pow_succ']
theorem halves {n c k : Nat} {hh : PH} (hc : c < 16) (hk : k < 2 ^ c) :
    call (n + 5) 9 [.int k, .int ((c : Int) + 1)] hh = .ok (.tup [.int (R c k * 2 ^ (16 - c) : Nat), .int (R c k * 2 ^ (16 - c) + 2 ^ (16 - (c + 1)) - 1 : Nat)]) hh ∧
    call (n + 5) 9 [.int ((k : Int) + ((2 ^ c : Nat) : Int)), .int ((c : Int) + 1)] hh = .ok (.tup [.int (R c k * 2 ^ (16 - c) + 2 ^ (16 - (c + 1)) : Nat), .int ((R c k * 2 ^ (16 - c) + 2 ^ (16 - c) - 1 : Nat))]) hh := by
  have x1 := e_bucket (n := n) (k := k) (b := c + 1) (h := hh) (by omega) (by rw [Nat.pow_succ]; omega)
  have x2 := e_bucket (n := n) (k := k + 2 ^ c) (b := c + 1) (h := hh) (by omega) (by rw [Nat.pow_succ]; omega)
  rw [R_half0 hk] at x1
  rw [R_half1 hk] at x2
  rw [pw_half hc]
  have i1 : ((c + 1 : Nat) : Int) = (c : Int) + 1 := by omega
  have i2 : ((k + 2 ^ c : Nat) : Int) = (k : Int) + ((2 ^ c : Nat) : Int) := by omega
  rw [i1] at x1 x2
  rw [i2] at x2
  revert x1 x2
  generalize 2 ^ (16 - (c + 1)) = w2
  generalize R c k = r
  generalize ((2 ^ c : Nat) : Int) = m
  intro x1 x2
  have f1 : r * 2 * w2 = r * (2 * w2) := Nat.mul_assoc ..
  have f2 : (r * 2 + 1) * w2 = r * (2 * w2) + w2 := by rw [Nat.add_mul, f1, Nat.one_mul]
  rw [f1] at x1
  rw [f2] at x2
  have f4 : r * (2 * w2) + w2 + w2 - 1 = r * (2 * w2) + 2 * w2 - 1 := by omega
  rw [f4] at x2
  exact ⟨x1, x2⟩
theorem a_bits {n l b : Nat} {h : PH} (d : Dc l (b + 5) h) : Al (fun v h' => v = .bl true ∧ Dc l b h' ∧ Gr l h h') (call (n + 6) 23 [.ref l] h) := by
  rw [call_run (d := d__law_bits_right) rfl rfl]
  refine al_run rfl ?_
  show Al _ (exSs T (call (n + 5)) 0 b__law_bits_right [some (.ref l), none, none, none, none, none, none, none, none, none, none] h)
  unfold b__law_bits_right
  repeat (first | (with_reducible show Al _ (evEs _ _ (_ :: _) _ _)); refine al_cons (fun _ e => nomatch e) ?_ | (with_reducible show Al _ (evEs _ _ [] _ _)); refine al_nil ?_ | (with_reducible show Al _ (evE _ _ (.var _) _ _)); refine al_var rfl ?_ | (with_reducible show Al _ (evE _ _ (.con _) _ _)); refine al_con ?_ | (with_reducible show Al _ (evE _ _ (.call _ _) _ _)); refine al_call rfl ?_ | (with_reducible show Al _ (evE _ _ (.bin _ _ _) _ _)); refine al_bin ?_ | (with_reducible show Al _ (evE _ _ (.cmp _ _ _) _ _)); refine al_cmp ?_ | (with_reducible show Al _ (evE _ _ (.bi _ _) _ _)); refine al_bi ?_ | (with_reducible show Al _ (evE _ _ (.tup _) _ _)); refine al_tup ?_ | (with_reducible show Al _ (evE _ _ (.lst _) _ _)); refine al_lst ?_ | (with_reducible show Al _ (exS _ _ _ (.ret _) _ _)); refine al_ret ?_ | (with_reducible show Al _ (exS _ _ _ (.asg (.nm _) _) _ _)); refine al_asg ?_ | (with_reducible show Al _ (exS _ _ _ (.asg (.tp _) _) _ _)); refine al_asgt ?_ | (with_reducible show Al _ (exSs _ _ _ (.asg _ _ :: _) _ _)); refine al_ss ?_ | (with_reducible show Al _ (exSs _ _ _ (.ret _ :: _) _ _)); refine al_ss ?_)
  refine (a_roll (n := n + 4) (b := b + 4) d (by decide) (by decide)).imp fun v h1 ⟨⟨r1, hr1, er⟩, d1, g1⟩ => ?_
  subst er
  have hr1' : r1 < 65 := by omega
  obtain ⟨k, hk, k40, kr⟩ := min40 r1
  repeat (first | (with_reducible show Al _ (evEs _ _ (_ :: _) _ _)); refine al_cons (fun _ e => nomatch e) ?_ | (with_reducible show Al _ (evEs _ _ [] _ _)); refine al_nil ?_ | (with_reducible show Al _ (evE _ _ (.var _) _ _)); refine al_var rfl ?_ | (with_reducible show Al _ (evE _ _ (.con _) _ _)); refine al_con ?_ | (with_reducible show Al _ (evE _ _ (.call _ _) _ _)); refine al_call rfl ?_ | (with_reducible show Al _ (evE _ _ (.bin _ _ _) _ _)); refine al_bin ?_ | (with_reducible show Al _ (evE _ _ (.cmp _ _ _) _ _)); refine al_cmp ?_ | (with_reducible show Al _ (evE _ _ (.bi _ _) _ _)); refine al_bi ?_ | (with_reducible show Al _ (evE _ _ (.tup _) _ _)); refine al_tup ?_ | (with_reducible show Al _ (evE _ _ (.lst _) _ _)); refine al_lst ?_ | (with_reducible show Al _ (exS _ _ _ (.ret _) _ _)); refine al_ret ?_ | (with_reducible show Al _ (exS _ _ _ (.asg (.nm _) _) _ _)); refine al_asg ?_ | (with_reducible show Al _ (exS _ _ _ (.asg (.tp _) _) _ _)); refine al_asgt ?_ | (with_reducible show Al _ (exSs _ _ _ (.asg _ _ :: _) _ _)); refine al_ss ?_ | (with_reducible show Al _ (exSs _ _ _ (.ret _ :: _) _ _)); refine al_ss ?_)
  refine Al.ok (a := .int k) (h := h1) (by simp only [pBi, hk]) ?_
  repeat (first | (with_reducible show Al _ (evEs _ _ (_ :: _) _ _)); refine al_cons (fun _ e => nomatch e) ?_ | (with_reducible show Al _ (evEs _ _ [] _ _)); refine al_nil ?_ | (with_reducible show Al _ (evE _ _ (.var _) _ _)); refine al_var rfl ?_ | (with_reducible show Al _ (evE _ _ (.con _) _ _)); refine al_con ?_ | (with_reducible show Al _ (evE _ _ (.call _ _) _ _)); refine al_call rfl ?_ | (with_reducible show Al _ (evE _ _ (.bin _ _ _) _ _)); refine al_bin ?_ | (with_reducible show Al _ (evE _ _ (.cmp _ _ _) _ _)); refine al_cmp ?_ | (with_reducible show Al _ (evE _ _ (.bi _ _) _ _)); refine al_bi ?_ | (with_reducible show Al _ (evE _ _ (.tup _) _ _)); refine al_tup ?_ | (with_reducible show Al _ (evE _ _ (.lst _) _ _)); refine al_lst ?_ | (with_reducible show Al _ (exS _ _ _ (.ret _) _ _)); refine al_ret ?_ | (with_reducible show Al _ (exS _ _ _ (.asg (.nm _) _) _ _)); refine al_asg ?_ | (with_reducible show Al _ (exS _ _ _ (.asg (.tp _) _) _ _)); refine al_asgt ?_ | (with_reducible show Al _ (exSs _ _ _ (.asg _ _ :: _) _ _)); refine al_ss ?_ | (with_reducible show Al _ (exSs _ _ _ (.ret _ :: _) _ _)); refine al_ss ?_)
  refine Al.ok (e_power (n := n + 4) (b := k) (h := h1) (by omega)) ?_
  repeat (first | (with_reducible show Al _ (evEs _ _ (_ :: _) _ _)); refine al_cons (fun _ e => nomatch e) ?_ | (with_reducible show Al _ (evEs _ _ [] _ _)); refine al_nil ?_ | (with_reducible show Al _ (evE _ _ (.var _) _ _)); refine al_var rfl ?_ | (with_reducible show Al _ (evE _ _ (.con _) _ _)); refine al_con ?_ | (with_reducible show Al _ (evE _ _ (.call _ _) _ _)); refine al_call rfl ?_ | (with_reducible show Al _ (evE _ _ (.bin _ _ _) _ _)); refine al_bin ?_ | (with_reducible show Al _ (evE _ _ (.cmp _ _ _) _ _)); refine al_cmp ?_ | (with_reducible show Al _ (evE _ _ (.bi _ _) _ _)); refine al_bi ?_ | (with_reducible show Al _ (evE _ _ (.tup _) _ _)); refine al_tup ?_ | (with_reducible show Al _ (evE _ _ (.lst _) _ _)); refine al_lst ?_ | (with_reducible show Al _ (exS _ _ _ (.ret _) _ _)); refine al_ret ?_ | (with_reducible show Al _ (exS _ _ _ (.asg (.nm _) _) _ _)); refine al_asg ?_ | (with_reducible show Al _ (exS _ _ _ (.asg (.tp _) _) _ _)); refine al_asgt ?_ | (with_reducible show Al _ (exSs _ _ _ (.asg _ _ :: _) _ _)); refine al_ss ?_ | (with_reducible show Al _ (exSs _ _ _ (.ret _ :: _) _ _)); refine al_ss ?_)
  refine (a_roll (n := n + 4) (b := b + 3) (k := ((2 ^ k : Nat) : Int)) d1 (by rw [pow_nat]; exact Int.pow_pos (by decide)) (pow_lt62 k40)).imp fun v h2 ⟨⟨r2, hr2, er⟩, d2, g2⟩ => ?_
  subst er
  have hr2' : r2 < 2 ^ r1 := Nat.lt_of_lt_of_le (nx_int hr2) (Nat.pow_le_pow_right (by decide) kr)
  have t1 : call (n + 5) 18 [.int r2, .int r1] h2 = .ok (.int (R r1 r2)) (h2 ++ [.lst (digs r2 r1)]) := e_turned (n := n + 4) (v := r2) (b := r1) (h := h2) (by omega)
  repeat (first | (with_reducible show Al _ (evEs _ _ (_ :: _) _ _)); refine al_cons (fun _ e => nomatch e) ?_ | (with_reducible show Al _ (evEs _ _ [] _ _)); refine al_nil ?_ | (with_reducible show Al _ (evE _ _ (.var _) _ _)); refine al_var rfl ?_ | (with_reducible show Al _ (evE _ _ (.con _) _ _)); refine al_con ?_ | (with_reducible show Al _ (evE _ _ (.call _ _) _ _)); refine al_call rfl ?_ | (with_reducible show Al _ (evE _ _ (.bin _ _ _) _ _)); refine al_bin ?_ | (with_reducible show Al _ (evE _ _ (.cmp _ _ _) _ _)); refine al_cmp ?_ | (with_reducible show Al _ (evE _ _ (.bi _ _) _ _)); refine al_bi ?_ | (with_reducible show Al _ (evE _ _ (.tup _) _ _)); refine al_tup ?_ | (with_reducible show Al _ (evE _ _ (.lst _) _ _)); refine al_lst ?_ | (with_reducible show Al _ (exS _ _ _ (.ret _) _ _)); refine al_ret ?_ | (with_reducible show Al _ (exS _ _ _ (.asg (.nm _) _) _ _)); refine al_asg ?_ | (with_reducible show Al _ (exS _ _ _ (.asg (.tp _) _) _ _)); refine al_asgt ?_ | (with_reducible show Al _ (exSs _ _ _ (.asg _ _ :: _) _ _)); refine al_ss ?_ | (with_reducible show Al _ (exSs _ _ _ (.ret _ :: _) _ _)); refine al_ss ?_)
  refine Al.ok t1 ?_
  refine al_no (bits_one (n := n) (l := l) (b := r1) (k := r2) (by omega) hr2') ?_
  have d3 : Dc l (b + 3) (h2 ++ [.lst (digs r2 r1)]) := d2.app _
  have g3 : Gr l h (h2 ++ [.lst (digs r2 r1)]) := g1.trans (g2.trans (Gr.app l h2 _))
  generalize h2 ++ [.lst (digs r2 r1)] = h3 at d3 g3 ⊢
  generalize R r1 r2 = q3
  repeat (first | (with_reducible show Al _ (evEs _ _ (_ :: _) _ _)); refine al_cons (fun _ e => nomatch e) ?_ | (with_reducible show Al _ (evEs _ _ [] _ _)); refine al_nil ?_ | (with_reducible show Al _ (evE _ _ (.var _) _ _)); refine al_var rfl ?_ | (with_reducible show Al _ (evE _ _ (.con _) _ _)); refine al_con ?_ | (with_reducible show Al _ (evE _ _ (.call _ _) _ _)); refine al_call rfl ?_ | (with_reducible show Al _ (evE _ _ (.bin _ _ _) _ _)); refine al_bin ?_ | (with_reducible show Al _ (evE _ _ (.cmp _ _ _) _ _)); refine al_cmp ?_ | (with_reducible show Al _ (evE _ _ (.bi _ _) _ _)); refine al_bi ?_ | (with_reducible show Al _ (evE _ _ (.tup _) _ _)); refine al_tup ?_ | (with_reducible show Al _ (evE _ _ (.lst _) _ _)); refine al_lst ?_ | (with_reducible show Al _ (exS _ _ _ (.ret _) _ _)); refine al_ret ?_ | (with_reducible show Al _ (exS _ _ _ (.asg (.nm _) _) _ _)); refine al_asg ?_ | (with_reducible show Al _ (exS _ _ _ (.asg (.tp _) _) _ _)); refine al_asgt ?_ | (with_reducible show Al _ (exSs _ _ _ (.asg _ _ :: _) _ _)); refine al_ss ?_ | (with_reducible show Al _ (exSs _ _ _ (.ret _ :: _) _ _)); refine al_ss ?_)
  refine (a_roll (n := n + 4) (b := b + 2) d3 (by decide) (by decide)).imp fun v h4 ⟨⟨c, hc, er⟩, d4, g4⟩ => ?_
  subst er
  have hc' : c ≤ 16 := by omega
  repeat (first | (with_reducible show Al _ (evEs _ _ (_ :: _) _ _)); refine al_cons (fun _ e => nomatch e) ?_ | (with_reducible show Al _ (evEs _ _ [] _ _)); refine al_nil ?_ | (with_reducible show Al _ (evE _ _ (.var _) _ _)); refine al_var rfl ?_ | (with_reducible show Al _ (evE _ _ (.con _) _ _)); refine al_con ?_ | (with_reducible show Al _ (evE _ _ (.call _ _) _ _)); refine al_call rfl ?_ | (with_reducible show Al _ (evE _ _ (.bin _ _ _) _ _)); refine al_bin ?_ | (with_reducible show Al _ (evE _ _ (.cmp _ _ _) _ _)); refine al_cmp ?_ | (with_reducible show Al _ (evE _ _ (.bi _ _) _ _)); refine al_bi ?_ | (with_reducible show Al _ (evE _ _ (.tup _) _ _)); refine al_tup ?_ | (with_reducible show Al _ (evE _ _ (.lst _) _ _)); refine al_lst ?_ | (with_reducible show Al _ (exS _ _ _ (.ret _) _ _)); refine al_ret ?_ | (with_reducible show Al _ (exS _ _ _ (.asg (.nm _) _) _ _)); refine al_asg ?_ | (with_reducible show Al _ (exS _ _ _ (.asg (.tp _) _) _ _)); refine al_asgt ?_ | (with_reducible show Al _ (exSs _ _ _ (.asg _ _ :: _) _ _)); refine al_ss ?_ | (with_reducible show Al _ (exSs _ _ _ (.ret _ :: _) _ _)); refine al_ss ?_)
  refine Al.ok (e_power (n := n + 4) (b := c) (h := h4) (by omega)) ?_
  repeat (first | (with_reducible show Al _ (evEs _ _ (_ :: _) _ _)); refine al_cons (fun _ e => nomatch e) ?_ | (with_reducible show Al _ (evEs _ _ [] _ _)); refine al_nil ?_ | (with_reducible show Al _ (evE _ _ (.var _) _ _)); refine al_var rfl ?_ | (with_reducible show Al _ (evE _ _ (.con _) _ _)); refine al_con ?_ | (with_reducible show Al _ (evE _ _ (.call _ _) _ _)); refine al_call rfl ?_ | (with_reducible show Al _ (evE _ _ (.bin _ _ _) _ _)); refine al_bin ?_ | (with_reducible show Al _ (evE _ _ (.cmp _ _ _) _ _)); refine al_cmp ?_ | (with_reducible show Al _ (evE _ _ (.bi _ _) _ _)); refine al_bi ?_ | (with_reducible show Al _ (evE _ _ (.tup _) _ _)); refine al_tup ?_ | (with_reducible show Al _ (evE _ _ (.lst _) _ _)); refine al_lst ?_ | (with_reducible show Al _ (exS _ _ _ (.ret _) _ _)); refine al_ret ?_ | (with_reducible show Al _ (exS _ _ _ (.asg (.nm _) _) _ _)); refine al_asg ?_ | (with_reducible show Al _ (exS _ _ _ (.asg (.tp _) _) _ _)); refine al_asgt ?_ | (with_reducible show Al _ (exSs _ _ _ (.asg _ _ :: _) _ _)); refine al_ss ?_ | (with_reducible show Al _ (exSs _ _ _ (.ret _ :: _) _ _)); refine al_ss ?_)
  refine (a_roll (n := n + 4) (b := b + 1) (k := ((2 ^ c : Nat) : Int)) d4 (by rw [pow_nat]; exact Int.pow_pos (by decide)) (pow_lt62 (by omega))).imp fun v h5 ⟨⟨k2, hk2, er⟩, d5, g5⟩ => ?_
  subst er
  have hk2' : k2 < 2 ^ c := nx_int hk2
  repeat (first | (with_reducible show Al _ (evEs _ _ (_ :: _) _ _)); refine al_cons (fun _ e => nomatch e) ?_ | (with_reducible show Al _ (evEs _ _ [] _ _)); refine al_nil ?_ | (with_reducible show Al _ (evE _ _ (.var _) _ _)); refine al_var rfl ?_ | (with_reducible show Al _ (evE _ _ (.con _) _ _)); refine al_con ?_ | (with_reducible show Al _ (evE _ _ (.call _ _) _ _)); refine al_call rfl ?_ | (with_reducible show Al _ (evE _ _ (.bin _ _ _) _ _)); refine al_bin ?_ | (with_reducible show Al _ (evE _ _ (.cmp _ _ _) _ _)); refine al_cmp ?_ | (with_reducible show Al _ (evE _ _ (.bi _ _) _ _)); refine al_bi ?_ | (with_reducible show Al _ (evE _ _ (.tup _) _ _)); refine al_tup ?_ | (with_reducible show Al _ (evE _ _ (.lst _) _ _)); refine al_lst ?_ | (with_reducible show Al _ (exS _ _ _ (.ret _) _ _)); refine al_ret ?_ | (with_reducible show Al _ (exS _ _ _ (.asg (.nm _) _) _ _)); refine al_asg ?_ | (with_reducible show Al _ (exS _ _ _ (.asg (.tp _) _) _ _)); refine al_asgt ?_ | (with_reducible show Al _ (exSs _ _ _ (.asg _ _ :: _) _ _)); refine al_ss ?_ | (with_reducible show Al _ (exSs _ _ _ (.ret _ :: _) _ _)); refine al_ss ?_)
  refine (a_roll (n := n + 4) (b := b) d5 (by decide) (by decide)).imp fun v h6 ⟨⟨u, hu, er⟩, d6, g6⟩ => ?_
  subst er
  have hu' : u < 65536 := by omega
  have q2 : 2 ≤ sizeLine := Nat.le_trans (show 2 ≤ 16 by decide) (by decide)
  refine al_nil ⟨q2, _, rfl, ?_⟩
  have g7 : Gr l h h6 := g3.trans (g4.trans (g5.trans g6))
  show Al _ (exSs T (call (n + 5)) 0 (b__law_bits_right.drop 7) [some (.ref l), some (.int c), some (.int r2), some (.int q3), some (.int (2 ^ c : Nat)), none, none, some (.int k2), some (.int u), none, none] h6)
  have hk5 : (0 : Int) < ((2 ^ c : Nat) : Int) := by rw [pow_nat]; exact Int.pow_pos (by decide)
  have hmn : ((u : Int) % ((2 ^ c : Nat) : Int) = (k2 : Int)) ↔ u % 2 ^ c = k2 := by
    rw [← Int.natCast_emod]
    omega
  have hs : (16 : Int) - (c : Int) = ((16 - c : Nat) : Int) := by omega
  have hsp := spot_in (b := c) (v := u) (k := k2) hc' hk2'
  have hp : 0 < 2 ^ (16 - c) := Nat.pow_pos (by decide)
  have x1 := e_bucket (n := n) (k := k2) (b := c) (h := h6) hc' hk2'
  have x2 : ∀ hh, call (n + 5) 17 [.int ((16 : Int) - c)] hh = .ok (.int (2 ^ (16 - c) : Nat)) hh := fun hh => by rw [hs]; exact e_power (n := n + 4) (b := 16 - c) (h := hh) (by omega)
  have x3 : call (n + 5) 18 [.int k2, .int c] h6 = .ok (.int (R c k2)) (h6 ++ [.lst (digs k2 c)]) := e_turned (n := n + 4) (v := k2) (b := c) (h := h6) (by omega)
  have x4 : ∀ hh, call (n + 5) 18 [.int u, .int 16] hh = .ok (.int (R 16 u)) (hh ++ [.lst (digs u 16)]) := fun hh => e_turned (n := n + 4) (v := u) (b := 16) (h := hh) (by decide)
--M1
  have x5 : big (R c k2) ((2 ^ (16 - c) : Nat)) = true := big_ok (k := 65) (Nat.lt_of_lt_of_le (R_lt c k2) (Nat.pow_le_pow_right (by decide) (by omega))) (Nat.pow_lt_pow_right (by decide) (by omega)) (by decide)
--M2
  have x6 : (((R c k2 * 2 ^ (16 - c) + 2 ^ (16 - c) - 1 : Nat)) : Int) - ((R c k2 * 2 ^ (16 - c) : Nat) : Int) + 1 = ((2 ^ (16 - c) : Nat) : Int) := by
    revert hp
    generalize 2 ^ (16 - c) = w
    generalize R c k2 = r
    intro hp
    omega
  have x7 : ((R c k2 * 2 ^ (16 - c) : Nat) : Int) = ((R c k2 : Nat) : Int) * ((2 ^ (16 - c) : Nat) : Int) := Int.natCast_mul ..
--M3
  have x8 : (((R c k2 * 2 ^ (16 - c) : Nat) : Int) ≤ ((R 16 u : Nat) : Int) ∧ ((R 16 u : Nat) : Int) ≤ ((R c k2 * 2 ^ (16 - c) + 2 ^ (16 - c) - 1 : Nat) : Int)) ↔ ((u : Int) % ((2 ^ c : Nat) : Int) = (k2 : Int)) := by
    rw [hmn, ← hsp, Int.ofNat_le, Int.ofNat_le]
--M4
  have x9 : (c : Int) = 16 → ((R c k2 * 2 ^ (16 - c) : Nat) : Int) = ((R c k2 * 2 ^ (16 - c) + 2 ^ (16 - c) - 1 : Nat) : Int) ∧ ((R c k2 * 2 ^ (16 - c) + 2 ^ (16 - c) - 1 : Nat) : Int) = ((R c k2 : Nat) : Int) ∧ ∀ hh, call (n + 5) 18 [.int k2, .int 16] hh = .ok (.int (R c k2)) (hh ++ [.lst (digs k2 16)]) := fun e => by
    have e2 : c = 16 := by omega
    subst e2
    refine ⟨by simp, by simp, fun hh => e_turned (n := n + 4) (v := k2) (b := 16) (h := hh) (by decide)⟩
--M5
  have x10 : (c : Int) ≠ 16 → ∃ l0 f1 : Int, l0 + 1 = f1 ∧ ∀ hh, call (n + 5) 9 [.int k2, .int ((c : Int) + 1)] hh = .ok (.tup [.int ((R c k2 * 2 ^ (16 - c) : Nat) : Int), .int l0]) hh ∧ call (n + 5) 9 [.int ((k2 : Int) + ((2 ^ c : Nat) : Int)), .int ((c : Int) + 1)] hh = .ok (.tup [.int f1, .int ((R c k2 * 2 ^ (16 - c) + 2 ^ (16 - c) - 1 : Nat) : Int)]) hh := fun e => by
    have e2 : c < 16 := by omega
    have hp2 : 0 < 2 ^ (16 - (c + 1)) := Nat.pow_pos (by decide)
    refine ⟨_, _, ?_, fun hh => halves (n := n) (hh := hh) e2 hk2'⟩
    revert hp2
    generalize 2 ^ (16 - (c + 1)) = w2
    intro hp2
    omega
--M6
  revert x1 x2 x3 x4 x5 x6 x7 x8 x9 x10 hk5
  generalize ((R c k2 * 2 ^ (16 - c) : Nat) : Int) = F
  generalize ((R c k2 * 2 ^ (16 - c) + 2 ^ (16 - c) - 1 : Nat) : Int) = la
  generalize ((2 ^ (16 - c) : Nat) : Int) = w
  generalize ((R c k2 : Nat) : Int) = r
  generalize ((R 16 u : Nat) : Int) = s
  generalize ((2 ^ c : Nat) : Int) = m
  intro hk5 x1 x2 x3 x4 x5 x6 x7 x8 x9 x10
  exact (bits_tail d6 x1 x2 x3 x4 x5 x6 x7 hk5 x8 x9 x10).imp fun f h7 ⟨ef, d7, g8⟩ => by
    subst ef
    exact ⟨rfl, d7, g7.trans g8⟩
end K04
set_option Elab.async false
set_option linter.all false
set_option maxRecDepth 100000
set_option maxHeartbeats 4000000
namespace K04
open PySem PySem.Spec PyProof.Rows L2 Mn
theorem os_ok {x : List Nat} (h : oks x) : PyData.strOk ⟨x.toArray⟩ = true := by
  unfold PyData.strOk
  simp only [List.all_toArray, List.all_eq_true, decide_eq_true_eq]
  intro c hc
  rcases h c hc with q | q
  · omega
  · unfold okc at q; omega
theorem oks_set {x : List Nat} {k c : Nat} (h : oks x) (hc : c = 10 ∨ okc c) : oks (x.set k c) := fun d hd => by
  rcases List.mem_or_eq_of_mem_set hd with q | q
  · exact h d q
  · rw [q]; exact hc
theorem set_cut {x : List Nat} {k c : Nat} (hk : k < x.length) : x.take k ++ [c] ++ x.drop (k + 1) = x.set k c := by
  rw [List.set_eq_take_append_cons_drop, if_pos hk, List.append_assoc]
  rfl
theorem set_cut2 {x : List Nat} {k m c d : Nat} (hk : k < m) (hm : m < x.length) : x.take k ++ [d] ++ (x.drop (k + 1)).take (m - (k + 1)) ++ [c] ++ x.drop (m + 1) = (x.set k d).set m c := by
  have h1 : (x.set k d).take m = x.take k ++ [d] ++ (x.drop (k + 1)).take (m - (k + 1)) := by
    rw [← set_cut (by omega : k < x.length), List.take_append, List.take_of_length_le (by simp; omega)]
    congr 2
    simp
    omega
  have h2 : (x.set k d).drop (m + 1) = x.drop (m + 1) := by
    rw [List.drop_set]
    rw [if_pos (by omega)]
  rw [← set_cut (by simpa using hm), h1, h2]
section
variable {cl : Nat → List PV → PH → Res PV} {ρ : PEnv} {h : PH}
theorem sIx_k {n d k : Nat} (h : k ≤ n) : HT.sIx n d (some (k : Int)) = k := by rw [HT.sIx_nat]; omega
theorem sl_to {x : List Nat} {i j k : Nat} (hi : ρ[i]? = some (some (.str x))) (hj : ρ[j]? = some (some (.int k))) (hk : k ≤ x.length) (hs : x.length ≤ sizeLine) : evE T cl (.sl (.var i) .nop (.var j)) ρ h = .ok (.str (x.take k)) h := by
  simp only [evE, partR, hi, hj, Res.bind_ok, pSl, hs, if_true, cut, HT.sIx_none, sIx_k hk, List.drop_zero, Nat.sub_zero]
theorem sl_from {x : List Nat} {i j k : Nat} (hi : ρ[i]? = some (some (.str x))) (hj : ρ[j]? = some (some (.int k))) (hk : k + 1 ≤ x.length) (hs : x.length ≤ sizeLine) : evE T cl (.sl (.var i) (.bin .add (.var j) (.con (.int 1))) .nop) ρ h = .ok (.str (x.drop (k + 1))) h := by
  have e : (k : Int) + 1 = ((k + 1 : Nat) : Int) := by omega
  simp only [evE, partR, hi, hj, Res.bind_ok, pBin, pSl, hs, if_true, cut, HT.sIx_none, e, sIx_k hk]
  rw [List.take_of_length_le (by simp)]
theorem sl_mid {x : List Nat} {i j m k q : Nat} (hi : ρ[i]? = some (some (.str x))) (hj : ρ[j]? = some (some (.int k))) (hm : ρ[m]? = some (some (.int q))) (hk : k + 1 ≤ x.length) (hq : q ≤ x.length) (hs : x.length ≤ sizeLine) : evE T cl (.sl (.var i) (.bin .add (.var j) (.con (.int 1))) (.var m)) ρ h = .ok (.str ((x.drop (k + 1)).take (q - (k + 1)))) h := by
  have e : (k : Int) + 1 = ((k + 1 : Nat) : Int) := by omega
  simp only [evE, partR, hi, hj, hm, Res.bind_ok, pBin, pSl, hs, if_true, cut, HT.sIx_none, e, sIx_k hk, sIx_k hq]
theorem e_add {a b : Ex} {x y : List Nat} {h1 h2 : PH} (ha : evE T cl a ρ h = .ok (.str x) h1) (hb : evE T cl b ρ h1 = .ok (.str y) h2) (hs : x.length + y.length ≤ sizeLine) : evE T cl (.bin .add a b) ρ h = .ok (.str (x ++ y)) h2 := by
  simp only [evE, ha, hb, Res.bind_ok, pBin, hs, if_true]
theorem e_ixs {x : List Nat} {i j k : Nat} (hi : ρ[i]? = some (some (.str x))) (hj : ρ[j]? = some (some (.int k))) (hk : k < x.length) (hs : x.length ≤ sizeLine) : evE T cl (.ix (.var i) (.var j)) ρ h = .ok (.str [x.getD k 0]) h := by
  have e : atI x (k : Int) = some (x.getD k 0) := by
    rw [show x.getD k 0 = x[k] by simp [hk]]
    simp [atI, ixN, hk]
  simp only [evE, hi, hj, Res.bind_ok, pIx, hs, if_true, e]
theorem e_var {i : Nat} {v : PV} (e : ρ[i]? = some (some v)) : evE T cl (.var i) ρ h = .ok v h := by simp only [evE, e]
theorem e_eqs {a b : Ex} {x y : List Nat} {h1 h2 : PH} (ha : evE T cl a ρ h = .ok (.str x) h1) (hb : evE T cl b ρ h1 = .ok (.str y) h2) (hx : PyData.strOk ⟨x.toArray⟩ = true) (hy : PyData.strOk ⟨y.toArray⟩ = true) : evE T cl (.cmp .eq a b) ρ h = .ok (.bl (decide (x = y))) h2 := by
  simp only [evE, ha, hb, Res.bind_ok, pCmp, pEq_ss hx hy, ob]
theorem e_eqi {a b : Ex} {x y : Int} {h1 h2 : PH} (ha : evE T cl a ρ h = .ok (.int x) h1) (hb : evE T cl b ρ h1 = .ok (.int y) h2) : evE T cl (.cmp .eq a b) ρ h = .ok (.bl (decide (x = y))) h2 := by
  simp only [evE, ha, hb, Res.bind_ok, pCmp, pEq_int, ob]
theorem e_nei {a b : Ex} {x y : Int} {h1 h2 : PH} (ha : evE T cl a ρ h = .ok (.int x) h1) (hb : evE T cl b ρ h1 = .ok (.int y) h2) : evE T cl (.cmp .ne a b) ρ h = .ok (.bl (!decide (x = y))) h2 := by
  simp only [evE, ha, hb, Res.bind_ok, pCmp, pEq_int, ob, Option.map_some]
theorem e_eqb {a b : Ex} {x y : Bool} {h1 h2 : PH} (ha : evE T cl a ρ h = .ok (.bl x) h1) (hb : evE T cl b ρ h1 = .ok (.bl y) h2) : evE T cl (.cmp .eq a b) ρ h = .ok (.bl (x == y)) h2 := by
  simp only [evE, ha, hb, Res.bind_ok, pCmp, pEq_bb, ob]
theorem e_neb {a b : Ex} {x y : Bool} {h1 h2 : PH} (ha : evE T cl a ρ h = .ok (.bl x) h1) (hb : evE T cl b ρ h1 = .ok (.bl y) h2) : evE T cl (.cmp .ne a b) ρ h = .ok (.bl (!(x == y))) h2 := by
  simp only [evE, ha, hb, Res.bind_ok, pCmp, pEq_bb, ob, Option.map_some]
theorem e_call1 {g f i : Nat} {v w : PV} {h1 : PH} (hg : T.glob[g]? = some (.fn f)) (e : ρ[i]? = some (some v)) (k : cl f [v] h = .ok w h1) : evE T cl (.call g [.var i]) ρ h = .ok w h1 := by
  simp only [evE, evEs, hg, e, Res.bind_ok, callG, k]
end
theorem minmax (a b : Nat) : ∃ lo hi : Nat, (if (b : Int) < (a : Int) then (b : Int) else (a : Int)) = (lo : Int) ∧ (if (b : Int) > (a : Int) then (b : Int) else (a : Int)) = (hi : Int) ∧ lo ≤ hi ∧ (lo = a ∧ hi = b ∨ lo = b ∧ hi = a) := by
  by_cases q : b < a
  · exact ⟨b, a, by rw [if_pos (by omega)], by rw [if_neg (by omega)], by omega, .inr ⟨rfl, rfl⟩⟩
  · by_cases q2 : a < b
    · exact ⟨a, b, by rw [if_neg (by omega)], by rw [if_pos (by omega)], by omega, .inl ⟨rfl, rfl⟩⟩
    · exact ⟨a, b, by rw [if_neg (by omega)], by rw [if_neg (by omega)]; omega, by omega, .inl ⟨rfl, rfl⟩⟩
end K04
set_option Elab.async false
set_option linter.all false
set_option maxRecDepth 100000
set_option maxHeartbeats 4000000
namespace K04
open PySem PySem.Spec PyProof.Rows L2 Mn
theorem sum_at {n : Nat} {x : List Nat} {h : PH} (hx : oks x) (hl : x.length ≤ 500) : ∃ g, call (n + 5) 6 [.str x] h = .ok (.int (sm 0 x % 99991 : Nat)) (h ++ g) := e_sum (n := n + 3) hx hl
theorem g_get {x : List Nat} {k : Nat} (hk : k < x.length) : x[k]? = some (x.getD k 0) := by simp [hk]
theorem ok128 {c : Nat} (h : c = 10 ∨ okc c) : c < 128 := by
  rcases h with q | q
  · omega
  · unfold okc at q; omega
def oth : List PV := [.str [113], .str [48], .str [126]]
theorem oth_ok {v : PV} (h : v ∈ oth) : ∃ c, v = .str [c] ∧ okc c := by
  simp only [oth, List.mem_cons, List.not_mem_nil, or_false] at h
  rcases h with rfl | rfl | rfl
  · exact ⟨113, rfl, by decide, by decide⟩
  · exact ⟨48, rfl, by decide, by decide⟩
  · exact ⟨126, rfl, by decide, by decide⟩
theorem ok_one {c : Nat} (h : c = 10 ∨ okc c) : PyData.strOk ⟨[c].toArray⟩ = true := os_ok fun d hd => by rw [List.mem_singleton.mp hd]; exact h
theorem ok_nil : PyData.strOk ⟨([] : List Nat).toArray⟩ = true := os_ok (x := []) fun _ h => by simp at h
theorem sums_tail {n l b : Nat} {x : List Nat} {c at_ to : Nat} {h : PH} (d : Dc l b h) (ox : oks x) (lx : x.length < 30) (hc : okc c) (ha : at_ < x.length) (ht : to < x.length) :
    Al (fun f h' => f = .rt (.bl true) ∧ Dc l b h' ∧ Gr l h h') (exSs T (call (n + 5)) 0 (b__law_sums_right.drop 5) [some (.ref l), some (.str x), some (.str [c]), none, none, some (.int at_), some (.int to), none, none] h) := by
  unfold b__law_sums_right
  have big30 : ∀ m, m ≤ 100 → m ≤ sizeLine := fun m hm => Nat.le_trans hm (by decide)
  have hs : x.length ≤ sizeLine := big30 _ (by omega)
  have oc : c = 10 ∨ okc c := .inr hc
  have gok : ∀ k, k < x.length → (x.getD k 0 = 10 ∨ okc (x.getD k 0)) := fun k hk => ox _ (by rw [show x.getD k 0 = x[k] by simp [hk]]; exact List.getElem_mem hk)
  -- the changed one
  have hch : evE T (call (n + 5)) (.bin .add (.bin .add (.sl (.var 1) .nop (.var 5)) (.var 2)) (.sl (.var 1) (.bin .add (.var 5) (.con (.int 1))) .nop)) [some (.ref l), some (.str x), some (.str [c]), none, none, some (.int at_), some (.int to), none, none] h = .ok (.str (x.set at_ c)) h := by
    rw [← set_cut ha]
    refine e_add (e_add (sl_to rfl rfl (by omega) hs) (e_var rfl) ?_) (sl_from rfl rfl (by omega) hs) ?_
    · exact big30 _ (by simp; omega)
    · exact big30 _ (by simp; omega)
  refine al_ss (al_asg (Al.ok hch ?_))
  show Al _ (exSs T (call (n + 5)) 0 (b__law_sums_right.drop 6) [some (.ref l), some (.str x), some (.str [c]), some (.str (x.set at_ c)), none, some (.int at_), some (.int to), none, none] h)
  unfold b__law_sums_right
  obtain ⟨e1, s1⟩ := sum_at (n := n) (x := x.set at_ c) (h := h) (oks_set ox oc) (by simp; omega)
  obtain ⟨e2, s2⟩ := sum_at (n := n) (x := x) (h := h ++ e1) ox (by omega)
  refine al_no (h1 := h ++ e1 ++ e2) ?_ ?_
  · have q := e_neb (e_eqi (e_call1 (cl := call (n + 5)) (ρ := [some (.ref l), some (.str x), some (.str [c]), some (.str (x.set at_ c)), none, some (.int at_), some (.int to), none, none]) (g := 6) (i := 3) rfl rfl s1) (e_call1 (g := 6) (i := 1) rfl rfl s2))
      (e_eqs (e_ixs (i := 1) (j := 5) rfl rfl ha hs) (e_var (i := 2) rfl) (ok_one (gok _ ha)) (ok_one oc))
    have e : decide ((((sm 0 (x.set at_ c) % 99991 : Nat)) : Int) = ((sm 0 x % 99991 : Nat) : Int)) = decide ([x.getD at_ 0] = [c]) := by
      apply decide_eq_decide.mpr
      have := sum_one (x := x) (k := at_) (c := c) (d := x.getD at_ 0) (g_get ha) (by omega) (ok128 (gok _ ha)) (ok128 oc)
      constructor
      · intro p
        rw [this.mp (by omega)]
      · intro p
        have p2 : x.getD at_ 0 = c := by simpa using p
        rw [this.mpr p2]
    rw [e, beq_self_eq_true, Bool.not_true] at q
    exact q
  have d2 : Dc l b (h ++ e1 ++ e2) := (d.app _).app _
  have g2 : Gr l h (h ++ e1 ++ e2) := (Gr.app l h _).trans (Gr.app l _ _)
  generalize h ++ e1 ++ e2 = h2 at d2 g2 ⊢
  obtain ⟨lo, hi, m1, m2, m3, m4⟩ := minmax at_ to
  have hlo : lo < x.length := by rcases m4 with ⟨rfl, rfl⟩ | ⟨rfl, rfl⟩ <;> assumption
  have hhi : hi < x.length := by rcases m4 with ⟨rfl, rfl⟩ | ⟨rfl, rfl⟩ <;> assumption
  repeat (first | (with_reducible show Al _ (evEs _ _ (_ :: _) _ _)); refine al_cons (fun _ e => nomatch e) ?_ | (with_reducible show Al _ (evEs _ _ [] _ _)); refine al_nil ?_ | (with_reducible show Al _ (evE _ _ (.var _) _ _)); refine al_var rfl ?_ | (with_reducible show Al _ (evE _ _ (.con _) _ _)); refine al_con ?_ | (with_reducible show Al _ (evE _ _ (.call _ _) _ _)); refine al_call rfl ?_ | (with_reducible show Al _ (evE _ _ (.bin _ _ _) _ _)); refine al_bin ?_ | (with_reducible show Al _ (evE _ _ (.cmp _ _ _) _ _)); refine al_cmp ?_ | (with_reducible show Al _ (evE _ _ (.bi _ _) _ _)); refine al_bi ?_ | (with_reducible show Al _ (evE _ _ (.tup _) _ _)); refine al_tup ?_ | (with_reducible show Al _ (evE _ _ (.lst _) _ _)); refine al_lst ?_ | (with_reducible show Al _ (exS _ _ _ (.ret _) _ _)); refine al_ret ?_ | (with_reducible show Al _ (exS _ _ _ (.asg (.nm _) _) _ _)); refine al_asg ?_ | (with_reducible show Al _ (exS _ _ _ (.asg (.tp _) _) _ _)); refine al_asgt ?_ | (with_reducible show Al _ (exSs _ _ _ (.asg _ _ :: _) _ _)); refine al_ss ?_ | (with_reducible show Al _ (exSs _ _ _ (.ret _ :: _) _ _)); refine al_ss ?_)
  refine Al.ok (a := .int lo) (h := h2) (by simp only [pBi, m1]) ?_
  repeat (first | (with_reducible show Al _ (evEs _ _ (_ :: _) _ _)); refine al_cons (fun _ e => nomatch e) ?_ | (with_reducible show Al _ (evEs _ _ [] _ _)); refine al_nil ?_ | (with_reducible show Al _ (evE _ _ (.var _) _ _)); refine al_var rfl ?_ | (with_reducible show Al _ (evE _ _ (.con _) _ _)); refine al_con ?_ | (with_reducible show Al _ (evE _ _ (.call _ _) _ _)); refine al_call rfl ?_ | (with_reducible show Al _ (evE _ _ (.bin _ _ _) _ _)); refine al_bin ?_ | (with_reducible show Al _ (evE _ _ (.cmp _ _ _) _ _)); refine al_cmp ?_ | (with_reducible show Al _ (evE _ _ (.bi _ _) _ _)); refine al_bi ?_ | (with_reducible show Al _ (evE _ _ (.tup _) _ _)); refine al_tup ?_ | (with_reducible show Al _ (evE _ _ (.lst _) _ _)); refine al_lst ?_ | (with_reducible show Al _ (exS _ _ _ (.ret _) _ _)); refine al_ret ?_ | (with_reducible show Al _ (exS _ _ _ (.asg (.nm _) _) _ _)); refine al_asg ?_ | (with_reducible show Al _ (exS _ _ _ (.asg (.tp _) _) _ _)); refine al_asgt ?_ | (with_reducible show Al _ (exSs _ _ _ (.asg _ _ :: _) _ _)); refine al_ss ?_ | (with_reducible show Al _ (exSs _ _ _ (.ret _ :: _) _ _)); refine al_ss ?_)
  refine Al.ok (a := .int hi) (h := h2) (by simp only [pBi, m2]) ?_
  refine al_nil ⟨big30 _ (show 2 ≤ 100 by decide), _, rfl, ?_⟩
  show Al _ (exSs T (call (n + 5)) 0 (b__law_sums_right.drop 8) [some (.ref l), some (.str x), some (.str [c]), some (.str (x.set at_ c)), none, some (.int at_), some (.int to), some (.int lo), some (.int hi)] h2)
  unfold b__law_sums_right
  have qeq := e_eqi (cl := call (n + 5)) (ρ := [some (.ref l), some (.str x), some (.str [c]), some (.str (x.set at_ c)), none, some (.int at_), some (.int to), some (.int lo), some (.int hi)]) (e_var (i := 7) (v := .int lo) (h := h2) rfl) (e_var (i := 8) (v := .int hi) rfl)
  by_cases q : lo = hi
  · rw [decide_eq_true (by omega)] at qeq
    exact al_yes qeq (al_ss (al_ret (al_con ⟨rfl, d2, g2⟩)))
  rw [decide_eq_false (by omega)] at qeq
  refine al_no qeq ?_
  have hlt : lo < hi := by omega
  have hsw : evE T (call (n + 5)) (.bin .add (.bin .add (.bin .add (.bin .add (.sl (.var 1) .nop (.var 7)) (.ix (.var 1) (.var 8))) (.sl (.var 1) (.bin .add (.var 7) (.con (.int 1))) (.var 8))) (.ix (.var 1) (.var 7))) (.sl (.var 1) (.bin .add (.var 8) (.con (.int 1))) .nop)) [some (.ref l), some (.str x), some (.str [c]), some (.str (x.set at_ c)), none, some (.int at_), some (.int to), some (.int lo), some (.int hi)] h2 = .ok (.str ((x.set lo (x.getD hi 0)).set hi (x.getD lo 0))) h2 := by
    rw [← set_cut2 hlt hhi]
    refine e_add (e_add (e_add (e_add (sl_to rfl rfl (by omega) hs) (e_ixs rfl rfl hhi hs) ?_) (sl_mid rfl rfl rfl (by omega) (by omega) hs) ?_) (e_ixs rfl rfl hlo hs) ?_) (sl_from rfl rfl (by omega) hs) ?_ <;> exact big30 _ (by simp; omega)
  refine al_ss (al_asg (Al.ok hsw ?_))
  show Al _ (exSs T (call (n + 5)) 0 (b__law_sums_right.drop 10) [some (.ref l), some (.str x), some (.str [c]), some (.str (x.set at_ c)), some (.str ((x.set lo (x.getD hi 0)).set hi (x.getD lo 0))), some (.int at_), some (.int to), some (.int lo), some (.int hi)] h2)
  unfold b__law_sums_right
  obtain ⟨e3, s3⟩ := sum_at (n := n) (x := (x.set lo (x.getD hi 0)).set hi (x.getD lo 0)) (h := h2) (oks_set (oks_set ox (gok _ hhi)) (gok _ hlo)) (by simp; omega)
  obtain ⟨e4, s4⟩ := sum_at (n := n) (x := x) (h := h2 ++ e3) ox (by omega)
  have qe := e_eqb (e_eqi (e_call1 (cl := call (n + 5)) (ρ := [some (.ref l), some (.str x), some (.str [c]), some (.str (x.set at_ c)), some (.str ((x.set lo (x.getD hi 0)).set hi (x.getD lo 0))), some (.int at_), some (.int to), some (.int lo), some (.int hi)]) (g := 6) (i := 4) rfl rfl s3) (e_call1 (g := 6) (i := 1) rfl rfl s4))
      (e_eqs (e_ixs (i := 1) (j := 7) rfl rfl hlo hs) (e_ixs (i := 1) (j := 8) rfl rfl hhi hs) (ok_one (gok _ hlo)) (ok_one (gok _ hhi)))
  have e : decide ((((sm 0 ((x.set lo (x.getD hi 0)).set hi (x.getD lo 0)) % 99991 : Nat)) : Int) = ((sm 0 x % 99991 : Nat) : Int)) = decide ([x.getD lo 0] = [x.getD hi 0]) := by
    apply decide_eq_decide.mpr
    have := sum_two (x := x) (k := lo) (m := hi) (c := x.getD lo 0) (d := x.getD hi 0) (g_get hlo) (g_get hhi) hlt (by omega) (ok128 (gok _ hlo)) (ok128 (gok _ hhi))
    constructor
    · intro p
      rw [this.mp (by omega)]
    · intro p
      have p2 : x.getD lo 0 = x.getD hi 0 := by simpa using p
      rw [this.mpr p2]
  rw [e, beq_self_eq_true] at qe
  exact al_ss (al_ret (Al.ok qe ⟨rfl, (d2.app _).app _, (g2.trans (Gr.app l h2 _)).trans (Gr.app l _ _)⟩))
theorem a_sums {n l b : Nat} {h : PH} (d : Dc l (b + 34) h) : Al (fun v h' => v = .bl true ∧ Dc l b h' ∧ Gr l h h') (call (n + 6) 24 [.ref l] h) := by
  rw [call_run (d := d__law_sums_right) rfl rfl]
  refine al_run rfl ?_
  show Al _ (exSs T (call (n + 5)) 0 b__law_sums_right [some (.ref l), none, none, none, none, none, none, none, none] h)
  unfold b__law_sums_right
  repeat (first | (with_reducible show Al _ (evEs _ _ (_ :: _) _ _)); refine al_cons (fun _ e => nomatch e) ?_ | (with_reducible show Al _ (evEs _ _ [] _ _)); refine al_nil ?_ | (with_reducible show Al _ (evE _ _ (.var _) _ _)); refine al_var rfl ?_ | (with_reducible show Al _ (evE _ _ (.con _) _ _)); refine al_con ?_ | (with_reducible show Al _ (evE _ _ (.call _ _) _ _)); refine al_call rfl ?_ | (with_reducible show Al _ (evE _ _ (.bin _ _ _) _ _)); refine al_bin ?_ | (with_reducible show Al _ (evE _ _ (.cmp _ _ _) _ _)); refine al_cmp ?_ | (with_reducible show Al _ (evE _ _ (.bi _ _) _ _)); refine al_bi ?_ | (with_reducible show Al _ (evE _ _ (.tup _) _ _)); refine al_tup ?_ | (with_reducible show Al _ (evE _ _ (.lst _) _ _)); refine al_lst ?_ | (with_reducible show Al _ (exS _ _ _ (.ret _) _ _)); refine al_ret ?_ | (with_reducible show Al _ (exS _ _ _ (.asg (.nm _) _) _ _)); refine al_asg ?_ | (with_reducible show Al _ (exS _ _ _ (.asg (.tp _) _) _ _)); refine al_asgt ?_ | (with_reducible show Al _ (exSs _ _ _ (.asg _ _ :: _) _ _)); refine al_ss ?_ | (with_reducible show Al _ (exSs _ _ _ (.ret _ :: _) _ _)); refine al_ss ?_)
  refine (a_signs (n := n + 2) (b := b + 3) (most := 30) (by decide) (by decide) d).imp fun v h1 ⟨⟨x, ev, ox, lx⟩, d1, g1⟩ => ?_
  subst ev
  have hs : x.length ≤ sizeLine := Nat.le_trans (show x.length ≤ 30 by omega) (by decide)
  obtain ⟨e1, s1⟩ := sum_at (n := n) (x := x) (h := h1) ox (by omega)
  have l1 : call (n + 5) 20 [.str x] (h1 ++ e1) = .ok (.int (sm 0 x % 99991 : Nat)) (h1 ++ e1) := e_lsum (n := n + 4) ox (by omega)
  refine al_no (h1 := h1 ++ e1) ?_ ?_
  · have q := e_nei (e_call1 (cl := call (n + 5)) (ρ := [some (.ref l), some (.str x), none, none, none, none, none, none, none]) (g := 6) (i := 1) rfl rfl s1) (e_call1 (g := 20) (i := 1) rfl rfl l1)
    rw [decide_eq_true rfl, Bool.not_true] at q
    exact q
  have d2 : Dc l (b + 3) (h1 ++ e1) := d1.app _
  have g2 : Gr l h (h1 ++ e1) := g1.trans (Gr.app l h1 _)
  generalize h1 ++ e1 = h2 at d2 g2 ⊢
  by_cases hx0 : x = []
  · subst hx0
    refine al_yes (h1 := h2) ?_ (al_ss (al_ret (al_con ⟨rfl, d2.le (by omega), g2⟩)))
    have q := e_eqs (cl := call (n + 5)) (ρ := [some (.ref l), some (.str []), none, none, none, none, none, none, none]) (e_var (i := 1) (h := h2) rfl) (show evE T (call (n + 5)) (.con (.str [])) _ h2 = .ok (.str []) h2 by simp only [evE]) ok_nil ok_nil
    exact q
  have hx1 : 0 < x.length := List.length_pos_iff.mpr hx0
  refine al_no (h1 := h2) ?_ ?_
  · have q := e_eqs (cl := call (n + 5)) (ρ := [some (.ref l), some (.str x), none, none, none, none, none, none, none]) (e_var (i := 1) (h := h2) rfl) (show evE T (call (n + 5)) (.con (.str [])) _ h2 = .ok (.str []) h2 by simp only [evE]) (os_ok ox) ok_nil
    rw [decide_eq_false hx0] at q
    exact q
  have hlen : ∀ hh, pBi T .len [.str x] hh = .ok (.int x.length) hh := fun hh => by simp only [pBi]; rw [if_pos hs]
  repeat (first | (with_reducible show Al _ (evEs _ _ (_ :: _) _ _)); refine al_cons (fun _ e => nomatch e) ?_ | (with_reducible show Al _ (evEs _ _ [] _ _)); refine al_nil ?_ | (with_reducible show Al _ (evE _ _ (.var _) _ _)); refine al_var rfl ?_ | (with_reducible show Al _ (evE _ _ (.con _) _ _)); refine al_con ?_ | (with_reducible show Al _ (evE _ _ (.call _ _) _ _)); refine al_call rfl ?_ | (with_reducible show Al _ (evE _ _ (.bin _ _ _) _ _)); refine al_bin ?_ | (with_reducible show Al _ (evE _ _ (.cmp _ _ _) _ _)); refine al_cmp ?_ | (with_reducible show Al _ (evE _ _ (.bi _ _) _ _)); refine al_bi ?_ | (with_reducible show Al _ (evE _ _ (.tup _) _ _)); refine al_tup ?_ | (with_reducible show Al _ (evE _ _ (.lst _) _ _)); refine al_lst ?_ | (with_reducible show Al _ (exS _ _ _ (.ret _) _ _)); refine al_ret ?_ | (with_reducible show Al _ (exS _ _ _ (.asg (.nm _) _) _ _)); refine al_asg ?_ | (with_reducible show Al _ (exS _ _ _ (.asg (.tp _) _) _ _)); refine al_asgt ?_ | (with_reducible show Al _ (exSs _ _ _ (.asg _ _ :: _) _ _)); refine al_ss ?_ | (with_reducible show Al _ (exSs _ _ _ (.ret _ :: _) _ _)); refine al_ss ?_)
  refine Al.ok (hlen h2) ?_
  repeat (first | (with_reducible show Al _ (evEs _ _ (_ :: _) _ _)); refine al_cons (fun _ e => nomatch e) ?_ | (with_reducible show Al _ (evEs _ _ [] _ _)); refine al_nil ?_ | (with_reducible show Al _ (evE _ _ (.var _) _ _)); refine al_var rfl ?_ | (with_reducible show Al _ (evE _ _ (.con _) _ _)); refine al_con ?_ | (with_reducible show Al _ (evE _ _ (.call _ _) _ _)); refine al_call rfl ?_ | (with_reducible show Al _ (evE _ _ (.bin _ _ _) _ _)); refine al_bin ?_ | (with_reducible show Al _ (evE _ _ (.cmp _ _ _) _ _)); refine al_cmp ?_ | (with_reducible show Al _ (evE _ _ (.bi _ _) _ _)); refine al_bi ?_ | (with_reducible show Al _ (evE _ _ (.tup _) _ _)); refine al_tup ?_ | (with_reducible show Al _ (evE _ _ (.lst _) _ _)); refine al_lst ?_ | (with_reducible show Al _ (exS _ _ _ (.ret _) _ _)); refine al_ret ?_ | (with_reducible show Al _ (exS _ _ _ (.asg (.nm _) _) _ _)); refine al_asg ?_ | (with_reducible show Al _ (exS _ _ _ (.asg (.tp _) _) _ _)); refine al_asgt ?_ | (with_reducible show Al _ (exSs _ _ _ (.asg _ _ :: _) _ _)); refine al_ss ?_ | (with_reducible show Al _ (exSs _ _ _ (.ret _ :: _) _ _)); refine al_ss ?_)
  refine (a_roll (n := n + 4) (b := b + 2) (k := x.length) d2 (by omega) (by omega)).imp fun v h3 ⟨⟨at_, ha, er⟩, d3, g3⟩ => ?_
  subst er
  repeat (first | (with_reducible show Al _ (evEs _ _ (_ :: _) _ _)); refine al_cons (fun _ e => nomatch e) ?_ | (with_reducible show Al _ (evEs _ _ [] _ _)); refine al_nil ?_ | (with_reducible show Al _ (evE _ _ (.var _) _ _)); refine al_var rfl ?_ | (with_reducible show Al _ (evE _ _ (.con _) _ _)); refine al_con ?_ | (with_reducible show Al _ (evE _ _ (.call _ _) _ _)); refine al_call rfl ?_ | (with_reducible show Al _ (evE _ _ (.bin _ _ _) _ _)); refine al_bin ?_ | (with_reducible show Al _ (evE _ _ (.cmp _ _ _) _ _)); refine al_cmp ?_ | (with_reducible show Al _ (evE _ _ (.bi _ _) _ _)); refine al_bi ?_ | (with_reducible show Al _ (evE _ _ (.tup _) _ _)); refine al_tup ?_ | (with_reducible show Al _ (evE _ _ (.lst _) _ _)); refine al_lst ?_ | (with_reducible show Al _ (exS _ _ _ (.ret _) _ _)); refine al_ret ?_ | (with_reducible show Al _ (exS _ _ _ (.asg (.nm _) _) _ _)); refine al_asg ?_ | (with_reducible show Al _ (exS _ _ _ (.asg (.tp _) _) _ _)); refine al_asgt ?_ | (with_reducible show Al _ (exSs _ _ _ (.asg _ _ :: _) _ _)); refine al_ss ?_ | (with_reducible show Al _ (exSs _ _ _ (.ret _ :: _) _ _)); refine al_ss ?_)
  refine Al.ok (hlen h3) ?_
  repeat (first | (with_reducible show Al _ (evEs _ _ (_ :: _) _ _)); refine al_cons (fun _ e => nomatch e) ?_ | (with_reducible show Al _ (evEs _ _ [] _ _)); refine al_nil ?_ | (with_reducible show Al _ (evE _ _ (.var _) _ _)); refine al_var rfl ?_ | (with_reducible show Al _ (evE _ _ (.con _) _ _)); refine al_con ?_ | (with_reducible show Al _ (evE _ _ (.call _ _) _ _)); refine al_call rfl ?_ | (with_reducible show Al _ (evE _ _ (.bin _ _ _) _ _)); refine al_bin ?_ | (with_reducible show Al _ (evE _ _ (.cmp _ _ _) _ _)); refine al_cmp ?_ | (with_reducible show Al _ (evE _ _ (.bi _ _) _ _)); refine al_bi ?_ | (with_reducible show Al _ (evE _ _ (.tup _) _ _)); refine al_tup ?_ | (with_reducible show Al _ (evE _ _ (.lst _) _ _)); refine al_lst ?_ | (with_reducible show Al _ (exS _ _ _ (.ret _) _ _)); refine al_ret ?_ | (with_reducible show Al _ (exS _ _ _ (.asg (.nm _) _) _ _)); refine al_asg ?_ | (with_reducible show Al _ (exS _ _ _ (.asg (.tp _) _) _ _)); refine al_asgt ?_ | (with_reducible show Al _ (exSs _ _ _ (.asg _ _ :: _) _ _)); refine al_ss ?_ | (with_reducible show Al _ (exSs _ _ _ (.ret _ :: _) _ _)); refine al_ss ?_)
  refine (a_roll (n := n + 4) (b := b + 1) (k := x.length) d3 (by omega) (by omega)).imp fun v h4 ⟨⟨to, ht, er⟩, d4, g4⟩ => ?_
  subst er
  have q3 : 3 ≤ sizeLine := Nat.le_trans (show 3 ≤ 16 by decide) (by decide)
  refine al_nil ⟨Nat.le_trans (show 2 ≤ 16 by decide) (by decide), _, rfl, ?_⟩
  repeat (first | (with_reducible show Al _ (evEs _ _ (_ :: _) _ _)); refine al_cons (fun _ e => nomatch e) ?_ | (with_reducible show Al _ (evEs _ _ [] _ _)); refine al_nil ?_ | (with_reducible show Al _ (evE _ _ (.var _) _ _)); refine al_var rfl ?_ | (with_reducible show Al _ (evE _ _ (.con _) _ _)); refine al_con ?_ | (with_reducible show Al _ (evE _ _ (.call _ _) _ _)); refine al_call rfl ?_ | (with_reducible show Al _ (evE _ _ (.bin _ _ _) _ _)); refine al_bin ?_ | (with_reducible show Al _ (evE _ _ (.cmp _ _ _) _ _)); refine al_cmp ?_ | (with_reducible show Al _ (evE _ _ (.bi _ _) _ _)); refine al_bi ?_ | (with_reducible show Al _ (evE _ _ (.tup _) _ _)); refine al_tup ?_ | (with_reducible show Al _ (evE _ _ (.lst _) _ _)); refine al_lst ?_ | (with_reducible show Al _ (exS _ _ _ (.ret _) _ _)); refine al_ret ?_ | (with_reducible show Al _ (exS _ _ _ (.asg (.nm _) _) _ _)); refine al_asg ?_ | (with_reducible show Al _ (exS _ _ _ (.asg (.tp _) _) _ _)); refine al_asgt ?_ | (with_reducible show Al _ (exSs _ _ _ (.asg _ _ :: _) _ _)); refine al_ss ?_ | (with_reducible show Al _ (exSs _ _ _ (.ret _ :: _) _ _)); refine al_ss ?_)
  refine ⟨q3, ?_⟩
  repeat (first | (with_reducible show Al _ (evEs _ _ (_ :: _) _ _)); refine al_cons (fun _ e => nomatch e) ?_ | (with_reducible show Al _ (evEs _ _ [] _ _)); refine al_nil ?_ | (with_reducible show Al _ (evE _ _ (.var _) _ _)); refine al_var rfl ?_ | (with_reducible show Al _ (evE _ _ (.con _) _ _)); refine al_con ?_ | (with_reducible show Al _ (evE _ _ (.call _ _) _ _)); refine al_call rfl ?_ | (with_reducible show Al _ (evE _ _ (.bin _ _ _) _ _)); refine al_bin ?_ | (with_reducible show Al _ (evE _ _ (.cmp _ _ _) _ _)); refine al_cmp ?_ | (with_reducible show Al _ (evE _ _ (.bi _ _) _ _)); refine al_bi ?_ | (with_reducible show Al _ (evE _ _ (.tup _) _ _)); refine al_tup ?_ | (with_reducible show Al _ (evE _ _ (.lst _) _ _)); refine al_lst ?_ | (with_reducible show Al _ (exS _ _ _ (.ret _) _ _)); refine al_ret ?_ | (with_reducible show Al _ (exS _ _ _ (.asg (.nm _) _) _ _)); refine al_asg ?_ | (with_reducible show Al _ (exS _ _ _ (.asg (.tp _) _) _ _)); refine al_asgt ?_ | (with_reducible show Al _ (exSs _ _ _ (.asg _ _ :: _) _ _)); refine al_ss ?_ | (with_reducible show Al _ (exSs _ _ _ (.ret _ :: _) _ _)); refine al_ss ?_)
  refine (a_one (n := n + 3) (b := b) (xs := oth) (d4.app _) get_last (Nat.ne_of_gt d4.lt) (by decide) (by decide)).imp fun v h5 ⟨hv, d5, g5⟩ => ?_
  obtain ⟨c, rfl, hc⟩ := oth_ok hv
  have g6 : Gr l h h5 := (g2.trans g3).trans (g4.trans ((Gr.app l h4 _).trans g5))
  have ha' : at_ < x.length := by omega
  have ht' : to < x.length := by omega
  show Al _ (exSs T (call (n + 5)) 0 (b__law_sums_right.drop 5) [some (.ref l), some (.str x), some (.str [c]), none, none, some (.int at_), some (.int to), none, none] h5)
  exact (sums_tail (n := n) d5 ox lx hc ha' ht').imp fun f h7 ⟨ef, d7, g8⟩ => by
    subst ef
    exact ⟨rfl, d7, g6.trans g8⟩
end K04
set_option Elab.async false
set_option linter.all false
set_option maxRecDepth 100000
set_option maxHeartbeats 400000
namespace K04
open PySem PySem.Spec PyProof.Rows L2 Mn
section
variable {cl : Nat → List PV → PH → Res PV} {ρ : PEnv} {h : PH}
theorem al_or {P : PV → PH → Prop} {a b : Ex} (k : Al (fun v h1 => ∃ t, pTru h1 v = some t ∧ if t then P v h1 else Al P (evE T cl b ρ h1)) (evE T cl a ρ h)) : Al P (evE T cl (.or a b) ρ h) := by
  simp only [evE]
  refine Al.bind (k.imp fun v h1 ⟨t, e, q⟩ => ?_)
  rw [e]
  cases t with
  | true => exact Al.ok rfl (by simpa using q)
  | false => simpa using q
theorem al_not {P : PV → PH → Prop} {a : Ex} (k : Al (fun v h1 => ∃ t, pTru h1 v = some t ∧ P (.bl (!t)) h1) (evE T cl a ρ h)) : Al P (evE T cl (.not a) ρ h) := by
  simp only [evE]
  refine Al.bind (k.imp fun v h1 ⟨t, e, q⟩ => ?_)
  rw [e]
  exact Al.ok rfl q
end
theorem law_turn {l b : Nat} {v0 v1 z2 z4 : Option PV} {h : PH} (d : Dc l (b + 57) h) : Al (fun f h' => f = .nx [v0, v1, z2, some (.ref l), z4] ∧ Dc l b h' ∧ Gr l h h') (exSs T (call 11) 0 [.ite (.or (.not (.call 22 [.var 3])) (.or (.not (.call 23 [.var 3])) (.not (.call 24 [.var 3])))) [.ret (.con (.bl false))] []] [v0, v1, z2, some (.ref l), z4] h) := by
  refine al_ss (al_ite (al_evT (al_or (al_not ?_))))
  repeat (first | (with_reducible show Al _ (evEs _ _ (_ :: _) _ _)); refine al_cons (fun _ e => nomatch e) ?_ | (with_reducible show Al _ (evEs _ _ [] _ _)); refine al_nil ?_ | (with_reducible show Al _ (evE _ _ (.var _) _ _)); refine al_var rfl ?_ | (with_reducible show Al _ (evE _ _ (.con _) _ _)); refine al_con ?_ | (with_reducible show Al _ (evE _ _ (.call _ _) _ _)); refine al_call rfl ?_ | (with_reducible show Al _ (evE _ _ (.bin _ _ _) _ _)); refine al_bin ?_ | (with_reducible show Al _ (evE _ _ (.cmp _ _ _) _ _)); refine al_cmp ?_ | (with_reducible show Al _ (evE _ _ (.bi _ _) _ _)); refine al_bi ?_ | (with_reducible show Al _ (evE _ _ (.tup _) _ _)); refine al_tup ?_ | (with_reducible show Al _ (evE _ _ (.lst _) _ _)); refine al_lst ?_ | (with_reducible show Al _ (exS _ _ _ (.ret _) _ _)); refine al_ret ?_ | (with_reducible show Al _ (exS _ _ _ (.asg (.nm _) _) _ _)); refine al_asg ?_ | (with_reducible show Al _ (exS _ _ _ (.asg (.tp _) _) _ _)); refine al_asgt ?_ | (with_reducible show Al _ (exSs _ _ _ (.asg _ _ :: _) _ _)); refine al_ss ?_ | (with_reducible show Al _ (exSs _ _ _ (.ret _ :: _) _ _)); refine al_ss ?_)
  refine (a_texts (n := 5) (b := b + 39) (by simpa [Nat.add_assoc] using d)).imp fun v h1 ⟨e1, d1, g1⟩ => ?_
  subst e1
  refine ⟨true, rfl, false, rfl, ?_⟩
  rw [if_neg (by decide)]
  refine al_or (al_not ?_)
  repeat (first | (with_reducible show Al _ (evEs _ _ (_ :: _) _ _)); refine al_cons (fun _ e => nomatch e) ?_ | (with_reducible show Al _ (evEs _ _ [] _ _)); refine al_nil ?_ | (with_reducible show Al _ (evE _ _ (.var _) _ _)); refine al_var rfl ?_ | (with_reducible show Al _ (evE _ _ (.con _) _ _)); refine al_con ?_ | (with_reducible show Al _ (evE _ _ (.call _ _) _ _)); refine al_call rfl ?_ | (with_reducible show Al _ (evE _ _ (.bin _ _ _) _ _)); refine al_bin ?_ | (with_reducible show Al _ (evE _ _ (.cmp _ _ _) _ _)); refine al_cmp ?_ | (with_reducible show Al _ (evE _ _ (.bi _ _) _ _)); refine al_bi ?_ | (with_reducible show Al _ (evE _ _ (.tup _) _ _)); refine al_tup ?_ | (with_reducible show Al _ (evE _ _ (.lst _) _ _)); refine al_lst ?_ | (with_reducible show Al _ (exS _ _ _ (.ret _) _ _)); refine al_ret ?_ | (with_reducible show Al _ (exS _ _ _ (.asg (.nm _) _) _ _)); refine al_asg ?_ | (with_reducible show Al _ (exS _ _ _ (.asg (.tp _) _) _ _)); refine al_asgt ?_ | (with_reducible show Al _ (exSs _ _ _ (.asg _ _ :: _) _ _)); refine al_ss ?_ | (with_reducible show Al _ (exSs _ _ _ (.ret _ :: _) _ _)); refine al_ss ?_)
  refine (a_bits (n := 5) (b := b + 34) (by simpa [Nat.add_assoc] using d1)).imp fun v h2 ⟨e2, d2, g2⟩ => ?_
  subst e2
  refine ⟨true, rfl, false, rfl, ?_⟩
  rw [if_neg (by decide)]
  refine al_not ?_
  repeat (first | (with_reducible show Al _ (evEs _ _ (_ :: _) _ _)); refine al_cons (fun _ e => nomatch e) ?_ | (with_reducible show Al _ (evEs _ _ [] _ _)); refine al_nil ?_ | (with_reducible show Al _ (evE _ _ (.var _) _ _)); refine al_var rfl ?_ | (with_reducible show Al _ (evE _ _ (.con _) _ _)); refine al_con ?_ | (with_reducible show Al _ (evE _ _ (.call _ _) _ _)); refine al_call rfl ?_ | (with_reducible show Al _ (evE _ _ (.bin _ _ _) _ _)); refine al_bin ?_ | (with_reducible show Al _ (evE _ _ (.cmp _ _ _) _ _)); refine al_cmp ?_ | (with_reducible show Al _ (evE _ _ (.bi _ _) _ _)); refine al_bi ?_ | (with_reducible show Al _ (evE _ _ (.tup _) _ _)); refine al_tup ?_ | (with_reducible show Al _ (evE _ _ (.lst _) _ _)); refine al_lst ?_ | (with_reducible show Al _ (exS _ _ _ (.ret _) _ _)); refine al_ret ?_ | (with_reducible show Al _ (exS _ _ _ (.asg (.nm _) _) _ _)); refine al_asg ?_ | (with_reducible show Al _ (exS _ _ _ (.asg (.tp _) _) _ _)); refine al_asgt ?_ | (with_reducible show Al _ (exSs _ _ _ (.asg _ _ :: _) _ _)); refine al_ss ?_ | (with_reducible show Al _ (exSs _ _ _ (.ret _ :: _) _ _)); refine al_ss ?_)
  refine (a_sums (n := 5) (b := b) d2).imp fun v h3 ⟨e3, d3, g3⟩ => ?_
  subst e3
  refine ⟨true, rfl, false, rfl, ?_⟩
  rw [if_neg (by decide)]
  exact al_nx (al_nx ⟨rfl, d3, g1.trans (g2.trans g3)⟩)
theorem law_turns {l b : Nat} {v0 v1 z2 z4 : Option PV} {h : PH} (d : Dc l (b + 171) h) : Al (fun f h' => ∃ z4', f = .nx [v0, v1, z2, some (.ref l), z4'] ∧ Gr l h h') (exS T (call 11) 0 (.for_ (.nm 4) .rng [.con (.int 3)] [.ite (.or (.not (.call 22 [.var 3])) (.or (.not (.call 23 [.var 3])) (.not (.call 24 [.var 3])))) [.ret (.con (.bl false))] []]) [v0, v1, z2, some (.ref l), z4] h) := by
  refine al_for (w := .fix ((List.range 3).map fun (i : Nat) => .int i)) (N := 3) (h1 := h) (Inv := fun i ρ h' => (∃ z4', ρ = [v0, v1, z2, some (.ref l), z4']) ∧ Dc l (b + 57 * (3 - i)) h' ∧ Gr l h h') (evI_rng (b := 3) (by simp only [evE, evEs, Res.bind_ok]; rfl) (by decide)) ?_ ?_ ?_
  · rintro i hi ρ h' ⟨⟨z4', rfl⟩, d', g'⟩
    refine ⟨.int i, fix_at (by simp [hi]), ?_⟩
    have d2 : Dc l (b + 57 * (3 - (i + 1)) + 57) h' := d'.le (by omega)
    unfold forB
    simp only [bindTg]
    refine (law_turn (v0 := v0) (v1 := v1) (z2 := z2) (z4 := some (.int i)) d2).imp fun f h2 ⟨ef, d3, g3⟩ => ?_
    subst ef
    exact ⟨⟨_, rfl⟩, d3, g'.trans g3⟩
  · rintro ρ h' ⟨⟨z4', rfl⟩, d', g'⟩
    exact ⟨by simpa using fix_end (xs := (List.range 3).map fun (i : Nat) => PV.int i) (h := h'), ⟨_, rfl, g'⟩⟩
  · exact ⟨⟨_, rfl⟩, d.le (by omega), Gr.refl l h⟩
theorem e_dice {n i : Nat} {xs : List PV} {h : PH} (hx : (intsOf xs).isSome = true) (hi : i < 100) : call (n + 1) 11 [.frk xs, .int i] h = .ok (.ref h.length) (h ++ [.dice (2 ^ 63)]) := by
  have e : call (n + 1) 11 [.frk xs, .int i] h = spDice [.frk xs, .int i] h := by
    show callS T 0 defs spec (n + 1) 11 [.frk xs, .int i] h = _
    simp only [callS, show defs[11]? = some d__law_dice from rfl, show spec 11 = some spDice from rfl]
    rfl
  rw [e]
  exact if_pos ⟨hx, by omega, by omega⟩
theorem law_len {xs : List PV} (hx : xs.length ≤ 63) : ∃ N : Nat, N ≤ 5 ∧ ∀ (ρ : PEnv) (h : PH), ρ[0]? = some (some (.frk xs)) → evEs T (call 11) [.bi .max [.con (.int 1), .bi .min [.con (.int 5), .bi .len [.var 0]]]] ρ h = .ok [.int N] h := by
  have gen : ∀ m : Int, 0 ≤ m → m ≤ 5 → ∃ N : Nat, N ≤ 5 ∧ (if m > 1 then m else 1) = (N : Int) := fun m h0 h5 => by
    by_cases q : m > 1
    · exact ⟨m.toNat, by omega, by rw [if_pos q]; omega⟩
    · exact ⟨1, by omega, by rw [if_neg q]; rfl⟩
  obtain ⟨N, hN, e⟩ := gen (if (xs.length : Int) < 5 then (xs.length : Int) else 5) (by split <;> omega) (by split <;> omega)
  refine ⟨N, hN, fun ρ h h0 => ?_⟩
  simp only [evE, evEs, Res.bind_ok, h0, pBi, e]
def told : List PV := [.int 3300, .int 3300, .int 0, .int 0, .int 10, .tup [.int 32768, .int 65535], .int 13835058055282163712]
theorem told_datum {h : PH} {m : Nat} (e : h[m]? = some (.lst told)) : datum h (.ref m) = some (.list [.int 3300, .int 3300, .int 0, .int 0, .int 10, .tuple [.int 32768, .int 65535], .int 13835058055282163712]) := by
  unfold datum
  simp only [toD, deref, e, toDs, told, Option.map_some]
  rfl
theorem told_eq {h : PH} {m k : Nat} (e : h[m]? = some (.lst told)) (e2 : h[k]? = some (.lst told)) : pEq h (.ref m) (.ref k) = some true := by
  unfold pEq
  rw [told_datum e, told_datum e2]
  simp [PyData.eqv, PyData.eqvAll]
theorem law_end {v0 z1 z3 z4 : Option PV} {h : PH} : Al (fun f _ => f = .rt (.bl true)) (exSs T (call 11) 0 (b_law.drop 1) [v0, z1, none, z3, z4] h) := by
  unfold b_law
  have ox : oks [10] := fun c hc => .inl (List.mem_singleton.mp hc)
  have c1 : ∀ hh, call 11 4 [.str [97, 99]] hh = .ok (.int ((3300 : Nat) : Int)) hh := fun hh => by
    have q := e_hash (n := 8) (x := [97, 99]) (h := hh) (by intro c hc; simp at hc; rcases hc with rfl | rfl <;> exact ⟨by decide, by decide⟩) (by decide)
    rw [show hsh [97, 99] = 3300 by decide] at q
    exact q
  have c2 : ∀ hh, call 11 4 [.str [98, 66]] hh = .ok (.int ((3300 : Nat) : Int)) hh := fun hh => by
    have q := e_hash (n := 8) (x := [98, 66]) (h := hh) (by intro c hc; simp at hc; rcases hc with rfl | rfl <;> exact ⟨by decide, by decide⟩) (by decide)
    rw [show hsh [98, 66] = 3300 by decide] at q
    exact q
  have c3 : ∀ hh, call 11 5 [.str []] hh = .ok (.int ((0 : Nat) : Int)) hh := fun hh => by
    have q := e_spot (n := 6) (x := []) (h := hh) (by intro c hc; simp at hc) (by decide)
    rw [show R 16 (hsh []) = 0 by decide] at q
    exact q
  have c4 : ∀ hh, ∃ g, call 11 6 [.str []] hh = .ok (.int ((0 : Nat) : Int)) (hh ++ g) := fun hh => by
    have q := e_sum (n := 9) (x := []) (h := hh) (by intro c hc; simp at hc) (by decide)
    rw [show sm 0 [] % 99991 = 0 by decide] at q
    exact q
  have c5 : ∀ hh, ∃ g, call 11 6 [.str [10]] hh = .ok (.int ((10 : Nat) : Int)) (hh ++ g) := fun hh => by
    have q := e_sum (n := 9) (x := [10]) (h := hh) ox (by decide)
    rw [show sm 0 [10] % 99991 = 10 by decide] at q
    exact q
  have c6 : ∀ hh, call 11 9 [.int ((1 : Nat) : Int), .int ((1 : Nat) : Int)] hh = .ok (.tup [.int ((32768 : Nat) : Int), .int ((65535 : Nat) : Int)]) hh := fun hh => by
    have q := e_bucket (n := 6) (k := 1) (b := 1) (h := hh) (by decide) (by decide)
    rw [show R 1 1 * 2 ^ (16 - 1) + 2 ^ (16 - 1) - 1 = 65535 by decide, show R 1 1 * 2 ^ (16 - 1) = 32768 by decide] at q
    exact q
  have c7 : ∀ hh, call 11 8 [.int 3, .int 64] hh = .ok (.int 13835058055282163712) hh := fun hh => by
    have q := e_rev (n := 7) (v := 3) (b := 64) (h := hh) (by decide) (by decide)
    have r : R 64 3 = 13835058055282163712 := by decide +kernel
    rw [r] at q
    exact q
  have small : ∀ m, m ≤ 16 → m ≤ sizeLine := fun m hm => Nat.le_trans hm (by decide)
  refine al_ss (al_asg ?_)
  repeat (first | (with_reducible show Al _ (evEs _ _ (_ :: _) _ _)); refine al_cons (fun _ e => nomatch e) ?_ | (with_reducible show Al _ (evEs _ _ [] _ _)); refine al_nil ?_ | (with_reducible show Al _ (evE _ _ (.var _) _ _)); refine al_var rfl ?_ | (with_reducible show Al _ (evE _ _ (.con _) _ _)); refine al_con ?_ | (with_reducible show Al _ (evE _ _ (.call _ _) _ _)); refine al_call rfl ?_ | (with_reducible show Al _ (evE _ _ (.bin _ _ _) _ _)); refine al_bin ?_ | (with_reducible show Al _ (evE _ _ (.cmp _ _ _) _ _)); refine al_cmp ?_ | (with_reducible show Al _ (evE _ _ (.bi _ _) _ _)); refine al_bi ?_ | (with_reducible show Al _ (evE _ _ (.tup _) _ _)); refine al_tup ?_ | (with_reducible show Al _ (evE _ _ (.lst _) _ _)); refine al_lst ?_ | (with_reducible show Al _ (exS _ _ _ (.ret _) _ _)); refine al_ret ?_ | (with_reducible show Al _ (exS _ _ _ (.asg (.nm _) _) _ _)); refine al_asg ?_ | (with_reducible show Al _ (exS _ _ _ (.asg (.tp _) _) _ _)); refine al_asgt ?_ | (with_reducible show Al _ (exSs _ _ _ (.asg _ _ :: _) _ _)); refine al_ss ?_ | (with_reducible show Al _ (exSs _ _ _ (.ret _ :: _) _ _)); refine al_ss ?_)
  refine Al.ok (c1 _) ?_
  repeat (first | (with_reducible show Al _ (evEs _ _ (_ :: _) _ _)); refine al_cons (fun _ e => nomatch e) ?_ | (with_reducible show Al _ (evEs _ _ [] _ _)); refine al_nil ?_ | (with_reducible show Al _ (evE _ _ (.var _) _ _)); refine al_var rfl ?_ | (with_reducible show Al _ (evE _ _ (.con _) _ _)); refine al_con ?_ | (with_reducible show Al _ (evE _ _ (.call _ _) _ _)); refine al_call rfl ?_ | (with_reducible show Al _ (evE _ _ (.bin _ _ _) _ _)); refine al_bin ?_ | (with_reducible show Al _ (evE _ _ (.cmp _ _ _) _ _)); refine al_cmp ?_ | (with_reducible show Al _ (evE _ _ (.bi _ _) _ _)); refine al_bi ?_ | (with_reducible show Al _ (evE _ _ (.tup _) _ _)); refine al_tup ?_ | (with_reducible show Al _ (evE _ _ (.lst _) _ _)); refine al_lst ?_ | (with_reducible show Al _ (exS _ _ _ (.ret _) _ _)); refine al_ret ?_ | (with_reducible show Al _ (exS _ _ _ (.asg (.nm _) _) _ _)); refine al_asg ?_ | (with_reducible show Al _ (exS _ _ _ (.asg (.tp _) _) _ _)); refine al_asgt ?_ | (with_reducible show Al _ (exSs _ _ _ (.asg _ _ :: _) _ _)); refine al_ss ?_ | (with_reducible show Al _ (exSs _ _ _ (.ret _ :: _) _ _)); refine al_ss ?_)
  refine Al.ok (c2 _) ?_
  repeat (first | (with_reducible show Al _ (evEs _ _ (_ :: _) _ _)); refine al_cons (fun _ e => nomatch e) ?_ | (with_reducible show Al _ (evEs _ _ [] _ _)); refine al_nil ?_ | (with_reducible show Al _ (evE _ _ (.var _) _ _)); refine al_var rfl ?_ | (with_reducible show Al _ (evE _ _ (.con _) _ _)); refine al_con ?_ | (with_reducible show Al _ (evE _ _ (.call _ _) _ _)); refine al_call rfl ?_ | (with_reducible show Al _ (evE _ _ (.bin _ _ _) _ _)); refine al_bin ?_ | (with_reducible show Al _ (evE _ _ (.cmp _ _ _) _ _)); refine al_cmp ?_ | (with_reducible show Al _ (evE _ _ (.bi _ _) _ _)); refine al_bi ?_ | (with_reducible show Al _ (evE _ _ (.tup _) _ _)); refine al_tup ?_ | (with_reducible show Al _ (evE _ _ (.lst _) _ _)); refine al_lst ?_ | (with_reducible show Al _ (exS _ _ _ (.ret _) _ _)); refine al_ret ?_ | (with_reducible show Al _ (exS _ _ _ (.asg (.nm _) _) _ _)); refine al_asg ?_ | (with_reducible show Al _ (exS _ _ _ (.asg (.tp _) _) _ _)); refine al_asgt ?_ | (with_reducible show Al _ (exSs _ _ _ (.asg _ _ :: _) _ _)); refine al_ss ?_ | (with_reducible show Al _ (exSs _ _ _ (.ret _ :: _) _ _)); refine al_ss ?_)
  refine Al.ok (c3 _) ?_
  repeat (first | (with_reducible show Al _ (evEs _ _ (_ :: _) _ _)); refine al_cons (fun _ e => nomatch e) ?_ | (with_reducible show Al _ (evEs _ _ [] _ _)); refine al_nil ?_ | (with_reducible show Al _ (evE _ _ (.var _) _ _)); refine al_var rfl ?_ | (with_reducible show Al _ (evE _ _ (.con _) _ _)); refine al_con ?_ | (with_reducible show Al _ (evE _ _ (.call _ _) _ _)); refine al_call rfl ?_ | (with_reducible show Al _ (evE _ _ (.bin _ _ _) _ _)); refine al_bin ?_ | (with_reducible show Al _ (evE _ _ (.cmp _ _ _) _ _)); refine al_cmp ?_ | (with_reducible show Al _ (evE _ _ (.bi _ _) _ _)); refine al_bi ?_ | (with_reducible show Al _ (evE _ _ (.tup _) _ _)); refine al_tup ?_ | (with_reducible show Al _ (evE _ _ (.lst _) _ _)); refine al_lst ?_ | (with_reducible show Al _ (exS _ _ _ (.ret _) _ _)); refine al_ret ?_ | (with_reducible show Al _ (exS _ _ _ (.asg (.nm _) _) _ _)); refine al_asg ?_ | (with_reducible show Al _ (exS _ _ _ (.asg (.tp _) _) _ _)); refine al_asgt ?_ | (with_reducible show Al _ (exSs _ _ _ (.asg _ _ :: _) _ _)); refine al_ss ?_ | (with_reducible show Al _ (exSs _ _ _ (.ret _ :: _) _ _)); refine al_ss ?_)
  obtain ⟨g4, q4⟩ := c4 h
  refine Al.ok q4 ?_
  repeat (first | (with_reducible show Al _ (evEs _ _ (_ :: _) _ _)); refine al_cons (fun _ e => nomatch e) ?_ | (with_reducible show Al _ (evEs _ _ [] _ _)); refine al_nil ?_ | (with_reducible show Al _ (evE _ _ (.var _) _ _)); refine al_var rfl ?_ | (with_reducible show Al _ (evE _ _ (.con _) _ _)); refine al_con ?_ | (with_reducible show Al _ (evE _ _ (.call _ _) _ _)); refine al_call rfl ?_ | (with_reducible show Al _ (evE _ _ (.bin _ _ _) _ _)); refine al_bin ?_ | (with_reducible show Al _ (evE _ _ (.cmp _ _ _) _ _)); refine al_cmp ?_ | (with_reducible show Al _ (evE _ _ (.bi _ _) _ _)); refine al_bi ?_ | (with_reducible show Al _ (evE _ _ (.tup _) _ _)); refine al_tup ?_ | (with_reducible show Al _ (evE _ _ (.lst _) _ _)); refine al_lst ?_ | (with_reducible show Al _ (exS _ _ _ (.ret _) _ _)); refine al_ret ?_ | (with_reducible show Al _ (exS _ _ _ (.asg (.nm _) _) _ _)); refine al_asg ?_ | (with_reducible show Al _ (exS _ _ _ (.asg (.tp _) _) _ _)); refine al_asgt ?_ | (with_reducible show Al _ (exSs _ _ _ (.asg _ _ :: _) _ _)); refine al_ss ?_ | (with_reducible show Al _ (exSs _ _ _ (.ret _ :: _) _ _)); refine al_ss ?_)
  obtain ⟨g5, q5⟩ := c5 (h ++ g4)
  refine Al.ok q5 ?_
  repeat (first | (with_reducible show Al _ (evEs _ _ (_ :: _) _ _)); refine al_cons (fun _ e => nomatch e) ?_ | (with_reducible show Al _ (evEs _ _ [] _ _)); refine al_nil ?_ | (with_reducible show Al _ (evE _ _ (.var _) _ _)); refine al_var rfl ?_ | (with_reducible show Al _ (evE _ _ (.con _) _ _)); refine al_con ?_ | (with_reducible show Al _ (evE _ _ (.call _ _) _ _)); refine al_call rfl ?_ | (with_reducible show Al _ (evE _ _ (.bin _ _ _) _ _)); refine al_bin ?_ | (with_reducible show Al _ (evE _ _ (.cmp _ _ _) _ _)); refine al_cmp ?_ | (with_reducible show Al _ (evE _ _ (.bi _ _) _ _)); refine al_bi ?_ | (with_reducible show Al _ (evE _ _ (.tup _) _ _)); refine al_tup ?_ | (with_reducible show Al _ (evE _ _ (.lst _) _ _)); refine al_lst ?_ | (with_reducible show Al _ (exS _ _ _ (.ret _) _ _)); refine al_ret ?_ | (with_reducible show Al _ (exS _ _ _ (.asg (.nm _) _) _ _)); refine al_asg ?_ | (with_reducible show Al _ (exS _ _ _ (.asg (.tp _) _) _ _)); refine al_asgt ?_ | (with_reducible show Al _ (exSs _ _ _ (.asg _ _ :: _) _ _)); refine al_ss ?_ | (with_reducible show Al _ (exSs _ _ _ (.ret _ :: _) _ _)); refine al_ss ?_)
  refine Al.ok (c6 _) ?_
  refine al_nil ⟨small _ (by decide), ?_⟩
  generalize h ++ g4 ++ g5 = h1
  repeat (first | (with_reducible show Al _ (evEs _ _ (_ :: _) _ _)); refine al_cons (fun _ e => nomatch e) ?_ | (with_reducible show Al _ (evEs _ _ [] _ _)); refine al_nil ?_ | (with_reducible show Al _ (evE _ _ (.var _) _ _)); refine al_var rfl ?_ | (with_reducible show Al _ (evE _ _ (.con _) _ _)); refine al_con ?_ | (with_reducible show Al _ (evE _ _ (.call _ _) _ _)); refine al_call rfl ?_ | (with_reducible show Al _ (evE _ _ (.bin _ _ _) _ _)); refine al_bin ?_ | (with_reducible show Al _ (evE _ _ (.cmp _ _ _) _ _)); refine al_cmp ?_ | (with_reducible show Al _ (evE _ _ (.bi _ _) _ _)); refine al_bi ?_ | (with_reducible show Al _ (evE _ _ (.tup _) _ _)); refine al_tup ?_ | (with_reducible show Al _ (evE _ _ (.lst _) _ _)); refine al_lst ?_ | (with_reducible show Al _ (exS _ _ _ (.ret _) _ _)); refine al_ret ?_ | (with_reducible show Al _ (exS _ _ _ (.asg (.nm _) _) _ _)); refine al_asg ?_ | (with_reducible show Al _ (exS _ _ _ (.asg (.tp _) _) _ _)); refine al_asgt ?_ | (with_reducible show Al _ (exSs _ _ _ (.asg _ _ :: _) _ _)); refine al_ss ?_ | (with_reducible show Al _ (exSs _ _ _ (.ret _ :: _) _ _)); refine al_ss ?_)
  refine Al.ok (c7 _) ?_
  refine al_nil ⟨small _ (by decide), ?_⟩
  refine Al.ok (a := .ref (h1.length + 2)) (h := h1 ++ [.lst (told.take 6)] ++ [.lst [.int 13835058055282163712]] ++ [.lst told]) ?_ ?_
  · have s7 : 6 + 1 ≤ sizeLine := small _ (by decide)
    simp [pBin, told, s7]
  refine Al.ok (a := .ref (h1.length + 3)) (h := h1 ++ [.lst (told.take 6)] ++ [.lst [.int 13835058055282163712]] ++ [.lst told] ++ [.lst told]) ?_ ?_
  · have s7 : 7 ≤ sizeLine := small _ (by decide)
    have s2 : 2 ≤ sizeLine := small _ (by decide)
    have hb : big 3 4611686018427387904 = true := by decide +kernel
    simp [evE, evEs, Res.bind, pBin, hb, told, s7, s2]
  refine Al.ok (a := .bl true) (h := h1 ++ [.lst (told.take 6)] ++ [.lst [.int 13835058055282163712]] ++ [.lst told] ++ [.lst told]) ?_ rfl
  have q := told_eq (h := h1 ++ [.lst (told.take 6)] ++ [.lst [.int 13835058055282163712]] ++ [.lst told] ++ [.lst told]) (m := h1.length + 2) (k := h1.length + 3) (by simp) (by simp)
  simp only [pCmp, q, ob]
theorem law_al {ns : List Int} (hn : ns.length ≤ 63) : Al (fun v _ => v = .bl true) (call 12 25 [.frk (ns.map .int)] []) := by
  rw [call_run (d := d_law) rfl rfl]
  refine al_run rfl ?_
  show Al _ (exSs T (call 11) 0 b_law [some (.frk (ns.map .int)), none, none, none, none] [])
  obtain ⟨N, hN, eN⟩ := law_len (xs := ns.map .int) (by simpa using hn)
  have hI : ∀ ρ h, ρ[0]? = some (some (.frk (ns.map .int))) → evI T (call 11) .rng [.bi .max [.con (.int 1), .bi .min [.con (.int 5), .bi .len [.var 0]]]] ρ h = .ok (.fix ((List.range N).map fun (i : Nat) => .int i), N) h := fun ρ h h0 => evI_rng (eN ρ h h0) (by omega)
  have hints : ∀ l : List Int, (intsOf (l.map .int)).isSome = true := fun l => by
    induction l with
    | nil => rfl
    | cons a l ih =>
      obtain ⟨w, e⟩ := Option.isSome_iff_exists.mp ih
      simp only [List.map_cons, intsOf, e, Option.map_some, Option.isSome_some]
  unfold b_law
  refine al_ss (al_for (w := .fix ((List.range N).map fun (i : Nat) => .int i)) (N := N) (h1 := []) (Inv := fun i ρ h' => ∃ z1 z3 z4, ρ = [some (.frk (ns.map .int)), z1, none, z3, z4]) (hI _ _ rfl) ?_ ?_ ⟨_, _, _, rfl⟩)
  · rintro i hi ρ h' ⟨z1, z3, z4, rfl⟩
    refine ⟨.int i, fix_at (by simp [hi]), ?_⟩
    unfold forB
    simp only [bindTg]
    show Al _ (exSs T (call 11) 0 [.asg (.nm 3) (.call 11 [.var 0, .var 1]), .for_ (.nm 4) .rng [.con (.int 3)] [.ite (.or (.not (.call 22 [.var 3])) (.or (.not (.call 23 [.var 3])) (.not (.call 24 [.var 3])))) [.ret (.con (.bl false))] []]] [some (.frk (ns.map .int)), some (.int i), none, z3, z4] h')
    repeat (first | (with_reducible show Al _ (evEs _ _ (_ :: _) _ _)); refine al_cons (fun _ e => nomatch e) ?_ | (with_reducible show Al _ (evEs _ _ [] _ _)); refine al_nil ?_ | (with_reducible show Al _ (evE _ _ (.var _) _ _)); refine al_var rfl ?_ | (with_reducible show Al _ (evE _ _ (.con _) _ _)); refine al_con ?_ | (with_reducible show Al _ (evE _ _ (.call _ _) _ _)); refine al_call rfl ?_ | (with_reducible show Al _ (evE _ _ (.bin _ _ _) _ _)); refine al_bin ?_ | (with_reducible show Al _ (evE _ _ (.cmp _ _ _) _ _)); refine al_cmp ?_ | (with_reducible show Al _ (evE _ _ (.bi _ _) _ _)); refine al_bi ?_ | (with_reducible show Al _ (evE _ _ (.tup _) _ _)); refine al_tup ?_ | (with_reducible show Al _ (evE _ _ (.lst _) _ _)); refine al_lst ?_ | (with_reducible show Al _ (exS _ _ _ (.ret _) _ _)); refine al_ret ?_ | (with_reducible show Al _ (exS _ _ _ (.asg (.nm _) _) _ _)); refine al_asg ?_ | (with_reducible show Al _ (exS _ _ _ (.asg (.tp _) _) _ _)); refine al_asgt ?_ | (with_reducible show Al _ (exSs _ _ _ (.asg _ _ :: _) _ _)); refine al_ss ?_ | (with_reducible show Al _ (exSs _ _ _ (.ret _ :: _) _ _)); refine al_ss ?_)
    refine Al.ok (e_dice (n := 10) (hints ns) (by omega)) ?_
    refine al_ss ((law_turns (b := 0) (l := h'.length) (v0 := some (.frk (ns.map .int))) (v1 := some (.int i)) (z2 := none) (z4 := z4) ⟨2 ^ 63, get_last, by decide⟩).imp fun f h2 ⟨z4', ef, g⟩ => ?_)
    subst ef
    exact al_nx ⟨_, _, _, rfl⟩
  · rintro ρ h' ⟨z1, z3, z4, rfl⟩
    refine ⟨by simpa using fix_end (xs := (List.range N).map fun (i : Nat) => PV.int i) (h := h'), ?_⟩
    refine law_end.imp fun f h2 ef => ?_
    subst ef
    rfl
end K04
set_option Elab.async false
set_option linter.all false
set_option maxRecDepth 100000
set_option maxHeartbeats 0
namespace K04
open PySem PySem.Spec PyProof.Rows L2 Mn
def Tr : Res PV → Prop
  | .ok v _ => v = .bl true
  | .er _ _ => False
  | .stuck => False
  | .all n k => ∀ i < n, Tr (k i)
theorem Tr.ok {G : Gm} {E : XK} {as : List Addr} {H : Hp} {r : Res PV} (t : Tr r) : OkV G E as H (fun v _ => v = .bl true) r := by
  induction r with
  | ok v h =>
    intro as' H' v' f r
    have e : v = .bl true := t
    rw [e] at r
    exact RepV.blE r
  | er x h => exact False.elim t
  | stuck => exact False.elim t
  | all n f ih => exact fun i hi => ih i (t i hi)
theorem al_tr {r : Res PV} (h : Al (fun v _ => v = .bl true) r) : Tr r := by
  induction h with
  | ret p => exact p
  | draw q ih => exact ih
theorem core (ns : List Int) (h : ns.length ≤ 63) : Tr (call 12 25 [.frk (ns.map .int)] []) := al_tr (law_al h)
theorem spOk (K : PySem.W.Frag) : SpOk (gm K) T 0 defs spec := by
  intro i d r hd hs n as H h xs vs Q E S R hl o
  unfold spec at hs
  split at hs
  · cases hs
    cases hd
    exact ⟨as, h, S, R, dice_ok rfl rfl rfl hl o⟩
  · cases hs
    cases hd
    obtain ⟨h', S', o'⟩ := roll_ok (d := d__law_roll) rfl rfl rfl S hl o
    exact ⟨as, h', S', R, o'⟩
  · cases hs
def spLaw (K : PySem.W.Frag) : Sp := spF (gm K) (call 12) 25 1
theorem frk_ints {G : Gm} {as : List Addr} {H : Hp} : ∀ ns : List Int, RepVs G as H (ns.map .int) (ns.map V.int)
  | [] => .nil
  | n :: ns => .cons (.int n) (frk_ints ns)
theorem law_sp {K : PySem.W.Frag} {H : Hp} {a : Addr} {ns : List Int} (hl : ns.length ≤ 63) (hO : Only H) (hS : SqL K H a (ns.map V.int)) : spLaw K [.ref a] H (fun v _ => v = .bl true) fun _ _ _ => False := by
  have hF : SqF K H a (ns.map V.int) := by
    rcases hS with (h | ⟨o, h⟩) | h
    · rcases hO a with q | ⟨o, xs, q⟩
      · rw [q] at h; cases h
      · rw [q] at h; cases h
    · exact .inl ⟨o, h⟩
    · exact .inr h
  refine ⟨rfl, [], [], [.frk (ns.map .int)], ⟨List.nodup_nil, rfl, fun l o a e => by simp at e⟩, .cons ?_ .nil, (core ns hl).ok⟩
  unfold RepV
  exact ⟨a, ns.map V.int, rfl, hF, frk_ints ns⟩
abbrev RowK : PySem.W.OpenRow := PySem.W.OpenLaw.row PySem.Challenge.rw_deedline_k04_hashes_spots_and_check_sums
abbrev hk : PySem.W.Hook := He.hookD 4 fa fn
def ob (s : PySem.W.SharedT) : He.AlD := He.obsDG 4 fa fn (HandSHeadRun.getT s)
theorem ob_eq (s : PySem.W.SharedT) : ob s = hk.obs s.abs := He.obsDG_eq (HandSHeadRun.getT_eq s)
def loose : List Str := (["__name__", "DeedError", "InvalidText", "InvalidNumber", "MAX_TEXT", "is_within", "is_text", "check_text", "check_within", "HASH_BITS", "SUM_MODULUS", "_HASH_MODULUS", "_MAX_BITS", "hash_of", "spot_of", "sum_of", "_are_signs", "reversed_bits"] : List Str) ++ (["bucket_spots", "_check_bits", "_law_dice", "_law_roll", "_law_one_of", "_law_key", "_law_text", "_law_number", "_law_power", "_law_turned", "_law_hash", "_law_sum", "_law_signs", "_law_texts_right", "_law_bits_right", "_law_sums_right"] : List Str)
theorem run (w : World) : HandSHeadRun.RunEq RowK (PySem.W.view RowK.prog [37]) hk ob 4000 loose w := by
  intro os
  kernel_rfl
def CXw (P : Program) : CXT := fun outer H s E e s' => ∃ w, L2.CX P w outer H s E e s'
theorem fnok_cx {P : Program} {w : World} {K : PySem.W.Frag} {mg : Str → Option Value} {base : Heap} {CX CX' : CXT} {k : Nat} {f : Addr} {fd : FuncData} {ps : List Str} {sp : Sp} (F : FnOk P w K mg base CX k f fd ps sp) (h : ∀ o H s E e s', CX o H s E e s' → CX' o H s E e s') : FnOk P w K mg base CX' k f fd ps sp :=
  ⟨F.len, fun A outer s H args us vs Q E hr he hb hv hs => codeAny_mono (F.run A outer s H args us vs Q E hr he hb hv hs) fun r s' q => by
    cases r with
    | error e => exact h _ _ _ _ _ _ q
    | ok fl => cases fl <;> exact q⟩
theorem facts {P : Program} {w : World} {K : PySem.W.Frag} {h : Heap} {mg : Str → Option Value} {f : Addr} (X : K.In h) (G : h.Ns mainGlobals mg) (hfa : mg ("law" : Str) = some (.ref f)) (c : He.SaysD fa fn K) :
    ∃ fd : FuncData, (∀ (s : Shared) (v : Value), BindsTo s fd ⟨[v], []⟩ [("_law_script", v)]) ∧ ∀ base : Heap, K.In base → base.Ns mainGlobals mg → FnOk P w K mg base (CXw P) 12 f fd ["_law_script"] (spLaw K) := by
  obtain ⟨fd, F⟩ := c.def_ 25 (d := D_law) rfl
  have e := hfa.symm.trans (He.glo_ok X G (c.fact 25 (f := .glo "law") rfl))
  cases e
  have b := FunD.bindsA (ps := ["_law_script"]) F fun _ _ _ _ _ _ us hl => match us, hl with | [_], _ => rfl
  refine ⟨fd, fun s v => b s [v] rfl, fun base _ _ => ?_⟩
  have D : DOk (gm K) T nm K 25 d_law fd := ⟨⟨_, _, _, _, _, F, S_law, .inl c_law⟩, F.bindsN fun _ _ _ _ _ _ us hl => match us, hl with | [_], _ => rfl, F.kp⟩
  refine fnok_cx (CX := L2.CX P w) ?_ fun o H s E e s' q => ⟨w, q⟩
  exact fn_mini (W := 0) (i := 25) (gok X G c) D (all_fns (P := P) (w := w) (base := base) (gok X G c) (dok c) (spOk K) 11)
end K04
open PySem PySem.W PySem.Calls PyProof.Rows
theorem PySem.Challenge.cw_deedline_k04_hashes_spots_and_check_sums_holds : PySem.Challenge.rw_deedline_k04_hashes_spots_and_check_sums.Holds := by
  w_on; o_law
  refine HandSHeadRun.head_any (r := OpenLaw.row PySem.Challenge.rw_deedline_k04_hashes_spots_and_check_sums) (q := view (OpenLaw.row PySem.Challenge.rw_deedline_k04_hashes_spots_and_check_sums).prog [37]) (H := K04.hk) (ob := K04.ob) (M := 4000) (loose := K04.loose) (d := HandSHeadRun.topDef (OpenLaw.row PySem.Challenge.rw_deedline_k04_hashes_spots_and_check_sums).prog 37) (kwd := []) K04.ob_eq
    (by kernel_rfl) (fun s => by kernel_rfl) K04.run (by kernel_rfl) (by kernel_rfl) (by kernel_rfl) (by rfl) (by first | assumption | decide +kernel) (by decide +kernel) ⟨rfl, rfl, rfl, rfl, rfl, by decide +kernel⟩ ?hw ?hc
  case hw => w_witness2
  case hc =>
    refine L2.walk_ofE (l := PySem.Challenge.rw_deedline_k04_hashes_spots_and_check_sums) (n := 63) (k := 12) (x := "_law_script") (CX := K04.CXw (PySem.Challenge.rw_deedline_k04_hashes_spots_and_check_sums).prog) rfl (by decide) (by kernel_rfl) ⟨rfl, by decide, by decide⟩ ?F ?G
    case G =>
      intro H s e s' h
      obtain ⟨_, _, _, _, _, _, _, _, _, _, _, _, _, q⟩ := h
      exact q
    intro w mg fa h Y G hmg0
    obtain ⟨K, KX, c⟩ := Y
    have hmg : mg ("law" : PySem.Str) = some (.ref fa) := by
      have e : (HandSHeadRun.topDef (OpenLaw.row PySem.Challenge.rw_deedline_k04_hashes_spots_and_check_sums).prog 37).name = ("law" : PySem.Str) := by kernel_rfl
      rw [← e]
      exact hmg0
    obtain ⟨fd, hb, hF⟩ := K04.facts (P := (PySem.Challenge.rw_deedline_k04_hashes_spots_and_check_sums).prog) (w := w) KX G hmg c
    exact ⟨K, fd, K04.spLaw K, KX, hb, fun H a ns hl hO hS => K04.law_sp hl hO hS, hF⟩
