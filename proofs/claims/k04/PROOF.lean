import PyProof.Rows.All
import HandS.ForMost
import HandS.Wide
import HandS.Exc
import HandS.IsInst
import HandS.Walk
import HandS.StrMore
import KE.DataCmp
import HandS.TupAny
import HandS.TupLe
import HandS.Deep
import KE.KIsAll
import PyProof.FactsAll.set
import PyProof.FactsAll.object
import HandS.SortRule
import HandS.Conv
import HandS.Set
import KE.KDictList
import PyProof.Rows.SortShellAny
import PyProof.TupleOfSeq
import HandS.Property
import HandS.RaiseMore
import HandS.ClsMeth
import HandS.SetFor
import HandS.More
import HandS.ExcOwn
import HandS.Flow
import KE.GoesMore
import PyProof.EnumMake
import PyProof.TupleIter
import HandS.Style
import HandS.Small
import HandS.NoneIn
import HandS.ReplaceDef
import HandS.DictComp
import HandS.ListItems
import HandS.CallLocal
import HandS.Dict
import HandS.Steps
import HandS.WordsExc
import KE.KDictZip
import KE.GoesZip
import PyProof.ListNew
import HandS.Iter
import HandS.RevRange
import HandS.Star
import PyProof.InstNe
import HandS.TupSets
import HandS.ReplaceLit
import HandS.Defaults
import HandS.HeadNt
import Wide.All
import OpenK.AllK
import Wide.FinOn
import KE.KStateDown
import Lean
import HandS.Base
import HandS.Call
import HandS.Ends
import HandS.Words
import HandS.Head0
import HandS.Head1
import HandS.Head2
import HandS.HeadEnd
import HandS.HeadHook1
import HandS.HeadHook2
import PySem.Challenge.RW_deedline_k04_hashes_spots_and_check_sums
import KE.BitLaws
import HandS.ReplaceList
import PyProof.Rows.StrStrike
import PyProof.Rows.StrSigns2
set_option Elab.async false
set_option linter.all false
set_option maxRecDepth 100000
set_option maxHeartbeats 2000000
namespace Mn
open PySem L2
inductive PV where
  | non | bl (b : Bool) | int (i : Int) | str (x : List Nat) | tup (xs : List PV) | ref (l : Nat) | frk (xs : List PV) | fn (i : Nat) | cls (c : Nat) | ty (n : String)
inductive PO where
  | lst (xs : List PV)
  | frz (xs : List PV)
  | dic (kvs : List (Key × PV))
  | fdic (kvs : List (Key × PV))
  | ins (c : Nat) (fs : List (Nat × PV))
  | dice (b : Nat)
abbrev PH := List PO
abbrev PEnv := List (Option PV)
structure PX where
  c : Nat
  fs : List (Nat × PV)
inductive Res (α : Type) where
  | ok (a : α) (h : PH)
  | er (x : PX) (h : PH)
  | stuck
  | all (n : Nat) (k : Nat → Res α)
def Res.bind {α β : Type} (r : Res α) (k : α → PH → Res β) : Res β := match r with
  | .ok a h => k a h
  | .er x h => .er x h
  | .stuck => .stuck
  | .all n f => .all n fun i => (f i).bind k
@[simp] theorem Res.bind_ok {α β : Type} (a : α) (h : PH) (k : α → PH → Res β) : (Res.ok a h).bind k = k a h := rfl
@[simp] theorem Res.bind_er {α β : Type} (x : PX) (h : PH) (k : α → PH → Res β) : (Res.er x h : Res α).bind k = .er x h := rfl
@[simp] theorem Res.bind_stuck {α β : Type} (k : α → PH → Res β) : (Res.stuck : Res α).bind k = .stuck := rfl
@[simp] theorem Res.bind_all {α β : Type} (n : Nat) (f : Nat → Res α) (k : α → PH → Res β) : (Res.all n f).bind k = .all n fun i => (f i).bind k := rfl
structure Gm where
  K : PySem.W.Frag
  fa : Nat → Addr
  ca : Nat → Addr
  an : List Str
def SqF (K : PySem.W.Frag) (H : Hp) (a : Addr) (xs : List V) : Prop := (∃ o, H a = some (.frz o (.lst xs))) ∨ ∃ (o : Obj) (its : Array Value) (n : Nat), K.lookup a = some o ∧ o.cls = .type "list" ∧ o.dict = none ∧ o.data = .seq its n ∧ its.size ≤ sizeLine ∧ Vals xs its.toList
theorem SqF.sq {K : PySem.W.Frag} {H : Hp} {a : Addr} {xs : List V} (h : SqF K H a xs) : SqL K H a xs := by
  rcases h with ⟨o, h⟩ | h
  · exact .inl (.inr ⟨o, h⟩)
  · exact .inr h
section
variable (G : Gm) (as : List Addr) (H : Hp)
mutual
def RepV : PV → V → Prop
  | .non, v => v = .non
  | .bl b, v => v = .bl b
  | .int i, v => v = .int i
  | .str x, v => v = .str ⟨x.toArray⟩
  | .tup xs, v => ∃ a vs, v = .ref a ∧ SqT G.K H a vs ∧ RepVs xs vs
  | .ref l, v => ∃ a, as[l]? = some a ∧ v = .ref a
  | .frk xs, v => ∃ a vs, v = .ref a ∧ SqF G.K H a vs ∧ RepVs xs vs
  | .fn i, v => v = .ref (G.fa i)
  | .cls c, v => v = .ref (G.ca c)
  | .ty n, v => v = .ty n
def RepVs : List PV → List V → Prop
  | [], vs => vs = []
  | x :: xs, vs => ∃ v r, vs = v :: r ∧ RepV x v ∧ RepVs xs r
end
def RepK : List (Key × PV) → List (Key × V) → Prop
  | [], ks => ks = []
  | (k, x) :: xs, ks => ∃ v r, ks = (k, v) :: r ∧ RepV G as H x v ∧ RepK xs r
def RepF : List (Nat × PV) → List (Str × V) → Prop
  | [], ks => ks = []
  | (k, x) :: xs, ks => ∃ n v r, ks = (n, v) :: r ∧ G.an[k]? = some n ∧ RepV G as H x v ∧ RepF xs r
def RepO : PO → Addr → Prop
  | .lst xs, a => ∃ vs, H a = some (.lst vs) ∧ RepVs G as H xs vs
  | .frz xs, a => ∃ o vs, H a = some (.frz o (.lst vs)) ∧ RepVs G as H xs vs
  | .dic kvs, a => ∃ ks, H a = some (.dK ks) ∧ RepK G as H kvs ks
  | .fdic kvs, a => ∃ o ks, H a = some (.frz o (.dK ks)) ∧ RepK G as H kvs ks
  | .ins c fs, a => ∃ dx gs, H a = some (.ins (G.ca c) dx gs) ∧ RepF G as H fs gs
  | .dice b, a => ∃ i j k : Int, H a = some (.lst [.int i, .int j, .int k]) ∧ (0 ≤ i ∧ i < 10 ^ 600) ∧ (0 ≤ j ∧ j < 2 ^ 40) ∧ (0 ≤ k ∧ k + b ≤ 2 ^ 64)
structure SR (h : PH) : Prop where
  nd : as.Nodup
  len : as.length = h.length
  at_ : ∀ (l : Nat) (o : PO) (a : Addr), h[l]? = some o → as[l]? = some a → RepO G as H o a
end
structure Kp (H H' : Hp) : Prop where
  tups : ∀ b xs, H b = some (.tup xs) → H' b = some (.tup xs)
  frzs : ∀ b o u, H b = some (.frz o u) → H' b = some (.frz o u)
theorem Kp.refl (H : Hp) : Kp H H := ⟨fun _ _ h => h, fun _ _ _ h => h⟩
theorem Kp.trans {H H1 H2 : Hp} (a : Kp H H1) (b : Kp H1 H2) : Kp H H2 := ⟨fun x o h => b.tups x o (a.tups x o h), fun x o u h => b.frzs x o u (a.frzs x o u h)⟩
theorem Kp.new {H : Hp} {p : Addr} {o : HO} (h : H p = none) : Kp H (upd H p o) := ⟨fun b xs e => by rw [upd_ne (ne_of_none e h)]; exact e, fun b ob u e => by rw [upd_ne (ne_of_none e h)]; exact e⟩
theorem Kp.rd {H H' : Hp} (k : Kp H H') {a : Addr} {xs : List V} (r : Rd H a (.tup xs)) : Rd H' a (.tup xs) := by
  rcases r with r | ⟨o, r⟩
  · exact .inl (k.tups _ _ r)
  · exact .inr ⟨o, k.frzs _ _ _ r⟩
theorem Kp.sqT {K : PySem.W.Frag} {H H' : Hp} (k : Kp H H') {a : Addr} {xs : List V} (r : SqT K H a xs) : SqT K H' a xs := by
  rcases r with r | r
  · exact .inl (k.rd r)
  · exact .inr r
theorem Kp.sqF {K : PySem.W.Frag} {H H' : Hp} (k : Kp H H') {a : Addr} {xs : List V} (r : SqF K H a xs) : SqF K H' a xs := by
  rcases r with ⟨o, r⟩ | r
  · exact .inl ⟨o, k.frzs _ _ _ r⟩
  · exact .inr r
theorem pre_get {as as' : List Addr} (h : as <+: as') {l : Nat} {a : Addr} (e : as[l]? = some a) : as'[l]? = some a := by
  obtain ⟨t, rfl⟩ := h
  rw [List.getElem?_append_left (List.getElem?_eq_some_iff.mp e).1]
  exact e
section
variable {G : Gm} {as as' : List Addr} {H H' : Hp}
mutual
theorem RepV.mono (hp : as <+: as') (k : Kp H H') : ∀ {x : PV} {v : V}, RepV G as H x v → RepV G as' H' x v
  | .non, _, h => h
  | .bl _, _, h => h
  | .int _, _, h => h
  | .str _, _, h => h
  | .tup xs, v, h => by
    unfold RepV at h ⊢
    obtain ⟨a, vs, e, s, r⟩ := h
    exact ⟨a, vs, e, k.sqT s, RepVs.mono hp k r⟩
  | .ref l, v, h => by
    unfold RepV at h ⊢
    obtain ⟨a, e, r⟩ := h
    exact ⟨a, pre_get hp e, r⟩
  | .frk xs, v, h => by
    unfold RepV at h ⊢
    obtain ⟨a, vs, e, s, r⟩ := h
    exact ⟨a, vs, e, k.sqF s, RepVs.mono hp k r⟩
  | .fn _, _, h => h
  | .cls _, _, h => h
  | .ty _, _, h => h
theorem RepVs.mono (hp : as <+: as') (k : Kp H H') : ∀ {xs : List PV} {vs : List V}, RepVs G as H xs vs → RepVs G as' H' xs vs
  | [], _, h => h
  | x :: xs, vs, h => by
    unfold RepVs at h ⊢
    obtain ⟨v, r, e, h1, h2⟩ := h
    exact ⟨v, r, e, RepV.mono hp k h1, RepVs.mono hp k h2⟩
end
theorem RepK.mono (hp : as <+: as') (k : Kp H H') : ∀ {xs : List (Key × PV)} {vs : List (Key × V)}, RepK G as H xs vs → RepK G as' H' xs vs
  | [], _, h => h
  | (_, x) :: xs, vs, h => by
    unfold RepK at h ⊢
    obtain ⟨v, r, e, h1, h2⟩ := h
    exact ⟨v, r, e, h1.mono hp k, RepK.mono hp k h2⟩
theorem RepF.mono (hp : as <+: as') (k : Kp H H') : ∀ {xs : List (Nat × PV)} {vs : List (Str × V)}, RepF G as H xs vs → RepF G as' H' xs vs
  | [], _, h => h
  | (_, x) :: xs, vs, h => by
    unfold RepF at h ⊢
    obtain ⟨n, v, r, e, en, h1, h2⟩ := h
    exact ⟨n, v, r, e, en, h1.mono hp k, RepF.mono hp k h2⟩
theorem RepO.mono (hp : as <+: as') (k : Kp H H') {o : PO} {a : Addr} (e : H' a = H a) (h : RepO G as H o a) : RepO G as' H' o a := by
  cases o with
  | lst xs => obtain ⟨vs, e1, r⟩ := h; exact ⟨vs, e.trans e1, r.mono hp k⟩
  | frz xs => obtain ⟨o, vs, e1, r⟩ := h; exact ⟨o, vs, e.trans e1, r.mono hp k⟩
  | dic kvs => obtain ⟨ks, e1, r⟩ := h; exact ⟨ks, e.trans e1, r.mono hp k⟩
  | fdic kvs => obtain ⟨ob, ks, e1, r⟩ := h; exact ⟨ob, ks, e.trans e1, r.mono hp k⟩
  | ins c fs => obtain ⟨dx, gs, e1, r⟩ := h; exact ⟨dx, gs, e.trans e1, r.mono hp k⟩
  | dice b => obtain ⟨i, j, m, e1, r⟩ := h; exact ⟨i, j, m, e.trans e1, r⟩
theorem RepO.there {o : PO} {a : Addr} (h : RepO G as H o a) : H a ≠ none := by
  cases o with
  | lst xs => obtain ⟨vs, e1, r⟩ := h; rw [e1]; simp
  | frz xs => obtain ⟨o, vs, e1, r⟩ := h; rw [e1]; simp
  | dic kvs => obtain ⟨ks, e1, r⟩ := h; rw [e1]; simp
  | fdic kvs => obtain ⟨ob, ks, e1, r⟩ := h; rw [e1]; simp
  | ins c fs => obtain ⟨dx, gs, e1, r⟩ := h; rw [e1]; simp
  | dice b => obtain ⟨i, j, m, e1, r⟩ := h; rw [e1]; simp
theorem RepO.noTup {o : PO} {a : Addr} (h : RepO G as H o a) (xs : List V) : H a ≠ .some (HO.tup xs) := by
  cases o with
  | lst xs => obtain ⟨vs, e1, r⟩ := h; rw [e1]; simp
  | frz xs => obtain ⟨o, vs, e1, r⟩ := h; rw [e1]; simp
  | dic kvs => obtain ⟨ks, e1, r⟩ := h; rw [e1]; simp
  | fdic kvs => obtain ⟨ob, ks, e1, r⟩ := h; rw [e1]; simp
  | ins c fs => obtain ⟨dx, gs, e1, r⟩ := h; rw [e1]; simp
  | dice b => obtain ⟨i, j, m, e1, r⟩ := h; rw [e1]; simp
theorem RepVs.length : ∀ {xs : List PV} {vs : List V}, RepVs G as H xs vs → xs.length = vs.length
  | [], _, h => by unfold RepVs at h; subst h; rfl
  | x :: xs, vs, h => by
    unfold RepVs at h
    obtain ⟨v, r, rfl, _, h2⟩ := h
    simp [RepVs.length h2]
theorem RepVs.get : ∀ {xs : List PV} {vs : List V} {i : Nat} {x : PV}, RepVs G as H xs vs → xs[i]? = some x → ∃ v, vs[i]? = some v ∧ RepV G as H x v
  | [], _, i, x, _, e => by simp at e
  | y :: xs, vs, i, x, h, e => by
    unfold RepVs at h
    obtain ⟨v, r, rfl, h1, h2⟩ := h
    cases i with
    | zero => simp at e; subst e; exact ⟨v, rfl, h1⟩
    | succ i => simpa using RepVs.get (i := i) h2 (by simpa using e)
theorem RepVs.nil : RepVs G as H [] [] := by unfold RepVs; rfl
theorem RepVs.cons {x : PV} {v : V} {xs : List PV} {vs : List V} (h : RepV G as H x v) (r : RepVs G as H xs vs) : RepVs G as H (x :: xs) (v :: vs) := by
  unfold RepVs; exact ⟨v, vs, rfl, h, r⟩
theorem RepVs.append : ∀ {xs ys : List PV} {vs ws : List V}, RepVs G as H xs vs → RepVs G as H ys ws → RepVs G as H (xs ++ ys) (vs ++ ws)
  | [], _, _, _, h, r => by unfold RepVs at h; subst h; simpa using r
  | x :: xs, ys, vs, ws, h, r => by
    unfold RepVs at h
    obtain ⟨v, vs', rfl, h1, h2⟩ := h
    exact .cons h1 (RepVs.append h2 r)
theorem RepVs.set : ∀ {xs : List PV} {vs : List V} {x : PV} {v : V} (i : Nat), RepVs G as H xs vs → RepV G as H x v → RepVs G as H (xs.set i x) (vs.set i v)
  | [], _, _, _, _, h, _ => by unfold RepVs at h; subst h; simpa using RepVs.nil
  | y :: xs, vs, x, v, i, h, r => by
    unfold RepVs at h
    obtain ⟨w, vs', rfl, h1, h2⟩ := h
    cases i with
    | zero => exact .cons r h2
    | succ i => exact .cons h1 (RepVs.set i h2 r)
theorem RepVs.take : ∀ {xs : List PV} {vs : List V} (n : Nat), RepVs G as H xs vs → RepVs G as H (xs.take n) (vs.take n)
  | [], _, _, h => by unfold RepVs at h; subst h; simpa using RepVs.nil
  | y :: xs, vs, n, h => by
    unfold RepVs at h
    obtain ⟨w, vs', rfl, h1, h2⟩ := h
    cases n with
    | zero => simpa using RepVs.nil
    | succ n => exact .cons h1 (RepVs.take n h2)
theorem RepVs.drop : ∀ {xs : List PV} {vs : List V} (n : Nat), RepVs G as H xs vs → RepVs G as H (xs.drop n) (vs.drop n)
  | [], _, _, h => by unfold RepVs at h; subst h; simpa using RepVs.nil
  | y :: xs, vs, n, h => by
    unfold RepVs at h
    obtain ⟨w, vs', rfl, h1, h2⟩ := h
    cases n with
    | zero => exact .cons h1 h2
    | succ n => exact RepVs.drop n h2
theorem RepVs.reverse : ∀ {xs : List PV} {vs : List V}, RepVs G as H xs vs → RepVs G as H xs.reverse vs.reverse
  | [], _, h => by unfold RepVs at h; subst h; simpa using RepVs.nil
  | y :: xs, vs, h => by
    unfold RepVs at h
    obtain ⟨w, vs', rfl, h1, h2⟩ := h
    simp only [List.reverse_cons]
    exact (RepVs.reverse h2).append (.cons h1 .nil)
theorem RepVs.eraseIdx : ∀ {xs : List PV} {vs : List V} (n : Nat), RepVs G as H xs vs → RepVs G as H (xs.eraseIdx n) (vs.eraseIdx n)
  | [], _, _, h => by unfold RepVs at h; subst h; simpa using RepVs.nil
  | y :: xs, vs, n, h => by
    unfold RepVs at h
    obtain ⟨w, vs', rfl, h1, h2⟩ := h
    cases n with
    | zero => exact h2
    | succ n => exact .cons h1 (RepVs.eraseIdx n h2)
end
structure Fut (G : Gm) (as : List Addr) (H : Hp) (as' : List Addr) (H' : Hp) (h' : PH) : Prop where
  pre : as <+: as'
  kp : Kp H H'
  sr : SR G as' H' h'
  fresh : ∀ b ∈ as', b ∉ as → H b = none
  frame : ∀ b o, H b = some o → b ∉ as → H' b = some o
section
variable {G : Gm} {as as' as'' : List Addr} {H H' H'' : Hp} {h h' h'' : PH}
theorem Fut.refl (s : SR G as H h) : Fut G as H as H h := ⟨List.prefix_refl _, Kp.refl _, s, fun _ a b => absurd a b, fun _ _ e _ => e⟩
theorem Fut.trans (a : Fut G as H as' H' h') (b : Fut G as' H' as'' H'' h'') : Fut G as H as'' H'' h'' where
  pre := a.pre.trans b.pre
  kp := a.kp.trans b.kp
  sr := b.sr
  fresh := fun c hc hn => by
    by_cases h1 : c ∈ as'
    · exact a.fresh c h1 hn
    · have h2 := b.fresh c hc h1
      cases e : H c with
      | none => rfl
      | some o =>
        rw [a.frame c o e hn] at h2
        cases h2
  frame := fun c o e hn => by
    have e1 := a.frame c o e hn
    refine b.frame c o e1 fun h1 => ?_
    have h2 := a.fresh c h1 hn
    rw [e] at h2
    cases h2
theorem RepV.fut (f : Fut G as H as' H' h') {x : PV} {v : V} (r : RepV G as H x v) : RepV G as' H' x v := r.mono f.pre f.kp
theorem RepVs.fut (f : Fut G as H as' H' h') {x : List PV} {v : List V} (r : RepVs G as H x v) : RepVs G as' H' x v := r.mono f.pre f.kp
theorem SR.addr (s : SR G as H h) {l : Nat} {o : PO} (e : h[l]? = some o) : ∃ a, as[l]? = some a ∧ RepO G as H o a := by
  have hl : l < as.length := by rw [s.len]; exact (List.getElem?_eq_some_iff.mp e).1
  exact ⟨as[l], List.getElem?_eq_getElem hl, s.at_ l o _ e (List.getElem?_eq_getElem hl)⟩
theorem SR.upd_free (s : SR G as H h) {p : Addr} {o : HO} (hp : H p = none) : Fut G as H as (upd H p o) h := by
  refine ⟨List.prefix_refl _, Kp.new hp, ⟨s.nd, s.len, fun l ob a e1 e2 => ?_⟩, fun _ a b => absurd a b, fun b o e _ => by rw [upd_ne (ne_of_none e hp)]; exact e⟩
  have r := s.at_ l ob a e1 e2
  refine r.mono (List.prefix_refl _) (Kp.new hp) (upd_ne ?_)
  intro z
  subst z
  exact r.there hp
theorem SR.tup (s : SR G as H h) {p : Addr} {xs : List PV} {vs : List V} (hp : H p = none) (r : RepVs G as H xs vs) : Fut G as H as (upd H p (.tup vs)) h ∧ RepV G as (upd H p (.tup vs)) (.tup xs) (.ref p) := by
  have f := s.upd_free (o := .tup vs) hp
  refine ⟨f, ?_⟩
  unfold RepV
  exact ⟨p, vs, rfl, .of upd_same, r.fut f⟩
theorem SR.new (s : SR G as H h) {p : Addr} {o : PO} {ho : HO} (hp : H p = none) (r : RepO G (as ++ [p]) (upd H p ho) o p) : Fut G as H (as ++ [p]) (upd H p ho) (h ++ [o]) ∧ RepV G (as ++ [p]) (upd H p ho) (.ref h.length) (.ref p) := by
  have hn : p ∉ as := fun hm => by
    obtain ⟨l, hl, e⟩ := List.getElem_of_mem hm
    have e1 : as[l]? = some p := by rw [List.getElem?_eq_getElem hl, e]
    have hl2 : l < h.length := by rw [← s.len]; exact hl
    exact (s.at_ l _ p (List.getElem?_eq_getElem hl2) e1).there hp
  have pr : as <+: as ++ [p] := List.prefix_append _ _
  refine ⟨⟨pr, Kp.new hp, ⟨?_, by simp [s.len], fun l ob a e1 e2 => ?_⟩, fun b hb hn => by
    rw [List.mem_append] at hb
    rcases hb with hb | hb
    · exact absurd hb hn
    · simp at hb; subst hb; exact hp, fun b o e _ => by rw [upd_ne (ne_of_none e hp)]; exact e⟩, ?_⟩
  · rw [List.nodup_append]
    exact ⟨s.nd, by simp, fun a ha b hb e => by simp at hb; subst hb; subst e; exact hn ha⟩
  · by_cases hl : l < as.length
    · rw [List.getElem?_append_left hl] at e2
      rw [List.getElem?_append_left (by rw [← s.len]; exact hl)] at e1
      refine (s.at_ l ob a e1 e2).mono pr (Kp.new hp) (upd_ne ?_)
      intro z
      subst z
      exact hn (List.mem_of_getElem? e2)
    · have hl2 : l = as.length := by
        have := (List.getElem?_eq_some_iff.mp e2).1
        simp at this
        omega
      subst hl2
      rw [s.len, List.getElem?_append_right (Nat.le_refl _)] at e1
      rw [List.getElem?_append_right (Nat.le_refl _)] at e2
      simp at e1 e2
      subst e1 e2
      exact r
  · unfold RepV
    exact ⟨p, by rw [← s.len, List.getElem?_append_right (Nat.le_refl _)]; simp, rfl⟩
theorem SR.set (s : SR G as H h) {l : Nat} {a : Addr} {o : PO} {ho : HO} (ea : as[l]? = some a) (k : Kp H (upd H a ho)) (r : RepO G as (upd H a ho) o a) : Fut G as H as (upd H a ho) (h.set l o) := by
  refine ⟨List.prefix_refl _, k, ⟨s.nd, by simp [s.len], fun m ob b e1 e2 => ?_⟩, fun _ a b => absurd a b, fun b o e hn => by
    rw [upd_ne (fun z => hn (by rw [z]; exact List.mem_of_getElem? ea))]; exact e⟩
  by_cases hm : m = l
  · subst hm
    rw [ea] at e2
    cases e2
    have hl : m < h.length := by rw [← s.len]; exact (List.getElem?_eq_some_iff.mp ea).1
    rw [List.getElem?_set_self hl] at e1
    cases e1
    exact r
  · rw [List.getElem?_set_ne (Ne.symm hm)] at e1
    refine (s.at_ m ob b e1 e2).mono (List.prefix_refl _) k (upd_ne ?_)
    intro z
    subst z
    obtain ⟨h1, q1⟩ := List.getElem?_eq_some_iff.mp e2
    obtain ⟨h2, q2⟩ := List.getElem?_eq_some_iff.mp ea
    exact hm ((List.getElem_inj s.nd).mp (q1.trans q2.symm))
theorem Kp.mut {a : Addr} {ho u : HO} (e : H a = some u) (h1 : ∀ xs, u ≠ .tup xs) (h2 : ∀ o w, u ≠ .frz o w) : Kp H (upd H a ho) := ⟨fun b xs q => by
    rw [upd_ne (fun z => by subst z; rw [e] at q; exact h1 _ (Option.some.inj q))]; exact q, fun b o w q => by
    rw [upd_ne (fun z => by subst z; rw [e] at q; exact h2 _ _ (Option.some.inj q))]; exact q⟩
end
def RepX (G : Gm) (as : List Addr) (H : Hp) (x : PX) (e : Value) (d : Option Addr) : Prop :=
  e = .ref (G.ca x.c) ∧ ((x.fs = [] ∧ d = none) ∨ ∃ dx gs, d = some dx ∧ H dx = some (.xd gs) ∧ RepF G as H x.fs gs)
section
variable (G : Gm) (E : XK) (as : List Addr) (H : Hp)
def Ok {α β : Type} (rel : List Addr → Hp → α → β → Prop) (Q : β → Hp → Prop) : Res α → Prop
  | .ok v h' => ∀ as' H' v', Fut G as H as' H' h' → rel as' H' v v' → Q v' H'
  | .er x h' => ∀ as' H' e d, Fut G as H as' H' h' → RepX G as' H' x e d → E e d H'
  | .stuck => False
  | .all n k => ∀ i < n, Ok rel Q (k i)
end
abbrev OkV (G : Gm) (E : XK) (as : List Addr) (H : Hp) (Q : V → Hp → Prop) : Res PV → Prop := Ok G E as H (fun as' H' => RepV G as' H') Q
abbrev OkA (G : Gm) (E : XK) (as : List Addr) (H : Hp) (Q : List V → Hp → Prop) : Res (List PV) → Prop := Ok G E as H (fun as' H' => RepVs G as' H') Q
abbrev OkB (G : Gm) (E : XK) (as : List Addr) (H : Hp) (Q : Bool → Hp → Prop) : Res Bool → Prop := Ok G E as H (fun _ _ b c => b = c) Q
section
variable {G : Gm} {E : XK} {as as' : List Addr} {H H' : Hp} {h h' : PH} {α β γ δ : Type} {rel : List Addr → Hp → α → β → Prop} {rel2 : List Addr → Hp → γ → δ → Prop}
theorem Ok.fut {Q : β → Hp → Prop} {r : Res α} (f : Fut G as H as' H' h') (o : Ok G E as H rel Q r) : Ok G E as' H' rel Q r := by
  induction r with
  | ok v h1 => exact fun as1 H1 v1 f1 => o as1 H1 v1 (f.trans f1)
  | er x h1 => exact fun as1 H1 e d f1 => o as1 H1 e d (f.trans f1)
  | stuck => exact o
  | all n k ih => exact fun i hi => ih i (o i hi)
theorem Ok.imp {Q Q' : β → Hp → Prop} {r : Res α} (o : Ok G E as H rel Q r) (k : ∀ v H, Q v H → Q' v H) : Ok G E as H rel Q' r := by
  induction r with
  | ok v h1 => exact fun as1 H1 v1 f1 r1 => k _ _ (o as1 H1 v1 f1 r1)
  | er x h1 => exact o
  | stuck => exact o
  | all n f ih => exact fun i hi => ih i (o i hi)
theorem Ok.bind {r : Res α} {k : α → PH → Res γ} {Q : β → Hp → Prop} {Q2 : δ → Hp → Prop} (o : Ok G E as H rel2 Q2 (r.bind k))
    (next : ∀ v h1 as1 H1 v', Fut G as H as1 H1 h1 → rel as1 H1 v v' → Ok G E as1 H1 rel2 Q2 (k v h1) → Q v' H1) : Ok G E as H rel Q r := by
  induction r with
  | ok v h1 => exact fun as1 H1 v1 f1 r1 => next v h1 as1 H1 v1 f1 r1 (Ok.fut f1 o)
  | er x h1 => exact o
  | stuck => exact o
  | all n f ih => exact fun i hi => ih i (o i hi)
end
def RepE (G : Gm) (as : List Addr) (H : Hp) (ρ : PEnv) (σ : St) : Prop := ρ.length = σ.length ∧ ∀ (i : Nat) (v : PV), ρ[i]? = some (some v) → ∃ v', σ[i]? = some (some v') ∧ RepV G as H v v'
theorem RepE.fut {G : Gm} {as as' : List Addr} {H H' : Hp} {h' : PH} {ρ : PEnv} {σ : St} (f : Fut G as H as' H' h') (r : RepE G as H ρ σ) : RepE G as' H' ρ σ := ⟨r.1, fun i v e => by
  obtain ⟨v', e', q⟩ := r.2 i v e
  exact ⟨v', e', q.fut f⟩⟩
theorem RepE.set {G : Gm} {as : List Addr} {H : Hp} {ρ : PEnv} {σ : St} {x : PV} {v : V} (r : RepE G as H ρ σ) (i : Nat) (q : RepV G as H x v) : RepE G as H (ρ.set i (some x)) (σ.set i (some v)) := by
  refine ⟨by simp [r.1], fun j y e => ?_⟩
  by_cases hj : i = j
  · subst hj
    by_cases hl : i < ρ.length
    · rw [List.getElem?_set_self hl] at e
      cases e
      exact ⟨v, by rw [List.getElem?_set_self (by rw [← r.1]; exact hl)], q⟩
    · rw [List.getElem?_eq_none (by simpa using hl)] at e
      cases e
  · rw [List.getElem?_set_ne hj] at e
    rw [List.getElem?_set_ne hj]
    exact r.2 j y e
end Mn
set_option Elab.async false
set_option linter.all false
set_option maxRecDepth 100000
set_option maxHeartbeats 2000000
namespace Mn
open PySem L2
inductive Bop where
  | add | sub | mul | fdiv | mod | pow | band | bor | bxor | shl | shr
  deriving DecidableEq
inductive Cop where
  | eq | ne | lt | le | gt | ge | is_ | isn | in_ | nin
  deriving DecidableEq
inductive Bi where
  | len | abs | max | min | int | str | bool | list | tuple | sorted | sum | any | all | ord | isinst | repr | dict
  deriving DecidableEq
def Bi.tyn : Bi → Option String
  | .int => some "int"
  | .str => some "str"
  | .bool => some "bool"
  | .list => some "list"
  | .tuple => some "tuple"
  | .dict => some "dict"
  | _ => none
inductive Bm where
  | none | append | pop | insert | extend | reverse | index | remove | isascii | isprintable | isdigit | join | replace | removeprefix | find | get | keys | items | values | startswith
  deriving DecidableEq
inductive Ik where
  | seq | rng | enum | zip | rev | items | keys | values | rvr
  deriving DecidableEq
inductive Tg where
  | nm (i : Nat)
  | tp (is : List Nat)
inductive Ex where
  | var (i : Nat) | con (v : PV) | glob (g : Nat)
  | bin (op : Bop) (a b : Ex) | neg (a : Ex) | not (a : Ex) | and (a b : Ex) | or (a b : Ex)
  | cmp (op : Cop) (a b : Ex) | chn (o1 o2 : Cop) (a b c : Ex) | ife (c a b : Ex)
  | tup (es : List Ex) | lst (es : List Ex) | star (e : Ex)
  | ix (o i : Ex) | sl (o lo hi : Ex) | nop
  | callv (i : Nat) (es : List Ex) | call (g : Nat) (es : List Ex) | bi (f : Bi) (es : List Ex) | mt (m : Nat) (b : Bm) (o : Ex) (es : List Ex)
  | att (o : Ex) (f : Nat)
  | lc (e : Ex) (own : List Nat) (t : Tg) (k : Ik) (its : List Ex) (ifs : List Ex)
  | bty (f : Bi)
  | dsp
  | lz (es : List Ex)
  | lc2 (e : Ex) (own : List Nat) (t : Tg) (k : Ik) (its : List Ex) (ifs : List Ex) (own1 : List Nat) (t1 : Tg) (k1 : Ik) (its1 : List Ex) (ifs1 : List Ex)
  | lno (m : Nat) (o : Ex)
  | repl (o : Ex) (y z : List Nat)
  | calld (g : Nat) (es : List Ex) (j : Nat)
  | mtd (m : Nat) (o : Ex) (es : List Ex) (j : Nat)
  | oin (neg : Bool) (m : Nat) (a b : Ex)
  | oeq (a b : Ex)
  | one (a b : Ex)
  | lit (o : Ex)
  | lset (e : Ex)
  | lck (i : Nat) (x : Ex)
  | deq (a b : Ex)
  | clm (o : Ex) (j : Nat)
  | callk (i : Nat) (es : List Ex)
  | tit (o : Ex)
  | sit (o : Ex)
  | never
inductive Ta where
  | nm (i : Nat) | tp (is : List Nat) | att (o : Ex) (f : Nat) | ix (o i : Ex) | sl (o lo hi : Ex)
inductive Sm where
  | asg (t : Ta) (e : Ex) | aug (t : Ta) (op : Bop) (e : Ex)
  | ex (e : Ex) | ret (e : Ex) | retn
  | ite (c : Ex) (a b : List Sm)
  | wh (c : Ex) (b : List Sm)
  | for_ (t : Tg) (k : Ik) (its : List Ex) (b : List Sm)
  | brk | cnt | pass
  | raise (g : Nat) (es : List Ex)
  | del (o i : Ex)
  | slck (i f : Nat) (s : Sm)
  | never
inductive Fl where
  | nx (ρ : PEnv) | bk (ρ : PEnv) | ct (ρ : PEnv) | rt (v : PV)
structure Ci where
  init : Option Nat
  meths : List (Nat × Nat)
  props : List (Nat × Nat)
  sups : List Nat
  eq : Option Nat := none
structure Tb where
  glob : List PV
  cls : List Ci
  dfl : List (Nat × List PV) := []
  cms : List (Nat × Str × Nat) := []
section
variable (de : Nat → Option PyData)
mutual
def toD : PV → Option PyData
  | .non => some .none
  | .bl b => some (.bool b)
  | .int i => some (.int i)
  | .str x => some (.str ⟨x.toArray⟩)
  | .tup xs => (toDs xs).map .tuple
  | .ref l => de l
  | .frk _ => none
  | .fn _ => none
  | .cls _ => none
  | .ty _ => none
def toDs : List PV → Option (List PyData)
  | [] => some []
  | x :: xs => match toD x with
    | none => none
    | some d => (toDs xs).map (d :: ·)
end
end
def deref (h : PH) : Nat → Nat → Option PyData
  | 0, _ => none
  | n + 1, l => match h[l]? with
    | some (.lst xs) => (toDs (deref h n) xs).map .list
    | some (.frz xs) => (toDs (deref h n) xs).map .list
    | _ => none
def datum (h : PH) (v : PV) : Option PyData := match toD (deref h 8) v with
  | some d => if SeqAt.shaped d then some d else none
  | none => none
def pEq (h : PH) (v w : PV) : Option Bool := match datum h v, datum h w with
  | some d, some e => some (PyData.eqv d e)
  | _, _ => none
def dLook (kvs : List (Key × PV)) (k : Key) : Option PV := (kvs.find? fun kv => decide (kv.1 = k)).map (·.2)
def dPut (kvs : List (Key × PV)) (k : Key) (v : PV) : List (Key × PV) :=
  if (kvs.any fun kv => decide (kv.1 = k)) = true then kvs.map (fun kv => if kv.1 = k then (kv.1, v) else kv) else kvs ++ [(k, v)]
def dDrop (kvs : List (Key × PV)) (k : Key) : List (Key × PV) := kvs.filter fun kv => decide (kv.1 ≠ k)
def isNon : PV → Bool
  | .non => true
  | _ => false
def pIn (h : PH) (v w : PV) : Option Bool := match w with
  | .tup ys => match datum h v, datum h w with
    | some d, some (.tuple es) => some (es.any fun z => PyData.eqv z d)
    | _, _ => none
  | .ref l => match h[l]? with
    | some (.lst _) => match datum h v, datum h w with
      | some d, some (.list es) => some (es.any fun z => PyData.eqv z d)
      | _, _ => none
    | some (.dic kvs) => match v with
      | .int i => some (dLook kvs (Sum.inl i)).isSome
      | .str x => some (dLook kvs (Sum.inr ⟨x.toArray⟩)).isSome
      | _ => none
    | _ => none
  | .str y => match v with
    | .str [c] => some (y.contains c)
    | _ => none
  | _ => none
def pTru (h : PH) (v : PV) : Option Bool := match v with
  | .non => some false
  | .bl b => some b
  | .int i => some (i != 0)
  | .str x => if x.length ≤ sizeLine then some (!x.isEmpty) else none
  | .tup xs => some (!xs.isEmpty)
  | .ref l => match h[l]? with
    | some (.lst xs) => some (!xs.isEmpty)
    | some (.frz xs) => some (!xs.isEmpty)
    | some (.dic kvs) => some (!kvs.isEmpty)
    | _ => none
  | _ => none
def lstAt (h : PH) (l : Nat) : Option (List PV) := match h[l]? with
  | some (.lst xs) => some xs
  | some (.frz xs) => some xs
  | _ => none
def big (i j : Int) : Bool := decide (i.natAbs.log2 + j.natAbs.log2 < 1000000)
def pBin (op : Bop) (v w : PV) (h : PH) : Res PV := match op, v, w with
  | .add, .int i, .int j => .ok (.int (i + j)) h
  | .add, .str x, .str y => if x.length + y.length ≤ sizeLine then .ok (.str (x ++ y)) h else .stuck
  | .add, .tup x, .tup y => if x.length + y.length ≤ sizeLine then .ok (.tup (x ++ y)) h else .stuck
  | .add, .ref l, .ref m => match h[l]?, h[m]? with
    | some (.lst x), some (.lst y) => if x.length + y.length ≤ sizeLine then .ok (.ref h.length) (h ++ [.lst (x ++ y)]) else .stuck
    | _, _ => .stuck
  | .sub, .int i, .int j => .ok (.int (i - j)) h
  | .mul, .int i, .int j => if big i j then .ok (.int (i * j)) h else .stuck
  | .mul, .ref l, .int k => match h[l]? with
    | some (.lst x) => if decide (-(2 ^ 63) ≤ k) && decide (k < 2 ^ 63) && decide (x.length * k.toNat ≤ sizeLine) then .ok (.ref h.length) (h ++ [.lst (List.replicate k.toNat x).flatten]) else .stuck
    | _ => .stuck
  | .mul, .str x, .int k => if decide (-(2 ^ 63) ≤ k) && decide (k < 2 ^ 63) && decide (x.length * k.toNat ≤ sizeLine) then .ok (.str (List.replicate k.toNat x).flatten) h else .stuck
  | .fdiv, .int i, .int j => if decide (0 < j) && decide (j.natAbs.log2 < 9000) then .ok (.int (i / j)) h else .stuck
  | .mod, .int i, .int j => if decide (0 < j) then .ok (.int (i % j)) h else .stuck
  | .pow, .int i, .int j => if decide (0 ≤ j) && decide ((Builtin.Int.intBits i : Int) * j ≤ 2 ^ 27) then .ok (.int (i ^ j.toNat)) h else .stuck
  | .shl, .int i, .int j => if decide (0 ≤ j) && decide (j ≤ 1000000) && decide (i.natAbs < 2 ^ 64) then .ok (.int (i * 2 ^ j.toNat)) h else .stuck
  | .shr, .int i, .int j => if decide (0 ≤ j) then .ok (.int (i / 2 ^ j.toNat)) h else .stuck
  | .band, .int i, .int j => .ok (.int (Builtin.bitAnd i j)) h
  | .bor, .int i, .int j => .ok (.int (Builtin.bitOr i j)) h
  | .bxor, .int i, .int j => .ok (.int (Builtin.bitXor i j)) h
  | _, _, _ => .stuck
def ob (b : Option Bool) (h : PH) : Res PV := match b with
  | some b => .ok (.bl b) h
  | none => .stuck
def dLt (h : PH) (v w : PV) : Option Bool := match datum h v, datum h w with
  | some d, some e => if PySem.W.alike d e then some (PySem.W.dataLt d e) else none
  | _, _ => none
def pCmp (op : Cop) (v w : PV) (h : PH) : Res PV := match op with
  | .eq => ob (pEq h v w) h
  | .ne => ob ((pEq h v w).map (!·)) h
  | .in_ => ob (pIn h v w) h
  | .nin => ob ((pIn h v w).map (!·)) h
  | .is_ => match w with
    | .non => .ok (.bl (isNon v)) h
    | _ => .stuck
  | .isn => match w with
    | .non => .ok (.bl (!isNon v)) h
    | _ => .stuck
  | .lt => match v, w with
    | .int i, .int j => .ok (.bl (decide (i < j))) h
    | .str x, .str y => .ok (.bl (decide (x < y))) h
    | .tup _, .tup _ => ob (dLt h v w) h
    | _, _ => .stuck
  | .le => match v, w with
    | .int i, .int j => .ok (.bl (decide (i ≤ j))) h
    | .str x, .str y => .ok (.bl (!decide (y < x))) h
    | .tup _, .tup _ => ob ((dLt h w v).map (!·)) h
    | _, _ => .stuck
  | .gt => match v, w with
    | .int i, .int j => .ok (.bl (decide (j < i))) h
    | .str x, .str y => .ok (.bl (decide (y < x))) h
    | .tup _, .tup _ => ob (dLt h w v) h
    | _, _ => .stuck
  | .ge => match v, w with
    | .int i, .int j => .ok (.bl (decide (j ≤ i))) h
    | .str x, .str y => .ok (.bl (!decide (x < y))) h
    | .tup _, .tup _ => ob ((dLt h v w).map (!·)) h
    | _, _ => .stuck
def pIx (v w : PV) (h : PH) : Res PV := match v, w with
  | .tup xs, .int i => match atI xs i with
    | some x => .ok x h
    | none => .stuck
  | .ref l, .int i => match h[l]? with
    | some (.lst xs) => (match atI xs i with
      | some x => .ok x h
      | none => .stuck)
    | some (.frz xs) => (match atI xs i with
      | some x => .ok x h
      | none => .stuck)
    | some (.dic kvs) => (match dLook kvs (Sum.inl i) with
      | some x => .ok x h
      | none => .stuck)
    | some (.fdic kvs) => (match dLook kvs (Sum.inl i) with
      | some x => .ok x h
      | none => .stuck)
    | _ => .stuck
  | .ref l, .str y => match h[l]? with
    | some (.dic kvs) => (match dLook kvs (Sum.inr ⟨y.toArray⟩) with
      | some x => .ok x h
      | none => .stuck)
    | some (.fdic kvs) => (match dLook kvs (Sum.inr ⟨y.toArray⟩) with
      | some x => .ok x h
      | none => .stuck)
    | _ => .stuck
  | .frk xs, .int i => match atI xs i with
    | some x => .ok x h
    | none => .stuck
  | .str x, .int i => if x.length ≤ sizeLine then (match atI x i with
      | some c => .ok (.str [c]) h
      | none => .stuck) else .stuck
  | _, _ => .stuck
def cut {α : Type} (xs : List α) (lo hi : Option Int) : List α := (xs.drop (HT.sIx xs.length 0 lo)).take (HT.sIx xs.length xs.length hi - HT.sIx xs.length 0 lo)
def pSl (v : PV) (lo hi : Option Int) (h : PH) : Res PV := match v with
  | .tup xs => .ok (.tup (cut xs lo hi)) h
  | .str x => if x.length ≤ sizeLine then .ok (.str (cut x lo hi)) h else .stuck
  | .ref l => match lstAt h l with
    | some xs => .ok (.ref h.length) (h ++ [.lst (cut xs lo hi)])
    | none => .stuck
  | _ => .stuck
def part : PV → Option (Option Int)
  | .int i => some (some i)
  | _ => none
def strsOf : List PV → Option (List (List Nat))
  | [] => some []
  | .str x :: r => (strsOf r).map (x :: ·)
  | _ => none
def intsOf : List PV → Option (List Int)
  | [] => some []
  | .int x :: r => (intsOf r).map (x :: ·)
  | _ => none
def blsOf : List PV → Option (List Bool)
  | [] => some []
  | .bl x :: r => (blsOf r).map (x :: ·)
  | _ => none
def tyNames : List String := ["int", "bool", "str", "list", "tuple", "dict", "NoneType"]
def tyAll : List String := "function" :: tyNames
def tyB (a b : String) : Option Bool := if tyAll.contains a && tyNames.contains b then some (a == b || (a == "bool" && b == "int")) else none
def tyOf (h : PH) (v : PV) : Option PV := match v with
  | .non => some (.ty "NoneType")
  | .bl _ => some (.ty "bool")
  | .int _ => some (.ty "int")
  | .str _ => some (.ty "str")
  | .tup _ => some (.ty "tuple")
  | .fn _ => some (.ty "function")
  | .ref l => match h[l]? with
    | some (.lst _) => some (.ty "list")
    | some (.frz _) => some (.ty "list")
    | some (.dic _) => some (.ty "dict")
    | some (.ins c _) => some (.cls c)
    | _ => none
  | _ => none
def subC (T : Tb) (t c : PV) : Option Bool := match t, c with
  | .ty a, .ty b => tyB a b
  | .cls c, .cls d => (T.cls[c]?).bind fun ci => if d < T.cls.length then some (ci.sups.contains d) else none
  | .cls c, .ty b => if c < T.cls.length && tyNames.contains b then some false else none
  | .ty a, .cls d => if d < T.cls.length && tyAll.contains a then some false else none
  | _, _ => none
def isFnOf (f : Nat) : PV → Bool
  | .fn j => j == f
  | _ => false
def fnT (T : Tb) : PV → Bool
  | .fn f => T.glob.any (isFnOf f)
  | _ => true
def isTy (T : Tb) (h : PH) (v : PV) (c : PV) : Option Bool := if fnT T v = true then (tyOf h v).bind fun t => subC T t c else none
def isCl : PV → Bool
  | .ty _ => true
  | .cls _ => true
  | _ => false
def isTys (T : Tb) (h : PH) (v : PV) : List PV → Option Bool
  | [] => some false
  | t :: r => match isTy T h v t with
    | some true => some true
    | some false => isTys T h v r
    | none => none
def lmin : Int → List Int → Int
  | m, [] => m
  | m, x :: r => lmin (if x < m then x else m) r
def lmax : Int → List Int → Int
  | m, [] => m
  | m, x :: r => lmax (if x > m then x else m) r
def lexP (p q : Int × List Nat) : Bool := if p.1 = q.1 then decide (p.2 < q.2) else decide (p.1 < q.1)
def isP : PV → Option (Int × List Nat)
  | .tup [.int i, .str x] => some (i, x)
  | _ => none
def psOf : List PV → Option (List (Int × List Nat))
  | [] => some []
  | v :: r => match isP v, psOf r with
    | some p, some ps => some (p :: ps)
    | _, _ => none
def insP (p : Int × List Nat) : List (Int × List Nat) → List (Int × List Nat)
  | [] => [p]
  | q :: r => if lexP p q = true then p :: q :: r else q :: insP p r
def srtP : List (Int × List Nat) → List (Int × List Nat)
  | [] => []
  | p :: r => insP p (srtP r)
def ofP (p : Int × List Nat) : PV := .tup [.int p.1, .str p.2]
def insS (t : List Nat) : List (List Nat) → List (List Nat)
  | [] => [t]
  | u :: r => if t < u then t :: u :: r else u :: insS t r
def srtS : List (List Nat) → List (List Nat)
  | [] => []
  | t :: r => insS t (srtS r)
def insI (i : Int) : List Int → List Int
  | [] => [i]
  | j :: r => if i < j then i :: j :: r else j :: insI i r
def srtI : List Int → List Int
  | [] => []
  | i :: r => insI i (srtI r)
def ksOf : List (Key × PV) → Option (List (List Nat))
  | [] => some []
  | (.inr x, _) :: r => (ksOf r).map (x.cps.toList :: ·)
  | _ => none
def lexPQ (p q : List Nat × List Nat) : Bool := if p.1 = q.1 then decide (p.2 < q.2) else decide (p.1 < q.1)
def isPQ : PV → Option (List Nat × List Nat)
  | .tup [.str i, .str x] => some (i, x)
  | _ => none
def psOfQ : List PV → Option (List (List Nat × List Nat))
  | [] => some []
  | v :: r => match isPQ v, psOfQ r with
    | some p, some ps => some (p :: ps)
    | _, _ => none
def insPQ (p : List Nat × List Nat) : List (List Nat × List Nat) → List (List Nat × List Nat)
  | [] => [p]
  | q :: r => if lexPQ p q = true then p :: q :: r else q :: insPQ p r
def srtPQ : List (List Nat × List Nat) → List (List Nat × List Nat)
  | [] => []
  | p :: r => insPQ p (srtPQ r)
def ofPQ (p : List Nat × List Nat) : PV := .tup [.str p.1, .str p.2]
def keyOf : PV → Option Key
  | .int i => some (.inl i)
  | .str x => some (.inr ⟨x.toArray⟩)
  | _ => none
def kvsOf : List PV → Option (List (Key × PV))
  | [] => some []
  | .tup [k, v] :: r => match keyOf k, kvsOf r with
    | some k, some q => some ((k, v) :: q)
    | _, _ => none
  | _ => none
def dMerge (kvs : List (Key × PV)) : List (Key × PV) := kvs.foldl (fun d q => dPut d q.1 q.2) []
def flatP : PV → Bool
  | .non => true
  | .bl _ => true
  | .int _ => true
  | .str _ => true
  | _ => false
def samP : PV → PV → Bool
  | .non, .non => true
  | .bl a, .bl b => a == b
  | .int a, .int b => decide (a = b)
  | .str a, .str b => decide (a = b)
  | _, _ => false
def dicEq (ks ls : List (Key × PV)) : Option Bool := if ks.length = ls.length then (if ks.all (fun q => match dLook ls q.1 with
    | some w => samP q.2 w
    | none => false) then some true else none) else some false
def pDeq (v w : PV) (h : PH) : Res PV := match v, w with
  | .ref l, .ref m => (match h[l]?, h[m]? with
    | some (.dic ks), some (.dic ls) => ob (dicEq ks ls) h
    | _, _ => .stuck)
  | _, _ => .stuck
def pBi (T : Tb) (f : Bi) (vs : List PV) (h : PH) : Res PV := match f, vs with
  | .len, [.str x] => if x.length ≤ sizeLine then .ok (.int x.length) h else .stuck
  | .len, [.tup xs] => .ok (.int xs.length) h
  | .len, [.ref l] => (match h[l]? with
    | some (.lst xs) => .ok (.int xs.length) h
    | some (.frz xs) => .ok (.int xs.length) h
    | some (.dic kvs) => .ok (.int kvs.length) h
    | _ => .stuck)
  | .len, [.frk xs] => .ok (.int xs.length) h
  | .abs, [.int i] => .ok (.int (if i < 0 then -i else i)) h
  | .max, [.int i, .int j] => .ok (.int (if j > i then j else i)) h
  | .min, [.int i, .int j] => .ok (.int (if j < i then j else i)) h
  | .int, [.int i] => .ok (.int i) h
  | .int, [.bl b] => .ok (.int (if b then 1 else 0)) h
  | .int, [.str x] => (match PySem.intText? ⟨x.toArray⟩ with
    | some n => if x.length ≤ 640 then .ok (.int n) h else .stuck
    | none => .stuck)
  | .str, [.int i] => if i.natAbs.log2 < 1920 then .ok (.str (toString i : Str).cps.toList) h else .stuck
  | .ord, [.str [c]] => .ok (.int c) h
  | .list, [.tup xs] => .ok (.ref h.length) (h ++ [.lst xs])
  | .list, [.ref l] => (match lstAt h l with
    | some xs => .ok (.ref h.length) (h ++ [.lst xs])
    | none => .stuck)
  | .list, [.str x] => if x.length ≤ sizeLine then .ok (.ref h.length) (h ++ [.lst (x.map fun c => .str [c])]) else .stuck
  | .tuple, [.tup xs] => .ok (.tup xs) h
  | .tuple, [.ref l] => (match lstAt h l with
    | some xs => .ok (.tup xs) h
    | none => .stuck)
  | .isinst, [v, .tup ts] => if !ts.isEmpty && ts.all isCl then ob (isTys T h v ts) h else .stuck
  | .isinst, [v, t] => ob (isTy T h v t) h
  | .sum, [.ref l] => (match lstAt h l with
    | some xs => (match intsOf xs with
      | some is => .ok (.int is.sum) h
      | none => .stuck)
    | none => .stuck)
  | .all, [.ref l] => (match lstAt h l with
    | some xs => (match blsOf xs with
      | some bs => .ok (.bl (bs.all id)) h
      | none => .stuck)
    | none => .stuck)
  | .any, [.ref l] => (match lstAt h l with
    | some xs => (match blsOf xs with
      | some bs => .ok (.bl (bs.any id)) h
      | none => .stuck)
    | none => .stuck)
  | .min, [.ref l] => (match lstAt h l with
    | some xs => (match intsOf xs with
      | some (i :: is) => .ok (.int (lmin i is)) h
      | _ => .stuck)
    | none => .stuck)
  | .max, [.ref l] => (match lstAt h l with
    | some xs => (match intsOf xs with
      | some (i :: is) => .ok (.int (lmax i is)) h
      | _ => .stuck)
    | none => .stuck)
  | .sorted, [.ref l] => (match lstAt h l with
    | some xs => (match psOf xs with
      | some ps => .ok (.ref h.length) (h ++ [.lst ((srtP ps).map ofP)])
      | none => (match strsOf xs with
        | some ts => if ts.length < 64 then .ok (.ref h.length) (h ++ [.lst ((srtS ts).map .str)]) else .stuck
        | none => (match intsOf xs with
          | some is => if is.length < 64 then .ok (.ref h.length) (h ++ [.lst ((srtI is).map .int)]) else .stuck
          | none => (match psOfQ xs with
            | some qs => .ok (.ref h.length) (h ++ [.lst ((srtPQ qs).map ofPQ)])
            | none => .stuck))))
    | none => (match h[l]? with
      | some (.dic kvs) => (match ksOf kvs with
        | some ts => .ok (.ref h.length) (h ++ [.lst ((srtS ts).map .str)])
        | none => .stuck)
      | _ => .stuck))
  | .sorted, [.tup xs] => (match strsOf xs with
    | some ts => .ok (.ref h.length) (h ++ [.lst ((srtS ts).map .str)])
    | none => (match psOfQ xs with
      | some qs => .ok (.ref h.length) (h ++ [.lst ((srtPQ qs).map ofPQ)])
      | none => .stuck))
  | .dict, [.ref l] => (match lstAt h l with
    | some xs => (match kvsOf xs with
      | some kvs => .ok (.ref h.length) (h ++ [.dic (dMerge kvs)])
      | none => .stuck)
    | none => .stuck)
  | .repr, [.bl b] => .ok (.str (if b then [84, 114, 117, 101] else [70, 97, 108, 115, 101])) h
  | .repr, [.non] => .ok (.str [78, 111, 110, 101]) h
  | .repr, [.int i] => if i.natAbs.log2 < 1920 then .ok (.str (toString i : Str).cps.toList) h else .stuck
  | .repr, [.str x] => if (reprText ⟨x.toArray⟩).length ≤ sizeLine then .ok (.str (reprText ⟨x.toArray⟩).cps.toList) h else .stuck
  | _, _ => .stuck
inductive Bq where
  | lappend | lpop | lpopl | lextend | lreverse | linsert | lindex | lremove
  | sisascii | sisprintable | sisdigit | sjoin | sremoveprefix
  | dget | dpop
  deriving DecidableEq
def Bq.of : Bm → Nat → Option Bq
  | .append, 0 => some .lappend
  | .pop, 0 => some .lpop
  | .extend, 0 => some .lextend
  | .reverse, 0 => some .lreverse
  | .insert, 0 => some .linsert
  | .index, 0 => some .lindex
  | .remove, 0 => some .lremove
  | .isascii, 2 => some .sisascii
  | .isprintable, 2 => some .sisprintable
  | .isdigit, 2 => some .sisdigit
  | .join, 2 => some .sjoin
  | .removeprefix, 2 => some .sremoveprefix
  | .get, 1 => some .dget
  | .pop, 1 => some .dpop
  | _, _ => none
def kindAt (h : PH) (v : PV) : Nat := match v with
  | .ref l => match h[l]? with
    | some (.lst _) => 0
    | some (.dic _) => 1
    | _ => 9
  | .str _ => 2
  | _ => 9
def pBq (q : Bq) (v : PV) (vs : List PV) (h : PH) : Res PV := match q with
  | .lappend => (match v, vs with
    | .ref l, [x] => (match h[l]? with
      | some (.lst xs) => if xs.length < sizeLine then .ok .non (h.set l (.lst (xs ++ [x]))) else .stuck
      | _ => .stuck)
    | _, _ => .stuck)
  | .lpop => (match v, vs with
    | .ref l, [.int i] => (match h[l]? with
      | some (.lst xs) => (match PySem.seqIndex? i xs.length with
        | some k => (match xs[k]? with
          | some y => if decide (-(2 ^ 63) ≤ i) && decide (i < 2 ^ 63) then .ok y (h.set l (.lst (xs.eraseIdx k))) else .stuck
          | none => .stuck)
        | none => .stuck)
      | _ => .stuck)
    | .ref l, [] => (match h[l]? with
      | some (.lst xs) => (match xs[xs.length - 1]? with
        | some y => .ok y (h.set l (.lst xs.dropLast))
        | none => .stuck)
      | _ => .stuck)
    | _, _ => .stuck)
  | .lextend => (match v, vs with
    | .ref l, [.ref m] => (match h[l]?, h[m]? with
      | some (.lst xs), some (.lst ys) => if xs.length + ys.length ≤ sizeLine then .ok .non (h.set l (.lst (xs ++ ys))) else .stuck
      | _, _ => .stuck)
    | _, _ => .stuck)
  | .linsert => (match v, vs with
    | .ref l, [.int i, y] => (match h[l]? with
      | some (.lst xs) => if decide (xs.length < sizeLine) && decide (0 ≤ i) && decide (i < 2 ^ 63) then .ok .non (h.set l (.lst (xs.take i.toNat ++ [y] ++ xs.drop i.toNat))) else .stuck
      | _ => .stuck)
    | _, _ => .stuck)
  | .lremove => (match v, vs with
    | .ref l, [.str y] => (match h[l]? with
      | some (.lst xs) => (match strsOf xs with
        | some ys => if y ∈ ys then .ok .non (h.set l (.lst ((ys.erase y).map .str))) else .stuck
        | none => .stuck)
      | _ => .stuck)
    | _, _ => .stuck)
  | .lreverse => (match v, vs with
    | .ref l, [] => (match h[l]? with
      | some (.lst xs) => .ok .non (h.set l (.lst xs.reverse))
      | _ => .stuck)
    | _, _ => .stuck)
  | .sisascii => (match v, vs with
    | .str x, [] => .ok (.bl (Txt.isascii ⟨x.toArray⟩)) h
    | _, _ => .stuck)
  | .sisprintable => (match v, vs with
    | .str x, [] => .ok (.bl (Txt.isprintable ⟨x.toArray⟩)) h
    | _, _ => .stuck)
  | .sisdigit => (match v, vs with
    | .str x, [] => .ok (.bl (Txt.isdigit ⟨x.toArray⟩)) h
    | _, _ => .stuck)
  | .sremoveprefix => (match v, vs with
    | .str x, [.str y] => if x.length ≤ sizeLine then .ok (.str (Txt.removeprefix ⟨x.toArray⟩ ⟨y.toArray⟩).cps.toList) h else .stuck
    | _, _ => .stuck)
  | .sjoin => (match v, vs with
    | .str x, [.ref l] => (match lstAt h l with
      | some xs => (match strsOf xs with
        | some ys => if (ys.map (·.length)).sum + ys.length * x.length ≤ 16777216 then .ok (.str (Txt.join ⟨x.toArray⟩ (ys.map fun y => ⟨y.toArray⟩)).cps.toList) h else .stuck
        | none => .stuck)
      | none => .stuck)
    | _, _ => .stuck)
  | .dget => (match v, vs with
    | .ref l, [k] => (match h[l]?, keyOf k with
      | some (.dic kvs), some k => .ok ((dLook kvs k).getD .non) h
      | _, _ => .stuck)
    | .ref l, [k, d] => (match h[l]?, keyOf k with
      | some (.dic kvs), some k => .ok ((dLook kvs k).getD d) h
      | _, _ => .stuck)
    | _, _ => .stuck)
  | .dpop => (match v, vs with
    | .ref l, [k] => (match h[l]?, keyOf k with
      | some (.dic kvs), some k => (match dLook kvs k with
        | some x => .ok x (h.set l (.dic (dDrop kvs k)))
        | none => .stuck)
      | _, _ => .stuck)
    | _, _ => .stuck)
  | _ => .stuck
def attK (T : Tb) (c f : Nat) : Option (Option Nat) := (T.cls[c]?).bind fun ci => match ci.meths.lookup f with
  | some _ => none
  | none => some (ci.props.lookup f)
def fldOf (T : Tb) (f : Nat) (v : PV) (h : PH) : Res PV := match v with
  | .ref l => match h[l]? with
    | some (.ins c fs) => (match attK T c f with
      | some none => (match fs.lookup f with
        | some x => .ok x h
        | none => .stuck)
      | _ => .stuck)
    | _ => .stuck
  | _ => .stuck
def Res.noer {α : Type} : Res α → Res α
  | .ok a h => .ok a h
  | .er _ _ => .stuck
  | .stuck => .stuck
  | .all n k => .all n fun i => (k i).noer
def bindTg (t : Tg) (x : PV) (ρ : PEnv) : Option PEnv := match t with
  | .nm i => some (ρ.set i (some x))
  | .tp is => match x with
    | .tup xs => if xs.length = is.length then some ((is.zip xs).foldl (fun r q => r.set q.1 (some q.2)) ρ) else none
    | _ => none
inductive Wk where
  | fix (xs : List PV)
  | lst (l : Nat)
  | enl (l : Nat)
  | rvl (l n : Nat)
  | zll (l m : Nat)
  | ens (x : List Nat)
  | ent (xs : List PV)
def wkAt (h : PH) (i : Nat) : Wk → Option (Option PV)
  | .fix xs => some xs[i]?
  | .lst l => (lstAt h l).map fun xs => xs[i]?
  | .enl l => (lstAt h l).map fun xs => xs[i]?.map fun x => .tup [.int i, x]
  | .rvl l n => (lstAt h l).bind fun xs => if xs.length = n then some (if i < n then xs[n - 1 - i]? else none) else none
  | .zll l m => (lstAt h l).bind fun xs => (lstAt h m).map fun ys => match xs[i]?, ys[i]? with
    | some x, some y => some (.tup [x, y])
    | _, _ => none
  | .ens x => if i ≤ x.length then some (x[i]?.map fun c => .tup [.int i, .str [c]]) else none
  | .ent xs => if i ≤ xs.length then some (xs[i]?.map fun x => .tup [.int i, x]) else none
def ofKey : Key → PV
  | .inl i => .int i
  | .inr x => .str x.cps.toList
def wkOf (k : Ik) (vs : List PV) (h : PH) : Option (Wk × Nat) := match k, vs with
  | .seq, [.tup xs] => some (.fix xs, xs.length)
  | .seq, [.str x] => some (.fix (x.map fun c => .str [c]), x.length)
  | .seq, [.ref l] => (lstAt h l).map fun xs => (.lst l, xs.length)
  | .rng, [.int j] => if decide (-(2 ^ 62) ≤ j) && decide (j < 2 ^ 62) then some (.fix ((List.range j.toNat).map fun (i : Nat) => .int i), j.toNat) else none
  | .rng, [.int i, .int j] => if decide (-(2 ^ 62) ≤ i) && decide (i < 2 ^ 62) && decide (-(2 ^ 62) ≤ j) && decide (j < 2 ^ 62) then some (.fix ((List.range (j - i).toNat).map fun (m : Nat) => .int (i + m)), (j - i).toNat) else none
  | .rng, [.int i, .int j, .int c] => if decide (c = -1) && decide (-(2 ^ 62) ≤ i) && decide (i < 2 ^ 62) && decide (-(2 ^ 62) ≤ j) && decide (j < 2 ^ 62) then some (.fix ((List.range (i - j).toNat).map fun (m : Nat) => .int (i - m)), (i - j).toNat) else none
  | .rvr, [.int j] => if decide (-(2 ^ 62) ≤ j) && decide (j < 2 ^ 62) then some (.fix ((List.range j.toNat).map fun (m : Nat) => .int (j - 1 - m)), j.toNat) else none
  | .enum, [.ref l] => (lstAt h l).map fun xs => (.enl l, xs.length)
  | .enum, [.str x] => if x.length ≤ sizeLine then some (.ens x, x.length) else none
  | .enum, [.tup xs] => some (.ent xs, xs.length)
  | .zip, [.ref l, .ref m] => (lstAt h l).bind fun xs => (lstAt h m).map fun ys => (.zll l m, min xs.length ys.length)
  | .rev, [.ref l] => (lstAt h l).map fun xs => (.rvl l xs.length, xs.length)
  | .keys, [.ref l] => (match h[l]? with
    | some (.fdic kvs) => some (.fix (kvs.map fun q => ofKey q.1), kvs.length)
    | _ => none)
  | .items, [.ref l] => (match h[l]? with
    | some (.fdic kvs) => some (.fix (kvs.map fun q => .tup [ofKey q.1, q.2]), kvs.length)
    | _ => none)
  | _, _ => none
section
variable (T : Tb) (call : Nat → List PV → PH → Res PV)
def callG (v : PV) (vs : List PV) (h : PH) : Res PV := match v with
  | .fn f => call f vs h
  | .cls c => match (T.cls[c]?).bind (·.init) with
    | some f => (call f (.ref h.length :: vs) (h ++ [.ins c []])).bind fun v h1 => match v with
      | .non => .ok (.ref h.length) h1
      | _ => .stuck
    | none => .stuck
  | _ => .stuck
def oinP (neg : Bool) (m : Nat) (v w : PV) (h : PH) : Res PV := match w with
  | .ref l => (match h[l]? with
    | some (.ins c _) => (match (T.cls[c]?).bind fun ci => ci.meths.lookup m with
      | some f => (call f [.ref l, v] h).bind fun r h3 => (match r with
        | .bl b => .ok (.bl (b != neg)) h3
        | _ => .stuck)
      | none => .stuck)
    | _ => .stuck)
  | _ => .stuck
def nfT (T : Tb) (t : PV) (c : Nat) : Bool := (match t with
  | .cls d => d == c
  | _ => false) || subC T t (.cls c) == some false
def oeqP (v w : PV) (h : PH) : Res PV := match v with
  | .ref l => (match h[l]? with
    | some (.ins c _) => (match (T.cls[c]?).bind (·.eq), tyOf h w with
      | some f, some t => if (fnT T w && nfT T t c) = true then (call f [.ref l, w] h).bind fun r h3 => (match r with
        | .bl b => .ok (.bl b) h3
        | _ => .stuck) else .stuck
      | _, _ => .stuck)
    | _ => .stuck)
  | _ => .stuck
def onpP (v w : PV) (h : PH) : Res PV := match v with
  | .ref l => (match h[l]? with
    | some (.ins c _) => (match (T.cls[c]?).bind (·.eq), tyOf h w with
      | some f, some t => if (fnT T w && nfT T t c) = true then (call f [.ref l, w] h).noer.bind fun r h3 => (match r with
        | .bl b => .ok (.bl (!b)) h3
        | _ => .stuck) else .stuck
      | _, _ => .stuck)
    | _ => .stuck)
  | _ => .stuck
def ddI (ns : List Int) : List Int := ns.foldl (fun a n => if a.contains n then a else a ++ [n]) []
def lcRun (body : PV → PH → Res (Option PV)) (w : Wk) (D : Nat) : Nat → Nat → PH → Res PV
  | 0, _, _ => .stuck
  | n + 1, i, h => match wkAt h i w with
    | none => .stuck
    | some none => .ok (.ref D) h
    | some (some x) => (body x h).bind fun y h1 => match y with
      | none => lcRun body w D n (i + 1) h1
      | some v => match h1[D]? with
        | some (.lst acc) => if acc.length < sizeLine then lcRun body w D n (i + 1) (h1.set D (.lst (acc ++ [v]))) else .stuck
        | _ => .stuck
def accRun (body : PV → PH → Res Unit) (w : Wk) : Nat → Nat → PH → Res Unit
  | 0, _, _ => .stuck
  | n + 1, i, h => match wkAt h i w with
    | none => .stuck
    | some none => .ok () h
    | some (some x) => (body x h).bind fun _ h1 => accRun body w n (i + 1) h1
def accPut (D : Nat) (v : PV) (h : PH) : Res Unit := match h[D]? with
  | some (.lst acc) => if acc.length < sizeLine then .ok () (h.set D (.lst (acc ++ [v]))) else .stuck
  | _ => .stuck
def isNop : Ex → Bool
  | .nop => true
  | _ => false
def partR (e : Ex) (r : Res PV) (h : PH) : Res (Option Int) := match e with
  | .nop => .ok none h
  | _ => r.bind fun v h1 => match v with
    | .int i => .ok (some i) h1
    | _ => .stuck
mutual
def evE : Ex → PEnv → PH → Res PV
  | .var i, ρ, h => match ρ[i]? with
    | some (some v) => .ok v h
    | _ => .stuck
  | .con v, _, h => .ok v h
  | .glob g, _, h => match T.glob[g]? with
    | some v => .ok v h
    | none => .stuck
  | .bin op a b, ρ, h => (evE a ρ h).bind fun v h1 => (evE b ρ h1).bind fun w h2 => pBin op v w h2
  | .neg a, ρ, h => (evE a ρ h).bind fun v h1 => match v with
    | .int i => .ok (.int (-i)) h1
    | _ => .stuck
  | .not a, ρ, h => (evE a ρ h).bind fun v h1 => match pTru h1 v with
    | some b => .ok (.bl (!b)) h1
    | none => .stuck
  | .and a b, ρ, h => (evE a ρ h).bind fun v h1 => match pTru h1 v with
    | some true => evE b ρ h1
    | some false => .ok v h1
    | none => .stuck
  | .or a b, ρ, h => (evE a ρ h).bind fun v h1 => match pTru h1 v with
    | some true => .ok v h1
    | some false => evE b ρ h1
    | none => .stuck
  | .cmp op a b, ρ, h => (evE a ρ h).bind fun v h1 => (evE b ρ h1).bind fun w h2 => pCmp op v w h2
  | .chn o1 o2 a b c, ρ, h => (evE a ρ h).bind fun v h1 => (evE b ρ h1).bind fun w h2 => (pCmp o1 v w h2).bind fun t h3 => match t with
    | .bl true => (evE c ρ h3).bind fun u h4 => pCmp o2 w u h4
    | .bl false => .ok (.bl false) h3
    | _ => .stuck
  | .ife c a b, ρ, h => (evE c ρ h).bind fun v h1 => match pTru h1 v with
    | some true => evE a ρ h1
    | some false => evE b ρ h1
    | none => .stuck
  | .tup es, ρ, h => (evEs es ρ h).bind fun vs h1 => if vs.length ≤ sizeLine then .ok (.tup vs) h1 else .stuck
  | .lst es, ρ, h => (evEs es ρ h).bind fun vs h1 => if vs.length ≤ sizeLine then .ok (.ref h1.length) (h1 ++ [.lst vs]) else .stuck
  | .star _, _, _ => .stuck
  | .ix o i, ρ, h => (evE o ρ h).bind fun v h1 => (evE i ρ h1).bind fun w h2 => pIx v w h2
  | .sl o lo hi, ρ, h => (evE o ρ h).bind fun v h1 => (partR lo (evE lo ρ h1) h1).bind fun l h2 => (partR hi (evE hi ρ h2) h2).bind fun u h3 => pSl v l u h3
  | .nop, _, _ => .stuck
  | .call g es, ρ, h => match T.glob[g]? with
    | some f => (evEs es ρ h).bind fun vs h1 => callG T call f vs h1
    | none => .stuck
  | .callv i es, ρ, h => (match ρ[i]? with
    | some (some (.fn f)) => if T.glob.any (isFnOf f) = true then (evEs es ρ h).bind fun vs h1 => call f vs h1 else .stuck
    | _ => .stuck)
  | .bi f es, ρ, h => (evEs es ρ h).bind fun vs h1 => pBi T f vs h1
  | .mt m b o es, ρ, h => (match b with
    | .none => (match evE o ρ h with
      | .ok (.ref l) h1 => (match h1[l]? with
        | some (.ins c fs) => (match fs.lookup m, (T.cls[c]?).bind fun ci => ci.meths.lookup m with
          | none, some f => (evEs es ρ h1).bind fun vs h2 => call f (.ref l :: vs) h2
          | some (.fn f), none => if T.glob.any (isFnOf f) = true ∧ attK T c m = some none then (evEs es ρ h1).bind fun vs h2 => call f vs h2 else .stuck
          | _, _ => .stuck)
        | _ => .stuck)
      | _ => .stuck)
    | b => (evE o ρ h).bind fun v h1 => (match Bq.of b (kindAt h1 v) with
      | some q => (evEs es ρ h1).bind fun vs h2 => pBq q v vs h2
      | none => .stuck))
  | .repl o y z, ρ, h => (evE o ρ h).bind fun v h1 => match v with
    | .str x => if decide (x.length + (x.length + 1) * z.length ≤ 16777216) && decide (y ≠ z) then .ok (.str (Txt.replace ⟨x.toArray⟩ ⟨y.toArray⟩ ⟨z.toArray⟩).cps.toList) h1 else .stuck
    | _ => .stuck
  | .att o f, ρ, h => (match evE o ρ h with
    | .ok (.ref l) h1 => (match h1[l]? with
      | some (.ins c fs) => (match attK T c f with
        | some (some g) => (call g [.ref l] h1).noer
        | _ => fldOf T f (.ref l) h1)
      | _ => .stuck)
    | r => r.bind fun v h1 => fldOf T f v h1)
  | .lc e own t k its ifs, ρ, h => ((evEs its ρ h).bind fun vs h1 => match wkOf k vs h1 with
    | none => .stuck
    | some (w, n) => lcRun (fun x h2 => match bindTg t x (own.foldr (fun i r => r.set i none) ρ) with
      | none => .stuck
      | some ρ1 => ((evIf ifs ρ1 h2).bind fun b h3 => if b then (evE e ρ1 h3).bind fun y h4 => .ok (some y) h4 else .ok none h3).noer) w h1.length (n + 1) 0 (h1 ++ [.lst []]))
  | .bty f, _, h => match f.tyn with
    | some n => .ok (.ty n) h
    | none => .stuck
  | .dsp, _, h => .ok (.ref h.length) (h ++ [.dic []])
  | .lz es, ρ, h => (evEs es ρ h).bind fun vs h1 => match vs with
    | [.tup xs, .tup ys] => .ok (.ref h1.length) (h1 ++ [.lst (List.zipWith (fun x y => .tup [x, y]) xs ys)])
    | _ => .stuck
  | .lc2 e own t k its ifs own1 t1 k1 its1 ifs1, ρ, h => ((evEs its ρ h).bind fun vs h1 => match wkOf k vs h1 with
    | none => .stuck
    | some (w, n) => (accRun (fun x h2 => match bindTg t x (own.foldr (fun i r => r.set i none) ρ) with
      | none => .stuck
      | some ρ1 => ((evIf ifs ρ1 h2).noer.bind fun b h3 => if b then ((evEs its1 ρ1 h3).noer.bind fun ws h4 => match wkOf k1 ws h4 with
        | none => .stuck
        | some (w1, n1) => accRun (fun y h5 => match bindTg t1 y (own1.foldr (fun i r => r.set i none) ρ1) with
          | none => .stuck
          | some ρ2 => ((evIf ifs1 ρ2 h5).noer.bind fun b h6 => if b then (evE e ρ2 h6).noer.bind fun z h7 => accPut h1.length z h7 else .ok () h6)) w1 (n1 + 1) 0 h4) else .ok () h3)) w (n + 1) 0 (h1 ++ [.lst []])).bind fun _ h9 => .ok (.ref h1.length) h9)
  | .lno m o, ρ, h => (evE o ρ h).bind fun v h1 => (match v with
    | .ref l => (match h1[l]? with
      | some (.ins c _) => (match (T.cls[c]?).bind fun ci => ci.meths.lookup m with
        | some f => (call f [.ref l] h1).noer.bind fun w h2 => (match w with
          | .int i => if decide (0 ≤ i) && decide (i < 2 ^ 63) then .ok (.int i) h2 else .stuck
          | _ => .stuck)
        | none => .stuck)
      | _ => pBi T .len [.ref l] h1)
    | v => pBi T .len [v] h1)
  | .calld g es j, ρ, h => (match T.glob[g]?, T.dfl[j]? with
    | some f, some q => (evEs es ρ h).bind fun vs h1 => callG T call f (vs ++ q.2) h1
    | _, _ => .stuck)
  | .mtd m o es j, ρ, h => (match evE o ρ h with
      | .ok (.ref l) h1 => (match h1[l]? with
        | some (.ins c fs) => (match fs.lookup m, (T.cls[c]?).bind (fun ci => ci.meths.lookup m), T.dfl[j]? with
          | none, some f, some q => if f = q.1 then (evEs es ρ h1).bind fun vs h2 => call f (.ref l :: (vs ++ q.2)) h2 else .stuck
          | _, _, _ => .stuck)
        | _ => .stuck)
      | _ => .stuck)
  | .oin neg m a b, ρ, h => (evE a ρ h).bind fun v h1 => (evE b ρ h1).bind fun w h2 => oinP T call neg m v w h2
  | .oeq a b, ρ, h => (evE a ρ h).bind fun v h1 => (evE b ρ h1).bind fun w h2 => oeqP T call v w h2
  | .one a b, ρ, h => (evE a ρ h).bind fun v h1 => (evE b ρ h1).bind fun w h2 => onpP T call v w h2
  | .lit o, ρ, h => (evE o ρ h).bind fun v h1 => (match v with
    | .ref l => (match h1[l]? with
      | some (.dic kvs) => .ok (.ref h1.length) (h1 ++ [.lst (kvs.map fun q => .tup [ofKey q.1, q.2])])
      | _ => .stuck)
    | _ => .stuck)
  | .lset e, ρ, h => (evE e ρ h).bind fun v h1 => (match v with
    | .ref l => (match lstAt h1 l with
      | some xs => (match intsOf xs with
        | some ns => if ns.length < 1000 then .ok (.int (ddI ns).length) h1 else .stuck
        | none => .stuck)
      | none => .stuck)
    | _ => .stuck)
  | .lck i x, ρ, h => (match ρ[i]? with
    | some (some (.ref l)) => (match h[l]? with
      | some (.dic kvs) => (evE x ρ (h.set l (.fdic kvs))).noer.bind fun v h2 => .ok v (h2.set l (.dic kvs))
      | _ => .stuck)
    | _ => .stuck)
  | .deq a b, ρ, h => (evE a ρ h).bind fun v h1 => (evE b ρ h1).bind fun w h2 => pDeq v w h2
  | .clm o j, ρ, h => (evE o ρ h).bind fun v h1 => (match v, T.cms[j]? with
    | .cls c, some q => if c = q.1 then call q.2.2 [.cls c] h1 else .stuck
    | _, _ => .stuck)
  | .callk i es, ρ, h => (match ρ[i]? with
    | some (some (.cls c)) => if ((T.cls[c]?).bind (·.init)).isSome = true then (evEs es ρ h).bind fun vs h1 => callG T call (.cls c) vs h1 else .stuck
    | _ => .stuck)
  | .tit o, ρ, h => (evE o ρ h).bind fun v h1 => (match v with
    | .ref l => (match h1[l]? with
      | some (.dic kvs) => .ok (.tup (kvs.map fun q => .tup [ofKey q.1, q.2])) h1
      | _ => .stuck)
    | _ => .stuck)
  | .sit o, ρ, h => (evE o ρ h).bind fun v h1 => (match v with
    | .ref l => (match h1[l]? with
      | some (.dic kvs) => (match psOfQ (kvs.map fun q => .tup [ofKey q.1, q.2]) with
        | some qs => .ok (.ref h1.length) (h1 ++ [.lst ((srtPQ qs).map ofPQ)])
        | none => .stuck)
      | _ => .stuck)
    | _ => .stuck)
  | .never, _, _ => .stuck
def evEs : List Ex → PEnv → PH → Res (List PV)
  | [], _, h => .ok [] h
  | .star e :: es, ρ, h => (evE e ρ h).bind fun v h1 => match v with
    | .tup xs => (evEs es ρ h1).bind fun vs h2 => .ok (xs ++ vs) h2
    | .ref l => (match lstAt h1 l with
      | some xs => (evEs es ρ h1).bind fun vs h2 => .ok (xs ++ vs) h2
      | none => .stuck)
    | _ => .stuck
  | e :: es, ρ, h => (evE e ρ h).bind fun v h1 => (evEs es ρ h1).bind fun vs h2 => .ok (v :: vs) h2
def evIf : List Ex → PEnv → PH → Res Bool
  | [], _, h => .ok true h
  | e :: es, ρ, h => (evE e ρ h).bind fun v h1 => match pTru h1 v with
    | some true => evIf es ρ h1
    | some false => .ok false h1
    | none => .stuck
end
def evT (e : Ex) (ρ : PEnv) (h : PH) : Res Bool := (evE T call e ρ h).bind fun v h1 => match pTru h1 v with
  | some b => .ok b h1
  | none => .stuck
def putN (f : Nat) (v : PV) : List (Nat × PV) → List (Nat × PV)
  | [] => [(f, v)]
  | (g, x) :: r => if g = f then (f, v) :: r else (g, x) :: putN f v r
def pSet (w k v : PV) (h : PH) : Option PH := match w with
  | .ref l => match h[l]? with
    | some (.lst xs) => (match k with
      | .int j => (match ixN xs.length j with
        | some m => some (h.set l (.lst (xs.set m v)))
        | none => none)
      | _ => none)
    | some (.dic kvs) => (match keyOf k with
      | some k => if kvs.length < sizeLine then some (h.set l (.dic (dPut kvs k v))) else none
      | none => none)
    | _ => none
  | _ => none
def spl {α : Type} (xs ys : List α) (lo hi : Option Int) : List α := xs.take (HT.sIx xs.length 0 lo) ++ ys ++ xs.drop (max (HT.sIx xs.length 0 lo) (HT.sIx xs.length xs.length hi))
def pSlS (w : PV) (lo hi : Option Int) (v : PV) (h : PH) : Option PH := match w, v with
  | .ref l, .ref m => match h[l]?, h[m]? with
    | some (.lst xs), some (.lst ys) => if l ≠ m ∧ xs.length + ys.length ≤ sizeLine then some (h.set l (.lst (spl xs ys lo hi))) else none
    | _, _ => none
  | _, _ => none
def pFld (T : Tb) (w : PV) (f : Nat) (v : PV) (h : PH) : Option PH := match w with
  | .ref l => match h[l]? with
    | some (.ins c fs) => if attK T c f = some none ∧ fs.length < 1000 then some (h.set l (.ins c (putN f v fs))) else none
    | _ => none
  | _ => none
def pDel (v w : PV) (h : PH) : Option PH := match v with
  | .ref l => match h[l]? with
    | some (.lst xs) => (match w with
      | .int i => (match PySem.seqIndex? i xs.length with
        | some k => if decide (-(2 ^ 63) ≤ i) && decide (i < 2 ^ 63) then some (h.set l (.lst (xs.eraseIdx k))) else none
        | none => none)
      | _ => none)
    | some (.dic kvs) => (match keyOf w with
      | some k => if (dLook kvs k).isSome then some (h.set l (.dic (dDrop kvs k))) else none
      | none => none)
    | _ => none
  | _ => none
def pAug (op : Bop) (v w : PV) (h : PH) : Res PV := match op, v, w with
  | .add, .int a, .int b => .ok (.int (a + b)) h
  | .sub, .int a, .int b => .ok (.int (a - b)) h
  | .add, .str a, .str b => if a.length + b.length ≤ sizeLine then .ok (.str (a ++ b)) h else .stuck
  | _, _, _ => .stuck
def bindL (is : List Nat) (v : PV) (ρ : PEnv) (h : PH) : Option PEnv := match v with
  | .ref l => (match lstAt h l with
    | some xs => if xs.length = is.length then some ((is.zip xs).foldl (fun r q => r.set q.1 (some q.2)) ρ) else none
    | none => none)
  | _ => none
def asgTa (t : Ta) (v : PV) (ρ : PEnv) (h : PH) : Res PEnv := match t with
  | .nm i => .ok (ρ.set i (some v)) h
  | .tp is => match bindTg (.tp is) v ρ with
    | some ρ1 => .ok ρ1 h
    | none => match bindL is v ρ h with
      | some ρ1 => .ok ρ1 h
      | none => .stuck
  | .att o f => (evE T call o ρ h).bind fun w h1 => match pFld T w f v h1 with
    | some h2 => .ok ρ h2
    | none => .stuck
  | .ix o i => (evE T call o ρ h).bind fun w h1 => (evE T call i ρ h1).bind fun k h2 => match pSet w k v h2 with
    | some h3 => .ok ρ h3
    | none => .stuck
  | .sl o lo hi => (evE T call o ρ h).bind fun w h1 => (partR lo (evE T call lo ρ h1) h1).bind fun l h2 => (partR hi (evE T call hi ρ h2) h2).bind fun u h3 => match pSlS w l u v h3 with
    | some h4 => .ok ρ h4
    | none => .stuck
def forRun (body : PV → PEnv → PH → Res Fl) (w : Wk) : Nat → Nat → PEnv → PH → Res Fl
  | 0, _, _, _ => .stuck
  | n + 1, i, ρ, h => match wkAt h i w with
    | none => .stuck
    | some none => .ok (.nx ρ) h
    | some (some x) => (body x ρ h).bind fun f h1 => match f with
      | .nx ρ1 => forRun body w n (i + 1) ρ1 h1
      | .ct ρ1 => forRun body w n (i + 1) ρ1 h1
      | .bk ρ1 => .ok (.nx ρ1) h1
      | .rt v => .ok (.rt v) h1
def whRun (c : PEnv → PH → Res Bool) (body : PEnv → PH → Res Fl) : Nat → PEnv → PH → Res Fl
  | 0, _, _ => .stuck
  | n + 1, ρ, h => (c ρ h).bind fun b h1 => if b then (body ρ h1).bind fun f h2 => match f with
      | .nx ρ1 => whRun c body n ρ1 h2
      | .ct ρ1 => whRun c body n ρ1 h2
      | .bk ρ1 => .ok (.nx ρ1) h2
      | .rt v => .ok (.rt v) h2
    else .ok (.nx ρ) h1
def lkAt (ρ : PEnv) (h : PH) (i f : Nat) : Option (Nat × List (Key × PV)) := match ρ[i]? with
  | some (some (.ref m)) => (match h[m]? with
    | some (.ins _ fs) => (match fs.lookup f with
      | some (.ref l) => (match h[l]? with
        | some (.dic kvs) => some (l, kvs)
        | _ => none)
      | _ => none)
    | _ => none)
  | _ => none
mutual
def exS (W : Nat) : Sm → PEnv → PH → Res Fl
  | .asg t e, ρ, h => (evE T call e ρ h).bind fun v h1 => (asgTa T call t v ρ h1).bind fun ρ1 h2 => .ok (.nx ρ1) h2
  | .aug t op e, ρ, h => match t with
    | .nm i => (match ρ[i]? with
      | some (some v) => (evE T call e ρ h).bind fun w h1 => match op, v, w with
        | .add, .int a, .int b => .ok (.nx (ρ.set i (some (.int (a + b))))) h1
        | .sub, .int a, .int b => .ok (.nx (ρ.set i (some (.int (a - b))))) h1
        | .mul, .int a, .int b => if big a b then .ok (.nx (ρ.set i (some (.int (a * b))))) h1 else .stuck
        | _, _, _ => .stuck
      | _ => .stuck)
    | .att o f => (evE T call o ρ h).bind fun w h1 => (match w with
      | .ref l => (match h1[l]? with
        | some (.ins c fs) => (match attK T c f with
          | some none => (match fs.lookup f with
            | some v => (evE T call e ρ h1).bind fun x h3 => (pAug op v x h3).bind fun y h4 => (match h4[l]? with
              | some (.ins c' fs') => if c' = c ∧ fs'.length < 1000 then .ok (.nx ρ) (h4.set l (.ins c (putN f y fs'))) else .stuck
              | _ => .stuck)
            | none => .stuck)
          | _ => .stuck)
        | _ => .stuck)
      | _ => .stuck)
    | _ => .stuck
  | .ex e, ρ, h => (evE T call e ρ h).bind fun _ h1 => .ok (.nx ρ) h1
  | .ret e, ρ, h => (evE T call e ρ h).bind fun v h1 => .ok (.rt v) h1
  | .retn, _, h => .ok (.rt .non) h
  | .ite c a b, ρ, h => (evT T call c ρ h).bind fun t h1 => if t then exSs W a ρ h1 else exSs W b ρ h1
  | .wh c b, ρ, h => whRun (evT T call c) (exSs W b) W ρ h
  | .for_ t k its b, ρ, h => (evEs T call its ρ h).bind fun vs h1 => match wkOf k vs h1 with
    | none => .stuck
    | some (w, n) => forRun (fun x ρ1 h2 => match bindTg t x ρ1 with
      | none => .stuck
      | some ρ2 => exSs W b ρ2 h2) w (n + 1) 0 ρ h1
  | .brk, ρ, h => .ok (.bk ρ) h
  | .cnt, ρ, h => .ok (.ct ρ) h
  | .pass, ρ, h => .ok (.nx ρ) h
  | .raise _ _, _, _ => .stuck
  | .del o i, ρ, h => (evE T call o ρ h).bind fun v h1 => (evE T call i ρ h1).bind fun w h2 => match pDel v w h2 with
    | some h3 => .ok (.nx ρ) h3
    | none => .stuck
  | .slck i f s, ρ, h => (match lkAt ρ h i f with
    | some (l, kvs) => (exS W s ρ (h.set l (.fdic kvs))).noer.bind fun fl h2 => .ok fl (h2.set l (.dic kvs))
    | none => .stuck)
  | .never, _, _ => .stuck
def exSs (W : Nat) : List Sm → PEnv → PH → Res Fl
  | [], ρ, h => .ok (.nx ρ) h
  | s :: r, ρ, h => (exS W s ρ h).bind fun f h1 => match f with
    | .nx ρ1 => exSs W r ρ1 h1
    | f => .ok f h1
end
def runBody (W ns : Nat) (b : List Sm) (vs : List PV) (h : PH) : Res PV :=
  (exSs T call W b (vs.map some ++ List.replicate (ns - vs.length) none) h).bind fun f h1 => match f with
    | .nx _ => .ok .non h1
    | .rt v => .ok v h1
    | _ => .stuck
end
end Mn
set_option Elab.async false
set_option linter.all false
set_option maxRecDepth 100000
set_option maxHeartbeats 4000000
namespace Mn
open PySem PySem.Spec L2 PyProof.Rows
def Bop.py : Bop → Operator
  | .add => .Add | .sub => .Sub | .mul => .Mult | .fdiv => .FloorDiv | .mod => .Mod | .pow => .Pow | .band => .BitAnd | .bor => .BitOr | .bxor => .BitXor | .shl => .LShift | .shr => .RShift
def Cop.py : Cop → CmpOp
  | .eq => .Eq | .ne => .NotEq | .lt => .Lt | .le => .LtE | .gt => .Gt | .ge => .GtE | .is_ => .Is | .isn => .IsNot | .in_ => .In | .nin => .NotIn
section
variable {G : Gm} {E : XK} {X : Cx} {as : List Addr} {H : Hp} {h : PH}
theorem RepV.refE {l : Nat} {v : V} (r : RepV G as H (.ref l) v) : ∃ a, as[l]? = some a ∧ v = .ref a := by unfold RepV at r; exact r
theorem RepV.intE {i : Int} {v : V} (r : RepV G as H (.int i) v) : v = .int i := by unfold RepV at r; exact r
theorem RepV.blE {i : Bool} {v : V} (r : RepV G as H (.bl i) v) : v = .bl i := by unfold RepV at r; exact r
theorem RepV.nonE {v : V} (r : RepV G as H .non v) : v = .non := by unfold RepV at r; exact r
theorem RepV.strE {x : List Nat} {v : V} (r : RepV G as H (.str x) v) : v = .str ⟨x.toArray⟩ := by unfold RepV at r; exact r
theorem RepV.tupE {xs : List PV} {v : V} (r : RepV G as H (.tup xs) v) : ∃ a vs, v = .ref a ∧ SqT G.K H a vs ∧ RepVs G as H xs vs := by unfold RepV at r; exact r
theorem RepV.frkE {xs : List PV} {v : V} (r : RepV G as H (.frk xs) v) : ∃ a vs, v = .ref a ∧ SqF G.K H a vs ∧ RepVs G as H xs vs := by unfold RepV at r; exact r
theorem RepV.tyE {n : String} {v : V} (r : RepV G as H (.ty n) v) : v = .ty n := by unfold RepV at r; exact r
theorem RepV.int (i : Int) : RepV G as H (.int i) (.int i) := by unfold RepV; rfl
theorem RepV.bl (i : Bool) : RepV G as H (.bl i) (.bl i) := by unfold RepV; rfl
theorem RepV.non : RepV G as H .non .non := by unfold RepV; rfl
theorem RepV.str (x : List Nat) : RepV G as H (.str x) (.str ⟨x.toArray⟩) := by unfold RepV; rfl
theorem RepV.strO (x : Str) : RepV G as H (.str x.cps.toList) (.str x) := by unfold RepV; rfl
theorem SR.obj (S : SR G as H h) {l : Nat} {a : Addr} {o : PO} (e : h[l]? = some o) (ea : as[l]? = some a) : RepO G as H o a := S.at_ l o a e ea
theorem SR.lst (S : SR G as H h) {l : Nat} {a : Addr} {xs : List PV} (e : lstAt h l = some xs) (ea : as[l]? = some a) : ∃ vs, SqL G.K H a vs ∧ RepVs G as H xs vs := by
  unfold lstAt at e
  split at e
  · rename_i ys q
    cases e
    obtain ⟨vs, e1, r⟩ := S.obj q ea
    exact ⟨vs, .of e1, r⟩
  · rename_i ys q
    cases e
    obtain ⟨o, vs, e1, r⟩ := S.obj q ea
    exact ⟨vs, .inl (.inr ⟨o, e1⟩), r⟩
  · cases e
theorem lstAt_of {l : Nat} {xs : List PV} (e : h[l]? = some (.lst xs)) : lstAt h l = some xs := by unfold lstAt; rw [e]
theorem lstAt_frz {l : Nat} {xs : List PV} (e : h[l]? = some (.frz xs)) : lstAt h l = some xs := by unfold lstAt; rw [e]
theorem SR.lstM (S : SR G as H h) {l : Nat} {a : Addr} {xs : List PV} (e : h[l]? = some (.lst xs)) (ea : as[l]? = some a) : ∃ vs, H a = some (.lst vs) ∧ RepVs G as H xs vs := S.obj e ea
theorem SR.setL (S : SR G as H h) {l : Nat} {a : Addr} {vs ws : List V} {ys : List PV} (ea : as[l]? = some a) (e : H a = some (.lst vs)) (r : RepVs G as H ys ws) : Fut G as H as (upd H a (.lst ws)) (h.set l (.lst ys)) := by
  have k : Kp H (upd H a (.lst ws)) := Kp.mut e (fun _ z => by cases z) (fun _ _ z => by cases z)
  exact S.set ea k ⟨ws, upd_same, r.mono (List.prefix_refl _) k⟩
theorem SR.newL (S : SR G as H h) {p : Addr} {ys : List PV} {ws : List V} (hp : H p = none) (r : RepVs G as H ys ws) : Fut G as H (as ++ [p]) (upd H p (.lst ws)) (h ++ [.lst ys]) ∧ RepV G (as ++ [p]) (upd H p (.lst ws)) (.ref h.length) (.ref p) :=
  S.new hp ⟨ws, upd_same, r.mono (List.prefix_append _ _) (Kp.new hp)⟩
mutual
theorem toD_ok {de : Nat → Option PyData} (hd : ∀ l d a, de l = some d → as[l]? = some a → Dp G.K H (.ref a) d) : ∀ {v : PV} {x : V} {d : PyData}, toD de v = some d → RepV G as H v x → Dp G.K H x d
  | .non, x, d, e, r => by
    simp only [toD] at e; cases e; rw [r.nonE]; exact .non
  | .bl b, x, d, e, r => by
    simp only [toD] at e; cases e; rw [r.blE]; exact .bl b
  | .int i, x, d, e, r => by
    simp only [toD] at e; cases e; rw [r.intE]; exact .int i
  | .str y, x, d, e, r => by
    simp only [toD] at e; cases e; rw [r.strE]; exact .str _
  | .tup xs, x, d, e, r => by
    simp only [toD] at e
    obtain ⟨ds, e1, e2⟩ := Option.map_eq_some_iff.mp e
    subst e2
    obtain ⟨a, vs, rfl, s, rv⟩ := r.tupE
    exact .tup s (toDs_ok hd e1 rv)
  | .ref l, x, d, e, r => by
    simp only [toD] at e
    obtain ⟨a, ea, rfl⟩ := r.refE
    exact hd l d a e ea
  | .frk _, _, _, e, _ => by simp [toD] at e
  | .fn _, _, _, e, _ => by simp [toD] at e
  | .cls _, _, _, e, _ => by simp [toD] at e
  | .ty _, _, _, e, _ => by simp [toD] at e
theorem toDs_ok {de : Nat → Option PyData} (hd : ∀ l d a, de l = some d → as[l]? = some a → Dp G.K H (.ref a) d) : ∀ {vs : List PV} {xs : List V} {ds : List PyData}, toDs de vs = some ds → RepVs G as H vs xs → DpAll G.K H xs ds
  | [], xs, ds, e, r => by
    simp only [toDs] at e; cases e
    unfold RepVs at r; subst r; exact .nil
  | v :: vs, xs, ds, e, r => by
    simp only [toDs] at e
    unfold RepVs at r
    obtain ⟨x, rest, rfl, r1, r2⟩ := r
    split at e
    · cases e
    · rename_i d q
      obtain ⟨es, e1, e2⟩ := Option.map_eq_some_iff.mp e
      subst e2
      exact .cons (toD_ok hd q r1) (toDs_ok hd e1 r2)
end
theorem deref_ok (S : SR G as H h) : ∀ (n l : Nat) (d : PyData) (a : Addr), deref h n l = some d → as[l]? = some a → Dp G.K H (.ref a) d
  | 0, l, d, a, e, _ => by simp [deref] at e
  | n + 1, l, d, a, e, ea => by
    simp only [deref] at e
    split at e
    · rename_i xs q
      obtain ⟨ds, e1, e2⟩ := Option.map_eq_some_iff.mp e
      subst e2
      obtain ⟨vs, s, r⟩ := S.lst (lstAt_of q) ea
      exact .lst s (toDs_ok (deref_ok S n) e1 r)
    · rename_i xs q
      obtain ⟨ds, e1, e2⟩ := Option.map_eq_some_iff.mp e
      subst e2
      obtain ⟨vs, s, r⟩ := S.lst (lstAt_frz q) ea
      exact .lst s (toDs_ok (deref_ok S n) e1 r)
    · cases e
theorem datum_ok (S : SR G as H h) {v : PV} {x : V} {d : PyData} (e : datum h v = some d) (r : RepV G as H v x) : Dp G.K H x d ∧ SeqAt.shaped d = true := by
  unfold datum at e
  split at e
  · rename_i d' q
    split at e
    · rename_i sh
      cases e
      exact ⟨toD_ok (deref_ok S 8) q r, sh⟩
    · cases e
  · cases e
theorem pEq_ok (S : SR G as H h) {v w : PV} {x y : V} {b : Bool} (e : pEq h v w = some b) (r1 : RepV G as H v x) (r2 : RepV G as H w y) :
    ∃ d d', Dp G.K H x d ∧ Dp G.K H y d' ∧ SeqAt.shaped d = true ∧ SeqAt.shaped d' = true ∧ b = PyData.eqv d d' := by
  unfold pEq at e
  split at e
  · rename_i d d' q1 q2
    cases e
    obtain ⟨a1, a2⟩ := datum_ok S q1 r1
    obtain ⟨b1, b2⟩ := datum_ok S q2 r2
    exact ⟨d, d', a1, b1, a2, b2, rfl⟩
  · cases e
abbrev rP2 (G : Gm) (E : XK) (pr : PV → PV → PH → Res PV) : R2 := fun x y H Q => ∃ as h va vb, SR G as H h ∧ RepV G as H va x ∧ RepV G as H vb y ∧ OkV G E as H Q (pr va vb h)
theorem okv {Q : V → Hp → Prop} {w : PV} {v : V} (S : SR G as H h) (o : OkV G E as H Q (.ok w h)) (r : RepV G as H w v) : Q v H := o as H v (Fut.refl S) r
theorem okn {Q : V → Hp → Prop} {w : PV} {v : V} {as' : List Addr} {H' : Hp} {h' : PH} (o : OkV G E as H Q (.ok w h')) (f : Fut G as H as' H' h') (r : RepV G as' H' w v) : Q v H' := o as' H' v f r
theorem str_app (x y : List Nat) : (⟨x.toArray⟩ : Str) ++ (⟨y.toArray⟩ : Str) = ⟨(x ++ y).toArray⟩ := by
  show Str.append _ _ = _
  unfold Str.append
  simp
theorem str_len (x : List Nat) : (⟨x.toArray⟩ : Str).length = x.length := by unfold Str.length; simp
theorem pow_any {pins : List (Addr × Obj)} {s : Shared} {σ : L2.St} {x y : V} {v u : Value} {Q : VK} {i j : Int} (I : Inv X pins σ H s) (rx : RelV (.int i) v) (ry : RelV (.int j) u) (h0 : 0 ≤ j) (hsz : (Builtin.Int.intBits i : Int) * j ≤ 2 ^ 27) (q : Q (.int (i ^ j.toNat)) H) :
    wpAny (model X.prog X.w) X.A (binaryOp .Pow v u) (EP X pins σ Q) X.xe s := by
  obtain ⟨t, rfl⟩ := rx
  obtain ⟨t', rfl⟩ := ry
  exact pow_int h0 hsz ⟨.int _, H, I.tok _, ⟨_, rfl⟩, q⟩
open PySem.P in
theorem mul_strP {prog : Program} {w : World} {A : Around} {E : Value → Shared → Prop} {s : Shared} {x : Str} {n : Int} {t u : Tok} {Q : Value → Shared → Prop} (hr : (decide (n < -(2 ^ 63 : Int)) || decide (n ≥ 2 ^ 63)) = false)
    (hb : ¬ n < 1 → (n == 1 || x.length == 0) = false → ¬ ((x.length : Int) > (2 ^ 63 - 1) / n)) (hl : ¬ n < 1 → (n == 1 || x.length == 0) = false → Builtin.Str.tooLong (x.length * n.toNat) = false)
    (h : (if n < 1 then Made.str Str.empty else if (n == 1 || x.length == 0) = true then Made.val (.str x t) else Made.str ⟨(List.replicate n.toNat x.cps).foldl (· ++ ·) #[]⟩).post Q s) :
    wpAny (model prog w) A (binaryOp .Mult (.str x t) (.int n u)) Q E s := mul_str hr hb hl h
theorem op_bin (hk : X.K = G.K) (op : Bop) : OpR X (binaryOp op.py) (rP2 G E (pBin op)) := by
  intro pins s σ H x y v u Q I rx ry ⟨as, h, va, vb, S, ra, rb, o⟩
  unfold pBin at o
  split at o
  · -- int + int
    rw [ra.intE] at rx; rw [rb.intE] at ry
    exact op_add pins s σ H _ _ v u Q I rx ry ⟨_, _, rfl, rfl, okv S o (.int _)⟩
  · -- str + str
    split at o
    · rename_i hl
      rw [ra.strE] at rx; rw [rb.strE] at ry
      refine op_add_str pins s σ H _ _ v u Q I rx ry ⟨_, _, rfl, rfl, by simpa [str_len] using hl, ?_⟩
      rw [str_app]
      exact okv S o (.str _)
    · exact False.elim o
  · -- tuple + tuple
    split at o
    · rename_i hl
      obtain ⟨a, vs, rfl, sa, r1⟩ := ra.tupE
      obtain ⟨b, ws, rfl, sb, r2⟩ := rb.tupE
      rename_i xs ys
      refine op_catA pins s σ H _ _ v u Q I rx ry ⟨a, b, vs, ws, rfl, rfl, by rw [hk]; exact sa, by rw [hk]; exact sb, by rw [← r1.length, ← r2.length]; exact hl, fun e => ?_, fun _ e => ?_, fun _ _ p hp => ?_⟩
      · have e2 : xs = [] := List.eq_nil_of_length_eq_zero (by rw [r1.length, e]; rfl)
        subst e2
        exact okv S o (by unfold RepV; exact ⟨b, ws, rfl, sb, by simpa using r2⟩)
      · have e2 : ys = [] := List.eq_nil_of_length_eq_zero (by rw [r2.length, e]; rfl)
        subst e2
        exact okv S o (by unfold RepV; exact ⟨a, vs, rfl, sa, by simpa using r1⟩)
      · obtain ⟨f, r⟩ := S.tup hp (r1.append r2)
        exact okn o f r
    · exact False.elim o
  · -- list + list
    obtain ⟨a, ea, rfl⟩ := ra.refE
    obtain ⟨b, eb, rfl⟩ := rb.refE
    split at o
    · rename_i x1 y1 q1 q2
      split at o
      · rename_i hl
        obtain ⟨vs, e1, r1⟩ := S.lstM q1 ea
        obtain ⟨ws, e2, r2⟩ := S.lstM q2 eb
        refine op_cat pins s σ H _ _ v u Q I rx ry ⟨a, b, vs, ws, rfl, rfl, e1, e2, by rw [← r1.length, ← r2.length]; exact hl, fun p hp => ?_⟩
        obtain ⟨f, r⟩ := S.newL hp (r1.append r2)
        exact okn o f r
      · exact False.elim o
    · exact False.elim o
  · rw [ra.intE] at rx; rw [rb.intE] at ry
    exact op_sub pins s σ H _ _ v u Q I rx ry ⟨_, _, rfl, rfl, okv S o (.int _)⟩
  · -- int * int
    split at o
    · rename_i hb
      rw [ra.intE] at rx; rw [rb.intE] at ry
      exact op_mulW pins s σ H _ _ v u Q I rx ry ⟨_, _, rfl, rfl, (show _ < 1000000 from of_decide_eq_true hb), okv S o (.int _)⟩
    · exact False.elim o
  · -- list * int
    obtain ⟨a, ea, rfl⟩ := ra.refE
    rw [rb.intE] at ry
    split at o
    · rename_i x1 q1
      split at o
      · rename_i hl
        simp only [Bool.and_eq_true, decide_eq_true_eq] at hl
        obtain ⟨vs, e1, r1⟩ := S.lstM q1 ea
        refine op_rep pins s σ H _ _ v u Q I rx ry ⟨a, _, vs, rfl, rfl, e1, hl.1.1, hl.1.2, by rw [← r1.length]; exact hl.2, fun p hp => ?_⟩
        have rr : ∀ n : Nat, RepVs G as H (List.replicate n x1).flatten (List.replicate n vs).flatten := fun n => by
          induction n with
          | zero => simpa using RepVs.nil
          | succ n ih => simpa [List.replicate_succ] using r1.append ih
        obtain ⟨f, r⟩ := S.newL hp (rr _)
        exact okn o f r
      · exact False.elim o
    · exact False.elim o
  · -- str * int
    split at o
    · rename_i x1 k1 hl
      simp only [Bool.and_eq_true, decide_eq_true_eq] at hl
      rw [ra.strE] at rx; rw [rb.intE] at ry
      obtain ⟨t, rfl⟩ := rx
      obtain ⟨t', rfl⟩ := ry
      obtain ⟨⟨h1, h2⟩, h3⟩ := hl
      have hlen : (⟨x1.toArray⟩ : Str).length = x1.length := by rw [str_len]
      refine mul_strP (by rw [decide_eq_false (by omega), decide_eq_false (by omega)]; rfl) ?_ (fun a b => ?_) ?_
      · intro a b
        rw [hlen]
        have hk1 : 0 < k1 := by omega
        have h4 : x1.length * k1.toNat ≤ 16777216 := h3
        have h5 : (x1.length : Int) * k1 ≤ 16777216 := by
          have e : ((x1.length * k1.toNat : Nat) : Int) = (x1.length : Int) * k1 := by
            push_cast
            rw [Int.toNat_of_nonneg (by omega)]
          omega
        have h6 : (x1.length : Int) ≤ (2 ^ 63 - 1) / k1 := (Int.le_ediv_iff_mul_le hk1).mpr (by omega)
        omega
      · unfold Builtin.Str.tooLong
        rw [hlen]
        exact decide_eq_false (by omega)
      · have key : ∀ n : Nat, ((List.replicate n (⟨x1.toArray⟩ : Str).cps).foldl (· ++ ·) #[] : Array Nat) = ((List.replicate n x1).flatten).toArray := fun n => by
          have gen : ∀ (n : Nat) (acc : List Nat), (List.replicate n (x1.toArray)).foldl (· ++ ·) acc.toArray = (acc ++ (List.replicate n x1).flatten).toArray := fun n => by
            induction n with
            | zero => intro acc; simp
            | succ n ih =>
              intro acc
              rw [List.replicate_succ, List.foldl_cons, List.append_toArray, ih]
              simp [List.replicate_succ]
          simpa using gen n []
        have fin : ∀ (z : Str), z = ⟨(List.replicate k1.toNat x1).flatten.toArray⟩ → Q (.str z) H := fun z e => by
          rw [e]
          exact okv S o (.str _)
        split
        · rename_i hn
          refine ⟨by decide, ?_⟩
          have e0 : k1.toNat = 0 := by omega
          exact ⟨.str Str.empty, H, I.tok _, ⟨_, rfl⟩, fin _ (by rw [e0]; rfl)⟩
        · split
          · rename_i hc
            have e1 : (⟨x1.toArray⟩ : Str) = ⟨(List.replicate k1.toNat x1).flatten.toArray⟩ := by
              simp only [Bool.or_eq_true, beq_iff_eq] at hc
              rcases hc with hc | hc
              · subst hc; simp
              · rw [hlen] at hc
                have : x1 = [] := List.eq_nil_of_length_eq_zero hc
                subst this
                congr 1
                have : ∀ n : Nat, (List.replicate n ([] : List Nat)).flatten = [] := fun n => by induction n <;> simp_all [List.replicate_succ]
                rw [this]
            exact ⟨.str _, H, I, ⟨_, rfl⟩, fin _ e1⟩
          · refine ⟨?_, ⟨.str _, H, I.tok _, ⟨_, rfl⟩, fin _ (by rw [key])⟩⟩
            rw [key, str_len]
            have ln : ∀ n : Nat, (List.replicate n x1).flatten.length = x1.length * n := fun n => by
              induction n with
              | zero => simp
              | succ n ih => simp [List.replicate_succ, ih, Nat.mul_succ, Nat.add_comm]
            rw [ln]
            exact h3
    · exact False.elim o
  · -- //
    split at o
    · rename_i hb
      simp only [Bool.and_eq_true, decide_eq_true_eq] at hb
      rw [ra.intE] at rx; rw [rb.intE] at ry
      exact op_fdivW pins s σ H _ _ v u Q I rx ry ⟨_, _, rfl, rfl, hb, okv S o (.int _)⟩
    · exact False.elim o
  · split at o
    · rename_i hb
      rw [ra.intE] at rx; rw [rb.intE] at ry
      exact op_mod pins s σ H _ _ v u Q I rx ry ⟨_, _, rfl, rfl, of_decide_eq_true hb, okv S o (.int _)⟩
    · exact False.elim o
  · split at o
    · rename_i hb
      simp only [Bool.and_eq_true, decide_eq_true_eq] at hb
      rw [ra.intE] at rx; rw [rb.intE] at ry
      exact pow_any (x := x) (y := y) I rx ry hb.1 hb.2 (okv S o (.int _))
    · exact False.elim o
  · split at o
    · rename_i hb
      simp only [Bool.and_eq_true, decide_eq_true_eq] at hb
      rw [ra.intE] at rx; rw [rb.intE] at ry
      exact op_shl pins s σ H _ _ v u Q I rx ry ⟨_, _, rfl, rfl, ⟨hb.1.1, hb.1.2, hb.2⟩, okv S o (.int _)⟩
    · exact False.elim o
  · split at o
    · rename_i hb
      rw [ra.intE] at rx; rw [rb.intE] at ry
      exact op_shr pins s σ H _ _ v u Q I rx ry ⟨_, _, rfl, rfl, of_decide_eq_true hb, okv S o (.int _)⟩
    · exact False.elim o
  · rw [ra.intE] at rx; rw [rb.intE] at ry
    exact op_and pins s σ H _ _ v u Q I rx ry ⟨_, _, rfl, rfl, okv S o (.int _)⟩
  · rw [ra.intE] at rx; rw [rb.intE] at ry
    exact op_or pins s σ H _ _ v u Q I rx ry ⟨_, _, rfl, rfl, okv S o (.int _)⟩
  · rw [ra.intE] at rx; rw [rb.intE] at ry
    exact op_xor pins s σ H _ _ v u Q I rx ry ⟨_, _, rfl, rfl, okv S o (.int _)⟩
  · exact False.elim o
theorem ob_ok {b : Option Bool} {Q : V → Hp → Prop} (o : OkV G E as H Q (ob b h)) (S : SR G as H h) : ∃ c, b = some c ∧ Q (.bl c) H := by
  unfold ob at o
  split at o
  · exact ⟨_, rfl, okv S o (.bl _)⟩
  · exact False.elim o
theorem flat_in {y : List Nat} {c : Nat} : decide (c ∈ (⟨y.toArray⟩ : Str).cps.toList) = y.contains c := by
  show decide (c ∈ y.toArray.toList) = _
  rw [Bool.eq_iff_iff]
  simp
theorem op_inT (hu : X.A.units + 65 < cLine) : OpR X (compareOp .In) (fun x y H Q => ∃ d ds, Dp X.K H x d ∧ Dp X.K H y (.tuple ds) ∧ SeqAt.shaped d = true ∧ SeqAt.shaped (.tuple ds) = true ∧ Q (.bl (ds.any fun z => PyData.eqv z d)) H) := by
  intro pins s σ H x y v u Q I rx ry h
  obtain ⟨d, ds, hd, he, sd, se, q⟩ := h
  obtain ⟨as, r1⟩ := Dp.reads I d x v hd rx
  obtain ⟨bs, r2⟩ := Dp.reads I (.tuple ds) y u he ry
  exact SeqAt.in_tuple_reads r2 r1 (SeqAt.canLay_of_shaped se) (SeqAt.canLay_of_shaped sd) (room_in_shaped sd hu) ⟨.bl _, H, I, rfl, q⟩
theorem op_notInT (hu : X.A.units + 65 < cLine) : OpR X (compareOp .NotIn) (fun x y H Q => ∃ d ds, Dp X.K H x d ∧ Dp X.K H y (.tuple ds) ∧ SeqAt.shaped d = true ∧ SeqAt.shaped (.tuple ds) = true ∧ Q (.bl (!ds.any fun z => PyData.eqv z d)) H) := by
  intro pins s σ H x y v u Q I rx ry h
  obtain ⟨d, ds, hd, he, sd, se, q⟩ := h
  obtain ⟨as, r1⟩ := Dp.reads I d x v hd rx
  obtain ⟨bs, r2⟩ := Dp.reads I (.tuple ds) y u he ry
  exact SeqAt.notIn_tuple_reads r2 r1 (SeqAt.canLay_of_shaped se) (SeqAt.canLay_of_shaped sd) (room_in_shaped sd hu) ⟨.bl _, H, I, rfl, q⟩
theorem dLook_ok : ∀ {kvs : List (Key × PV)} {ks : List (Key × V)} (k : Key), RepK G as H kvs ks → (∀ x, dLook kvs k = some x → ∃ v, valV ks k = some v ∧ RepV G as H x v) ∧ (dLook kvs k = none → valV ks k = none)
  | [], ks, k, r => by
    unfold RepK at r; subst r
    exact ⟨fun x e => by simp [dLook] at e, fun _ => rfl⟩
  | (k', x) :: kvs, ks, k, r => by
    unfold RepK at r
    obtain ⟨v, rest, rfl, r1, r2⟩ := r
    obtain ⟨i1, i2⟩ := dLook_ok k r2
    by_cases e : k' = k
    · subst e
      refine ⟨fun y q => ?_, fun q => ?_⟩
      · simp [dLook] at q
        subst q
        exact ⟨v, by simp [valV], r1⟩
      · simp [dLook] at q
    · have a : dLook ((k', x) :: kvs) k = dLook kvs k := by simp [dLook, List.find?_cons, e]
      have b : valV ((k', v) :: rest) k = valV rest k := by simp [valV, List.find?_cons, e]
      rw [a, b]
      exact ⟨i1, i2⟩
theorem dLook_iff {kvs : List (Key × PV)} {ks : List (Key × V)} (k : Key) (r : RepK G as H kvs ks) : (dLook kvs k).isSome = (valV ks k).isSome := by
  obtain ⟨a, b⟩ := dLook_ok k r
  cases e : dLook kvs k with
  | none => rw [b e]; rfl
  | some x => obtain ⟨v, e1, _⟩ := a x e; rw [e1]; rfl
theorem RepK.length : ∀ {kvs : List (Key × PV)} {ks : List (Key × V)}, RepK G as H kvs ks → kvs.length = ks.length
  | [], ks, r => by unfold RepK at r; subst r; rfl
  | (k', x) :: kvs, ks, r => by
    unfold RepK at r
    obtain ⟨v, rest, rfl, r1, r2⟩ := r
    simp [RepK.length r2]
theorem RepK.append : ∀ {kvs : List (Key × PV)} {ks : List (Key × V)} {k : Key} {x : PV} {v : V}, RepK G as H kvs ks → RepV G as H x v → RepK G as H (kvs ++ [(k, x)]) (ks ++ [(k, v)])
  | [], ks, k, x, v, r, q => by unfold RepK at r; subst r; unfold RepK; exact ⟨v, [], rfl, q, by unfold RepK; rfl⟩
  | (k', y) :: kvs, ks, k, x, v, r, q => by
    unfold RepK at r
    obtain ⟨w, rest, rfl, r1, r2⟩ := r
    show RepK G as H ((k', y) :: (kvs ++ [(k, x)])) ((k', w) :: (rest ++ [(k, v)]))
    unfold RepK
    exact ⟨w, _, rfl, r1, RepK.append r2 q⟩
theorem RepK.mapP : ∀ {kvs : List (Key × PV)} {ks : List (Key × V)} {k : Key} {x : PV} {v : V}, RepK G as H kvs ks → RepV G as H x v →
    RepK G as H (kvs.map fun kv => if kv.1 = k then (kv.1, x) else kv) (ks.map fun kv => if kv.1 = k then (kv.1, v) else kv)
  | [], ks, k, x, v, r, q => by unfold RepK at r; subst r; unfold RepK; rfl
  | (k', y) :: kvs, ks, k, x, v, r, q => by
    unfold RepK at r
    obtain ⟨w, rest, rfl, r1, r2⟩ := r
    by_cases e : k' = k
    · simp only [List.map_cons, e, if_true]
      unfold RepK
      exact ⟨v, _, rfl, q, RepK.mapP r2 q⟩
    · simp only [List.map_cons, e, if_false]
      unfold RepK
      exact ⟨w, _, rfl, r1, RepK.mapP r2 q⟩
theorem dPut_ok {kvs : List (Key × PV)} {ks : List (Key × V)} {k : Key} {x : PV} {v : V} (r : RepK G as H kvs ks) (q : RepV G as H x v) : RepK G as H (dPut kvs k x) (putK ks k v) := by
  have e : (kvs.any fun kv => decide (kv.1 = k)) = (ks.any fun kv => decide (kv.1 = k)) := by
    clear q
    induction kvs generalizing ks with
    | nil => unfold RepK at r; subst r; rfl
    | cons p kvs ih =>
      obtain ⟨k', y⟩ := p
      unfold RepK at r
      obtain ⟨w, rest, rfl, r1, r2⟩ := r
      simp only [List.any_cons, ih r2]
  unfold dPut putK
  rw [e]
  split
  · exact r.mapP q
  · exact r.append q
theorem dDrop_ok : ∀ {kvs : List (Key × PV)} {ks : List (Key × V)} {k : Key}, RepK G as H kvs ks → RepK G as H (dDrop kvs k) (dropK ks k)
  | [], ks, k, r => by unfold RepK at r; subst r; unfold dDrop dropK RepK; rfl
  | (k', y) :: kvs, ks, k, r => by
    unfold RepK at r
    obtain ⟨w, rest, rfl, r1, r2⟩ := r
    have ih := dDrop_ok (k := k) r2
    unfold dDrop dropK at ih ⊢
    by_cases e : k' = k
    · simp only [List.filter_cons, e, ne_eq, not_true_eq_false, decide_false]
      simpa using ih
    · simp only [List.filter_cons, e, ne_eq, not_false_eq_true, decide_true, if_true]
      unfold RepK
      exact ⟨w, _, rfl, r1, ih⟩
theorem SR.dic (S : SR G as H h) {l : Nat} {a : Addr} {kvs : List (Key × PV)} (e : h[l]? = some (.dic kvs)) (ea : as[l]? = some a) : ∃ ks, H a = some (.dK ks) ∧ RepK G as H kvs ks := S.obj e ea
theorem SR.fdic (S : SR G as H h) {l : Nat} {a : Addr} {kvs : List (Key × PV)} (e : h[l]? = some (.fdic kvs)) (ea : as[l]? = some a) : ∃ o ks, H a = some (.frz o (.dK ks)) ∧ RepK G as H kvs ks := S.obj e ea
theorem SR.setD (S : SR G as H h) {l : Nat} {a : Addr} {ks ws : List (Key × V)} {ys : List (Key × PV)} (ea : as[l]? = some a) (e : H a = some (.dK ks)) (r : RepK G as H ys ws) : Fut G as H as (upd H a (.dK ws)) (h.set l (.dic ys)) := by
  have k : Kp H (upd H a (.dK ws)) := Kp.mut e (fun _ z => by cases z) (fun _ _ z => by cases z)
  exact S.set ea k ⟨ws, upd_same, r.mono (List.prefix_refl _) k⟩
theorem pIn_ok (hk : X.K = G.K) (hu : X.A.units + 70 < cLine) {va vb : PV} {x y : V} {b : Bool} {Q : V → Hp → Prop} {pins : List (Addr × Obj)} {s : Shared} {σ : L2.St} {v u : Value} (S : SR G as H h) (I : Inv X pins σ H s) (rx : RelV x v) (ry : RelV y u) (ra : RepV G as H va x) (rb : RepV G as H vb y) (e : pIn h va vb = some b) :
    (Q (.bl b) H → wpAny (model X.prog X.w) X.A (compareOp .In v u) (EP X pins σ Q) X.xe s) ∧ (Q (.bl (!b)) H → wpAny (model X.prog X.w) X.A (compareOp .NotIn v u) (EP X pins σ Q) X.xe s) := by
  unfold pIn at e
  split at e
  · split at e
    · rename_i d ds q1 q2
      cases e
      obtain ⟨a1, a2⟩ := datum_ok S q1 ra
      obtain ⟨b1, b2⟩ := datum_ok S q2 rb
      exact ⟨fun q => op_inT (by omega) pins s σ H x y v u Q I rx ry ⟨d, ds, by rw [hk]; exact a1, by rw [hk]; exact b1, a2, b2, q⟩,
        fun q => op_notInT (by omega) pins s σ H x y v u Q I rx ry ⟨d, ds, by rw [hk]; exact a1, by rw [hk]; exact b1, a2, b2, q⟩⟩
    · cases e
  · split at e
    · split at e
      · rename_i d ds q1 q2
        cases e
        obtain ⟨a1, a2⟩ := datum_ok S q1 ra
        obtain ⟨b1, b2⟩ := datum_ok S q2 rb
        exact ⟨fun q => op_inD (by omega) pins s σ H x y v u Q I rx ry ⟨d, ds, by rw [hk]; exact a1, by rw [hk]; exact b1, a2, b2, q⟩,
          fun q => op_notInD (by omega) pins s σ H x y v u Q I rx ry ⟨d, ds, by rw [hk]; exact a1, by rw [hk]; exact b1, a2, b2, q⟩⟩
      · cases e
    · rename_i l kvs ql
      obtain ⟨a, ea, rfl⟩ := rb.refE
      obtain ⟨ks, ed, rk⟩ := S.dic ql ea
      obtain rfl : u = Value.ref a := ry
      split at e
      · rename_i i
        cases e
        rw [ra.intE] at rx
        refine ⟨fun q => d_in (by omega) I (DGet.k (k := Sum.inl i) ed) rx fun s' I' => ⟨.bl _, H, I', rfl, by rw [← dLook_iff _ rk]; exact q⟩,
          fun q => d_notIn (by omega) I (DGet.k (k := Sum.inl i) ed) rx fun s' I' => ⟨.bl _, H, I', rfl, by rw [← dLook_iff _ rk]; exact q⟩⟩
      · rename_i z
        cases e
        rw [ra.strE] at rx
        refine ⟨fun q => d_in (by omega) I (DGet.k (k := Sum.inr ⟨z.toArray⟩) ed) rx fun s' I' => ⟨.bl _, H, I', rfl, by rw [← dLook_iff _ rk]; exact q⟩,
          fun q => d_notIn (by omega) I (DGet.k (k := Sum.inr ⟨z.toArray⟩) ed) rx fun s' I' => ⟨.bl _, H, I', rfl, by rw [← dLook_iff _ rk]; exact q⟩⟩
      · cases e
    · cases e
  · split at e
    · rename_i y c
      cases e
      rw [ra.strE] at rx; rw [rb.strE] at ry
      refine ⟨fun q => op_in_sign pins s σ H _ _ v u Q I rx ry ⟨c, _, by simp, rfl, by rw [flat_in]; exact q⟩,
        fun q => op_notIn_sign pins s σ H _ _ v u Q I rx ry ⟨c, _, by simp, rfl, by rw [flat_in]; exact q⟩⟩
    · cases e
  · cases e
theorem repNon {v : PV} {x : V} (r : RepV G as H v x) : decide (x = .non) = isNon v := by
  unfold isNon
  cases v with
  | non => rw [r.nonE]; simp
  | bl b => rw [r.blE]; simp
  | int b => rw [r.intE]; simp
  | str b => rw [r.strE]; simp
  | tup xs => obtain ⟨a, vs, rfl, _⟩ := r.tupE; simp
  | ref l => obtain ⟨a, _, rfl⟩ := r.refE; simp
  | frk l => obtain ⟨a, _, rfl, _⟩ := r.frkE; simp
  | fn i => unfold RepV at r; subst r; simp
  | cls i => unfold RepV at r; subst r; simp
  | ty i => unfold RepV at r; subst r; simp
theorem dLt_ok (hk : X.K = G.K) (S : SR G as H h) (hu : X.A.units + 70 < cLine) {vs ws : List PV} {x y : V} {b : Bool} (e : dLt h (.tup vs) (.tup ws) = some b) (r1 : RepV G as H (.tup vs) x) (r2 : RepV G as H (.tup ws) y) {pins : List (Addr × Obj)} {s : Shared} {σ : L2.St} {v u : Value} (I : Inv X pins σ H s) (rx : RelV x v) (ry : RelV y u) :
    ∃ d d' as bs, b = PySem.W.dataLt d d' ∧ Reads s.heap v d as ∧ Reads s.heap u d' bs ∧ PySem.W.alike d d' = true ∧ PySem.W.alike d' d = true ∧ d ≠ .none ∧ d' ≠ .none ∧ X.A.units + min d.depth d'.depth < cLine ∧ X.A.units + min d'.depth d.depth < cLine := by
  unfold dLt at e
  split at e
  · rename_i d d' q1 q2
    split at e
    · rename_i ha
      cases e
      obtain ⟨p1, s1⟩ := datum_ok S q1 r1
      obtain ⟨p2, s2⟩ := datum_ok S q2 r2
      rw [← hk] at p1 p2
      obtain ⟨as, g1⟩ := Dp.reads I d x v p1 rx
      obtain ⟨bs, g2⟩ := Dp.reads I d' y u p2 ry
      have dn : ∀ {zs : List PV} {z : PyData}, datum h (.tup zs) = some z → z ≠ .none := fun {zs z} q e => by
        subst e
        unfold datum at q
        simp only [toD] at q
        split at q
        · rename_i w hw
          split at q
          · cases q
            obtain ⟨_, _, q2⟩ := Option.map_eq_some_iff.mp hw
            cases q2
          · cases q
        · cases q
      have dd : d.depth ≤ 64 := by
        unfold SeqAt.shaped at s1
        simp only [Bool.and_eq_true, decide_eq_true_eq] at s1
        exact s1.2
      have dd' : d'.depth ≤ 64 := by
        unfold SeqAt.shaped at s2
        simp only [Bool.and_eq_true, decide_eq_true_eq] at s2
        exact s2.2
      exact ⟨d, d', as, bs, rfl, g1, g2, ha, by rw [PySem.W.alike_comm]; exact ha, dn q1, dn q2, by omega, by omega⟩
    · cases e
  · cases e
theorem op_cmp (hk : X.K = G.K) (hu : X.A.units + 70 < cLine) (op : Cop) : OpR X (compareOp op.py) (rP2 G E (pCmp op)) := by
  intro pins s σ H x y v u Q I rx ry ⟨as, h, va, vb, S, ra, rb, o⟩
  unfold pCmp at o
  cases op with
  | eq =>
    obtain ⟨b, e, q⟩ := ob_ok o S
    obtain ⟨d, d', h1, h2, h3, h4, rfl⟩ := pEq_ok S e ra rb
    exact op_eqD (by omega) pins s σ H x y v u Q I rx ry ⟨d, d', by rw [hk]; exact h1, by rw [hk]; exact h2, h3, h4, q⟩
  | ne =>
    obtain ⟨b, e, q⟩ := ob_ok o S
    obtain ⟨c, e1, rfl⟩ := Option.map_eq_some_iff.mp e
    obtain ⟨d, d', h1, h2, h3, h4, rfl⟩ := pEq_ok S e1 ra rb
    exact op_neD (by omega) pins s σ H x y v u Q I rx ry ⟨d, d', by rw [hk]; exact h1, by rw [hk]; exact h2, h3, h4, q⟩
  | in_ =>
    obtain ⟨b, e, q⟩ := ob_ok o S
    exact (pIn_ok hk hu S I rx ry ra rb e).1 q
  | nin =>
    obtain ⟨b, e, q⟩ := ob_ok o S
    obtain ⟨c, e1, rfl⟩ := Option.map_eq_some_iff.mp e
    exact (pIn_ok hk hu S I rx ry ra rb e1).2 q
  | is_ =>
    dsimp only at o
    split at o
    · rw [rb.nonE] at ry
      exact op_isN pins s σ H x _ v u Q I rx ry ⟨rfl, by rw [repNon ra]; exact okv S o (.bl _)⟩
    · exact False.elim o
  | isn =>
    dsimp only at o
    split at o
    · rw [rb.nonE] at ry
      refine op_notN pins s σ H x _ v u Q I rx ry ⟨rfl, by rw [repNon ra]; exact okv S o (.bl _)⟩
    · exact False.elim o
  | lt =>
    dsimp only at o
    split at o
    · rw [ra.intE] at rx; rw [rb.intE] at ry
      exact op_lt pins s σ H _ _ v u Q I rx ry ⟨_, _, rfl, rfl, okv S o (.bl _)⟩
    · rw [ra.strE] at rx; rw [rb.strE] at ry
      exact op_lt_str pins s σ H _ _ v u Q I rx ry ⟨_, _, rfl, rfl, okv S o (.bl _)⟩
    · obtain ⟨b, e, q⟩ := ob_ok o S
      obtain ⟨d, d', as, bs, rfl, g1, g2, h1, h2, n1, n2, u1, u2⟩ := dLt_ok hk S hu e ra rb I rx ry
      exact PySem.W.lt_data g1 g2 h1 n1 u1 ⟨.bl _, H, I, rfl, q⟩
    · exact False.elim o
  | le =>
    dsimp only at o
    split at o
    · rw [ra.intE] at rx; rw [rb.intE] at ry
      exact op_le pins s σ H _ _ v u Q I rx ry ⟨_, _, rfl, rfl, okv S o (.bl _)⟩
    · rw [ra.strE] at rx; rw [rb.strE] at ry
      exact op_le_str pins s σ H _ _ v u Q I rx ry ⟨_, _, rfl, rfl, okv S o (.bl _)⟩
    · obtain ⟨b, e0, q⟩ := ob_ok o S
      obtain ⟨b1, e, rfl⟩ := Option.map_eq_some_iff.mp e0
      obtain ⟨d, d', as, bs, rfl, g1, g2, h1, h2, n1, n2, u1, u2⟩ := dLt_ok hk S hu e rb ra I ry rx
      exact PySem.W.le_data g2 g1 h2 n2 u2 ⟨.bl _, H, I, rfl, q⟩
    · exact False.elim o
  | gt =>
    dsimp only at o
    split at o
    · rw [ra.intE] at rx; rw [rb.intE] at ry
      exact op_gt pins s σ H _ _ v u Q I rx ry ⟨_, _, rfl, rfl, okv S o (.bl _)⟩
    · rw [ra.strE] at rx; rw [rb.strE] at ry
      exact op_gt_str pins s σ H _ _ v u Q I rx ry ⟨_, _, rfl, rfl, okv S o (.bl _)⟩
    · obtain ⟨b, e, q⟩ := ob_ok o S
      obtain ⟨d, d', as, bs, rfl, g1, g2, h1, h2, n1, n2, u1, u2⟩ := dLt_ok hk S hu e rb ra I ry rx
      exact PySem.W.gt_data g2 g1 h2 n2 u2 ⟨.bl _, H, I, rfl, q⟩
    · exact False.elim o
  | ge =>
    dsimp only at o
    split at o
    · rw [ra.intE] at rx; rw [rb.intE] at ry
      exact op_ge pins s σ H _ _ v u Q I rx ry ⟨_, _, rfl, rfl, okv S o (.bl _)⟩
    · rw [ra.strE] at rx; rw [rb.strE] at ry
      exact op_ge_str pins s σ H _ _ v u Q I rx ry ⟨_, _, rfl, rfl, okv S o (.bl _)⟩
    · obtain ⟨b, e0, q⟩ := ob_ok o S
      obtain ⟨b1, e, rfl⟩ := Option.map_eq_some_iff.mp e0
      obtain ⟨d, d', as, bs, rfl, g1, g2, h1, h2, n1, n2, u1, u2⟩ := dLt_ok hk S hu e ra rb I rx ry
      exact PySem.W.ge_data g1 g2 h1 n1 u1 ⟨.bl _, H, I, rfl, q⟩
    · exact False.elim o
end
end Mn
set_option maxRecDepth 100000
namespace MnFn
open PySem
open Sem (wp)
set_option Elab.async false
set_option linter.all false
namespace F2
open PySem.F
theorem slot_function_getattribute : Slot "function" "__getattribute__" "object.__getattribute__" :=
  .of (owner := "object") (n := "__getattribute__") (by rw [typeLookup_type, builtinLookup_eq_fast]; kernel_rfl) (by decide +kernel) (by decide +kernel) (by decide +kernel)
    (by first | exact .inl (by decide +kernel) | exact .inr (by decide +kernel)) (by rw [isSubtype_type]; kernel_rfl)
theorem args_function_getattribute_2 (a b : Value) : argsOk "object.__getattribute__" ⟨[a, b], []⟩ := F.args_object_getattribute_2 a b
theorem entry_function_ga : entryFor table "object.__getattribute__" = some Builtin.«object.__getattribute__» := F.entry_object_getattribute
theorem lk_function_class : typeLookup (.type "function") "__class__" = pure (some (.builtin "object.__class__")) := by rw [typeLookup_type, builtinLookup_eq_fast]; kernel_rfl
theorem sub_function_class_owner : isSubtype (.type "function") (.type (".".intercalate ("object.__class__".cutAt '.').dropLast)) = pure true := by
  rw [owner_object_class, isSubtype_type]; kernel_rfl
end F2
section
variable {prog : Program} {w : World} {A : Around} {E : Value → Shared → Prop} {h : Heap} {g : Array GenState} {d : Drawn} {t : Nat} {os : OsState} {a : Addr} {o : Obj}
theorem class_get_function {R : Result → Shared → Prop} (hx : h.get? a = some o) (hc : o.cls = .type "function") (hq : R (.ok (.ret (.type "function"))) ⟨h, g, d, t, os⟩) :
    codeAny (model prog w) A (.call (.builtin "getset_descriptor.__get__") ⟨[.builtin "object.__class__", .ref a, .type "function"], []⟩) R ⟨h, g, d, t, os⟩ := by
  have hT : (⟨h, g, d, t, os⟩ : Shared).TypeIs (.ref a) "function" := ⟨_, hx, hc⟩
  have hT5 : (⟨h, g, d, t, os⟩ : Shared).TypeIs (.builtin "object.__class__") "getset_descriptor" := F.typeOf_object_class
  have f8 := F2.sub_function_class_owner
  refine codeAny_call_builtin F.slot_gs_get.plain F.entry_gs_get (F.slot_gs_get.check _ _ _ _ _ _ _ _ hT5 (F.args_gs_get _ _ _) ?_)
  repeat (any_goals (first | assumption | wp_step))
  refine ⟨Code.quiet_builtin _ (by decide +kernel), codeAny_builtin F.entry_object_class ?_⟩
  repeat (any_goals (first | assumption | wp_step))
theorem class_entry_function {tk : Tok} {Q : Fin → Shared → Prop} (hx : h.get? a = some o) (hc : o.cls = .type "function") (hq : Q (.done (.ret (.type "function"))) ⟨h, g, d, t, os⟩) :
    wpAny (model prog w) A (Builtin.«object.__getattribute__» ⟨[.ref a, .str "__class__" tk], []⟩) Q E ⟨h, g, d, t, os⟩ := by
  have hT : (⟨h, g, d, t, os⟩ : Shared).TypeIs (.ref a) "function" := ⟨_, hx, hc⟩
  have hT5 : (⟨h, g, d, t, os⟩ : Shared).TypeIs (.builtin "object.__class__") "getset_descriptor" := F.typeOf_object_class
  have f4 := F2.lk_function_class
  have f5 := F.typeOf_object_class
  have f6 := F.slot_gs_get.lookup
  have f7 := F.slot_gs_set.lookup
  repeat (any_goals (first | assumption | wp_step))
  refine class_get_function hx hc ?_
  repeat (any_goals (first | assumption | wp_step))
theorem class_call_function {tk : Tok} {R : Result → Shared → Prop} (hx : h.get? a = some o) (hc : o.cls = .type "function") (hq : R (.ok (.ret (.type "function"))) ⟨h, g, d, t, os⟩) :
    codeAny (model prog w) A (.call (.builtin "object.__getattribute__") ⟨[.ref a, .str "__class__" tk], []⟩) R ⟨h, g, d, t, os⟩ :=
  codeAny_call_builtin F2.slot_function_getattribute.plain F2.entry_function_ga (F2.slot_function_getattribute.check _ _ _ _ _ _ _ _ (show (⟨h, g, d, t, os⟩ : Shared).TypeIs (.ref a) "function" from ⟨_, hx, hc⟩) (F2.args_function_getattribute_2 _ _) (class_entry_function hx hc hq))
theorem class_by_function {tk : Tok} {Q : Value → Shared → Prop} (hx : h.get? a = some o) (hc : o.cls = .type "function") (hq : Q (.type "function") ⟨h, g, d, t, os⟩) : wpAny (model prog w) A (getAttrBy (.ref a) (.str "__class__" tk) false) Q E ⟨h, g, d, t, os⟩ := by
  have hT : (⟨h, g, d, t, os⟩ : Shared).TypeIs (.ref a) "function" := ⟨_, hx, hc⟩
  have f2 := F2.slot_function_getattribute.lookup
  have f3 := F2.slot_function_getattribute.bind (.ref a)
  repeat (any_goals (first | assumption | wp_step))
  refine class_call_function hx hc ?_
  repeat (any_goals (first | assumption | wp_step))
theorem class_attr_function {Q : Option Value → Shared → Prop} (hx : h.get? a = some o) (hc : o.cls = .type "function") (hq : Q (some (.type "function")) ⟨h, g, d, t + 1, os⟩) : wpAny (model prog w) A (getAttr? (.ref a) "__class__") Q E ⟨h, g, d, t, os⟩ := by
  unfold getAttr? getAttrBy?
  repeat (any_goals (first | assumption | with_reducible apply class_by_function hx hc | wp_step))
end
theorem kitx_function {K : PySem.W.Frag} {a : Addr} : PySem.W.KitX K (.ref a) (.type "function") (PySem.W.KitAt a "function") := PySem.W.kitx_of PySem.W.kitAt_ty (fun {_ _ _ _ _ s} p k => by obtain ⟨h, g, d, t, os⟩ := s; obtain ⟨o, h1, h2⟩ := p; exact class_attr_function h1 h2 k)
end MnFn
set_option Elab.async false
set_option linter.all false
set_option maxRecDepth 100000
set_option maxHeartbeats 2000000
namespace Mn
open PySem PySem.Spec L2 PyProof.Rows
theorem tot_str (x y : List Nat) : x < y ∨ x = y ∨ y < x := by
  rcases Decidable.em (x < y) with h | h
  · exact .inl h
  · rcases Decidable.em (y < x) with h2 | h2
    · exact .inr (.inr h2)
    · exact .inr (.inl (List.le_antisymm (List.not_lt.mp h2) (List.not_lt.mp h)))
theorem lexP_iff {p q : Int × List Nat} : lexP p q = true ↔ p.1 < q.1 ∨ (p.1 = q.1 ∧ p.2 < q.2) := by
  unfold lexP
  by_cases e : p.1 = q.1
  · rw [if_pos e, decide_eq_true_eq]
    constructor
    · exact fun h => .inr ⟨e, h⟩
    · rintro (h | h)
      · omega
      · exact h.2
  · rw [if_neg e, decide_eq_true_eq]
    constructor
    · exact .inl
    · rintro (h | h)
      · exact h
      · exact absurd h.1 e
theorem lexP_no {p q : Int × List Nat} : lexP p q = false ↔ ¬ (p.1 < q.1 ∨ (p.1 = q.1 ∧ p.2 < q.2)) := by
  rw [← lexP_iff]
  cases lexP p q <;> simp
theorem lexP_tot (p q : Int × List Nat) : lexP p q = true ∨ p = q ∨ lexP q p = true := by
  rcases Int.lt_trichotomy p.1 q.1 with h | h | h
  · exact .inl (lexP_iff.mpr (.inl h))
  · rcases tot_str p.2 q.2 with k | k | k
    · exact .inl (lexP_iff.mpr (.inr ⟨h, k⟩))
    · exact .inr (.inl (Prod.ext h k))
    · exact .inr (.inr (lexP_iff.mpr (.inr ⟨h.symm, k⟩)))
  · exact .inr (.inr (lexP_iff.mpr (.inl h)))
theorem lexP_asym {p q : Int × List Nat} (h : lexP p q = true) : lexP q p = false := by
  have a := lexP_iff.mp h
  refine lexP_no.mpr ?_
  rintro (b | ⟨b, c⟩)
  · rcases a with a | a <;> omega
  · rcases a with a | ⟨_, a⟩
    · omega
    · exact absurd c (List.lt_asymm a)
theorem lexP_trans {p q r : Int × List Nat} (h1 : lexP p q = true) (h2 : lexP q r = true) : lexP p r = true := by
  have a := lexP_iff.mp h1
  have b := lexP_iff.mp h2
  refine lexP_iff.mpr ?_
  rcases a with a | ⟨a, a2⟩
  · rcases b with b | ⟨b, b2⟩ <;> exact .inl (by omega)
  · rcases b with b | ⟨b, b2⟩
    · exact .inl (by omega)
    · exact .inr ⟨by omega, List.lt_trans a2 b2⟩
theorem lexP_tr {p q r : Int × List Nat} (h1 : lexP q p = false) (h2 : lexP r q = false) : lexP r p = false := by
  rcases lexP_tot p q with a | a | a
  · rcases lexP_tot q r with b | b | b
    · exact lexP_asym (lexP_trans a b)
    · subst b; exact h1
    · rw [h2] at b; cases b
  · subst a; exact h2
  · rw [h1] at a; cases a
theorem lexP_swo {α : Type} (k : α → Int × List Nat) : SrtO.Swo fun x y => lexP (k x) (k y) := ⟨fun x y h => lexP_asym h, fun x y z h1 h2 => lexP_tr h1 h2⟩
theorem insP_perm (p : Int × List Nat) : ∀ l, (insP p l).Perm (p :: l)
  | [] => .refl _
  | q :: r => by
    unfold insP
    split
    · exact .refl _
    · exact ((insP_perm p r).cons q).trans (.swap p q r)
theorem srtP_perm : ∀ l, (srtP l).Perm l
  | [] => .refl _
  | p :: r => (insP_perm p _).trans ((srtP_perm r).cons p)
theorem insP_srt (p : Int × List Nat) : ∀ {l}, l.Pairwise (fun a b => lexP b a = false) → (insP p l).Pairwise (fun a b => lexP b a = false)
  | [], _ => List.pairwise_singleton _ _
  | q :: r, h => by
    obtain ⟨h1, h2⟩ := List.pairwise_cons.mp h
    unfold insP
    split
    · rename_i hp
      refine List.pairwise_cons.mpr ⟨fun b hb => ?_, h⟩
      rcases List.mem_cons.mp hb with rfl | hb
      · exact lexP_asym hp
      · exact lexP_tr (lexP_asym hp) (h1 b hb)
    · rename_i hp
      refine List.pairwise_cons.mpr ⟨fun b hb => ?_, insP_srt p h2⟩
      rcases List.mem_cons.mp ((insP_perm p r).mem_iff.mp hb) with rfl | hb
      · simpa using hp
      · exact h1 b hb
theorem srtP_srt : ∀ l, (srtP l).Pairwise (fun a b => lexP b a = false)
  | [] => .nil
  | p :: r => insP_srt p (srtP_srt r)
theorem srt_uniq : ∀ {l m : List (Int × List Nat)}, l.Perm m → l.Pairwise (fun a b => lexP b a = false) → m.Pairwise (fun a b => lexP b a = false) → l = m
  | [], m, p, _, _ => (List.Perm.nil_eq p)
  | x :: l, [], p, _, _ => absurd p.length_eq (by simp)
  | x :: l, y :: m, p, hl, hm => by
    obtain ⟨l1, l2⟩ := List.pairwise_cons.mp hl
    obtain ⟨m1, m2⟩ := List.pairwise_cons.mp hm
    have e : x = y := by
      have h1 : lexP x y = false := by
        rcases List.mem_cons.mp (p.mem_iff.mp (List.mem_cons_self (a := x) (l := l))) with e | hx
        · rw [e]; exact lexP_no.mpr (by rintro (h | ⟨_, h⟩); exact absurd h (Int.lt_irrefl _); exact absurd h (List.lt_irrefl _))
        · exact m1 x hx
      have h2 : lexP y x = false := by
        rcases List.mem_cons.mp (p.mem_iff.mpr (List.mem_cons_self (a := y) (l := m))) with e | hx
        · rw [e]; exact lexP_no.mpr (by rintro (h | ⟨_, h⟩); exact absurd h (Int.lt_irrefl _); exact absurd h (List.lt_irrefl _))
        · exact l1 y hx
      rcases lexP_tot x y with a | a | a
      · rw [h1] at a; cases a
      · exact a
      · rw [h2] at a; cases a
    subst e
    rw [srt_uniq p.cons_inv l2 m2]
open SrtO in
section
variable {prog : Program} {w : World} {A : Around} {E : Value → Shared → Prop} {s : Shared}
def IsPS (h : Heap) (v : Value) (p : Int × List Nat) : Prop := ∃ a o t u n, v = .ref a ∧ h.get? a = some o ∧ o.cls = .type "tuple" ∧ o.data = .seq #[.int p.1 t, .str ⟨p.2.toArray⟩ u] n
theorem IsPS.keeps {h h' : Heap} {v : Value} {p : Int × List Nat} (q : IsPS h v p) (k : ∀ b o, h.get? b = some o → o.cls = .type "tuple" → h'.get? b = some o) : IsPS h' v p := by
  obtain ⟨a, o, t, u, n, e, ho, hc, hd⟩ := q
  exact ⟨a, o, t, u, n, e, k _ _ ho hc, hc, hd⟩
theorem psirsts {h : Heap} {k : Value → Int × List Nat} : ∀ {vs : List Value}, (∀ v ∈ vs, IsPS h v (k v)) → ∃ fs : List Value, PySem.W.KatTups h vs fs ∧ fs.length = vs.length ∧ ∀ f ∈ fs, ∃ x t, f = Value.int x t
  | [], _ => ⟨[], PySem.W.KatTups.nil, rfl, fun _ hm => by simp at hm⟩
  | v :: vs, hp => by
    obtain ⟨fs, h1, h2, h3⟩ := psirsts (vs := vs) fun v' hm => hp v' (List.mem_cons_of_mem _ hm)
    obtain ⟨a, o, t, u, n, e, ho, hc, hd⟩ := hp v (List.mem_cons_self ..)
    subst e
    refine ⟨.int _ t :: fs, PySem.W.KatTups.cons ho hc hd rfl h1, by rw [List.length_cons, List.length_cons, h2], fun f hm => ?_⟩
    rcases List.mem_cons.mp hm with rfl | hm
    · exact ⟨_, t, rfl⟩
    · exact h3 f hm
theorem ps_cmp {vs : List Value} {k : Value → Int × List Nat} (hp : ∀ v ∈ vs, IsPS s.heap v (k v)) : Cmp prog w A s (tuples' true) (fun p => p.1 ∈ vs) (lt2 fun v u => lexP (k v) (k u)) := by
  intro p q hm hm'
  have h1 := hp _ hm
  have h2 := hp _ hm'
  show wpAny (model prog w) A (keyLt' (tuples' true) p.1 q.1) (fun r s' => s' = s ∧ r = lexP (k p.1) (k q.1)) (fun _ _ => False) s
  unfold lexP
  generalize k p.1 = kp at h1 ⊢
  generalize k q.1 = kq at h2 ⊢
  obtain ⟨x, y⟩ := kp
  obtain ⟨x', y'⟩ := kq
  obtain ⟨a, o, t, u, n, e, ho, hc, hd⟩ := h1
  obtain ⟨a', o', t', u', n', e', ho', hc', hd'⟩ := h2
  rw [e, e']
  refine PySem.W.kat_lt ho hd ho' hd' ?_
  show PySem.W.KatLex prog w A true (decide (2 < 2)) _ [(.int x t, .int x' t'), (.str ⟨y.toArray⟩ u, .str ⟨y'.toArray⟩ u')] 0 s
  refine PySem.W.kat_cons (SeqAt.EqAt.int_int x t x' t' prog w _ _ ?_)
  refine PySem.W.kat_go (fun e1 => ?_) (fun e1 => ?_)
  · have ex : x = x' := by simpa using e1
    refine PySem.W.kat_yes (PySem.W.kat_cons (SeqAt.EqAt.str_str ⟨y.toArray⟩ u ⟨y'.toArray⟩ u' prog w _ _ ?_))
    refine PySem.W.kat_go (fun e2 => ?_) (fun e2 => ?_)
    · have ey : y = y' := by simpa using e2
      have e3 : (if x = x' then decide (y < y') else decide (x < x')) = false := by
        rw [if_pos ex, ey]
        exact decide_eq_false (List.lt_irrefl _)
      exact PySem.W.kat_yes (PySem.W.kat_nil ⟨rfl, e3.symm⟩)
    · have e3 : (if x = x' then decide (y < y') else decide (x < x')) = decide (y < y') := if_pos ex
      refine PySem.W.kat_no (PySem.W.kat_one _ _ (PyProof.Rows.lt_str ?_))
      exact (show s = s ∧ decide (y < y') = (if x = x' then decide (y < y') else decide (x < x')) from ⟨rfl, e3.symm⟩)
  · have ex : ¬ x = x' := by simpa using e1
    have e3 : (if x = x' then decide (y < y') else decide (x < x')) = decide (x < x') := if_neg ex
    exact PySem.W.kat_no (oneLt_int ⟨rfl, e3.symm⟩)
theorem ps_sortable {a : Addr} {vs : List Value} {k : Value → Int × List Nat} (h0 : 0 < vs.length) (hp : ∀ v ∈ vs, IsPS s.heap v (k v)) (ha : ∀ o, s.heap.get? a = some o → o.cls ≠ .type "tuple") : SortableO prog w A s a vs fun v u => lexP (k v) (k u) := by
  intro h' keep
  have hp' : ∀ v ∈ vs, IsPS h' v (k v) := fun v hm => (hp v hm).keeps fun b o e c => keep b o (fun z => by subst z; exact ha o e c) e
  obtain ⟨fs, h1, h2, h3⟩ := psirsts hp'
  refine ⟨tuples' true, fun Q E hq => ?_, ps_cmp hp'⟩
  refine PySem.W.kat_kind (T := .type "int") h1 (by omega) (fun f hm => ?_) (by rfl) ?_
  · obtain ⟨x, t, rfl⟩ := h3 f hm
    exact PySem.W.Looks.now
  · have e : (Value.type "int" != Value.type "tuple") = true := by first | decide +kernel | rfl | decide
    rw [e]
    exact hq
theorem sorted_ps {l : Addr} {vs : List Value} {k : Value → Int × List Nat} {Q : Value → Shared → Prop} (hl : s.heap.IsList l vs.toArray) (hz : vs.length ≤ sizeLine) (hp : ∀ v ∈ vs, IsPS s.heap v (k v))
    (h : ∀ (h' : Heap) (d : Addr) (out : List Value), Srtd (fun v u => lexP (k v) (k u)) out → out.Perm vs → (∀ b o, s.heap.get? b = some o → h'.get? b = some o) → s.heap.objs.size ≤ d → (∃ n, h'.get? d = some (seqObj "list" out.toArray n)) → Q (.ref d) { s with heap := h' }) :
    wpAny (model prog w) A (call (.builtin "sorted") [.ref l]) Q E s := by
  refine sorted_ord (lexP_swo k) hl hz (fun h2 h₁ a ha kk => ?_) fun out hs hb => ?_
  · refine ps_sortable (s := { s with heap := h₁ }) (by omega) (fun v hm => (hp v hm).keeps fun b o e _ => (kk b o e).2) fun o e => ?_
    have e' : some o = some (seqObj "list" vs.toArray 0) := e.symm.trans ha
    cases e'
    intro c
    exact absurd (Value.type.inj c) (by decide)
  · exact h _ _ out hs hb.perm (fun b o e => sortedAll_old e) (Nat.le_succ _) (sortedAll_at s.heap vs out.toArray)
end
section
variable {X : Cx} {G : Gm} {as : List Addr} {H : Hp}
theorem isP_ok {v : PV} {p : Int × List Nat} (e : isP v = some p) : v = ofP p := by
  unfold isP at e
  split at e
  · cases e; rfl
  · cases e
theorem psOf_ok : ∀ {vs : List PV} {ps : List (Int × List Nat)}, psOf vs = some ps → vs = ps.map ofP
  | [], ps, e => by simp only [psOf] at e; cases e; rfl
  | v :: r, ps, e => by
    simp only [psOf] at e
    split at e
    · rename_i p qs h1 h2
      cases e
      rw [isP_ok h1, psOf_ok h2]
      rfl
    · cases e
theorem rv_two {x y : PV} {xs : List V} (r : RepVs G as H [x, y] xs) : ∃ v w, xs = [v, w] ∧ RepV G as H x v ∧ RepV G as H y w := by
  unfold RepVs at r
  obtain ⟨v, r', rfl, h1, r⟩ := r
  unfold RepVs at r
  obtain ⟨w, r'', rfl, h2, r⟩ := r
  unfold RepVs at r
  subst r
  exact ⟨v, w, rfl, h1, h2⟩
theorem IsPS.uniq {h : Heap} {v : Value} {p q : Int × List Nat} (a : IsPS h v p) (b : IsPS h v q) : p = q := by
  obtain ⟨l, o, t, u, n, rfl, ho, hc, hd⟩ := a
  obtain ⟨l2, o2, t2, u2, n2, e, ho2, hc2, hd2⟩ := b
  cases e
  rw [ho] at ho2
  cases ho2
  rw [hd] at hd2
  have e := (Data.seq.inj hd2).1
  have e1 : p.1 = q.1 := by
    have := congrArg (fun a : Array Value => a[0]?) e
    simp at this
    exact this.1
  have e2 : p.2 = q.2 := by
    have := congrArg (fun a : Array Value => a[1]?) e
    simp at this
    exact this.1
  exact Prod.ext e1 e2
theorem ps_of (hk : X.K = G.K) {pins : List (Addr × Obj)} {σ : L2.St} {s : Shared} (I : Inv X pins σ H s) {p : Int × List Nat} {w : V} {v : Value} (r : RepV G as H (ofP p) w) (rv : RelV w v) : IsPS s.heap v p ∧ v = .ref (match v with | .ref a => a | _ => 0) ∧ backV v = w := by
  obtain ⟨a, vs, rfl, s1, r1⟩ := r.tupE
  obtain ⟨v1, w1, rfl, a1, a2⟩ := rv_two r1
  obtain rfl := a1.intE
  obtain rfl := a2.strE
  obtain rfl : v = Value.ref a := rv
  rw [← hk] at s1
  obtain ⟨its, rv, ⟨o, ho, hc, n, hd⟩, _⟩ := I.tuple s1
  obtain ⟨u1, u2, rfl, ⟨t, rfl⟩, ⟨u, rfl⟩⟩ := vals2 rv
  exact ⟨⟨a, o, t, u, n, rfl, ho, hc, by simpa using hd⟩, rfl, rfl⟩
theorem ps_all (hk : X.K = G.K) {pins : List (Addr × Obj)} {σ : L2.St} {s : Shared} (I : Inv X pins σ H s) {k : Value → Int × List Nat} (hu : ∀ v p, IsPS s.heap v p → k v = p) : ∀ {ps : List (Int × List Nat)} {ws : List V} {its : List Value}, RepVs G as H (ps.map ofP) ws → Vals ws its →
    (∀ v ∈ its, IsPS s.heap v (k v) ∧ RepV G as H (ofP (k v)) (backV v) ∧ ∃ a, v = .ref a) ∧ its.map k = ps
  | [], ws, its, r, rv => by
    simp only [List.map_nil] at r
    unfold RepVs at r
    subst r
    cases rv
    exact ⟨fun v hv => by simp at hv, rfl⟩
  | p :: ps, ws, its, r, rv => by
    simp only [List.map_cons] at r
    unfold RepVs at r
    obtain ⟨w, ws, rfl, r1, r2⟩ := r
    cases rv with
    | cons q1 q2 =>
      obtain ⟨a1, a2⟩ := ps_all hk I hu r2 q2
      obtain ⟨b1, b2, b3⟩ := ps_of hk I r1 q1
      have e := hu _ _ b1
      refine ⟨fun v hv => ?_, by rw [List.map_cons, e, a2]⟩
      rcases List.mem_cons.mp hv with rfl | hv
      · rw [e, b3]
        exact ⟨b1, r1, _, b2⟩
      · exact a1 v hv
theorem repVs_back {k : Value → Int × List Nat} : ∀ {out : List Value}, (∀ v ∈ out, RepV G as H (ofP (k v)) (backV v)) → RepVs G as H ((out.map k).map ofP) (out.map backV)
  | [], _ => by simp only [List.map_nil]; unfold RepVs; rfl
  | v :: out, h => by
    simp only [List.map_cons]
    unfold RepVs
    exact ⟨_, _, rfl, h v (List.mem_cons_self ..), repVs_back fun u hu => h u (List.mem_cons_of_mem _ hu)⟩
open Classical in
theorem call_srtP (hk : X.K = G.K) {pins : List (Addr × Obj)} {σ : L2.St} {s : Shared} {h : PH} (I : Inv X pins σ H s) (S : SR G as H h) {a : Addr} {ws : List V} {ps : List (Int × List Nat)} {E' : XK} {Q : VK} (sl : SqL G.K H a ws) (r : RepVs G as H (ps.map ofP) ws)
    (o : OkV G E' as H Q (.ok (.ref h.length) (h ++ [.lst ((srtP ps).map ofP)]))) : wpAny (model X.prog X.w) X.A (call (.builtin "sorted") [.ref a]) (EP X pins σ Q) X.xe s := by
  rw [← hk] at sl
  obtain ⟨its, rv, hl, hz⟩ := I.list sl
  let k : Value → Int × List Nat := fun v => if q : ∃ p, IsPS s.heap v p then choose q else (0, [])
  have hu : ∀ v p, IsPS s.heap v p → k v = p := fun v p q => by
    have e : ∃ p, IsPS s.heap v p := ⟨p, q⟩
    show (if q : ∃ p, IsPS s.heap v p then choose q else (0, [])) = p
    rw [dif_pos e]
    exact (choose_spec e).uniq q
  obtain ⟨a1, a2⟩ := ps_all hk I hu r rv
  refine sorted_ps (k := k) hl.isList (by rw [← rv.length]; exact hz) (fun v hv => (a1 v hv).1) fun h' d out h1 h2 kp hd hn => ?_
  obtain ⟨n, hn⟩ := hn
  have hm : ∀ v ∈ out, v ∈ its := fun v hv => h2.mem_iff.mp hv
  have e : out.map k = srtP ps := by
    refine srt_uniq ((h2.map k).trans ?_) (List.pairwise_map.mpr h1) (srtP_srt ps)
    rw [a2]
    exact (srtP_perm ps).symm
  have rr : RepVs G as H ((srtP ps).map ofP) (out.map backV) := by
    rw [← e]
    exact repVs_back fun v hv => (a1 v (hm v hv)).2.1
  have hf : H d = none := I.hok.fresh hd
  obtain ⟨f, r2⟩ := S.new (o := .lst ((srtP ps).map ofP)) (ho := .lst (out.map backV)) hf ⟨_, upd_same, rr.mono (List.prefix_append _ _) (Kp.new hf)⟩
  have hlen : out.length = its.length := h2.length_eq
  refine ⟨.ref d, upd H d (.lst (out.map backV)), I.laid (t' := s.toks) kp hd ⟨?_, out, n, vals_back fun u hu => (a1 u (hm u hu)).2.2, hn⟩, rfl, o _ _ _ f r2⟩
  rw [List.length_map, hlen, ← rv.length]
  exact hz
end
end Mn
set_option Elab.async false
set_option linter.all false
set_option maxRecDepth 100000
set_option maxHeartbeats 2000000
namespace Mn
open PySem PySem.Spec L2 PyProof.Rows
def pS (t : List Nat) : Int × List Nat := (0, t)
def pI (i : Int) : Int × List Nat := (i, [])
theorem lex_pS (t u : List Nat) : lexP (pS t) (pS u) = decide (t < u) := rfl
theorem lex_pI (i j : Int) : lexP (pI i) (pI j) = decide (i < j) := by
  unfold lexP pI
  by_cases e : i = j
  · rw [if_pos e, e]
    simp
  · rw [if_neg e]
theorem insS_map (t : List Nat) : ∀ l, (insS t l).map pS = insP (pS t) (l.map pS)
  | [] => rfl
  | u :: r => by
    unfold insS
    rw [List.map_cons]
    unfold insP
    rw [lex_pS]
    by_cases h : t < u
    · rw [if_pos h, decide_eq_true h, if_pos rfl]; rfl
    · rw [if_neg h, decide_eq_false h, if_neg (by simp), List.map_cons, insS_map t r]
theorem srtS_map : ∀ l, (srtS l).map pS = srtP (l.map pS)
  | [] => rfl
  | t :: r => by
    show (insS t (srtS r)).map pS = insP (pS t) (srtP (r.map pS))
    rw [insS_map, srtS_map r]
theorem insI_map (t : Int) : ∀ l, (insI t l).map pI = insP (pI t) (l.map pI)
  | [] => rfl
  | u :: r => by
    unfold insI
    rw [List.map_cons]
    unfold insP
    rw [lex_pI]
    by_cases h : t < u
    · rw [if_pos h, decide_eq_true h, if_pos rfl]; rfl
    · rw [if_neg h, decide_eq_false h, if_neg (by simp), List.map_cons, insI_map t r]
theorem srtI_map : ∀ l, (srtI l).map pI = srtP (l.map pI)
  | [] => rfl
  | t :: r => by
    show (insI t (srtI r)).map pI = insP (pI t) (srtP (r.map pI))
    rw [insI_map, srtI_map r]
theorem pS_inj {l m : List (List Nat)} (h : l.map pS = m.map pS) : l = m := by
  have := congrArg (List.map Prod.snd) h
  rw [List.map_map, List.map_map] at this
  have e : (Prod.snd ∘ pS : List Nat → List Nat) = id := rfl
  rwa [e, List.map_id, List.map_id] at this
theorem pI_inj {l m : List Int} (h : l.map pI = m.map pI) : l = m := by
  have := congrArg (List.map Prod.fst) h
  rw [List.map_map, List.map_map] at this
  have e : (Prod.fst ∘ pI : Int → Int) = id := rfl
  rwa [e, List.map_id, List.map_id] at this
theorem srtS_of {l m : List (List Nat)} (p : l.Perm m) (h : l.Pairwise fun a b => ¬ b < a) : l = srtS m := by
  refine pS_inj ?_
  rw [srtS_map]
  refine srt_uniq ((p.map pS).trans (srtP_perm _).symm) (List.pairwise_map.mpr (h.imp fun {a b} q => ?_)) (srtP_srt _)
  rw [lex_pS, decide_eq_false q]
theorem srtI_of {l m : List Int} (p : l.Perm m) (h : l.Pairwise fun a b => a ≤ b) : l = srtI m := by
  refine pI_inj ?_
  rw [srtI_map]
  refine srt_uniq ((p.map pI).trans (srtP_perm _).symm) (List.pairwise_map.mpr (h.imp fun {a b} q => ?_)) (srtP_srt _)
  rw [lex_pI, decide_eq_false (by omega)]
theorem srtS_perm (l : List (List Nat)) : (srtS l).Perm l := by
  have h := ((srtP_perm (l.map pS)).map Prod.snd)
  rw [← srtS_map, List.map_map, List.map_map] at h
  have e : (Prod.snd ∘ pS : List Nat → List Nat) = id := rfl
  rwa [e, List.map_id, List.map_id] at h
theorem srtI_perm (l : List Int) : (srtI l).Perm l := by
  have h := ((srtP_perm (l.map pI)).map Prod.fst)
  rw [← srtI_map, List.map_map, List.map_map] at h
  have e : (Prod.fst ∘ pI : Int → Int) = id := rfl
  rwa [e, List.map_id, List.map_id] at h
def sT (x : Str) : List Nat := x.cps.toList
theorem rising_pw : ∀ (p : Str) (l : List Str), risingS p l = true → (p :: l).Pairwise fun a b => ¬ sT b < sT a
  | p, [], _ => List.pairwise_singleton _ _
  | p, x :: r, h => by
    unfold risingS at h
    obtain ⟨h1, h2⟩ := Bool.and_eq_true_iff.mp h
    have ih := rising_pw x r h2
    rw [ltCps_eq] at h1
    have hx : ¬ sT x < sT p := by simpa [sT] using h1
    refine List.pairwise_cons.mpr ⟨fun b hb => ?_, ih⟩
    rcases List.mem_cons.mp hb with rfl | hb
    · exact hx
    · have hb' := (List.pairwise_cons.mp ih).1 b hb
      intro q
      rcases tot_str (sT x) (sT b) with a | a | a
      · exact hx (List.lt_trans a q)
      · rw [← a] at q; exact hx q
      · exact hb' a
theorem sortedS_pw {l : List Str} (h : sortedS l = true) : l.Pairwise fun a b => ¬ sT b < sT a := by
  cases l with
  | nil => exact .nil
  | cons x r => exact rising_pw x r h
theorem sT_mk (t : List Nat) : sT ⟨t.toArray⟩ = t := by simp [sT]
theorem mk_sT (x : Str) : (⟨(sT x).toArray⟩ : Str) = x := by
  cases x
  simp [sT]
def mkS (t : List Nat) : Str := ⟨t.toArray⟩
theorem mkS_map : ∀ xs : List Str, (xs.map sT).map mkS = xs
  | [] => rfl
  | x :: r => by rw [List.map_cons, List.map_cons, mkS_map r]; exact congrArg (· :: r) (mk_sT x)
theorem srt_strs {ys : List Str} {ts : List (List Nat)} (p : ys.Perm (ts.map mkS)) (h : sortedS ys = true) : ys = (srtS ts).map mkS := by
  have h1 := (p.map sT)
  have e : (ts.map mkS).map sT = ts := by
    rw [List.map_map]
    exact (List.map_congr_left fun t _ => sT_mk t).trans (List.map_id _)
  rw [e] at h1
  rw [← srtS_of h1 (List.pairwise_map.mpr (sortedS_pw h)), mkS_map]
section
variable {prog : Program} {w : World} {A : Around} {E : Value → Shared → Prop} {s : Shared} {T : String} {r d : Addr} {n : Nat} {P : Nat → Value → Prop} {OK : Heap → Prop}
theorem collect_kdl {Q : List Value → Shared → Prop} (K : PySem.W.KdlSrc prog w T r d n P OK) (hh : A.handled = none) (hok : OK s.heap) (hn : n ≤ sizeLine)
    (hQ : ∀ (h' : Heap) (tk : Nat) (acc : Array Value), (∀ b o, s.heap.get? b = some o → h'.get? b = some o) → s.heap.objs.size < h'.objs.size → ItemsOf P acc n → Q acc.toList { s with heap := h', toks := tk }) :
    wpAny (model prog w) A (collect (.ref r)) Q E s := by
  unfold collect
  refine wpAny_bind (wpAny_runValue (codeAny_builtin F.entry_proto_collect ?_))
  rw [Around.under_plainId F.plain_proto_collect _]
  show wpAny _ A.in1 (newList [] >>= fun l => again (.builtin "list.__iadd__" ⟨[l, .ref r], []⟩)) _ _ s
  refine wpAny_bind (wpAny_newObj_type ?_)
  refine wpAny_pure ⟨plainId_quiet F.plain_list_iadd _, codeAny_builtin F.entry_list_iadd ?_⟩
  rw [Around.under_plainId F.plain_list_iadd _]
  show wpAny _ A.in1 (Builtin.List.listExtendWith (.ref s.heap.objs.size) (.ref r) (.ref s.heap.objs.size)) _ _ _
  have hS : (s.heap.push { cls := .type "list", data := .seq ([] : List Value).toArray }).get? s.heap.objs.size = some { cls := .type "list", data := .seq #[] 0 } := Heap.get?_push_size _ rfl
  obtain ⟨hr, hd⟩ := K.there _ hok
  refine wpAny_mono (PySem.W.kdl_extend (A := A) (R := fun rr s' => rr = .ok (.ret (.ref s.heap.objs.size)) ∧ ∃ (h' : Heap) (tk : Nat) (acc : Array Value) (c' : Nat), s' = { s with heap := h', toks := tk } ∧
      (∀ b o, s.heap.get? b = some o → h'.get? b = some o) ∧ h'.get? s.heap.objs.size = some { cls := .type "list", dict := none, data := .seq acc c', slots := #[] } ∧ ItemsOf P acc n)
    (s := { s with heap := s.heap.push { cls := .type "list", data := .seq ([] : List Value).toArray } }) K hh (K.keep _ _ hok fun b _ o e => Heap.get?_push_of_some _ e) s.heap.objs.size (Nat.ne_of_gt hr) (Nat.ne_of_gt hd) _ 0 hS
    (fun h' tk acc c' hk e hi => ⟨rfl, h', tk, acc, c', rfl, fun b o q => hk b o (Nat.ne_of_lt (Heap.lt_size q)) (Heap.get?_push_of_some _ q), e, hi⟩) hn) (fun fin s' h => ?_) (fun e s' h => ?_)
  · cases fin with
    | done f =>
      obtain ⟨e, h', tk, acc, c', rfl, hk, hS', hi⟩ := h
      cases e
      show wpAny _ A (load s.heap.objs.size >>= _) _ _ _
      exact wpAny_bind (wpAny_load hS' (wpAny_pure (hQ h' tk acc hk (Heap.lt_size hS') hi)))
    | again c' =>
      refine ⟨h.1, codeAny_mono h.2 fun rr s'' hr' => ?_⟩
      obtain ⟨rfl, h', tk, acc, c', rfl, hk, hS', hi⟩ := hr'
      show wpAny _ A (load s.heap.objs.size >>= _) _ _ _
      exact wpAny_bind (wpAny_load hS' (wpAny_pure (hQ h' tk acc hk (Heap.lt_size hS') hi)))
  · exact absurd h.1 (by simp)
theorem sorted_kdl {ss : List Str} {Q : Value → Shared → Prop} (K : PySem.W.KdlSrc prog w T r d n P OK) (hh : A.handled = none) (hok : OK s.heap) (hn : n ≤ sizeLine) (hP : ∀ acc, ItemsOf P acc n → StrsAre acc.toList ss)
    (hQ : ∀ (h' : Heap) (p tk : Nat) (out : Array Value) (c : Nat) (ss' : List Str), (∀ b o, s.heap.get? b = some o → h'.get? b = some o) → s.heap.objs.size ≤ p → h'.get? p = some (seqObj "list" out c) → StrsAre out.toList ss' → ss'.Perm ss → sortedS ss' = true → Q (.ref p) { s with heap := h', toks := tk }) :
    wpAny (model prog w) A (call (.builtin "sorted") [.ref r]) Q E s := by
  refine Calls.call_function_entry kind_sorted plain_sorted entry_sorted (args_sorted1 _) ?_
  unfold Builtin.«sorted»
  refine wpAny_bind (m := checkCount "sorted" 1 1 _) (wpAny_pure ?_)
  refine wpAny_bind (collect_kdl (A := A.in1) K hh hok hn fun h1 tk vs k1 hz hi => ?_)
  have hS := hP vs hi
  have hvl : vs.toList.length = n := by rw [Array.length_toList]; exact hi.1
  refine wpAny_bind (wpAny_newList ?_ (by rw [hvl]; exact hn))
  have hoL : (h1.push (seqObj "list" vs.toList.toArray 0)).get? h1.objs.size = some (seqObj "list" vs.toList.toArray 0) := Heap.get?_push_size _ rfl
  refine wpAny_bind (wpAny_holding (wpAny_call_entry slot_list_sort ⟨_, hoL, rfl⟩ entry_list_sort (list_sort_treeKAny strKind_oneLt hoL hS.keysOf (fun v₁ v₂ rest e => keyKind_strs (by rw [← e]; exact hS)) (by rw [hvl]; exact hn) fun st' a1 a2 => ⟨_, rfl, ?_⟩) (args_list_sort _)))
  obtain ⟨ss', q1, q2, q3⟩ := sorted_out_str hS a1 a2
  obtain ⟨c, hc⟩ := sortedHeap_at (vs := vs.toList) (out := (arrOf st').map (·.2)) hoL
  refine wpAny_pure ⟨_, rfl, hQ _ h1.objs.size _ _ c ss' (fun b u e => ?_) (Nat.le_of_lt hz) hc q1 q2 q3⟩
  have q := k1 b u e
  have hlt := Heap.lt_size q
  show (sortedHeap (h1.push (seqObj "list" vs.toList.toArray 0)) h1.objs.size vs.toList _).get? b = some u
  rw [sortedHeap_old (Nat.ne_of_lt hlt) (by rw [size_push']; exact Nat.lt_succ_of_lt hlt)]
  exact Heap.get?_push_of_some _ q
end
section
variable {X : Cx} {G : Gm} {as : List Addr} {H : Hp}
theorem repVs_str : ∀ ts : List (List Nat), RepVs G as H (ts.map .str) ((ts.map mkS).map V.str)
  | [] => .nil
  | t :: r => .cons (by unfold RepV; rfl) (repVs_str r)
theorem strs_rep : ∀ {ts : List (List Nat)} {ws : List V}, RepVs G as H (ts.map .str) ws → ws = (ts.map mkS).map V.str
  | [], ws, r => by simp only [List.map_nil] at r; unfold RepVs at r; exact r
  | t :: ts, ws, r => by
    simp only [List.map_cons] at r
    unfold RepVs at r
    obtain ⟨v, w, rfl, h1, h2⟩ := r
    unfold RepV at h1
    rw [h1, strs_rep h2]
    rfl
theorem repVs_int : ∀ is : List Int, RepVs G as H (is.map .int) (is.map V.int)
  | [] => .nil
  | t :: r => .cons (by unfold RepV; rfl) (repVs_int r)
theorem ks_rep : ∀ {kvs : List (Key × PV)} {ks : List (Key × V)} {ts : List (List Nat)}, ksOf kvs = some ts → RepK G as H kvs ks → ks.map (·.1) = ts.map fun t => Sum.inr (mkS t)
  | [], ks, ts, e, r => by
    simp only [ksOf] at e
    cases e
    unfold RepK at r
    subst r
    rfl
  | (k, x) :: kvs, ks, ts, e, r => by
    unfold RepK at r
    obtain ⟨v, r', rfl, h1, h2⟩ := r
    cases k with
    | inl i => simp only [ksOf] at e; cases e
    | inr y =>
      simp only [ksOf] at e
      obtain ⟨us, e1, rfl⟩ := Option.map_eq_some_iff.mp e
      rw [List.map_cons, List.map_cons, ks_rep e1 h2]
      exact congrArg (· :: us.map fun t => Sum.inr (mkS t)) (congrArg Sum.inr (mk_sT y).symm)
theorem call_srtS (hk : X.K = G.K) {pins : List (Addr × Obj)} {σ : L2.St} {s : Shared} {h : PH} (I : Inv X pins σ H s) (S : SR G as H h) {a : Addr} {ws : List V} {ts : List (List Nat)} {E' : XK} {Q : VK} (sl : SqL G.K H a ws) (r : RepVs G as H (ts.map .str) ws) (h64 : ts.length < 64)
    (o : OkV G E' as H Q (.ok (.ref h.length) (h ++ [.lst ((srtS ts).map .str)]))) : wpAny (model X.prog X.w) X.A (call (.builtin "sorted") [.ref a]) (EP X pins σ Q) X.xe s := by
  have ew := strs_rep r
  subst ew
  refine cr_sortedS pins s σ H [.ref a] [.ref a] Q I (.cons rfl .nil) ⟨a, ts.map mkS, rfl, by rw [hk]; exact sl, by rw [List.length_map]; exact h64, fun ys p hp hs hf => ?_⟩
  rw [srt_strs hp hs]
  obtain ⟨f, r2⟩ := S.new (o := .lst ((srtS ts).map .str)) (ho := .lst (((srtS ts).map mkS).map V.str)) hf ⟨_, upd_same, (repVs_str _).mono (List.prefix_append _ _) (Kp.new hf)⟩
  exact o _ _ _ f r2
theorem call_srtI (hk : X.K = G.K) {pins : List (Addr × Obj)} {σ : L2.St} {s : Shared} {h : PH} (I : Inv X pins σ H s) (S : SR G as H h) {a : Addr} {is : List Int} {E' : XK} {Q : VK} (sl : SqL G.K H a (is.map V.int)) (h64 : is.length < 64)
    (o : OkV G E' as H Q (.ok (.ref h.length) (h ++ [.lst ((srtI is).map .int)]))) : wpAny (model X.prog X.w) X.A (call (.builtin "sorted") [.ref a]) (EP X pins σ Q) X.xe s := by
  refine cr_sorted pins s σ H [.ref a] [.ref a] Q I (.cons rfl .nil) ⟨a, is, rfl, by rw [hk]; exact sl, h64, fun ys p hp hs hf => ?_⟩
  rw [srtI_of hp hs]
  obtain ⟨f, r2⟩ := S.new (o := .lst ((srtI is).map .int)) (ho := .lst ((srtI is).map V.int)) hf ⟨_, upd_same, (repVs_int _).mono (List.prefix_append _ _) (Kp.new hf)⟩
  exact o _ _ _ f r2
theorem call_srtD (hc : X.calm = true) {pins : List (Addr × Obj)} {σ : L2.St} {s : Shared} {h : PH} (I : Inv X pins σ H s) (S : SR G as H h) {a : Addr} {kvs : List (Key × PV)} {ks : List (Key × V)} {ts : List (List Nat)} {E' : XK} {Q : VK} (ed : H a = some (.dK ks)) (rk : RepK G as H kvs ks) (e : ksOf kvs = some ts)
    (o : OkV G E' as H Q (.ok (.ref h.length) (h ++ [.lst ((srtS ts).map .str)]))) : wpAny (model X.prog X.w) X.A (call (.builtin "sorted") [.ref a]) (EP X pins σ Q) X.xe s := by
  obtain ⟨z, lo, vs, rv, hd⟩ := (show ObjOk X.prog X.w H s.heap a (.dK ks) from I.hok a _ ed)
  obtain ⟨ep, hat⟩ := hd.dictAt
  have hl : ks.length = vs.length := Paired.length rv
  have hkeys : vs.map (·.1) = ts.map fun t => Sum.inr (mkS t) := by rw [← KV.keys rv]; exact ks_rep e rk
  have hlt : vs.length = ts.length := by have := congrArg List.length hkeys; simpa using this
  refine sorted_kdl (ss := ts.map mkS) (PySem.W.kdl_dict (knd := mixKind X.prog X.w) (kvs := vs) (ep := ep) lo) (I.ok.hd hc) hat (by rw [← hl]; exact z) (fun acc hacc => ?_) fun h' p tk out c ss' hk hp hg q1 q2 q3 => ?_
  · refine (vals_of_at (xs := (ts.map mkS).map V.str) (us := acc.toList) (by have := hacc.1; simp only [List.length_map, Array.length_toList]; omega) fun j x w h1 h2 => ?_).strs
    obtain ⟨k, y, hky, hi⟩ := hacc.2 j w (by rw [← Array.getElem?_toList]; exact h2)
    have e1 : (vs.map (·.1))[j]? = some k := by rw [List.getElem?_map, hky]; rfl
    rw [hkeys, List.getElem?_map] at e1
    obtain ⟨t, et, rfl⟩ := Option.map_eq_some_iff.mp e1
    rw [List.getElem?_map, List.getElem?_map, et] at h1
    cases h1
    exact (keyIs_rel (k := Sum.inr (mkS t)) (v := w) hi : RelV (kV (Sum.inr (mkS t))) w)
  · have e2 := srt_strs q2 q3
    subst e2
    have hf : H p = none := I.hok.fresh hp
    obtain ⟨f, r2⟩ := S.new (o := .lst ((srtS ts).map .str)) (ho := .lst (((srtS ts).map mkS).map V.str)) hf ⟨_, upd_same, (repVs_str _).mono (List.prefix_append _ _) (Kp.new hf)⟩
    refine ⟨.ref p, upd H p (.lst (((srtS ts).map mkS).map V.str)), I.laid (t' := tk) hk hp ⟨?_, out.toList, c, vals_of_strs q1, by rw [Array.toArray_toList]; exact hg⟩, rfl, o _ _ _ f r2⟩
    rw [List.length_map, List.length_map, (srtS_perm ts).length_eq, ← hlt, ← hl]
    exact z
end
end Mn
set_option Elab.async false
set_option linter.all false
set_option maxRecDepth 100000
set_option maxHeartbeats 2000000
namespace Mn
open PySem PySem.Spec L2 PyProof.Rows
section
variable {X : Cx} {G : Gm} {as : List Addr} {H : Hp}
theorem key_rep {v : PV} {k : Key} {w : V} (e : keyOf v = some k) (r : RepV G as H v w) : w = kV k := by
  cases v with
  | int i => simp only [keyOf] at e; cases e; exact r.intE
  | str x => simp only [keyOf] at e; cases e; exact r.strE
  | _ => simp only [keyOf] at e; cases e
theorem kvs_rep : ∀ {xs : List PV} {ws : List V} {kvs : List (Key × PV)}, kvsOf xs = some kvs → RepVs G as H xs ws → ∃ (ps : List Addr) (ks : List (Key × V)), ws = ps.map V.ref ∧ Paired (fun p kv => SqT G.K H p [kV kv.1, kv.2]) ps ks ∧ RepK G as H kvs ks
  | [], ws, kvs, e, r => by
    simp only [kvsOf] at e
    cases e
    unfold RepVs at r
    subst r
    exact ⟨[], [], rfl, .nil, by unfold RepK; rfl⟩
  | x :: xs, ws, kvs, e, r => by
    unfold RepVs at r
    obtain ⟨w, r', rfl, h1, h2⟩ := r
    unfold kvsOf at e
    split at e
    · rename_i q
      cases q
    · rename_i k v r0 q
      cases q
      split at e
      · rename_i k' q' ek eq
        cases e
        obtain ⟨ps, ks, rfl, pp, rk⟩ := kvs_rep eq h2
        obtain ⟨a, vs, rfl, sa, rv⟩ := h1.tupE
        obtain ⟨v1, w1, rfl, a1, a2⟩ := rv_two rv
        rw [key_rep ek a1] at sa
        exact ⟨a :: ps, (k', w1) :: ks, rfl, .cons sa pp, by unfold RepK; exact ⟨w1, ks, rfl, a2, rk⟩⟩
      · cases e
    · cases e
theorem merge_rep : ∀ {kvs acc : List (Key × PV)} {ks ac : List (Key × V)}, RepK G as H acc ac → RepK G as H kvs ks → RepK G as H (kvs.foldl (fun d q => dPut d q.1 q.2) acc) (mergeK ac ks)
  | [], acc, ks, ac, ra, r => by
    unfold RepK at r
    subst r
    exact ra
  | (k, x) :: kvs, acc, ks, ac, ra, r => by
    unfold RepK at r
    obtain ⟨v, r', rfl, h1, h2⟩ := r
    exact merge_rep (kvs := kvs) (acc := dPut acc k x) (ac := putK ac k v) (dPut_ok ra h1) h2
theorem call_dct (hc : X.calm = true) (hk : X.K = G.K) {pins : List (Addr × Obj)} {σ : L2.St} {s : Shared} {h : PH} (I : Inv X pins σ H s) (S : SR G as H h) {a : Addr} {xs : List PV} {ws : List V} {kvs : List (Key × PV)} {E' : XK} {Q : VK} (sl : SqL G.K H a ws) (r : RepVs G as H xs ws) (e : kvsOf xs = some kvs)
    (o : OkV G E' as H Q (.ok (.ref h.length) (h ++ [.dic (dMerge kvs)]))) : wpAny (model X.prog X.w) X.A (call (.type "dict") [.ref a]) (EP X pins σ Q) X.xe s := by
  obtain ⟨ps, ks, rfl, pp, rk⟩ := kvs_rep e r
  refine call_dictP hc pins s σ H [.ref a] [.ref a] Q I (.cons rfl .nil) ⟨a, ps, ks, rfl, by rw [hk]; exact sl, by rw [hk]; exact pp, fun p hf => ?_⟩
  have rm : RepK G as H (dMerge kvs) (mergeK [] ks) := merge_rep (by unfold RepK; rfl) rk
  obtain ⟨f, r2⟩ := S.new (o := .dic (dMerge kvs)) (ho := .dK (mergeK [] ks)) hf ⟨_, upd_same, rm.mono (List.prefix_append _ _) (Kp.new hf)⟩
  exact o _ _ _ f r2
end
end Mn
set_option Elab.async false
set_option linter.all false
set_option maxRecDepth 100000
set_option maxHeartbeats 2000000
namespace Mn
open PySem PySem.Spec L2 PyProof.Rows
theorem lexPQ_iffQ {p q : List Nat × List Nat} : lexPQ p q = true ↔ p.1 < q.1 ∨ (p.1 = q.1 ∧ p.2 < q.2) := by
  unfold lexPQ
  by_cases e : p.1 = q.1
  · rw [if_pos e, decide_eq_true_eq]
    constructor
    · exact fun h => .inr ⟨e, h⟩
    · rintro (h | h)
      · rw [e] at h; exact absurd h (List.lt_irrefl _)
      · exact h.2
  · rw [if_neg e, decide_eq_true_eq]
    constructor
    · exact .inl
    · rintro (h | h)
      · exact h
      · exact absurd h.1 e
theorem lexPQ_noQ {p q : List Nat × List Nat} : lexPQ p q = false ↔ ¬ (p.1 < q.1 ∨ (p.1 = q.1 ∧ p.2 < q.2)) := by
  rw [← lexPQ_iffQ]
  cases lexPQ p q <;> simp
theorem lexPQ_totQ (p q : List Nat × List Nat) : lexPQ p q = true ∨ p = q ∨ lexPQ q p = true := by
  rcases tot_str p.1 q.1 with h | h | h
  · exact .inl (lexPQ_iffQ.mpr (.inl h))
  · rcases tot_str p.2 q.2 with k | k | k
    · exact .inl (lexPQ_iffQ.mpr (.inr ⟨h, k⟩))
    · exact .inr (.inl (Prod.ext h k))
    · exact .inr (.inr (lexPQ_iffQ.mpr (.inr ⟨h.symm, k⟩)))
  · exact .inr (.inr (lexPQ_iffQ.mpr (.inl h)))
theorem lexPQ_asymQ {p q : List Nat × List Nat} (h : lexPQ p q = true) : lexPQ q p = false := by
  have a := lexPQ_iffQ.mp h
  refine lexPQ_noQ.mpr ?_
  rintro (b | ⟨b, c⟩)
  · rcases a with a | a
    · exact absurd b (List.lt_asymm a)
    · rw [a.1] at b; exact absurd b (List.lt_irrefl _)
  · rcases a with a | ⟨_, a⟩
    · rw [b] at a; exact absurd a (List.lt_irrefl _)
    · exact absurd c (List.lt_asymm a)
theorem lexPQ_transQ {p q r : List Nat × List Nat} (h1 : lexPQ p q = true) (h2 : lexPQ q r = true) : lexPQ p r = true := by
  have a := lexPQ_iffQ.mp h1
  have b := lexPQ_iffQ.mp h2
  refine lexPQ_iffQ.mpr ?_
  rcases a with a | ⟨a, a2⟩
  · rcases b with b | ⟨b, b2⟩
    · exact .inl (List.lt_trans a b)
    · exact .inl (b ▸ a)
  · rcases b with b | ⟨b, b2⟩
    · exact .inl (a.symm ▸ b)
    · exact .inr ⟨a.trans b, List.lt_trans a2 b2⟩
theorem lexPQ_trQ {p q r : List Nat × List Nat} (h1 : lexPQ q p = false) (h2 : lexPQ r q = false) : lexPQ r p = false := by
  rcases lexPQ_totQ p q with a | a | a
  · rcases lexPQ_totQ q r with b | b | b
    · exact lexPQ_asymQ (lexPQ_transQ a b)
    · subst b; exact h1
    · rw [h2] at b; cases b
  · subst a; exact h2
  · rw [h1] at a; cases a
theorem lexPQ_swoQ {α : Type} (k : α → List Nat × List Nat) : SrtO.Swo fun x y => lexPQ (k x) (k y) := ⟨fun x y h => lexPQ_asymQ h, fun x y z h1 h2 => lexPQ_trQ h1 h2⟩
theorem insPQ_permQ (p : List Nat × List Nat) : ∀ l, (insPQ p l).Perm (p :: l)
  | [] => .refl _
  | q :: r => by
    unfold insPQ
    split
    · exact .refl _
    · exact ((insPQ_permQ p r).cons q).trans (.swap p q r)
theorem srtPQ_permQ : ∀ l, (srtPQ l).Perm l
  | [] => .refl _
  | p :: r => (insPQ_permQ p _).trans ((srtPQ_permQ r).cons p)
theorem insPQ_srtQ (p : List Nat × List Nat) : ∀ {l}, l.Pairwise (fun a b => lexPQ b a = false) → (insPQ p l).Pairwise (fun a b => lexPQ b a = false)
  | [], _ => List.pairwise_singleton _ _
  | q :: r, h => by
    obtain ⟨h1, h2⟩ := List.pairwise_cons.mp h
    unfold insPQ
    split
    · rename_i hp
      refine List.pairwise_cons.mpr ⟨fun b hb => ?_, h⟩
      rcases List.mem_cons.mp hb with rfl | hb
      · exact lexPQ_asymQ hp
      · exact lexPQ_trQ (lexPQ_asymQ hp) (h1 b hb)
    · rename_i hp
      refine List.pairwise_cons.mpr ⟨fun b hb => ?_, insPQ_srtQ p h2⟩
      rcases List.mem_cons.mp ((insPQ_permQ p r).mem_iff.mp hb) with rfl | hb
      · simpa using hp
      · exact h1 b hb
theorem srtPQ_srtQ : ∀ l, (srtPQ l).Pairwise (fun a b => lexPQ b a = false)
  | [] => .nil
  | p :: r => insPQ_srtQ p (srtPQ_srtQ r)
theorem srt_uniqQ : ∀ {l m : List (List Nat × List Nat)}, l.Perm m → l.Pairwise (fun a b => lexPQ b a = false) → m.Pairwise (fun a b => lexPQ b a = false) → l = m
  | [], m, p, _, _ => (List.Perm.nil_eq p)
  | x :: l, [], p, _, _ => absurd p.length_eq (by simp)
  | x :: l, y :: m, p, hl, hm => by
    obtain ⟨l1, l2⟩ := List.pairwise_cons.mp hl
    obtain ⟨m1, m2⟩ := List.pairwise_cons.mp hm
    have e : x = y := by
      have h1 : lexPQ x y = false := by
        rcases List.mem_cons.mp (p.mem_iff.mp (List.mem_cons_self (a := x) (l := l))) with e | hx
        · rw [e]; exact lexPQ_noQ.mpr (by rintro (h | ⟨_, h⟩); exact absurd h (List.lt_irrefl _); exact absurd h (List.lt_irrefl _))
        · exact m1 x hx
      have h2 : lexPQ y x = false := by
        rcases List.mem_cons.mp (p.mem_iff.mpr (List.mem_cons_self (a := y) (l := m))) with e | hx
        · rw [e]; exact lexPQ_noQ.mpr (by rintro (h | ⟨_, h⟩); exact absurd h (List.lt_irrefl _); exact absurd h (List.lt_irrefl _))
        · exact l1 y hx
      rcases lexPQ_totQ x y with a | a | a
      · rw [h1] at a; cases a
      · exact a
      · rw [h2] at a; cases a
    subst e
    rw [srt_uniqQ p.cons_inv l2 m2]
open SrtO in
section
variable {prog : Program} {w : World} {A : Around} {E : Value → Shared → Prop} {s : Shared}
def IsQS (h : Heap) (v : Value) (p : List Nat × List Nat) : Prop := ∃ a o t u n, v = .ref a ∧ h.get? a = some o ∧ o.cls = .type "tuple" ∧ o.data = .seq #[.str ⟨p.1.toArray⟩ t, .str ⟨p.2.toArray⟩ u] n
theorem IsQS.keeps {h h' : Heap} {v : Value} {p : List Nat × List Nat} (q : IsQS h v p) (k : ∀ b o, h.get? b = some o → o.cls = .type "tuple" → h'.get? b = some o) : IsQS h' v p := by
  obtain ⟨a, o, t, u, n, e, ho, hc, hd⟩ := q
  exact ⟨a, o, t, u, n, e, k _ _ ho hc, hc, hd⟩
theorem psirstsQ {h : Heap} {k : Value → List Nat × List Nat} : ∀ {vs : List Value}, (∀ v ∈ vs, IsQS h v (k v)) → ∃ fs : List Value, PySem.W.KatTups h vs fs ∧ fs.length = vs.length ∧ ∀ f ∈ fs, ∃ x t, f = Value.str x t
  | [], _ => ⟨[], PySem.W.KatTups.nil, rfl, fun _ hm => by simp at hm⟩
  | v :: vs, hp => by
    obtain ⟨fs, h1, h2, h3⟩ := psirstsQ (vs := vs) fun v' hm => hp v' (List.mem_cons_of_mem _ hm)
    obtain ⟨a, o, t, u, n, e, ho, hc, hd⟩ := hp v (List.mem_cons_self ..)
    subst e
    refine ⟨.str _ t :: fs, PySem.W.KatTups.cons ho hc hd rfl h1, by rw [List.length_cons, List.length_cons, h2], fun f hm => ?_⟩
    rcases List.mem_cons.mp hm with rfl | hm
    · exact ⟨_, t, rfl⟩
    · exact h3 f hm
theorem ps_cmpQ {vs : List Value} {k : Value → List Nat × List Nat} (hp : ∀ v ∈ vs, IsQS s.heap v (k v)) : Cmp prog w A s (tuples' true) (fun p => p.1 ∈ vs) (lt2 fun v u => lexPQ (k v) (k u)) := by
  intro p q hm hm'
  have h1 := hp _ hm
  have h2 := hp _ hm'
  show wpAny (model prog w) A (keyLt' (tuples' true) p.1 q.1) (fun r s' => s' = s ∧ r = lexPQ (k p.1) (k q.1)) (fun _ _ => False) s
  unfold lexPQ
  generalize k p.1 = kp at h1 ⊢
  generalize k q.1 = kq at h2 ⊢
  obtain ⟨x, y⟩ := kp
  obtain ⟨x', y'⟩ := kq
  obtain ⟨a, o, t, u, n, e, ho, hc, hd⟩ := h1
  obtain ⟨a', o', t', u', n', e', ho', hc', hd'⟩ := h2
  rw [e, e']
  refine PySem.W.kat_lt ho hd ho' hd' ?_
  show PySem.W.KatLex prog w A true (decide (2 < 2)) _ [(.str ⟨x.toArray⟩ t, .str ⟨x'.toArray⟩ t'), (.str ⟨y.toArray⟩ u, .str ⟨y'.toArray⟩ u')] 0 s
  refine PySem.W.kat_cons (SeqAt.EqAt.str_str ⟨x.toArray⟩ t ⟨x'.toArray⟩ t' prog w _ _ ?_)
  refine PySem.W.kat_go (fun e1 => ?_) (fun e1 => ?_)
  · have ex : x = x' := by simpa using e1
    refine PySem.W.kat_yes (PySem.W.kat_cons (SeqAt.EqAt.str_str ⟨y.toArray⟩ u ⟨y'.toArray⟩ u' prog w _ _ ?_))
    refine PySem.W.kat_go (fun e2 => ?_) (fun e2 => ?_)
    · have ey : y = y' := by simpa using e2
      have e3 : (if x = x' then decide (y < y') else decide (x < x')) = false := by
        rw [if_pos ex, ey]
        exact decide_eq_false (List.lt_irrefl _)
      exact PySem.W.kat_yes (PySem.W.kat_nil ⟨rfl, e3.symm⟩)
    · have e3 : (if x = x' then decide (y < y') else decide (x < x')) = decide (y < y') := if_pos ex
      refine PySem.W.kat_no (PySem.W.kat_one _ _ (PyProof.Rows.lt_str ?_))
      exact (show s = s ∧ decide (y < y') = (if x = x' then decide (y < y') else decide (x < x')) from ⟨rfl, e3.symm⟩)
  · have ex : ¬ x = x' := by simpa using e1
    have e3 : (if x = x' then decide (y < y') else decide (x < x')) = decide (x < x') := if_neg ex
    exact PySem.W.kat_no (oneLt_str ⟨rfl, e3.symm⟩)
theorem ps_sortableQ {a : Addr} {vs : List Value} {k : Value → List Nat × List Nat} (h0 : 0 < vs.length) (hp : ∀ v ∈ vs, IsQS s.heap v (k v)) (ha : ∀ o, s.heap.get? a = some o → o.cls ≠ .type "tuple") : SortableO prog w A s a vs fun v u => lexPQ (k v) (k u) := by
  intro h' keep
  have hp' : ∀ v ∈ vs, IsQS h' v (k v) := fun v hm => (hp v hm).keeps fun b o e c => keep b o (fun z => by subst z; exact ha o e c) e
  obtain ⟨fs, h1, h2, h3⟩ := psirstsQ hp'
  refine ⟨tuples' true, fun Q E hq => ?_, ps_cmpQ hp'⟩
  refine PySem.W.kat_kind (T := .type "str") h1 (by omega) (fun f hm => ?_) (by rfl) ?_
  · obtain ⟨x, t, rfl⟩ := h3 f hm
    exact PySem.W.Looks.now
  · have e : (Value.type "str" != Value.type "tuple") = true := by first | decide +kernel | rfl | decide
    rw [e]
    exact hq
theorem sorted_psQ {l : Addr} {vs : List Value} {k : Value → List Nat × List Nat} {Q : Value → Shared → Prop} (hl : s.heap.IsList l vs.toArray) (hz : vs.length ≤ sizeLine) (hp : ∀ v ∈ vs, IsQS s.heap v (k v))
    (h : ∀ (h' : Heap) (d : Addr) (out : List Value), Srtd (fun v u => lexPQ (k v) (k u)) out → out.Perm vs → (∀ b o, s.heap.get? b = some o → h'.get? b = some o) → s.heap.objs.size ≤ d → (∃ n, h'.get? d = some (seqObj "list" out.toArray n)) → Q (.ref d) { s with heap := h' }) :
    wpAny (model prog w) A (call (.builtin "sorted") [.ref l]) Q E s := by
  refine sorted_ord (lexPQ_swoQ k) hl hz (fun h2 h₁ a ha kk => ?_) fun out hs hb => ?_
  · refine ps_sortableQ (s := { s with heap := h₁ }) (by omega) (fun v hm => (hp v hm).keeps fun b o e _ => (kk b o e).2) fun o e => ?_
    have e' : some o = some (seqObj "list" vs.toArray 0) := e.symm.trans ha
    cases e'
    intro c
    exact absurd (Value.type.inj c) (by decide)
  · exact h _ _ out hs hb.perm (fun b o e => sortedAll_old e) (Nat.le_succ _) (sortedAll_at s.heap vs out.toArray)
end
section
variable {X : Cx} {G : Gm} {as : List Addr} {H : Hp}
theorem isPQ_okQ {v : PV} {p : List Nat × List Nat} (e : isPQ v = some p) : v = ofPQ p := by
  unfold isPQ at e
  split at e
  · cases e; rfl
  · cases e
theorem psOfQ_okQ : ∀ {vs : List PV} {ps : List (List Nat × List Nat)}, psOfQ vs = some ps → vs = ps.map ofPQ
  | [], ps, e => by simp only [psOfQ] at e; cases e; rfl
  | v :: r, ps, e => by
    simp only [psOfQ] at e
    split at e
    · rename_i p qs h1 h2
      cases e
      rw [isPQ_okQ h1, psOfQ_okQ h2]
      rfl
    · cases e
theorem rv_twoQ {x y : PV} {xs : List V} (r : RepVs G as H [x, y] xs) : ∃ v w, xs = [v, w] ∧ RepV G as H x v ∧ RepV G as H y w := by
  unfold RepVs at r
  obtain ⟨v, r', rfl, h1, r⟩ := r
  unfold RepVs at r
  obtain ⟨w, r'', rfl, h2, r⟩ := r
  unfold RepVs at r
  subst r
  exact ⟨v, w, rfl, h1, h2⟩
theorem IsQS.uniq {h : Heap} {v : Value} {p q : List Nat × List Nat} (a : IsQS h v p) (b : IsQS h v q) : p = q := by
  obtain ⟨l, o, t, u, n, rfl, ho, hc, hd⟩ := a
  obtain ⟨l2, o2, t2, u2, n2, e, ho2, hc2, hd2⟩ := b
  cases e
  rw [ho] at ho2
  cases ho2
  rw [hd] at hd2
  have e := (Data.seq.inj hd2).1
  have e1 : p.1 = q.1 := by
    have := congrArg (fun a : Array Value => a[0]?) e
    simp at this
    exact this.1
  have e2 : p.2 = q.2 := by
    have := congrArg (fun a : Array Value => a[1]?) e
    simp at this
    exact this.1
  exact Prod.ext e1 e2
theorem ps_ofQ (hk : X.K = G.K) {pins : List (Addr × Obj)} {σ : L2.St} {s : Shared} (I : Inv X pins σ H s) {p : List Nat × List Nat} {w : V} {v : Value} (r : RepV G as H (ofPQ p) w) (rv : RelV w v) : IsQS s.heap v p ∧ v = .ref (match v with | .ref a => a | _ => 0) ∧ backV v = w := by
  obtain ⟨a, vs, rfl, s1, r1⟩ := r.tupE
  obtain ⟨v1, w1, rfl, a1, a2⟩ := rv_twoQ r1
  obtain rfl := a1.strE
  obtain rfl := a2.strE
  obtain rfl : v = Value.ref a := rv
  rw [← hk] at s1
  obtain ⟨its, rv, ⟨o, ho, hc, n, hd⟩, _⟩ := I.tuple s1
  obtain ⟨u1, u2, rfl, ⟨t, rfl⟩, ⟨u, rfl⟩⟩ := vals2 rv
  exact ⟨⟨a, o, t, u, n, rfl, ho, hc, by simpa using hd⟩, rfl, rfl⟩
theorem ps_allQ (hk : X.K = G.K) {pins : List (Addr × Obj)} {σ : L2.St} {s : Shared} (I : Inv X pins σ H s) {k : Value → List Nat × List Nat} (hu : ∀ v p, IsQS s.heap v p → k v = p) : ∀ {ps : List (List Nat × List Nat)} {ws : List V} {its : List Value}, RepVs G as H (ps.map ofPQ) ws → Vals ws its →
    (∀ v ∈ its, IsQS s.heap v (k v) ∧ RepV G as H (ofPQ (k v)) (backV v) ∧ ∃ a, v = .ref a) ∧ its.map k = ps
  | [], ws, its, r, rv => by
    simp only [List.map_nil] at r
    unfold RepVs at r
    subst r
    cases rv
    exact ⟨fun v hv => by simp at hv, rfl⟩
  | p :: ps, ws, its, r, rv => by
    simp only [List.map_cons] at r
    unfold RepVs at r
    obtain ⟨w, ws, rfl, r1, r2⟩ := r
    cases rv with
    | cons q1 q2 =>
      obtain ⟨a1, a2⟩ := ps_allQ hk I hu r2 q2
      obtain ⟨b1, b2, b3⟩ := ps_ofQ hk I r1 q1
      have e := hu _ _ b1
      refine ⟨fun v hv => ?_, by rw [List.map_cons, e, a2]⟩
      rcases List.mem_cons.mp hv with rfl | hv
      · rw [e, b3]
        exact ⟨b1, r1, _, b2⟩
      · exact a1 v hv
theorem repVs_backQ {k : Value → List Nat × List Nat} : ∀ {out : List Value}, (∀ v ∈ out, RepV G as H (ofPQ (k v)) (backV v)) → RepVs G as H ((out.map k).map ofPQ) (out.map backV)
  | [], _ => by simp only [List.map_nil]; unfold RepVs; rfl
  | v :: out, h => by
    simp only [List.map_cons]
    unfold RepVs
    exact ⟨_, _, rfl, h v (List.mem_cons_self ..), repVs_backQ fun u hu => h u (List.mem_cons_of_mem _ hu)⟩
open Classical in
theorem call_srtPQ (hk : X.K = G.K) {pins : List (Addr × Obj)} {σ : L2.St} {s : Shared} {h : PH} (I : Inv X pins σ H s) (S : SR G as H h) {a : Addr} {ws : List V} {ps : List (List Nat × List Nat)} {E' : XK} {Q : VK} (sl : SqL G.K H a ws) (r : RepVs G as H (ps.map ofPQ) ws)
    (o : OkV G E' as H Q (.ok (.ref h.length) (h ++ [.lst ((srtPQ ps).map ofPQ)]))) : wpAny (model X.prog X.w) X.A (call (.builtin "sorted") [.ref a]) (EP X pins σ Q) X.xe s := by
  rw [← hk] at sl
  obtain ⟨its, rv, hl, hz⟩ := I.list sl
  let k : Value → List Nat × List Nat := fun v => if q : ∃ p, IsQS s.heap v p then choose q else ([], [])
  have hu : ∀ v p, IsQS s.heap v p → k v = p := fun v p q => by
    have e : ∃ p, IsQS s.heap v p := ⟨p, q⟩
    show (if q : ∃ p, IsQS s.heap v p then choose q else ([], [])) = p
    rw [dif_pos e]
    exact (choose_spec e).uniq q
  obtain ⟨a1, a2⟩ := ps_allQ hk I hu r rv
  refine sorted_psQ (k := k) hl.isList (by rw [← rv.length]; exact hz) (fun v hv => (a1 v hv).1) fun h' d out h1 h2 kp hd hn => ?_
  obtain ⟨n, hn⟩ := hn
  have hm : ∀ v ∈ out, v ∈ its := fun v hv => h2.mem_iff.mp hv
  have e : out.map k = srtPQ ps := by
    refine srt_uniqQ ((h2.map k).trans ?_) (List.pairwise_map.mpr h1) (srtPQ_srtQ ps)
    rw [a2]
    exact (srtPQ_permQ ps).symm
  have rr : RepVs G as H ((srtPQ ps).map ofPQ) (out.map backV) := by
    rw [← e]
    exact repVs_backQ fun v hv => (a1 v (hm v hv)).2.1
  have hf : H d = none := I.hok.fresh hd
  obtain ⟨f, r2⟩ := S.new (o := .lst ((srtPQ ps).map ofPQ)) (ho := .lst (out.map backV)) hf ⟨_, upd_same, rr.mono (List.prefix_append _ _) (Kp.new hf)⟩
  have hlen : out.length = its.length := h2.length_eq
  refine ⟨.ref d, upd H d (.lst (out.map backV)), I.laid (t' := s.toks) kp hd ⟨?_, out, n, vals_back fun u hu => (a1 u (hm u hu)).2.2, hn⟩, rfl, o _ _ _ f r2⟩
  rw [List.length_map, hlen, ← rv.length]
  exact hz
end
section
variable {prog : Program} {w : World} {A : Around} {E : Value → Shared → Prop} {s : Shared}
theorem collect_tup {r : Addr} {vs : List Value} {o : Obj} {n : Nat} {Q : List Value → Shared → Prop} (ho : s.heap.get? r = some o) (hc : o.cls = .type "tuple") (hd : o.data = .seq vs.toArray n)
    (h : Q vs { s with heap := (s.heap.push (seqObj "list" #[] 0)).update s.heap.objs.size (Obj.mapSeq (· ++ vs.toArray)) }) (hsz : vs.length ≤ sizeLine) :
    wpAny (model prog w) A (collect (.ref r)) Q E s := by
  unfold collect
  refine wpAny_bind (wpAny_runValue (codeAny_builtin F.entry_proto_collect ?_))
  rw [Around.under_plainId F.plain_proto_collect _]
  show wpAny _ A.in1 (newList [] >>= fun l => again (.builtin "list.__iadd__" ⟨[l, .ref r], []⟩)) _ _ s
  refine wpAny_bind (wpAny_newObj_type ?_)
  refine wpAny_pure ⟨plainId_quiet F.plain_list_iadd _, codeAny_builtin F.entry_list_iadd ?_⟩
  rw [Around.under_plainId F.plain_list_iadd _]
  show wpAny _ A.in1 (Builtin.List.listExtendWith (.ref s.heap.objs.size) (.ref r) (.ref s.heap.objs.size)) _ _ _
  have hS : (s.heap.push { cls := .type "list", data := .seq ([] : List Value).toArray }).get? s.heap.objs.size = some { cls := .type "list", data := .seq #[] 0 } := Heap.get?_push_size _ rfl
  have hS₂ := Heap.get?_update_self (Obj.mapSeq (· ++ vs.toArray)) hS rfl
  have fin' : wpAny (model prog w) A (match Value.ref s.heap.objs.size with
      | Value.ref a => do
        match (← load a).data with
          | Data.seq xs _ => pure xs.toList
          | _ => unsupported "internal:collect"
      | _ => unsupported "internal:collect") Q E { s with heap := (s.heap.push { cls := .type "list", data := .seq ([] : List Value).toArray }).update s.heap.objs.size (Obj.mapSeq (· ++ vs.toArray)) } := by
    show wpAny _ A (load s.heap.objs.size >>= _) _ _ _
    refine wpAny_bind (wpAny_load hS₂ ?_)
    refine wpAny_pure ?_
    have e : ((#[] : Array Value) ++ vs.toArray).toList = vs := by simp
    show Q ((#[] : Array Value) ++ vs.toArray).toList _
    rw [e]
    exact h
  refine wpAny_mono (wpAny_extend_seq (hsz := by simpa using hsz) (A := A) (R := fun r s' => r = .ok (.ret (.ref s.heap.objs.size)) ∧ s' = { s with heap := (s.heap.push { cls := .type "list", data := .seq ([] : List Value).toArray }).update s.heap.objs.size (Obj.mapSeq (· ++ vs.toArray)) })
    (s := { s with heap := s.heap.push { cls := .type "list", data := .seq ([] : List Value).toArray } }) _ r _ 0 (.inr rfl) hS (Heap.get?_push_of_some _ ho) hc hd ⟨rfl, rfl⟩) (fun fin s' h => ?_) (fun e s' h => ?_)
  · cases fin with
    | done f =>
      obtain ⟨e, rfl⟩ := h
      cases e
      exact fin'
    | again c' => exact ⟨h.1, codeAny_mono h.2 fun r s'' hr => by obtain ⟨rfl, rfl⟩ := hr; exact fin'⟩
  · exact absurd h.1 (by simp)
open SrtO in
theorem sorted_ordT {l : Addr} {vs : List Value} {o : Obj} {n : Nat} {ltv : Value → Value → Bool} {Q : Value → Shared → Prop} (O : Swo ltv) (ho : s.heap.get? l = some o) (hc : o.cls = .type "tuple") (hd : o.data = .seq vs.toArray n) (hz : vs.length ≤ sizeLine)
    (hS : 2 ≤ vs.length → ∀ (h₁ : Heap) (a : Addr), h₁.get? a = some (seqObj "list" vs.toArray 0) → (∀ b o, s.heap.get? b = some o → b ≠ a ∧ h₁.get? b = some o) → SortableO prog w A.in1.in1 { s with heap := h₁ } a vs ltv)
    (h : ∀ out : List Value, Srtd ltv out → Stb ltv out vs → Q (.ref (s.heap.objs.size + 1)) { s with heap := sortedAll s.heap vs out.toArray }) :
    wpAny (model prog w) A (call (.builtin "sorted") [.ref l]) Q E s := by
  refine Calls.call_function_entry kind_sorted plain_sorted entry_sorted (args_sorted1 _) ?_
  unfold Builtin.«sorted»
  refine wpAny_bind (m := checkCount "sorted" 1 1 _) (wpAny_pure ?_)
  refine wpAny_bind (collect_tup ho hc hd ?_ hz)
  refine wpAny_bind (wpAny_newList ?_ hz)
  have hsz : ((s.heap.push (seqObj "list" #[] 0)).update s.heap.objs.size (Obj.mapSeq (· ++ vs.toArray))).objs.size = s.heap.objs.size + 1 := by
    rw [Heap.size_update, size_push']
  have hoL : (((s.heap.push (seqObj "list" #[] 0)).update s.heap.objs.size (Obj.mapSeq (· ++ vs.toArray))).push (seqObj "list" vs.toArray 0)).get? (s.heap.objs.size + 1) = some (seqObj "list" vs.toArray 0) := by
    rw [← hsz]; exact Heap.get?_push_size _ rfl
  have keep : ∀ b o, s.heap.get? b = some o → b ≠ s.heap.objs.size + 1 ∧ (((s.heap.push (seqObj "list" #[] 0)).update s.heap.objs.size (Obj.mapSeq (· ++ vs.toArray))).push (seqObj "list" vs.toArray 0)).get? b = some o := fun b o q => by
    have hlt : b < s.heap.objs.size := Heap.lt_size q
    refine ⟨Nat.ne_of_lt (Nat.lt_succ_of_lt hlt), Heap.get?_push_of_some _ ?_⟩
    rw [Heap.get?_update_ne _ _ _ _ (Nat.ne_of_lt hlt)]
    exact Heap.get?_push_of_some _ q
  show wpAny _ _ _ _ _ { s with heap := ((s.heap.push (seqObj "list" #[] 0)).update s.heap.objs.size (Obj.mapSeq (· ++ vs.toArray))).push (seqObj "list" vs.toArray 0) }
  rw [hsz]
  refine wpAny_bind (wpAny_holding (wpAny_call_entry slot_list_sort ⟨_, hoL, rfl⟩ entry_list_sort (list_sort_ord O hoL hz (fun h2 => hS h2 _ _ hoL keep) fun out hs hb => ⟨_, rfl, ?_⟩) (args_list_sort _)))
  exact wpAny_pure ⟨_, rfl, h out hs hb⟩
open SrtO in
theorem sorted_psT {l : Addr} {vs : List Value} {o : Obj} {n : Nat} {k : Value → List Nat × List Nat} {Q : Value → Shared → Prop} (ho : s.heap.get? l = some o) (hc : o.cls = .type "tuple") (hd : o.data = .seq vs.toArray n) (hz : vs.length ≤ sizeLine) (hp : ∀ v ∈ vs, IsQS s.heap v (k v))
    (h : ∀ (h' : Heap) (d : Addr) (out : List Value), Srtd (fun v u => lexPQ (k v) (k u)) out → out.Perm vs → (∀ b o, s.heap.get? b = some o → h'.get? b = some o) → s.heap.objs.size ≤ d → (∃ n, h'.get? d = some (seqObj "list" out.toArray n)) → Q (.ref d) { s with heap := h' }) :
    wpAny (model prog w) A (call (.builtin "sorted") [.ref l]) Q E s := by
  refine sorted_ordT (lexPQ_swoQ k) ho hc hd hz (fun h2 h₁ a ha kk => ?_) fun out hs hb => ?_
  · refine ps_sortableQ (s := { s with heap := h₁ }) (by omega) (fun v hm => (hp v hm).keeps fun b o e _ => (kk b o e).2) fun o e => ?_
    have e' : some o = some (seqObj "list" vs.toArray 0) := e.symm.trans ha
    cases e'
    intro c
    exact absurd (Value.type.inj c) (by decide)
  · exact h _ _ out hs hb.perm (fun b o e => sortedAll_old e) (Nat.le_succ _) (sortedAll_at s.heap vs out.toArray)
theorem sorted_strT {r : Addr} {vs : List Value} {o : Obj} {n : Nat} {ss : List Str} {Q : Value → Shared → Prop} (ho : s.heap.get? r = some o) (hc : o.cls = .type "tuple") (hd : o.data = .seq vs.toArray n) (hz : vs.length ≤ sizeLine) (hS : StrsAre vs ss)
    (hQ : ∀ (h' : Heap) (p : Nat) (out : Array Value) (c : Nat) (ss' : List Str), (∀ b o, s.heap.get? b = some o → h'.get? b = some o) → s.heap.objs.size ≤ p → h'.get? p = some (seqObj "list" out c) → StrsAre out.toList ss' → ss'.Perm ss → sortedS ss' = true → Q (.ref p) { s with heap := h' }) :
    wpAny (model prog w) A (call (.builtin "sorted") [.ref r]) Q E s := by
  refine Calls.call_function_entry kind_sorted plain_sorted entry_sorted (args_sorted1 _) ?_
  unfold Builtin.«sorted»
  refine wpAny_bind (m := checkCount "sorted" 1 1 _) (wpAny_pure ?_)
  refine wpAny_bind (collect_tup ho hc hd ?_ hz)
  refine wpAny_bind (wpAny_newList ?_ hz)
  have hsz : ((s.heap.push (seqObj "list" #[] 0)).update s.heap.objs.size (Obj.mapSeq (· ++ vs.toArray))).objs.size = s.heap.objs.size + 1 := by
    rw [Heap.size_update, size_push']
  have hold : ∀ b u, s.heap.get? b = some u → ((s.heap.push (seqObj "list" #[] 0)).update s.heap.objs.size (Obj.mapSeq (· ++ vs.toArray))).get? b = some u := fun b u q => by
    rw [Heap.get?_update_ne _ _ _ _ (Nat.ne_of_lt (Heap.lt_size q))]
    exact Heap.get?_push_of_some _ q
  generalize ((s.heap.push (seqObj "list" #[] 0)).update s.heap.objs.size (Obj.mapSeq (· ++ vs.toArray))) = h1 at hsz hold ⊢
  have hoL : (h1.push (seqObj "list" vs.toArray 0)).get? h1.objs.size = some (seqObj "list" vs.toArray 0) := Heap.get?_push_size _ rfl
  refine wpAny_bind (wpAny_holding (wpAny_call_entry slot_list_sort ⟨_, hoL, rfl⟩ entry_list_sort (list_sort_treeKAny strKind_oneLt hoL hS.keysOf (fun v₁ v₂ rest e => keyKind_strs (by rw [← e]; exact hS)) hz fun st' a1 a2 => ⟨_, rfl, ?_⟩) (args_list_sort _)))
  obtain ⟨ss', q1, q2, q3⟩ := sorted_out_str hS a1 a2
  obtain ⟨c, hc⟩ := sortedHeap_at (vs := vs) (out := (arrOf st').map (·.2)) hoL
  refine wpAny_pure ⟨_, rfl, hQ _ h1.objs.size _ c ss' (fun b u e => ?_) (by rw [hsz]; exact Nat.le_succ _) hc q1 q2 q3⟩
  have hlt := Heap.lt_size e
  show (sortedHeap (h1.push (seqObj "list" vs.toArray 0)) h1.objs.size vs _).get? b = some u
  have hlt2 : b < h1.objs.size := by rw [hsz]; exact Nat.lt_succ_of_lt hlt
  rw [sortedHeap_old (Nat.ne_of_lt hlt2) (by rw [size_push']; exact Nat.lt_succ_of_lt hlt2)]
  exact Heap.get?_push_of_some _ (hold b u e)
end
section
variable {X : Cx} {G : Gm} {as : List Addr} {H : Hp}
theorem call_srtSt (hk : X.K = G.K) {pins : List (Addr × Obj)} {σ : L2.St} {s : Shared} {h : PH} (I : Inv X pins σ H s) (S : SR G as H h) {a : Addr} {ws : List V} {ts : List (List Nat)} {E' : XK} {Q : VK} (st : SqT G.K H a ws) (r : RepVs G as H (ts.map .str) ws)
    (o : OkV G E' as H Q (.ok (.ref h.length) (h ++ [.lst ((srtS ts).map .str)]))) : wpAny (model X.prog X.w) X.A (call (.builtin "sorted") [.ref a]) (EP X pins σ Q) X.xe s := by
  have ew := strs_rep r
  subst ew
  rw [← hk] at st
  obtain ⟨its, rv, ⟨ob, ho, hc, n, hd⟩, hz⟩ := I.tuple st
  have hl := rv.length
  refine sorted_strT (ss := ts.map mkS) ho hc hd (by rw [← hl]; exact hz) rv.strs fun h' p out c ss' hk hp hg q1 q2 q3 => ?_
  have e2 := srt_strs q2 q3
  subst e2
  have hf : H p = none := I.hok.fresh hp
  obtain ⟨f, r2⟩ := S.new (o := .lst ((srtS ts).map .str)) (ho := .lst (((srtS ts).map mkS).map V.str)) hf ⟨_, upd_same, (repVs_str _).mono (List.prefix_append _ _) (Kp.new hf)⟩
  refine ⟨.ref p, upd H p (.lst (((srtS ts).map mkS).map V.str)), I.laid (t' := s.toks) hk hp ⟨?_, out.toList, c, vals_of_strs q1, by rw [Array.toArray_toList]; exact hg⟩, rfl, o _ _ _ f r2⟩
  rw [List.length_map, List.length_map, (srtS_perm ts).length_eq]
  simpa using hz
open Classical in
theorem call_srtPt (hk : X.K = G.K) {pins : List (Addr × Obj)} {σ : L2.St} {s : Shared} {h : PH} (I : Inv X pins σ H s) (S : SR G as H h) {a : Addr} {ws : List V} {ps : List (List Nat × List Nat)} {E' : XK} {Q : VK} (st : SqT G.K H a ws) (r : RepVs G as H (ps.map ofPQ) ws)
    (o : OkV G E' as H Q (.ok (.ref h.length) (h ++ [.lst ((srtPQ ps).map ofPQ)]))) : wpAny (model X.prog X.w) X.A (call (.builtin "sorted") [.ref a]) (EP X pins σ Q) X.xe s := by
  rw [← hk] at st
  obtain ⟨its, rv, ⟨ob, ho, hc, n0, hd0⟩, hz⟩ := I.tuple st
  let k : Value → List Nat × List Nat := fun v => if q : ∃ p, IsQS s.heap v p then choose q else ([], [])
  have hu : ∀ v p, IsQS s.heap v p → k v = p := fun v p q => by
    have e : ∃ p, IsQS s.heap v p := ⟨p, q⟩
    show (if q : ∃ p, IsQS s.heap v p then choose q else ([], [])) = p
    rw [dif_pos e]
    exact (choose_spec e).uniq q
  obtain ⟨a1, a2⟩ := ps_allQ hk I hu r rv
  refine sorted_psT (k := k) ho hc hd0 (by rw [← rv.length]; exact hz) (fun v hv => (a1 v hv).1) fun h' d out h1 h2 kp hd hn => ?_
  obtain ⟨n, hn⟩ := hn
  have hm : ∀ v ∈ out, v ∈ its := fun v hv => h2.mem_iff.mp hv
  have e : out.map k = srtPQ ps := by
    refine srt_uniqQ ((h2.map k).trans ?_) (List.pairwise_map.mpr h1) (srtPQ_srtQ ps)
    rw [a2]
    exact (srtPQ_permQ ps).symm
  have rr : RepVs G as H ((srtPQ ps).map ofPQ) (out.map backV) := by
    rw [← e]
    exact repVs_backQ fun v hv => (a1 v (hm v hv)).2.1
  have hf : H d = none := I.hok.fresh hd
  obtain ⟨f, r2⟩ := S.new (o := .lst ((srtPQ ps).map ofPQ)) (ho := .lst (out.map backV)) hf ⟨_, upd_same, rr.mono (List.prefix_append _ _) (Kp.new hf)⟩
  have hlen : out.length = its.length := h2.length_eq
  refine ⟨.ref d, upd H d (.lst (out.map backV)), I.laid (t' := s.toks) kp hd ⟨?_, out, n, vals_back fun u hu => (a1 u (hm u hu)).2.2, hn⟩, rfl, o _ _ _ f r2⟩
  rw [List.length_map, hlen, ← rv.length]
  exact hz
end
end Mn
set_option Elab.async false
set_option linter.all false
set_option maxRecDepth 100000
set_option maxHeartbeats 4000000
namespace Mn
open PySem PySem.Spec L2 PyProof.Rows
structure COk (G : Gm) (T : Tb) : Prop where
  cc : ∀ (c d : Nat) (ci : Ci), T.cls[c]? = some ci → d < T.cls.length → PySem.W.kitOne G.K (.ref (G.ca c)) (.ref (G.ca d)) = some (ci.sups.contains d)
  ct : ∀ (c : Nat) (n : String), c < T.cls.length → n ∈ tyNames → PySem.W.kitOne G.K (.ref (G.ca c)) (.type n) = some false
  tc : ∀ (c : Nat) (n : String), c < T.cls.length → n ∈ tyAll → PySem.W.kitOne G.K (.type n) (.ref (G.ca c)) = some false
  cl : ∀ c, c < T.cls.length → Cls G.K (G.ca c)
  ha : ∀ c, c < T.cls.length → PySem.W.findIn G.K (.ref (G.ca c)) "__class__" = some (some (.builtin "object.__class__"))
  hm : ∀ c, c < T.cls.length → PySem.W.mroIn G.K (G.ca c) (.type "object") = some true
  hn : T.cls ≠ [] → PySem.W.specialIn G.K (.builtin "object.__class__") "__get__" = some (some (.builtin "getset_descriptor.__get__"))
  htk : T.cls ≠ [] → PySem.W.takesIn G.K (.builtin "object.__class__") = some true
  nd : G.an.Nodup
  fnk : ∀ f, T.glob.any (isFnOf f) = true → PySem.W.isFn G.K (.ref (G.fa f)) = true
  eqm : ∀ (c : Nat) (ci : Ci) (f : Nat), T.cls[c]? = some ci → ci.eq = some f → PySem.W.findIn G.K (.ref (G.ca c)) "__eq__" = some (some (.ref (G.fa f))) ∧ PySem.W.isFn G.K (.ref (G.fa f)) = true
  nem : ∀ (c : Nat) (ci : Ci) (f : Nat), T.cls[c]? = some ci → ci.eq = some f → PySem.W.findIn G.K (.ref (G.ca c)) "__ne__" = some (some (.builtin "object.__ne__"))
  at_ : ∀ (c f : Nat) (n : Str), attK T c f = some none → G.an[f]? = some n → NoAttr G.K (G.ca c) n
  me : ∀ (c : Nat) (ci : Ci) (m f : Nat) (n : Str), T.cls[c]? = some ci → ci.meths.lookup m = some f → G.an[m]? = some n → Meth G.K (G.ca c) n (G.fa f)
  mkr : ∀ (c : Nat) (ci : Ci) (f : Nat), T.cls[c]? = some ci → ci.init = some f → Mk G.K (G.ca c) (G.fa f)
  cm : ∀ (c : Nat) (n : Str) (f : Nat), (c, n, f) ∈ T.cms → ∃ mc p, ClX.CRead G.K (G.ca c) mc ∧ ClX.CMet G.K (G.ca c) mc n p (G.fa f)
  pr : ∀ (c : Nat) (ci : Ci) (m f : Nat) (n : Str), T.cls[c]? = some ci → ci.meths.lookup m = none → ci.props.lookup m = some f → G.an[m]? = some n → ∃ p, PropOf G.K (G.ca c) n p (G.fa f)
def Bi.py : Bi → Value
  | .len => .builtin "len" | .abs => .builtin "abs" | .max => .builtin "max" | .min => .builtin "min" | .int => .type "int" | .str => .type "str" | .bool => .type "bool" | .list => .type "list" | .tuple => .type "tuple"
  | .sorted => .builtin "sorted" | .sum => .builtin "sum" | .any => .builtin "any" | .all => .builtin "all" | .ord => .builtin "ord" | .isinst => .builtin "isinstance" | .repr => .builtin "repr" | .dict => .type "dict"
section
variable {G : Gm} {T : Tb} {E : XK} {X : Cx} {as : List Addr} {H : Hp} {h : PH}
abbrev rPn (G : Gm) (E : XK) (pr : List PV → PH → Res PV) : List V → Hp → VK → Prop := fun xs H Q => ∃ as h vs, SR G as H h ∧ RepVs G as H vs xs ∧ OkV G E as H Q (pr vs h)
theorem RepVs.one {x : PV} {xs : List V} (r : RepVs G as H [x] xs) : ∃ v, xs = [v] ∧ RepV G as H x v := by
  unfold RepVs at r
  obtain ⟨v, rest, rfl, r1, r2⟩ := r
  unfold RepVs at r2
  subst r2
  exact ⟨v, rfl, r1⟩
theorem RepVs.two {x y : PV} {xs : List V} (r : RepVs G as H [x, y] xs) : ∃ v w, xs = [v, w] ∧ RepV G as H x v ∧ RepV G as H y w := by
  unfold RepVs at r
  obtain ⟨v, rest, rfl, r1, r2⟩ := r
  obtain ⟨w, rfl, r3⟩ := r2.one
  exact ⟨v, w, rfl, r1, r3⟩
theorem RepVs.zero {xs : List V} (r : RepVs G as H [] xs) : xs = [] := by unfold RepVs at r; exact r
theorem intsOf_ok : ∀ {vs : List PV} {xs : List V} {is : List Int}, intsOf vs = some is → RepVs G as H vs xs → xs = is.map V.int
  | [], xs, is, e, r => by simp only [intsOf] at e; cases e; rw [r.zero]; rfl
  | .int i :: vs, xs, is, e, r => by
    simp only [intsOf] at e
    obtain ⟨js, e1, rfl⟩ := Option.map_eq_some_iff.mp e
    unfold RepVs at r
    obtain ⟨v, rest, rfl, r1, r2⟩ := r
    rw [r1.intE, intsOf_ok e1 r2]
    rfl
  | .non :: _, _, _, e, _ => by simp [intsOf] at e
  | .bl _ :: _, _, _, e, _ => by simp [intsOf] at e
  | .str _ :: _, _, _, e, _ => by simp [intsOf] at e
  | .tup _ :: _, _, _, e, _ => by simp [intsOf] at e
  | .ref _ :: _, _, _, e, _ => by simp [intsOf] at e
  | .fn _ :: _, _, _, e, _ => by simp [intsOf] at e
  | .cls _ :: _, _, _, e, _ => by simp [intsOf] at e
  | .ty _ :: _, _, _, e, _ => by simp [intsOf] at e
theorem blsOf_ok : ∀ {vs : List PV} {xs : List V} {is : List Bool}, blsOf vs = some is → RepVs G as H vs xs → xs = is.map V.bl
  | [], xs, is, e, r => by simp only [blsOf] at e; cases e; rw [r.zero]; rfl
  | v :: vs, xs, is, e, r => by
    cases v with
    | bl i =>
      simp only [blsOf] at e
      obtain ⟨js, e1, rfl⟩ := Option.map_eq_some_iff.mp e
      unfold RepVs at r
      obtain ⟨v, rest, rfl, r1, r2⟩ := r
      rw [r1.blE, blsOf_ok e1 r2]
      rfl
    | _ => simp [blsOf] at e
theorem strsOf_ok : ∀ {vs : List PV} {xs : List V} {is : List (List Nat)}, strsOf vs = some is → RepVs G as H vs xs → xs = (is.map fun y => (⟨y.toArray⟩ : Str)).map V.str
  | [], xs, is, e, r => by simp only [strsOf] at e; cases e; rw [r.zero]; rfl
  | .str i :: vs, xs, is, e, r => by
    simp only [strsOf] at e
    obtain ⟨js, e1, rfl⟩ := Option.map_eq_some_iff.mp e
    unfold RepVs at r
    obtain ⟨v, rest, rfl, r1, r2⟩ := r
    rw [r1.strE, strsOf_ok e1 r2]
    rfl
  | .non :: _, _, _, e, _ => by simp [strsOf] at e
  | .bl _ :: _, _, _, e, _ => by simp [strsOf] at e
  | .int _ :: _, _, _, e, _ => by simp [strsOf] at e
  | .tup _ :: _, _, _, e, _ => by simp [strsOf] at e
  | .ref _ :: _, _, _, e, _ => by simp [strsOf] at e
  | .fn _ :: _, _, _, e, _ => by simp [strsOf] at e
  | .cls _ :: _, _, _, e, _ => by simp [strsOf] at e
  | .ty _ :: _, _, _, e, _ => by simp [strsOf] at e
theorem tyB_kit {K : PySem.W.Frag} {a b : String} {r : Bool} (e : tyB a b = some r) : PySem.W.kitOne K (.type a) (.type b) = some r := by
  unfold tyB at e
  split at e
  · rename_i hh
    cases e
    simp only [Bool.and_eq_true, List.contains_iff_mem] at hh
    obtain ⟨h1, h2⟩ := hh
    simp only [tyAll, tyNames, List.mem_cons, List.not_mem_nil, or_false] at h1 h2
    rcases h1 with rfl | rfl | rfl | rfl | rfl | rfl | rfl | rfl <;> rcases h2 with rfl | rfl | rfl | rfl | rfl | rfl | rfl <;> exact kit_ty (by decide +kernel)
  · cases e
def clV (G : Gm) : PV → Value
  | .ty n => .type n
  | .cls c => .ref (G.ca c)
  | _ => .none
theorem subC_kit (C : COk G T) {t c : PV} {b : Bool} (e : subC T t c = some b) : PySem.W.kitOne G.K (clV G t) (clV G c) = some b := by
  unfold subC at e
  split at e
  · exact tyB_kit e
  · obtain ⟨ci, e1, e2⟩ := Option.bind_eq_some_iff.mp e
    split at e2
    · cases e2
      exact C.cc _ _ ci e1 (by assumption)
    · cases e2
  · split at e
    · rename_i hh
      cases e
      simp only [Bool.and_eq_true, decide_eq_true_eq, List.contains_iff_mem] at hh
      exact C.ct _ _ hh.1 hh.2
    · cases e
  · split at e
    · rename_i hh
      cases e
      simp only [Bool.and_eq_true, decide_eq_true_eq, List.contains_iff_mem] at hh
      exact C.tc _ _ hh.1 hh.2
    · cases e
  · cases e
theorem subC_lt {c : Nat} {d : PV} {b : Bool} (e : subC T (.cls c) d = some b) : c < T.cls.length := by
  cases d with
  | ty n =>
    simp only [subC] at e
    split at e
    · rename_i hh
      simp only [Bool.and_eq_true, decide_eq_true_eq] at hh
      exact hh.1
    · cases e
  | cls d =>
    simp only [subC] at e
    obtain ⟨ci, e2, _⟩ := Option.bind_eq_some_iff.mp e
    exact (List.getElem?_eq_some_iff.mp e2).1
  | _ => simp [subC] at e
theorem tyOf_ok (hk : X.K = G.K) (C : COk G T) (S : SR G as H h) {v t c : PV} {x : V} {b : Bool} (hn : ∀ f, v ≠ .fn f) (e : tyOf h v = some t) (eb : subC T t c = some b) (r : RepV G as H v x) : TyX X.K H x (clV G t) := by
  unfold tyOf at e
  split at e
  · cases e; rw [r.nonE]; exact .base .non
  · cases e; rw [r.blE]; exact .base (.bl _)
  · cases e; rw [r.intE]; exact .base (.int _)
  · cases e; rw [r.strE]; exact .base (.str _)
  · cases e
    obtain ⟨a, vs, rfl, s, rv⟩ := r.tupE
    rw [hk]
    rcases s with s | s
    · rcases s with s | ⟨o, s⟩
      · exact .base (.tup s)
      · exact .fTuple s
    · obtain ⟨o, its, n, e1, e2, _⟩ := s
      exact .kTuple e1 e2
  · exact absurd rfl (hn _)
  · obtain ⟨a, ea, rfl⟩ := r.refE
    split at e
    · rename_i q
      cases e
      obtain ⟨vs, e1, _⟩ := S.obj q ea
      exact .base (.lst e1)
    · rename_i q
      cases e
      obtain ⟨o, vs, e1, _⟩ := S.obj q ea
      exact .base (.frz e1)
    · rename_i q
      cases e
      obtain ⟨vs, e1, _⟩ := S.obj q ea
      exact .base (.dK e1)
    · rename_i cc fs q
      cases e
      obtain ⟨dx, gs, e1, _⟩ := S.obj q ea
      have hc : cc < T.cls.length := subC_lt eb
      rw [hk]
      exact .base (.ins e1 (C.cl _ hc) (C.ha _ hc) (C.hn fun z => by rw [z] at hc; simp at hc) (C.htk fun z => by rw [z] at hc; simp at hc) (C.hm _ hc))
    · cases e
  · cases e
theorem kit_all (hk : X.K = G.K) (C : COk G T) {pins : List (Addr × Obj)} {σ : L2.St} {s : Shared} (I : Inv X pins σ H s) (S : SR G as H h) {v t c : PV} {x : V} {u : Value} {b : Bool} (hv : fnT T v = true) (e : tyOf h v = some t) (eb : subC T t c = some b) (r : RepV G as H v x) (rx : RelV x u) :
    ∃ P : Heap → Prop, PySem.W.KitX X.K u (clV G t) P ∧ P s.heap ∧ u ≠ .builtin "__main__.__loader__#opaque" := by
  by_cases hf : ∃ f, v = .fn f
  · obtain ⟨f, rfl⟩ := hf
    simp only [tyOf] at e
    cases e
    have hq := C.fnk f hv
    have ex : x = .ref (G.fa f) := by unfold RepV at r; exact r
    subst ex
    obtain rfl : u = Value.ref (G.fa f) := rx
    unfold PySem.W.isFn PySem.W.typeIn at hq
    have hq := eq_of_beq hq
    obtain ⟨o, e1, e2⟩ := Option.map_eq_some_iff.mp hq
    exact ⟨_, MnFn.kitx_function, ⟨o, I.kIn _ o (by rw [hk]; exact e1), e2⟩, fun z => nomatch z⟩
  · exact kit_of I rx (tyOf_ok hk C S (fun f z => hf ⟨f, z⟩) e eb r)
theorem clV_ok {c : PV} {t : PV} {b : Bool} {x : V} (e : subC T t c = some b) (r : RepV G as H c x) : ClsV x (clV G c) := by
  cases c with
  | ty n => rw [r.tyE]; exact .ty n
  | cls d => unfold RepV at r; subst r; exact .own _
  | _ => simp [subC] at e
theorem clVs_ok : ∀ {ts : List PV} {ws : List V} {its : List Value}, ts.all isCl = true → RepVs G as H ts ws → Vals ws its → its = ts.map (clV G)
  | [], ws, its, _, r, rv => by
    rw [r.zero] at rv
    cases rv
    rfl
  | t :: ts, ws, its, h, r, rv => by
    simp only [List.all_cons, Bool.and_eq_true] at h
    unfold RepVs at r
    obtain ⟨v, rest, rfl, r1, r2⟩ := r
    cases rv with
    | cons a b =>
      rename_i u us
      have e : u = clV G t := by
        cases t with
        | ty n => rw [r1.tyE] at a; exact a
        | cls c => unfold RepV at r1; subst r1; exact a
        | _ => simp [isCl] at h
      rw [e, clVs_ok h.2 r2 b]
      rfl
theorem isTys_fn {v t : PV} {ts : List PV} {b : Bool} (e : isTys T h v (t :: ts) = some b) : fnT T v = true := by
  unfold isTys isTy at e
  by_cases q : fnT T v = true
  · exact q
  · rw [if_neg q] at e; cases e
theorem isTy_eq {v t : PV} (q : fnT T v = true) : isTy T h v t = (tyOf h v).bind fun tt => subC T tt t := by unfold isTy; rw [if_pos q]
theorem isTys_ty {v t : PV} {ts : List PV} {b : Bool} (e : isTys T h v (t :: ts) = some b) : ∃ tt, tyOf h v = some tt := by
  have hf := isTys_fn e
  unfold isTys at e
  rw [isTy_eq hf] at e
  cases q : tyOf h v with
  | none => rw [q] at e; simp at e
  | some tt => exact ⟨tt, rfl⟩
theorem isTys_sub {v t tt : PV} {ts : List PV} {b : Bool} (q : tyOf h v = some tt) (e : isTys T h v (t :: ts) = some b) : ∃ b0, subC T tt t = some b0 := by
  have hf := isTys_fn e
  unfold isTys at e
  rw [isTy_eq hf] at e
  rw [q] at e
  simp only [Option.bind_some] at e
  cases q2 : subC T tt t with
  | none => rw [q2] at e; simp at e
  | some b0 => exact ⟨b0, rfl⟩
theorem isTys_kit (C : COk G T) {v tt : PV} (q : tyOf h v = some tt) : ∀ {ts : List PV} {b : Bool}, isTys T h v ts = some b → PySem.W.kitAny G.K (clV G tt) (ts.map (clV G)) = some b
  | [], b, e => by
    simp only [isTys] at e
    cases e
    rfl
  | t :: ts, b, e => by
    have hf := isTys_fn e
    unfold isTys at e
    rw [isTy_eq hf] at e
    rw [q] at e
    simp only [Option.bind_some] at e
    cases q2 : subC T tt t with
    | none => rw [q2] at e; simp at e
    | some b0 =>
      rw [q2] at e
      have k := subC_kit C q2
      refine kitAny_cons k (fun hb => ?_) (fun hb => ?_)
      · subst hb
        exact isTys_kit C q e
      · subst hb
        simpa using e.symm
theorem vals_get : ∀ {xs : List V} {us : List Value}, xs.length = us.length → (∀ (j : Nat) (w : Value), us[j]? = some w → ∃ v, xs[j]? = some v ∧ RelV v w) → Vals xs us
  | [], [], _, _ => .nil
  | x :: xs, u :: us, hl, h => by
    obtain ⟨v, e, r⟩ := h 0 u rfl
    cases e
    exact .cons r (vals_get (by simpa using hl) fun j w hw => by simpa using h (j + 1) w (by simpa using hw))
  | [], _ :: _, hl, _ => by simp at hl
  | _ :: _, [], hl, _ => by simp at hl
theorem repVs_signs : ∀ x : List Nat, RepVs G as H (x.map fun c => PV.str [c]) (x.map fun c => V.str ⟨#[c]⟩)
  | [] => .nil
  | c :: x => .cons (.str [c]) (repVs_signs x)
theorem lmin_mem : ∀ (i : Int) (is : List Int), lmin i is ∈ i :: is
  | i, [] => by simp [lmin]
  | i, x :: r => by
    unfold lmin
    have := lmin_mem (if x < i then x else i) r
    split at this
    · rename_i h; rw [if_pos h]; exact List.mem_cons_of_mem _ this
    · rename_i h
      rw [if_neg h]
      rcases List.mem_cons.mp this with q | q
      · rw [q]; exact List.mem_cons_self
      · exact List.mem_cons_of_mem _ (List.mem_cons_of_mem _ q)
theorem lmin_le : ∀ (i : Int) (is : List Int) (y : Int), y ∈ i :: is → lmin i is ≤ y
  | i, [], y, h => by rw [List.mem_singleton.mp h]; exact Int.le_refl _
  | i, x :: r, y, h => by
    unfold lmin
    have hy : y = i ∨ y = x ∨ y ∈ r := by
      rcases List.mem_cons.mp h with q | q
      · exact .inl q
      · exact .inr (List.mem_cons.mp q)
    by_cases hh : x < i
    · rw [if_pos hh]
      have k := lmin_le x r
      have k0 := k x List.mem_cons_self
      rcases hy with q | q | q
      · omega
      · omega
      · exact k y (List.mem_cons_of_mem _ q)
    · rw [if_neg hh]
      have k := lmin_le i r
      have k0 := k i List.mem_cons_self
      rcases hy with q | q | q
      · omega
      · omega
      · exact k y (List.mem_cons_of_mem _ q)
theorem lmax_mem : ∀ (i : Int) (is : List Int), lmax i is ∈ i :: is
  | i, [] => by simp [lmax]
  | i, x :: r => by
    unfold lmax
    have := lmax_mem (if x > i then x else i) r
    split at this
    · rename_i h; rw [if_pos h]; exact List.mem_cons_of_mem _ this
    · rename_i h
      rw [if_neg h]
      rcases List.mem_cons.mp this with q | q
      · rw [q]; exact List.mem_cons_self
      · exact List.mem_cons_of_mem _ (List.mem_cons_of_mem _ q)
theorem lmax_le : ∀ (i : Int) (is : List Int) (y : Int), y ∈ i :: is → y ≤ lmax i is
  | i, [], y, h => by rw [List.mem_singleton.mp h]; exact Int.le_refl _
  | i, x :: r, y, h => by
    unfold lmax
    have hy : y = i ∨ y = x ∨ y ∈ r := by
      rcases List.mem_cons.mp h with q | q
      · exact .inl q
      · exact .inr (List.mem_cons.mp q)
    by_cases hh : x > i
    · rw [if_pos hh]
      have k := lmax_le x r
      have k0 := k x List.mem_cons_self
      rcases hy with q | q | q
      · omega
      · omega
      · exact k y (List.mem_cons_of_mem _ q)
    · rw [if_neg hh]
      have k := lmax_le i r
      have k0 := k i List.mem_cons_self
      rcases hy with q | q | q
      · omega
      · omega
      · exact k y (List.mem_cons_of_mem _ q)
theorem strsOf_is : ∀ {vs : List PV} {ts : List (List Nat)}, strsOf vs = some ts → vs = ts.map .str
  | [], ts, e => by simp only [strsOf] at e; cases e; rfl
  | .str x :: vs, ts, e => by
    simp only [strsOf] at e
    obtain ⟨us, e1, rfl⟩ := Option.map_eq_some_iff.mp e
    rw [strsOf_is e1]
    rfl
  | .non :: _, _, e => by simp only [strsOf] at e; cases e
  | .bl _ :: _, _, e => by simp only [strsOf] at e; cases e
  | .int _ :: _, _, e => by simp only [strsOf] at e; cases e
  | .tup _ :: _, _, e => by simp only [strsOf] at e; cases e
  | .ref _ :: _, _, e => by simp only [strsOf] at e; cases e
  | .frk _ :: _, _, e => by simp only [strsOf] at e; cases e
  | .fn _ :: _, _, e => by simp only [strsOf] at e; cases e
  | .cls _ :: _, _, e => by simp only [strsOf] at e; cases e
  | .ty _ :: _, _, e => by simp only [strsOf] at e; cases e
theorem call_bi (hk : X.K = G.K) (hc : X.calm = true) (C : COk G T) (f : Bi) : CallR X f.py (rPn G E (pBi T f)) := by
  intro pins s σ H xs us Q I rx ⟨as, h, vs, S, r, o⟩
  unfold pBi at o
  split at o
  · -- len of a text
    split at o
    · rename_i hl
      obtain ⟨v, rfl, r1⟩ := r.one
      rw [r1.strE] at rx
      refine call_len pins s σ H _ us Q I rx ⟨_, _, rfl, ⟨by rw [str_len]; exact hl, rfl⟩, ?_⟩
      rw [str_len]
      exact okv S o (.int _)
    · exact False.elim o
  · -- len of a tuple
    obtain ⟨v, rfl, r1⟩ := r.one
    obtain ⟨a, ws, rfl, sa, r2⟩ := r1.tupE
    refine call_len pins s σ H _ us Q I rx ⟨_, _, rfl, .inr ⟨ws, by rw [hk]; exact sa, rfl⟩, ?_⟩
    rw [← r2.length]
    exact okv S o (.int _)
  · -- len of what stands at a place
    obtain ⟨v, rfl, r1⟩ := r.one
    obtain ⟨a, ea, rfl⟩ := r1.refE
    split at o
    · rename_i q
      obtain ⟨ws, sl, r2⟩ := S.lst (lstAt_of q) ea
      refine call_len pins s σ H _ us Q I rx ⟨_, _, rfl, .inl ⟨ws, by rw [hk]; exact sl, rfl⟩, ?_⟩
      rw [← r2.length]
      exact okv S o (.int _)
    · rename_i q
      obtain ⟨ws, sl, r2⟩ := S.lst (lstAt_frz q) ea
      refine call_len pins s σ H _ us Q I rx ⟨_, _, rfl, .inl ⟨ws, by rw [hk]; exact sl, rfl⟩, ?_⟩
      rw [← r2.length]
      exact okv S o (.int _)
    · rename_i q
      obtain ⟨ks, ed, rk⟩ := S.dic q ea
      obtain ⟨u, rfl, ru⟩ := vals1 rx
      obtain rfl : u = Value.ref a := ru
      refine d_len I (.of ed) fun t s' I' => ⟨.int _, H, I', ⟨t, rfl⟩, ?_⟩
      rw [← rk.length]
      exact okv S o (.int _)
    · exact False.elim o
  · obtain ⟨v, rfl, r1⟩ := r.one
    obtain ⟨a, ws, rfl, sf, r2⟩ := r1.frkE
    refine call_len pins s σ H _ us Q I rx ⟨_, _, rfl, .inl ⟨ws, by rw [hk]; exact sf.sq, rfl⟩, ?_⟩
    rw [← r2.length]
    exact okv S o (.int _)
  · obtain ⟨v, rfl, r1⟩ := r.one
    rw [r1.intE] at rx
    exact call_abs pins s σ H _ us Q I rx ⟨_, rfl, okv S o (.int _)⟩
  · obtain ⟨v, w, rfl, r1, r2⟩ := r.two
    rw [r1.intE, r2.intE] at rx
    exact call_max2 hc pins s σ H _ us Q I rx ⟨_, _, rfl, okv S o (.int _)⟩
  · obtain ⟨v, w, rfl, r1, r2⟩ := r.two
    rw [r1.intE, r2.intE] at rx
    exact call_min2 hc pins s σ H _ us Q I rx ⟨_, _, rfl, okv S o (.int _)⟩
  · obtain ⟨v, rfl, r1⟩ := r.one
    rw [r1.intE] at rx
    exact call_int1 pins s σ H _ us Q I rx (.inl ⟨_, rfl, okv S o (.int _)⟩)
  · obtain ⟨v, rfl, r1⟩ := r.one
    rw [r1.blE] at rx
    exact call_int1 pins s σ H _ us Q I rx (.inr ⟨_, rfl, okv S o (.int _)⟩)
  · obtain ⟨v, rfl, r1⟩ := r.one
    rw [r1.strE] at rx
    split at o
    · rename_i m hm
      split at o
      · rename_i hl
        exact call_int_str pins s σ H _ us Q I rx ⟨_, _, rfl, hm, by rw [str_len]; exact hl, okv S o (.int _)⟩
      · exact False.elim o
    · exact False.elim o
  · split at o
    · rename_i hl
      obtain ⟨v, rfl, r1⟩ := r.one
      rw [r1.intE] at rx
      exact call_str_int pins s σ H _ us Q I rx ⟨_, rfl, hl, okv S o (.strO _)⟩
    · exact False.elim o
  · obtain ⟨v, rfl, r1⟩ := r.one
    rw [r1.strE] at rx
    exact call_ord pins s σ H _ us Q I rx ⟨_, rfl, by rw [str_len]; rfl, okv S o (.int _)⟩
  · -- list of a tuple
    obtain ⟨v, rfl, r1⟩ := r.one
    obtain ⟨a, ws, rfl, sa, r2⟩ := r1.tupE
    refine call_list_of pins s σ H _ us Q I rx ⟨_, _, rfl, .inr (by rw [hk]; exact sa), fun l hl => ?_⟩
    obtain ⟨f, rr⟩ := S.newL hl r2
    exact okn o f rr
  · obtain ⟨v, rfl, r1⟩ := r.one
    obtain ⟨a, ea, rfl⟩ := r1.refE
    split at o
    · rename_i ys q
      obtain ⟨ws, sl, r2⟩ := S.lst q ea
      refine call_list_of pins s σ H _ us Q I rx ⟨_, _, rfl, .inl (by rw [hk]; exact sl), fun l hl => ?_⟩
      obtain ⟨f, rr⟩ := S.newL hl r2
      exact okn o f rr
    · exact False.elim o
  · -- list of a str
    split at o
    · rename_i x1 hl
      obtain ⟨v, rfl, r1⟩ := r.one
      rw [r1.strE] at rx
      obtain ⟨u, rfl, rx1⟩ := vals1 rx
      obtain ⟨t, rfl⟩ := rx1
      refine PySem.call_list_str (I.ok.hd hc) _ t (hn := by simpa using hl) fun h' tk acc' c' hkeep hS' hacc => ?_
      have rv : Vals (x1.map fun c => V.str ⟨#[c]⟩) acc'.toList := by
        refine vals_get (by have := hacc.1; simp at this ⊢; omega) fun j w hw => ?_
        obtain ⟨c, u, ec, rfl⟩ := hacc.2 j w (by simpa using hw)
        refine ⟨.str ⟨#[c]⟩, ?_, ⟨u, rfl⟩⟩
        rw [List.getElem?_map]
        have : x1[j]? = some c := by simpa using ec
        rw [this]; rfl
      obtain ⟨f, rr⟩ := S.newL (p := s.heap.objs.size) (I.hok.fresh (Nat.le_refl _)) (repVs_signs (G := G) (as := as) (H := H) x1)
      refine ⟨.ref s.heap.objs.size, _, I.laid (o := .lst (x1.map fun c => V.str ⟨#[c]⟩)) (t' := tk) hkeep (Nat.le_refl _) (show ObjOk X.prog X.w _ h' _ (.lst _) from ⟨by simpa using hl, acc'.toList, c', rv, by simpa using hS'⟩), rfl, okn o f rr⟩
    · exact False.elim o
  · obtain ⟨v, rfl, r1⟩ := r.one
    obtain ⟨a, ws, rfl, sa, r2⟩ := r1.tupE
    exact call_tuple_of pins s σ H _ us Q I rx ⟨_, _, rfl, .inr ⟨by rw [hk]; exact sa, okv S o r1⟩⟩
  · obtain ⟨v, rfl, r1⟩ := r.one
    obtain ⟨a, ea, rfl⟩ := r1.refE
    split at o
    · rename_i ys q
      obtain ⟨ws, sl, r2⟩ := S.lst q ea
      refine call_tuple_of pins s σ H _ us Q I rx ⟨_, _, rfl, .inl ⟨by rw [hk]; exact sl, fun l hl => ?_⟩⟩
      obtain ⟨f, rr⟩ := S.tup hl r2
      exact okn o f rr
    · exact False.elim o
  · -- isinstance, a tuple of classes
    split at o
    · rename_i v ts hcl
      simp only [Bool.and_eq_true] at hcl
      obtain ⟨hne, hcl⟩ := hcl
      obtain ⟨w, y, rfl, r1, r2⟩ := r.two
      obtain ⟨b, e, q⟩ := ob_ok o S
      obtain ⟨a, ws, rfl, sa, rw⟩ := r2.tupE
      obtain ⟨u1, u2, rfl, q1, q2⟩ := vals2 rx
      cases (show u2 = Value.ref a from q2)
      obtain ⟨its, rv, ⟨ob', h1, h2, n, h3⟩, _⟩ := I.tuple (show SqT X.K H a ws by rw [hk]; exact sa)
      have ei : its = ts.map (clV G) := clVs_ok hcl rw rv
      cases hts : ts with
      | nil =>
        rw [hts] at hne
        cases hne
      | cons t0 tr =>
        have e0 := e
        rw [hts] at e0
        obtain ⟨tt, et⟩ := isTys_ty e0
        have e2 : ∃ b0, subC T tt t0 = some b0 := isTys_sub et e0
        obtain ⟨b0, e2⟩ := e2
        obtain ⟨P, Z, p, hx⟩ := kit_all hk C I S (isTys_fn e0) et e2 r1 q1
        obtain ⟨oc, od, dt, sl⟩ := ob'
        simp only at h2 h3
        subst h2 h3
        refine PySem.W.kia_tup Z I.kIn p h1 (b := b) ?_ hx fun tk => ⟨.bl b, H, I.tok tk, rfl, q⟩
        rw [ei, hk]
        exact isTys_kit C et e
    · exact False.elim o
  · rename_i v t
    obtain ⟨w, y, rfl, r1, r2⟩ := r.two
    obtain ⟨b, e, q⟩ := ob_ok o S
    unfold isTy at e
    split at e
    · rename_i hf
      obtain ⟨tt, e1, e2⟩ := Option.bind_eq_some_iff.mp e
      obtain ⟨u1, u2, rfl, q1, q2⟩ := vals2 rx
      have e3 := (clV_ok e2 r2).eq q2
      subst e3
      obtain ⟨P, Z, p, hx⟩ := kit_all hk C I S hf e1 e2 r1 q1
      exact PySem.W.kia_one Z I.kIn p (by rw [hk]; exact subC_kit C e2) hx fun tk => ⟨.bl b, H, I.tok tk, rfl, q⟩
    · cases e
  · obtain ⟨v, rfl, r1⟩ := r.one
    obtain ⟨a, ea, rfl⟩ := r1.refE
    split at o
    · rename_i ys q
      split at o
      · rename_i is qi
        obtain ⟨ws, sl, r2⟩ := S.lst q ea
        have ew := intsOf_ok qi r2
        subst ew
        exact cr_sum hc pins s σ H _ us Q I rx ⟨_, _, rfl, by rw [hk]; exact sl, okv S o (.int _)⟩
      · exact False.elim o
    · exact False.elim o
  · obtain ⟨v, rfl, r1⟩ := r.one
    obtain ⟨a, ea, rfl⟩ := r1.refE
    split at o
    · rename_i ys q
      split at o
      · rename_i is qi
        obtain ⟨ws, sl, r2⟩ := S.lst q ea
        have ew := blsOf_ok qi r2
        subst ew
        exact cr_all hc pins s σ H _ us Q I rx ⟨_, _, rfl, by rw [hk]; exact sl, okv S o (.bl _)⟩
      · exact False.elim o
    · exact False.elim o
  · obtain ⟨v, rfl, r1⟩ := r.one
    obtain ⟨a, ea, rfl⟩ := r1.refE
    split at o
    · rename_i ys q
      split at o
      · rename_i is qi
        obtain ⟨ws, sl, r2⟩ := S.lst q ea
        have ew := blsOf_ok qi r2
        subst ew
        exact cr_any hc pins s σ H _ us Q I rx ⟨_, _, rfl, by rw [hk]; exact sl, okv S o (.bl _)⟩
      · exact False.elim o
    · exact False.elim o
  · obtain ⟨v, rfl, r1⟩ := r.one
    obtain ⟨a, ea, rfl⟩ := r1.refE
    split at o
    · rename_i ys q
      split at o
      · rename_i i is qi
        obtain ⟨ws, sl, r2⟩ := S.lst q ea
        have ew := intsOf_ok qi r2
        subst ew
        refine cr_min hc pins s σ H _ us Q I rx ⟨_, _, rfl, by rw [hk]; exact sl, by simp, fun m hm hle => ?_⟩
        rw [show m = lmin i is from Int.le_antisymm (hle _ (lmin_mem i is)) (lmin_le i is m hm)]
        exact okv S o (.int _)
      · exact False.elim o
    · exact False.elim o
  · obtain ⟨v, rfl, r1⟩ := r.one
    obtain ⟨a, ea, rfl⟩ := r1.refE
    split at o
    · rename_i ys q
      split at o
      · rename_i i is qi
        obtain ⟨ws, sl, r2⟩ := S.lst q ea
        have ew := intsOf_ok qi r2
        subst ew
        refine cr_max hc pins s σ H _ us Q I rx ⟨_, _, rfl, by rw [hk]; exact sl, by simp, fun m hm hle => ?_⟩
        rw [show m = lmax i is from Int.le_antisymm (lmax_le i is m hm) (hle _ (lmax_mem i is))]
        exact okv S o (.int _)
      · exact False.elim o
    · exact False.elim o
  · obtain ⟨v, rfl, r1⟩ := r.one
    obtain ⟨a, ea, rfl⟩ := r1.refE
    split at o
    · rename_i ys q
      split at o
      · rename_i ps qi
        obtain ⟨ws, sl, r2⟩ := S.lst q ea
        have ew := psOf_ok qi
        subst ew
        obtain ⟨u, rfl, rx1⟩ := vals1 rx
        obtain rfl : u = Value.ref a := rx1
        exact call_srtP hk I S sl r2 o
      · split at o
        · rename_i ts qi
          split at o
          · rename_i h64
            obtain ⟨ws, sl, r2⟩ := S.lst q ea
            rw [strsOf_is qi] at r2
            obtain ⟨u, rfl, rx1⟩ := vals1 rx
            obtain rfl : u = Value.ref a := rx1
            exact call_srtS hk I S sl r2 h64 o
          · exact False.elim o
        · split at o
          · rename_i is qi
            split at o
            · rename_i h64
              obtain ⟨ws, sl, r2⟩ := S.lst q ea
              have ew := intsOf_ok qi r2
              subst ew
              obtain ⟨u, rfl, rx1⟩ := vals1 rx
              obtain rfl : u = Value.ref a := rx1
              exact call_srtI hk I S sl h64 o
            · exact False.elim o
          · split at o
            · rename_i qs qi
              obtain ⟨ws, sl, r2⟩ := S.lst q ea
              have ew := psOfQ_okQ qi
              subst ew
              obtain ⟨u, rfl, rx1⟩ := vals1 rx
              obtain rfl : u = Value.ref a := rx1
              exact call_srtPQ hk I S sl r2 o
            · exact False.elim o
    · split at o
      · rename_i kvs qd
        split at o
        · rename_i ts qi
          obtain ⟨ks, ed, rk⟩ := S.dic qd ea
          obtain ⟨u, rfl, rx1⟩ := vals1 rx
          obtain rfl : u = Value.ref a := rx1
          exact call_srtD hc I S ed rk qi o
        · exact False.elim o
      · exact False.elim o
  · -- sorted of a tuple
    obtain ⟨v, rfl, r1⟩ := r.one
    obtain ⟨a, ws, rfl, sa, r2⟩ := r1.tupE
    obtain ⟨u, rfl, rx1⟩ := vals1 rx
    obtain rfl : u = Value.ref a := rx1
    split at o
    · rename_i ts qi
      rw [strsOf_is qi] at r2
      exact call_srtSt hk I S sa r2 o
    · split at o
      · rename_i qs qi
        have ew := psOfQ_okQ qi
        subst ew
        exact call_srtPt hk I S sa r2 o
      · exact False.elim o
  · -- dict of a list of pairs
    obtain ⟨v, rfl, r1⟩ := r.one
    obtain ⟨a, ea, rfl⟩ := r1.refE
    split at o
    · rename_i ys q
      split at o
      · rename_i kvs qi
        obtain ⟨ws, sl, r2⟩ := S.lst q ea
        obtain ⟨u, rfl, rx1⟩ := vals1 rx
        obtain rfl : u = Value.ref a := rx1
        exact call_dct hc hk I S sl r2 qi o
      · exact False.elim o
    · exact False.elim o
  · rename_i b
    obtain ⟨v, rfl, r1⟩ := r.one
    rw [r1.blE] at rx
    obtain ⟨u, rfl, e⟩ := vals1 rx
    cases e
    refine PySem.P.repr_of_bool ⟨.str (if b then "True" else "False"), H, I.tok _, ⟨_, by cases b <;> rfl⟩, ?_⟩
    have e : (V.str (if b = true then "True" else "False" : Str)) = V.str ⟨(if b = true then [84, 114, 117, 101] else [70, 97, 108, 115, 101] : List Nat).toArray⟩ := by cases b <;> rfl
    have k := okv S o (.str _)
    cases b <;> exact k
  · obtain ⟨v, rfl, r1⟩ := r.one
    rw [r1.nonE] at rx
    obtain ⟨u, rfl, e⟩ := vals1 rx
    cases e
    exact PySem.P.repr_of_none ⟨.str "None", H, I.tok _, ⟨_, rfl⟩, okv S o (.str _)⟩
  · split at o
    · rename_i hl
      obtain ⟨v, rfl, r1⟩ := r.one
      rw [r1.intE] at rx
      exact SkE.call_repr_int pins s σ H _ us Q I rx ⟨_, rfl, hl, okv S o (.strO _)⟩
    · exact False.elim o
  · split at o
    · rename_i hl
      obtain ⟨v, rfl, r1⟩ := r.one
      rw [r1.strE] at rx
      obtain ⟨u, rfl, t, rfl⟩ := vals1 rx
      exact PySem.P.repr_of_str ⟨.str _, H, I.tok _, ⟨_, rfl⟩, okv S o (.strO _)⟩ hl
    · exact False.elim o
  · exact False.elim o
end
end Mn
set_option Elab.async false
set_option linter.all false
set_option maxRecDepth 100000
set_option maxHeartbeats 2000000
namespace Mn
open PySem PySem.Spec L2 PyProof.Rows
def eqT (k : List Nat) (v : Value) : Bool := match v with
  | .str n _ => n.cps.toList == k
  | _ => false
def TxtsAre : List Value → List (List Nat) → Prop
  | [], [] => True
  | v :: vs, x :: xs => (∃ t, v = .str ⟨x.toArray⟩ t) ∧ TxtsAre vs xs
  | _, _ => False
theorem txts_of : ∀ {us : List Value} {ys : List (List Nat)}, Vals ((ys.map fun y => (⟨y.toArray⟩ : Str)).map V.str) us → TxtsAre us ys
  | us, [], h => by cases h; trivial
  | us, y :: ys, h => by
    cases h with
    | cons r t => exact ⟨r, txts_of t⟩
theorem TxtsAre.get : ∀ {us : List Value} {ys : List (List Nat)}, TxtsAre us ys → ∀ {j : Nat} {v : Value}, us[j]? = some v → ∃ y t, ys[j]? = some y ∧ v = .str ⟨y.toArray⟩ t
  | [], [], _, j, v, e => by simp at e
  | u :: us, y :: ys, h, 0, v, e => by
    obtain ⟨⟨t, rfl⟩, _⟩ := h
    cases e
    exact ⟨y, t, rfl, rfl⟩
  | u :: us, y :: ys, h, j + 1, v, e => TxtsAre.get h.2 (j := j) (by simpa using e)
  | [], _ :: _, h, _, _, _ => h.elim
  | _ :: _, [], h, _, _, _ => h.elim
theorem eqT_gives {k : List Nat} {t : Tok} {us : List Value} {ys : List (List Nat)} (h : TxtsAre us ys) : ∀ y ∈ us, MeetsSeq.EqGives y (.str ⟨k.toArray⟩ t) (eqT k y) := fun y hy => by
  obtain ⟨j, hj, e⟩ := List.getElem_of_mem hy
  obtain ⟨x, u, _, rfl⟩ := h.get (j := j) (v := y) (by rw [List.getElem?_eq_getElem hj, e])
  have q := SeqRoads2.EqGives.str ⟨x.toArray⟩ ⟨k.toArray⟩ u t
  simpa [eqT] using q
theorem first_txt : ∀ {ys : List (List Nat)} {k : List Nat}, k ∈ ys → ∃ j, j < ys.length ∧ ys[j]? = some k ∧ (∀ i, i < j → ys[i]? ≠ some k) ∧ ys.eraseIdx j = ys.erase k
  | [], k, h => absurd h (by simp)
  | a :: r, k, h => by
    by_cases e : a = k
    · refine ⟨0, Nat.succ_pos _, by rw [e] <;> rfl, fun i hi => absurd hi (Nat.not_lt_zero _), ?_⟩
      rw [e, List.erase_cons_head] <;> rfl
    · have hr : k ∈ r := by
        rcases List.mem_cons.mp h with z | z
        · exact absurd z.symm e
        · exact z
      obtain ⟨j, h1, h2, h3, h4⟩ := first_txt hr
      refine ⟨j + 1, Nat.succ_lt_succ h1, h2, fun i hi => ?_, ?_⟩
      · cases i with
        | zero => exact fun z => e (Option.some.inj z)
        | succ i => exact h3 i (Nat.lt_of_succ_lt_succ hi)
      · rw [List.erase_cons_tail (by rw [beq_iff_eq]; exact e), ← h4] <;> rfl
section
variable {X : Cx}
theorem mt_removeT {pins : List (Addr × Obj)} {s : Shared} {σ : L2.St} {H : Hp} {v : Value} {us : List Value} {Q : VK} {l : Addr} {ys : List (List Nat)} {k : List Nat} {j : Nat} (I : Inv X pins σ H s) (rx : RelV (.ref l) v) (rxs : Vals [.str ⟨k.toArray⟩] us) (hH : H l = some (.lst ((ys.map fun y => (⟨y.toArray⟩ : Str)).map V.str)))
    (hj : ys[j]? = some k) (hno : ∀ m, m < j → ys[m]? ≠ some k) (q : Q .non (upd H l (.lst (((ys.map fun y => (⟨y.toArray⟩ : Str)).map V.str).eraseIdx j)))) :
    wpAny (model X.prog X.w) X.A (call (.builtin "list.remove") (v :: us)) (EP X pins σ Q) X.xe s := by
  cases rx
  obtain ⟨u, rfl, ru⟩ := rxs.one
  obtain ⟨t, rfl⟩ := ru
  obtain ⟨z, its, n, r, hl, e⟩ := I.lstM hH
  have hi := txts_of r
  rw [List.length_map, List.length_map] at hl z
  have hjn : j < ys.length := (List.getElem?_eq_some_iff.mp hj).1
  have hjl : j < its.toArray.size := by rw [List.size_toArray]; omega
  refine call_meets PySem.F.slot_list_remove ⟨_, e, rfl⟩ PySem.F.entry_list_remove (PySem.F.args_list_remove_2 _ _)
    (MeetsSeq.list_remove l its.toArray n (.str ⟨k.toArray⟩ t) (eqT k) (fun y hy => eqT_gives hi y (by simpa using hy)) j hjl ?_ ?_ (by rw [List.size_toArray]; omega)) ⟨e, ?_⟩
  · obtain ⟨y, tj, e2, e1⟩ := hi.get (j := j) (v := its.toArray[j]) (by rw [List.getElem?_eq_getElem (by simpa using hjl)]; simp)
    rw [e1]
    rw [hj] at e2
    cases e2
    simp [eqT]
  · intro m hm hmj
    obtain ⟨y, tj, e2, e1⟩ := hi.get (j := m) (v := its.toArray[m]) (by rw [List.getElem?_eq_getElem (by simpa using hm)]; simp)
    rw [e1]
    refine beq_eq_false_iff_ne.mpr fun e3 => hno m hmj ?_
    rw [e2]
    have : y = k := by simpa using e3
    rw [this]
  · refine ⟨.non, _, I.lset (its' := its.eraseIdx j) hH e ?_ (r.eraseIdx j) ?_, rfl, q⟩
    · simp
    · rw [List.length_eraseIdx]
      simp only [List.length_map]
      split <;> omega
end
end Mn
set_option Elab.async false
set_option linter.all false
set_option maxRecDepth 100000
set_option maxHeartbeats 4000000
namespace Mn
open PySem PySem.Spec L2 PyProof.Rows
def Bq.T : Bq → String
  | .lappend | .lpop | .lpopl | .lextend | .lreverse | .linsert | .lindex | .lremove => "list"
  | .sisascii | .sisprintable | .sisdigit | .sjoin | .sremoveprefix => "str"
  | .dget | .dpop => "dict"
def Bm.nm : Bm → Str
  | .append => Str.ofString "append" | .pop => Str.ofString "pop" | .insert => Str.ofString "insert" | .extend => Str.ofString "extend" | .reverse => Str.ofString "reverse" | .index => Str.ofString "index" | .remove => Str.ofString "remove"
  | .isascii => Str.ofString "isascii" | .isprintable => Str.ofString "isprintable" | .isdigit => Str.ofString "isdigit" | .join => Str.ofString "join" | .replace => Str.ofString "replace" | .removeprefix => Str.ofString "removeprefix"
  | .find => Str.ofString "find" | .get => Str.ofString "get" | .keys => Str.ofString "keys" | .items => Str.ofString "items" | .values => Str.ofString "values" | .startswith => Str.ofString "startswith" | .none => Str.ofString ""
def Bq.id : Bq → String
  | .lappend => "list.append" | .lpop | .lpopl => "list.pop" | .lextend => "list.extend" | .lreverse => "list.reverse" | .linsert => "list.insert" | .lindex => "list.index" | .lremove => "list.remove"
  | .sisascii => "str.isascii" | .sisprintable => "str.isprintable" | .sisdigit => "str.isdigit" | .sjoin => "str.join" | .sremoveprefix => "str.removeprefix"
  | .dget => "dict.get" | .dpop => "dict.pop"
theorem bq_plain : ∀ q : Bq, PlainAttrs q.T
  | .lappend | .lpop | .lpopl | .lextend | .lreverse | .linsert | .lindex | .lremove => PySem.F.plainAttrs_list
  | .sisascii | .sisprintable | .sisdigit | .sjoin | .sremoveprefix => PySem.F.plainAttrs_str
  | .dget | .dpop => PySem.F.plainAttrs_dict
theorem bq_slot {m : Bm} {k : Nat} {q : Bq} (e : Bq.of m k = some q) : Slot q.T m.nm q.id := by
  unfold Bq.of at e
  split at e
  · cases e; exact PySem.F.slot_list_append
  · cases e; exact PySem.F.slot_list_pop
  · cases e; exact PySem.F.slot_list_extend
  · cases e; exact PySem.F.slot_list_reverse
  · cases e; exact PySem.F.slot_list_insert
  · cases e; exact PySem.F.slot_list_index
  · cases e; exact PySem.F.slot_list_remove
  · cases e; exact PySem.F.slot_str_isascii
  · cases e; exact PySem.F.slot_str_isprintable
  · cases e; exact PySem.F.slot_str_isdigit
  · cases e; exact PySem.F.slot_str_join
  · cases e; exact PySem.F.slot_str_removeprefix
  · cases e; exact PySem.F.slot_dict_get
  · cases e; exact PySem.F.slot_dict_pop
  · cases e
theorem bq_ty : ∀ q : Bq, typeOf (.builtin q.id) = pure (.type "method_descriptor")
  | .lappend => PySem.F.type_list_append
  | .lpop => PySem.F.type_list_pop
  | .lpopl => PySem.F.type_list_pop
  | .lextend => PySem.F.type_list_extend
  | .lreverse => PySem.F.type_list_reverse
  | .linsert => PySem.F.type_list_insert
  | .lindex => PySem.F.type_list_index
  | .lremove => PySem.F.type_list_remove
  | .sisascii => PySem.F.type_str_isascii
  | .sisprintable => PySem.F.type_str_isprintable
  | .sisdigit => PySem.F.type_str_isdigit
  | .sjoin => PySem.F.type_str_join
  | .sremoveprefix => PySem.F.type_str_removeprefix
  | .dget => PySem.F.type_dict_get
  | .dpop => PySem.F.type_dict_pop
theorem bq_T {m : Bm} {k : Nat} {q : Bq} (e : Bq.of m k = some q) : (k = 0 ∧ q.T = "list") ∨ (k = 1 ∧ q.T = "dict") ∨ (k = 2 ∧ q.T = "str") := by
  unfold Bq.of at e
  split at e
  · cases e; exact .inl ⟨rfl, rfl⟩
  · cases e; exact .inl ⟨rfl, rfl⟩
  · cases e; exact .inl ⟨rfl, rfl⟩
  · cases e; exact .inl ⟨rfl, rfl⟩
  · cases e; exact .inl ⟨rfl, rfl⟩
  · cases e; exact .inl ⟨rfl, rfl⟩
  · cases e; exact .inl ⟨rfl, rfl⟩
  · cases e; exact .inr (.inr ⟨rfl, rfl⟩)
  · cases e; exact .inr (.inr ⟨rfl, rfl⟩)
  · cases e; exact .inr (.inr ⟨rfl, rfl⟩)
  · cases e; exact .inr (.inr ⟨rfl, rfl⟩)
  · cases e; exact .inr (.inr ⟨rfl, rfl⟩)
  · cases e; exact .inr (.inl ⟨rfl, rfl⟩)
  · cases e; exact .inr (.inl ⟨rfl, rfl⟩)
  · cases e
section
variable {G : Gm} {T : Tb} {E : XK} {X : Cx} {as : List Addr} {H : Hp} {h : PH}
theorem kind_ty (hk : X.K = G.K) (S : SR G as H h) {m : Bm} {v : PV} {x : V} {q : Bq} (e : Bq.of m (kindAt h v) = some q) (r : RepV G as H v x) : tyV X.K q.T x H := by
  have t := bq_T e
  clear e
  generalize q.T = TT at t ⊢
  unfold kindAt at t
  split at t
  · rename_i l
    obtain ⟨a, ea, rfl⟩ := r.refE
    split at t
    · rename_i xs qq
      obtain ⟨vs, e1, _⟩ := S.obj qq ea
      rcases t with ⟨_, e⟩ | ⟨e, _⟩ | ⟨e, _⟩
      · exact .inl ⟨e, vs, .of e1⟩
      · cases e
      · cases e
    · rename_i xs qq
      obtain ⟨vs, e1, _⟩ := S.obj qq ea
      rcases t with ⟨e, _⟩ | ⟨_, e⟩ | ⟨e, _⟩
      · cases e
      · exact .inr (.inr (.inl ⟨e, .inl ⟨vs, e1⟩⟩))
      · cases e
    · rcases t with ⟨e, _⟩ | ⟨e, _⟩ | ⟨e, _⟩ <;> cases e
  · rw [r.strE]
    rcases t with ⟨e, _⟩ | ⟨e, _⟩ | ⟨_, e⟩
    · cases e
    · cases e
    · exact e
  · rcases t with ⟨e, _⟩ | ⟨e, _⟩ | ⟨e, _⟩ <;> cases e
abbrev rMq (G : Gm) (E : XK) (q : Bq) : V → List V → Hp → VK → Prop := fun x xs H Q => ∃ as h v vs, SR G as H h ∧ RepV G as H v x ∧ RepVs G as H vs xs ∧ OkV G E as H Q (pBq q v vs h)
theorem key_rel {v : PV} {x : V} {k : Key} (e : keyOf v = some k) (r : RepV G as H v x) : x = kV k := by
  unfold keyOf at e
  split at e
  · cases e; exact r.intE
  · cases e; exact r.strE
  · cases e
theorem strsOf_eq : ∀ {vs : List PV} {is : List (List Nat)}, strsOf vs = some is → vs = is.map .str
  | [], is, e => by simp only [strsOf] at e; cases e; rfl
  | v :: vs, is, e => by
    cases v with
    | str x =>
      simp only [strsOf] at e
      obtain ⟨r, e1, rfl⟩ := Option.map_eq_some_iff.mp e
      rw [strsOf_eq e1]
      rfl
    | _ => simp [strsOf] at e
theorem erase_mapG {α β : Type} (f : α → β) : ∀ (l : List α) (j : Nat), (l.map f).eraseIdx j = (l.eraseIdx j).map f
  | [], j => by simp
  | a :: r, 0 => by simp
  | a :: r, j + 1 => by
    have ih := erase_mapG f r j
    simp [ih]
theorem mt_bq (hk : X.K = G.K) (hu : X.A.units + 70 < cLine) (q : Bq) : MtR X q.id (rMq G E q) := by
  intro pins s σ H x xs v us Q I rx rs ⟨as, h, w, ws, S, r, rws, o⟩
  unfold pBq at o
  cases q with
  | lappend =>
    dsimp only at o
    split at o
    · obtain ⟨a, ea, rfl⟩ := r.refE
      obtain ⟨y, rfl, ry⟩ := rws.one
      split at o
      · rename_i qq
        split at o
        · rename_i hl
          obtain ⟨vs, e1, rl⟩ := S.lstM qq ea
          exact mt_append pins s σ H _ _ v us Q I rx rs ⟨a, vs, y, rfl, rfl, e1, by rw [← rl.length]; exact hl, okn o (S.setL ea e1 (rl.append (.cons ry .nil))) .non⟩
        · exact False.elim o
      · exact False.elim o
    · exact False.elim o
  | lpop =>
    dsimp only at o
    split at o
    · obtain ⟨a, ea, rfl⟩ := r.refE
      obtain ⟨y, rfl, ry⟩ := rws.one
      rw [ry.intE] at rs
      split at o
      · rename_i qq
        split at o
        · rename_i k qk
          split at o
          · rename_i y qy
            split at o
            · rename_i hl
              simp only [Bool.and_eq_true, decide_eq_true_eq] at hl
              obtain ⟨vs, e1, rl⟩ := S.lstM qq ea
              obtain ⟨z, ez, rz⟩ := rl.get qy
              have f := S.setL ea e1 (rl.eraseIdx k)
              exact mt_popAt pins s σ H _ _ v us Q I rx rs ⟨a, vs, _, k, z, rfl, rfl, e1, hl.1, hl.2, by rw [← rl.length]; exact qk, ez, okn o f (rz.fut f)⟩
            · exact False.elim o
          · exact False.elim o
        · exact False.elim o
      · exact False.elim o
    · obtain ⟨a, ea, rfl⟩ := r.refE
      have := rws.zero
      subst this
      split at o
      · rename_i xs0 qq
        split at o
        · rename_i y qy
          obtain ⟨vs, e1, rl⟩ := S.lstM qq ea
          obtain ⟨z, ez, rz⟩ := rl.get qy
          have rd : RepVs G as H xs0.dropLast vs.dropLast := by
            rw [List.dropLast_eq_take, List.dropLast_eq_take, rl.length]
            exact rl.take _
          have f := S.setL ea e1 rd
          exact mt_pop pins s σ H _ _ v us Q I rx rs ⟨a, vs, z, rfl, rfl, e1, by rw [← rl.length]; exact ez, okn o f (rz.fut f)⟩
        · exact False.elim o
      · exact False.elim o
    · exact False.elim o
  | lextend =>
    dsimp only at o
    split at o
    · obtain ⟨a, ea, rfl⟩ := r.refE
      obtain ⟨y, rfl, ry⟩ := rws.one
      obtain ⟨b, eb, rfl⟩ := ry.refE
      split at o
      · rename_i q1 q2
        split at o
        · rename_i hl
          obtain ⟨vs, e1, rl⟩ := S.lstM q1 ea
          obtain ⟨ws, e2, rl2⟩ := S.lstM q2 eb
          exact mt_extend pins s σ H _ _ v us Q I rx rs ⟨a, b, vs, ws, rfl, rfl, e1, e2, by rw [← rl.length, ← rl2.length]; exact hl, okn o (S.setL ea e1 (rl.append rl2)) .non⟩
        · exact False.elim o
      · exact False.elim o
    · exact False.elim o
  | linsert =>
    dsimp only at o
    split at o
    · obtain ⟨a, ea, rfl⟩ := r.refE
      obtain ⟨y1, y2, rfl, ry1, ry2⟩ := rws.two
      obtain rfl := ry1.intE
      split at o
      · rename_i qq
        split at o
        · rename_i hl
          simp only [Bool.and_eq_true, decide_eq_true_eq] at hl
          obtain ⟨vs, e1, rl⟩ := S.lstM qq ea
          exact mt_insert pins s σ H _ _ v us Q I rx rs ⟨a, vs, _, y2, rfl, rfl, e1, by rw [← rl.length]; exact hl.1.1, hl.1.2, hl.2, okn o (S.setL ea e1 (((rl.take _).append (.cons ry2 .nil)).append (rl.drop _))) .non⟩
        · exact False.elim o
      · exact False.elim o
    · exact False.elim o
  | lremove =>
    dsimp only at o
    split at o
    · rename_i l y
      obtain ⟨a, ea, rfl⟩ := r.refE
      obtain ⟨y1, rfl, ry1⟩ := rws.one
      obtain rfl := ry1.strE
      split at o
      · rename_i xs qq
        split at o
        · rename_i ys qy
          split at o
          · rename_i hm
            obtain ⟨vs, e1, rl⟩ := S.lstM qq ea
            have ev := strsOf_ok qy rl
            subst ev
            obtain ⟨j, h1, h2, h3, h4⟩ := first_txt hm
            refine mt_removeT I rx rs e1 h2 h3 (okn o (S.setL ea e1 ?_) .non)
            have exs : xs = ys.map .str := strsOf_eq qy
            rw [← h4, ← erase_mapG, ← exs]
            exact rl.eraseIdx j
          · exact False.elim o
        · exact False.elim o
      · exact False.elim o
    · exact False.elim o
  | lreverse =>
    dsimp only at o
    split at o
    · obtain ⟨a, ea, rfl⟩ := r.refE
      have := rws.zero
      subst this
      split at o
      · rename_i qq
        obtain ⟨vs, e1, rl⟩ := S.lstM qq ea
        exact mt_reverse pins s σ H _ _ v us Q I rx rs ⟨a, vs, rfl, rfl, e1, okn o (S.setL ea e1 rl.reverse) .non⟩
      · exact False.elim o
    · exact False.elim o
  | sisascii =>
    dsimp only at o
    split at o
    · have := rws.zero
      subst this
      rw [r.strE] at rx
      exact mt_isascii pins s σ H _ _ v us Q I rx rs ⟨_, rfl, rfl, True.intro, okv S o (.bl _)⟩
    · exact False.elim o
  | sisprintable =>
    dsimp only at o
    split at o
    · have := rws.zero
      subst this
      rw [r.strE] at rx
      exact mt_isprintable pins s σ H _ _ v us Q I rx rs ⟨_, rfl, rfl, True.intro, okv S o (.bl _)⟩
    · exact False.elim o
  | sisdigit =>
    dsimp only at o
    split at o
    · have := rws.zero
      subst this
      rw [r.strE] at rx
      exact mt_isdigit pins s σ H _ _ v us Q I rx rs ⟨_, rfl, rfl, True.intro, okv S o (.bl _)⟩
    · exact False.elim o
  | sremoveprefix =>
    dsimp only at o
    split at o
    · obtain ⟨y, rfl, ry⟩ := rws.one
      rw [r.strE] at rx
      rw [ry.strE] at rs
      split at o
      · rename_i hl
        exact mt_removeprefix pins s σ H _ _ v us Q I rx rs ⟨_, _, rfl, rfl, by rw [str_len]; exact hl, okv S o (.strO _)⟩
      · exact False.elim o
    · exact False.elim o
  | sjoin =>
    dsimp only at o
    split at o
    · obtain ⟨y, rfl, ry⟩ := rws.one
      obtain ⟨a, ea, rfl⟩ := ry.refE
      rw [r.strE] at rx
      split at o
      · rename_i ys q1
        split at o
        · rename_i zs q2
          split at o
          · rename_i hl
            obtain ⟨vs, sl, rl⟩ := S.lst q1 ea
            have e := strsOf_ok q2 rl
            subst e
            refine mt_join pins s σ H _ _ v us Q I rx rs ⟨_, a, _, rfl, rfl, .inl (by rw [hk]; exact sl), ?_, okv S o (.strO _)⟩
            rw [List.map_map, List.length_map, str_len]
            have : ((fun x : Str => x.length) ∘ fun y : List Nat => (⟨y.toArray⟩ : Str)) = fun y => y.length := by
              funext y
              exact str_len y
            rw [this]
            exact hl
          · exact False.elim o
        · exact False.elim o
      · exact False.elim o
    · exact False.elim o
  | dget =>
    dsimp only at o
    split at o
    · obtain ⟨a, ea, rfl⟩ := r.refE
      obtain ⟨y, rfl, ry⟩ := rws.one
      split at o
      · rename_i kvs k q1 q2
        obtain ⟨ks, ed, rk⟩ := S.dic q1 ea
        have ey := key_rel q2 ry
        subst ey
        obtain ⟨u, rfl, ru⟩ := vals1 rs
        obtain rfl : v = Value.ref a := rx
        refine d_get1 (by omega) I (DGet.k (k := k) ed) ru fun w' s' I' rw' => ⟨_, H, I', rw', ?_⟩
        obtain ⟨c1, c2⟩ := dLook_ok k rk
        cases qd : dLook kvs k with
        | none => rw [qd] at o; rw [c2 qd]; exact okv S o .non
        | some z => rw [qd] at o; obtain ⟨z', ez, rz⟩ := c1 z qd; rw [ez]; exact okv S o rz
      · exact False.elim o
    · obtain ⟨a, ea, rfl⟩ := r.refE
      obtain ⟨y, d, rfl, ry, rd⟩ := rws.two
      split at o
      · rename_i kvs k q1 q2
        obtain ⟨ks, ed, rk⟩ := S.dic q1 ea
        have ey := key_rel q2 ry
        subst ey
        obtain ⟨u, u2, rfl, ru, ru2⟩ := vals2 rs
        obtain rfl : v = Value.ref a := rx
        refine d_get2 (by omega) I (DGet.k (k := k) ed) ru ru2 fun w' s' I' rw' => ⟨_, H, I', rw', ?_⟩
        obtain ⟨c1, c2⟩ := dLook_ok k rk
        cases qd : dLook kvs k with
        | none => rw [qd] at o; rw [c2 qd]; exact okv S o rd
        | some z => rw [qd] at o; obtain ⟨z', ez, rz⟩ := c1 z qd; rw [ez]; exact okv S o rz
      · exact False.elim o
    · exact False.elim o
  | dpop =>
    dsimp only at o
    split at o
    · obtain ⟨a, ea, rfl⟩ := r.refE
      obtain ⟨y, rfl, ry⟩ := rws.one
      split at o
      · rename_i kvs k q1 q2
        split at o
        · rename_i z qd
          obtain ⟨ks, ed, rk⟩ := S.dic q1 ea
          have ey := key_rel q2 ry
          subst ey
          obtain ⟨u, rfl, ru⟩ := vals1 rs
          obtain rfl : v = Value.ref a := rx
          obtain ⟨z', ez, rz⟩ := (dLook_ok k rk).1 z qd
          have f := S.setD ea ed (dDrop_ok (k := k) rk)
          exact d_pop I ed ru ez (.inl rfl) fun w' s' I' rw' => ⟨_, _, I', rw', okn o f (rz.fut f)⟩
        · exact False.elim o
      · exact False.elim o
    · exact False.elim o
  | _ => exact False.elim o
theorem atI_ok {xs : List PV} {vs : List V} {i : Int} {x : PV} (r : RepVs G as H xs vs) (e : atI xs i = some x) : ∃ v, atI vs i = some v ∧ RepV G as H x v := by
  unfold atI at e ⊢
  rw [← r.length]
  obtain ⟨j, e1, e2⟩ := Option.bind_eq_some_iff.mp e
  obtain ⟨v, e3, rv⟩ := r.get e2
  exact ⟨v, by rw [e1]; exact e3, rv⟩
theorem ixd {value slice : Expr} {pins : List (Addr × Obj)} {s : Shared} {σ : L2.St} {a : Addr} {ks : List (Key × V)} {k : Key} {u : Value} {z : V} {Q : VK} (I : Inv X pins σ H s) (ed : Rd H a (.dK ks)) (ry : RelV (kV k) u) (ez : valV ks k = some z)
    (hs : subscripted slice false (.ref a) u = operate [.ref a, u] (getItem (.ref a) u)) (hu : X.A.units + 1 < cLine) (q : Q z H) : wpAny (model X.prog X.w) X.A (subscriptTail value slice (.ref a) u) (EP X pins σ Q) X.xe s := by
  have g : DGet H a (kV k) (some z) := by rw [← ez]; exact .inl ⟨ks, k, ed, rfl, rfl⟩
  exact tail_any (dict_typeIs I g) PySem.F.slot_dict_getitem.lookup (d_getItem hu I g ry fun w' s3 I3 rw' => ⟨z, H, I3, rw', q⟩) hs
theorem op_ix (hk : X.K = G.K) (hu : X.A.units + 70 < cLine) : IxR X (rP2 G E pIx) := by
  intro value slice pins s σ H x y v u Q I rx ry ⟨as, h, va, vb, S, ra, rb, o⟩ hs
  unfold pIx at o
  split at o
  · split at o
    · rename_i q
      obtain ⟨a, vs, rfl, sa, r⟩ := ra.tupE
      obtain ⟨z, ez, rz⟩ := atI_ok r q
      rw [rb.intE] at ry
      exact ix_tup value slice pins s σ H _ _ v u Q I rx ry ⟨a, vs, _, z, rfl, rfl, by rw [hk]; exact sa, ez, okv S o rz⟩ hs
    · exact False.elim o
  · obtain ⟨a, ea, rfl⟩ := ra.refE
    rw [rb.intE] at ry
    split at o
    · rename_i ql
      split at o
      · rename_i q
        obtain ⟨vs, sl, r⟩ := S.lst (lstAt_of ql) ea
        obtain ⟨z, ez, rz⟩ := atI_ok r q
        exact ix_list value slice pins s σ H _ _ v u Q I rx ry ⟨a, vs, _, z, rfl, rfl, by rw [hk]; exact sl, ez, okv S o rz⟩ hs
      · exact False.elim o
    · rename_i ql
      split at o
      · rename_i q
        obtain ⟨vs, sl, r⟩ := S.lst (lstAt_frz ql) ea
        obtain ⟨z, ez, rz⟩ := atI_ok r q
        exact ix_list value slice pins s σ H _ _ v u Q I rx ry ⟨a, vs, _, z, rfl, rfl, by rw [hk]; exact sl, ez, okv S o rz⟩ hs
      · exact False.elim o
    · rename_i ql
      split at o
      · rename_i q
        obtain ⟨ks, ed, rk⟩ := S.dic ql ea
        obtain ⟨z, ez, rz⟩ := (dLook_ok _ rk).1 _ q
        obtain rfl : v = Value.ref a := rx
        exact ixd I (.of ed) (k := .inl _) ry ez hs (by omega) (okv S o rz)
      · exact False.elim o
    · rename_i ql
      split at o
      · rename_i q
        obtain ⟨od, ks, ed, rk⟩ := S.fdic ql ea
        obtain ⟨z, ez, rz⟩ := (dLook_ok _ rk).1 _ q
        obtain rfl : v = Value.ref a := rx
        exact ixd I (.inr ⟨od, ed⟩) (k := .inl _) ry ez hs (by omega) (okv S o rz)
      · exact False.elim o
    · exact False.elim o
  · obtain ⟨a, ea, rfl⟩ := ra.refE
    rw [rb.strE] at ry
    split at o
    · rename_i ql
      split at o
      · rename_i q
        obtain ⟨ks, ed, rk⟩ := S.dic ql ea
        obtain ⟨z, ez, rz⟩ := (dLook_ok _ rk).1 _ q
        obtain rfl : v = Value.ref a := rx
        exact ixd I (.of ed) (k := .inr _) ry ez hs (by omega) (okv S o rz)
      · exact False.elim o
    · rename_i ql
      split at o
      · rename_i q
        obtain ⟨od, ks, ed, rk⟩ := S.fdic ql ea
        obtain ⟨z, ez, rz⟩ := (dLook_ok _ rk).1 _ q
        obtain rfl : v = Value.ref a := rx
        exact ixd I (.inr ⟨od, ed⟩) (k := .inr _) ry ez hs (by omega) (okv S o rz)
      · exact False.elim o
    · exact False.elim o
  · split at o
    · rename_i q
      obtain ⟨a, vs, rfl, sf, r⟩ := ra.frkE
      rw [rb.intE] at ry
      obtain ⟨z, ez, rz⟩ := atI_ok r q
      exact ix_list value slice pins s σ H _ _ v u Q I rx ry ⟨a, vs, _, z, rfl, rfl, by rw [hk]; exact sf.sq, ez, okv S o rz⟩ hs
    · exact False.elim o
  · split at o
    · rename_i hl
      split at o
      · rename_i q
        rw [ra.strE] at rx
        rw [rb.intE] at ry
        exact ix_str value slice pins s σ H _ _ v u Q I rx ry ⟨_, _, _, rfl, rfl, by rw [str_len]; exact hl, by simpa using q, okv S o (.str _)⟩ hs
      · exact False.elim o
    · exact False.elim o
  · exact False.elim o
theorem cut_ok {xs : List PV} {vs : List V} (r : RepVs G as H xs vs) (lo hi : Option Int) : RepVs G as H (cut xs lo hi) (cutV vs lo hi) := by
  unfold cut cutV
  rw [r.length]
  exact (r.drop _).take _
theorem cut_str (x : List Nat) (lo hi : Option Int) : cutS ⟨x.toArray⟩ lo hi = ⟨(cut x lo hi).toArray⟩ := by
  unfold cutS cut
  rw [str_len]
abbrev rSp (G : Gm) (E : XK) : V → Option Int → Option Int → Hp → VK → Prop := fun x lo hi H Q => ∃ as h v, SR G as H h ∧ RepV G as H v x ∧ OkV G E as H Q (pSl v lo hi h)
theorem sl_all (hk : X.K = G.K) : SlR X (rSp G E) := by
  intro pins s σ H x v vl vu lo hi sl Q I rx hs pl pu ⟨as, h, va, S, ra, o⟩
  unfold pSl at o
  split at o
  · rename_i xs
    obtain ⟨a, vs, rfl, sa, r⟩ := ra.tupE
    refine sl_tupA pins s σ H _ v vl vu lo hi sl Q I rx hs pl pu ⟨a, vs, rfl, by rw [hk]; exact sa, fun hw => ?_, fun hw p hp => ?_⟩
    · have ew : cut xs lo hi = xs := by
        unfold cut
        rw [r.length, hw.1, hw.2, List.drop_zero, Nat.sub_zero, ← r.length, List.take_length]
      rw [ew] at o
      exact okv S o ra
    · obtain ⟨f, rr⟩ := S.tup hp (cut_ok r lo hi)
      exact okn o f rr
  · split at o
    · rename_i hl
      rw [ra.strE] at rx
      refine sl_str pins s σ H _ v vl vu lo hi sl Q I rx hs pl pu ⟨_, rfl, by rw [str_len]; exact hl, ?_⟩
      rw [cut_str]
      exact okv S o (.str _)
    · exact False.elim o
  · obtain ⟨a, ea, rfl⟩ := ra.refE
    split at o
    · rename_i q
      obtain ⟨vs, sq, r⟩ := S.lst q ea
      refine sl_list pins s σ H _ v vl vu lo hi sl Q I rx hs pl pu ⟨a, vs, rfl, by rw [hk]; exact sq, fun p hp => ?_⟩
      obtain ⟨f, rr⟩ := S.newL hp (cut_ok r lo hi)
      exact okn o f rr
    · exact False.elim o
  · exact False.elim o
theorem tru_p (hk : X.K = G.K) (S : SR G as H h) {v : PV} {x : V} {b : Bool} (e : pTru h v = some b) (r : RepV G as H v x) : TruV X.K x H b := by
  unfold pTru at e
  split at e
  · cases e; rw [r.nonE]; rfl
  · cases e; rw [r.blE]; rfl
  · cases e; rw [r.intE]; rfl
  · split at e
    · rename_i y hl
      cases e
      rw [r.strE]
      refine ⟨by rw [str_len]; exact hl, ?_⟩
      rw [str_len]
      cases y <;> simp
      omega
    · cases e
  · rename_i xs
    cases e
    obtain ⟨a, vs, rfl, sa, rv⟩ := r.tupE
    exact .inr (.inl ⟨vs, by rw [hk]; exact sa, by
      cases xs with
      | nil => rw [rv.zero]; rfl
      | cons y ys => unfold RepVs at rv; obtain ⟨w, rest, rfl, _⟩ := rv; rfl⟩)
  · obtain ⟨a, ea, rfl⟩ := r.refE
    have fin : ∀ {xs : List PV} {vs : List V}, RepVs G as H xs vs → (!xs.isEmpty) = !vs.isEmpty := fun {xs vs} rv => by
      cases xs with
      | nil => rw [rv.zero]; rfl
      | cons y ys => unfold RepVs at rv; obtain ⟨w, rest, rfl, _⟩ := rv; rfl
    split at e
    · rename_i q
      cases e
      obtain ⟨vs, sl, rv⟩ := S.lst (lstAt_of q) ea
      exact .inl ⟨vs, by rw [hk]; exact sl, fin rv⟩
    · rename_i q
      cases e
      obtain ⟨vs, sl, rv⟩ := S.lst (lstAt_frz q) ea
      exact .inl ⟨vs, by rw [hk]; exact sl, fin rv⟩
    · rename_i kvs q
      cases e
      obtain ⟨ks, ed, rk⟩ := S.dic q ea
      refine .inr (.inr ⟨ks, ed, ?_⟩)
      cases kvs with
      | nil => unfold RepK at rk; subst rk; rfl
      | cons y ys => obtain ⟨k, z⟩ := y; unfold RepK at rk; obtain ⟨w, rest, rfl, _⟩ := rk; rfl
    · cases e
  · cases e
end
end Mn
set_option Elab.async false
set_option linter.all false
set_option maxRecDepth 100000
set_option maxHeartbeats 4000000
namespace Mn
open PySem PySem.Spec L2 PyProof.Rows
structure Nm where
  gn : List Str
  an : List Str
structure Fx where
  N : List Str
  names : List (Str × NameKind)
  st : List Str
def Bi.nm : Bi → Str
  | .len => "len" | .abs => "abs" | .max => "max" | .min => "min" | .int => "int" | .str => "str" | .bool => "bool" | .list => "list" | .tuple => "tuple" | .sorted => "sorted" | .sum => "sum" | .any => "any" | .all => "all"
  | .ord => "ord" | .isinst => "isinstance" | .repr => "repr" | .dict => "dict"
theorem bi_boot (f : Bi) : bootBuiltins f.nm = some f.py := by cases f <;> decide +kernel
section
variable (G : Gm) (T : Tb) (nm : Nm) (call : Nat → List PV → PH → Res PV)
def RelG (v : PV) (u : Value) : Prop := ∃ x, RelV x u ∧ ∀ as H, RepV G as H v x
def spF (f np : Nat) : Sp := fun vs H Q E => vs.length = np ∧ ∃ as h xs, SR G as H h ∧ RepVs G as H xs vs ∧ OkV G E as H Q (call f xs h)
def DflK (K : PySem.W.Frag) (fd : FuncData) (ps : List Str) (f : Nat) : Prop := ∀ ds, (f, ds) ∈ T.dfl → ∃ (vs : List V) (us : List Value), (∀ as H, RepVs G as H ds vs) ∧ Vals vs us ∧ Binds K fd ps us
structure XOk (fx : Fx) (X : Cx) (E : XK) : Prop where
  K : X.K = G.K
  calm : X.calm = true
  hu : X.A.units + 70 < cLine
  N : X.N = fx.N
  nd : X.N.Nodup
  names : X.env.scope.names = fx.names
  gl : ∀ (g : Nat) (x : Str) (v : PV), nm.gn[g]? = some x → T.glob[g]? = some v → ∃ u, X.mg x = some u ∧ RelG G v u
  bl : ∀ f : Bi, X.mg f.nm = none
  st : ∀ x ∈ fx.st, Loc X.env.scope x ∧ (X.fn x = true ∨ X.env.scope.names.lookup x = some .local)
  rng : X.mg "range" = none
  enm : X.mg "enumerate" = none
  zp : X.mg "zip" = none
  rvs : X.mg "reversed" = none
  sts : X.mg "set" = none
  cls : COk G T
  kind : X.env.scope.kind = .function
  pass : Passes (L2.CX X.prog X.w) X E
  fns : ∀ (g : Nat) (x : Str) (f : Nat), nm.gn[g]? = some x → T.glob[g]? = some (.fn f) → ∃ (k : Nat) (fd : FuncData) (ps : List Str), FnOk X.prog X.w X.K X.mg X.base (L2.CX X.prog X.w) k (G.fa f) fd ps (spF G call f ps.length) ∧ Room k X.A ∧ PySem.W.keepIn X.K (.ref (G.fa f)) = true ∧ Binds X.K fd ps [] ∧ X.mg x = some (.ref (G.fa f)) ∧ (∀ xs h, xs.length ≠ ps.length → call f xs h = .stuck) ∧ DflK G T X.K fd ps f
  gnl : T.glob.length ≤ nm.gn.length
  an : nm.an = G.an
  mfn : ∀ (c : Nat) (ci : Ci) (f : Nat), T.cls[c]? = some ci → (ci.init = some f ∨ (∃ m, ci.meths.lookup m = some f) ∨ (∃ m, ci.props.lookup m = some f) ∨ ci.eq = some f) → ∃ (k : Nat) (fd : FuncData) (ps : List Str), FnOk X.prog X.w X.K X.mg X.base (L2.CX X.prog X.w) k (G.fa f) fd ps (spF G call f ps.length) ∧ Room (k + 1) X.A ∧ Binds X.K fd ps [] ∧ (∀ xs h, xs.length ≠ ps.length → call f xs h = .stuck) ∧ DflK G T X.K fd ps f
  cfn : ∀ (c : Nat) (n : Str) (f : Nat), (c, n, f) ∈ T.cms → ∃ (k : Nat) (fd : FuncData) (ps : List Str), FnOk X.prog X.w X.K X.mg X.base (L2.CX X.prog X.w) k (G.fa f) fd ps (spF G call f ps.length) ∧ Room (k + 1) X.A ∧ Binds X.K fd ps [] ∧ (∀ xs h, xs.length ≠ ps.length → call f xs h = .stuck)
end
def visB (names : List (Str × NameKind)) (x : Str) : Bool := match names.lookup x with
  | some .local => true
  | some .cell => true
  | some .free => true
  | _ => false
def glB (names : List (Str × NameKind)) (x : Str) : Bool := match names.lookup x with
  | some .globalImplicit => true
  | _ => false
def plainName (x : Str) : Bool := !(x == ("__debug__" : Str)) && !(x == ("__classdict__" : Str)) && decide (x ≠ "__name__")
def isStar : Expr → Bool
  | .Starred .. => true
  | _ => false
def isSlice : Expr → Bool
  | .Slice .. => true
  | _ => false
def conOk : PV → Const → Bool
  | .non, .none => true
  | .bl b, .bool c => b == c
  | .int i, .int j => decide (i = j)
  | .str x, .str y => decide (x = y.cps.toList)
  | _, _ => false
def opB : Bop → Operator → Bool
  | .add, .Add | .sub, .Sub | .mul, .Mult | .fdiv, .FloorDiv | .mod, .Mod | .pow, .Pow | .band, .BitAnd | .bor, .BitOr | .bxor, .BitXor | .shl, .LShift | .shr, .RShift => true
  | _, _ => false
theorem opB_ok {a : Bop} {b : Operator} (h : opB a b = true) : b = a.py := by cases a <;> cases b <;> first | rfl | cases h
def cpB : Cop → CmpOp → Bool
  | .eq, .Eq | .ne, .NotEq | .lt, .Lt | .le, .LtE | .gt, .Gt | .ge, .GtE | .is_, .Is | .isn, .IsNot | .in_, .In | .nin, .NotIn => true
  | _, _ => false
theorem cpB_ok {a : Cop} {b : CmpOp} (h : cpB a b = true) : b = a.py := by cases a <;> cases b <;> first | rfl | cases h
def noSet : Expr → Bool
  | .Set .. => false
  | _ => true
theorem noSet_ok {e : Expr} {op : CmpOp} (h : noSet e = true) : behindInMarks op e = false := by cases e <;> first | rfl | cases h
section
variable (nm : Nm)
mutual
def chkE (fx : Fx) : Ex → Expr → Bool
  | .var i, .Name x _ => decide (fx.N[i]? = some x) && visB fx.names x && plainName x
  | .con v, .Constant c _ _ => conOk v c
  | .glob g, .Name x _ => decide (nm.gn[g]? = some x) && glB fx.names x && plainName x
  | .bin op a b, .BinOp x o y _ => opB op o && chkE fx a x && chkE fx b y
  | .neg a, .UnaryOp .USub x _ => chkE fx a x
  | .not a, .UnaryOp .Not x _ => chkE fx a x
  | .and a b, .BoolOp .And (x :: y :: r) p => chkE fx a x && (match r with
      | [] => chkE fx b y
      | _ :: _ => chkE fx b (.BoolOp .And (y :: r) p))
  | .or a b, .BoolOp .Or (x :: y :: r) p => chkE fx a x && (match r with
      | [] => chkE fx b y
      | _ :: _ => chkE fx b (.BoolOp .Or (y :: r) p))
  | .cmp op a b, .Compare x [o] [y] _ => cpB op o && noSet y && chkE fx a x && chkE fx b y
  | .chn o1 o2 a b c, .Compare x [p1, p2] [y, z] _ => cpB o1 p1 && cpB o2 p2 && noSet y && noSet z && chkE fx a x && chkE fx b y && chkE fx c z
  | .ife c a b, .IfExp z x y _ => chkE fx c z && chkE fx a x && chkE fx b y
  | .tup es, .Tuple xs _ _ => chkEs fx es xs
  | .lst es, .List xs _ => chkEs fx es xs
  | .ix o i, .Subscript x y _ => !isSlice y && chkE fx o x && chkE fx i y
  | .sl o lo hi, .Subscript x (.Slice l u none _) _ => chkE fx o x && (match l with
      | none => isNop lo
      | some e => !isNop lo && chkE fx lo e) && (match u with
      | none => isNop hi
      | some e => !isNop hi && chkE fx hi e)
  | .call g es, .Call (.Name x _) xs [] _ => decide (nm.gn[g]? = some x) && glB fx.names x && plainName x && chkEs fx es xs
  | .bi f es, .Call (.Name x _) xs [] _ => decide (x = f.nm) && glB fx.names x && chkEs fx es xs && !es.isEmpty
  | _, _ => false
def chkEs (fx : Fx) : List Ex → List Expr → Bool
  | [], [] => true
  | e :: es, x :: xs => chkE fx e x && chkEs fx es xs
  | _, _ => false
end
end
section
variable (G : Gm) (E : XK)
def tE (ev : PEnv → PH → Res PV) : TE := fun σ H Q => ∃ as ρ h, SR G as H h ∧ RepE G as H ρ σ ∧ OkV G E as H Q (ev ρ h)
def tT (ev : PEnv → PH → Res Bool) : TT := fun σ H Q => ∃ as ρ h, SR G as H h ∧ RepE G as H ρ σ ∧ OkB G E as H Q (ev ρ h)
def tA (ev : PEnv → PH → Res (List PV)) : TA := fun σ H Q => ∃ as ρ h, SR G as H h ∧ RepE G as H ρ σ ∧ OkA G E as H Q (ev ρ h)
def tO (ev : PEnv → PH → Res (Option Int)) : TO := fun σ H Q => ∃ as ρ h, SR G as H h ∧ RepE G as H ρ σ ∧ Ok G E as H (fun _ _ a b => b = a) Q (ev ρ h)
end
theorem _root_.L2.PE.imp {X : Cx} {e : Expr} {t t' : TE} (p : PE X e t) (h : ∀ σ H Q, t' σ H Q → t σ H Q) : PE X e t' := ⟨fun pins s σ H Q I q => p.run pins s σ H Q I (h σ H Q q)⟩
theorem _root_.L2.PT.imp {X : Cx} {e : Expr} {t t' : TT} (p : PT X e t) (h : ∀ σ H Q, t' σ H Q → t σ H Q) : PT X e t' := ⟨fun pins s σ H Q I q => p.run pins s σ H Q I (h σ H Q q)⟩
theorem _root_.L2.PA.imp {X : Cx} {e : List Expr} {t t' : TA} (p : PA X e t) (h : ∀ σ H Q, t' σ H Q → t σ H Q) : PA X e t' := ⟨fun pos pins s σ H Q I q => p.run pos pins s σ H Q I (h σ H Q q)⟩
section
variable {G : Gm} {T : Tb} {nm : Nm} {call : Nat → List PV → PH → Res PV} {fx : Fx} {X : Cx} {E : XK}
theorem plain_ok {x : Str} (h : plainName x = true) : (x == ("__debug__" : Str)) = false ∧ (x == ("__classdict__" : Str)) = false ∧ x ≠ "__name__" := by
  unfold plainName at h
  simp only [Bool.and_eq_true, Bool.not_eq_true', decide_eq_true_eq] at h
  exact ⟨h.1.1, h.1.2, h.2⟩
theorem vis_ok (O : XOk G T nm call fx X E) {x : Str} (h : visB fx.names x = true) : Vis X.env.scope x := by
  unfold visB at h
  unfold Vis
  rw [O.names]
  split at h
  · rename_i q; exact .inl q
  · rename_i q; exact .inr (.inl q)
  · rename_i q; exact .inr (.inr q)
  · cases h
theorem gl_ok (O : XOk G T nm call fx X E) {x : Str} (h : glB fx.names x = true) : Gl X x := by
  unfold glB at h
  unfold Gl Env.kindOf
  rw [O.names]
  split at h
  · rename_i q; exact q
  · cases h
theorem okE_var (O : XOk G T nm call fx X E) {i : Nat} {x : Str} {p : Pos} (h : chkE nm fx (.var i) (.Name x p) = true) : PE X (.Name x p) (tE G E (evE T call (.var i))) := by
  simp only [chkE, Bool.and_eq_true, decide_eq_true_eq] at h
  obtain ⟨⟨h1, h2⟩, h3⟩ := h
  obtain ⟨p1, p2, p3⟩ := plain_ok h3
  refine (pe_var (i := i) (by rw [O.N]; exact h1) (vis_ok O h2) p1 p2).imp fun σ H Q ⟨as, ρ, h, S, R, o⟩ => ?_
  simp only [evE] at o
  split at o
  · rename_i v q
    obtain ⟨v', e, r⟩ := R.2 i v q
    exact ⟨v', e, okv S o r⟩
  · exact False.elim o
theorem okE_con {v : PV} {c : Const} {j : Nat} {p : Pos} (h : conOk v c = true) : PE X (.Constant c j p) (tE G E (evE T call (.con v))) := by
  cases v with
  | non => cases c <;> first | exact pe_non.imp fun σ H Q ⟨as, ρ, h, S, R, o⟩ => okv S o .non | cases h
  | bl b =>
    cases c with
    | bool b' =>
      have e : b = b' := by simpa [conOk] using h
      subst e
      exact pe_bl.imp fun σ H Q ⟨as, ρ, h, S, R, o⟩ => okv S o (.bl _)
    | _ => cases h
  | int b =>
    cases c with
    | int b' =>
      have e : b = b' := by simpa [conOk] using h
      subst e
      exact pe_int.imp fun σ H Q ⟨as, ρ, h, S, R, o⟩ => okv S o (.int _)
    | _ => cases h
  | str b =>
    cases c with
    | str b' =>
      have e : b = b'.cps.toList := by simpa [conOk] using h
      subst e
      exact pe_str.imp fun σ H Q ⟨as, ρ, h, S, R, o⟩ => okv S o (.strO _)
    | _ => cases h
  | _ => cases c <;> cases h
def btyB (names : List (Str × NameKind)) (f : Bi) (x : Str) : Bool := decide (x = f.nm) && glB names x && f.tyn.isSome
theorem bi_dbg' (f : Bi) : (f.nm == ("__debug__" : Str)) = false := by cases f <;> decide +kernel
theorem bi_name' (f : Bi) : f.nm ≠ "__name__" := by cases f <;> decide +kernel
theorem bi_tyn {f : Bi} {n : String} (h : f.tyn = some n) : bootBuiltins f.nm = some (.type n) := by
  rw [bi_boot]
  cases f <;> cases h <;> rfl
theorem okE_bty (O : XOk G T nm call fx X E) {f : Bi} {x : Str} {p : Pos} (h : btyB fx.names f x = true) : PE X (.Name x p) (tE G E (evE T call (.bty f))) := by
  unfold btyB at h
  simp only [Bool.and_eq_true, decide_eq_true_eq] at h
  obtain ⟨⟨rfl, h2⟩, h3⟩ := h
  refine ⟨fun pins s σ H Q I ⟨as, ρ, h, S, R, o⟩ => ?_⟩
  simp only [evE] at o
  split at o
  · rename_i n q
    refine ld_blt I (gl_ok O h2) (O.bl f) (bi_tyn q) ?_ (bi_name' f) (bi_dbg' f)
    exact ⟨.ty n, H, I, rfl, okv S o (by unfold RepV; rfl)⟩
  · exact False.elim o
theorem okE_glob (O : XOk G T nm call fx X E) {g : Nat} {x : Str} {p : Pos} (h : chkE nm fx (.glob g) (.Name x p) = true) : PE X (.Name x p) (tE G E (evE T call (.glob g))) := by
  simp only [chkE, Bool.and_eq_true, decide_eq_true_eq] at h
  obtain ⟨⟨h1, h2⟩, h3⟩ := h
  obtain ⟨p1, p2, p3⟩ := plain_ok h3
  cases q : T.glob[g]? with
  | none =>
    exact ⟨fun pins s σ H Q I ⟨as, ρ, h, S, R, o⟩ => by simp only [evE, q] at o; exact False.elim o⟩
  | some v =>
    obtain ⟨u, e, y, ry, rep⟩ := O.gl g x v h1 q
    refine (pe_glob (gl_ok O h2) e ry p1).imp fun σ H Q ⟨as, ρ, h, S, R, o⟩ => ?_
    simp only [evE, q] at o
    exact okv S o (rep _ _)
theorem two_parts {a b : PEnv → PH → Res PV} {pr : PV → PV → PH → Res PV} {σ : L2.St} {H : Hp} {Q : VK} {r : R2} (hr : ∀ x y H Q, rP2 G E pr x y H Q → r x y H Q)
    (q : tE G E (fun ρ h => (a ρ h).bind fun v h1 => (b ρ h1).bind fun w h2 => pr v w h2) σ H Q) : tOp r (tE G E a) (tE G E b) σ H Q := by
  obtain ⟨as, ρ, h, S, R, o⟩ := q
  refine ⟨as, ρ, h, S, R, Ok.bind o fun v h1 as1 H1 v' f1 r1 o1 => ?_⟩
  refine ⟨as1, ρ, h1, f1.sr, R.fut f1, Ok.bind o1 fun w h2 as2 H2 w' f2 r2 o2 => ?_⟩
  exact hr _ _ _ _ ⟨as2, h2, v, w, f2.sr, r1.fut f2, r2, o2⟩
theorem okE_bin (O : XOk G T nm call fx X E) {op : Bop} {a b : Ex} {x y : Expr} {p : Pos} (ha : PE X x (tE G E (evE T call a))) (hb : PE X y (tE G E (evE T call b))) : PE X (.BinOp x op.py y p) (tE G E (evE T call (.bin op a b))) := by
  refine (pe_op (op_bin (E := E) O.K op) ha hb).imp fun σ H Q q => ?_
  refine two_parts (fun _ _ _ _ h => h) ?_
  simpa only [tE, evE] using q
theorem okE_cmp (O : XOk G T nm call fx X E) {op : Cop} {a b : Ex} {x y : Expr} {p : Pos} (hm : noSet y = true) (ha : PE X x (tE G E (evE T call a))) (hb : PE X y (tE G E (evE T call b))) : PE X (.Compare x [op.py] [y] p) (tE G E (evE T call (.cmp op a b))) := by
  refine (pe_cmpR (op_cmp (E := E) O.K O.hu op) ha hb (noSet_ok hm)).imp fun σ H Q q => ?_
  refine two_parts (fun _ _ _ _ h => h) ?_
  simpa only [tE, evE] using q
theorem okE_ix (O : XOk G T nm call fx X E) {a b : Ex} {x y : Expr} {p : Pos} (hy : isSlice y = false) (ha : PE X x (tE G E (evE T call a))) (hb : PE X y (tE G E (evE T call b))) : PE X (.Subscript x y p) (tE G E (evE T call (.ix a b))) := by
  have hs : PlainIx y := fun o i => by cases y <;> first | rfl | cases hy
  refine (pe_ix (op_ix (E := E) O.K O.hu) ha hb hs).imp fun σ H Q q => ?_
  refine two_parts (fun _ _ _ _ h => h) ?_
  simpa only [tE, evE] using q
theorem okE_neg {a : Ex} {x : Expr} {p : Pos} (ha : PE X x (tE G E (evE T call a))) : PE X (.UnaryOp .USub x p) (tE G E (evE T call (.neg a))) := by
  refine (pe_un un_neg ha).imp fun σ H Q ⟨as, ρ, h, S, R, o⟩ => ?_
  simp only [evE] at o
  refine ⟨as, ρ, h, S, R, Ok.bind o fun v h1 as1 H1 v' f1 r1 o1 => ?_⟩
  cases v with
  | int i => rw [r1.intE]; exact ⟨i, rfl, okv f1.sr o1 (.int _)⟩
  | _ => exact False.elim o1
theorem okT_of (O : XOk G T nm call fx X E) {a : Ex} {x : Expr} (ha : PE X x (tE G E (evE T call a))) (he : ∀ whole, isTrue x X.env whole = (do let v ← whole; standAt x.pos; holding [v] (truthy v))) : PT X x (tT G E (evT T call a)) := by
  refine (pt_truth ha he).imp fun σ H Q ⟨as, ρ, h, S, R, o⟩ => ?_
  simp only [evT] at o
  refine ⟨as, ρ, h, S, R, Ok.bind o fun v h1 as1 H1 v' f1 r1 o1 => ?_⟩
  split at o1
  · rename_i b q
    exact ⟨b, tru_p O.K f1.sr q r1, o1 as1 H1 b (Fut.refl f1.sr) rfl⟩
  · exact False.elim o1
end
end Mn
set_option Elab.async false
set_option linter.all false
set_option maxRecDepth 100000
set_option maxHeartbeats 4000000
namespace Mn
open PySem PySem.Spec L2 PyProof.Rows
theorem Res.bind_assoc {α β γ : Type} (r : Res α) (k : α → PH → Res β) (l : β → PH → Res γ) : (r.bind k).bind l = r.bind fun a h => (k a h).bind l := by
  induction r with
  | ok a h => rfl
  | er x h => rfl
  | stuck => rfl
  | all n f ih => simp only [Res.bind_all, ih]
theorem pCmp_form (op : Cop) (v w : PV) (h : PH) : pCmp op v w h = .stuck ∨ ∃ b, pCmp op v w h = .ok (.bl b) h := by
  have obf : ∀ b : Option Bool, ob b h = .stuck ∨ ∃ c, ob b h = .ok (.bl c) h := fun b => by
    cases b with
    | none => exact .inl rfl
    | some c => exact .inr ⟨c, rfl⟩
  unfold pCmp
  cases op <;> dsimp only <;> first
    | exact obf _
    | (split <;> first | exact obf _ | exact .inl rfl | exact .inr ⟨_, rfl⟩)
section
variable {G : Gm} {T : Tb} {nm : Nm} {call : Nat → List PV → PH → Res PV} {fx : Fx} {X : Cx} {E : XK}
theorem evT_not (a : Ex) (ρ : PEnv) (h : PH) : evT T call (.not a) ρ h = (evT T call a ρ h).bind fun b h1 => .ok (!b) h1 := by
  simp only [evT, evE, Res.bind_assoc]
  congr 1
  funext v h1
  cases e : pTru h1 v with
  | none => rfl
  | some b => rfl
theorem evT_and (a b : Ex) (ρ : PEnv) (h : PH) : evT T call (.and a b) ρ h = (evT T call a ρ h).bind fun t h1 => if t then evT T call b ρ h1 else .ok false h1 := by
  simp only [evT, evE, Res.bind_assoc]
  congr 1
  funext v h1
  cases e : pTru h1 v with
  | none => rfl
  | some t =>
    cases t with
    | true => rfl
    | false => simp only [Res.bind_ok, e]; rfl
theorem evT_or (a b : Ex) (ρ : PEnv) (h : PH) : evT T call (.or a b) ρ h = (evT T call a ρ h).bind fun t h1 => if t then .ok true h1 else evT T call b ρ h1 := by
  simp only [evT, evE, Res.bind_assoc]
  congr 1
  funext v h1
  cases e : pTru h1 v with
  | none => rfl
  | some t =>
    cases t with
    | false => rfl
    | true => simp only [Res.bind_ok, e]; rfl
theorem okT_not {a : Ex} {x : Expr} {p : Pos} (ha : PT X x (tT G E (evT T call a))) : PT X (.UnaryOp .Not x p) (tT G E (evT T call (.not a))) := by
  refine (pt_not ha).imp fun σ H Q ⟨as, ρ, h, S, R, o⟩ => ?_
  rw [evT_not] at o
  refine ⟨as, ρ, h, S, R, Ok.bind o fun b h1 as1 H1 b' f1 e o1 => ?_⟩
  subst e
  exact o1 as1 H1 _ (Fut.refl f1.sr) rfl
theorem okT_and {a b : Ex} {x y : Expr} {r : List Expr} {p : Pos} (ha : PT X x (tT G E (evT T call a))) (hb : PW X (.BoolOp .And (y :: r) p) (tT G E (evT T call b))) : PW X (.BoolOp .And (x :: y :: r) p) (tT G E (evT T call (.and a b))) := by
  refine ⟨fun whole pins s σ H Q I ⟨as, ρ, h, S, R, o⟩ => (pw_and ha hb).run whole pins s σ H Q I ?_⟩
  rw [evT_and] at o
  refine ⟨as, ρ, h, S, R, Ok.bind o fun b h1 as1 H1 b' f1 e o1 => ?_⟩
  subst e
  cases b with
  | true => exact ⟨as1, ρ, h1, f1.sr, R.fut f1, o1⟩
  | false => exact o1 as1 H1 _ (Fut.refl f1.sr) rfl
theorem okT_or {a b : Ex} {x y : Expr} {r : List Expr} {p : Pos} (ha : PT X x (tT G E (evT T call a))) (hb : PW X (.BoolOp .Or (y :: r) p) (tT G E (evT T call b))) : PW X (.BoolOp .Or (x :: y :: r) p) (tT G E (evT T call (.or a b))) := by
  refine ⟨fun whole pins s σ H Q I ⟨as, ρ, h, S, R, o⟩ => (pw_or ha hb).run whole pins s σ H Q I ?_⟩
  rw [evT_or] at o
  refine ⟨as, ρ, h, S, R, Ok.bind o fun b h1 as1 H1 b' f1 e o1 => ?_⟩
  subst e
  cases b with
  | false => exact ⟨as1, ρ, h1, f1.sr, R.fut f1, o1⟩
  | true => exact o1 as1 H1 _ (Fut.refl f1.sr) rfl
theorem okE_not (O : XOk G T nm call fx X E) {a : Ex} {x : Expr} {p : Pos} (ha : PE X x (tE G E (evE T call a))) : PE X (.UnaryOp .Not x p) (tE G E (evE T call (.not a))) := by
  refine (pe_notT ha).imp fun σ H Q ⟨as, ρ, h, S, R, o⟩ => ?_
  simp only [evE] at o
  refine ⟨as, ρ, h, S, R, Ok.bind o fun v h1 as1 H1 v' f1 r1 o1 => ?_⟩
  split at o1
  · rename_i b q
    exact ⟨b, tru_p O.K f1.sr q r1, okv f1.sr o1 (.bl _)⟩
  · exact False.elim o1
theorem okE_and (O : XOk G T nm call fx X E) {a b : Ex} {x y : Expr} {r : List Expr} {p : Pos} (ha : PE X x (tE G E (evE T call a))) (hb : PE X (.BoolOp .And (y :: r) p) (tE G E (evE T call b))) : PE X (.BoolOp .And (x :: y :: r) p) (tE G E (evE T call (.and a b))) := by
  refine (pe_andT ha hb).imp fun σ H Q ⟨as, ρ, h, S, R, o⟩ => ?_
  simp only [evE] at o
  refine ⟨as, ρ, h, S, R, Ok.bind o fun v h1 as1 H1 v' f1 r1 o1 => ?_⟩
  split at o1
  · rename_i q
    exact ⟨true, tru_p O.K f1.sr q r1, ⟨as1, ρ, h1, f1.sr, R.fut f1, o1⟩⟩
  · rename_i q
    exact ⟨false, tru_p O.K f1.sr q r1, okv f1.sr o1 r1⟩
  · exact False.elim o1
theorem okE_or (O : XOk G T nm call fx X E) {a b : Ex} {x y : Expr} {r : List Expr} {p : Pos} (ha : PE X x (tE G E (evE T call a))) (hb : PE X (.BoolOp .Or (y :: r) p) (tE G E (evE T call b))) : PE X (.BoolOp .Or (x :: y :: r) p) (tE G E (evE T call (.or a b))) := by
  refine (pe_orT ha hb).imp fun σ H Q ⟨as, ρ, h, S, R, o⟩ => ?_
  simp only [evE] at o
  refine ⟨as, ρ, h, S, R, Ok.bind o fun v h1 as1 H1 v' f1 r1 o1 => ?_⟩
  split at o1
  · rename_i q
    exact ⟨true, tru_p O.K f1.sr q r1, okv f1.sr o1 r1⟩
  · rename_i q
    exact ⟨false, tru_p O.K f1.sr q r1, ⟨as1, ρ, h1, f1.sr, R.fut f1, o1⟩⟩
  · exact False.elim o1
theorem okE_ife (O : XOk G T nm call fx X E) {c a b : Ex} {z x y : Expr} {p : Pos} (hc : PT X z (tT G E (evT T call c))) (ha : PE X x (tE G E (evE T call a))) (hb : PE X y (tE G E (evE T call b))) : PE X (.IfExp z x y p) (tE G E (evE T call (.ife c a b))) := by
  refine (pe_ifExp hc ha hb).imp fun σ H Q ⟨as, ρ, h, S, R, o⟩ => ?_
  have e : evE T call (.ife c a b) ρ h = (evT T call c ρ h).bind fun t h1 => if t then evE T call a ρ h1 else evE T call b ρ h1 := by
    simp only [evT, evE, Res.bind_assoc]
    congr 1
    funext v h1
    cases e : pTru h1 v with
    | none => rfl
    | some t => cases t <;> rfl
  rw [e] at o
  refine ⟨as, ρ, h, S, R, Ok.bind o fun b h1 as1 H1 b' f1 e o1 => ?_⟩
  subst e
  cases b with
  | true => exact ⟨as1, ρ, h1, f1.sr, R.fut f1, o1⟩
  | false => exact ⟨as1, ρ, h1, f1.sr, R.fut f1, o1⟩
theorem okT_cmp (O : XOk G T nm call fx X E) {op : Cop} {a b : Ex} {x y : Expr} {p : Pos} (hm : noSet y = true) (ha : PE X x (tE G E (evE T call a))) (hb : PE X y (tE G E (evE T call b))) : PT X (.Compare x [op.py] [y] p) (tT G E (evT T call (.cmp op a b))) := by
  refine (pt_cmpR (op_cmp (E := E) O.K O.hu op) ha hb (noSet_ok hm)).imp fun σ H Q ⟨as, ρ, h, S, R, o⟩ => ?_
  simp only [evT, evE, Res.bind_assoc] at o
  refine ⟨as, ρ, h, S, R, Ok.bind o fun v h1 as1 H1 v' f1 r1 o1 => ⟨as1, ρ, h1, f1.sr, R.fut f1, Ok.bind o1 fun w h2 as2 H2 w' f2 r2 o2 => ?_⟩⟩
  refine ⟨as2, h2, v, w, f2.sr, r1.fut f2, r2, ?_⟩
  rcases pCmp_form op v w h2 with e | ⟨b, e⟩
  · rw [e] at o2; exact False.elim o2
  · rw [e] at o2 ⊢
    exact fun as' H' v'' f r => ⟨b, r.blE, o2 as' H' b f rfl⟩
theorem lastM {o1 o2 : CmpOp} {y z : Expr} (h : noSet z = true) : lastMarks [o1, o2] [y, z] = false := by
  show behindInMarks o2 z = false
  exact noSet_ok h
theorem okE_chn (O : XOk G T nm call fx X E) {o1 o2 : Cop} {a b c : Ex} {x y z : Expr} {p : Pos} (hm : noSet z = true) (ha : PE X x (tE G E (evE T call a))) (hb : PE X y (tE G E (evE T call b))) (hc : PE X z (tE G E (evE T call c))) :
    PE X (.Compare x [o1.py, o2.py] [y, z] p) (tE G E (evE T call (.chn o1 o2 a b c))) := by
  refine (pe_chain (op_cmp (E := E) O.K O.hu o1) (op_cmp (E := E) O.K O.hu o2) ha hb hc (lastM hm)).imp fun σ H Q ⟨as, ρ, h, S, R, o⟩ => ?_
  simp only [evE] at o
  refine ⟨as, ρ, h, S, R, Ok.bind o fun v h1 as1 H1 v' f1 r1 q1 => ⟨as1, ρ, h1, f1.sr, R.fut f1, Ok.bind q1 fun w h2 as2 H2 w' f2 r2 q2 => ?_⟩⟩
  refine ⟨as2, h2, v, w, f2.sr, r1.fut f2, r2, ?_⟩
  rcases pCmp_form o1 v w h2 with e | ⟨b, e⟩
  · rw [e] at q2; exact False.elim q2
  · rw [e] at q2 ⊢
    refine fun as' H' v'' f r => ⟨b, r.blE, ?_⟩
    have q3 := Ok.fut f q2
    cases b with
    | false => exact okv f.sr q3 (.bl _)
    | true =>
      exact ⟨as', ρ, h2, f.sr, (R.fut (f1.trans f2)).fut f, Ok.bind q3 fun u h4 as4 H4 u' f4 r4 q4 => ⟨as4, h4, w, u, f4.sr, (r2.fut f).fut f4, r4, q4⟩⟩
theorem okT_chn (O : XOk G T nm call fx X E) {o1 o2 : Cop} {a b c : Ex} {x y z : Expr} {p : Pos} (hm : noSet z = true) (ha : PE X x (tE G E (evE T call a))) (hb : PE X y (tE G E (evE T call b))) (hc : PE X z (tE G E (evE T call c))) :
    PT X (.Compare x [o1.py, o2.py] [y, z] p) (tT G E (evT T call (.chn o1 o2 a b c))) := by
  refine (pt_chain (op_cmp (E := E) O.K O.hu o1) (op_cmp (E := E) O.K O.hu o2) ha hb hc (lastM hm)).imp fun σ H Q ⟨as, ρ, h, S, R, o⟩ => ?_
  simp only [evT, evE, Res.bind_assoc] at o
  refine ⟨as, ρ, h, S, R, Ok.bind o fun v h1 as1 H1 v' f1 r1 q1 => ⟨as1, ρ, h1, f1.sr, R.fut f1, Ok.bind q1 fun w h2 as2 H2 w' f2 r2 q2 => ?_⟩⟩
  refine ⟨as2, h2, v, w, f2.sr, r1.fut f2, r2, ?_⟩
  rcases pCmp_form o1 v w h2 with e | ⟨b, e⟩
  · rw [e] at q2; exact False.elim q2
  · rw [e] at q2 ⊢
    refine fun as' H' v'' f r => ⟨b, r.blE, ?_⟩
    have q3 := Ok.fut f q2
    cases b with
    | false => exact ⟨false, rfl, q3 as' H' false (Fut.refl f.sr) rfl⟩
    | true =>
      simp only [Res.bind_ok, Res.bind_assoc] at q3
      refine ⟨as', ρ, h2, f.sr, (R.fut (f1.trans f2)).fut f, Ok.bind q3 fun u h4 as4 H4 u' f4 r4 q4 => ⟨as4, h4, w, u, f4.sr, (r2.fut f).fut f4, r4, ?_⟩⟩
      rcases pCmp_form o2 w u h4 with e | ⟨b, e⟩
      · rw [e] at q4; exact False.elim q4
      · rw [e] at q4 ⊢
        exact fun as' H' v'' f r => ⟨b, r.blE, q4 as' H' b f rfl⟩
theorem okA_nil : PA X [] (tA G E (evEs T call [])) := by
  refine pa_nil.imp fun σ H Q ⟨as, ρ, h, S, R, o⟩ => ?_
  simp only [evEs] at o
  exact o as H [] (Fut.refl S) .nil
theorem evEs_cons {e : Ex} {es : List Ex} (he : ∀ x, e ≠ .star x) (ρ : PEnv) (h : PH) : evEs T call (e :: es) ρ h = (evE T call e ρ h).bind fun v h1 => (evEs T call es ρ h1).bind fun vs h2 => .ok (v :: vs) h2 := by
  cases e <;> first | rfl | exact absurd rfl (he _)
theorem star_cons {x : Expr} {xs : List Expr} {env : Env} (h : isStar x = false) : starEach (x :: xs) env = (false, eval x env) :: starEach xs env := by
  cases x <;> first | rfl | cases h
theorem okA_cons {e : Ex} {es : List Ex} {x : Expr} {xs : List Expr} (hs : isStar x = false) (he : ∀ y, e ≠ .star y) (h1 : PE X x (tE G E (evE T call e))) (h2 : PA X xs (tA G E (evEs T call es))) : PA X (x :: xs) (tA G E (evEs T call (e :: es))) := by
  refine (pa_cons h1 h2 (star_cons hs)).imp fun σ H Q ⟨as, ρ, h, S, R, o⟩ => ?_
  rw [evEs_cons he] at o
  refine ⟨as, ρ, h, S, R, Ok.bind o fun v h1 as1 H1 v' f1 r1 o1 => ⟨as1, ρ, h1, f1.sr, R.fut f1, Ok.bind o1 fun vs h2 as2 H2 vs' f2 r2 o2 => ?_⟩⟩
  exact o2 as2 H2 _ (Fut.refl f2.sr) (.cons (r1.fut f2) r2)
theorem okE_tup {es : List Ex} {xs : List Expr} {k : Nat} {p : Pos} (h : PA X xs (tA G E (evEs T call es))) : PE X (.Tuple xs k p) (tE G E (evE T call (.tup es))) := by
  refine (pe_tup h).imp fun σ H Q ⟨as, ρ, h, S, R, o⟩ => ?_
  simp only [evE] at o
  refine ⟨as, ρ, h, S, R, Ok.bind o fun vs h1 as1 H1 vs' f1 r1 o1 => ?_⟩
  split at o1
  · rename_i hl
    refine ⟨by rw [← r1.length]; exact hl, fun p hp => ?_⟩
    obtain ⟨f, r⟩ := f1.sr.tup hp r1
    exact okn o1 f r
  · exact False.elim o1
theorem okE_lst {es : List Ex} {xs : List Expr} {p : Pos} (h : PA X xs (tA G E (evEs T call es))) : PE X (.List xs p) (tE G E (evE T call (.lst es))) := by
  refine (pe_lst h).imp fun σ H Q ⟨as, ρ, h, S, R, o⟩ => ?_
  simp only [evE] at o
  refine ⟨as, ρ, h, S, R, Ok.bind o fun vs h1 as1 H1 vs' f1 r1 o1 => ?_⟩
  split at o1
  · rename_i hl
    refine ⟨by rw [← r1.length]; exact hl, fun p hp => ?_⟩
    obtain ⟨f, r⟩ := f1.sr.newL hp r1
    exact okn o1 f r
  · exact False.elim o1
theorem okP_none : L2.PO X none (tO G E fun ρ h => partR .nop (evE T call .nop ρ h) h) := by
  refine ⟨fun pins s σ H Q I ⟨as, ρ, h, S, R, o⟩ => po_none.run pins s σ H Q I ?_⟩
  exact o as H none (Fut.refl S) rfl
theorem partR_e {e : Ex} (h : isNop e = false) (r : Res PV) (hh : PH) : partR e r hh = r.bind fun v h1 => match v with
    | .int i => .ok (some i) h1
    | _ => .stuck := by cases e <;> first | rfl | cases h
theorem okP_some {e : Ex} {x : Expr} (hn : isNop e = false) (he : PE X x (tE G E (evE T call e))) : L2.PO X (some x) (tO G E fun ρ h => partR e (evE T call e ρ h) h) := by
  refine ⟨fun pins s σ H Q I ⟨as, ρ, h, S, R, o⟩ => (po_some he).run pins s σ H Q I ?_⟩
  dsimp only at o
  rw [partR_e hn] at o
  refine ⟨as, ρ, h, S, R, Ok.bind o fun v h1 as1 H1 v' f1 r1 o1 => ?_⟩
  cases v with
  | int i => rw [r1.intE]; exact ⟨i, rfl, o1 as1 H1 _ (Fut.refl f1.sr) rfl⟩
  | _ => exact False.elim o1
theorem okE_sl (O : XOk G T nm call fx X E) {a lo hi : Ex} {x : Expr} {l u : Option Expr} {p p2 : Pos} (ha : PE X x (tE G E (evE T call a))) (hl : L2.PO X l (tO G E fun ρ h => partR lo (evE T call lo ρ h) h)) (hu : L2.PO X u (tO G E fun ρ h => partR hi (evE T call hi ρ h) h)) :
    PE X (.Subscript x (.Slice l u none p2) p) (tE G E (evE T call (.sl a lo hi))) := by
  refine (pe_slice (sl_all (E := E) O.K) ha hl hu).imp fun σ H Q ⟨as, ρ, h, S, R, o⟩ => ?_
  simp only [evE] at o
  refine ⟨as, ρ, h, S, R, Ok.bind o fun v h1 as1 H1 v' f1 r1 o1 => ⟨as1, ρ, h1, f1.sr, R.fut f1, Ok.bind o1 fun w h2 as2 H2 w' f2 r2 o2 => ?_⟩⟩
  subst r2
  refine ⟨as2, ρ, h2, f2.sr, R.fut (f1.trans f2), Ok.bind o2 fun w h3 as3 H3 w' f3 r3 o3 => ?_⟩
  subst r3
  exact ⟨as3, h3, v, f3.sr, r1.fut (f2.trans f3), o3⟩
theorem noStars : ∀ {xs : List Expr} {env : Env} {pos : Pos}, xs.all (fun x => !isStar x) = true → (backTo pos (starEach xs env)).any (·.1) = false
  | [], _, _, _ => rfl
  | x :: xs, env, pos, h => by
    simp only [List.all_cons, Bool.and_eq_true, Bool.not_eq_true'] at h
    rw [star_cons h.1]
    show (false || (backTo pos (starEach xs env)).any (·.1)) = false
    rw [noStars h.2]
    rfl
theorem bi_dbg (f : Bi) : (f.nm == ("__debug__" : Str)) = false := by cases f <;> decide +kernel
theorem bi_name (f : Bi) : f.nm ≠ "__name__" := by cases f <;> decide +kernel
theorem okE_bi (O : XOk G T nm call fx X E) {f : Bi} {es : List Ex} {x : Expr} {xs : List Expr} {p pos : Pos} (hg : glB fx.names f.nm = true) (h : PA X (x :: xs) (tA G E (evEs T call es))) (hx : isStar x = false) (hxs : xs.all (fun x => !isStar x) = true) :
    PE X (.Call (.Name f.nm p) (x :: xs) [] pos) (tE G E (evE T call (.bi f es))) := by
  have key : PE X (.Call (.Name f.nm p) (x :: xs) [] pos) (tCB (rPn G E (pBi T f)) (tA G E (evEs T call es))) := by
    have c := call_bi (E := E) (T := T) O.K O.calm O.cls f
    have b := bi_boot f
    have hm := O.bl f
    have hgl := gl_ok O hg
    cases hf : f.py with
    | builtin id => rw [hf] at c b; exact pe_callB c hgl hm b h (bi_name f) (bi_dbg f) (star_cons hx) (noStars hxs)
    | type id => rw [hf] at c b; exact pe_callTy c hgl hm b h (bi_name f) (bi_dbg f) (star_cons hx) (noStars hxs)
    | _ => cases f <;> cases hf
  refine key.imp fun σ H Q ⟨as, ρ, h, S, R, o⟩ => ?_
  simp only [evE] at o
  exact ⟨as, ρ, h, S, R, Ok.bind o fun vs h1 as1 H1 vs' f1 r1 o1 => ⟨as1, h1, vs, f1.sr, r1, o1⟩⟩
end
end Mn
set_option Elab.async false
set_option linter.all false
set_option maxRecDepth 100000
set_option maxHeartbeats 4000000
namespace Mn
open PySem PySem.Spec L2 PyProof.Rows
def Itst (x : Str) : It :=
  ⟨fun i H => i < x.cps.size, fun i H v H' => ∃ T c, v = .ref T ∧ H T = none ∧ H' = upd H T (.tup [.int (i : Nat), .str ⟨#[c]⟩]) ∧ x.cps[i]? = some c, fun i H => i = x.cps.size⟩
theorem turn_ens {P : Program} {w : World} {K : PySem.W.Frag} {elts : List Expr} {kk : Nat} {tpos : Pos} (x : Str) (t : Tok) (e it : Addr) :
    Turn P w K (.Tuple elts kk tpos) (Itst x) [e, it] e (fun i h => (∃ old, IsEnum h e it ((i : Nat) : Int) old) ∧ h.IsStrIter it (strIterType x) x t i ∧ e ≠ it) where
  mem := by simp
  obj := fun i h st b hb => by
    obtain ⟨⟨old, he⟩, ⟨o, ho, hc, hd⟩, _⟩ := st
    have e' : b = e ∨ b = it := by simpa using hb
    rcases e' with z | z
    · rw [z]; exact ⟨_, he, fun v q => nomatch q⟩
    · rw [z]; exact ⟨o, ho, fun v q => by rw [hd] at q; cases q⟩
  keep := fun i h h' st k => let ⟨⟨old, he⟩, hi, hne⟩ := st; ⟨⟨old, k e (by simp) _ he⟩, let ⟨o, ho, r⟩ := hi; ⟨o, k it (by simp) o ho, r⟩, hne⟩
  item := by
    intro X hP hw hK hc i pins s σ H E I hf st hg
    subst hP hw hK
    obtain ⟨⟨old, he⟩, hit, hne⟩ := st
    have hef : e ∉ [it] := fun h => hne (List.mem_singleton.mp h)
    have hel : e < s.heap.objs.size := Heap.lt_size he
    have hil : it < s.heap.objs.size := by obtain ⟨_, q, _⟩ := hit; exact Heap.lt_size q
    refine wpAny_pyNext_enum_itemD (Draws.text (A := X.A.in1) (I.ok.hd hc) it x t) he hit hg hne hef fun u h' tk hPu ho hit' hT hsz hk => ?_
    obtain ⟨c, tc, ec, rfl⟩ := hPu
    refine ⟨_, rfl, wpAny_letOwnedTupleGo_enum (s := { s with heap := h', toks := tk + 1 }) ho fun h'' he' sb => ?_⟩
    have hT2 : h''.get? s.heap.objs.size = some { cls := .type "tuple", data := .seq #[.int i tk, .str ⟨#[c]⟩ tc] } := (sb.2 _ (Nat.ne_of_gt hel)).trans hT
    have new : ObjOk X.prog X.w (upd H s.heap.objs.size (.tup [.int (i : Nat), .str ⟨#[c]⟩])) h'' s.heap.objs.size (.tup [.int (i : Nat), .str ⟨#[c]⟩]) :=
      ⟨by show 2 ≤ sizeLine; decide, [.int i tk, .str ⟨#[c]⟩ tc], .cons ⟨_, rfl⟩ (.cons ⟨_, rfl⟩ .nil), ⟨_, hT2, rfl, _, rfl⟩⟩
    have I1 : Inv X pins σ (upd H s.heap.objs.size (.tup [.int (i : Nat), .str ⟨#[c]⟩])) { s with heap := h'', toks := tk + 1 } :=
      I.turnedNew (ch := [e, it]) (fun b ob hb q => (sb.2 b (fun z => hb (by simp [z]))).trans (hk b ob (fun z => hb (by simp [z])) (fun z => hb (by simp [z])) q)) hf (Nat.le_refl _) new
    refine ⟨.ref s.heap.objs.size, _, I1, rfl, ⟨_, c, rfl, I.hok.fresh (Nat.le_refl _), rfl, ec⟩, ⟨⟨.str ⟨#[c]⟩ tc, ?_⟩, ?_, hne⟩, fun b hb => ?_⟩
    · have e1 : ((i + 1 : Nat) : Int) = (i : Int) + 1 := by omega
      rw [e1]; exact he'
    · obtain ⟨o, ho2, r⟩ := hit'
      exact ⟨o, (sb.2 it (Ne.symm hne)).trans ho2, r⟩
    · have hb' : b < s.heap.objs.size := by
        have e' : b = e ∨ b = it := by simpa using hb
        rcases e' with z | z
        · rw [z]; exact hel
        · rw [z]; exact hil
      rw [upd_ne (Nat.ne_of_lt hb')]
      exact (hf b hb).1
  done := by
    intro X hP hw hK hc i pins s σ H E I hf st hg
    subst hP hw hK
    obtain ⟨⟨old, he⟩, hit, hne⟩ := st
    obtain ⟨f0, f1, f2, f3, f4, f5⟩ := hf it (by simp)
    have hg' : i = x.cps.size := hg
    subst hg'
    exact wpAny_pyNext_enum_endD (Draws.text (A := X.A.in1) (I.ok.hd hc) it x t) he hit fun h' eb => ⟨rfl, I.turned (t' := s.toks) (fun b o hb q => eb b o hb q) f0 f1 f3 f4 f5⟩
  self := fun A i s Q E st h => let ⟨⟨_, he⟩, _⟩ := st; wpAny_pyIter_enum he h
def iEnums (K : PySem.W.Frag) (ta : TA) : TI := fun σ H R => ta σ H fun vs H1 => (∃ a xs, vs = [.ref a] ∧ SqL K H1 a xs ∧ R (Ite K a) H1) ∨ ∃ x, vs = [.str x] ∧ R (Itst x) H1
theorem pi_enums {X : Cx} {e : Expr} {ta : TA} {p pos tpos : Pos} {elts : List Expr} {kk : Nat} (hg : Gl X "enumerate") (hm : X.mg "enumerate" = none) (ha : PA X [e] ta) (hs : starEach [e] X.env = [(false, eval e X.env)] := by rfl) :
    PI X (.Tuple elts kk tpos) (.Call (.Name "enumerate" p) [e] [] pos) (iEnums X.K ta) := by
  refine ⟨fun pins s σ H R I h => ?_⟩
  refine Call_ (ld_blt I hg hm boot_enumerate (PyProof.Rows.callWith_type1 (thn (ha.run pos pins s σ H _ I h) fun us s1 ⟨vs, H1, I1, r1, q1⟩ => ?_) hs rfl))
  rcases q1 with ⟨a, xs, ex, hq, q⟩ | ⟨x, ex, q⟩
  · subst ex
    cases r1 with
    | cons r rr =>
      cases rr
      cases r
      obtain ⟨its, rv, p', hz⟩ := I1.list hq
      refine call_enumerate_list p'.isList fun h' he hit hsz hk => wpAny_pyIter_enum he ?_
      have I2 : Inv X pins σ H1 { s1 with heap := h' } := I1.kept (t' := s1.toks) hk
      refine ⟨s1.heap.objs.size + 1, [s1.heap.objs.size + 1, s1.heap.objs.size], _, _, H1, rfl, I2, turn_enum a (s1.heap.objs.size + 1) s1.heap.objs.size, ⟨⟨.none, he⟩, hit, Nat.succ_ne_self _⟩, fun b hb => ?_, q⟩
      have e' : b = s1.heap.objs.size + 1 ∨ b = s1.heap.objs.size := by simpa using hb
      have hle : s1.heap.objs.size ≤ b := by
        rcases e' with z | z
        · rw [z]; exact Nat.le_add_right _ _
        · rw [z]; exact Nat.le_refl _
      exact I1.fpOk hle (I1.hok.fresh hle)
  · subst ex
    cases r1 with
    | cons r rr =>
      cases rr
      obtain ⟨t, rfl⟩ := r
      refine call_enumerate_str fun h' he hit hsz hk => wpAny_pyIter_enum he ?_
      have I2 : Inv X pins σ H1 { s1 with heap := h' } := I1.kept (t' := s1.toks) hk
      refine ⟨s1.heap.objs.size + 1, [s1.heap.objs.size + 1, s1.heap.objs.size], _, _, H1, rfl, I2, turn_ens x t (s1.heap.objs.size + 1) s1.heap.objs.size, ⟨⟨.none, he⟩, hit, Nat.succ_ne_self _⟩, fun b hb => ?_, q⟩
      have e' : b = s1.heap.objs.size + 1 ∨ b = s1.heap.objs.size := by simpa using hb
      have hle : s1.heap.objs.size ≤ b := by
        rcases e' with z | z
        · rw [z]; exact Nat.le_add_right _ _
        · rw [z]; exact Nat.le_refl _
      exact I1.fpOk hle (I1.hok.fresh hle)
end Mn
set_option Elab.async false
set_option linter.all false
set_option maxRecDepth 100000
set_option maxHeartbeats 4000000
namespace Mn
open PySem PySem.Spec L2 PyProof.Rows
def enT1 (h : Heap) (t : Addr) : Heap := h.push { cls := .type "tuple_iterator", data := .fields #[.ref t, .int 0 0] }
def enT2 (h : Heap) (t : Addr) : Heap := (enT1 h t).push { cls := .type "enumerate", data := .fields #[.none, .bool false, .ref h.objs.size, rawInt 0, .none, .none] }
open AutoSeq1 (wpAny_loadPart') in
theorem newT_meets (t : Addr) (its : Array Value) (n : Nat) (od : Option Addr) (os : Array (Option Value)) :
    Meets (Builtin.«enumerate.__new__» ⟨[.type "enumerate", .ref t], []⟩) (fun _ R z => z.heap.get? t = some { cls := .type "tuple", dict := od, data := .seq its n, slots := os } ∧
      R (.ok (.ret (.ref (enT1 z.heap t).objs.size))) { z with heap := enT2 z.heap t }) :=
  .of_wp fun P0 w0 A0 R0 z hz => by
    obtain ⟨hp, g, d, tk, oo⟩ := z
    obtain ⟨ht, hz⟩ := hz
    have hsub := sub_enumerate
    have hT : Heap.IsTuple (Shared.heap ⟨hp, g, d, tk, oo⟩) t its := ⟨_, ht, rfl, n, rfl⟩
    wp_walk using wpAny_loadPart' ht
    refine wpAny_stack_any fun _ => wpAny_pure ?_
    split
    · rename_i c _ _ _ _ _
      cases (c == Value.type "enumerate") <;> (wp_walk using wpAny_loadPart' ht, wpAny_pyIter_tuple hT; exact ⟨_, rfl, hz⟩)
    · wp_walk using wpAny_loadPart' ht, wpAny_pyIter_tuple hT
      exact ⟨_, rfl, hz⟩
theorem enumT_call {prog : Program} {w : World} {A : Around} {E : Value → Shared → Prop} {s : Shared} {t : Addr} {its : Array Value} {Q : Value → Shared → Prop} (hT : s.heap.IsTuple t its)
    (h : ∀ h1, IsEnum h1 (s.heap.objs.size + 1) s.heap.objs.size 0 .none → h1.IsTupleIter s.heap.objs.size t 0 → (∀ b o, s.heap.get? b = some o → h1.get? b = some o) → Q (.ref (s.heap.objs.size + 1)) { s with heap := h1 }) :
    wpAny (model prog w) A (call (.type "enumerate") [.ref t]) Q E s := by
  obtain ⟨⟨c, od, dt, os⟩, ht, hc, n, hd⟩ := hT
  replace hc : c = .type "tuple" := hc
  replace hd : dt = .seq its n := hd
  subst hc hd
  refine callType_new F.called_enumerate (by decide) (F.typeCall_enumerate_1 _) (F.newCall_enumerate_1 _) (fun o => F.args_object_init_2 o _) F.entry_enumerate_new (newT_meets t its n od os) ⟨ht, ?_⟩
  have z1 : (enT1 s.heap t).objs.size = s.heap.objs.size + 1 := Heap.size_push ..
  rw [z1]
  have he : IsEnum (enT2 s.heap t) (s.heap.objs.size + 1) s.heap.objs.size 0 .none := by
    have q := Heap.get?_push_size (enT1 s.heap t) (o := { cls := .type "enumerate", data := .fields #[.none, .bool false, .ref s.heap.objs.size, rawInt 0, .none, .none] }) rfl
    rw [z1] at q
    exact q
  exact ⟨⟨_, he, rfl⟩, h _ he ⟨_, Heap.get?_push_of_some _ (Heap.get?_push_size _ rfl), rfl, rfl⟩ fun b o x => Heap.get?_push_of_some _ (Heap.get?_push_of_some _ x)⟩
def Itet (K : PySem.W.Frag) (a : Addr) : It :=
  ⟨fun i H => ∃ (xs : List V) (x : V), SqT K H a xs ∧ xs[i]? = some x, fun i H v H' => ∃ N x, v = .ref N ∧ H N = none ∧ H' = upd H N (.tup [.int (i : Nat), x]) ∧ ∀ xs, SqT K H a xs → xs[i]? = some x, fun i H => ∃ xs : List V, SqT K H a xs ∧ xs.length = i⟩
theorem tup_apart {s : Heap} {t it : Addr} {its : Array Value} {i : Nat} (hT : s.IsTuple t its) (hi : s.IsTupleIter it t i) : t ≠ it := by
  rintro rfl
  obtain ⟨o, e, c, _⟩ := hT
  obtain ⟨o2, e2, c2, _⟩ := hi
  rw [e] at e2
  cases e2
  rw [c] at c2
  exact absurd c2 (by decide)
theorem tup_apart2 {s : Heap} {t e it : Addr} {its : Array Value} {i : Int} {old : Value} (hT : s.IsTuple t its) (he : IsEnum s e it i old) : e ≠ t := by
  rintro rfl
  obtain ⟨o, q, c, _⟩ := hT
  rw [show s.get? e = _ from he] at q
  cases q
  exact absurd (show Value.type "enumerate" = Value.type "tuple" from c) (by decide)
theorem turn_ent {P : Program} {w : World} {K : PySem.W.Frag} {elts : List Expr} {kk : Nat} {tpos : Pos} (a e it : Addr) :
    Turn P w K (.Tuple elts kk tpos) (Itet K a) [e, it] e (fun i h => (∃ old, IsEnum h e it ((i : Nat) : Int) old) ∧ h.IsTupleIter it a i ∧ e ≠ it) where
  mem := by simp
  obj := fun i h st b hb => by
    obtain ⟨⟨old, q1⟩, ⟨o, ho, hc, hd⟩, _⟩ := st
    rcases (show b = e ∨ b = it by simpa using hb) with z | z
    · rw [z]; exact ⟨_, q1, fun v q => nomatch q⟩
    · rw [z]; exact ⟨o, ho, fun v q => by rw [hd] at q; cases q⟩
  keep := fun i h h' st k => let ⟨⟨old, q1⟩, q2, q3⟩ := st; ⟨⟨old, k e (by simp) _ q1⟩, q2.at fun o q => k it (by simp) o q, q3⟩
  item := by
    intro X hP hw hK hc i pins s σ H E I hf st hg
    subst hP hw hK
    obtain ⟨⟨old, q1⟩, q2, q3⟩ := st
    obtain ⟨xs, x, hq, hx⟩ := hg
    obtain ⟨its, rv, p, hz⟩ := I.tuple hq
    have hT : s.heap.IsTuple a its.toArray := p
    obtain ⟨u, hu, ru⟩ := rv.get hx
    have hel : e < s.heap.objs.size := Heap.lt_size q1
    have hil : it < s.heap.objs.size := by obtain ⟨_, q, _⟩ := q2; exact Heap.lt_size q
    have hlt : i < its.toArray.size := by simpa using (List.getElem?_eq_some_iff.mp hu).1
    have hnot : e ∉ [it, a] := fun h => by
      rcases (show e = it ∨ e = a by simpa using h) with z | z
      · exact q3 z
      · exact tup_apart2 hT q1 z
    refine wpAny_pyNext_enum_itemD (Draws.tuple (A := X.A.in1) (I.ok.hd hc) it a (tup_apart hT q2) its.toArray) q1 ⟨q2, hT⟩ hlt q3 hnot fun u' h' tk hPu ho st' hN hsz hk => ?_
    have eu : u' = u := by
      have : its.toArray[i]? = some u := by simpa using hu
      rw [this] at hPu
      exact (Option.some.inj hPu).symm
    subst eu
    refine ⟨_, rfl, wpAny_letOwnedTupleGo_enum (s := { s with heap := h', toks := tk + 1 }) ho fun h2 he2 sb => ?_⟩
    have hN2 : h2.get? s.heap.objs.size = some { cls := .type "tuple", data := .seq #[.int i tk, u'] } := (sb.2 _ (Nat.ne_of_gt hel)).trans hN
    have new : ObjOk X.prog X.w (upd H s.heap.objs.size (.tup [.int (i : Nat), x])) h2 s.heap.objs.size (.tup [.int (i : Nat), x]) :=
      ⟨by show 2 ≤ sizeLine; decide, [.int i tk, u'], .cons ⟨_, rfl⟩ (.cons ru .nil), ⟨_, hN2, rfl, _, rfl⟩⟩
    have I1 : Inv X pins σ (upd H s.heap.objs.size (.tup [.int (i : Nat), x])) { s with heap := h2, toks := tk + 1 } :=
      I.turnedNew (ch := [e, it]) (fun b o hb q => (sb.2 b (fun z => hb (by simp [z]))).trans (hk b o (fun z => hb (by simp [z])) (fun z => hb (by simp [z])) q)) hf (Nat.le_refl _) new
    refine ⟨.ref s.heap.objs.size, _, I1, rfl, ⟨_, x, rfl, I.hok.fresh (Nat.le_refl _), rfl, fun ys hy => by rw [I.tuple_inj hy hq]; exact hx⟩, ⟨⟨u', ?_⟩, st'.1.at fun o q => (sb.2 it (Ne.symm q3)).trans q, q3⟩, fun b hb => ?_⟩
    · rw [show ((i + 1 : Nat) : Int) = (i : Int) + 1 by omega]
      exact he2
    · have hlb : b < s.heap.objs.size := by
        rcases (show b = e ∨ b = it by simpa using hb) with z | z
        · rw [z]; exact hel
        · rw [z]; exact hil
      rw [upd_ne (Nat.ne_of_lt hlb)]
      exact (hf b hb).1
  done := by
    intro X hP hw hK hc i pins s σ H E I hf st hg
    subst hP hw hK
    obtain ⟨⟨old, q1⟩, q2, q3⟩ := st
    obtain ⟨xs, hq, hx⟩ := hg
    obtain ⟨its, rv, p, hz⟩ := I.tuple hq
    have hT : s.heap.IsTuple a its.toArray := p
    obtain ⟨f0, f1, f2, f3, f4, f5⟩ := hf it (by simp)
    have hl : i = its.toArray.size := by have := rv.length; simp; omega
    subst hl
    exact wpAny_pyNext_enum_endD (Draws.tuple (A := X.A.in1) (I.ok.hd hc) it a (tup_apart hT q2) its.toArray) q1 ⟨q2, hT⟩ fun h' eb => ⟨rfl, I.turned (t' := s.toks) (fun b o hb q => eb b o hb q) f0 f1 f3 f4 f5⟩
  self := fun A i s Q E st h => let ⟨⟨_, q⟩, _⟩ := st; wpAny_pyIter_enum q h
def iEnum3 (K : PySem.W.Frag) (ta : TA) : TI := fun σ H R => ta σ H fun vs H1 => ((∃ a xs, vs = [.ref a] ∧ SqL K H1 a xs ∧ R (Ite K a) H1) ∨ ∃ x, vs = [.str x] ∧ R (Itst x) H1) ∨ ∃ a xs, vs = [.ref a] ∧ SqT K H1 a xs ∧ R (Itet K a) H1
theorem pi_enum3 {X : Cx} {e : Expr} {ta : TA} {p pos tpos : Pos} {elts : List Expr} {kk : Nat} (hg : Gl X "enumerate") (hm : X.mg "enumerate" = none) (ha : PA X [e] ta) (hs : starEach [e] X.env = [(false, eval e X.env)] := by rfl) :
    PI X (.Tuple elts kk tpos) (.Call (.Name "enumerate" p) [e] [] pos) (iEnum3 X.K ta) := by
  refine ⟨fun pins s σ H R I h => ?_⟩
  refine Call_ (ld_blt I hg hm boot_enumerate (PyProof.Rows.callWith_type1 (thn (ha.run pos pins s σ H _ I h) fun us s1 ⟨vs, H1, I1, r1, q1⟩ => ?_) hs rfl))
  rcases q1 with (⟨a, xs, ex, hq, q⟩ | ⟨x, ex, q⟩) | ⟨a, xs, ex, hq, q⟩
  · subst ex
    match r1 with
    | .cons r .nil =>
      cases r
      obtain ⟨its, rv, p', hz⟩ := I1.list hq
      refine call_enumerate_list p'.isList fun h' he hit hsz hk => wpAny_pyIter_enum he ?_
      have I2 : Inv X pins σ H1 { s1 with heap := h' } := I1.kept (t' := s1.toks) hk
      refine ⟨s1.heap.objs.size + 1, [s1.heap.objs.size + 1, s1.heap.objs.size], _, _, H1, rfl, I2, turn_enum a (s1.heap.objs.size + 1) s1.heap.objs.size, ⟨⟨.none, he⟩, hit, Nat.succ_ne_self _⟩, fun b hb => ?_, q⟩
      have hle : s1.heap.objs.size ≤ b := by
        rcases (show b = s1.heap.objs.size + 1 ∨ b = s1.heap.objs.size by simpa using hb) with z | z
        · rw [z]; exact Nat.le_succ _
        · rw [z]; exact Nat.le_refl _
      exact I1.fpOk hle (I1.hok.fresh hle)
  · subst ex
    match r1 with
    | .cons r .nil =>
      obtain ⟨t, rfl⟩ := r
      refine call_enumerate_str fun h' he hit hsz hk => wpAny_pyIter_enum he ?_
      have I2 : Inv X pins σ H1 { s1 with heap := h' } := I1.kept (t' := s1.toks) hk
      refine ⟨s1.heap.objs.size + 1, [s1.heap.objs.size + 1, s1.heap.objs.size], _, _, H1, rfl, I2, turn_ens x t (s1.heap.objs.size + 1) s1.heap.objs.size, ⟨⟨.none, he⟩, hit, Nat.succ_ne_self _⟩, fun b hb => ?_, q⟩
      have hle : s1.heap.objs.size ≤ b := by
        rcases (show b = s1.heap.objs.size + 1 ∨ b = s1.heap.objs.size by simpa using hb) with z | z
        · rw [z]; exact Nat.le_succ _
        · rw [z]; exact Nat.le_refl _
      exact I1.fpOk hle (I1.hok.fresh hle)
  · subst ex
    match r1 with
    | .cons r .nil =>
      cases r
      obtain ⟨its, rv, p', hz⟩ := I1.tuple hq
      refine enumT_call p' fun h' he hit hk => wpAny_pyIter_enum he ?_
      have I2 : Inv X pins σ H1 { s1 with heap := h' } := I1.kept (t' := s1.toks) hk
      refine ⟨s1.heap.objs.size + 1, [s1.heap.objs.size + 1, s1.heap.objs.size], _, _, H1, rfl, I2, turn_ent a (s1.heap.objs.size + 1) s1.heap.objs.size, ⟨⟨.none, he⟩, hit, Nat.succ_ne_self _⟩, fun b hb => ?_, q⟩
      have hle : s1.heap.objs.size ≤ b := by
        rcases (show b = s1.heap.objs.size + 1 ∨ b = s1.heap.objs.size by simpa using hb) with z | z
        · rw [z]; exact Nat.le_succ _
        · rw [z]; exact Nat.le_refl _
      exact I1.fpOk hle (I1.hok.fresh hle)
end Mn
set_option Elab.async false
set_option linter.all false
set_option maxRecDepth 100000
set_option maxHeartbeats 4000000
namespace Mn
open PySem PySem.Spec L2 PyProof.Rows
section
variable {G : Gm} {T : Tb} {nm : Nm} {call : Nat → List PV → PH → Res PV} {fx : Fx} {X : Cx} {E : XK}
def WkOk (G : Gm) (as0 : List Addr) (H0 : Hp) (w : Wk) (J : It) : Prop := ∀ as H h, as0 <+: as → Kp H0 H → SR G as H h → ∀ i,
  (wkAt h i w = some none → J.stop i H) ∧ ∀ x, wkAt h i w = some (some x) → J.go i H ∧ ∀ v H', J.yld i H v H' → Fut G as H as H' h ∧ RepV G as H' x v
def tI (G : Gm) (E : XK) (ev : PEnv → PH → Res (Wk × Nat)) : TI := fun σ H R => ∃ as ρ h, SR G as H h ∧ RepE G as H ρ σ ∧ Ok G E as H (fun as' H' (p : Wk × Nat) (J : It) => WkOk G as' H' p.1 J) R (ev ρ h)
def evI (T : Tb) (call : Nat → List PV → PH → Res PV) (k : Ik) (its : List Ex) (ρ : PEnv) (h : PH) : Res (Wk × Nat) := (evEs T call its ρ h).bind fun vs h1 => match wkOf k vs h1 with
  | none => .stuck
  | some p => .ok p h1
theorem WkOk.fixT {as : List Addr} {H : Hp} {a : Addr} {xs : List PV} {vs : List V} (s : SqT G.K H a vs) (r : RepVs G as H xs vs) : WkOk G as H (.fix xs) (Itt G.K a) := fun as' H' h hp kp S i => by
  have s' := kp.sqT s
  have r' := r.mono hp kp
  refine ⟨fun e => ⟨vs, s', ?_⟩, fun x e => ?_⟩
  · simp only [wkAt, Option.some.injEq] at e
    rw [← r'.length]
    exact List.getElem?_eq_none_iff.mp e
  · simp only [wkAt, Option.some.injEq] at e
    obtain ⟨v, ev, rv⟩ := r'.get e
    refine ⟨⟨vs, v, s', ev⟩, fun u H2 y => ?_⟩
    obtain ⟨rfl, q⟩ := y
    have := q vs s'
    rw [ev] at this
    cases this
    exact ⟨Fut.refl S, rv⟩
theorem WkOk.lst {as : List Addr} {H : Hp} {a : Addr} {l : Nat} (ea : as[l]? = some a) : WkOk G as H (.lst l) (Itl G.K a) := fun as' H' h hp kp S i => by
  have ea' := pre_get hp ea
  refine ⟨fun e => ?_, fun x e => ?_⟩
  · simp only [wkAt] at e
    obtain ⟨xs, e1, e2⟩ := Option.map_eq_some_iff.mp e
    obtain ⟨vs, s, r⟩ := S.lst e1 ea'
    exact ⟨vs, s, by rw [← r.length]; exact List.getElem?_eq_none_iff.mp e2⟩
  · simp only [wkAt] at e
    obtain ⟨xs, e1, e2⟩ := Option.map_eq_some_iff.mp e
    obtain ⟨vs, s, r⟩ := S.lst e1 ea'
    obtain ⟨v, ev, rv⟩ := r.get e2
    refine ⟨⟨vs, v, s, ev⟩, fun u H2 y => ?_⟩
    obtain ⟨rfl, q⟩ := y
    have := q vs s
    rw [ev] at this
    cases this
    exact ⟨Fut.refl S, rv⟩
theorem WkOk.str {as : List Addr} {H : Hp} {x : List Nat} : WkOk G as H (.fix (x.map fun c => .str [c])) (Its ⟨x.toArray⟩) := fun as' H' h hp kp S i => by
  refine ⟨fun e => ?_, fun y e => ?_⟩
  · simp only [wkAt, Option.some.injEq, List.getElem?_map, Option.map_eq_none_iff] at e
    show x.toArray.size ≤ i
    simpa using e
  · simp only [wkAt, Option.some.injEq, List.getElem?_map] at e
    obtain ⟨c, ec, rfl⟩ := Option.map_eq_some_iff.mp e
    refine ⟨by show i < x.toArray.size; simpa using (List.getElem?_eq_some_iff.mp ec).1, fun u H2 y => ?_⟩
    obtain ⟨rfl, c', ec', rfl⟩ := y
    have : some c = some c' := by rw [← ec, ← ec']; simp
    cases this
    refine ⟨Fut.refl S, ?_⟩
    have : (⟨#[c]⟩ : Str) = ⟨[c].toArray⟩ := by simp
    rw [this]
    exact .str _
theorem WkOk.rng {as : List Addr} {H : Hp} {lo : Int} {n : Nat} : WkOk G as H (.fix ((List.range n).map fun (m : Nat) => .int (lo + m))) (Itr lo n) := fun as' H' h hp kp S i => by
  refine ⟨fun e => ?_, fun y e => ?_⟩
  · simp only [wkAt, Option.some.injEq, List.getElem?_map, Option.map_eq_none_iff] at e
    show n ≤ i
    simpa using e
  · simp only [wkAt, Option.some.injEq, List.getElem?_map] at e
    obtain ⟨c, ec, rfl⟩ := Option.map_eq_some_iff.mp e
    obtain ⟨hl, e2⟩ := List.getElem?_eq_some_iff.mp ec
    simp at hl e2
    subst e2
    refine ⟨hl, fun u H2 y => ?_⟩
    obtain ⟨rfl, rfl⟩ := y
    exact ⟨Fut.refl S, .int _⟩
theorem WkOk.enl {as : List Addr} {H : Hp} {a : Addr} {l : Nat} (ea : as[l]? = some a) : WkOk G as H (.enl l) (Ite G.K a) := fun as' H' h hp kp S i => by
  have ea' := pre_get hp ea
  refine ⟨fun e => ?_, fun x e => ?_⟩
  · simp only [wkAt] at e
    obtain ⟨xs, e1, e2⟩ := Option.map_eq_some_iff.mp e
    obtain ⟨vs, s, r⟩ := S.lst e1 ea'
    rw [Option.map_eq_none_iff] at e2
    exact ⟨vs, s, by rw [← r.length]; exact List.getElem?_eq_none_iff.mp e2⟩
  · simp only [wkAt] at e
    obtain ⟨xs, e1, e2⟩ := Option.map_eq_some_iff.mp e
    obtain ⟨vs, s, r⟩ := S.lst e1 ea'
    obtain ⟨z, ez, rfl⟩ := Option.map_eq_some_iff.mp e2
    obtain ⟨v, ev, rv⟩ := r.get ez
    refine ⟨⟨vs, v, s, ev⟩, fun u H2 y => ?_⟩
    obtain ⟨TT, y, rfl, hn, rfl, q⟩ := y
    have := q vs s
    rw [ev] at this
    cases this
    exact S.tup hn (.cons (.int _) (.cons rv .nil))
theorem WkOk.ens {as : List Addr} {H : Hp} {x : List Nat} : WkOk G as H (.ens x) (Itst ⟨x.toArray⟩) := fun as' H' h hp kp S i => by
  refine ⟨fun e => ?_, fun y e => ?_⟩
  · simp only [wkAt] at e
    split at e
    · simp only [Option.some.injEq, Option.map_eq_none_iff, List.getElem?_eq_none_iff] at e
      show i = x.toArray.size
      simp
      omega
    · cases e
  · simp only [wkAt] at e
    split at e
    · simp only [Option.some.injEq] at e
      obtain ⟨c, ec, rfl⟩ := Option.map_eq_some_iff.mp e
      refine ⟨by show i < x.toArray.size; simpa using (List.getElem?_eq_some_iff.mp ec).1, fun u H2 y => ?_⟩
      obtain ⟨TT, c', rfl, hn, rfl, ec'⟩ := y
      have : some c = some c' := by rw [← ec, ← ec']; simp
      cases this
      exact S.tup hn (.cons (.int _) (.cons (.str [c]) .nil))
    · cases e
theorem WkOk.ent {as : List Addr} {H : Hp} {a : Addr} {xs : List PV} {vs : List V} (s : SqT G.K H a vs) (r : RepVs G as H xs vs) : WkOk G as H (.ent xs) (Itet G.K a) := fun as' H' h hp kp S i => by
  have s' := kp.sqT s
  have r' := r.mono hp kp
  refine ⟨fun e => ?_, fun x e => ?_⟩
  · simp only [wkAt] at e
    split at e
    · simp only [Option.some.injEq, Option.map_eq_none_iff, List.getElem?_eq_none_iff] at e
      exact ⟨vs, s', by rw [← r'.length]; omega⟩
    · cases e
  · simp only [wkAt] at e
    split at e
    · simp only [Option.some.injEq] at e
      obtain ⟨z, ez, rfl⟩ := Option.map_eq_some_iff.mp e
      obtain ⟨v, ev, rv⟩ := r'.get ez
      refine ⟨⟨vs, v, s', ev⟩, fun u H2 y => ?_⟩
      obtain ⟨N, y, rfl, hn, rfl, q⟩ := y
      have := q vs s'
      rw [ev] at this
      cases this
      exact S.tup hn (.cons (.int _) (.cons rv .nil))
    · cases e
theorem WkOk.zll {as : List Addr} {H : Hp} {a b : Addr} {l m : Nat} (ea : as[l]? = some a) (eb : as[m]? = some b) : WkOk G as H (.zll l m) (Itz G.K a b) := fun as' H' h hp kp S i => by
  have ea' := pre_get hp ea
  have eb' := pre_get hp eb
  refine ⟨fun e => ?_, fun x e => ?_⟩
  · simp only [wkAt] at e
    obtain ⟨xs, e1, e2⟩ := Option.bind_eq_some_iff.mp e
    obtain ⟨ys, e3, e4⟩ := Option.map_eq_some_iff.mp e2
    obtain ⟨vs, s, r⟩ := S.lst e1 ea'
    obtain ⟨ws, s2, r2⟩ := S.lst e3 eb'
    refine ⟨vs, ws, s, s2, ?_⟩
    rw [← r.length, ← r2.length]
    cases q1 : xs[i]? with
    | none => exact .inl (List.getElem?_eq_none_iff.mp q1)
    | some x =>
      cases q2 : ys[i]? with
      | none => exact .inr (List.getElem?_eq_none_iff.mp q2)
      | some y => rw [q1, q2] at e4; cases e4
  · simp only [wkAt] at e
    obtain ⟨xs, e1, e2⟩ := Option.bind_eq_some_iff.mp e
    obtain ⟨ys, e3, e4⟩ := Option.map_eq_some_iff.mp e2
    obtain ⟨vs, s, r⟩ := S.lst e1 ea'
    obtain ⟨ws, s2, r2⟩ := S.lst e3 eb'
    cases q1 : xs[i]? with
    | none => rw [q1] at e4; cases e4
    | some x' =>
      cases q2 : ys[i]? with
      | none => rw [q1, q2] at e4; cases e4
      | some y' =>
        rw [q1, q2] at e4
        cases e4
        obtain ⟨v, ev, rv⟩ := r.get q1
        obtain ⟨w, ew, rw'⟩ := r2.get q2
        refine ⟨⟨vs, ws, v, w, s, s2, ev, ew⟩, fun u H2 y => ?_⟩
        obtain ⟨TT, y, z, rfl, hn, rfl, q, q'⟩ := y
        have h1 := q vs s
        rw [ev] at h1
        cases h1
        have h2 := q' ws s2
        rw [ew] at h2
        cases h2
        exact S.tup hn (.cons rv (.cons rw' .nil))
theorem WkOk.rvl {as : List Addr} {H : Hp} {a : Addr} {l n : Nat} (ea : as[l]? = some a) : WkOk G as H (.rvl l n) (Itv G.K a n) := fun as' H' h hp kp S i => by
  have ea' := pre_get hp ea
  refine ⟨fun e => ?_, fun x e => ?_⟩
  · simp only [wkAt] at e
    obtain ⟨xs, e1, e2⟩ := Option.bind_eq_some_iff.mp e
    split at e2
    · rename_i hn
      split at e2
      · rename_i hi
        cases q : xs[n - 1 - i]? with
        | none => rw [List.getElem?_eq_none_iff] at q; omega
        | some y => rw [q] at e2; cases e2
      · rename_i hi
        show n ≤ i
        omega
    · cases e2
  · simp only [wkAt] at e
    obtain ⟨xs, e1, e2⟩ := Option.bind_eq_some_iff.mp e
    split at e2
    · split at e2
      · rename_i hn hi
        obtain ⟨vs, s, r⟩ := S.lst e1 ea'
        obtain ⟨v, ev, rv⟩ := r.get (Option.some.inj e2)
        refine ⟨⟨hi, vs, v, s, ev⟩, fun u H2 y => ?_⟩
        obtain ⟨rfl, q⟩ := y
        have := q vs s
        rw [ev] at this
        cases this
        exact ⟨Fut.refl S, rv⟩
      · cases e2
    · cases e2
theorem evI_one {k : Ik} {e : Ex} (he : ∀ x, e ≠ .star x) (ρ : PEnv) (h : PH) : evI T call k [e] ρ h = (evE T call e ρ h).bind fun v h1 => match wkOf k [v] h1 with
    | none => .stuck
    | some p => .ok p h1 := by
  unfold evI
  rw [evEs_cons he]
  simp only [Res.bind_assoc, evEs, Res.bind_ok]
theorem pi_list_at {pins : List (Addr × Obj)} {σ : L2.St} {H : Hp} {s : Shared} {R : It → Hp → Prop} {tg : Expr} {a : Addr} {xs : List V} {v : Value} (I1 : Inv X pins σ H s) (r : RelV (.ref a) v) (hq : SqL X.K H a xs) (q : R (Itl X.K a) H) :
    wpAny (model X.prog X.w) X.A (pyIter v) (PIE X pins σ tg R) X.xe s := by
  cases r
  obtain ⟨its, rv, p, hz⟩ := I1.list hq
  refine wpAny_pyIter_list p.isList ?_
  refine ⟨s.heap.objs.size, [s.heap.objs.size], _, _, H, rfl, I1.kept (t' := s.toks) fun b o e => Heap.get?_push_of_some _ e, turn_list a _, ⟨_, Heap.get?_push_size _ rfl, rfl, rfl⟩, fun b hb => ?_, q⟩
  have e : b = s.heap.objs.size := by simpa using hb
  subst e
  exact I1.fpOk (Nat.le_refl _) (I1.hok.fresh (Nat.le_refl _))
theorem pi_tup_at {pins : List (Addr × Obj)} {σ : L2.St} {H : Hp} {s : Shared} {R : It → Hp → Prop} {tg : Expr} {a : Addr} {xs : List V} {v : Value} (I1 : Inv X pins σ H s) (r : RelV (.ref a) v) (hq : SqT X.K H a xs) (q : R (Itt X.K a) H) :
    wpAny (model X.prog X.w) X.A (pyIter v) (PIE X pins σ tg R) X.xe s := by
  cases r
  obtain ⟨its, rv, p, hz⟩ := I1.tuple hq
  refine wpAny_pyIter_tuple (show s.heap.IsTuple a its.toArray from p) ?_
  refine ⟨s.heap.objs.size, [s.heap.objs.size], _, _, H, rfl, I1.kept (t' := s.toks) fun b o e => Heap.get?_push_of_some _ e, turn_tuple a _, ⟨_, Heap.get?_push_size _ rfl, rfl, rfl⟩, fun b hb => ?_, q⟩
  have e : b = s.heap.objs.size := by simpa using hb
  subst e
  exact I1.fpOk (Nat.le_refl _) (I1.hok.fresh (Nat.le_refl _))
theorem pi_str_at {pins : List (Addr × Obj)} {σ : L2.St} {H : Hp} {s : Shared} {R : It → Hp → Prop} {tg : Expr} {x : Str} {v : Value} (I1 : Inv X pins σ H s) (r : RelV (.str x) v) (q : R (Its x) H) :
    wpAny (model X.prog X.w) X.A (pyIter v) (PIE X pins σ tg R) X.xe s := by
  obtain ⟨t, rfl⟩ := r
  cases ha : x.cps.all (· < 128)
  · exact wpAny_pyIter_wide ha (pi_one (tk := s.toks) I1 _ (turn_str _ x t "str_iterator" (.inr rfl)) ⟨_, Heap.get?_push_size _ rfl, rfl, rfl⟩ q)
  · exact wpAny_pyIter_ascii ha (pi_one (tk := s.toks) I1 _ (turn_str _ x t "str_ascii_iterator" (.inl rfl)) ⟨_, Heap.get?_push_size _ rfl, rfl, rfl⟩ q)
theorem okI_seq (O : XOk G T nm call fx X E) {tg : Expr} {e : Ex} {x : Expr} (hs : ∀ y, e ≠ .star y) (he : PE X x (tE G E (evE T call e))) : PI X tg x (tI G E (evI T call .seq [e])) := by
  have key : ∀ as1 H1 h1 v v' (R : It → Hp → Prop), SR G as1 H1 h1 → RepV G as1 H1 v v' → Ok G E as1 H1 (fun as' H' (p : Wk × Nat) (J : It) => WkOk G as' H' p.1 J) R (match wkOf .seq [v] h1 with | none => .stuck | some p => .ok p h1) →
      (∃ a vs, v' = .ref a ∧ SqT X.K H1 a vs ∧ R (Itt X.K a) H1) ∨ (∃ a vs, v' = .ref a ∧ SqL X.K H1 a vs ∧ R (Itl X.K a) H1) ∨ ∃ z, v' = .str z ∧ R (Its z) H1 := fun as1 H1 h1 v v' R S r o => by
    rw [O.K]
    cases v with
    | tup xs =>
      obtain ⟨a, vs, rfl, s, rv⟩ := r.tupE
      exact .inl ⟨a, vs, rfl, s, o as1 H1 _ (Fut.refl S) (WkOk.fixT s rv)⟩
    | str z =>
      rw [r.strE]
      exact .inr (.inr ⟨_, rfl, o as1 H1 _ (Fut.refl S) WkOk.str⟩)
    | ref l =>
      obtain ⟨a, ea, rfl⟩ := r.refE
      simp only [wkOf] at o
      cases q : lstAt h1 l with
      | none => rw [q] at o; exact False.elim o
      | some xs =>
        rw [q] at o
        obtain ⟨vs, s, rv⟩ := S.lst q ea
        exact .inr (.inl ⟨a, vs, rfl, s, o as1 H1 _ (Fut.refl S) (WkOk.lst ea)⟩)
    | _ => exact False.elim o
  refine ⟨fun pins s σ H R I ⟨as, ρ, h, S, Rρ, o⟩ => ?_⟩
  rw [evI_one hs] at o
  -- which walk it is shows at the value
  have hv : tE G E (evE T call e) σ H (fun v' H1 => (∃ a vs, v' = .ref a ∧ SqT X.K H1 a vs ∧ R (Itt X.K a) H1) ∨ (∃ a vs, v' = .ref a ∧ SqL X.K H1 a vs ∧ R (Itl X.K a) H1) ∨ ∃ z, v' = .str z ∧ R (Its z) H1) :=
    ⟨as, ρ, h, S, Rρ, Ok.bind o fun v h1 as1 H1 v' f1 r1 o1 => key as1 H1 h1 v v' R f1.sr r1 o1⟩
  refine thn (he.run pins s σ H _ I hv) fun u s1 ⟨y, H1, I1, ry, q⟩ => ?_
  rcases q with ⟨a, vs, rfl, sq, q⟩ | ⟨a, vs, rfl, sq, q⟩ | ⟨z, rfl, q⟩
  · exact pi_tup_at I1 ry sq q
  · exact pi_list_at I1 ry sq q
  · exact pi_str_at I1 ry q
theorem Ok.bindK {α β γ δ ε : Type} {G : Gm} {E : XK} {as : List Addr} {H : Hp} {r : Res α} {k : α → PH → Res γ} {k' : α → PH → Res ε} {rel : List Addr → Hp → ε → β → Prop} {rel2 : List Addr → Hp → γ → δ → Prop} {Q : β → Hp → Prop} {Q2 : δ → Hp → Prop}
    (o : Ok G E as H rel2 Q2 (r.bind k)) (next : ∀ v h1, Ok G E as H rel2 Q2 (k v h1) → Ok G E as H rel Q (k' v h1)) : Ok G E as H rel Q (r.bind k') := by
  induction r with
  | ok v h1 => exact next v h1 o
  | er x h1 => exact o
  | stuck => exact o
  | all n f ih => exact fun i hi => ih i (o i hi)
theorem evEs_one {e : Ex} (he : ∀ x, e ≠ .star x) (ρ : PEnv) (h : PH) : evEs T call [e] ρ h = (evE T call e ρ h).bind fun v h1 => .ok [v] h1 := by
  rw [evEs_cons he]
  simp only [evEs, Res.bind_ok]
theorem evEs_two {e e2 : Ex} (he : ∀ x, e ≠ .star x) (he2 : ∀ x, e2 ≠ .star x) (ρ : PEnv) (h : PH) : evEs T call [e, e2] ρ h = (evE T call e ρ h).bind fun v h1 => (evE T call e2 ρ h1).bind fun w h2 => .ok [v, w] h2 := by
  rw [evEs_cons he]
  simp only [evEs_one he2, Res.bind_assoc, Res.bind_ok]
theorem evI_two {k : Ik} {e e2 : Ex} (he : ∀ x, e ≠ .star x) (he2 : ∀ x, e2 ≠ .star x) (ρ : PEnv) (h : PH) : evI T call k [e, e2] ρ h = (evE T call e ρ h).bind fun v h1 => (evE T call e2 ρ h1).bind fun w h2 => match wkOf k [v, w] h2 with
    | none => .stuck
    | some p => .ok p h2 := by
  unfold evI
  rw [evEs_two he he2]
  simp only [Res.bind_assoc, Res.bind_ok]
theorem tI_one {k : Ik} {e : Ex} (hs : ∀ y, e ≠ .star y) {σ : L2.St} {H : Hp} {R : It → Hp → Prop} {Q : List V → Hp → Prop} (q : tI G E (evI T call k [e]) σ H R)
    (next : ∀ v h1 as1 H1 v' p, SR G as1 H1 h1 → RepV G as1 H1 v v' → wkOf k [v] h1 = some p → (∀ J, WkOk G as1 H1 p.1 J → R J H1) → Q [v'] H1) : tA G E (evEs T call [e]) σ H Q := by
  obtain ⟨as, ρ, h, S, Rρ, o⟩ := q
  rw [evI_one hs] at o
  refine ⟨as, ρ, h, S, Rρ, ?_⟩
  rw [evEs_one hs]
  refine Ok.bindK o fun v h1 o1 as1 H1 vs' f r1 => ?_
  obtain ⟨v', rfl, rv⟩ := r1.one
  cases q : wkOf k [v] h1 with
  | none => rw [q] at o1; exact False.elim o1
  | some p =>
    rw [q] at o1
    exact next v h1 as1 H1 v' p f.sr rv q fun J hJ => o1 as1 H1 J f hJ
theorem tI_two {k : Ik} {e e2 : Ex} (hs : ∀ y, e ≠ .star y) (hs2 : ∀ y, e2 ≠ .star y) {σ : L2.St} {H : Hp} {R : It → Hp → Prop} {Q : List V → Hp → Prop} (q : tI G E (evI T call k [e, e2]) σ H R)
    (next : ∀ v w h1 as1 H1 v' w' p, SR G as1 H1 h1 → RepV G as1 H1 v v' → RepV G as1 H1 w w' → wkOf k [v, w] h1 = some p → (∀ J, WkOk G as1 H1 p.1 J → R J H1) → Q [v', w'] H1) : tA G E (evEs T call [e, e2]) σ H Q := by
  obtain ⟨as, ρ, h, S, Rρ, o⟩ := q
  rw [evI_two hs hs2] at o
  refine ⟨as, ρ, h, S, Rρ, ?_⟩
  rw [evEs_two hs hs2]
  refine Ok.bindK o fun v h1 o1 => Ok.bindK o1 fun w h2 o2 as1 H1 vs' f r1 => ?_
  obtain ⟨v', w', rfl, rv, rw'⟩ := r1.two
  cases q : wkOf k [v, w] h2 with
  | none => rw [q] at o2; exact False.elim o2
  | some p =>
    rw [q] at o2
    exact next v w h2 as1 H1 v' w' p f.sr rv rw' q fun J hJ => o2 as1 H1 J f hJ
theorem PI.imp {tg x : Expr} {t t' : TI} (p : PI X tg x t) (h : ∀ σ H R, t' σ H R → t σ H R) : PI X tg x t' := ⟨fun pins s σ H R I q => p.run pins s σ H R I (h σ H R q)⟩
theorem okI_rng1 (O : XOk G T nm call fx X E) {tg x : Expr} {p pos : Pos} {e : Ex} (hs : ∀ y, e ≠ .star y) (hx : isStar x = false) (hg : glB fx.names "range" = true) (ha : PA X [x] (tA G E (evEs T call [e]))) : PI X tg (.Call (.Name "range" p) [x] [] pos) (tI G E (evI T call .rng [e])) := by
  refine PI.imp (pi_range1 (gl_ok O hg) O.rng ha (star_cons hx)) fun σ H R q => tI_one hs q fun v h1 as1 H1 v' pr S r qw k => ?_
  cases v with
  | int j =>
    simp only [wkOf] at qw
    split at qw
    · rename_i hb
      cases qw
      simp only [Bool.and_eq_true, decide_eq_true_eq] at hb
      rw [r.intE]
      refine ⟨j, rfl, hb.1, hb.2, k _ ?_⟩
      have := WkOk.rng (G := G) (as := as1) (H := H1) (lo := 0) (n := j.toNat)
      simpa using this
    · cases qw
  | _ => simp [wkOf] at qw
theorem okI_rng2 (O : XOk G T nm call fx X E) {tg x y : Expr} {p pos : Pos} {e e2 : Ex} (hs : ∀ y, e ≠ .star y) (hs2 : ∀ y, e2 ≠ .star y) (hx : isStar x = false) (hy : isStar y = false) (hg : glB fx.names "range" = true) (ha : PA X [x, y] (tA G E (evEs T call [e, e2]))) :
    PI X tg (.Call (.Name "range" p) [x, y] [] pos) (tI G E (evI T call .rng [e, e2])) := by
  have s2 : starEach [y] X.env = [(false, eval y X.env)] := star_cons hy
  refine PI.imp (pi_range2 (gl_ok O hg) O.rng ha (by rw [star_cons hx, s2]) s2) fun σ H R q => tI_two hs hs2 q fun v w h1 as1 H1 v' w' pr S r r2 qw k => ?_
  cases v with
  | int i =>
    cases w with
    | int j =>
      simp only [wkOf] at qw
      split at qw
      · rename_i hb
        cases qw
        simp only [Bool.and_eq_true, decide_eq_true_eq] at hb
        rw [r.intE, r2.intE]
        exact ⟨i, j, rfl, ⟨hb.1.1.1, hb.1.1.2, hb.1.2, hb.2⟩, k _ WkOk.rng⟩
      · cases qw
    | _ => simp [wkOf] at qw
  | _ => simp [wkOf] at qw
theorem okI_enum (O : XOk G T nm call fx X E) {x : Expr} {p pos tpos : Pos} {elts : List Expr} {kk : Nat} {e : Ex} (hs : ∀ y, e ≠ .star y) (hx : isStar x = false) (hg : glB fx.names "enumerate" = true) (ha : PA X [x] (tA G E (evEs T call [e]))) : PI X (.Tuple elts kk tpos) (.Call (.Name "enumerate" p) [x] [] pos) (tI G E (evI T call .enum [e])) := by
  refine PI.imp (pi_enum3 (gl_ok O hg) O.enm ha (star_cons hx)) fun σ H R q => tI_one hs q fun v h1 as1 H1 v' pr S r qw k => ?_
  cases v with
  | ref l =>
    simp only [wkOf] at qw
    obtain ⟨xs, e1, rfl⟩ := Option.map_eq_some_iff.mp qw
    obtain ⟨a, ea, rfl⟩ := r.refE
    obtain ⟨vs, sl, rl⟩ := S.lst e1 ea
    rw [O.K]
    exact .inl (.inl ⟨a, vs, rfl, sl, k _ (WkOk.enl ea)⟩)
  | tup xs =>
    simp only [wkOf] at qw
    cases qw
    obtain ⟨a, vs, rfl, st, rs⟩ := r.tupE
    rw [O.K]
    exact .inr ⟨a, vs, rfl, st, k _ (WkOk.ent st rs)⟩
  | str x =>
    simp only [wkOf] at qw
    split at qw
    · cases qw
      rw [r.strE]
      exact .inl (.inr ⟨_, rfl, k _ WkOk.ens⟩)
    · cases qw
  | _ => simp [wkOf] at qw
theorem okI_zip (O : XOk G T nm call fx X E) {x y : Expr} {p pos tpos : Pos} {elts : List Expr} {kk : Nat} {e e2 : Ex} (hs : ∀ y, e ≠ .star y) (hs2 : ∀ y, e2 ≠ .star y) (hx : isStar x = false) (hy : isStar y = false) (hg : glB fx.names "zip" = true) (ha : PA X [x, y] (tA G E (evEs T call [e, e2]))) :
    PI X (.Tuple elts kk tpos) (.Call (.Name "zip" p) [x, y] [] pos) (tI G E (evI T call .zip [e, e2])) := by
  refine PI.imp (pi_zip (gl_ok O hg) O.zp ha (star_cons hx) (noStars (by simp [hy]))) fun σ H R q => tI_two hs hs2 q fun v w h1 as1 H1 v' w' pr S r r2 qw k => ?_
  cases v with
  | ref l =>
    cases w with
    | ref m =>
      simp only [wkOf] at qw
      obtain ⟨xs, e1, q2⟩ := Option.bind_eq_some_iff.mp qw
      obtain ⟨ys, e3, rfl⟩ := Option.map_eq_some_iff.mp q2
      obtain ⟨a, ea, rfl⟩ := r.refE
      obtain ⟨b, eb, rfl⟩ := r2.refE
      obtain ⟨vs, sl, rl⟩ := S.lst e1 ea
      obtain ⟨ws, sl2, rl2⟩ := S.lst e3 eb
      rw [O.K]
      exact ⟨a, b, vs, ws, rfl, sl, sl2, k _ (WkOk.zll ea eb)⟩
    | _ => simp [wkOf] at qw
  | _ => simp [wkOf] at qw
theorem okI_rev (O : XOk G T nm call fx X E) {tg x : Expr} {p pos : Pos} {e : Ex} (hs : ∀ y, e ≠ .star y) (hx : isStar x = false) (hg : glB fx.names "reversed" = true) (ha : PA X [x] (tA G E (evEs T call [e]))) : PI X tg (.Call (.Name "reversed" p) [x] [] pos) (tI G E (evI T call .rev [e])) := by
  refine PI.imp (pi_reversed (gl_ok O hg) O.rvs ha (star_cons hx)) fun σ H R q => tI_one hs q fun v h1 as1 H1 v' pr S r qw k => ?_
  cases v with
  | ref l =>
    simp only [wkOf] at qw
    obtain ⟨xs, e1, rfl⟩ := Option.map_eq_some_iff.mp qw
    obtain ⟨a, ea, rfl⟩ := r.refE
    obtain ⟨vs, sl, rl⟩ := S.lst e1 ea
    rw [O.K]
    exact ⟨a, vs, rfl, sl, k _ (by rw [← rl.length]; exact WkOk.rvl ea)⟩
  | _ => simp [wkOf] at qw
theorem foldl_set_ok {as : List Addr} {H : Hp} : ∀ {is : List Nat} {xs : List PV} {vs : List V} {ρ : PEnv} {σ : L2.St}, RepE G as H ρ σ → RepVs G as H xs vs →
    RepE G as H ((is.zip xs).foldl (fun r q => r.set q.1 (some q.2)) ρ) ((is.zip vs).foldl (fun r q => r.set q.1 (some q.2)) σ)
  | [], _, _, _, _, R, _ => R
  | i :: is, [], _, _, _, R, r => by rw [r.zero]; exact R
  | i :: is, x :: xs, vs, ρ, σ, R, r => by
    unfold RepVs at r
    obtain ⟨v, rest, rfl, r1, r2⟩ := r
    have := foldl_set_ok (is := is) (R.set i r1) r2
    exact this
def chkNm (fx : Fx) (i : Nat) : Expr → Bool
  | .Name x _ => decide (fx.N[i]? = some x) && fx.st.contains x
  | _ => false
def chkNms (fx : Fx) : List Nat → List Expr → Bool
  | [], [] => true
  | i :: is, x :: xs => chkNm fx i x && chkNms fx is xs
  | _, _ => false
def gNames (is : List Nat) : TGs := fun vs σ H Q => vs.length = is.length ∧ Q ((is.zip vs).foldl (fun r q => r.set q.1 (some q.2)) σ) H
theorem okG_name (O : XOk G T nm call fx X E) {i : Nat} {e : Expr} (h : chkNm fx i e = true) : PG X e (gName i) := by
  cases e with
  | Name x p =>
    simp only [chkNm, Bool.and_eq_true, decide_eq_true_eq, List.contains_iff_mem] at h
    obtain ⟨l, f⟩ := O.st x h.2
    exact pg_name O.nd (by rw [O.N]; exact h.1) l f
  | _ => cases h
theorem nm_assign {fx : Fx} {i : Nat} {e : Expr} {es : List Expr} {env : Env} (h : chkNm fx i e = true) : assignEach (e :: es) env = (false, assign e env) :: assignEach es env := by
  cases e <;> first | rfl | cases h
theorem okG_names (O : XOk G T nm call fx X E) : ∀ {is : List Nat} {es : List Expr}, chkNms fx is es = true → PGs X es (gNames is) ∧ (assignEach es X.env).length = is.length ∧ (assignEach es X.env).findIdx? (·.1) = none
  | [], [], _ => ⟨⟨fun pins s σ H vs us Q I r h => pgs_nil.run pins s σ H vs us Q I r ⟨List.eq_nil_of_length_eq_zero h.1, h.2⟩⟩, rfl, rfl⟩
  | i :: is, e :: es, h => by
    simp only [chkNms, Bool.and_eq_true] at h
    obtain ⟨i1, i2, i3⟩ := okG_names O h.2
    have na := nm_assign (es := es) (env := X.env) h.1
    refine ⟨⟨fun pins s σ H vs us Q I r hw => ?_⟩, ?_, ?_⟩
    · refine (pgs_cons (okG_name O h.1) i1 (by rw [na]; rfl)).run pins s σ H vs us Q I r ?_
      obtain ⟨hl, q⟩ := hw
      cases vs with
      | nil => simp at hl
      | cons v vr => exact ⟨v, vr, rfl, by simpa using hl, q⟩
    · rw [na]; simp [i2]
    · rw [na]
      rw [List.findIdx?_cons, i3]
      rfl
  | [], _ :: _, h => by cases h
  | _ :: _, [], h => by cases h
def chkTg (fx : Fx) : Tg → Expr → Bool
  | .nm i, e => chkNm fx i e
  | .tp is, .Tuple es _ _ => chkNms fx is es
  | .tp _, _ => false
def tG (G : Gm) (t : Tg) : TG := fun v σ H Q => ∃ as ρ h x ρ', SR G as H h ∧ RepE G as H ρ σ ∧ RepV G as H x v ∧ bindTg t x ρ = some ρ' ∧ ∀ σ', RepE G as H ρ' σ' → (∃ (is : List Nat) (vs : List V), σ' = (is.zip vs).foldl (fun r q => r.set q.1 (some q.2)) σ ∧ ∀ i ∈ is, i ∈ (match t with | .nm j => [j] | .tp js => js)) → Q σ' H
theorem okG_tg (O : XOk G T nm call fx X E) {t : Tg} {e : Expr} (h : chkTg fx t e = true) : PG X e (tG G t) := by
  cases t with
  | nm i =>
    refine ⟨fun pins s σ H v u Q I r ⟨as, ρ, hh, x, ρ', S, R, rx, eb, k⟩ => (okG_name O h).run pins s σ H v u Q I r ?_⟩
    simp only [bindTg] at eb
    cases eb
    exact k _ (R.set i rx) ⟨[i], [v], rfl, fun j hj => hj⟩
  | tp is =>
    cases e with
    | Tuple es kk pos =>
      obtain ⟨g, l, f⟩ := okG_names O (show chkNms fx is es = true from h)
      refine ⟨fun pins s σ H v u Q I r ⟨as, ρ, hh, x, ρ', S, R, rx, eb, k⟩ => (pg_tup O.calm g l f).run pins s σ H v u Q I r ?_⟩
      simp only [bindTg] at eb
      split at eb
      · rename_i xs
        split at eb
        · rename_i hl
          cases eb
          obtain ⟨a, vs, rfl, sa, rv⟩ := rx.tupE
          refine ⟨a, vs, rfl, by rw [O.K]; exact sa, by rw [← rv.length]; exact hl, by rw [← rv.length]; exact hl, k _ (foldl_set_ok R rv) ⟨is, vs, rfl, fun j hj => hj⟩⟩
        · cases eb
      · cases eb
    | _ => cases h
end
end Mn
set_option Elab.async false
set_option linter.all false
set_option maxRecDepth 100000
set_option maxHeartbeats 4000000
namespace Mn
open PySem PySem.Spec L2 PyProof.Rows
def rlb (fx : List (Str × NameKind)) (q : Str × NameKind) : Str × NameKind := if (q.2 == .free && fx.lookup q.1 == some .cell) then (q.1, .cell) else (q.1, q.2)
def fxB (fx : Fx) (sc : Scope) : Fx where
  N := fx.N
  names := sc.names.map (rlb fx.names)
  st := (sc.names.filter fun q => (match q.2 with | .local => true | .cell => true | _ => false)).map (·.1)
def ownsOf (fx : Fx) (own : List Nat) : List (Str × Nat) := own.map fun i => (fx.N.getD i Str.empty, i)
def scOf (fx : Fx) : Scope := { kind := .function, names := fx.names, isGenerator := false, isCoroutine := false }
section
variable {G : Gm} {T : Tb} {nm : Nm} {call : Nat → List PV → PH → Res PV} {fx : Fx} {X : Cx} {E : XK}
theorem blk_scope (O : XOk G T nm call fx X E) {sc : Scope} {cl : List (Str × Addr)} {C : Addr} : (compEnvC sc cl C X.env).scope.names = (fxB fx sc).names := by
  show (relabel sc X.env).names = _
  unfold relabel fxB Env.kindOf rlb
  rw [O.names, O.kind]
  have e : (ScopeKind.function == ScopeKind.function) = true := rfl
  simp only [e, Bool.and_true]
def uniqB (sc : Scope) : Bool := sc.names.all fun y => decide (sc.names.lookup y.1 = some y.2)
theorem relab_lookup {sc fx : List (Str × NameKind)} {x : Str} {k : NameKind} (h : sc.lookup x = some k) (hk : k = .local ∨ k = .cell) : (sc.map (rlb fx)).lookup x = some k := by
  induction sc with
  | nil => simp at h
  | cons p r ih =>
    obtain ⟨n, kn⟩ := p
    by_cases e : x = n
    · subst e
      simp at h
      subst h
      have e1 : rlb fx (x, kn) = (x, kn) := by
        rcases hk with rfl | rfl <;> rfl
      rw [List.map_cons, e1]
      simp
    · have e2 : (x == n) = false := by simpa using e
      rw [List.lookup_cons, e2] at h
      have ih' := ih h
      obtain ⟨k2, e1⟩ : ∃ k2, rlb fx (n, kn) = (n, k2) := by
        unfold rlb
        split <;> exact ⟨_, rfl⟩
      rw [List.map_cons, e1, List.lookup_cons, e2]
      exact ih'
theorem XOk.blk (O : XOk G T nm call fx X E) {sc : Scope} (hu : uniqB sc = true) (s : Shared) (H : Hp) (C : Addr) (cl : List (Str × Addr)) (fp : List Addr) (hk : sc.kind = .function) : XOk G T nm call (fxB fx sc) (X.blk s H sc (compEnvC sc cl C X.env) fp) E0 where
  K := O.K
  calm := O.calm
  hu := O.hu
  N := O.N
  nd := O.nd
  names := blk_scope O
  gl := O.gl
  bl := O.bl
  st := fun x hx => by
    obtain ⟨q, hq, rfl⟩ := List.mem_map.mp hx
    obtain ⟨h1, h2⟩ := List.mem_filter.mp hq
    have u := of_decide_eq_true (List.all_eq_true.mp hu q h1)
    have kk : q.2 = .local ∨ q.2 = .cell := by
      cases e : q.2 with
      | «local» => exact .inl rfl
      | cell => exact .inr rfl
      | _ => rw [e] at h2; cases h2
    have l2 : (compEnvC sc cl C X.env).scope.names.lookup q.1 = some q.2 := by
      rw [blk_scope O]
      exact relab_lookup u kk
    refine ⟨?_, ?_⟩
    · rcases kk with e | e
      · exact .inl (by rw [← e]; exact l2)
      · exact .inr (by rw [← e]; exact l2)
    · rcases kk with e | e
      · exact .inr (by rw [← e]; exact l2)
      · left
        show (sc.names.lookup q.1 == some .cell) = true
        rw [u, e]
        rfl
  rng := O.rng
  enm := O.enm
  zp := O.zp
  rvs := O.rvs
  sts := O.sts
  cls := O.cls
  kind := hk
  pass := fun pins σ H s e s' I c => by
    obtain ⟨_, _, _, _, _, _, _, _, _, _, _, _, q⟩ := c
    exact q
  fns := O.fns
  gnl := O.gnl
  an := O.an
  mfn := O.mfn
  cfn := O.cfn
theorem noer_bind {α β : Type} (r : Res α) (k : α → PH → Res β) : (r.bind k).noer = r.noer.bind fun a h => (k a h).noer := by
  induction r with
  | ok a h => rfl
  | er x h => rfl
  | stuck => rfl
  | all n f ih => simp only [Res.bind_all, Res.noer, ih]
theorem Ok.noer {α β γ δ : Type} {G : Gm} {E E' : XK} {as : List Addr} {H : Hp} {r : Res α} {k : α → PH → Res γ} {rel : List Addr → Hp → α → β → Prop} {rel2 : List Addr → Hp → γ → δ → Prop} {Q : β → Hp → Prop} {Q2 : δ → Hp → Prop}
    (o : Ok G E as H rel2 Q2 (r.noer.bind k)) (next : ∀ v h1 as1 H1 v', Fut G as H as1 H1 h1 → rel as1 H1 v v' → Ok G E as1 H1 rel2 Q2 (k v h1) → Q v' H1) : Ok G E' as H rel Q r := by
  induction r with
  | ok v h1 => exact fun as1 H1 v1 f1 r1 => next v h1 as1 H1 v1 f1 r1 (Ok.fut f1 o)
  | er x h1 => exact False.elim o
  | stuck => exact o
  | all n f ih => exact fun i hi => ih i (o i hi)
theorem wipe_ok {as : List Addr} {H : Hp} {ρ : PEnv} {σ : L2.St} (R : RepE G as H ρ σ) : ∀ own : List Nat, RepE G as H (own.foldr (fun i r => r.set i none) ρ) (wipe σ own)
  | [] => R
  | i :: own => by
    have ih := wipe_ok R own
    show RepE G as H ((own.foldr (fun i r => r.set i none) ρ).set i none) ((wipe σ own).set i none)
    refine ⟨by simp [ih.1], fun j v e => ?_⟩
    by_cases hj : i = j
    · subst hj
      by_cases hl : i < (own.foldr (fun i r => r.set i none) ρ).length
      · rw [List.getElem?_set_self hl] at e; cases e
      · rw [List.getElem?_eq_none (by simpa using hl)] at e; cases e
    · rw [List.getElem?_set_ne hj] at e ⊢
      exact ih.2 j v e
theorem wipe_set {σ : L2.St} {i : Nat} {v : Option V} : ∀ {own : List Nat}, i ∈ own → wipe (σ.set i v) own = wipe σ own
  | [], h => by simp at h
  | j :: own, h => by
    unfold wipe
    by_cases hj : i ∈ own
    · rw [wipe_set hj]
    · have e : i = j := by simpa [hj] using h
      subst e
      clear h
      have key : ∀ own : List Nat, i ∉ own → wipe (σ.set i v) own = (wipe σ own).set i v := fun own => by
        induction own with
        | nil => intro _; rfl
        | cons k own ih =>
          intro hn
          simp only [List.mem_cons, not_or] at hn
          unfold wipe
          rw [ih hn.2, List.set_comm _ _ hn.1]
      rw [key own hj, List.set_set]
theorem wipe_fold {own : List Nat} : ∀ {is : List Nat} {vs : List V} {σ : L2.St}, (∀ i ∈ is, i ∈ own) → wipe ((is.zip vs).foldl (fun r q => r.set q.1 (some q.2)) σ) own = wipe σ own
  | [], _, _, _ => rfl
  | i :: is, [], _, _ => rfl
  | i :: is, v :: vs, σ, h => by
    show wipe ((is.zip vs).foldl _ (σ.set i (some v))) own = _
    rw [wipe_fold (fun j hj => h j (List.mem_cons_of_mem _ hj)), wipe_set (h i List.mem_cons_self)]
theorem wipe_wipe {σ : L2.St} (own : List Nat) : wipe (wipe σ own) own = wipe σ own := by
  have key : ∀ is : List Nat, (∀ i ∈ is, i ∈ own) → wipe (wipe σ is) own = wipe σ own := fun is => by
    induction is with
    | nil => intro _; rfl
    | cons i is ih =>
      intro h
      show wipe ((wipe σ is).set i none) own = _
      rw [wipe_set (h i List.mem_cons_self)]
      exact ih fun j hj => h j (List.mem_cons_of_mem _ hj)
  exact key own fun _ h => h
def tgIs : Tg → List Nat
  | .nm j => [j]
  | .tp js => js
def lcB (T : Tb) (call : Nat → List PV → PH → Res PV) (e : Ex) (own : List Nat) (t : Tg) (ifs : List Ex) (ρ : PEnv) (x : PV) (h2 : PH) : Res (Option PV) := match bindTg t x (own.foldr (fun i r => r.set i none) ρ) with
      | none => .stuck
      | some ρ1 => ((evIf T call ifs ρ1 h2).bind fun b h3 => if b then (evE T call e ρ1 h3).bind fun y h4 => .ok (some y) h4 else .ok none h3).noer
theorem evE_lc {e : Ex} {own : List Nat} {t : Tg} {k : Ik} {its ifs : List Ex} {ρ : PEnv} {h : PH} : evE T call (.lc e own t k its ifs) ρ h = (evI T call k its ρ h).bind fun p h1 => lcRun (lcB T call e own t ifs ρ) p.1 h1.length (p.2 + 1) 0 (h1 ++ [.lst []]) := by
  unfold evI
  simp only [evE, Res.bind_assoc]
  congr 1
  funext vs h1
  cases q : wkOf k vs h1 with
  | none => rfl
  | some p => rfl
theorem lc_core' (O : XOk G T nm call fx X E) {e : Ex} {own : List Nat} {t : Tg} {k : Ik} {its ifs : List Ex} {elt tg iter : Expr} {xifs : List Expr} {sc : Scope}
    (hi : PI X tg iter (tI G E (evI T call k its))) (hb : blkC fx.N (scOf fx) sc (ownsOf fx own) = true) (htg : ∀ i ∈ tgIs t, i ∈ own)
    (hg : ∀ (X' : Cx), XOk G T nm call (fxB fx sc) X' E0 → PG X' tg (tG G t)) (ht : ∀ (X' : Cx), XOk G T nm call (fxB fx sc) X' E0 → PTs X' xifs (tT G E0 (evIf T call ifs))) (he : ∀ (X' : Cx), XOk G T nm call (fxB fx sc) X' E0 → PE X' elt (tE G E0 (evE T call e)))
    (hs : noSet iter = true) (σ : L2.St) (H : Hp) (Q : VK) : tE G E (evE T call (.lc e own t k its ifs)) σ H Q → tLc (tI G E (evI T call k its)) (tG G t) (tT G E0 (evIf T call ifs)) (tE G E0 (evE T call e)) ((ownsOf fx own).map (·.2)) σ H Q := by
  have ow : (ownsOf fx own).map (·.2) = own := by unfold ownsOf; rw [List.map_map]; exact (List.map_congr_left (fun _ _ => rfl)).trans (List.map_id own)
  intro ⟨as, ρ, h, S, R, o⟩
  rw [ow]
  rw [evE_lc] at o
  refine ⟨as, ρ, h, S, R, Ok.bind o fun p h1 as1 H1 J f1 hJ o1 D hD => ?_⟩
  -- the new list
  obtain ⟨f2, rD⟩ := f1.sr.newL (ys := []) hD .nil
  have eD : (as1 ++ [D])[h1.length]? = some D := by
    rw [← f1.sr.len, List.getElem?_append_right (Nat.le_refl _)]
    simp
  have Rw : RepE G as1 H1 ρ σ := R.fut f1
  refine ⟨fun i m H => ∃ as2 h2, Fut G (as1 ++ [D]) (upd H1 D (.lst [])) as2 H h2 ∧ OkV G E as2 H Q (lcRun (lcB T call e own t ifs ρ) p.1 h1.length m i h2), ⟨p.2 + 1, as1 ++ [D], _, Fut.refl f2.sr, Ok.fut f2 o1⟩, ?_⟩
  rintro i m H' ⟨as2, h2, f3, o2⟩
  cases m with
  | zero => exact False.elim o2
  | succ m =>
    have f23 : Fut G as1 H1 as2 H' h2 := f2.trans f3
    obtain ⟨j1, j2⟩ := hJ as2 H' h2 f23.pre f23.kp f3.sr i
    unfold lcRun at o2
    have eD2 : as2[h1.length]? = some D := pre_get f3.pre eD
    split at o2
    · exact False.elim o2
    · rename_i q
      refine .inl ⟨j1 q, okv f3.sr o2 ?_⟩
      unfold RepV
      exact ⟨D, eD2, rfl⟩
    · rename_i x q
      obtain ⟨jg, jy⟩ := j2 x q
      refine .inr ⟨jg, fun H3 => ∃ as3 h3, Fut G (as1 ++ [D]) (upd H1 D (.lst [])) as3 H3 h3 ∧ OkV G E as3 H3 Q (lcRun (lcB T call e own t ifs ρ) p.1 h1.length m (i + 1) h3), fun H3 n => ⟨m, Nat.lt_succ_self _, n⟩, fun v H3 y => ?_⟩
      obtain ⟨f4, rv⟩ := jy v H3 y
      have o3 := Ok.fut f4 o2
      have f34 := f3.trans f4
      have R3 : RepE G as2 H3 ρ σ := (Rw.fut f23).fut f4
      unfold lcB at o3
      split at o3
      · exact False.elim o3
      · rename_i ρ1 qb
        refine ⟨as2, _, h2, x, ρ1, f4.sr, wipe_ok R3 own, rv, qb, fun σ1 R1 ⟨is, vs, e1, e2⟩ => ⟨?_, ?_⟩⟩
        · rw [e1, wipe_fold (fun j hj => htg j (by have := e2 j hj; cases t <;> exact this)), wipe_wipe]
        · rw [noer_bind, Res.bind_assoc] at o3
          refine ⟨as2, ρ1, h2, f4.sr, R1, Ok.noer o3 fun b h4 as4 H4 b' f5 eb o4 => ?_⟩
          subst eb
          cases b with
          | false =>
            simp only [Bool.false_eq_true, if_false] at o4 ⊢
            exact ⟨as4, h4, f34.trans f5, o4⟩
          | true =>
            simp only [if_true] at o4 ⊢
            rw [noer_bind, Res.bind_assoc] at o4
            refine ⟨as4, ρ1, h4, f5.sr, R1.fut f5, Ok.noer o4 fun y h5 as5 H5 y' f6 ry o5 => ?_⟩
            have o6 : Ok G E as5 H5 (fun as' H' => RepV G as' H') Q (match h5[h1.length]? with
              | some (.lst acc) => if acc.length < sizeLine then lcRun (lcB T call e own t ifs ρ) p.1 h1.length m (i + 1) (h5.set h1.length (.lst (acc ++ [y]))) else .stuck
              | _ => .stuck) := o5
            split at o6
            · rename_i acc qa
              split at o6
              · rename_i hl
                have eD5 := pre_get (f5.pre.trans f6.pre) eD2
                obtain ⟨ws, eH, rl⟩ := f6.sr.lstM qa eD5
                have f7 := f6.sr.setL eD5 eH (rl.append (.cons ry .nil))
                exact ⟨ws, eH, by rw [← rl.length]; exact hl, as5, _, ((f34.trans f5).trans f6).trans f7, Ok.fut f7 o6⟩
              · exact False.elim o6
            · exact False.elim o6
theorem lc_parts (O : XOk G T nm call fx X E) {e : Ex} {own : List Nat} {t : Tg} {k : Ik} {its ifs : List Ex} {elt tg iter : Expr} {xifs : List Expr} {sc : Scope}
    (hi : PI X tg iter (tI G E (evI T call k its))) (hb : blkC fx.N (scOf fx) sc (ownsOf fx own) = true) (htg : ∀ i ∈ tgIs t, i ∈ own)
    (hg : ∀ (X' : Cx), XOk G T nm call (fxB fx sc) X' E0 → PG X' tg (tG G t)) (ht : ∀ (X' : Cx), XOk G T nm call (fxB fx sc) X' E0 → PTs X' xifs (tT G E0 (evIf T call ifs))) (he : ∀ (X' : Cx), XOk G T nm call (fxB fx sc) X' E0 → PE X' elt (tE G E0 (evE T call e)))
    (hs : noSet iter = true) : BlkOk X.N X.env.scope sc (ownsOf fx own) ∧
      (∀ (s : Shared) (H : Hp) (C : Addr) (cl : List (Str × Addr)) (fp : List Addr), PG (X.blk s H sc (compEnvC sc cl C X.env) fp) tg (tG G t)) ∧
      (∀ (s : Shared) (H : Hp) (C : Addr) (cl : List (Str × Addr)) (fp : List Addr), PTs (X.blk s H sc (compEnvC sc cl C X.env) fp) xifs (tT G E0 (evIf T call ifs))) ∧
      (∀ (s : Shared) (H : Hp) (C : Addr) (cl : List (Str × Addr)) (fp : List Addr), PE (X.blk s H sc (compEnvC sc cl C X.env) fp) elt (tE G E0 (evE T call e))) ∧
      ∀ x, foldedSetIterable iter X.env x = pure x := by
  have hb0 := blkOk_by hb
  have hu : uniqB sc = true := List.all_eq_true.mpr fun y hy => decide_eq_true (hb0.uniq y hy)
  exact ⟨⟨hb0.kind, hb0.uniq, by rw [O.N]; exact hb0.ix, fun y hy e => by rw [O.names]; exact hb0.free y hy e, by rw [O.N]; exact hb0.own⟩,
    fun s H C cl fp => hg _ (O.blk hu s H C cl fp hb0.kind), fun s H C cl fp => ht _ (O.blk hu s H C cl fp hb0.kind), fun s H C cl fp => he _ (O.blk hu s H C cl fp hb0.kind), fun x => by cases iter <;> first | rfl | cases hs⟩
theorem okE_lc (O : XOk G T nm call fx X E) {e : Ex} {own : List Nat} {t : Tg} {k : Ik} {its ifs : List Ex} {elt tg iter : Expr} {xifs : List Expr} {sc : Scope} {pos : Pos}
    (hi : PI X tg iter (tI G E (evI T call k its))) (hb : blkC fx.N (scOf fx) sc (ownsOf fx own) = true) (htg : ∀ i ∈ tgIs t, i ∈ own)
    (hg : ∀ (X' : Cx), XOk G T nm call (fxB fx sc) X' E0 → PG X' tg (tG G t)) (ht : ∀ (X' : Cx), XOk G T nm call (fxB fx sc) X' E0 → PTs X' xifs (tT G E0 (evIf T call ifs))) (he : ∀ (X' : Cx), XOk G T nm call (fxB fx sc) X' E0 → PE X' elt (tE G E0 (evE T call e)))
    (hs : noSet iter = true) : PE X (.ListComp elt [⟨tg, iter, xifs, 0⟩] sc pos) (tE G E (evE T call (.lc e own t k its ifs))) := by
  obtain ⟨h1, h2, h3, h4, h5⟩ := lc_parts O hi hb htg hg ht he hs
  exact (pe_lc O.calm O.nd hi h1 h2 h3 h4 h5).imp (lc_core' O hi hb htg hg ht he hs)
theorem _root_.L2.PTs.imp {X : Cx} {es : List Expr} {t t' : TT} (p : PTs X es t) (h : ∀ σ H Q, t' σ H Q → t σ H Q) : PTs X es t' := ⟨fun pins s σ H Q I q => p.run pins s σ H Q I (h σ H Q q)⟩
theorem okTs_nil : PTs X [] (tT G E (evIf T call [])) := by
  refine pts_nil.imp fun σ H Q ⟨as, ρ, h, S, R, o⟩ => ?_
  simp only [evIf] at o
  exact o as H true (Fut.refl S) rfl
theorem okTs_one {c : Ex} {x : Expr} (h : PT X x (tT G E (evT T call c))) : PTs X [x] (tT G E (evIf T call [c])) := by
  refine (pts_one h).imp fun σ H Q ⟨as, ρ, h, S, R, o⟩ => ⟨as, ρ, h, S, R, ?_⟩
  have e : evIf T call [c] ρ h = evT T call c ρ h := by
    simp only [evIf, evT]
    congr 1
    funext v h1
    cases q : pTru h1 v with
    | none => rfl
    | some b => cases b <;> rfl
  rw [← e]
  exact o
end
end Mn
set_option Elab.async false
set_option linter.all false
set_option maxRecDepth 100000
set_option maxHeartbeats 4000000
namespace Mn
open PySem PySem.Spec L2 PyProof.Rows
inductive FlV where
  | nx (σ : L2.St) | bk (σ : L2.St) | ct (σ : L2.St) | rt (v : V)
def relF (G : Gm) (as : List Addr) (H : Hp) : Fl → FlV → Prop
  | .nx ρ, .nx σ => RepE G as H ρ σ
  | .bk ρ, .bk σ => RepE G as H ρ σ
  | .ct ρ, .ct σ => RepE G as H ρ σ
  | .rt v, .rt x => RepV G as H v x
  | _, _ => False
def endsQ (D : Ends) : FlV → Hp → Prop
  | .nx σ, H => D.nx σ H
  | .bk σ, H => D.bk σ H
  | .ct σ, H => D.ct σ H
  | .rt v, H => D.rt v H
def tS (G : Gm) (E : XK) (ev : PEnv → PH → Res Fl) : TS := fun D σ H => ∃ as ρ h, SR G as H h ∧ RepE G as H ρ σ ∧ Ok G E as H (fun as' H' => relF G as' H') (endsQ D) (ev ρ h)
section
variable {G : Gm} {T : Tb} {nm : Nm} {call : Nat → List PV → PH → Res PV} {fx : Fx} {X : Cx} {E : XK} {W : Nat}
theorem _root_.L2.PS.imp {X : Cx} {e : Stmt} {t t' : TS} (p : PS X e t) (h : ∀ D σ H, t' D σ H → t D σ H) : PS X e t' := ⟨fun pins s σ H D I q => p.run pins s σ H D I (h D σ H q)⟩
theorem _root_.L2.PSs.imp {X : Cx} {e : List Stmt} {t t' : TS} (p : PSs X e t) (h : ∀ D σ H, t' D σ H → t D σ H) : PSs X e t' := ⟨fun pins s σ H D I q => p.run pins s σ H D I (h D σ H q)⟩
theorem okSs_nil : PSs X [] (tS G E (exSs T call W [])) := by
  refine pss_nil.imp fun D σ H ⟨as, ρ, h, S, R, o⟩ => ?_
  simp only [exSs] at o
  exact o as H (.nx σ) (Fut.refl S) R
theorem okSs_cons {s : Sm} {r : List Sm} {x : Stmt} {xs : List Stmt} (h1 : PS X x (tS G E (exS T call W s))) (h2 : PSs X xs (tS G E (exSs T call W r))) : PSs X (x :: xs) (tS G E (exSs T call W (s :: r))) := by
  refine (pss_cons h1 h2).imp fun D σ H ⟨as, ρ, h, S, R, o⟩ => ?_
  simp only [exSs] at o
  refine ⟨as, ρ, h, S, R, Ok.bind o fun f h1 as1 H1 fv f1 r1 o1 => ?_⟩
  cases f with
  | nx ρ1 =>
    cases fv with
    | nx σ1 => exact ⟨as1, ρ1, h1, f1.sr, r1, o1⟩
    | _ => exact False.elim r1
  | bk ρ1 =>
    cases fv with
    | bk σ1 => exact o1 as1 H1 (.bk σ1) (Fut.refl f1.sr) r1
    | _ => exact False.elim r1
  | ct ρ1 =>
    cases fv with
    | ct σ1 => exact o1 as1 H1 (.ct σ1) (Fut.refl f1.sr) r1
    | _ => exact False.elim r1
  | rt v =>
    cases fv with
    | rt v1 => exact o1 as1 H1 (.rt v1) (Fut.refl f1.sr) r1
    | _ => exact False.elim r1
theorem okS_pass {p : Pos} : PS X (.Pass p) (tS G E (exS T call W .pass)) := ps_pass.imp fun D σ H ⟨as, ρ, h, S, R, o⟩ => by
  simp only [exS] at o
  exact o as H (.nx σ) (Fut.refl S) R
theorem okS_brk {p : Pos} : PS X (.Break p) (tS G E (exS T call W .brk)) := ps_break.imp fun D σ H ⟨as, ρ, h, S, R, o⟩ => by
  simp only [exS] at o
  exact o as H (.bk σ) (Fut.refl S) R
theorem okS_cnt {p : Pos} : PS X (.Continue p) (tS G E (exS T call W .cnt)) := ps_continue.imp fun D σ H ⟨as, ρ, h, S, R, o⟩ => by
  simp only [exS] at o
  exact o as H (.ct σ) (Fut.refl S) R
theorem okS_never {x : Stmt} : PS X x (tS G E (exS T call W .never)) := ⟨fun pins s σ H D I ⟨as, ρ, h, S, R, o⟩ => False.elim (by simp only [exS] at o; exact o)⟩
theorem okS_retn {p : Pos} : PS X (.Return none p) (tS G E (exS T call W .retn)) := ps_retN.imp fun D σ H ⟨as, ρ, h, S, R, o⟩ => by
  simp only [exS] at o
  exact o as H (.rt .non) (Fut.refl S) (show RepV G as H .non .non from .non)
theorem okS_ret {e : Ex} {x : Expr} {p : Pos} (he : PE X x (tE G E (evE T call e))) : PS X (.Return (some x) p) (tS G E (exS T call W (.ret e))) := by
  refine (ps_ret he).imp fun D σ H ⟨as, ρ, h, S, R, o⟩ => ?_
  simp only [exS] at o
  exact ⟨as, ρ, h, S, R, Ok.bind o fun v h1 as1 H1 v' f1 r1 o1 => o1 as1 H1 (.rt v') (Fut.refl f1.sr) r1⟩
def isComp : Expr → Bool
  | .ListComp .. | .SetComp .. | .DictComp .. => true
  | _ => false
theorem noSwap {e : Expr} {t : Option Expr} {l : Nat} {env : Env} (h : isComp e = false) : swapsWith e t l env = pure false := by cases e <;> first | rfl | cases h
theorem okS_ex {e : Ex} {x : Expr} {p : Pos} (hc : isComp x = false) (he : PE X x (tE G E (evE T call e))) : PS X (.Expr x p) (tS G E (exS T call W (.ex e))) := by
  refine (ps_expr he (noSwap hc)).imp fun D σ H ⟨as, ρ, h, S, R, o⟩ => ?_
  simp only [exS] at o
  exact ⟨as, ρ, h, S, R, Ok.bind o fun v h1 as1 H1 v' f1 r1 o1 => o1 as1 H1 (.nx σ) (Fut.refl f1.sr) (R.fut f1)⟩
theorem okS_ite {c : Ex} {a b : List Sm} {z : Expr} {xa xb : List Stmt} {p : Pos} (hc : PT X z (tT G E (evT T call c))) (ha : PSs X xa (tS G E (exSs T call W a))) (hb : PSs X xb (tS G E (exSs T call W b))) : PS X (.If z xa xb p) (tS G E (exS T call W (.ite c a b))) := by
  refine (ps_if hc ha hb).imp fun D σ H ⟨as, ρ, h, S, R, o⟩ => ?_
  simp only [exS] at o
  refine ⟨as, ρ, h, S, R, Ok.bind o fun t h1 as1 H1 t' f1 r1 o1 => ?_⟩
  subst r1
  cases t with
  | true => exact ⟨as1, ρ, h1, f1.sr, R.fut f1, o1⟩
  | false => exact ⟨as1, ρ, h1, f1.sr, R.fut f1, o1⟩
theorem okS_wh {c : Ex} {b : List Sm} {z : Expr} {xb : List Stmt} {p : Pos} (po : PassesOwn (model X.prog X.w) X.A X.env X.xe) (hc : PT X z (tT G E (evT T call c))) (hb : PSs X xb (tS G E (exSs T call W b))) : PS X (.While z xb [] p) (tS G E (exS T call W (.wh c b))) := by
  refine (ps_while po hc hb).imp fun D σ H ⟨as, ρ, h, S, R, o⟩ => ?_
  simp only [exS] at o
  refine ⟨fun m σ H => ∃ as ρ h, SR G as H h ∧ RepE G as H ρ σ ∧ Ok G E as H (fun as' H' => relF G as' H') (endsQ D) (whRun (evT T call c) (exSs T call W b) m ρ h), ⟨W, as, ρ, h, S, R, o⟩, ?_⟩
  rintro m σ H ⟨as, ρ, h, S, R, o⟩
  cases m with
  | zero => exact False.elim o
  | succ m =>
    unfold whRun at o
    refine ⟨as, ρ, h, S, R, Ok.bind o fun t h1 as1 H1 t' f1 r1 o1 => ?_⟩
    subst r1
    cases t with
    | false => exact o1 as1 H1 (.nx σ) (Fut.refl f1.sr) (R.fut f1)
    | true =>
      simp only [if_true] at o1 ⊢
      refine ⟨fun σ' H' => ∃ as ρ h, SR G as H' h ∧ RepE G as H' ρ σ' ∧ Ok G E as H' (fun as' H' => relF G as' H') (endsQ D) (whRun (evT T call c) (exSs T call W b) m ρ h), fun σ' H' n => ⟨m, Nat.lt_succ_self _, n⟩, ?_⟩
      refine ⟨as1, ρ, h1, f1.sr, R.fut f1, Ok.bind o1 fun f h2 as2 H2 fv f2 r2 o2 => ?_⟩
      cases f with
      | nx ρ1 =>
        cases fv with
        | nx σ1 => exact ⟨as2, ρ1, h2, f2.sr, r2, o2⟩
        | _ => exact False.elim r2
      | bk ρ1 =>
        cases fv with
        | bk σ1 => exact o2 as2 H2 (.nx σ1) (Fut.refl f2.sr) r2
        | _ => exact False.elim r2
      | ct ρ1 =>
        cases fv with
        | ct σ1 => exact ⟨as2, ρ1, h2, f2.sr, r2, o2⟩
        | _ => exact False.elim r2
      | rt v =>
        cases fv with
        | rt v1 => exact o2 as2 H2 (.rt v1) (Fut.refl f2.sr) r2
        | _ => exact False.elim r2
def forB (T : Tb) (call : Nat → List PV → PH → Res PV) (W : Nat) (t : Tg) (b : List Sm) (x : PV) (ρ1 : PEnv) (h2 : PH) : Res Fl := match bindTg t x ρ1 with
      | none => .stuck
      | some ρ2 => exSs T call W b ρ2 h2
theorem exS_for {t : Tg} {k : Ik} {its : List Ex} {b : List Sm} {ρ : PEnv} {h : PH} : exS T call W (.for_ t k its b) ρ h = (evI T call k its ρ h).bind fun p h1 => forRun (forB T call W t b) p.1 (p.2 + 1) 0 ρ h1 := by
  unfold evI
  simp only [exS, Res.bind_assoc]
  congr 1
  funext vs h1
  cases q : wkOf k vs h1 with
  | none => rfl
  | some p => rfl
theorem okS_for (O : XOk G T nm call fx X E) {t : Tg} {k : Ik} {its : List Ex} {b : List Sm} {tg iter : Expr} {xb : List Stmt} {p : Pos} (po : PassesOwn (model X.prog X.w) X.A X.env X.xe) (hi : PI X tg iter (tI G E (evI T call k its))) (hg : PG X tg (tG G t)) (hb : PSs X xb (tS G E (exSs T call W b))) (hs : noSet iter = true) :
    PS X (.For tg iter xb [] p) (tS G E (exS T call W (.for_ t k its b))) := by
  refine (ps_for po O.calm hi hg hb (fun x => by cases iter <;> first | rfl | cases hs)).imp fun D σ H ⟨as, ρ, h, S, R, o⟩ => ?_
  rw [exS_for] at o
  refine ⟨as, ρ, h, S, R, Ok.bind o fun p h1 as1 H1 J f1 hJ o1 => ?_⟩
  refine ⟨fun i m σ H => ∃ as2 ρ2 h2, Fut G as1 H1 as2 H h2 ∧ RepE G as2 H ρ2 σ ∧ Ok G E as2 H (fun as' H' => relF G as' H') (endsQ D) (forRun (forB T call W t b) p.1 m i ρ2 h2), ⟨p.2 + 1, as1, ρ, h1, Fut.refl f1.sr, R.fut f1, o1⟩, ?_⟩
  rintro i m σ2 H2 ⟨as2, ρ2, h2, f2, R2, o2⟩
  cases m with
  | zero => exact False.elim o2
  | succ m =>
    obtain ⟨j1, j2⟩ := hJ as2 H2 h2 f2.pre f2.kp f2.sr i
    unfold forRun at o2
    split at o2
    · exact False.elim o2
    · rename_i q
      exact .inl ⟨j1 q, o2 as2 H2 (.nx σ2) (Fut.refl f2.sr) R2⟩
    · rename_i x q
      obtain ⟨jg, jy⟩ := j2 x q
      refine .inr ⟨jg, fun σ3 H3 => ∃ as3 ρ3 h3, Fut G as1 H1 as3 H3 h3 ∧ RepE G as3 H3 ρ3 σ3 ∧ Ok G E as3 H3 (fun as' H' => relF G as' H') (endsQ D) (forRun (forB T call W t b) p.1 m (i + 1) ρ3 h3), fun σ3 H3 n => ⟨m, Nat.lt_succ_self _, n⟩, fun v H3 y => ?_⟩
      obtain ⟨f3, rv⟩ := jy v H3 y
      have o3 := Ok.fut f3 o2
      unfold forB at o3
      split at o3
      · exact False.elim o3
      · rename_i ρ3 qb
        refine ⟨as2, ρ2, h2, x, ρ3, f3.sr, R2.fut f3, rv, qb, fun σ3 R3 _ => ?_⟩
        refine ⟨as2, ρ3, h2, f3.sr, R3, Ok.bind o3 fun f h4 as4 H4 fv f4 r4 o4 => ?_⟩
        cases f with
        | nx ρ1 =>
          cases fv with
          | nx σ1 => exact ⟨as4, ρ1, h4, (f2.trans f3).trans f4, r4, o4⟩
          | _ => exact False.elim r4
        | bk ρ1 =>
          cases fv with
          | bk σ1 => exact o4 as4 H4 (.nx σ1) (Fut.refl f4.sr) r4
          | _ => exact False.elim r4
        | ct ρ1 =>
          cases fv with
          | ct σ1 => exact ⟨as4, ρ1, h4, (f2.trans f3).trans f4, r4, o4⟩
          | _ => exact False.elim r4
        | rt v =>
          cases fv with
          | rt v1 => exact o4 as4 H4 (.rt v1) (Fut.refl f4.sr) r4
          | _ => exact False.elim r4
theorem okS_nm (O : XOk G T nm call fx X E) {i : Nat} {e : Ex} {t x : Expr} {p : Pos} (ht : chkNm fx i t = true) (hc : isComp x = false) (he : PE X x (tE G E (evE T call e))) : PS X (.Assign [t] x p) (tS G E (exS T call W (.asg (.nm i) e))) := by
  cases t with
  | Name y q =>
    simp only [chkNm, Bool.and_eq_true, decide_eq_true_eq, List.contains_iff_mem] at ht
    obtain ⟨l, f⟩ := O.st y ht.2
    refine (ps_set (i := i) O.nd (by rw [O.N]; exact ht.1) l he (noSwap hc) f).imp fun D σ H ⟨as, ρ, h, S, R, o⟩ => ?_
    simp only [exS, asgTa, Res.bind_ok] at o
    exact ⟨as, ρ, h, S, R, Ok.bind o fun v h1 as1 H1 v' f1 r1 o1 => o1 as1 H1 (.nx _) (Fut.refl f1.sr) ((R.fut f1).set i r1)⟩
  | _ => cases ht
def lcLine (y : Str) (py pos : Pos) (sc : Scope) (l : Nat) : Bool := (py.line == pos.line) && !(sc.names.any fun (n, k) => n == y && (k == .local || k == .cell))
theorem okS_nmLc (O : XOk G T nm call fx X E) {i : Nat} {y : Str} {py spos : Pos} {e : Ex} {own : List Nat} {t : Tg} {k : Ik} {its ifs : List Ex} {elt tg iter : Expr} {xifs : List Expr} {sc : Scope} {pos : Pos}
    (hy : fx.N[i]? = some y) (hl : fx.names.lookup y = some .local) (hline : lcLine y py pos sc spos.line = true)
    (hi : PI X tg iter (tI G E (evI T call k its))) (hb : blkC fx.N (scOf fx) sc (ownsOf fx own) = true) (htg : ∀ i ∈ tgIs t, i ∈ own)
    (hg : ∀ (X' : Cx), XOk G T nm call (fxB fx sc) X' E0 → PG X' tg (tG G t)) (ht : ∀ (X' : Cx), XOk G T nm call (fxB fx sc) X' E0 → PTs X' xifs (tT G E0 (evIf T call ifs))) (he : ∀ (X' : Cx), XOk G T nm call (fxB fx sc) X' E0 → PE X' elt (tE G E0 (evE T call e)))
    (hs : noSet iter = true) : PS X (.Assign [.Name y py] (.ListComp elt [⟨tg, iter, xifs, 0⟩] sc pos) spos) (tS G E (exS T call W (.asg (.nm i) (.lc e own t k its ifs)))) := by
  obtain ⟨hbk, hpg, hpt, hpe, fs⟩ := lc_parts O hi hb htg hg ht he hs
  simp only [lcLine, Bool.and_eq_true, Bool.not_eq_true'] at hline
  refine (ps_setLc O.calm O.nd (i := i) (by rw [O.N]; exact hy) (by rw [O.names]; exact hl) (sw_true O.kind (by rw [O.names]; exact hl) hline.1 hline.2) hi hbk hpg hpt hpe fs).imp fun D σ H ⟨as, ρ, h, S, R, o⟩ => ?_
  simp only [exS, asgTa, Res.bind_ok] at o
  refine lc_core' O hi hb htg hg ht he hs σ H _ ⟨as, ρ, h, S, R, Ok.bind o fun v h1 as1 H1 v' f1 r1 o1 => ?_⟩
  exact o1 as1 H1 (.nx _) (Fut.refl f1.sr) ((R.fut f1).set i r1)
end
end Mn
set_option Elab.async false
set_option linter.all false
set_option maxRecDepth 100000
set_option maxHeartbeats 4000000
namespace Mn
open PySem PySem.Spec L2 PyProof.Rows
section
variable {G : Gm} {T : Tb} {nm : Nm} {call : Nat → List PV → PH → Res PV} {fx : Fx} {X : Cx} {E : XK} {W : Nat}
def rSet (G : Gm) : TSet := fun o i v H Q => ∃ as h x y z h', SR G as H h ∧ RepV G as H x o ∧ RepV G as H y i ∧ RepV G as H z v ∧ pSet x y z h = some h' ∧ ∀ H', Fut G as H as H' h' → Q H'
theorem keyOf_ok {y : PV} {k : Key} {as : List Addr} {H : Hp} {v : V} (e : keyOf y = some k) (r : RepV G as H y v) : v = kV k := by
  cases y with
  | int i => cases e; rw [r.intE]; rfl
  | str x => cases e; rw [r.strE]; rfl
  | _ => cases e
theorem set_all (hu : X.A.units + 70 < cLine) : PSet X (rSet G) := by
  intro pins s σ H o i v ov iv u Q I ro ri rv h
  obtain ⟨as, h, x, y, z, h', S, rx, ry, rz, e, q⟩ := h
  cases x with
  | ref l =>
    obtain ⟨a, ea, rfl⟩ := rx.refE
    simp only [pSet] at e
    split at e
    · rename_i xs q1
      split at e
      · rename_i j
        split at e
        · rename_i m qm
          cases e
          obtain ⟨vs, e1, rl⟩ := S.lstM q1 ea
          obtain rfl := ry.intE
          exact set_list pins s σ H _ _ v ov iv u Q I ro ri rv ⟨a, vs, j, m, rfl, rfl, e1, by rw [← rl.length]; exact qm, q _ (S.setL ea e1 (rl.set m rz))⟩
        · cases e
      · cases e
    · rename_i kvs q1
      split at e
      · rename_i k qk
        split at e
        · rename_i hl
          cases e
          obtain ⟨ks, ed, rk⟩ := S.dic q1 ea
          obtain rfl := keyOf_ok qk ry
          have hl2 : ks.length = kvs.length := by
            clear q hl q1 ed
            induction kvs generalizing ks with
            | nil => unfold RepK at rk; subst rk; rfl
            | cons p r ih =>
              obtain ⟨k', x'⟩ := p
              unfold RepK at rk
              obtain ⟨v', r', rfl, _, r2⟩ := rk
              simp [ih _ r2]
          refine set_dict (by omega) pins s σ H _ _ v ov iv u Q I ro ri rv ⟨a, _, rfl, DPut.k ed (by rw [hl2]; exact hl), q _ (S.setD ea ed (dPut_ok rk rz))⟩
        · cases e
      · cases e
    · cases e
  | _ => cases e
theorem noSwapIx {e o i : Expr} {l : Nat} {env : Env} {p : Pos} : swapsWithSole [.Subscript o i p] e l env = pure false := by cases e <;> rfl
theorem noStoresIx {e o i : Expr} {env : Env} {p : Pos} : swappedStores [.Subscript o i p] e env = pure none := by cases e <;> rfl
theorem okS_ix (O : XOk G T nm call fx X E) {e o i : Ex} {x xo xi : Expr} {p p2 : Pos} (hy : isSlice xi = false) (he : PE X x (tE G E (evE T call e))) (ho : PE X xo (tE G E (evE T call o))) (hi : PE X xi (tE G E (evE T call i))) :
    PS X (.Assign [.Subscript xo xi p2] x p) (tS G E (exS T call W (.asg (.ix o i) e))) := by
  refine (ps_asg he (pg_sub ho hi (set_all (G := G) O.hu) (fun v => by cases xi <;> first | rfl | cases hy)) noSwapIx noStoresIx).imp fun D σ H ⟨as, ρ, h, S, R, q⟩ => ?_
  simp only [exS, asgTa, Res.bind_assoc] at q
  refine ⟨as, ρ, h, S, R, Ok.bind q fun v h1 as1 H1 v' f1 r1 q1 => ⟨as1, ρ, h1, f1.sr, R.fut f1, Ok.bind q1 fun w h2 as2 H2 w' f2 r2 q2 => ⟨as2, ρ, h2, f2.sr, (R.fut f1).fut f2, Ok.bind q2 fun k h3 as3 H3 k' f3 r3 q3 => ?_⟩⟩⟩
  split at q3
  · rename_i h4 q4
    refine ⟨as3, h3, w, k, v, h4, f3.sr, r2.fut f3, r3, (r1.fut f2).fut f3, q4, fun H' f4 => ?_⟩
    simp only [Res.bind_ok] at q3
    exact q3 as3 H' (.nx σ) f4 (((R.fut f1).fut f2).fut f3 |>.fut f4)
  · exact False.elim q3
def swNone : Expr → Bool
  | .Tuple vs _ _ => vs.all (foldedForSure 8)
  | _ => true
theorem swNone_ok {ts : List Expr} {k : Nat} {p : Pos} {x : Expr} {env : Env} (h : swNone x = true) : swappedStores [.Tuple ts k p] x env = pure none := by
  cases x with
  | Tuple vs kk pp =>
    have hf : vs.all (foldedForSure 8) = true := h
    unfold swappedStores
    dsimp only
    rw [hf]
    split
    · rfl
    · split
      · rfl
      · split
        · rfl
        · rfl
  | _ => rfl
def swNo (names : List (Str × NameKind)) (ts : List Expr) (x : Expr) : Bool := swNone x || !(ts.length == 2 || ts.length == 3) || ts.any fun e => match e with
  | .Name id _ => !decide (names.lookup id = some .local)
  | _ => false
theorem filterMap_lt {α β : Type} {f : α → Option β} : ∀ {l : List α} {a : α}, a ∈ l → f a = none → (l.filterMap f).length < l.length
  | b :: r, a, h, e => by
    have hr : ∀ (l : List α), (l.filterMap f).length ≤ l.length := fun l => List.length_filterMap_le f l
    rcases List.mem_cons.mp h with q | h
    · rw [← q, List.filterMap_cons, e]
      exact Nat.lt_succ_of_le (hr r)
    · rw [List.filterMap_cons]
      have ih := filterMap_lt h e
      cases f b with
      | none => exact Nat.lt_succ_of_lt ih
      | some y => exact Nat.succ_lt_succ ih
theorem swNo_ok {ts : List Expr} {k : Nat} {p : Pos} {x : Expr} {env : Env} (h : swNo env.scope.names ts x = true) : swappedStores [.Tuple ts k p] x env = pure none := by
  unfold swNo at h
  simp only [Bool.or_eq_true] at h
  rcases h with (h | h) | h
  · exact swNone_ok h
  · cases x with
    | Tuple vs kk pp =>
      unfold swappedStores
      dsimp only
      have h2 : (ts.length == 2 || ts.length == 3) = false := by simpa using h
      rw [h2]
      rfl
    | _ => rfl
  · obtain ⟨e, he, q⟩ := List.any_eq_true.mp h
    cases x with
    | Tuple vs kk pp =>
      unfold swappedStores
      dsimp only
      split
      · rfl
      · split
        · rfl
        · generalize hf : List.filterMap _ ts = ns
          have hl : ns.length < ts.length := by
            rw [← hf]
            refine filterMap_lt he ?_
            cases e with
            | Name id pos =>
              have q2 : env.scope.names.lookup id ≠ some .local := by simpa using q
              have q3 : (env.kindOf id == some NameKind.local) = false := beq_eq_false_iff_ne.mpr q2
              simp only [q3, Bool.false_and, Bool.false_eq_true, if_false]
            | _ => cases q
          have h3 : (ns.length != ts.length) = true := by simp; omega
          rw [h3]
          rfl
    | _ => rfl
theorem noSwapTp {x : Expr} {ts : List Expr} {k l : Nat} {p : Pos} {env : Env} : swapsWithSole [.Tuple ts k p] x l env = pure false := by cases x <;> rfl
def tGL (G : Gm) (is : List Nat) : TG := fun v σ H Q => ∃ as ρ h l xs, SR G as H h ∧ RepE G as H ρ σ ∧ RepV G as H (.ref l) v ∧ lstAt h l = some xs ∧ xs.length = is.length ∧ ∀ σ', RepE G as H ((is.zip xs).foldl (fun r q => r.set q.1 (some q.2)) ρ) σ' → Q σ' H
theorem okG_tpL (O : XOk G T nm call fx X E) {is : List Nat} {es : List Expr} {kk : Nat} {pos : Pos} (h : chkNms fx is es = true) : PG X (.Tuple es kk pos) (tGL G is) := by
  obtain ⟨g, l, f⟩ := okG_names O h
  refine ⟨fun pins s σ H v u Q I r ⟨as, ρ, hh, l', xs, S, R, rx, el, hl, k⟩ => (pg_unl O.calm g l f).run pins s σ H v u Q I r ?_⟩
  obtain ⟨a, ea, rfl⟩ := rx.refE
  obtain ⟨vs, sl, rv⟩ := S.lst el ea
  exact ⟨a, vs, rfl, by rw [O.K]; exact sl, by rw [← rv.length]; exact hl, by rw [← rv.length]; exact hl, k _ (foldl_set_ok R rv)⟩
theorem PG.or {e : Expr} {a b : TG} (ha : PG X e a) (hb : PG X e b) : PG X e (fun v σ H Q => a v σ H Q ∨ b v σ H Q) := ⟨fun pins s σ H v u Q I r q => q.elim (ha.run pins s σ H v u Q I r) (hb.run pins s σ H v u Q I r)⟩
theorem okS_tp (O : XOk G T nm call fx X E) {e : Ex} {is : List Nat} {x : Expr} {ts : List Expr} {k : Nat} {p p2 : Pos} (hs : swNo fx.names ts x = true) (ht : chkNms fx is ts = true) (he : PE X x (tE G E (evE T call e))) :
    PS X (.Assign [.Tuple ts k p2] x p) (tS G E (exS T call W (.asg (.tp is) e))) := by
  refine (ps_asg he (PG.or (okG_tg (G := G) (T := T) (nm := nm) (call := call) (E := E) O (t := .tp is) (e := .Tuple ts k p2) ht) (okG_tpL (G := G) (T := T) (nm := nm) (call := call) (E := E) O ht)) noSwapTp (swNo_ok (by rw [O.names]; exact hs))).imp fun D σ H ⟨as, ρ, h, S, R, q⟩ => ?_
  simp only [exS, asgTa] at q
  refine ⟨as, ρ, h, S, R, Ok.bind q fun v h1 as1 H1 v' f1 r1 q1 => ?_⟩
  split at q1
  · rename_i ρ1 qb
    refine .inl ⟨as1, ρ, h1, v, ρ1, f1.sr, R.fut f1, r1, qb, fun σ' R' _ => ?_⟩
    exact q1 as1 H1 (.nx σ') (Fut.refl f1.sr) R'
  · split at q1
    · rename_i ρ1 qb
      unfold bindL at qb
      split at qb
      · split at qb
        · split at qb
          · cases qb
            rename_i l _ _ xs el hl
            exact .inr ⟨as1, ρ, h1, l, xs, f1.sr, R.fut f1, r1, el, hl, fun σ' R' => q1 as1 H1 (.nx σ') (Fut.refl f1.sr) R'⟩
          · cases qb
        · cases qb
      · cases qb
    · exact False.elim q1
def locB (names : List (Str × NameKind)) (x : Str) : Bool := match names.lookup x with
  | some .local => true
  | _ => false
theorem locB_ok {names : List (Str × NameKind)} {x : Str} (h : locB names x = true) : names.lookup x = some .local := by
  unfold locB at h
  split at h
  · rename_i q; exact q
  · cases h
def par2B (names : List (Str × NameKind)) (x y : Str) (px py : Pos) (a b : Expr) : Bool := locB names x && locB names y && decide (x ≠ y) && (py.line == px.line) && !isStar a && !isStar b && !(foldedForSure 8 a && foldedForSure 8 b) && !(constantsAlone 8 a && constantsAlone 8 b)
theorem bk_fn {env : Env} (h : env.scope.kind = .function) : env.blockKind = .function := by
  unfold Env.blockKind
  rw [h]
  rfl
theorem par2_ok {env : Env} {x y : Str} {px py p p2 : Pos} {k k2 : Nat} {a b : Expr} (hk : env.scope.kind = .function) (h : par2B env.scope.names x y px py a b = true) : swappedStores [.Tuple [.Name x px, .Name y py] k p] (.Tuple [a, b] k2 p2) env = pure (some [x, y]) := by
  unfold par2B at h
  simp only [Bool.and_eq_true, Bool.not_eq_true', decide_eq_true_eq] at h
  obtain ⟨⟨⟨⟨⟨⟨⟨h1, h2⟩, h3⟩, h4⟩, h5⟩, h6⟩, h7⟩, h8⟩ := h
  have k1 : env.kindOf x = some .local := locB_ok h1
  have k2 : env.kindOf y = some .local := locB_ok h2
  have hb := bk_fn hk
  have ha : ([a, b].any fun e => match e with | .Starred .. => true | _ => false) = false := by
    have q : ∀ e : Expr, isStar e = false → (match e with | .Starred .. => true | _ => false) = false := fun e he => by cases e <;> first | rfl | cases he
    simp only [List.any_cons, List.any_nil, q a h5, q b h6, Bool.or_false]
  have hf : [a, b].all (foldedForSure 8) = false := by simpa using h7
  have hc : [a, b].all (constantsAlone 8) = false := by simpa using h8
  have ed : [x, y].eraseDups.length = 2 := by
    rw [List.eraseDups_cons]
    have : [y].filter (fun b => !b == x) = [y] := by
      have hyx : (y == x) = false := by
        rw [beq_eq_false_iff_ne]
        exact fun z => h3 z.symm
      simp [hyx]
    rw [this]
    rfl
  have hb2 : (env.blockKind != ScopeKind.function) = false := by rw [hb]; rfl
  have l1 : (px.line == px.line) = true := by simp
  unfold swappedStores
  dsimp only
  simp only [hb2]
  generalize hA : List.any [a, b] _ = A
  have eA : A = false := by rw [← hA]; exact ha
  generalize hN : List.filterMap _ [Expr.Name x px, Expr.Name y py] = N
  have eN : N = [x, y] := by
    rw [← hN]
    simp only [List.filterMap_cons, List.filterMap_nil, k1, k2, List.head?, Option.map, Option.getD, Expr.pos, h4, l1]
    rfl
  rw [eA, eN, hf, hc]
  simp only [ed]
  rfl
end
end Mn
set_option Elab.async false
set_option linter.all false
set_option maxRecDepth 100000
set_option maxHeartbeats 4000000
namespace Mn
open PySem PySem.Spec L2 PyProof.Rows
section
variable {G : Gm} {T : Tb} {nm : Nm} {call : Nat → List PV → PH → Res PV} {fx : Fx} {X : Cx} {E : XK} {W : Nat}
theorem Ok.bind_call {f : Nat} {np : Nat} {as : List Addr} {H : Hp} {Q : V → Hp → Prop} {vs : List PV} {h : PH} {xs : List V} (ar : ∀ xs h, xs.length ≠ np → call f xs h = .stuck) (S : SR G as H h) (r : RepVs G as H vs xs) (o : OkV G E as H Q (call f vs h)) : spF G call f np xs H Q E := by
  by_cases hl : vs.length = np
  · exact ⟨by rw [← r.length]; exact hl, as, h, vs, S, r, o⟩
  · rw [ar vs h hl] at o
    exact False.elim o
theorem okE_call (O : XOk G T nm call fx X E) {g f : Nat} {es : List Ex} {x : Str} {y : Expr} {ys : List Expr} {p pos : Pos} (hg : nm.gn[g]? = some x) (hf : T.glob[g]? = some (.fn f)) (hb : glB fx.names x = true) (hp : plainName x = true)
    (hx : isStar y = false) (hxs : ys.all (fun x => !isStar x) = true) (ha : PA X (y :: ys) (tA G E (evEs T call es))) : PE X (.Call (.Name x p) (y :: ys) [] pos) (tE G E (evE T call (.call g es))) := by
  obtain ⟨k, fd, ps, F, hr, hk, hbd, hm, ar, _⟩ := O.fns g x f hg hf
  refine (pe_call F hr (gl_ok O hb) hm hk hbd .nil O.pass ha (plain_ok hp).1 (star_cons hx) (noStars hxs)).imp fun σ H Q ⟨as, ρ, h, S, R, o⟩ => ?_
  simp only [evE, hf, callG] at o
  refine ⟨as, ρ, h, S, R, Ok.bind o fun vs h1 as1 H1 vs' f1 r1 o1 => ?_⟩
  rw [List.append_nil]
  exact Ok.bind_call ar f1.sr r1 o1
theorem okE_call0 (O : XOk G T nm call fx X E) {g f : Nat} {x : Str} {p pos : Pos} (hg : nm.gn[g]? = some x) (hf : T.glob[g]? = some (.fn f)) (hb : glB fx.names x = true) (hp : plainName x = true) :
    PE X (.Call (.Name x p) [] [] pos) (tE G E (evE T call (.call g []))) := by
  obtain ⟨k, fd, ps, F, hr, hk, hbd, hm, ar, _⟩ := O.fns g x f hg hf
  refine (pe_call0 F hr (gl_ok O hb) hm hk hbd .nil O.pass (plain_ok hp).1).imp fun σ H Q ⟨as, ρ, h, S, R, o⟩ => ?_
  simp only [evE, hf, callG, evEs, Res.bind_ok] at o
  show spF G call f ps.length ([] ++ []) H Q E
  exact Ok.bind_call ar S .nil o
theorem noBase {o : Expr} {m : Str} {env : Env} (h : o.pos = o.pos) : True := trivial
def notCall : Expr → Bool
  | .Call .. => false
  | _ => true
theorem few_ok {xs : List Expr} {env : Env} {pos : Pos} (h : xs.all (fun x => !isStar x) = true) (hl : xs.length < 29) :
    ((backTo pos (starEach xs env)).all (fun x => !x.1) && (backToKw pos (keywordEach [] env)).all (fun x => x.1.isSome) && decide (xs.length + ([] : List Keyword).length + (if ([] : List Keyword).isEmpty then 0 else 1) < 30)) = true := by
  have h1 : (backTo pos (starEach xs env)).all (fun x => !x.1) = true := by
    clear hl
    induction xs with
    | nil => rfl
    | cons x xs ih =>
      simp only [List.all_cons, Bool.and_eq_true, Bool.not_eq_true'] at h
      rw [star_cons h.1]
      show (!false && (backTo pos (starEach xs env)).all (fun x => !x.1)) = true
      rw [ih h.2]
      rfl
  rw [h1]
  have h2 : (backToKw pos (keywordEach [] env)).all (fun x => x.1.isSome) = true := rfl
  rw [h2]
  simp only [List.length_nil, List.isEmpty_nil, if_true, Bool.true_and, decide_eq_true_eq]
  omega
def tMB (X : Cx) (name : Str) (to : TE) (t : TA) : TE := fun σ H Q => to σ H fun x H1 => ∃ (TT id : String) (r : V → List V → Hp → VK → Prop), PlainAttrs TT ∧ Slot TT name id ∧ typeOf (.builtin id) = pure (.type "method_descriptor") ∧ MtR X id r ∧ tyV X.K TT x H1 ∧ t σ H1 fun xs H2 => r x xs H2 Q
theorem pe_mtB {o e : Expr} {es : List Expr} {to : TE} {t : TA} {name : Str} {apos cpos : Pos} (ho : PE X o to) (ha : PA X (e :: es) t) (hbase : attributeBase o name X.env (eval o X.env) = eval o X.env)
    (hxs : (e :: es).all (fun x => !isStar x) = true) (hl : (e :: es).length < 29) (hline : (apos.endLine == cpos.line) = true) : PE X (.Call (.Attribute o name apos) (e :: es) [] cpos) (tMB X name to t) := by
  refine ⟨fun pins s σ H Q I h => ?_⟩
  refine wpAny_Call_method_late hbase (few_ok hxs hl) hline rfl (thn (ho.run pins s σ H _ I h) fun v s1 ⟨x, H1, I1, r1, TT, id, r, pa, slot, hty, hm, ty, q1⟩ => ?_)
  obtain ⟨h1, h2⟩ := tyV_is I1 r1 ty
  refine ⟨TT, id, pa, slot, hty, h1, h2, ?_⟩
  have hA := ha.run cpos pins s1 σ H1 _ I1 q1
  simp only [List.all_cons, Bool.and_eq_true, Bool.not_eq_true'] at hxs
  rw [star_cons hxs.1] at hA ⊢
  refine Calls.callWith_builtin (by show (false || (backTo cpos (starEach es X.env)).any (·.1)) = false; rw [noStars hxs.2] <;> rfl) (Calls.evalArgs_plain ?_)
  exact thn hA fun us s2 ⟨vs, H2, I2, r2, q2⟩ => hm pins s2 σ H2 x vs v us Q I2 r1 r2 q2
def tMB0 (X : Cx) (name : Str) (to : TE) : TE := fun σ H Q => to σ H fun x H1 => ∃ (TT id : String) (r : V → List V → Hp → VK → Prop), PlainAttrs TT ∧ Slot TT name id ∧ typeOf (.builtin id) = pure (.type "method_descriptor") ∧ MtR X id r ∧ tyV X.K TT x H1 ∧ r x [] H1 Q
theorem pe_mtB0 {o : Expr} {to : TE} {name : Str} {apos cpos : Pos} (ho : PE X o to) (hbase : attributeBase o name X.env (eval o X.env) = eval o X.env) (hline : (apos.endLine == cpos.line) = true) : PE X (.Call (.Attribute o name apos) [] [] cpos) (tMB0 X name to) := by
  refine ⟨fun pins s σ H Q I h => ?_⟩
  refine wpAny_Call_method0_late hbase hline (thn (ho.run pins s σ H _ I h) fun v s1 ⟨x, H1, I1, r1, TT, id, r, pa, slot, hty, hm, ty, q1⟩ => ?_)
  obtain ⟨h1, h2⟩ := tyV_is I1 r1 ty
  exact ⟨TT, id, pa, slot, hty, h1, h2, Calls.callWith_builtin rfl (PySem.evalArgs_none (hm pins s1 σ H1 x [] v [] Q I1 r1 .nil q1))⟩
def notNone : Bm → Bool
  | .none => false
  | _ => true
theorem evE_mt {m : Nat} {b : Bm} {o : Ex} {es : List Ex} (hb : notNone b = true) (ρ : PEnv) (h : PH) : evE T call (.mt m b o es) ρ h = (evE T call o ρ h).bind fun v h1 => match Bq.of b (kindAt h1 v) with
      | some q => (evEs T call es ρ h1).bind fun vs h2 => pBq q v vs h2
      | none => .stuck := by cases b <;> first | rfl | cases hb
theorem okE_mt (O : XOk G T nm call fx X E) {m : Nat} {b : Bm} {o : Ex} {es : List Ex} {xo y : Expr} {ys : List Expr} {apos pos : Pos} (hb : notNone b = true) (ho : PE X xo (tE G E (evE T call o))) (ha : PA X (y :: ys) (tA G E (evEs T call es)))
    (hbase : attributeBase xo b.nm X.env (eval xo X.env) = eval xo X.env) (hxs : (y :: ys).all (fun x => !isStar x) = true) (hl : (y :: ys).length < 29) (hline : (apos.endLine == pos.line) = true) :
    PE X (.Call (.Attribute xo b.nm apos) (y :: ys) [] pos) (tE G E (evE T call (.mt m b o es))) := by
  refine (pe_mtB ho ha hbase hxs hl hline).imp fun σ H Q ⟨as, ρ, h, S, R, o⟩ => ?_
  rw [evE_mt hb] at o
  refine ⟨as, ρ, h, S, R, Ok.bind o fun v h1 as1 H1 v' f1 r1 o1 => ?_⟩
  split at o1
  · rename_i q qe
    refine ⟨q.T, q.id, rMq G E q, bq_plain q, bq_slot qe, bq_ty q, mt_bq O.K O.hu q, kind_ty O.K f1.sr qe r1, as1, ρ, h1, f1.sr, R.fut f1, Ok.bind o1 fun vs h2 as2 H2 vs' f2 r2 o2 => ?_⟩
    exact ⟨as2, h2, v, vs, f2.sr, r1.fut f2, r2, o2⟩
  · exact False.elim o1
theorem okE_mt0 (O : XOk G T nm call fx X E) {m : Nat} {b : Bm} {o : Ex} {xo : Expr} {apos pos : Pos} (hb : notNone b = true) (ho : PE X xo (tE G E (evE T call o))) (hbase : attributeBase xo b.nm X.env (eval xo X.env) = eval xo X.env) (hline : (apos.endLine == pos.line) = true) :
    PE X (.Call (.Attribute xo b.nm apos) [] [] pos) (tE G E (evE T call (.mt m b o []))) := by
  refine (pe_mtB0 ho hbase hline).imp fun σ H Q ⟨as, ρ, h, S, R, o⟩ => ?_
  rw [evE_mt hb] at o
  refine ⟨as, ρ, h, S, R, Ok.bind o fun v h1 as1 H1 v' f1 r1 o1 => ?_⟩
  split at o1
  · rename_i q qe
    simp only [evEs, Res.bind_ok] at o1
    exact ⟨q.T, q.id, rMq G E q, bq_plain q, bq_slot qe, bq_ty q, mt_bq O.K O.hu q, kind_ty O.K f1.sr qe r1, as1, h1, v, [], f1.sr, r1, .nil, o1⟩
  · exact False.elim o1
end
end Mn
set_option Elab.async false
set_option linter.all false
set_option maxRecDepth 100000
set_option maxHeartbeats 4000000
namespace Mn
open PySem PySem.Spec L2 PyProof.Rows
def baseB : Expr → Bool
  | .Call (.Name ..) [] [] _ => false
  | _ => true
theorem base_ok {o : Expr} {m : Str} {env : Env} {w : Sem Value} (h : baseB o = true) : attributeBase o m env w = w := by
  unfold attributeBase
  split
  · cases h
  · rfl
section
variable {G : Gm} {T : Tb} {nm : Nm} {call : Nat → List PV → PH → Res PV} {fx : Fx} {X : Cx} {E : XK} {W : Nat}
theorem noStarE {e : Ex} (h : (match e with | .star _ => false | _ => true) = true) : ∀ x, e ≠ .star x := fun x e => by subst e; cases h
theorem okS_par2 (O : XOk G T nm call fx X E) {es : List Ex} {i j : Nat} {x y : Str} {px py p p2 pos : Pos} {k k2 : Nat} {a b : Expr} (hi : fx.N[i]? = some x) (hj : fx.N[j]? = some y) (hp : par2B fx.names x y px py a b = true) (ha : PA X [a, b] (tA G E (evEs T call es))) :
    PS X (.Assign [.Tuple [.Name x px, .Name y py] k p] (.Tuple [a, b] k2 p2) pos) (tS G E (exS T call W (.asg (.tp [i, j]) (.tup es)))) := by
  have hp2 := hp
  unfold par2B at hp2
  simp only [Bool.and_eq_true, Bool.not_eq_true', decide_eq_true_eq] at hp2
  obtain ⟨⟨⟨⟨⟨⟨⟨h1, h2⟩, h3⟩, _⟩, _⟩, _⟩, _⟩, _⟩ := hp2
  have hij : i ≠ j := fun e => by subst e; rw [hi] at hj; exact h3 (Option.some.inj hj)
  refine (ps_par (i := i) (j := j) O.calm O.nd (by rw [O.N]; exact hi) (by rw [O.N]; exact hj) hij (by rw [O.names]; exact locB_ok h1) (by rw [O.names]; exact locB_ok h2) ha (par2_ok O.kind (by rw [O.names]; exact hp))).imp fun D σ H ⟨as, ρ, h, S, R, o⟩ => ?_
  simp only [exS, evE, Res.bind_assoc] at o
  refine ⟨as, ρ, h, S, R, Ok.bind o fun vs h1 as1 H1 vs' f1 r1 o1 => ?_⟩
  split at o1
  · rename_i hl
    simp only [Res.bind_ok, asgTa, bindTg] at o1
    split at o1
    · rename_i ρ1 qb
      split at qb
      · rename_i hl2
        cases qb
        have hlen : vs.length = 2 := by simpa using hl2
        match vs, hlen, r1, o1 with
        | [v, w], _, r1, o1 =>
          obtain ⟨v', w', rfl, rv, rw'⟩ := r1.two
          refine ⟨v', w', rfl, ?_⟩
          have R1 := ((R.fut f1).set i rv).set j rw'
          exact o1 as1 H1 (.nx _) (Fut.refl f1.sr) R1
      · cases qb
    · exact False.elim o1
  · exact False.elim o1
def rMulA : V → V → Hp → VK → Prop := fun x y H Q => ∃ i j : Int, x = .int i ∧ y = .int j ∧ CMulW i j ∧ Q (.int (i * j)) H
theorem in_mulA : InOp X .Mult rMulA := by
  rintro pins s σ H x y u v Q I rx ry ⟨i, j, rfl, rfl, hc, q⟩
  obtain ⟨t, rfl⟩ := (show ∃ t, u = Value.int i t from rx)
  obtain ⟨t', rfl⟩ := (show ∃ t', v = Value.int j t' from ry)
  exact PyProof.Rows.imul_int ⟨.int (i * j), H, I.tok _, ⟨_, rfl⟩, q⟩ hc.ok
theorem okS_aug (O : XOk G T nm call fx X E) {op : Bop} {i : Nat} {e : Ex} {x : Str} {y : Expr} {px p : Pos} (hop : op = .add ∨ op = .sub ∨ op = .mul) (ht : chkNm fx i (.Name x px) = true) (he : PE X y (tE G E (evE T call e))) :
    PS X (.AugAssign (.Name x px) op.py y p) (tS G E (exS T call W (.aug (.nm i) op e))) := by
  simp only [chkNm, Bool.and_eq_true, decide_eq_true_eq, List.contains_iff_mem] at ht
  obtain ⟨l, f⟩ := O.st x ht.2
  rcases hop with rfl | rfl | rfl
  · refine (ps_aug (i := i) O.nd (by rw [O.N]; exact ht.1) l he (op := .Add) (ti := rAdd) (fun pins s σ H x y v u Q I rx ry h => in_add pins s σ H x y v u Q I rx ry h) f).imp fun D σ H ⟨as, ρ, h, S, R, o⟩ => ?_
    simp only [exS] at o
    split at o
    · rename_i v q
      obtain ⟨v', e', rv⟩ := R.2 i v q
      refine ⟨v', e', as, ρ, h, S, R, Ok.bind o fun w h1 as1 H1 w' f1 r1 o1 => ?_⟩
      cases v with
      | int a =>
        cases w with
        | int b =>
          obtain rfl := rv.intE
          obtain rfl := r1.intE
          exact ⟨_, _, rfl, rfl, o1 as1 H1 (.nx _) (Fut.refl f1.sr) ((R.fut f1).set i (.int _))⟩
        | _ => exact False.elim o1
      | _ => exact False.elim o1
    · exact False.elim o
  · refine (ps_aug (i := i) O.nd (by rw [O.N]; exact ht.1) l he (op := .Sub) (ti := rSub) (fun pins s σ H x y v u Q I rx ry h => in_sub pins s σ H x y v u Q I rx ry h) f).imp fun D σ H ⟨as, ρ, h, S, R, o⟩ => ?_
    simp only [exS] at o
    split at o
    · rename_i v q
      obtain ⟨v', e', rv⟩ := R.2 i v q
      refine ⟨v', e', as, ρ, h, S, R, Ok.bind o fun w h1 as1 H1 w' f1 r1 o1 => ?_⟩
      cases v with
      | int a =>
        cases w with
        | int b =>
          obtain rfl := rv.intE
          obtain rfl := r1.intE
          exact ⟨_, _, rfl, rfl, o1 as1 H1 (.nx _) (Fut.refl f1.sr) ((R.fut f1).set i (.int _))⟩
        | _ => exact False.elim o1
      | _ => exact False.elim o1
    · exact False.elim o
  · refine (ps_aug (i := i) O.nd (by rw [O.N]; exact ht.1) l he (op := .Mult) (ti := rMulA) (fun pins s σ H x y v u Q I rx ry h => in_mulA pins s σ H x y v u Q I rx ry h) f).imp fun D σ H ⟨as, ρ, h, S, R, o⟩ => ?_
    simp only [exS] at o
    split at o
    · rename_i v q
      obtain ⟨v', e', rv⟩ := R.2 i v q
      refine ⟨v', e', as, ρ, h, S, R, Ok.bind o fun w h1 as1 H1 w' f1 r1 o1 => ?_⟩
      cases v with
      | int a =>
        cases w with
        | int b =>
          obtain rfl := rv.intE
          obtain rfl := r1.intE
          dsimp only at o1
          split at o1
          · rename_i hb
            exact ⟨_, _, rfl, rfl, (show _ < 1000000 from of_decide_eq_true hb), o1 as1 H1 (.nx _) (Fut.refl f1.sr) ((R.fut f1).set i (.int _))⟩
          · exact False.elim o1
        | _ => exact False.elim o1
      | _ => exact False.elim o1
    · exact False.elim o
end
end Mn
set_option Elab.async false
set_option linter.all false
set_option maxRecDepth 100000
set_option maxHeartbeats 2000000
namespace Mn
open PySem PySem.Spec L2 PyProof.Rows
section
variable {G : Gm} {as as' : List Addr} {H H' : Hp}
structure Kv (H H' : Hp) : Prop where
  tups : ∀ b xs, H b = some (.tup xs) → H' b = some (.tup xs)
  frzT : ∀ b o xs, H b = some (.frz o (.tup xs)) → H' b = some (.frz o (.tup xs))
  frzL : ∀ b o xs, H b = some (.frz o (.lst xs)) → H' b = some (.frz o (.lst xs))
theorem Kv.sqT {K : PySem.W.Frag} (k : Kv H H') {a : Addr} {xs : List V} (r : SqT K H a xs) : SqT K H' a xs := by
  rcases r with (r | ⟨o, r⟩) | r
  · exact .inl (.inl (k.tups _ _ r))
  · exact .inl (.inr ⟨o, k.frzT _ _ _ r⟩)
  · exact .inr r
theorem Kv.sqF {K : PySem.W.Frag} (k : Kv H H') {a : Addr} {xs : List V} (r : SqF K H a xs) : SqF K H' a xs := by
  rcases r with ⟨o, r⟩ | r
  · exact .inl ⟨o, k.frzL _ _ _ r⟩
  · exact .inr r
mutual
theorem RepV.kv (k : Kv H H') : ∀ {x : PV} {v : V}, RepV G as H x v → RepV G as H' x v
  | .non, _, h => h
  | .bl _, _, h => h
  | .int _, _, h => h
  | .str _, _, h => h
  | .tup xs, v, h => by
    unfold RepV at h ⊢
    obtain ⟨a, vs, e, s, r⟩ := h
    exact ⟨a, vs, e, k.sqT s, RepVs.kv k r⟩
  | .ref l, v, h => by
    unfold RepV at h ⊢
    exact h
  | .frk xs, v, h => by
    unfold RepV at h ⊢
    obtain ⟨a, vs, e, s, r⟩ := h
    exact ⟨a, vs, e, k.sqF s, RepVs.kv k r⟩
  | .fn _, _, h => h
  | .cls _, _, h => h
  | .ty _, _, h => h
theorem RepVs.kv (k : Kv H H') : ∀ {xs : List PV} {vs : List V}, RepVs G as H xs vs → RepVs G as H' xs vs
  | [], _, h => h
  | x :: xs, vs, h => by
    unfold RepVs at h ⊢
    obtain ⟨v, r, e, h1, h2⟩ := h
    exact ⟨v, r, e, RepV.kv k h1, RepVs.kv k h2⟩
end
theorem RepK.kv (k : Kv H H') : ∀ {xs : List (Key × PV)} {vs : List (Key × V)}, RepK G as H xs vs → RepK G as H' xs vs
  | [], _, h => h
  | (_, x) :: xs, vs, h => by
    unfold RepK at h ⊢
    obtain ⟨v, r, e, h1, h2⟩ := h
    exact ⟨v, r, e, h1.kv k, RepK.kv k h2⟩
theorem RepF.kv (k : Kv H H') : ∀ {xs : List (Nat × PV)} {vs : List (Str × V)}, RepF G as H xs vs → RepF G as H' xs vs
  | [], _, h => h
  | (_, x) :: xs, vs, h => by
    unfold RepF at h ⊢
    obtain ⟨n, v, r, e, en, h1, h2⟩ := h
    exact ⟨n, v, r, e, en, h1.kv k, RepF.kv k h2⟩
theorem RepO.kv (k : Kv H H') {o : PO} {a : Addr} (e : H' a = H a) (h : RepO G as H o a) : RepO G as H' o a := by
  cases o with
  | lst xs => obtain ⟨vs, e1, r⟩ := h; exact ⟨vs, e.trans e1, r.kv k⟩
  | frz xs => obtain ⟨o, vs, e1, r⟩ := h; exact ⟨o, vs, e.trans e1, r.kv k⟩
  | dic kvs => obtain ⟨ks, e1, r⟩ := h; exact ⟨ks, e.trans e1, r.kv k⟩
  | fdic kvs => obtain ⟨ob, ks, e1, r⟩ := h; exact ⟨ob, ks, e.trans e1, r.kv k⟩
  | ins c fs => obtain ⟨dx, gs, e1, r⟩ := h; exact ⟨dx, gs, e.trans e1, r.kv k⟩
  | dice b => obtain ⟨i, j, m, e1, r⟩ := h; exact ⟨i, j, m, e.trans e1, r⟩
theorem kv_thaw {a : Addr} {od : Obj} {ks : List (Key × V)} (e : H a = some (.frz od (.dK ks))) : Kv H (upd H a (.dK ks)) :=
  ⟨fun b xs q => by rw [upd_ne (fun z => by subst z; rw [e] at q; cases q)]; exact q, fun b o xs q => by rw [upd_ne (fun z => by subst z; rw [e] at q; cases q)]; exact q, fun b o xs q => by rw [upd_ne (fun z => by subst z; rw [e] at q; cases q)]; exact q⟩
theorem Fut.thaw {h h2 : PH} {l : Nat} {a : Addr} {od : Obj} {ks : List (Key × V)} {kvs : List (Key × PV)} {H2 : Hp} (S : SR G as H h) (hl : h[l]? = some (.dic kvs)) (ea : as[l]? = some a) (ed : H a = some (.dK ks)) (rk : RepK G as H kvs ks)
    (f : Fut G as (upd H a (.frz od (.dK ks))) as' H2 h2) : H2 a = some (.frz od (.dK ks)) ∧ Fut G as H as' (upd H2 a (.dK ks)) (h2.set l (.dic kvs)) := by
  have e2 : H2 a = some (.frz od (.dK ks)) := f.kp.frzs _ _ _ upd_same
  have kv := kv_thaw e2
  have ea' := pre_get f.pre ea
  have hne : ∀ {b : Addr} {o : HO}, H b = some o → (∀ ks', o ≠ .dK ks') → b ≠ a := fun q n z => by rw [z, ed] at q; exact n _ (Option.some.inj q).symm
  have k1 : Kp H (upd H a (.frz od (.dK ks))) := Kp.mut ed (fun _ z => by cases z) (fun _ _ z => by cases z)
  refine ⟨e2, f.pre, ⟨fun b xs q => ?_, fun b o u q => ?_⟩, ⟨f.sr.nd, by rw [List.length_set]; exact f.sr.len, fun m ob b e1 em => ?_⟩, fun b hb hn => ?_, fun b o q hn => ?_⟩
  · have nb : b ≠ a := hne q (fun _ z => by cases z)
    rw [upd_ne nb]
    exact f.kp.tups _ _ (by rw [upd_ne nb]; exact q)
  · have nb : b ≠ a := hne q (fun _ z => by cases z)
    rw [upd_ne nb]
    exact f.kp.frzs _ _ _ (by rw [upd_ne nb]; exact q)
  · by_cases hm : m = l
    · subst hm
      rw [ea'] at em
      cases em
      have hlt : m < h2.length := by rw [← f.sr.len]; exact (List.getElem?_eq_some_iff.mp ea').1
      rw [List.getElem?_set_self hlt] at e1
      cases e1
      exact ⟨ks, upd_same, ((rk.mono (List.prefix_refl _) k1).mono f.pre f.kp).kv kv⟩
    · rw [List.getElem?_set_ne (Ne.symm hm)] at e1
      refine (f.sr.at_ m ob b e1 em).kv kv (upd_ne ?_)
      intro z
      subst z
      obtain ⟨h1, q1⟩ := List.getElem?_eq_some_iff.mp em
      obtain ⟨h3, q2⟩ := List.getElem?_eq_some_iff.mp ea'
      exact hm ((List.getElem_inj f.sr.nd).mp (q1.trans q2.symm))
  · have := f.fresh b hb hn
    by_cases hb2 : b = a
    · exact absurd (by rw [hb2]; exact List.mem_of_getElem? ea) hn
    · rwa [upd_ne hb2] at this
  · have nb : b ≠ a := fun z => hn (by rw [z]; exact List.mem_of_getElem? ea)
    rw [upd_ne nb]
    exact f.frame b o (by rw [upd_ne nb]; exact q) hn
end
section
variable {G : Gm} {T : Tb} {nm : Nm} {call : Nat → List PV → PH → Res PV} {fx : Fx} {X : Cx} {E : XK}
theorem ok_lock {as : List Addr} {H : Hp} {h : PH} {l : Nat} {a : Addr} {od : Obj} {ks : List (Key × V)} {kvs : List (Key × PV)} {Q : V → Hp → Prop} (S : SR G as H h) (hl : h[l]? = some (.dic kvs)) (ea : as[l]? = some a) (ed : H a = some (.dK ks)) (rk : RepK G as H kvs ks) : ∀ {r : Res PV}, OkV G E as H Q (r.noer.bind fun v h2 => .ok v (h2.set l (.dic kvs))) →
    OkV G E as (upd H a (.frz od (.dK ks))) (fun v H' => H' a = some (.frz od (.dK ks)) ∧ Q v (upd H' a (.dK ks))) r := fun {r} o => by
  induction r with
  | ok v h2 =>
    intro as' H2 v' f rv
    obtain ⟨e2, f2⟩ := Fut.thaw S hl ea ed rk f
    exact ⟨e2, o as' _ v' f2 (rv.kv (kv_thaw e2))⟩
  | er x h2 => exact False.elim o
  | stuck => exact False.elim o
  | all n f ih => exact fun i hi => ih i (o i hi)
theorem okE_lck {i : Nat} {e : Ex} {x : Expr} (he : PE X x (tE G E (evE T call e))) : PE X x (tE G E (evE T call (.lck i e))) := by
  refine (pe_lock he).imp fun σ H Q ⟨as, ρ, h, S, R, o⟩ => ?_
  simp only [evE] at o
  split at o
  · rename_i l hi
    split at o
    · rename_i kvs hl
      obtain ⟨v', ev, rv⟩ := R.2 i _ hi
      obtain ⟨a, ea, rfl⟩ := rv.refE
      obtain ⟨ks, ed, rk⟩ := S.dic hl ea
      have k1 : ∀ od, Kp H (upd H a (.frz od (.dK ks))) := fun od => Kp.mut ed (fun _ z => by cases z) (fun _ _ z => by cases z)
      refine ⟨a, .dK ks, ed, trivial, fun od => ?_⟩
      have f := S.set (o := .fdic kvs) ea (k1 od) ⟨od, ks, upd_same, rk.mono (List.prefix_refl _) (k1 od)⟩
      exact ⟨as, ρ, _, f.sr, R.fut f, ok_lock S hl ea ed rk o⟩
    · exact False.elim o
  · exact False.elim o
theorem RepK.fsts {as : List Addr} {H : Hp} : ∀ {kvs : List (Key × PV)} {ks : List (Key × V)}, RepK G as H kvs ks → kvs.map (·.1) = ks.map (·.1)
  | [], ks, r => by unfold RepK at r; subst r; rfl
  | (k, x) :: kvs, ks, r => by
    unfold RepK at r
    obtain ⟨v, r', rfl, h1, h2⟩ := r
    rw [List.map_cons, List.map_cons, RepK.fsts h2]
theorem key_of {as : List Addr} {H : Hp} (k : Key) : RepV G as H (ofKey k) (kV k) := by
  cases k with
  | inl i => unfold ofKey RepV; rfl
  | inr x =>
    unfold ofKey RepV
    show V.str x = V.str ⟨x.cps.toList.toArray⟩
    cases x
    simp
theorem okI_keys (O : XOk G T nm call fx X E) {tg x : Expr} {e : Ex} (hs : ∀ y, e ≠ .star y) (he : PE X x (tE G E (evE T call e))) : PI X tg x (tI G E (evI T call .keys [e])) := by
  refine PI.imp (pi_keys he) fun σ H R q => ?_
  obtain ⟨as, ρ, h, S, Rρ, o⟩ := q
  rw [evI_one hs] at o
  refine ⟨as, ρ, h, S, Rρ, Ok.bind o fun v h1 as1 H1 v' f1 r1 o1 => ?_⟩
  cases v with
  | ref l =>
    obtain ⟨a, ea, rfl⟩ := r1.refE
    simp only [wkOf] at o1
    cases q : h1[l]? with
    | none => rw [q] at o1; exact False.elim o1
    | some ob =>
      rw [q] at o1
      cases ob with
      | fdic kvs =>
        obtain ⟨od, ks, ed, rk⟩ := f1.sr.fdic q ea
        refine ⟨a, od, rfl, .inl ⟨ks, ed, o1 as1 H1 _ (Fut.refl f1.sr) fun as' H' h' hp kp S' i => ?_⟩⟩
        have ed' := kp.frzs _ _ _ ed
        have ef := rk.fsts
        have el : kvs.length = ks.length := by have := congrArg List.length ef; simpa using this
        refine ⟨fun ew => ⟨ed', ?_⟩, fun y ew => ?_⟩
        · simp only [wkAt, Option.some.injEq] at ew
          have := List.getElem?_eq_none_iff.mp ew
          rw [List.length_map] at this
          omega
        · simp only [wkAt, Option.some.injEq, List.getElem?_map] at ew
          obtain ⟨kv, ek, rfl⟩ := Option.map_eq_some_iff.mp ew
          have hlt := (List.getElem?_eq_some_iff.mp ek).1
          refine ⟨⟨ed', by omega⟩, fun u H2 ⟨e1, k, v, ekv, ex⟩ => ?_⟩
          subst e1 ex
          have q1 : (kvs.map (·.1))[i]? = some kv.1 := by rw [List.getElem?_map, ek]; rfl
          rw [ef, List.getElem?_map, ekv] at q1
          have q2 : k = kv.1 := Option.some.inj q1
          rw [q2]
          exact ⟨Fut.refl S', key_of _⟩
      | _ => exact False.elim o1
  | _ => exact False.elim o1
theorem samP_ok {as : List Addr} {H : Hp} {x y : PV} {v w : V} (e : samP x y = true) (r1 : RepV G as H x v) (r2 : RepV G as H y w) : v = w ∧ flatB v = true := by
  cases x <;> cases y <;> simp only [samP] at e <;> first
    | (cases e; done)
    | (rw [r1.nonE, r2.nonE]; exact ⟨rfl, rfl⟩)
    | (rw [r1.blE, r2.blE, beq_iff_eq.mp e]; exact ⟨rfl, rfl⟩)
    | (rw [r1.intE, r2.intE, of_decide_eq_true e]; exact ⟨rfl, rfl⟩)
    | (rw [r1.strE, r2.strE, of_decide_eq_true e]; exact ⟨rfl, rfl⟩)
theorem op_deq (hu : X.A.units < cLine) : OpR X (compareOp .Eq) (rP2 G E pDeq) := by
  intro pins s σ H x y v u Q I rx ry ⟨as, h, va, vb, S, ra, rb, o⟩
  unfold pDeq at o
  split at o
  · rename_i l m
    obtain ⟨a, ea, rfl⟩ := ra.refE
    obtain ⟨b, eb, rfl⟩ := rb.refE
    obtain rfl : v = Value.ref a := rx
    obtain rfl : u = Value.ref b := ry
    split at o
    · rename_i ks ls hl hm
      obtain ⟨ksv, eda, rka⟩ := S.dic hl ea
      obtain ⟨lsv, edb, rkb⟩ := S.dic hm eb
      obtain ⟨_, ya, va', ra', da⟩ := (show ObjOk X.prog X.w H s.heap a (.dK ksv) from I.hok a _ eda)
      obtain ⟨_, yb, vb', rb', db⟩ := (show ObjOk X.prog X.w H s.heap b (.dK lsv) from I.hok b _ edb)
      obtain ⟨c, ec, q⟩ := ob_ok o S
      have l1 : ks.length = va'.length := by rw [rka.length, ra'.length]
      have l2 : ls.length = vb'.length := by rw [rkb.length, rb'.length]
      unfold dicEq at ec
      split at ec
      · rename_i hlen
        split at ec
        · rename_i hall
          cases ec
          have hp : ∀ p ∈ ksv, valV lsv p.1 = some p.2 ∧ flatB p.2 = true := fun p hp => by
            have gen : ∀ {ks : List (Key × PV)} {ksv : List (Key × V)}, RepK G as H ks ksv → (∀ q ∈ ks, (match dLook ls q.1 with | some w => samP q.2 w | none => false) = true) → ∀ p ∈ ksv, valV lsv p.1 = some p.2 ∧ flatB p.2 = true := fun {ks} => by
              induction ks with
              | nil => intro ksv r _ p hp; unfold RepK at r; subst r; cases hp
              | cons q ks ih =>
                intro ksv r k p hp
                obtain ⟨k0, x0⟩ := q
                unfold RepK at r
                obtain ⟨v0, r', rfl, h1, h2⟩ := r
                rcases List.mem_cons.mp hp with rfl | hp
                · have := k (k0, x0) (List.mem_cons_self ..)
                  simp only at this
                  cases ed : dLook ls k0 with
                  | none => rw [ed] at this; cases this
                  | some w0 =>
                    rw [ed] at this
                    obtain ⟨z, ez, rz⟩ := (dLook_ok _ rkb).1 _ ed
                    obtain ⟨e1, e2⟩ := samP_ok this h1 rz
                    exact ⟨by rw [ez, e1], e2⟩
                · exact ih h2 (fun q hq => k q (List.mem_cons_of_mem _ hq)) p hp
            exact gen rka (List.all_eq_true.mp hall) p hp
          exact PySem.W.keq_eq (knd := mixKind X.prog X.w) (r := true) ya yb da db hu (fun _ => hits_all rb' ra' hp) (fin_bl I q (by simp; omega))
        · cases ec
      · rename_i hlen
        cases ec
        exact PySem.W.keq_eq (knd := mixKind X.prog X.w) (r := true) ya yb da db hu (fun z => absurd (by omega) hlen) (fin_bl I q (by simp; omega))
    · exact False.elim o
  · exact False.elim o
theorem pDeq_form (v w : PV) (h : PH) : pDeq v w h = .stuck ∨ ∃ b, pDeq v w h = .ok (.bl b) h := by
  unfold pDeq
  split
  · split
    · unfold ob
      split
      · exact .inr ⟨_, rfl⟩
      · exact .inl rfl
    · exact .inl rfl
  · exact .inl rfl
theorem okE_deq (O : XOk G T nm call fx X E) {a b : Ex} {x y : Expr} {p : Pos} (hm : noSet y = true) (ha : PE X x (tE G E (evE T call a))) (hb : PE X y (tE G E (evE T call b))) : PE X (.Compare x [.Eq] [y] p) (tE G E (evE T call (.deq a b))) := by
  refine (pe_cmpR (op_deq (G := G) (E := E) (by have := O.hu; omega)) ha hb (noSet_ok hm)).imp fun σ H Q q => ?_
  refine two_parts (fun _ _ _ _ h => h) ?_
  simpa only [tE, evE] using q
theorem okT_deq (O : XOk G T nm call fx X E) {a b : Ex} {x y : Expr} {p : Pos} (hm : noSet y = true) (ha : PE X x (tE G E (evE T call a))) (hb : PE X y (tE G E (evE T call b))) : PT X (.Compare x [.Eq] [y] p) (tT G E (evT T call (.deq a b))) := by
  refine (pt_cmpR (op_deq (G := G) (E := E) (by have := O.hu; omega)) ha hb (noSet_ok hm)).imp fun σ H Q ⟨as, ρ, h, S, R, o⟩ => ?_
  simp only [evT, evE, Res.bind_assoc] at o
  refine ⟨as, ρ, h, S, R, Ok.bind o fun v h1 as1 H1 v' f1 r1 o1 => ⟨as1, ρ, h1, f1.sr, R.fut f1, Ok.bind o1 fun w h2 as2 H2 w' f2 r2 o2 => ?_⟩⟩
  refine ⟨as2, h2, v, w, f2.sr, r1.fut f2, r2, ?_⟩
  rcases pDeq_form v w h2 with e | ⟨b, e⟩
  · rw [e] at o2; exact False.elim o2
  · rw [e] at o2 ⊢
    exact fun as' H' v'' f r => ⟨b, r.blE, o2 as' H' b f rfl⟩
theorem SR.newX {as : List Addr} {H H' : Hp} {h : PH} (S : SR G as H h) {p : Addr} {xs : List PV} {ws : List V} (hx : ∀ b o, H b = some o → H' b = some o) (hp : H p = none) (hl : H' p = some (.lst ws)) (r : RepVs G as H' xs ws) :
    Fut G as H (as ++ [p]) H' (h ++ [.lst xs]) ∧ RepV G (as ++ [p]) H' (.ref h.length) (.ref p) := by
  have hn : p ∉ as := fun hm => by
    obtain ⟨l, hl, e⟩ := List.getElem_of_mem hm
    have e1 : as[l]? = some p := by rw [List.getElem?_eq_getElem hl, e]
    have hl2 : l < h.length := by rw [← S.len]; exact hl
    exact (S.at_ l _ p (List.getElem?_eq_getElem hl2) e1).there hp
  have pr : as <+: as ++ [p] := List.prefix_append _ _
  have kp : Kp H H' := ⟨fun b xs e => hx b _ e, fun b o u e => hx b _ e⟩
  refine ⟨⟨pr, kp, ⟨?_, by simp [S.len], fun l ob a e1 e2 => ?_⟩, fun b hb hn => ?_, fun b o e _ => hx b o e⟩, ?_⟩
  · rw [List.nodup_append]
    exact ⟨S.nd, by simp, fun a ha b hb e => by simp at hb; subst hb; subst e; exact hn ha⟩
  · by_cases hl2 : l < as.length
    · rw [List.getElem?_append_left hl2] at e2
      rw [List.getElem?_append_left (by rw [← S.len]; exact hl2)] at e1
      have q := S.at_ l ob a e1 e2
      refine q.mono pr kp ?_
      cases z : H a with
      | none => exact absurd z q.there
      | some o => exact hx a o z
    · have hl3 : l = as.length := by
        have := (List.getElem?_eq_some_iff.mp e2).1
        simp at this
        omega
      subst hl3
      rw [S.len, List.getElem?_append_right (Nat.le_refl _)] at e1
      rw [List.getElem?_append_right (Nat.le_refl _)] at e2
      simp at e1 e2
      subst e1 e2
      exact ⟨ws, hl, r.mono pr (Kp.refl _)⟩
  · rw [List.mem_append] at hb
    rcases hb with hb | hb
    · exact absurd hb hn
    · simp at hb; subst hb; exact hp
  · unfold RepV
    exact ⟨p, by rw [← S.len, List.getElem?_append_right (Nat.le_refl _)]; simp, rfl⟩
theorem items_rep {as : List Addr} {H H' : Hp} (kp : Kp H H') : ∀ {kvs : List (Key × PV)} {ks : List (Key × V)} {ts : List Addr}, RepK G as H kvs ks → Paired (fun (t : Addr) (q : Key × V) => H' t = some (.tup [kV q.1, q.2])) ts ks → RepVs G as H' (kvs.map fun q => .tup [ofKey q.1, q.2]) (ts.map V.ref)
  | [], ks, ts, r, pp => by
    unfold RepK at r
    subst r
    cases pp
    exact .nil
  | (k, x) :: kvs, ks, ts, r, pp => by
    unfold RepK at r
    obtain ⟨v, r', rfl, h1, h2⟩ := r
    cases pp with
    | cons q1 q2 =>
      refine .cons ?_ (items_rep kp h2 q2)
      unfold RepV
      exact ⟨_, _, rfl, .of q1, .cons (key_of k) (.cons (h1.mono (List.prefix_refl _) kp) .nil)⟩
theorem okE_lit (O : XOk G T nm call fx X E) {o : Ex} {xo : Expr} {p ap cp pos : Pos} (hg : glB fx.names "list" = true) (hb : baseB xo = true) (hl : (ap.endLine == cp.line) = true) (ho : PE X xo (tE G E (evE T call o))) :
    PE X (.Call (.Name "list" p) [.Call (.Attribute xo "items" ap) [] [] cp] [] pos) (tE G E (evE T call (.lit o))) := by
  refine (LiI.pe_listItems O.calm ho (gl_ok O hg) (O.bl .list) PyProof.Rows.boot_list (base_ok hb) hl).imp fun σ H Q ⟨as, ρ, h, S, R, o⟩ => ?_
  simp only [evE] at o
  refine ⟨as, ρ, h, S, R, Ok.bind o fun v h1 as1 H1 v' f1 r1 o1 => ?_⟩
  split at o1
  · rename_i l
    obtain ⟨a, ea, rfl⟩ := r1.refE
    split at o1
    · rename_i kvs ql
      obtain ⟨ks, ed, rk⟩ := f1.sr.dic ql ea
      refine ⟨a, ks, rfl, ed, fun H' p ts hx hp ht hn hl pp => ?_⟩
      have kp : Kp H1 H' := ⟨fun b xs e => hx b _ e, fun b o u e => hx b _ e⟩
      obtain ⟨f, r2⟩ := f1.sr.newX hx hp hl (items_rep kp rk pp)
      exact okn o1 f r2
    · exact False.elim o1
  · exact False.elim o1
end
end Mn
set_option Elab.async false
set_option linter.all false
set_option maxRecDepth 100000
set_option maxHeartbeats 1000000
namespace Mn
open PySem PySem.Spec L2 PyProof.Rows
section
variable {prog : Program} {w : World} {A : Around} {E : Value → Shared → Prop} {s : Shared} {K : Type} [DecidableEq K] {knd : KeyKind prog w K} {kvs : List (K × Value)} {ep : Nat} {r d : Addr}
theorem collect_its {R : List Value → Shared → Prop} (hh : A.handled = none) (hv : s.heap.IsItemsView r d) (hm : s.heap.DictAt knd d kvs ep) (hn : kvs.length ≤ sizeLine)
    (h : ∀ (h' : Heap) (tk : Nat) (acc : Array Value) (c : Nat) (as : List Addr), (∀ b o, s.heap.get? b = some o → h'.get? b = some o) → h'.get? s.heap.objs.size = some { cls := .type "list", dict := none, data := .seq acc c, slots := #[] } → as.length = kvs.length → PySem.W.KdxG knd kvs s.heap.objs.size h' as → acc.toList = as.map Value.ref → R (as.map Value.ref) { s with heap := h', toks := tk }) :
    wpAny (model prog w) A (collect (.ref r)) R E s := by
  have l1 : r < s.heap.objs.size := let ⟨_, ho, _⟩ := hv; Heap.lt_size ho
  have l2 : d < s.heap.objs.size := hm.lt_size
  have l3 : (s.heap.push { cls := .type "list", data := .seq ([] : List Value).toArray }).get? s.heap.objs.size = some { cls := .type "list", data := .seq #[] } := Heap.get?_push_size _ rfl
  have k := PySem.W.kdx_extend (A := A) (s := { s with heap := s.heap.push { cls := .type "list", data := .seq ([] : List Value).toArray } }) (knd := knd) (kvs := kvs) (ep := ep)
    (R := fun (q : Result) (s' : Shared) => q = .ok (.ret (.ref s.heap.objs.size)) ∧ ∃ (h' : Heap) (tk : Nat) (acc : Array Value) (c : Nat) (as : List Addr), s' = { s with heap := h', toks := tk } ∧
      (∀ b o, s.heap.get? b = some o → h'.get? b = some o) ∧ h'.get? s.heap.objs.size = some { cls := .type "list", dict := none, data := .seq acc c, slots := #[] } ∧ as.length = kvs.length ∧ PySem.W.KdxG knd kvs s.heap.objs.size h' as ∧ acc.toList = as.map Value.ref)
    hh (let ⟨o, ho, x⟩ := hv; ⟨o, Heap.get?_push_of_some _ ho, x⟩) (hm.push _) s.heap.objs.size (Nat.ne_of_gt l1) (Nat.ne_of_lt l2) (.ref s.heap.objs.size) 0 l3
    (fun h' tk acc c as k1 k2 k3 k4 k5 => ⟨rfl, h', tk, acc, c, as, rfl, fun b o e => k1 b o (Nat.ne_of_lt (Heap.lt_size e)) (Heap.get?_push_of_some _ e), k2, k3, k4.low (by show s.heap.objs.size ≤ (s.heap.push _).objs.size; rw [Heap.size_push]; exact Nat.le_succ _), k5⟩) hn
  have fin : ∀ (s' : Shared) (h' : Heap) (tk : Nat) (acc : Array Value) (c : Nat) (as : List Addr), s' = { s with heap := h', toks := tk } → (∀ b o, s.heap.get? b = some o → h'.get? b = some o) → h'.get? s.heap.objs.size = some { cls := .type "list", dict := none, data := .seq acc c, slots := #[] } → as.length = kvs.length → PySem.W.KdxG knd kvs s.heap.objs.size h' as → acc.toList = as.map Value.ref →
      wpAny (model prog w) A (match Value.ref s.heap.objs.size with
        | Value.ref a => do
          match (← load a).data with
            | Data.seq xs _ => pure xs.toList
            | _ => unsupported "internal:collect"
        | _ => unsupported "internal:collect") R E s' := fun s' h' tk acc c as e k1 k2 k3 k4 k5 => by
    subst e
    refine wpAny_bind (m := load s.heap.objs.size) (wpAny_load k2 (wpAny_pure ?_))
    show R acc.toList _
    rw [k5]
    exact h h' tk acc c as k1 k2 k3 k4 k5
  unfold collect
  refine wpAny_bind (wpAny_runValue (codeAny_builtin F.entry_proto_collect ?_))
  rw [Around.under_plainId F.plain_proto_collect _]
  show wpAny _ A.in1 (newList [] >>= fun l => again (.builtin "list.__iadd__" ⟨[l, .ref r], []⟩)) _ _ s
  refine wpAny_bind (wpAny_newObj_type (wpAny_pure ⟨plainId_quiet F.plain_list_iadd _, codeAny_builtin F.entry_list_iadd ?_⟩))
  rw [Around.under_plainId F.plain_list_iadd _]
  show wpAny _ A.in1 (Builtin.List.listExtendWith (.ref s.heap.objs.size) (.ref r) (.ref s.heap.objs.size)) _ _ _
  refine wpAny_mono k (fun f s' x => ?_) fun e s' x => ?_
  · cases f with
    | done f =>
      obtain ⟨e, h', tk, acc, c, as, e1, k1, k2, k3, k4, k5⟩ := x
      cases e
      exact fin s' h' tk acc c as e1 k1 k2 k3 k4 k5
    | again c1 =>
      refine ⟨x.1, codeAny_mono x.2 fun q s2 y => ?_⟩
      obtain ⟨rfl, h', tk, acc, c, as, e1, k1, k2, k3, k4, k5⟩ := y
      exact fin s2 h' tk acc c as e1 k1 k2 k3 k4 k5
  · obtain ⟨e', _⟩ := x
    cases e'
theorem tuple_its {Q : Value → Shared → Prop} (hh : A.handled = none) (hv : s.heap.IsItemsView r d) (hm : s.heap.DictAt knd d kvs ep) (hn : kvs.length ≤ sizeLine)
    (h : ∀ (h' : Heap) (tk : Nat) (acc : Array Value) (c : Nat) (as : List Addr), (∀ b o, s.heap.get? b = some o → h'.get? b = some o) → h'.get? s.heap.objs.size = some { cls := .type "list", dict := none, data := .seq acc c, slots := #[] } → as.length = kvs.length → PySem.W.KdxG knd kvs s.heap.objs.size h' as → acc.toList = as.map Value.ref →
      Q (.ref h'.objs.size) { s with heap := h'.push { cls := .type "tuple", data := .seq (as.map Value.ref).toArray }, toks := tk }) :
    wpAny (model prog w) A (call (.type "tuple") [.ref r]) Q E s := by
  have code : codeAny (model prog w) A.in1 (.call (.builtin "tuple.__new__") ⟨[.type "tuple", .ref r], []⟩) (wants (fun obj s1 => s1.TypeIs obj "tuple" ∧ Q obj s1) E) s := by
    refine codeAny_of_tree ?_
    show wpAny _ A.in1.in1 (do checkBuiltinCall "tuple.__new__" ⟨[.type "tuple", .ref r], []⟩; again (.builtin "tuple.__new__" ⟨[.type "tuple", .ref r], []⟩)) _ _ s
    refine wpAny_bind (wpAny_of_eq (F.newCall_tuple_1 _) (wpAny_pure ⟨plainId_quiet F.plain_tuple_new _, codeAny_builtin F.entry_tuple_new ?_⟩))
    rw [Around.under_plainId F.plain_tuple_new _]
    have q1 := sub_tuple_self
    have q2 := init_tuple_lookup
    have q3 := madeHere_tuple
    have q4 : s.TypeIs (.ref r) "dict_items" := let ⟨o, ho, hc, _⟩ := hv; ⟨o, ho, hc⟩
    have q5 : A.in1.in1.handled = none := hh
    wp_walk using wpAny_typeOf q4, collect_its (A := A.in1.in1) (knd := knd) (kvs := kvs) (ep := ep) q5 hv hm hn
    intro h' tk acc c as k1 k2 k3 k4 k5
    show wpAny _ _ (Builtin.Tuple.tupleExact (as.map Value.ref).toArray >>= fun v => ret v) _ _ _
    unfold Builtin.Tuple.tupleExact
    refine wpAny_bind (wpAny_newObj_type ?_ (by show (as.map Value.ref).toArray.size ≤ sizeLine; rw [List.size_toArray, List.length_map, k3]; exact hn))
    exact wpAny_pure ⟨⟨_, Heap.get?_push_size _ rfl, rfl⟩, h h' tk acc c as k1 k2 k3 k4 k5⟩
  refine callType_codes (Q₁ := fun obj s1 => s1.TypeIs obj "tuple" ∧ Q obj s1) F.called_tuple (F.typeCall_tuple_1 _) F.entry_object_init code fun obj s1 h1 => ?_
  exact ⟨h1.1, F.args_object_init_2 obj _, object_init_meets F.called_tuple.init.lookup F.called_tuple.made (by decide) prog w A.in1 _ s1 ⟨h1.1, rfl, h1.2⟩⟩
open SrtO in
theorem sorted_its {Q : Value → Shared → Prop} (hh : A.handled = none) (hv : s.heap.IsItemsView r d) (hm : s.heap.DictAt knd d kvs ep) (hn : kvs.length ≤ sizeLine)
    (hp : ∀ (h' : Heap) (as : List Addr), (∀ b o, s.heap.get? b = some o → h'.get? b = some o) → as.length = kvs.length → PySem.W.KdxG knd kvs s.heap.objs.size h' as → ∃ k : Value → List Nat × List Nat, (∀ v ∈ as.map Value.ref, IsQS h' v (k v)) ∧
      ∀ (tk : Nat) (acc : Array Value) (c : Nat) (h2 : Heap) (p : Addr) (out : List Value), h'.get? s.heap.objs.size = some { cls := .type "list", dict := none, data := .seq acc c, slots := #[] } → acc.toList = as.map Value.ref → Srtd (fun v u => lexPQ (k v) (k u)) out → out.Perm (as.map Value.ref) → (∀ b o, h'.get? b = some o → h2.get? b = some o) → h'.objs.size ≤ p → (∃ n, h2.get? p = some (seqObj "list" out.toArray n)) → Q (.ref p) { s with heap := h2, toks := tk }) :
    wpAny (model prog w) A (call (.builtin "sorted") [.ref r]) Q E s := by
  refine Calls.call_function_entry kind_sorted plain_sorted entry_sorted (args_sorted1 _) ?_
  unfold Builtin.«sorted»
  refine wpAny_bind (m := checkCount "sorted" 1 1 _) (wpAny_pure ?_)
  refine wpAny_bind (collect_its (A := A.in1) (knd := knd) (kvs := kvs) (ep := ep) hh hv hm hn fun h1 tk acc c as k1 k2 k3 k4 k5 => ?_)
  have hz : (as.map Value.ref).length ≤ sizeLine := by rw [List.length_map, k3]; exact hn
  refine wpAny_bind (wpAny_newList ?_ hz)
  obtain ⟨kf, hq, fin⟩ := hp h1 as k1 k3 k4
  have hoL : (h1.push (seqObj "list" (as.map Value.ref).toArray 0)).get? h1.objs.size = some (seqObj "list" (as.map Value.ref).toArray 0) := Heap.get?_push_size _ rfl
  have kk : ∀ b o, h1.get? b = some o → (h1.push (seqObj "list" (as.map Value.ref).toArray 0)).get? b = some o := fun b o e => Heap.get?_push_of_some _ e
  refine wpAny_bind (wpAny_holding (wpAny_call_entry slot_list_sort ⟨_, hoL, rfl⟩ entry_list_sort (list_sort_ord (lexPQ_swoQ kf) hoL hz (fun h2 => ?_) fun out hs hb => ⟨_, rfl, ?_⟩) (args_list_sort _)))
  · refine ps_sortableQ (by omega) (fun v hm' => (hq v hm').keeps fun b o e _ => kk b o e) fun o e => ?_
    have e' : some o = some (seqObj "list" (as.map Value.ref).toArray 0) := e.symm.trans hoL
    cases e'
    intro c
    exact absurd (Value.type.inj c) (by decide)
  · obtain ⟨n, hn2⟩ := sortedHeap_at (vs := as.map Value.ref) (out := out.toArray) hoL
    refine wpAny_pure ⟨_, rfl, fin tk acc c _ h1.objs.size out k2 k5 hs hb.perm (fun b o e => ?_) (Nat.le_refl _) ⟨n, hn2⟩⟩
    have hlt := Heap.lt_size e
    rw [sortedHeap_old (Nat.ne_of_lt hlt) (by rw [size_push']; exact Nat.lt_succ_of_lt hlt)]
    exact kk b o e
end
theorem paired_imp {α β : Type} {R S : α → β → Prop} (h : ∀ a b, R a b → S a b) : ∀ {xs : List α} {ys : List β}, Paired R xs ys → Paired S xs ys
  | [], _, .nil => .nil
  | _ :: _, _, .cons a b => .cons (h _ _ a) (paired_imp h b)
section
variable {X : Cx} {G : Gm} {as : List Addr} {e : Expr} {te : TE} {p apos cpos pos : Pos}
theorem view_arg (he : PE X e te) (hbase : attributeBase e "items" X.env (eval e X.env) = eval e X.env) (hline : (apos.endLine == cpos.line) = true)
    (hs : starEach [.Call (.Attribute e "items" apos) [] [] cpos] X.env = (false, eval (.Call (.Attribute e "items" apos) [] [] cpos) X.env) :: starEach [] X.env) {pins : List (Addr × Obj)} {s : Shared} {σ : L2.St} {H : Hp} {Q : List Value → Shared → Prop} (I : Inv X pins σ H s) {R : Addr → List (Key × V) → Hp → Prop}
    (h : te σ H fun x H1 => ∃ (d : Addr) (kvs : List (Key × V)), x = .ref d ∧ H1 d = some (.dK kvs) ∧ R d kvs H1)
    (k : ∀ (s2 : Shared) (H1 : Hp) (d r : Addr) (kvs : List (Key × V)) (vs : List (Key × Value)) (ep : Nat), Inv X pins σ H1 s2 → s2.heap.IsItemsView r d → s2.heap.DictAt (mixKind X.prog X.w) d vs ep → KV kvs vs → kvs.length ≤ sizeLine → R d kvs H1 → Q [.ref r] s2) :
    wpAny (model X.prog X.w) X.A (spliced (backTo pos (starEach [.Call (.Attribute e "items" apos) [] [] cpos] X.env))) Q X.xe s := by
  rw [hs]
  show wpAny _ _ (spliced ((false, eval (.Call (.Attribute e "items" apos) [] [] cpos) X.env) :: backTo pos (starEach [] X.env))) _ _ s
  refine Calls.spliced_cons (wpAny_Call_method (T := "dict") (id := "dict.items") hbase rfl hline F.plainAttrs_dict F.slot_dict_items F.type_dict_items (thn (he.run pins s σ H _ I h) fun u s1 ⟨x, H1, I1, rx, d, kvs, ex, hd, q⟩ => ?_))
  subst ex
  obtain rfl : u = Value.ref d := rx
  obtain ⟨hz, hs0, vs, kv, hdo⟩ := I1.hok d _ hd
  obtain ⟨ep, hat⟩ := hdo.dictAt
  have I2 : Inv X pins σ H1 { s1 with heap := s1.heap.push { cls := .type "dict_items", data := .fields #[.ref d] } } := I1.kept (t' := s1.toks) fun b ob q => Heap.get?_push_of_some _ q
  refine ⟨hdo.typeIs, hdo.mapOf.noDict, ?_⟩
  show wpAny _ _ (callWith cpos (.builtin "dict.items") [.ref d] [] []) _ X.xe s1
  exact method_meetsIn F.slot_dict_items F.entry_dict_items rfl (PySem.evalArgs_none ⟨rfl, hdo.typeIs, F.args_dict_items_1 _, _, meets_dict_items (mixKind X.prog X.w) d hs0, ⟨vs, hdo⟩, Calls.spliced_nil (k _ H1 d _ kvs vs ep I2 ⟨_, Heap.get?_push_size _ rfl, rfl, rfl⟩ (hat.push _) kv hz q)⟩)
def rItT : Addr → List (Key × V) → Hp → VK → Prop := fun d kvs H Q => ∀ (H' : Hp) (p : Addr) (ts : List Addr), (∀ b o, H b = some o → H' b = some o) → H p = none → H' p = some (.tup (ts.map V.ref)) → Paired (fun (t : Addr) (q : Key × V) => H' t = some (.tup [kV q.1, q.2])) ts kvs → Q (.ref p) H'
theorem pe_tupItems (hc : X.calm = true) (he : PE X e te) (hg : Gl X "tuple") (hm : X.mg "tuple" = none) (hbase : attributeBase e "items" X.env (eval e X.env) = eval e X.env) (hline : (apos.endLine == cpos.line) = true)
    (hs : starEach [.Call (.Attribute e "items" apos) [] [] cpos] X.env = (false, eval (.Call (.Attribute e "items" apos) [] [] cpos) X.env) :: starEach [] X.env := by rfl) :
    PE X (.Call (.Name "tuple" p) [.Call (.Attribute e "items" apos) [] [] cpos] [] pos) (fun σ H Q => te σ H fun x H1 => ∃ (d : Addr) (kvs : List (Key × V)), x = .ref d ∧ H1 d = some (.dK kvs) ∧ rItT d kvs H1 Q) := by
  refine ⟨fun pins s σ H Q I hq => ?_⟩
  refine wpAny_Call_Name_kw (ld_blt I hg hm PyProof.Rows.boot_tuple ?_)
  refine PyProof.Rows.callWith_type1 (view_arg he hbase hline hs I hq fun s2 H1 d r kvs vs ep I2 hv hat kv hz q => ?_) hs rfl
  have lk : kvs.length = vs.length := Paired.length kv
  refine tuple_its (knd := mixKind X.prog X.w) (kvs := vs) (ep := ep) (I2.ok.hd hc) hv hat (by omega) fun h' tk acc c as hk hS hl hG hacc => ?_
  obtain ⟨H', k1, k2, k3, k4, k5, k6, J⟩ := LiI.items_laid (tk := tk) I2 hz kv hk hS hl hG hacc
  have J2 := J.laid (t' := tk) (o := .tup (as.map V.ref)) (fun b o e => Heap.get?_push_of_some _ e) (Nat.le_refl _) (show ObjOk X.prog X.w _ _ h'.objs.size (.tup (as.map V.ref)) from ⟨by rw [List.length_map, hl, ← lk]; exact hz, as.map Value.ref, LiI.vals_refs as, IsTup.new _ _⟩)
  have hf : H' h'.objs.size = none := J.hok.fresh (Nat.le_refl _)
  refine ⟨.ref h'.objs.size, _, J2, rfl, q _ h'.objs.size as (fun b o e => ?_) ?_ upd_same ?_⟩
  · rw [upd_ne (fun z => by rw [z] at e; rw [k1 _ _ e] at hf; cases hf)]
    exact k1 b o e
  · cases hh : H1 h'.objs.size with
    | none => rfl
    | some o => rw [k1 _ _ hh] at hf; cases hf
  · refine paired_imp (fun t qq ht => ?_) k6
    rw [upd_ne (fun z => by rw [z] at ht; rw [ht] at hf; cases hf)]
    exact ht
def kvQ (q : List Nat × List Nat) : Key × V := (Sum.inr (mkS q.1), V.str (mkS q.2))
theorem paired_iff {α β : Type} {R : α → β → Prop} : ∀ {xs : List α} {ys : List β}, xs.length = ys.length → (∀ (j : Nat) (a : α) (b : β), xs[j]? = some a → ys[j]? = some b → R a b) → Paired R xs ys
  | [], [], _, _ => .nil
  | [], _ :: _, h, _ => by simp at h
  | _ :: _, [], h, _ => by simp at h
  | a :: xs, b :: ys, h, k => .cons (k 0 a b rfl rfl) (paired_iff (by simpa using h) fun j a b h1 h2 => k (j + 1) a b (by simpa using h1) (by simpa using h2))
def bkA : Value → Addr
  | .ref a => a
  | _ => 0
open Classical SrtO in
theorem pe_sortItems (hc : X.calm = true) (he : PE X e te) (hg : Gl X "sorted") (hm : X.mg "sorted" = none) (hv0 : bootBuiltins "sorted" = some (.builtin "sorted")) (hbase : attributeBase e "items" X.env (eval e X.env) = eval e X.env) (hline : (apos.endLine == cpos.line) = true)
    (hs : starEach [.Call (.Attribute e "items" apos) [] [] cpos] X.env = (false, eval (.Call (.Attribute e "items" apos) [] [] cpos) X.env) :: starEach [] X.env := by rfl) :
    PE X (.Call (.Name "sorted" p) [.Call (.Attribute e "items" apos) [] [] cpos] [] pos) (fun σ H Q => te σ H fun x H1 => ∃ (d : Addr) (kvs : List (Key × V)), x = .ref d ∧ H1 d = some (.dK kvs) ∧ ∃ qs : List (List Nat × List Nat), kvs = qs.map kvQ ∧
      ∀ (H' : Hp) (p : Addr) (ts : List Addr), (∀ b o, H1 b = some o → H' b = some o) → H1 p = none → H' p = some (.lst (ts.map V.ref)) → Paired (fun (t : Addr) (q : List Nat × List Nat) => H' t = some (.tup [.str (mkS q.1), .str (mkS q.2)])) ts (srtPQ qs) → Q (.ref p) H') := by
  refine ⟨fun pins s σ H Q I hq => ?_⟩
  refine wpAny_Call_Name_kw (ld_blt I hg hm hv0 ?_)
  refine PyProof.Rows.callWith_builtin1 (view_arg (R := fun d kvs H1 => ∃ qs : List (List Nat × List Nat), kvs = qs.map kvQ ∧
      ∀ (H' : Hp) (p : Addr) (ts : List Addr), (∀ b o, H1 b = some o → H' b = some o) → H1 p = none → H' p = some (.lst (ts.map V.ref)) → Paired (fun (t : Addr) (q : List Nat × List Nat) => H' t = some (.tup [.str (mkS q.1), .str (mkS q.2)])) ts (srtPQ qs) → Q (.ref p) H') he hbase hline hs I hq fun s2 H1 d r kvs vs ep I2 hv hat kv hz ⟨qs, eqs, q⟩ => ?_) hs rfl
  have lk : kvs.length = vs.length := Paired.length kv
  refine sorted_its (knd := mixKind X.prog X.w) (kvs := vs) (ep := ep) (I2.ok.hd hc) hv hat (by omega) fun h' as hk hl hG => ?_
  have lq : qs.length = as.length := by rw [hl, ← lk, eqs, List.length_map]
  -- each pair
  have each : ∀ (j : Nat) (a : Addr) (q : List Nat × List Nat), as[j]? = some a → qs[j]? = some q → IsQS h' (.ref a) q := fun j a q ha hq => by
    obtain ⟨key, kk, x, hx, hi, ho⟩ := hG.pairs j a ha
    have e1 : kvs[j]? = some (kvQ q) := by rw [eqs, List.getElem?_map, hq]; rfl
    obtain ⟨y, hy, ry⟩ := LiI.paired_get kv e1
    rw [hx] at hy
    cases hy
    have r1 : RelV (kV (Sum.inr (mkS q.1))) key := by
      have e2 : kk = Sum.inr (mkS q.1) := ry.1.symm
      subst e2
      exact keyIs_rel hi
    obtain ⟨t, rfl⟩ : ∃ t, key = .str (mkS q.1) t := r1
    obtain ⟨u, rfl⟩ : ∃ u, x = .str (mkS q.2) u := ry.2
    exact ⟨a, _, t, u, 0, rfl, ho, rfl, rfl⟩
  let k : Value → List Nat × List Nat := fun v => if q : ∃ p, IsQS h' v p then choose q else ([], [])
  have hu : ∀ v p, IsQS h' v p → k v = p := fun v p q => by
    have e : ∃ p, IsQS h' v p := ⟨p, q⟩
    show (if q : ∃ p, IsQS h' v p then choose q else ([], [])) = p
    rw [dif_pos e]
    exact (choose_spec e).uniq q
  have at_ : ∀ v ∈ as.map Value.ref, ∃ (j : Nat) (a : Addr) (q : List Nat × List Nat), v = .ref a ∧ as[j]? = some a ∧ qs[j]? = some q := fun v hv => by
    obtain ⟨a, ha, rfl⟩ := List.mem_map.mp hv
    obtain ⟨j, hj⟩ := List.mem_iff_getElem?.mp ha
    have hlt := (List.getElem?_eq_some_iff.mp hj).1
    exact ⟨j, a, qs[j], rfl, hj, List.getElem?_eq_getElem (by omega)⟩
  refine ⟨k, fun v hv => ?_, fun tk acc c h2 p out hS hacc hs1 hp1 hk2 hpl hn => ?_⟩
  · obtain ⟨j, a, q, rfl, h1, h2⟩ := at_ v hv
    have := each j a q h1 h2
    rw [hu _ _ this]
    exact this
  · obtain ⟨H', k1, k2, k3, k4, k5, k6, J⟩ := LiI.items_laid (tk := tk) I2 hz kv hk hS hl hG hacc
    obtain ⟨n, hn⟩ := hn
    have hmo : ∀ v ∈ out, v ∈ as.map Value.ref := fun v hv => hp1.mem_iff.mp hv
    have eout : out = (out.map bkA).map Value.ref := by
      rw [List.map_map]
      refine (List.map_id out).symm.trans (List.map_congr_left fun v hv => ?_)
      obtain ⟨_, a, _, rfl, _⟩ := at_ v (hmo v hv)
      rfl
    have hf : H' p = none := J.hok.fresh hpl
    have J2 := J.laid (t' := tk) (o := .lst ((out.map bkA).map V.ref)) hk2 hpl (show ObjOk X.prog X.w _ h2 p (.lst ((out.map bkA).map V.ref)) from ⟨by rw [List.length_map, List.length_map, hp1.length_eq, List.length_map, hl, ← lk]; exact hz, out, n, by
      have := LiI.vals_refs (out.map bkA)
      rw [← eout] at this
      exact this, hn⟩)
    have ek : out.map k = srtPQ qs := by
      refine srt_uniqQ ((hp1.map k).trans ?_) (List.pairwise_map.mpr hs1) (srtPQ_srtQ qs)
      have : (as.map Value.ref).map k = qs := by
        rw [List.map_map]
        refine List.ext_getElem (by rw [List.length_map]; omega) fun j a1 a2 => ?_
        rw [List.getElem_map]
        have hj : j < as.length := by simpa using a1
        exact hu _ _ (each j as[j] qs[j] (List.getElem?_eq_getElem hj) (List.getElem?_eq_getElem a2))
      rw [this]
      exact (srtPQ_permQ qs).symm
    refine ⟨.ref p, _, J2, rfl, q _ p (out.map bkA) (fun b o e => ?_) ?_ upd_same ?_⟩
    · rw [upd_ne (fun z => by rw [z] at e; rw [k1 _ _ e] at hf; cases hf)]
      exact k1 b o e
    · cases hh : H1 p with
      | none => rfl
      | some o => rw [k1 _ _ hh] at hf; cases hf
    · rw [← ek]
      refine paired_iff (by simp) fun j a qq h1 h2 => ?_
      rw [List.getElem?_map] at h1 h2
      obtain ⟨v, hv1, rfl⟩ := Option.map_eq_some_iff.mp h1
      rw [hv1] at h2
      cases h2
      obtain ⟨i, a, qi, rfl, e1, e2⟩ := at_ v (hmo v (List.mem_of_getElem? hv1))
      have e3 : kvs[i]? = some (kvQ qi) := by rw [eqs, List.getElem?_map, e2]; rfl
      obtain ⟨y, hy, ry⟩ := LiI.paired_get k6 e1
      rw [e3] at hy
      cases hy
      rw [hu _ _ (each i a qi e1 e2)]
      show upd H' p _ a = _
      rw [upd_ne (fun z => by rw [z] at ry; rw [ry] at hf; cases hf)]
      exact ry
end
end Mn
set_option Elab.async false
set_option linter.all false
set_option maxRecDepth 100000
set_option maxHeartbeats 1000000
namespace Mn
open PySem PySem.Spec L2 PyProof.Rows
section
variable {G : Gm} {as as' : List Addr} {H H' : Hp} {h h' : PH}
theorem an_inj (nd : G.an.Nodup) {f g : Nat} {n : Str} (e1 : G.an[f]? = some n) (e2 : G.an[g]? = some n) : f = g := by
  obtain ⟨h1, q1⟩ := List.getElem?_eq_some_iff.mp e1
  obtain ⟨h2, q2⟩ := List.getElem?_eq_some_iff.mp e2
  exact (List.getElem_inj nd).mp (q1.trans q2.symm)
theorem RepF.there (nd : G.an.Nodup) {f : Nat} {x : PV} : ∀ {fs : List (Nat × PV)} {gs : List (Str × V)}, RepF G as H fs gs → fs.lookup f = some x → ∃ n v, G.an[f]? = some n ∧ gs.lookup n = some v ∧ RepV G as H x v
  | [], _, _, e => by cases e
  | (g, y) :: r, gs, q, e => by
    unfold RepF at q
    obtain ⟨n, v, gs', rfl, en, rv, rr⟩ := q
    rw [List.lookup_cons] at e
    by_cases hg : f = g
    · subst hg
      rw [beq_self_eq_true] at e
      cases e
      exact ⟨n, v, en, by rw [List.lookup_cons, beq_self_eq_true], rv⟩
    · rw [beq_eq_false_iff_ne.mpr hg] at e
      obtain ⟨m, w, em, lw, rw'⟩ := RepF.there nd rr e
      refine ⟨m, w, em, ?_, rw'⟩
      have hm : (m == n) = false := beq_eq_false_iff_ne.mpr fun z => hg (an_inj nd em (z ▸ en))
      rw [List.lookup_cons, hm]
      exact lw
theorem RepF.gone (nd : G.an.Nodup) {f : Nat} {n : Str} (hn : G.an[f]? = some n) : ∀ {fs : List (Nat × PV)} {gs : List (Str × V)}, RepF G as H fs gs → fs.lookup f = none → gs.lookup n = none
  | [], _, q, _ => by unfold RepF at q; subst q; rfl
  | (g, y) :: r, gs, q, e => by
    unfold RepF at q
    obtain ⟨m, v, gs', rfl, en, rv, rr⟩ := q
    rw [List.lookup_cons] at e
    by_cases hg : f = g
    · subst hg
      rw [beq_self_eq_true] at e
      cases e
    · rw [beq_eq_false_iff_ne.mpr hg] at e
      have hm : (n == m) = false := beq_eq_false_iff_ne.mpr fun z => hg (an_inj nd hn (z ▸ en))
      rw [List.lookup_cons, hm]
      exact RepF.gone nd hn rr e
theorem RepF.len : ∀ {fs : List (Nat × PV)} {gs : List (Str × V)}, RepF G as H fs gs → gs.length = fs.length
  | [], _, q => by unfold RepF at q; subst q; rfl
  | (g, y) :: r, gs, q => by
    unfold RepF at q
    obtain ⟨m, v, gs', rfl, en, rv, rr⟩ := q
    simp [RepF.len rr]
theorem RepF.cons {f : Nat} {n : Str} {x : PV} {v : V} {fs : List (Nat × PV)} {gs : List (Str × V)} (hn : G.an[f]? = some n) (r : RepV G as H x v) (q : RepF G as H fs gs) : RepF G as H ((f, x) :: fs) ((n, v) :: gs) := by
  unfold RepF
  exact ⟨n, v, gs, rfl, hn, r, q⟩
theorem RepF.put (nd : G.an.Nodup) {f : Nat} {n : Str} {x : PV} {v : V} (hn : G.an[f]? = some n) (rx : RepV G as H x v) : ∀ {fs : List (Nat × PV)} {gs : List (Str × V)}, RepF G as H fs gs → RepF G as H (putN f x fs) (putF n v gs)
  | [], _, q => by
    unfold RepF at q
    subst q
    exact .cons hn rx (by unfold RepF; rfl)
  | (g, y) :: r, gs, q => by
    unfold RepF at q
    obtain ⟨m, w, gs', rfl, en, rv, rr⟩ := q
    unfold putN putF
    by_cases hg : g = f
    · subst hg
      have : m = n := Option.some.inj (en.symm.trans hn)
      rw [if_pos rfl, if_pos this, this]
      exact .cons hn rx rr
    · have : m ≠ n := fun z => hg (an_inj nd (z ▸ en) hn)
      rw [if_neg hg, if_neg this]
      exact .cons en rv (RepF.put nd hn rx rr)
theorem SR.insM (S : SR G as H h) {l c : Nat} {a : Addr} {fs : List (Nat × PV)} (e : h[l]? = some (.ins c fs)) (ea : as[l]? = some a) : ∃ dx gs, H a = some (.ins (G.ca c) dx gs) ∧ RepF G as H fs gs := S.at_ l _ a e ea
theorem SR.setI (S : SR G as H h) {l c : Nat} {a dx : Addr} {gs ws : List (Str × V)} {ys : List (Nat × PV)} (ea : as[l]? = some a) (e : H a = some (.ins (G.ca c) dx gs)) (r : RepF G as H ys ws) : Fut G as H as (upd H a (.ins (G.ca c) dx ws)) (h.set l (.ins c ys)) := by
  have k : Kp H (upd H a (.ins (G.ca c) dx ws)) := Kp.mut e (fun _ z => by cases z) (fun _ _ z => by cases z)
  exact S.set ea k ⟨dx, ws, upd_same, r.mono (List.prefix_refl _) k⟩
theorem SR.newI (S : SR G as H h) {x dx : Addr} {c : Nat} (hx : H x = none) (hd : H dx = none) (hne : dx ≠ x) :
    Fut G as H (as ++ [x]) (upd (upd H dx (.own x)) x (.ins (G.ca c) dx [])) (h ++ [.ins c []]) ∧ RepV G (as ++ [x]) (upd (upd H dx (.own x)) x (.ins (G.ca c) dx [])) (.ref h.length) (.ref x) := by
  have f1 := S.upd_free (o := .own x) hd
  have hx2 : upd H dx (.own x) x = none := by rw [upd_ne (Ne.symm hne)]; exact hx
  obtain ⟨f2, r⟩ := f1.sr.new (o := .ins c []) (ho := .ins (G.ca c) dx []) hx2 ⟨dx, [], upd_same, by unfold RepF; rfl⟩
  exact ⟨f1.trans f2, r⟩
end
section
variable {G : Gm} {T : Tb} {nm : Nm} {call : Nat → List PV → PH → Res PV} {fx : Fx} {X : Cx} {E : XK} {W : Nat}
theorem Ok.noer1 {α β : Type} {G : Gm} {E E' : XK} {as : List Addr} {H : Hp} {r : Res α} {rel : List Addr → Hp → α → β → Prop} {Q : β → Hp → Prop} (o : Ok G E as H rel Q r.noer) : Ok G E' as H rel Q r := by
  induction r with
  | ok v h1 => exact o
  | er x h1 => exact False.elim o
  | stuck => exact o
  | all n f ih => exact fun i hi => ih i (o i hi)
theorem attK_cls {c f : Nat} {q : Option Nat} (e : attK T c f = some q) : ∃ ci, T.cls[c]? = some ci ∧ ci.meths.lookup f = none ∧ ci.props.lookup f = q := by
  unfold attK at e
  obtain ⟨ci, e1, e2⟩ := Option.bind_eq_some_iff.mp e
  refine ⟨ci, e1, ?_⟩
  split at e2
  · cases e2
  · rename_i z
    exact ⟨z, Option.some.inj e2⟩
theorem cls_lt {c : Nat} {ci : Ci} (e : T.cls[c]? = some ci) : c < T.cls.length := (List.getElem?_eq_some_iff.mp e).1
theorem fld_ok (O : XOk G T nm call fx X E) {as : List Addr} {H : Hp} {h : PH} {f : Nat} {n : Str} {v : PV} {x : V} {Q : VK} (hn : nm.an[f]? = some n) (S : SR G as H h) (r : RepV G as H v x) (o : OkV G E as H Q (fldOf T f v h)) :
    ∃ a C dx fs w, x = .ref a ∧ H a = some (.ins C dx fs) ∧ Cls X.K C ∧ NoAttr X.K C n ∧ fs.lookup n = some w ∧ Q w H := by
  cases v with
  | ref l =>
    obtain ⟨a, ea, rfl⟩ := r.refE
    simp only [fldOf] at o
    split at o
    · rename_i c fs q1
      split at o
      · rename_i qa
        split at o
        · rename_i y ql
          obtain ⟨dx, gs, eh, rf⟩ := S.insM q1 ea
          obtain ⟨m, w, em, lw, rw'⟩ := rf.there O.cls.nd ql
          rw [O.an] at hn
          have : m = n := Option.some.inj (em.symm.trans hn)
          subst this
          obtain ⟨ci, ec, _, _⟩ := attK_cls qa
          exact ⟨a, _, dx, gs, w, rfl, eh, by rw [O.K]; exact O.cls.cl c (cls_lt ec), by rw [O.K]; exact O.cls.at_ c f m qa hn, lw, o as H w (Fut.refl S) rw'⟩
        · exact False.elim o
      · exact False.elim o
    · exact False.elim o
  | _ => exact False.elim o
theorem okE_att (O : XOk G T nm call fx X E) {f : Nat} {n : Str} {o : Ex} {xo : Expr} {pos : Pos} (hn : nm.an[f]? = some n) (hbase : attributeBase xo n X.env (eval xo X.env) = eval xo X.env) (ho : PE X xo (tE G E (evE T call o))) :
    PE X (.Attribute xo n pos) (tE G E (evE T call (.att o f))) := by
  refine ⟨fun pins s σ H Q I ⟨as, ρ, h, S, R, q⟩ => ?_⟩
  have fld : ∀ r : Res PV, r = evE T call o ρ h → OkV G E as H Q (r.bind fun v h1 => fldOf T f v h1) → wpAny (model X.prog X.w) X.A (eval (.Attribute xo n pos) X.env) (EP X pins σ Q) X.xe s := fun r er q => by
    subst er
    refine (pe_fld ho hbase).run pins s σ H Q I ⟨as, ρ, h, S, R, Ok.bind q fun v h1 as1 H1 v' f1 r1 q1 => ?_⟩
    exact fld_ok O hn f1.sr r1 q1
  simp only [evE] at q
  split at q
  · rename_i l h1 er
    split at q
    · rename_i c fs ql
      split at q
      · rename_i g qa
        obtain ⟨ci, ec, em, ep⟩ := attK_cls qa
        rw [O.an] at hn
        obtain ⟨p, hp⟩ := O.cls.pr c ci f g n ec em ep hn
        obtain ⟨k, fd, ps, F, hr, hbd, ar, _⟩ := O.mfn c ci g ec (.inr (.inr (.inl ⟨f, ep⟩)))
        rw [← O.K] at hp
        refine (pe_prop (C := G.ca c) (sp := spF G call g ps.length) (ds := []) (dvs := []) ho (by rw [O.K]; exact O.cls.cl c (cls_lt ec)) hp F hr hbd .nil (E := E0) (L2.passL (X := X.nox)) hbase).run pins s σ H Q I ⟨as, ρ, h, S, R, ?_⟩
        rw [er]
        intro as1 H1 v1 f1 r1
        obtain ⟨a, ea, rfl⟩ := r1.refE
        obtain ⟨dx, gs, eh, rf⟩ := f1.sr.insM ql ea
        refine ⟨a, dx, gs, rfl, eh, ?_⟩
        exact Ok.bind_call (E := E0) ar f1.sr (.cons r1 .nil) (Ok.noer1 (q.fut f1))
      · refine fld (.ok (.ref l) h1) er.symm ?_
        exact q
    · exact False.elim q
  · exact fld _ rfl q
theorem meth_eq {o : Expr} {m : Str} {apos pos : Pos} {xs : List Expr} {env : Env} (hbase : attributeBase o m env (eval o env) = eval o env) (hxs : xs.all (fun x => !isStar x) = true) (hl : xs.length < 29) (hline : (apos.endLine == pos.line) = true) :
    eval (.Call (.Attribute o m apos) xs [] pos) env = (do
      let ov ← eval o env
      standAt apos.atName
      let (f, first) ← holding [ov] (getMethod ov m (do return (← importBound o env).getD true))
      callWith pos f first (backTo pos (starEach xs env)) (backToKw pos (keywordEach [] env))) := by
  have hform : methodCallForm (xs.length + ([] : List Keyword).length) (backTo pos (starEach xs env)) (backToKw pos (keywordEach [] env)) = true := few_ok hxs hl
  have hpos : methodCallPos true o env apos pos = pure pos := by unfold methodCallPos; simp [hline]
  rw [arm_eval_Call, hbase]
  unfold methodCall
  simp only [hform, hpos, calleeOf, if_true]
  rfl
theorem fcall_ok (O : XOk G T nm call fx X E) {m : Nat} {n : Str} {o : Ex} {es : List Ex} {xo : Expr} {ys : List Expr} {apos pos : Pos} (hn : nm.an[m]? = some n) (ho : PE X xo (tE G E (evE T call o))) (ha : PA X ys (tA G E (evEs T call es)))
    (hbase : attributeBase xo n X.env (eval xo X.env) = eval xo X.env) (hxs : ys.all (fun x => !isStar x) = true) (hl : ys.length < 29) (hline : (apos.endLine == pos.line) = true) (hlen : es.length = ys.length)
    {pins : List (Addr × Obj)} {s : Shared} {σ : L2.St} {H : Hp} {Q : VK} {as : List Addr} {ρ : PEnv} {h h1 : PH} {l c f : Nat} {fs : List (Nat × PV)} (I : Inv X pins σ H s) (S : SR G as H h) (R : RepE G as H ρ σ) (er : evE T call o ρ h = .ok (.ref l) h1)
    (ql : h1[l]? = some (.ins c fs)) (qf : fs.lookup m = some (.fn f)) (hf : T.glob.any (isFnOf f) = true) (hat : attK T c m = some none) (q : OkV G E as H Q ((evEs T call es ρ h1).bind fun vs h2 => call f vs h2)) :
    wpAny (model X.prog X.w) X.A (eval (.Call (.Attribute xo n apos) ys [] pos) X.env) (EP X pins σ Q) X.xe s := by
  have hn' := hn
  rw [O.an] at hn'
  obtain ⟨w, hw, hfw⟩ := List.any_eq_true.mp hf
  obtain ⟨g, hg, rfl⟩ := List.getElem_of_mem hw
  have hgf : T.glob[g]? = some (.fn f) := by
    rw [List.getElem?_eq_getElem hg]
    generalize T.glob[g] = w at hfw
    unfold isFnOf at hfw
    split at hfw
    · rw [eq_of_beq hfw]
    · cases hfw
  have hlt : g < nm.gn.length := Nat.lt_of_lt_of_le hg O.gnl
  have hgn : nm.gn[g]? = some nm.gn[g] := List.getElem?_eq_getElem hlt
  obtain ⟨k, fd, ps, F, hr, hk, hbd, hm, ar, _⟩ := O.fns g _ f hgn hgf
  obtain ⟨ci, ec, _, _⟩ := attK_cls hat
  have cc : Cls X.K (G.ca c) := by rw [O.K]; exact O.cls.cl c (cls_lt ec)
  have na : NoAttr X.K (G.ca c) n := by rw [O.K]; exact O.cls.at_ c m n hat hn'
  have go : tE G E (evE T call o) σ H fun x H1 => ∃ a dx gs, x = .ref a ∧ H1 a = some (.ins (G.ca c) dx gs) ∧ gs.lookup n = some (.ref (G.fa f)) ∧ tA G E (evEs T call es) σ H1 fun vs H2 => spF G call f ps.length (vs ++ []) H2 Q E := by
    refine ⟨as, ρ, h, S, R, ?_⟩
    rw [er]
    intro as1 H1 v1 f1 r1
    obtain ⟨a, ea, rfl⟩ := r1.refE
    obtain ⟨dx, gs, eh, rf⟩ := f1.sr.insM ql ea
    obtain ⟨n2, v, en, ev, rv⟩ := rf.there O.cls.nd qf
    have e1 : n2 = n := Option.some.inj (en.symm.trans hn')
    subst e1
    have e2 : v = .ref (G.fa f) := by unfold RepV at rv; exact rv
    subst e2
    refine ⟨a, dx, gs, rfl, eh, ev, as1, ρ, h1, f1.sr, R.fut f1, ?_⟩
    refine Ok.bind (Ok.fut f1 q) fun vs h2 as2 H2 vs' f2 r2 q2 => ?_
    rw [List.append_nil]
    exact Ok.bind_call ar f2.sr r2 q2
  refine PySem.W.methodCall_KW (thn (ho.run pins s σ H _ I go) fun u s1 ⟨x, H1, I1, rx, a, dx, gs, ex, ea, lv, q1⟩ => ?_) (meth_eq hbase hxs hl hline)
  subst ex
  obtain rfl : u = Value.ref a := rx
  obtain ⟨mA, Om, rr, _, _, _⟩ := ins_get I1.hok ea
  obtain ⟨od, J, _⟩ := Om.look
  refine PySem.W.method_usual (r := none) I1.kIn J (PySem.W.plainGet_of (cc.get n)).1 (PySem.W.plainGet_of (cc.get n)).2 na rfl ?_
  refine getattr_ok I1 ea cc na lv fun u' s2 I2 ru => ?_
  obtain rfl : u' = Value.ref (G.fa f) := ru
  cases ys with
  | nil =>
    cases es with
    | nil =>
      refine PySem.W.callWith_K0 I2.kIn hk (run_fn (us := []) (vs := []) (ds := []) (dvs := []) F hr hbd .nil O.pass I2 .nil ?_)
      obtain ⟨as3, ρ3, h3, S3, R3, q3⟩ := q1
      simp only [evEs] at q3
      exact q3 as3 H1 [] (Fut.refl S3) .nil
    | cons _ _ => simp at hlen
  | cons y ys =>
    refine PySem.W.callWith_K (h₀ := X.base) (first := []) I2.ok.mod.kin hk (thn (ha.run pos pins s2 σ H1 _ I2 q1) fun us s3 ⟨vs, H3, I3, r3, q3⟩ => ⟨I3.kIn, ?_⟩) (star_cons (by simpa using (Bool.and_eq_true_iff.mp hxs).1)) (noStars (Bool.and_eq_true_iff.mp hxs).2)
    exact run_fn (ds := []) (dvs := []) F hr hbd .nil O.pass I3 r3 q3
theorem okE_meth (O : XOk G T nm call fx X E) {m : Nat} {n : Str} {o : Ex} {es : List Ex} {xo : Expr} {ys : List Expr} {apos pos : Pos} (hn : nm.an[m]? = some n) (ho : PE X xo (tE G E (evE T call o))) (ha : PA X ys (tA G E (evEs T call es)))
    (hbase : attributeBase xo n X.env (eval xo X.env) = eval xo X.env) (hxs : ys.all (fun x => !isStar x) = true) (hl : ys.length < 29) (hline : (apos.endLine == pos.line) = true) (hlen : es.length = ys.length) :
    PE X (.Call (.Attribute xo n apos) ys [] pos) (tE G E (evE T call (.mt m .none o es))) := by
  refine ⟨fun pins s σ H Q I ⟨as, ρ, h, S, R, q⟩ => ?_⟩
  simp only [evE] at q
  split at q
  · rename_i l h1 er
    split at q
    · rename_i c fs ql
      split at q
      · rename_i fnum qf qm
        obtain ⟨ci, ec, em⟩ := Option.bind_eq_some_iff.mp qm
        have hn' := hn
        rw [O.an] at hn'
        have mm := O.cls.me c ci m fnum n ec em hn'
        obtain ⟨k, fd, ps, F, hr, hbd, ar, _⟩ := O.mfn c ci fnum ec (.inr (.inl ⟨m, em⟩))
        have cc : Cls X.K (G.ca c) := by rw [O.K]; exact O.cls.cl c (cls_lt ec)
        rw [← O.K] at mm
        have pre : tE G E (evE T call o) σ H fun x H1 => ∃ a dx gs, x = .ref a ∧ H1 a = some (.ins (G.ca c) dx gs) ∧ gs.lookup n = none ∧ tA G E (evEs T call es) σ H1 fun vs H2 => spF G call fnum ps.length (x :: (vs ++ [])) H2 Q E := by
          refine ⟨as, ρ, h, S, R, ?_⟩
          rw [er]
          intro as1 H1 v1 f1 r1
          obtain ⟨a, ea, rfl⟩ := r1.refE
          obtain ⟨dx, gs, eh, rf⟩ := f1.sr.insM ql ea
          refine ⟨a, dx, gs, rfl, eh, rf.gone O.cls.nd hn' qf, as1, ρ, h1, f1.sr, R.fut f1, ?_⟩
          refine Ok.bind (Ok.fut f1 q) fun vs h2 as2 H2 vs' f2 r2 q2 => ?_
          rw [List.append_nil]
          exact Ok.bind_call ar f2.sr (.cons (r1.fut f2) r2) q2
        cases ys with
        | nil =>
          cases es with
          | nil =>
            refine (pe_meth0 (sp := spF G call fnum ps.length) (ds := []) (dvs := []) ho cc mm F (hr.mono (Nat.le_succ k)) hbd .nil O.pass (meth_eq hbase rfl (by decide) hline)).run pins s σ H Q I ?_
            obtain ⟨as', ρ', h', S', R', q'⟩ := pre
            refine ⟨as', ρ', h', S', R', q'.imp fun v H1 ⟨a, dx, gs, e1, e2, e3, as3, ρ3, h3, S3, R3, q3⟩ => ⟨a, dx, gs, e1, e2, e3, ?_⟩⟩
            simp only [evEs] at q3
            exact q3 as3 H1 [] (Fut.refl S3) .nil
          | cons _ _ => simp at hlen
        | cons y ys =>
          exact (pe_meth (sp := spF G call fnum ps.length) (ds := []) (dvs := []) ho cc mm F (hr.mono (Nat.le_succ k)) hbd .nil O.pass ha (star_cons (by simpa using (Bool.and_eq_true_iff.mp hxs).1)) (noStars (Bool.and_eq_true_iff.mp hxs).2) (meth_eq hbase hxs hl hline)).run pins s σ H Q I pre
      · rename_i fnum qf qm
        split at q
        · rename_i hcond
          exact fcall_ok O hn ho ha hbase hxs hl hline hlen I S R er ql qf hcond.1 hcond.2 q
        · exact False.elim q
      · exact False.elim q
    · exact False.elim q
  · exact False.elim q
theorem mg_cls (O : XOk G T nm call fx X E) {g c : Nat} {x : Str} (hg : nm.gn[g]? = some x) (hf : T.glob[g]? = some (.cls c)) : X.mg x = some (.ref (G.ca c)) := by
  obtain ⟨u, e, y, ry, rep⟩ := O.gl g x _ hg hf
  have e2 : y = .ref (G.ca c) := by
    have := rep [] (fun _ => none)
    unfold RepV at this
    exact this
  subst e2
  cases ry
  exact e
theorem make_ok {as : List Addr} {H : Hp} {h : PH} {c f np : Nat} {vs : List PV} {xs : List V} {Q : VK} (ar : ∀ xs h, xs.length ≠ np → call f xs h = .stuck) (S : SR G as H h) (r : RepVs G as H vs xs)
    (o : OkV G E as H Q ((call f (.ref h.length :: vs) (h ++ [.ins c []])).bind fun v h1 => match v with
      | .non => .ok (.ref h.length) h1
      | _ => .stuck)) : ∀ x dx, H x = none → H dx = none → dx ≠ x → spF G call f np (.ref x :: (xs ++ [])) (upd (upd H dx (.own x)) x (.ins (G.ca c) dx [])) (fun v H2 => v = .non ∧ Q (.ref x) H2) E := by
  intro x dx hx hd hne
  obtain ⟨f1, r1⟩ := S.newI (c := c) hx hd hne
  rw [List.append_nil]
  refine Ok.bind_call ar f1.sr (.cons r1 (r.fut f1)) ?_
  refine Ok.bind (Ok.fut f1 o) fun v h2 as2 H2 v' f2 r2 q2 => ?_
  cases v with
  | non =>
    have e : v' = .non := by unfold RepV at r2; exact r2
    exact ⟨e, q2 as2 H2 (.ref x) (Fut.refl f2.sr) (r1.fut f2)⟩
  | _ => exact False.elim q2
theorem okE_make (O : XOk G T nm call fx X E) {g c f : Nat} {es : List Ex} {x : Str} {ys : List Expr} {p pos : Pos} (hg : nm.gn[g]? = some x) (hf : T.glob[g]? = some (.cls c)) (hi : (T.cls[c]?).bind (·.init) = some f) (hb : glB fx.names x = true) (hp : plainName x = true)
    (hxs : ys.all (fun x => !isStar x) = true) (hlen : es.length = ys.length) (ha : PA X ys (tA G E (evEs T call es))) : PE X (.Call (.Name x p) ys [] pos) (tE G E (evE T call (.call g es))) := by
  have hm := mg_cls O hg hf
  refine ⟨fun pins s σ H Q I ⟨as, ρ, h, S, R, o⟩ => ?_⟩
  simp only [evE, hf, callG] at o
  obtain ⟨ci, ec, ei⟩ := Option.bind_eq_some_iff.mp hi
  obtain ⟨k, fd, ps, F, hr, hbd, ar, _⟩ := O.mfn c ci f ec (.inl ei)
  have M : Mk X.K (G.ca c) (G.fa f) := by rw [O.K]; exact O.cls.mkr c ci f ec ei
  cases ys with
  | nil =>
    cases es with
    | nil =>
      refine (pe_make0 (sp := spF G call f ps.length) (ds := []) (dvs := []) M F hr (gl_ok O hb) hm hbd .nil O.pass (plain_ok hp).1).run pins s σ H Q I ?_
      simp only [evEs, Res.bind_ok, hi] at o
      exact make_ok ar S .nil o
    | cons _ _ => simp at hlen
  | cons y ys =>
    refine (pe_make (sp := spF G call f ps.length) (ds := []) (dvs := []) M F hr (gl_ok O hb) hm hbd .nil O.pass ha (plain_ok hp).1 (star_cons (by simpa using (Bool.and_eq_true_iff.mp hxs).1)) (noStars (Bool.and_eq_true_iff.mp hxs).2)).run pins s σ H Q I ⟨as, ρ, h, S, R, ?_⟩
    refine Ok.bind o fun vs h1 as1 H1 vs' f1 r1 o1 => ?_
    rw [hi] at o1
    exact make_ok ar f1.sr r1 o1
theorem okE_dsp {pos : Pos} : PE X (.Dict [] [] pos) (tE G E (evE T call .dsp)) := by
  refine (pe_dnewK (X := X) (pos := pos)).imp fun σ H Q hq => ?_
  obtain ⟨as, ρ, h, S, R, o⟩ := hq
  simp only [evE] at o
  intro p hp
  obtain ⟨f1, r1⟩ := S.new (o := .dic []) (ho := .dK []) hp ⟨[], upd_same, by unfold RepK; rfl⟩
  exact o _ _ _ f1 r1
theorem okE_callv (O : XOk G T nm call fx X E) {i : Nat} {es : List Ex} {x : Str} {y : Expr} {ys : List Expr} {p pos : Pos} (hN : fx.N[i]? = some x) (hv : visB fx.names x = true) (hp : plainName x = true)
    (hx : isStar y = false) (hxs : ys.all (fun x => !isStar x) = true) (ha : PA X (y :: ys) (tA G E (evEs T call es))) : PE X (.Call (.Name x p) (y :: ys) [] pos) (tE G E (evE T call (.callv i es))) := by
  refine ⟨fun pins s σ H Q I ⟨as, ρ, h, S, R, o⟩ => ?_⟩
  simp only [evE] at o
  split at o
  · rename_i f q
    obtain ⟨v', e, r⟩ := R.2 i _ q
    have ev : v' = .ref (G.fa f) := by unfold RepV at r; exact r
    subst ev
    split at o
    · rename_i ha2
      obtain ⟨w, hw, hf⟩ := List.any_eq_true.mp ha2
      obtain ⟨g, hg, rfl⟩ := List.getElem_of_mem hw
      have hgf : T.glob[g]? = some (.fn f) := by
        rw [List.getElem?_eq_getElem hg]
        generalize T.glob[g] = w at hf
        unfold isFnOf at hf
        split at hf
        · rw [eq_of_beq hf]
        · cases hf
      have hlt : g < nm.gn.length := Nat.lt_of_lt_of_le hg O.gnl
      have hgn : nm.gn[g]? = some nm.gn[g] := List.getElem?_eq_getElem hlt
      obtain ⟨k, fd, ps, F, hr, hk, hbd, hm, ar, _⟩ := O.fns g _ f hgn hgf
      refine (pe_callL (i := i) (sp := spF G call f ps.length) (ds := []) (dvs := []) F hr (by rw [O.N]; exact hN) (vis_ok O hv) hk hbd .nil O.pass ha (plain_ok hp).1 (plain_ok hp).2.1 (star_cons hx) (noStars hxs)).run pins s σ H Q I ⟨e, as, ρ, h, S, R, ?_⟩
      refine Ok.bind o fun vs h1 as1 H1 vs' f1 r1 o1 => ?_
      rw [List.append_nil]
      exact Ok.bind_call ar f1.sr r1 o1
    · exact False.elim o
  · exact False.elim o
theorem pFld_ok (O : XOk G T nm call fx X E) {as : List Addr} {H : Hp} {h h' : PH} {f : Nat} {n : Str} {w v : PV} {x y : V} (hn : nm.an[f]? = some n) (S : SR G as H h) (rw_ : RepV G as H w x) (rv : RepV G as H v y) (e : pFld T w f v h = some h') :
    ∃ a C dx gs, x = .ref a ∧ H a = some (.ins C dx gs) ∧ Cls X.K C ∧ NoAttr X.K C n ∧ gs.length < 1000 ∧ Fut G as H as (upd H a (.ins C dx (putF n y gs))) h' := by
  cases w with
  | ref l =>
    obtain ⟨a, ea, rfl⟩ := rw_.refE
    simp only [pFld] at e
    split at e
    · rename_i c fs q1
      split at e
      · rename_i q
        cases e
        obtain ⟨dx, gs, eh, rf⟩ := S.insM q1 ea
        obtain ⟨ci, ec, _, _⟩ := attK_cls q.1
        rw [O.an] at hn
        exact ⟨a, _, dx, gs, rfl, eh, by rw [O.K]; exact O.cls.cl c (cls_lt ec), by rw [O.K]; exact O.cls.at_ c f n q.1 hn, by rw [rf.len]; exact q.2, S.setI ea eh (rf.put O.cls.nd hn rv)⟩
      · cases e
    · cases e
  | _ => cases e
theorem okS_fld (O : XOk G T nm call fx X E) {e o : Ex} {f : Nat} {n : Str} {x xo : Expr} {p p2 : Pos} (hn : nm.an[f]? = some n) (he : PE X x (tE G E (evE T call e))) (ho : PE X xo (tE G E (evE T call o))) :
    PS X (.Assign [.Attribute xo n p2] x p) (tS G E (exS T call W (.asg (.att o f) e))) := by
  have hs : swapsWith x (some (.Attribute xo n p2)) p.line X.env = pure false := by cases x <;> rfl
  refine (ps_fld ho he hs).imp fun D σ H hq => ?_
  obtain ⟨as, ρ, h, S, R, q⟩ := hq
  simp only [exS, asgTa, Res.bind_assoc] at q
  show tE G E (evE T call e) σ H fun y H1 => tE G E (evE T call o) σ H1 fun x H2 => ∃ a C dx fs, x = .ref a ∧ H2 a = some (.ins C dx fs) ∧ Cls X.K C ∧ NoAttr X.K C n ∧ fs.length < 1000 ∧ D.nx σ (upd H2 a (.ins C dx (putF n y fs)))
  refine ⟨as, ρ, h, S, R, Ok.bind q fun v h1 as1 H1 v' f1 r1 q1 => ?_⟩
  refine ⟨as1, ρ, h1, f1.sr, R.fut f1, Ok.bind q1 fun w h2 as2 H2 w' f2 r2 q2 => ?_⟩
  split at q2
  · rename_i h3 q3
    obtain ⟨a, C, dx, gs, ex, eh, cc, na, hl, f3⟩ := pFld_ok O hn f2.sr r2 (r1.fut f2) q3
    refine ⟨a, C, dx, gs, ex, eh, cc, na, hl, ?_⟩
    simp only [Res.bind_ok] at q2
    exact q2 as2 _ (.nx σ) f3 (((R.fut f1).fut f2).fut f3)
  · exact False.elim q2
theorem fldaug_ok (O : XOk G T nm call fx X E) {op : Bop} {opy : Operator} {rd : V → V → Hp → VK → Prop} {e o : Ex} {f : Nat} {n : Str} {x xo : Expr} {p p2 : Pos} (hrd : InOp X opy rd) (hn : nm.an[f]? = some n) (he : PE X x (tE G E (evE T call e))) (ho : PE X xo (tE G E (evE T call o)))
    (hop : ∀ (as : List Addr) (H : Hp) (h : PH) (v w : PV) (y z : V) (Q : VK), SR G as H h → RepV G as H v y → RepV G as H w z → OkV G E as H Q (pAug op v w h) → rd y z H Q) :
    PS X (.AugAssign (.Attribute xo n p2) opy x p) (tS G E (exS T call W (.aug (.att o f) op e))) := by
  refine (ps_fldaug ho he hrd).imp fun D σ H ⟨as, ρ, h, S, R, q⟩ => ?_
  simp only [exS] at q
  show tE G E (evE T call o) σ H fun x H1 => ∃ a C dx fs v, x = .ref a ∧ H1 a = some (.ins C dx fs) ∧ Cls X.K C ∧ NoAttr X.K C n ∧ fs.lookup n = some v ∧
    tE G E (evE T call e) σ H1 fun y H2 => rd v y H2 fun z H3 => ∃ dx' fs', H3 a = some (.ins C dx' fs') ∧ fs'.length < 1000 ∧ D.nx σ (upd H3 a (.ins C dx' (putF n z fs')))
  refine ⟨as, ρ, h, S, R, Ok.bind q fun w h1 as1 H1 w' f1 r1 q1 => ?_⟩
  cases w with
  | ref l =>
    obtain ⟨a, ea, rfl⟩ := r1.refE
    simp only at q1
    split at q1
    · rename_i c fs ql
      split at q1
      · rename_i qa
        split at q1
        · rename_i v qv
          obtain ⟨dx, gs, eh, rf⟩ := f1.sr.insM ql ea
          obtain ⟨m, u, em, lw, ru⟩ := rf.there O.cls.nd qv
          obtain ⟨ci, ec, _, _⟩ := attK_cls qa
          have hn' := hn
          rw [O.an] at hn'
          have hmn : m = n := Option.some.inj (em.symm.trans hn')
          subst hmn
          refine ⟨a, _, dx, gs, u, rfl, eh, by rw [O.K]; exact O.cls.cl c (cls_lt ec), by rw [O.K]; exact O.cls.at_ c f m qa hn', lw, as1, ρ, h1, f1.sr, R.fut f1, ?_⟩
          refine Ok.bind q1 fun x h3 as3 H3 x' f3 r3 q3 => ?_
          refine hop as3 H3 h3 v x u x' _ f3.sr (ru.fut f3) r3 (Ok.bind q3 fun y h4 as4 H4 y' f4 r4 q4 => ?_)
          have ea4 : as4[l]? = some a := pre_get f4.pre (pre_get f3.pre ea)
          split at q4
          · rename_i c' fs' q5
            split at q4
            · rename_i q6
              obtain ⟨rfl, hl⟩ := q6
              obtain ⟨dx', gs', eh', rf'⟩ := f4.sr.insM q5 ea4
              refine ⟨dx', gs', eh', by rw [rf'.len]; exact hl, ?_⟩
              have f5 := f4.sr.setI ea4 eh' (rf'.put O.cls.nd em r4)
              exact q4 as4 _ (.nx σ) f5 ((((R.fut f1).fut f3).fut f4).fut f5)
            · exact False.elim q4
          · exact False.elim q4
        · exact False.elim q1
      · exact False.elim q1
    · exact False.elim q1
  | _ => exact False.elim q1
def rAug : V → V → Hp → VK → Prop := fun x y H Q => rAdd x y H Q ∨ rAddS x y H Q
theorem in_aug : InOp X .Add rAug := fun pins s σ H x y u v Q I rx ry h => by
  rcases h with h | h
  · exact in_add pins s σ H x y u v Q I rx ry h
  · exact in_addS pins s σ H x y u v Q I rx ry h
theorem okS_fldaug (O : XOk G T nm call fx X E) {op : Bop} {e o : Ex} {f : Nat} {n : Str} {x xo : Expr} {p p2 : Pos} (hop : op = .add ∨ op = .sub) (hn : nm.an[f]? = some n) (he : PE X x (tE G E (evE T call e))) (ho : PE X xo (tE G E (evE T call o))) :
    PS X (.AugAssign (.Attribute xo n p2) op.py x p) (tS G E (exS T call W (.aug (.att o f) op e))) := by
  rcases hop with rfl | rfl
  · refine fldaug_ok O (rd := rAug) in_aug hn he ho fun as H h v w y z Q S rv rw_ q => ?_
    unfold pAug at q
    split at q
    · have e1 := rv.intE
      have e2 := rw_.intE
      exact .inl ⟨_, _, e1, e2, q as H _ (Fut.refl S) (.int _)⟩
    · rename_i z1; cases z1
    · have e1 := rv.strE
      have e2 := rw_.strE
      split at q
      · rename_i a b _ hl
        refine .inr ⟨_, _, e1, e2, by simpa [Str.length] using hl, q as H _ (Fut.refl S) ?_⟩
        rw [str_app]
        exact .str _
      · exact False.elim q
    · exact False.elim q
  · refine fldaug_ok O (rd := rSub) (fun pins s σ H x y v u Q I rx ry h => in_sub pins s σ H x y v u Q I rx ry h) hn he ho fun as H h v w y z Q S rv rw_ q => ?_
    unfold pAug at q
    split at q
    · rename_i z1; cases z1
    · have e1 := rv.intE
      have e2 := rw_.intE
      exact ⟨_, _, e1, e2, q as H _ (Fut.refl S) (.int _)⟩
    · rename_i z1; cases z1
    · exact False.elim q
end
end Mn
set_option Elab.async false
set_option linter.all false
set_option maxRecDepth 100000
set_option maxHeartbeats 4000000
namespace Mn
open PySem PySem.Spec L2 PyProof.Rows
section
variable {G : Gm} {as : List Addr} {H H' : Hp} {h : PH}
theorem SR.ext (S : SR G as H h) (hx : ∀ b o, H b = some o → H' b = some o) : Fut G as H as H' h := by
  have kp : Kp H H' := ⟨fun b xs e => hx b _ e, fun b o u e => hx b _ e⟩
  refine ⟨List.prefix_refl _, kp, ⟨S.nd, S.len, fun l ob a e1 e2 => ?_⟩, fun b hb hn => absurd hb hn, fun b o e _ => hx b o e⟩
  have q := S.at_ l ob a e1 e2
  refine q.mono (List.prefix_refl _) kp ?_
  cases z : H a with
  | none => exact absurd z q.there
  | some o => exact hx a o z
theorem RepK.ix : ∀ {kvs : List (Key × PV)} {ks : List (Key × V)} {i : Nat} {q : Key × PV}, RepK G as H kvs ks → kvs[i]? = some q → ∃ v, ks[i]? = some (q.1, v) ∧ RepV G as H q.2 v
  | [], _, _, _, _, e => by simp at e
  | (k, x) :: kvs, ks, i, q, r, e => by
    unfold RepK at r
    obtain ⟨v, r', rfl, h1, h2⟩ := r
    cases i with
    | zero => cases e; exact ⟨v, rfl, h1⟩
    | succ i =>
      obtain ⟨w, e1, e2⟩ := RepK.ix (kvs := kvs) (ks := r') (i := i) h2 (by simpa using e)
      exact ⟨w, by simpa using e1, e2⟩
theorem ofKey_str {k : Key} {x : List Nat} (e : ofKey k = .str x) : k = .inr ⟨x.toArray⟩ := by
  cases k with
  | inl i => cases e
  | inr s =>
    cases e
    cases s
    simp
theorem RepK.pairsQ : ∀ {kvs : List (Key × PV)} {ks : List (Key × V)} {qs : List (List Nat × List Nat)}, RepK G as H kvs ks → psOfQ (kvs.map fun q => .tup [ofKey q.1, q.2]) = some qs → ks = qs.map kvQ
  | [], ks, qs, r, e => by
    unfold RepK at r
    subst r
    cases e
    rfl
  | (k, x) :: kvs, ks, qs, r, e => by
    unfold RepK at r
    obtain ⟨v, r', rfl, h1, h2⟩ := r
    rw [List.map_cons] at e
    unfold psOfQ at e
    split at e
    · rename_i p ps e1 e2
      cases e
      rw [List.map_cons, RepK.pairsQ h2 e2]
      simp only [isPQ] at e1
      split at e1
      · rename_i i y ee
        cases e1
        simp only [PV.tup.injEq, List.cons.injEq, and_true] at ee
        obtain ⟨ek, ex⟩ := ee
        subst ex
        rw [ofKey_str ek, h1.strE]
        rfl
      · cases e1
    · cases e
theorem pairs_rep : ∀ {qs : List (List Nat × List Nat)} {ts : List Addr}, Paired (fun (t : Addr) (q : List Nat × List Nat) => H' t = some (.tup [.str (mkS q.1), .str (mkS q.2)])) ts qs → RepVs G as H' (qs.map ofPQ) (ts.map V.ref)
  | [], ts, pp => by cases pp; exact .nil
  | q :: qs, ts, pp => by
    cases pp with
    | cons q1 q2 =>
      refine .cons ?_ (pairs_rep q2)
      unfold ofPQ RepV
      exact ⟨_, _, rfl, .of q1, .cons (.str _) (.cons (.str _) .nil)⟩
end
section
variable {G : Gm} {T : Tb} {nm : Nm} {call : Nat → List PV → PH → Res PV} {fx : Fx} {X : Cx} {E : XK} {W : Nat}
theorem okE_tit (O : XOk G T nm call fx X E) {o : Ex} {xo : Expr} {p ap cp pos : Pos} (hg : glB fx.names "tuple" = true) (hb : baseB xo = true) (hl : (ap.endLine == cp.line) = true) (ho : PE X xo (tE G E (evE T call o))) :
    PE X (.Call (.Name "tuple" p) [.Call (.Attribute xo "items" ap) [] [] cp] [] pos) (tE G E (evE T call (.tit o))) := by
  refine (pe_tupItems O.calm ho (gl_ok O hg) (O.bl .tuple) (base_ok hb) hl).imp fun σ H Q ⟨as, ρ, h, S, R, o⟩ => ?_
  simp only [evE] at o
  refine ⟨as, ρ, h, S, R, Ok.bind o fun v h1 as1 H1 v' f1 r1 o1 => ?_⟩
  split at o1
  · rename_i l
    obtain ⟨a, ea, rfl⟩ := r1.refE
    split at o1
    · rename_i kvs ql
      obtain ⟨ks, ed, rk⟩ := f1.sr.dic ql ea
      refine ⟨a, ks, rfl, ed, fun H' p ts hx hp ht pp => ?_⟩
      have f := f1.sr.ext hx
      refine okn o1 f ?_
      unfold RepV
      exact ⟨p, _, rfl, .of ht, items_rep f.kp rk pp⟩
    · exact False.elim o1
  · exact False.elim o1
theorem okE_sit (O : XOk G T nm call fx X E) {o : Ex} {xo : Expr} {p ap cp pos : Pos} (hg : glB fx.names "sorted" = true) (hb : baseB xo = true) (hl : (ap.endLine == cp.line) = true) (ho : PE X xo (tE G E (evE T call o))) :
    PE X (.Call (.Name "sorted" p) [.Call (.Attribute xo "items" ap) [] [] cp] [] pos) (tE G E (evE T call (.sit o))) := by
  refine (pe_sortItems O.calm ho (gl_ok O hg) (O.bl .sorted) (bi_boot .sorted) (base_ok hb) hl).imp fun σ H Q ⟨as, ρ, h, S, R, o⟩ => ?_
  simp only [evE] at o
  refine ⟨as, ρ, h, S, R, Ok.bind o fun v h1 as1 H1 v' f1 r1 o1 => ?_⟩
  split at o1
  · rename_i l
    obtain ⟨a, ea, rfl⟩ := r1.refE
    split at o1
    · rename_i kvs ql
      obtain ⟨ks, ed, rk⟩ := f1.sr.dic ql ea
      split at o1
      · rename_i qs eq
        refine ⟨a, ks, rfl, ed, qs, rk.pairsQ eq, fun H' p ts hx hp ht pp => ?_⟩
        obtain ⟨f, r2⟩ := f1.sr.newX hx hp ht (pairs_rep pp)
        exact okn o1 f r2
      · exact False.elim o1
    · exact False.elim o1
  · exact False.elim o1
theorem okI_items (O : XOk G T nm call fx X E) {elts : List Expr} {kk : Nat} {tpos ap cp : Pos} {x : Expr} {e : Ex} (hs : ∀ y, e ≠ .star y) (hb : baseB x = true) (hl : (ap.endLine == cp.line) = true) (he : PE X x (tE G E (evE T call e))) :
    PI X (.Tuple elts kk tpos) (.Call (.Attribute x "items" ap) [] [] cp) (tI G E (evI T call .items [e])) := by
  refine PI.imp (pi_items he (base_ok hb) hl) fun σ H R q => ?_
  obtain ⟨as, ρ, h, S, Rρ, o⟩ := q
  rw [evI_one hs] at o
  refine ⟨as, ρ, h, S, Rρ, Ok.bind o fun v h1 as1 H1 v' f1 r1 o1 => ?_⟩
  cases v with
  | ref l =>
    obtain ⟨a, ea, rfl⟩ := r1.refE
    simp only [wkOf] at o1
    cases q : h1[l]? with
    | none => rw [q] at o1; exact False.elim o1
    | some ob =>
      rw [q] at o1
      cases ob with
      | fdic kvs =>
        obtain ⟨od, ks, ed, rk⟩ := f1.sr.fdic q ea
        refine ⟨a, od, ks, rfl, ed, o1 as1 H1 _ (Fut.refl f1.sr) fun as' H' h' hp kp S' i => ?_⟩
        have ed' := kp.frzs _ _ _ ed
        have el : kvs.length = ks.length := by have := congrArg List.length rk.fsts; simpa using this
        refine ⟨fun ew => ⟨ed', ?_⟩, fun y ew => ?_⟩
        · simp only [wkAt, Option.some.injEq] at ew
          have := List.getElem?_eq_none_iff.mp ew
          rw [List.length_map] at this
          omega
        · simp only [wkAt, Option.some.injEq, List.getElem?_map] at ew
          obtain ⟨kv, ek, rfl⟩ := Option.map_eq_some_iff.mp ew
          have hlt := (List.getElem?_eq_some_iff.mp ek).1
          obtain ⟨v, ev, rv⟩ := (rk.mono hp kp).ix ek
          refine ⟨⟨ed', by omega⟩, fun u H2 y => ?_⟩
          obtain ⟨TT, k, w, ekv, rfl, hn, rfl⟩ := y
          rw [ev] at ekv
          cases ekv
          exact S'.tup hn (.cons (key_of _) (.cons rv .nil))
      | _ => exact False.elim o1
  | _ => exact False.elim o1
theorem ok_lockS {as : List Addr} {H : Hp} {h : PH} {l : Nat} {a : Addr} {od : Obj} {ks : List (Key × V)} {kvs : List (Key × PV)} {D : Ends} (S : SR G as H h) (hl : h[l]? = some (.dic kvs)) (ea : as[l]? = some a) (ed : H a = some (.dK ks)) (rk : RepK G as H kvs ks) : ∀ {r : Res Fl}, Ok G E as H (fun as' H' => relF G as' H') (endsQ D) (r.noer.bind fun v h2 => .ok v (h2.set l (.dic kvs))) →
    Ok G E as (upd H a (.frz od (.dK ks))) (fun as' H' => relF G as' H') (endsQ ⟨fun σ' H' => H' a = some (.frz od (.dK ks)) ∧ D.nx σ' (upd H' a (.dK ks)), fun v H' => H' a = some (.frz od (.dK ks)) ∧ D.rt v (upd H' a (.dK ks)), fun σ' H' => H' a = some (.frz od (.dK ks)) ∧ D.bk σ' (upd H' a (.dK ks)), fun σ' H' => H' a = some (.frz od (.dK ks)) ∧ D.ct σ' (upd H' a (.dK ks))⟩) r := fun {r} o => by
  induction r with
  | ok v h2 =>
    intro as' H2 fv f rv
    obtain ⟨e2, f2⟩ := Fut.thaw S hl ea ed rk f
    have kv := kv_thaw e2
    have kR : ∀ {ρ : PEnv} {σ : L2.St}, RepE G as' H2 ρ σ → RepE G as' (upd H2 a (.dK ks)) ρ σ := fun R => ⟨R.1, fun i v e => let ⟨v', e1, r⟩ := R.2 i v e; ⟨v', e1, r.kv kv⟩⟩
    cases v <;> cases fv <;> first
      | exact False.elim rv
      | exact ⟨e2, o as' _ (.nx _) f2 (kR rv)⟩
      | exact ⟨e2, o as' _ (.bk _) f2 (kR rv)⟩
      | exact ⟨e2, o as' _ (.ct _) f2 (kR rv)⟩
      | exact ⟨e2, o as' _ (.rt _) f2 (RepV.kv kv rv)⟩
  | er x h2 => exact False.elim o
  | stuck => exact False.elim o
  | all n f ih => exact fun i hi => ih i (o i hi)
theorem lkAt_dic {ρ : PEnv} {h : PH} {i f l : Nat} {kvs : List (Key × PV)} (e : lkAt ρ h i f = some (l, kvs)) : h[l]? = some (.dic kvs) := by
  unfold lkAt at e
  split at e
  · split at e
    · split at e
      · split at e
        · rename_i q
          cases e
          exact q
        · cases e
      · cases e
    · cases e
  · cases e
theorem okS_slck {i f : Nat} {s : Sm} {x : Stmt} (hs : PS X x (tS G E (exS T call W s))) : PS X x (tS G E (exS T call W (.slck i f s))) := by
  refine (ps_lock hs).imp fun D σ H ⟨as, ρ, h, S, R, o⟩ => ?_
  simp only [exS] at o
  split at o
  · rename_i l kvs e
    have hl := lkAt_dic e
    have hlt : l < as.length := by rw [S.len]; exact (List.getElem?_eq_some_iff.mp hl).1
    have ea : as[l]? = some as[l] := List.getElem?_eq_getElem hlt
    obtain ⟨ks, ed, rk⟩ := S.dic hl ea
    have k1 : ∀ od, Kp H (upd H as[l] (.frz od (.dK ks))) := fun od => Kp.mut ed (fun _ z => by cases z) (fun _ _ z => by cases z)
    refine ⟨as[l], .dK ks, ed, trivial, fun od => ?_⟩
    have f := S.set (o := .fdic kvs) ea (k1 od) ⟨od, ks, upd_same, rk.mono (List.prefix_refl _) (k1 od)⟩
    exact ⟨as, ρ, _, f.sr, R.fut f, ok_lockS S hl ea ed rk o⟩
  · exact False.elim o
theorem okE_clm (O : XOk G T nm call fx X E) {o : Ex} {j : Nat} {c f : Nat} {n : Str} {xo : Expr} {ap pos : Pos} (hj : T.cms[j]? = some (c, n, f)) (hb : baseB xo = true) (hl : (ap.endLine == pos.line) = true) (ho : PE X xo (tE G E (evE T call o))) :
    PE X (.Call (.Attribute xo n ap) [] [] pos) (tE G E (evE T call (.clm o j))) := by
  have hm := List.mem_of_getElem? hj
  obtain ⟨mc, p, cr, cm⟩ := O.cls.cm c n f hm
  obtain ⟨k, fd, ps, F, hr, hbd, ar⟩ := O.cfn c n f hm
  refine ⟨fun pins s σ H Q I ⟨as, ρ, h, S, R, o⟩ => ?_⟩
  simp only [evE] at o
  refine PySem.W.methodCall_KW (thn (ho.run pins s σ H (fun v H1 => v = .ref (G.ca c) ∧ spF G call f ps.length [.ref (G.ca c)] H1 Q E) I ⟨as, ρ, h, S, R, Ok.bind o fun v h1 as1 H1 v' f1 r1 o1 => ?_⟩) fun u s1 ⟨x, H1, I1, rx, ex, q⟩ => ?_) (meth_eq (base_ok hb) rfl (by decide) hl)
  · rw [hj] at o1
    cases v with
    | cls d =>
      dsimp only at o1
      split at o1
      · rename_i e
        subst e
        have e1 : v' = .ref (G.ca d) := by unfold RepV at r1; exact r1
        subst e1
        exact ⟨rfl, Ok.bind_call ar f1.sr (.cons r1 .nil) o1⟩
      · exact False.elim o1
    | _ => exact False.elim o1
  · subst ex
    obtain rfl : u = Value.ref (G.ca c) := rx
    rw [← O.K] at cr cm
    refine ClX.getmethcm_ok I1 cr cm fun s2 I2 => ?_
    refine PySem.W.callWith_M0 ⟨ClX.pin_at I2, I2.kIn⟩ cm.fi ?_
    have z : wpAny (model X.prog X.w) X.A (PySem.call (.ref s1.heap.objs.size) []) (EP X ((s1.heap.objs.size, PySem.W.methodObj (.ref (G.fa f)) (.ref (G.ca c))) :: pins) σ Q) X.xe s2 := by
      have hl2 : ([Value.ref (G.ca c)] ++ ([] : List Value)).length = ps.length := by have := F.len _ _ _ _ q; simpa using this
      refine wpAny_call (PySem.W.method_call (ClX.pin_at I2) (codeAny_mono (F.run X.A X.stack s2 H1 ⟨[Value.ref (G.ca c)], []⟩ ([Value.ref (G.ca c)] ++ ([] : List Value)) [V.ref (G.ca c)] Q E (hr.mono (Nat.le_succ _)) I2.env0 (hbd s2 [Value.ref (G.ca c)] I2.kIn hl2) (show Vals [V.ref (G.ca c)] ([Value.ref (G.ca c)] ++ ([] : List Value)) from .cons rfl .nil) q) fun r s' hq => ?_))
      cases r with
      | error e => exact O.pass _ σ H1 s2 e s' I2 hq
      | ok fl =>
        cases fl with
        | ret u => exact I2.after hq
        | _ => exact False.elim hq
    exact thn z fun _ _ y => ClX.unpinE y
theorem okE_callk (O : XOk G T nm call fx X E) {i : Nat} {es : List Ex} {x : Str} {y : Expr} {ys : List Expr} {p pos : Pos} (hN : fx.N[i]? = some x) (hv : visB fx.names x = true) (hp : plainName x = true)
    (hx : isStar y = false) (hxs : ys.all (fun x => !isStar x) = true) (ha : PA X (y :: ys) (tA G E (evEs T call es))) : PE X (.Call (.Name x p) (y :: ys) [] pos) (tE G E (evE T call (.callk i es))) := by
  refine ⟨fun pins s σ H Q I ⟨as, ρ, h, S, R, o⟩ => ?_⟩
  simp only [evE] at o
  split at o
  · rename_i c q
    obtain ⟨v', e, r⟩ := R.2 i _ q
    have ev : v' = .ref (G.ca c) := by unfold RepV at r; exact r
    subst ev
    refine wpAny_Call_Name_kw (thn ((pe_var (pos := p) (by rw [O.N]; exact hN) (vis_ok O hv) (plain_ok hp).1 (plain_ok hp).2.1).run pins s σ H (fun v H1 => v = .ref (G.ca c) ∧ H1 = H) I ⟨.ref (G.ca c), e, rfl, rfl⟩) fun u s1 ⟨v, H1, I1, r1, q1⟩ => ?_)
    obtain ⟨rfl, rfl⟩ := q1
    cases r1
    split at o
    · rename_i hsome
      obtain ⟨f, hi⟩ := Option.isSome_iff_exists.mp hsome
      obtain ⟨ci, ec, ei⟩ := Option.bind_eq_some_iff.mp hi
      obtain ⟨k, fd, ps, F, hr, hbd, ar, _⟩ := O.mfn c ci f ec (.inl ei)
      have M : Mk X.K (G.ca c) (G.fa f) := by rw [O.K]; exact O.cls.mkr c ci f ec ei
      refine PySem.W.callWith_K (h₀ := X.base) I.ok.mod.kin M.kp (thn (ha.run pos pins s1 σ _ (fun vs H1 => ∀ x dx, H1 x = none → H1 dx = none → dx ≠ x → spF G call f ps.length (.ref x :: (vs ++ [])) (upd (upd H1 dx (.own x)) x (.ins (G.ca c) dx [])) (fun v H2 => v = .non ∧ Q (.ref x) H2) E) I1 ⟨as, ρ, h, S, R, Ok.bind o fun vs h1 as1 H1 vs' f1 r1 o1 => ?_⟩) fun us s2 ⟨vs, H2, I2, r, q⟩ => ⟨I2.kIn, ?_⟩) (star_cons hx) (noStars hxs)
      · simp only [callG, hi] at o1
        exact make_ok ar f1.sr r1 o1
      · exact run_make M F hr hbd .nil O.pass I2 r q
    · exact False.elim o
  · exact False.elim o
end
end Mn
set_option Elab.async false
set_option linter.all false
set_option maxRecDepth 100000
set_option maxHeartbeats 1000000
namespace MnZ
open PySem
open Sem (wp)
section
variable {prog : Program} {w : World} {A : Around} {E : Value → Shared → Prop} {s : Shared} {z TI TO T i1 i2 : Addr} {fp1 fp2 : List Addr} {n1 n2 i : Nat} {P1 P2 : Nat → Value → Prop} {St1 St2 : Nat → Heap → Prop} {f : Bool} {oT : Obj}
theorem held_next {Q : Value → Shared → Prop} (Sp : ZipSep2 z TI TO i1 i2 fp1 fp2) (D1 : Draws prog w A i1 fp1 n1 P1 St1) (D2 : Draws prog w A i2 fp2 n2 P2 St2)
    (zz : IsZipHeld s.heap z TI TO T f) (zT : s.heap.get? T = some oT) (zI : IsTupOf2 s.heap TI (.ref i1) (.ref i2)) (q1 : St1 i s.heap) (q2 : St2 i s.heap) (l1 : i < n1) (l2 : i < n2)
    (k : ∀ x1 x2 h' tk, P1 i x1 → P2 i x2 → IsZipHeld h' z TI TO T true → St1 (i + 1) h' → St2 (i + 1) h' → IsTupOf2 h' s.heap.objs.size x1 x2 → h'.objs.size = s.heap.objs.size + 1 →
      (∀ c o, c ≠ z → c ≠ i1 → c ≠ i2 → s.heap.get? c = some o → h'.get? c = some o) → Q (.ref s.heap.objs.size) { s with heap := h', toks := tk }) :
    wpAny (model prog w) A (Builtin.«zip.__next__» ⟨[.ref z], []⟩) (fun fin s' => ∃ v, fin = .done (.ret v) ∧ Q v s') E s := by
  obtain ⟨hp, gg, dd, tk0, os⟩ := s
  show wpAny _ _ (field (.ref z) 2 >>= _) _ _ ⟨hp, gg, dd, tk0, os⟩
  refine wpAny_bind (wpAny_field zz rfl (x := .bool false) rfl (show wpAny _ _ (field (.ref z) 3 >>= _) _ _ ⟨hp, gg, dd, tk0, os⟩ from wpAny_bind (wpAny_field zz rfl (x := .ref TI) rfl (wpAny_bind (wpAny_seqItems zI rfl ?_)))))
  show wpAny _ _ (Builtin.SmallTypes.ownedTupleIsFree (.ref z) >>= _) _ _ ⟨hp, gg, dd, tk0, os⟩
  refine wpAny_bind (wpAny_tupleHeld_zip zz zT fun h₁ zz₁ sb₁ => ?_)
  simp only [Bool.false_eq_true, if_false]
  refine wpAny_bind ?_
  rw [← Array.forIn_toList]
  simp only [List.forIn_cons, List.forIn_nil]
  replace sb₁ : Heap.SameBut z hp h₁ := sb₁
  refine wpAny_bind (wpAny_bind (wpAny_holding (show wpAny _ _ (Builtin.SmallTypes.nextOf (.ref i1) >>= _) _ _ ⟨h₁, gg, dd, tk0, os⟩ from ?_)))
  refine wpAny_bind (D1.item i _ _ _ l1 (D1.over q1 sb₁ Sp.zf1) fun x1 g₁ tk1 hx1 sn1 sg₁ => wpAny_pure (wpAny_pure ?_))
  replace sg₁ : Heap.SameBut i1 h₁ g₁ := sg₁
  refine wpAny_bind (wpAny_bind (wpAny_holding (show wpAny _ _ (Builtin.SmallTypes.nextOf (.ref i2) >>= _) _ _ ⟨g₁, gg, dd, tk1, os⟩ from ?_)))
  refine wpAny_bind (D2.item i _ _ _ l2 (D2.over (D2.over q2 sb₁ Sp.zf2) sg₁ Sp.sep1_2) fun x2 g₂ tk2 hx2 sn2 sg₂ => wpAny_pure (wpAny_pure (wpAny_pure ?_)))
  replace sg₂ : Heap.SameBut i2 g₁ g₂ := sg₂
  show wpAny _ _ (newTuple [x1, x2] >>= _) _ _ ⟨g₂, gg, dd, tk2, os⟩
  refine wpAny_bind (wpAny_newTuple (wpAny_pure ⟨_, rfl, ?_⟩))
  have zs : g₂.objs.size = hp.objs.size := by rw [sg₂.1, sg₁.1, sb₁.1]
  have keep : ∀ c o, c ≠ z → c ≠ i1 → c ≠ i2 → hp.get? c = some o → g₂.get? c = some o := fun c o cz c1 c2 e => sg₂.extBut _ _ c2 (sg₁.extBut _ _ c1 (sb₁.extBut _ _ cz e))
  have zz2 : IsZipHeld g₂ z TI TO T true := sg₂.extBut _ _ Sp.zi2 (sg₁.extBut _ _ Sp.zi1 zz₁)
  have up : ∀ c o, g₂.get? c = some o → (g₂.push { cls := .type "tuple", data := .seq #[x1, x2] }).get? c = some o := fun c o e => Heap.get?_push_of_some _ e
  have pT : IsTupOf2 (g₂.push { cls := .type "tuple", data := .seq #[x1, x2] }) g₂.objs.size x1 x2 := Heap.get?_push_size _ rfl
  have pz : (g₂.push { cls := .type "tuple", data := .seq #[x1, x2] }).objs.size = g₂.objs.size + 1 := Heap.size_push ..
  show Q (.ref g₂.objs.size) ⟨g₂.push { cls := .type "tuple", data := .seq #[x1, x2] }, gg, dd, tk2, os⟩
  have kk := k x1 x2 (g₂.push { cls := .type "tuple", data := .seq #[x1, x2] }) tk2 hx1 hx2 (up _ _ zz2) (D1.frame _ _ _ (D1.over sn1 sg₂ Sp.sep2_1) fun b _ o e => up b o e) (D2.frame _ _ _ sn2 fun b _ o e => up b o e)
  rw [← show g₂.objs.size = (⟨hp, gg, dd, tk0, os⟩ : Shared).heap.objs.size from zs] at kk
  exact kk pT pz fun c o cz c1 c2 e => up c o (keep c o cz c1 c2 e)
theorem held_end {Q : Fin → Shared → Prop} (Sp : ZipSep2 z TI TO i1 i2 fp1 fp2) (D1 : Draws prog w A i1 fp1 n1 P1 St1) (D2 : Draws prog w A i2 fp2 n2 P2 St2)
    (zz : IsZipHeld s.heap z TI TO T f) (zT : s.heap.get? T = some oT) (zI : IsTupOf2 s.heap TI (.ref i1) (.ref i2)) (q1 : St1 i s.heap) (q2 : St2 i s.heap) (l1 : i ≤ n1) (l2 : i ≤ n2) (le : i = n1 ∨ i = n2)
    (k : ∀ h' tk e, (∀ c o, c ≠ z → c ≠ i1 → c ≠ i2 → s.heap.get? c = some o → h'.get? c = some o) → (∃ o, h'.get? e = some o ∧ o.cls = .type "StopIteration") → E (.ref e) { s with heap := h', toks := tk }) :
    wpAny (model prog w) A (Builtin.«zip.__next__» ⟨[.ref z], []⟩) Q E s := by
  obtain ⟨hp, gg, dd, tk0, os⟩ := s
  show wpAny _ _ (field (.ref z) 2 >>= _) _ _ ⟨hp, gg, dd, tk0, os⟩
  refine wpAny_bind (wpAny_field zz rfl (x := .bool false) rfl (show wpAny _ _ (field (.ref z) 3 >>= _) _ _ ⟨hp, gg, dd, tk0, os⟩ from wpAny_bind (wpAny_field zz rfl (x := .ref TI) rfl (wpAny_bind (wpAny_seqItems zI rfl ?_)))))
  show wpAny _ _ (Builtin.SmallTypes.ownedTupleIsFree (.ref z) >>= _) _ _ ⟨hp, gg, dd, tk0, os⟩
  refine wpAny_bind (wpAny_tupleHeld_zip zz zT fun h₁ zz₁ sb₁ => ?_)
  simp only [Bool.false_eq_true, if_false]
  refine wpAny_bind ?_
  rw [← Array.forIn_toList]
  simp only [List.forIn_cons, List.forIn_nil]
  replace sb₁ : Heap.SameBut z hp h₁ := sb₁
  refine wpAny_bind (wpAny_bind (wpAny_holding (show wpAny _ _ (Builtin.SmallTypes.nextOf (.ref i1) >>= _) _ _ ⟨h₁, gg, dd, tk0, os⟩ from ?_)))
  by_cases lt1 : i < n1
  · refine wpAny_bind (D1.item i _ _ _ lt1 (D1.over q1 sb₁ Sp.zf1) fun x1 g₁ tk1 hx1 sn1 sg₁ => wpAny_pure (wpAny_pure ?_))
    replace sg₁ : Heap.SameBut i1 h₁ g₁ := sg₁
    have e2 : i = n2 := by omega
    refine wpAny_bind (wpAny_bind (wpAny_holding (show wpAny _ _ (Builtin.SmallTypes.nextOf (.ref i2) >>= _) _ _ ⟨g₁, gg, dd, tk1, os⟩ from ?_)))
    refine wpAny_bind (D2.done ⟨g₁, gg, dd, tk1, os⟩ _ _ (by rw [← e2]; exact D2.over (D2.over q2 sb₁ Sp.zf2) sg₁ Sp.sep1_2) fun g e hg he => ?_)
    exact k g tk1 e (fun c o cz c1 c2 x => hg _ _ c2 (sg₁.extBut _ _ c1 (sb₁.extBut _ _ cz x))) he
  · have e1 : i = n1 := by omega
    refine wpAny_bind (D1.done ⟨h₁, gg, dd, tk0, os⟩ _ _ (by rw [← e1]; exact D1.over q1 sb₁ Sp.zf1) fun g e hg he => ?_)
    exact k g tk0 e (fun c o cz c1 c2 x => hg _ _ c1 (sb₁.extBut _ _ cz x)) he
theorem held_item {Q : Option Value → Shared → Prop} (Sp : ZipSep2 z TI TO i1 i2 fp1 fp2) (D1 : Draws prog w A.in1 i1 fp1 n1 P1 St1) (D2 : Draws prog w A.in1 i2 fp2 n2 P2 St2)
    (zz : IsZipHeld s.heap z TI TO T f) (zT : s.heap.get? T = some oT) (zI : IsTupOf2 s.heap TI (.ref i1) (.ref i2)) (q1 : St1 i s.heap) (q2 : St2 i s.heap) (l1 : i < n1) (l2 : i < n2)
    (k : ∀ x1 x2 h' tk, P1 i x1 → P2 i x2 → IsZipHeld h' z TI TO T true → St1 (i + 1) h' → St2 (i + 1) h' → IsTupOf2 h' s.heap.objs.size x1 x2 → h'.objs.size = s.heap.objs.size + 1 →
      (∀ c o, c ≠ z → c ≠ i1 → c ≠ i2 → s.heap.get? c = some o → h'.get? c = some o) → Q (some (.ref s.heap.objs.size)) { s with heap := h', toks := tk }) :
    wpAny (model prog w) A (pyNext (.ref z)) Q E s := by
  have ty : s.TypeIs (.ref z) "zip" := ⟨_, zz, rfl⟩
  unfold pyNext
  exact wpAny_bind (wpAny_attempt (wpAny_callSpecial?_slot (name := Str.ofString "__next__") ty F.slot_zip_next (wpAny_call_entry F.slot_zip_next ty F.entry_zip_next
    (held_next Sp D1 D2 zz zT zI q1 q2 l1 l2 fun x1 x2 h' tk a b c d e g m n => wpAny_pure (k x1 x2 h' tk a b c d e g m n)) (F.args_zip_next_1 _))))
theorem held_done {Q : Option Value → Shared → Prop} (Sp : ZipSep2 z TI TO i1 i2 fp1 fp2) (D1 : Draws prog w A.in1 i1 fp1 n1 P1 St1) (D2 : Draws prog w A.in1 i2 fp2 n2 P2 St2)
    (zz : IsZipHeld s.heap z TI TO T f) (zT : s.heap.get? T = some oT) (zI : IsTupOf2 s.heap TI (.ref i1) (.ref i2)) (q1 : St1 i s.heap) (q2 : St2 i s.heap) (l1 : i ≤ n1) (l2 : i ≤ n2) (le : i = n1 ∨ i = n2)
    (k : ∀ h' tk, (∀ c o, c ≠ z → c ≠ i1 → c ≠ i2 → s.heap.get? c = some o → h'.get? c = some o) → Q none { s with heap := h', toks := tk }) : wpAny (model prog w) A (pyNext (.ref z)) Q E s := by
  have ty : s.TypeIs (.ref z) "zip" := ⟨_, zz, rfl⟩
  unfold pyNext
  refine wpAny_bind (wpAny_attempt (wpAny_callSpecial?_slot (name := Str.ofString "__next__") ty F.slot_zip_next (wpAny_call_entry F.slot_zip_next ty F.entry_zip_next
    (held_end Sp D1 D2 zz zT zI q1 q2 l1 l2 le fun h' tk e hk he => ?_) (F.args_zip_next_1 _))))
  obtain ⟨o, ho, hc⟩ := he
  exact wpAny_bind (wpAny_isInstance (T := "StopIteration") (b := true) ⟨o, ho, hc⟩ isSubtype_stop (wpAny_pure (k _ _ hk)))
end
end MnZ
set_option Elab.async false
set_option linter.all false
set_option maxRecDepth 100000
set_option maxHeartbeats 1000000
namespace MnZ
open PySem
open Sem (wp)
def Zst (z TI TO i1 i2 S : Addr) (h : Heap) : Prop := (IsZip h z TI TO .none ∧ ∃ a1 a2, IsTupOf2 h TO a1 a2) ∨ ∃ (T : Addr) (f : Bool) (oT : Obj), IsZipHeld h z TI TO T f ∧ h.get? T = some oT ∧ T ≠ z ∧ T ≠ TO ∧ T ≠ i1 ∧ T ≠ i2 ∧ T ≠ S
section
variable {prog : Program} {w : World} {A : Around} {E : Value → Shared → Prop} {s : Shared} {z TI TO S i1 i2 : Addr} {fp1 fp2 : List Addr} {n1 n2 i : Nat} {P1 P2 : Nat → Value → Prop} {St1 St2 : Nat → Heap → Prop}
theorem z_item {Q : Option Value → Shared → Prop} (Sp : ZipSep2 z TI TO i1 i2 fp1 fp2) (D1 : Draws prog w A.in1 i1 fp1 n1 P1 St1) (D2 : Draws prog w A.in1 i2 fp2 n2 P2 St2) (zs : Zst z TI TO i1 i2 S s.heap) (hS : S < s.heap.objs.size)
    (zI : IsTupOf2 s.heap TI (.ref i1) (.ref i2)) (q1 : St1 i s.heap) (q2 : St2 i s.heap) (l1 : i < n1) (l2 : i < n2)
    (k : ∀ x1 x2 h' tk, P1 i x1 → P2 i x2 → Zst z TI TO i1 i2 S h' → St1 (i + 1) h' → St2 (i + 1) h' → IsTupOf2 h' s.heap.objs.size x1 x2 → h'.objs.size = s.heap.objs.size + 1 →
      (∀ c o, c ≠ z → c ≠ TO → c ≠ i1 → c ≠ i2 → s.heap.get? c = some o → h'.get? c = some o) → Q (some (.ref s.heap.objs.size)) { s with heap := h', toks := tk }) :
    wpAny (model prog w) A (pyNext (.ref z)) Q E s := by
  have old : ∀ {c o}, s.heap.get? c = some o → s.heap.objs.size ≠ c := fun e => Nat.ne_of_gt (Heap.lt_size e)
  have o1 : s.heap.objs.size ≠ i1 := let ⟨_, e⟩ := D1.live _ _ q1; old e
  have o2 : s.heap.objs.size ≠ i2 := let ⟨_, e⟩ := D2.live _ _ q2; old e
  rcases zs with ⟨zz, a1, a2, zO⟩ | ⟨T, f, oT, zz, zT, nz, nO, n1', n2', nS⟩
  · refine wpAny_pyNext_zipD2_item Sp D1 D2 zz zI zO q1 q2 l1 l2 fun x1 x2 h' tk y1 y2 b1 b2 d1 d2 pT sz kp => ?_
    exact k x1 x2 h' tk y1 y2 (.inr ⟨s.heap.objs.size, false, _, b1, pT, old zz, old zO, o1, o2, Nat.ne_of_gt hS⟩) d1 d2 pT sz kp
  · refine held_item Sp D1 D2 zz zT zI q1 q2 l1 l2 fun x1 x2 h' tk y1 y2 b1 d1 d2 pT sz kp => ?_
    exact k x1 x2 h' tk y1 y2 (.inr ⟨T, true, oT, b1, kp _ _ nz n1' n2' zT, nz, nO, n1', n2', nS⟩) d1 d2 pT sz fun c o cz _ c1 c2 e => kp c o cz c1 c2 e
theorem z_done {Q : Option Value → Shared → Prop} (Sp : ZipSep2 z TI TO i1 i2 fp1 fp2) (D1 : Draws prog w A.in1 i1 fp1 n1 P1 St1) (D2 : Draws prog w A.in1 i2 fp2 n2 P2 St2) (zs : Zst z TI TO i1 i2 S s.heap)
    (zI : IsTupOf2 s.heap TI (.ref i1) (.ref i2)) (q1 : St1 i s.heap) (q2 : St2 i s.heap) (l1 : i ≤ n1) (l2 : i ≤ n2) (le : i = n1 ∨ i = n2)
    (k : ∀ h' tk, (∀ c o, c ≠ z → c ≠ TO → c ≠ i1 → c ≠ i2 → s.heap.get? c = some o → h'.get? c = some o) → Q none { s with heap := h', toks := tk }) : wpAny (model prog w) A (pyNext (.ref z)) Q E s := by
  rcases zs with ⟨zz, a1, a2, zO⟩ | ⟨T, f, oT, zz, zT, nz, nO, n1', n2', nS⟩
  · exact wpAny_pyNext_zipD2_end Sp D1 D2 zz zI zO q1 q2 l1 l2 le k
  · exact held_done Sp D1 D2 zz zT zI q1 q2 l1 l2 le fun h' tk kp => k h' tk fun c o cz _ c1 c2 e => kp c o cz c1 c2 e
end
theorem ne_lo {a b base : Nat} (h : a < base) (hb : base ≤ b) : b ≠ a := Nat.ne_of_gt (Nat.lt_of_lt_of_le h hb)
structure Prs (P1 P2 : Nat → Value → Prop) (base : Nat) (h : Heap) (Ts : List Addr) : Prop where
  up : Ts.Pairwise (· < ·)
  at_ : ∀ T ∈ Ts, base ≤ T
  pr : ∀ (j : Nat) (T : Addr), Ts[j]? = some T → ∃ x1 x2, P1 j x1 ∧ P2 j x2 ∧ IsTupOf2 h T x1 x2
theorem Prs.keep {P1 P2 : Nat → Value → Prop} {base : Nat} {h h' : Heap} {Ts : List Addr} (p : Prs P1 P2 base h Ts) (k : ∀ b o, base ≤ b → h.get? b = some o → h'.get? b = some o) : Prs P1 P2 base h' Ts :=
  ⟨p.up, p.at_, fun j T e => let ⟨x1, x2, a, b, c⟩ := p.pr j T e; ⟨x1, x2, a, b, k _ _ (p.at_ T (List.mem_of_getElem? e)) c⟩⟩
theorem Prs.snoc {P1 P2 : Nat → Value → Prop} {base : Nat} {h h' : Heap} {Ts : List Addr} {x1 x2 : Value} (p : Prs P1 P2 base h Ts) (k : ∀ b o, base ≤ b → h.get? b = some o → h'.get? b = some o) (hb : base ≤ h.objs.size) (a : P1 Ts.length x1) (b : P2 Ts.length x2) (c : IsTupOf2 h' h.objs.size x1 x2) :
    Prs P1 P2 base h' (Ts ++ [h.objs.size]) where
  up := by
    rw [List.pairwise_append]
    refine ⟨p.up, by simp, fun T hT U hU => ?_⟩
    rw [List.mem_singleton.mp hU]
    obtain ⟨j, e⟩ := List.getElem?_of_mem hT
    obtain ⟨_, _, _, _, e2⟩ := p.pr j T e
    exact Heap.lt_size e2
  at_ := fun T hT => by
    rcases List.mem_append.mp hT with q | q
    · exact p.at_ T q
    · rw [List.mem_singleton.mp q]; exact hb
  pr := fun j T e => by
    by_cases hj : j < Ts.length
    · rw [List.getElem?_append_left hj] at e
      exact (p.keep k).pr j T e
    · rw [List.getElem?_append_right (by omega)] at e
      have hj2 : j = Ts.length := by
        have := (List.getElem?_eq_some_iff.mp e).1
        simp at this
        omega
      subst hj2
      simp at e
      subst e
      exact ⟨x1, x2, a, b, c⟩
section
variable {prog : Program} {w : World} {A : Around} {s : Shared} {z TI TO S i1 i2 : Addr} {fp1 fp2 : List Addr} {n1 n2 base : Nat} {P1 P2 : Nat → Value → Prop} {St1 St2 : Nat → Heap → Prop} {R : Result → Shared → Prop}
theorem zl_loop (Sp : ZipSep2 z TI TO i1 i2 fp1 fp2) (D1 : Draws prog w A.in1.in1 i1 fp1 n1 P1 St1) (D2 : Draws prog w A.in1.in1 i2 fp2 n2 P2 St2) (hn : min n1 n2 ≤ sizeLine) (res : Value)
    (S1 : S ∉ fp1) (S2 : S ∉ fp2) (Sz : S ≠ z) (SI : S ≠ TI) (SO : S ≠ TO) (Si1 : S ≠ i1) (Si2 : S ≠ i2) (bS : S < base) (bz : z < base) (bO : TO < base) (b1 : i1 < base) (b2 : i2 < base) :
    ∀ (m i : Nat) (s : Shared) (acc : Array Value) (c : Nat) (Ts : List Addr), i + m = min n1 n2 → Zst z TI TO i1 i2 S s.heap → IsTupOf2 s.heap TI (.ref i1) (.ref i2) → St1 i s.heap → St2 i s.heap →
      s.heap.get? S = some { cls := .type "list", dict := none, data := .seq acc c, slots := #[] } → acc.toList = Ts.map Value.ref → Ts.length = i → Prs P1 P2 base s.heap Ts → base ≤ s.heap.objs.size →
      (∀ h' tk acc' c' Ts', (∀ b o, b ≠ S → b ≠ z → b ≠ TO → b ≠ i1 → b ≠ i2 → s.heap.get? b = some o → h'.get? b = some o) → h'.get? S = some { cls := .type "list", dict := none, data := .seq acc' c', slots := #[] } →
        acc'.toList = Ts'.map Value.ref → Ts'.length = min n1 n2 → Prs P1 P2 base h' Ts' → R (.ok (.ret res)) { s with heap := h', toks := tk }) →
      codeAny (model prog w) A (.builtin "list.extend.loop" ⟨[.ref S, .ref z, res], []⟩) R s := by
  intro m
  induction m with
  | zero =>
    intro i s acc c Ts hi zs zI q1 q2 hS hacc hl pr hb k
    refine codeAny_builtin F.entry_extend_loop ?_
    rw [Around.under_plainId F.plain_extend_loop _]
    show wpAny _ A.in1 (pyNext (.ref z) >>= _) _ _ s
    refine wpAny_bind (z_done (S := S) Sp D1 D2 zs zI q1 q2 (by omega) (by omega) (by omega) fun h' tk kp => wpAny_pure ?_)
    exact k h' tk acc c Ts (fun b o _ bz' bo' b1' b2' e => kp b o bz' bo' b1' b2' e) (kp _ _ Sz SO Si1 Si2 hS) hacc (by omega) (pr.keep fun b o hb' e => kp b o (ne_lo bz hb') (ne_lo bO hb') (ne_lo b1 hb') (ne_lo b2 hb') e)
  | succ m ih =>
    intro i s acc c Ts hi zs zI q1 q2 hS hacc hl pr hb k
    refine codeAny_builtin F.entry_extend_loop ?_
    rw [Around.under_plainId F.plain_extend_loop _]
    show wpAny _ A.in1 (pyNext (.ref z) >>= _) _ _ s
    refine wpAny_bind (z_item Sp D1 D2 zs (Heap.lt_size hS) zI q1 q2 (by omega) (by omega) fun x1 x2 h' tk y1 y2 zs' d1 d2 pT sz kp => ?_)
    have hS' := kp _ _ Sz SO Si1 Si2 hS
    show wpAny _ A.in1 (updateSeq S (·.push (.ref s.heap.objs.size)) >>= _) _ _ { s with heap := h', toks := tk }
    have hasz : acc.size = i := by rw [← Array.length_toList, hacc, List.length_map, hl]
    have up : ∀ b o, b ≠ S → h'.get? b = some o → (h'.update S (Obj.mapSeq (·.push (Value.ref s.heap.objs.size)))).get? b = some o := fun b o hbS e => (Heap.get?_update_other _ _ (Ne.symm hbS)).trans e
    have usz : (h'.update S (Obj.mapSeq (·.push (Value.ref s.heap.objs.size)))).objs.size = h'.objs.size := (Heap.SameBut.update ..).1
    refine wpAny_bind (wpAny_updateSeq (s := { s with heap := h', toks := tk }) hS' rfl (wpAny_pure ⟨plainId_quiet F.plain_extend_loop _, ?_⟩) (by omega) (by show (acc.push _).size ≤ sizeLine + 1; rw [Array.size_push]; omega))
    refine ih (i + 1) { s with heap := h'.update S (Obj.mapSeq (·.push (Value.ref s.heap.objs.size))), toks := tk } (acc.push (.ref s.heap.objs.size)) _ (Ts ++ [s.heap.objs.size]) (by omega) ?_ ?_ ?_ ?_ (Heap.get?_update_self _ hS' rfl) ?_ ?_ ?_ ?_ fun h2 tk2 acc2 c2 Ts2 kp2 hS2 ha2 hl2 pr2 => ?_
    · rcases zs' with ⟨zz, a1, a2, zO⟩ | ⟨T, f, oT, zz, zT, nz, nO, n1', n2', nS⟩
      · exact .inl ⟨up _ _ (Ne.symm Sz) zz, a1, a2, up _ _ (Ne.symm SO) zO⟩
      · exact .inr ⟨T, f, oT, up _ _ (Ne.symm Sz) zz, up _ _ nS zT, nz, nO, n1', n2', nS⟩
    · exact up _ _ (Ne.symm SI) (kp _ _ Sp.TIz Sp.TITO Sp.TIi1 Sp.TIi2 zI)
    · exact D1.frame _ _ _ d1 fun b hb' o e => up b o (fun q => S1 (q ▸ hb')) e
    · exact D2.frame _ _ _ d2 fun b hb' o e => up b o (fun q => S2 (q ▸ hb')) e
    · rw [Array.toList_push, hacc, List.map_append]; rfl
    · simp [hl]
    · exact pr.snoc (fun b o hb' e => up b o (ne_lo bS hb') (kp b o (ne_lo bz hb') (ne_lo bO hb') (ne_lo b1 hb') (ne_lo b2 hb') e)) hb (by rw [hl]; exact y1) (by rw [hl]; exact y2) (up _ _ (Nat.ne_of_gt (Nat.lt_of_lt_of_le bS hb)) pT)
    · show base ≤ (h'.update S (Obj.mapSeq (·.push (Value.ref s.heap.objs.size)))).objs.size
      rw [usz, sz]; omega
    · exact k h2 tk2 acc2 c2 Ts2 (fun b o bS' bz' bo' b1' b2' e => kp2 b o bS' bz' bo' b1' b2' (up b o bS' (kp b o bz' bo' b1' b2' e))) hS2 ha2 hl2 pr2
end
end MnZ
set_option Elab.async false
set_option linter.all false
set_option maxRecDepth 100000
set_option maxHeartbeats 1000000
namespace MnZ
open PySem
open Sem (wp)
theorem zip_no_len : typeLookup (.type "zip") "__len__" = pure none := am_miss_of_fast (by decide +kernel)
theorem zip_no_hint : typeLookup (.type "zip") "__length_hint__" = pure none := am_miss_of_fast (by decide +kernel)
structure Fin2 (P1 P2 : Nat → Value → Prop) (base n : Nat) (h : Heap) (S : Addr) (Ts : List Addr) : Prop where
  lst : ∃ (acc : Array Value) (c : Nat), h.get? S = some { cls := .type "list", dict := none, data := .seq acc c, slots := #[] } ∧ acc.toList = Ts.map Value.ref
  len : Ts.length = n
  prs : Prs P1 P2 base h Ts
section
variable {prog : Program} {w : World} {A : Around} {E : Value → Shared → Prop} {s : Shared} {z TI TO S i1 i2 : Addr} {fp1 fp2 : List Addr} {n1 n2 base : Nat} {P1 P2 : Nat → Value → Prop} {St1 St2 : Nat → Heap → Prop} {R : Result → Shared → Prop}
theorem zl_extend (Sp : ZipSep2 z TI TO i1 i2 fp1 fp2) (D1 : Draws prog w A.in1.in1 i1 fp1 n1 P1 St1) (D2 : Draws prog w A.in1.in1 i2 fp2 n2 P2 St2) (hn : min n1 n2 ≤ sizeLine) (res : Value)
    (S1 : S ∉ fp1) (S2 : S ∉ fp2) (Sz : S ≠ z) (SI : S ≠ TI) (SO : S ≠ TO) (Si1 : S ≠ i1) (Si2 : S ≠ i2) (bS : S < s.heap.objs.size) (b1 : i1 < s.heap.objs.size) (b2 : i2 < s.heap.objs.size) (c₀ : Nat)
    (hS : s.heap.get? S = some { cls := .type "list", data := .seq #[] c₀ }) (zz : IsZip s.heap z TI TO .none) (zO : ∃ a1 a2, IsTupOf2 s.heap TO a1 a2) (zI : IsTupOf2 s.heap TI (.ref i1) (.ref i2)) (q1 : St1 0 s.heap) (q2 : St2 0 s.heap)
    (k : ∀ h' tk Ts, (∀ b o, b ≠ S → b ≠ z → b ≠ TO → b ≠ i1 → b ≠ i2 → s.heap.get? b = some o → h'.get? b = some o) → Fin2 P1 P2 s.heap.objs.size (min n1 n2) h' S Ts → R (.ok (.ret res)) { s with heap := h', toks := tk }) :
    wpAny (model prog w) A.in1 (Builtin.List.listExtendWith (.ref S) (.ref z) res) (fun fin s' => match fin with | .done f => R (.ok f) s' | .again c' => c'.quiet = true ∧ codeAny (model prog w) A c' R s') (fun e s' => R (.error e) s') s := by
  have ty : s.TypeIs (.ref z) "zip" := ⟨_, zz, rfl⟩
  have lt : ∀ {c o}, s.heap.get? c = some o → c < s.heap.objs.size := fun e => Heap.lt_size e
  obtain ⟨a1, a2, zO'⟩ := zO
  unfold Builtin.List.listExtendWith
  refine wpAny_bind (wpAny_typeOf ty ?_)
  have w1 : Builtin.List.listSameRef (.ref S) (.ref z) = false := by simp [Builtin.List.listSameRef, Sz]
  have w2 : (Value.type "zip" == Value.type "list") = false := by decide
  have w3 : (Value.type "zip" == Value.type "tuple") = false := by decide
  simp only [w1, w2, w3, Bool.or_false, Bool.false_eq_true, if_false]
  refine wpAny_bind (wpAny_pyIter_zip zz (wpAny_bind (wpAny_holding ?_)))
  unfold Builtin.List.listLengthHint
  refine wpAny_bind (wpAny_specialOf ty zip_no_len (show wpAny _ A.in1 (specialOf (Value.ref z) (Str.ofString "__length_hint__") >>= _) _ _ _ from wpAny_bind (wpAny_specialOf ty zip_no_hint (wpAny_pure ?_))))
  show wpAny _ A.in1 (rule "list.extend.makes-room" >>= fun _ => Builtin.List.listTouch (.ref S) >>= fun _ => again (.builtin "list.extend.loop" ⟨[.ref S, .ref z, res], []⟩)) _ _ s
  refine wpAny_bind (wpAny_rule (wpAny_bind (show wpAny _ A.in1 (updateSeq S (·.push .none) >>= fun _ => updateSeq S (·.pop)) _ _ _ from ?_)))
  refine wpAny_bind (wpAny_updateSeq hS rfl ?_)
  have u1 := Heap.get?_update_self (Obj.mapSeq (·.push Value.none)) hS rfl
  refine wpAny_updateSeq (hz := by seq_fits) u1 rfl ?_
  have u2 := Heap.get?_update_self (Obj.mapSeq (·.pop)) u1 rfl
  have oth : ∀ b o, b ≠ S → s.heap.get? b = some o → ((s.heap.update S (Obj.mapSeq (·.push Value.none))).update S (Obj.mapSeq (·.pop))).get? b = some o :=
    fun b o hb e => (Heap.get?_update_other _ _ (Ne.symm hb)).trans ((Heap.get?_update_other _ _ (Ne.symm hb)).trans e)
  have sz : ((s.heap.update S (Obj.mapSeq (·.push Value.none))).update S (Obj.mapSeq (·.pop))).objs.size = s.heap.objs.size := (Heap.SameBut.update ..).1.trans (Heap.SameBut.update ..).1
  refine wpAny_pure ⟨plainId_quiet F.plain_extend_loop _, zl_loop (base := s.heap.objs.size) Sp D1 D2 hn res S1 S2 Sz SI SO Si1 Si2 bS (lt zz) (lt zO') b1 b2 (min n1 n2) 0 _ _ _ [] (by omega)
    (.inl ⟨oth _ _ (Ne.symm Sz) zz, a1, a2, oth _ _ (Ne.symm SO) zO'⟩) (oth _ _ (Ne.symm SI) zI) (D1.frame _ _ _ q1 fun b hb' o e => oth b o (fun q => S1 (q ▸ hb')) e) (D2.frame _ _ _ q2 fun b hb' o e => oth b o (fun q => S2 (q ▸ hb')) e) u2 ?_ rfl
    ⟨List.Pairwise.nil, fun T hT => by simp at hT, fun j T e => by simp at e⟩ (by rw [sz]; exact Nat.le_refl _) fun h' tk acc' c' Ts' kp hS' ha hl pr => ?_⟩
  · simp
  · exact k h' tk Ts' (fun b o x1 x2 x3 x4 x5 e => kp b o x1 x2 x3 x4 x5 (oth b o x1 e)) ⟨⟨acc', c', hS', ha⟩, hl, pr⟩
theorem zl_call {Q : Value → Shared → Prop} (Sp : ZipSep2 z TI TO i1 i2 fp1 fp2) (D1 : ∀ A : Around, A.handled = none → Draws prog w A i1 fp1 n1 P1 St1) (D2 : ∀ A : Around, A.handled = none → Draws prog w A i2 fp2 n2 P2 St2) (hh : A.handled = none) (hn : min n1 n2 ≤ sizeLine)
    (f1 : ∀ b ∈ fp1, b < s.heap.objs.size) (f2 : ∀ b ∈ fp2, b < s.heap.objs.size)
    (zz : IsZip s.heap z TI TO .none) (zO : ∃ a1 a2, IsTupOf2 s.heap TO a1 a2) (zI : IsTupOf2 s.heap TI (.ref i1) (.ref i2)) (q1 : St1 0 s.heap) (q2 : St2 0 s.heap)
    (k : ∀ h' tk Ts, (∀ b o, b ≠ z → b ≠ TO → b ≠ i1 → b ≠ i2 → s.heap.get? b = some o → h'.get? b = some o) → Fin2 P1 P2 (s.heap.objs.size + 1) (min n1 n2) h' s.heap.objs.size Ts → Q (.ref s.heap.objs.size) { s with heap := h', toks := tk }) :
    wpAny (model prog w) A (call (.type "list") [.ref z]) Q E s := by
  have lt : ∀ {c o}, s.heap.get? c = some o → s.heap.objs.size ≠ c := fun e => Nat.ne_of_gt (Heap.lt_size e)
  refine callType_codes (Q₁ := fun obj s₁ => obj = .ref s.heap.objs.size ∧ s₁ = { s with heap := s.heap.push { cls := .type "list", data := .seq #[] } }) F.called_list (F.typeCall_list_1 _) F.entry_list_init
    (code_list_new _ ⟨rfl, rfl⟩) fun obj s₁ h₁ => ?_
  obtain ⟨rfl, rfl⟩ := h₁
  have hS : (s.heap.push { cls := .type "list", data := .seq #[] }).get? s.heap.objs.size = some { cls := .type "list", data := .seq #[] } := Heap.get?_push_size _ rfl
  have up : ∀ b o, s.heap.get? b = some o → (s.heap.push { cls := .type "list", data := .seq #[] }).get? b = some o := fun b o e => Heap.get?_push_of_some _ e
  refine ⟨⟨_, hS, rfl⟩, F.args_list_init_2 _ _, ?_⟩
  show wpAny _ A.in1.in1 (do let old ← Builtin.List.listItems (.ref s.heap.objs.size); Builtin.List.listUpdate (.ref s.heap.objs.size) (fun _ => #[]); letGo old.toList.reverse; Builtin.List.listExtendWith (.ref s.heap.objs.size) (.ref z) .none) _ _ _
  refine wpAny_bind ?_
  unfold Builtin.List.listItems
  refine wpAny_bind (wpAny_seqItems hS rfl (wpAny_pure ?_))
  show wpAny _ A.in1.in1 (updateSeq s.heap.objs.size (fun _ => #[]) >>= fun _ => letGo (#[] : Array Value).toList.reverse >>= fun _ => Builtin.List.listExtendWith (.ref s.heap.objs.size) (.ref z) .none) _ _ _
  refine wpAny_bind (wpAny_updateSeq hS rfl (wpAny_bind (wpAny_letGo ?_)))
  have u := Heap.get?_update_self (Obj.mapSeq (fun _ => (#[] : Array Value))) hS rfl
  have oth : ∀ b o, s.heap.get? b = some o → ((s.heap.push { cls := .type "list", data := .seq #[] }).update s.heap.objs.size (Obj.mapSeq (fun _ => (#[] : Array Value)))).get? b = some o :=
    fun b o e => (Heap.get?_update_other _ _ (lt e)).trans (up b o e)
  have sz : ((s.heap.push { cls := .type "list", data := .seq #[] }).update s.heap.objs.size (Obj.mapSeq (fun _ => (#[] : Array Value)))).objs.size = s.heap.objs.size + 1 := (Heap.SameBut.update ..).1.trans (Heap.size_push ..)
  obtain ⟨_, e1⟩ := (D1 A hh).live _ _ q1
  obtain ⟨_, e2⟩ := (D2 A hh).live _ _ q2
  obtain ⟨a1, a2, zO'⟩ := zO
  refine zl_extend (A := A.in1) Sp (D1 _ hh) (D2 _ hh) hn .none (fun hm => Nat.lt_irrefl _ (f1 _ hm)) (fun hm => Nat.lt_irrefl _ (f2 _ hm)) (lt zz) (lt zI) (lt zO') (lt e1) (lt e2) (by show s.heap.objs.size < _; rw [sz]; exact Nat.lt_succ_self _) ?_ ?_ _ u (oth _ _ zz) ⟨a1, a2, oth _ _ zO'⟩ (oth _ _ zI)
    ((D1 A hh).frame _ _ _ q1 fun b _ o e => oth b o e) ((D2 A hh).frame _ _ _ q2 fun b _ o e => oth b o e) fun h' tk Ts kp fin => ⟨rfl, ?_⟩
  · show i1 < _
    rw [sz]; exact Nat.lt_succ_of_lt (Heap.lt_size e1)
  · show i2 < _
    rw [sz]; exact Nat.lt_succ_of_lt (Heap.lt_size e2)
  · refine k h' tk Ts (fun b o x1 x2 x3 x4 e => kp b o (fun q => lt e q.symm) x1 x2 x3 x4 (oth b o e)) ?_
    rw [← sz]; exact fin
end
end MnZ
set_option Elab.async false
set_option linter.all false
set_option maxRecDepth 100000
set_option maxHeartbeats 1000000
namespace MnZ
open PySem PySem.Spec PyProof.Rows L2
def ov (H N : Hp) : Hp := fun b => match N b with
  | some o => some o
  | none => H b
theorem ov_new {H N : Hp} {b : Addr} {o : HO} (e : N b = some o) : ov H N b = some o := by unfold ov; rw [e]
theorem ov_old {H N : Hp} {b : Addr} (e : N b = none) : ov H N b = H b := by unfold ov; rw [e]
section
variable {X : Cx} {pins : List (Addr × Obj)} {σ : L2.St} {H N : Hp} {s : Shared} {h' : Heap} {t' : Nat}
theorem inv_laids (I : Inv X pins σ H s) (k : ∀ b u, s.heap.get? b = some u → h'.get? b = some u) (hN : ∀ b o, N b = some o → s.heap.objs.size ≤ b) (new : ∀ b o, N b = some o → ObjOk X.prog X.w (ov H N) h' b o) :
    Inv X pins σ (ov H N) { s with heap := h', toks := t' } := by
  have nn : ∀ b o, N b = some o → H b = none := fun b o e => I.hok.fresh (hN b o e)
  have kp : ∀ b o, H b = some o → ov H N b = some o := fun b o e => by
    cases q : N b with
    | none => rw [ov_old q]; exact e
    | some u => rw [nn b u q] at e; cases e
  refine I.un ⟨fun b o q _ _ _ => k b o q, fun b o q _ _ _ => ⟨o.slots, k b o q⟩, fun b o q n _ => ?_, fun b o q _ => ⟨o, k b o q⟩, fun b xs q => kp b _ q, fun b o u q => kp b _ q, fun b ps q => ⟨#[], by rw [kp b _ q]; simp⟩⟩ fun b u q => ?_
  · cases e : N b with
    | none => rw [ov_old e]; exact n
    | some u => exact absurd (Heap.lt_size q) (Nat.not_lt.mpr (hN b u e))
  · cases e : N b with
    | some o => rw [ov_new e] at q; cases q; exact new b _ e
    | none =>
      rw [ov_old e] at q
      exact (I.hok b u q).stay (fun d v _ y => k d v y) (fun d y => kp d _ y) fun d xs y => kp d _ y
end
def nw (p : Addr) (Ts : List Addr) (qs : List (V × V)) : Hp := fun b => if b = p then some (.lst (Ts.map V.ref)) else ((Ts.zip qs).lookup b).map fun q => .tup [q.1, q.2]
theorem look_at : ∀ {Ts : List Addr} {qs : List (V × V)} {j : Nat} {T : Addr} {q : V × V}, Ts.Nodup → Ts[j]? = some T → qs[j]? = some q → (Ts.zip qs).lookup T = some q
  | [], _, _, _, _, _, e, _ => by simp at e
  | _ :: _, [], _, _, _, _, _, e => by simp at e
  | t :: Ts, r :: qs, 0, T, q, _, e, e2 => by
    simp at e e2
    subst e e2
    simp [List.lookup]
  | t :: Ts, r :: qs, j + 1, T, q, nd, e, e2 => by
    have nd' := List.nodup_cons.mp nd
    have e' : Ts[j]? = some T := by simpa using e
    have ne : T ≠ t := fun z => nd'.1 (z ▸ List.mem_of_getElem? e')
    rw [List.zip_cons_cons, List.lookup_cons, beq_eq_false_iff_ne.mpr ne]
    exact look_at nd'.2 e' (by simpa using e2)
theorem look_in : ∀ {Ts : List Addr} {qs : List (V × V)} {b : Addr} {q : V × V}, (Ts.zip qs).lookup b = some q → ∃ j : Nat, Ts[j]? = some b ∧ qs[j]? = some q
  | [], _, _, _, e => by simp at e
  | _ :: _, [], _, _, e => by simp at e
  | t :: Ts, r :: qs, b, q, e => by
    rw [List.zip_cons_cons, List.lookup_cons] at e
    by_cases h : b = t
    · subst h
      rw [beq_self_eq_true] at e
      cases e
      exact ⟨0, rfl, rfl⟩
    · rw [beq_eq_false_iff_ne.mpr h] at e
      obtain ⟨j, e1, e2⟩ := look_in e
      exact ⟨j + 1, by simpa using e1, by simpa using e2⟩
def tLz (K : PySem.W.Frag) (ta : TA) : TE := fun σ H Q => ta σ H fun vs H1 => ∃ (a b : Addr) (xs ys : List V), vs = [.ref a, .ref b] ∧ SqT K H1 a xs ∧ SqT K H1 b ys ∧
  ∀ (H' : Hp) (p : Addr) (Ts : List Addr), (∀ b o, H1 b = some o → H' b = some o) → H1 p = none → H' p = some (.lst (Ts.map V.ref)) → Ts.length = min xs.length ys.length →
    (∀ (j : Nat) (T : Addr), Ts[j]? = some T → ∃ x y, xs[j]? = some x ∧ ys[j]? = some y ∧ H' T = some (.tup [x, y])) → Q (.ref p) H'
theorem vals_refs : ∀ as : List Addr, Vals (as.map V.ref) (as.map Value.ref)
  | [] => .nil
  | _ :: as => .cons rfl (vals_refs as)
theorem nm2 {x p q : Nat} (h1 : x ≠ p) (h2 : x ≠ q) : ¬ (x ∈ ([p, q] : List Nat)) := by simp only [List.mem_cons, List.not_mem_nil, or_false, not_or]; exact ⟨h1, h2⟩
theorem sep_of {n a b : Nat} (la : a < n) (lb : b < n) : ZipSep2 (n + 4) (n + 2) (n + 3) n (n + 1) [n, a] [n + 1, b] where
  TIz := show ¬ (n + 2 = n + 4) by omega
  TOz := show ¬ (n + 3 = n + 4) by omega
  TITO := show ¬ (n + 2 = n + 3) by omega
  TIi1 := show ¬ (n + 2 = n) by omega
  mem1 := List.mem_cons_self
  zf1 := (nm2 (by omega) (by omega) : ¬ ((n + 4 : Nat) ∈ ([n, a] : List Nat)))
  Tf1 := (nm2 (by omega) (by omega) : ¬ ((n + 3 : Nat) ∈ ([n, a] : List Nat)))
  TIi2 := show ¬ (n + 2 = n + 1) by omega
  mem2 := List.mem_cons_self
  zf2 := (nm2 (by omega) (by omega) : ¬ ((n + 4 : Nat) ∈ ([n + 1, b] : List Nat)))
  Tf2 := (nm2 (by omega) (by omega) : ¬ ((n + 3 : Nat) ∈ ([n + 1, b] : List Nat)))
  sep1_2 := (nm2 (by omega) (by omega) : ¬ ((n : Nat) ∈ ([n + 1, b] : List Nat)))
  sep2_1 := (nm2 (by omega) (by omega) : ¬ ((n + 1 : Nat) ∈ ([n, a] : List Nat)))
theorem pe_lz {X : Cx} {e e2 : Expr} {ta : TA} {p p2 pos pos2 : Pos} (hc : X.calm = true) (hg : Gl X "list") (hm : X.mg "list" = none) (hg2 : Gl X "zip") (hm2 : X.mg "zip" = none) (ha : PA X [e, e2] ta)
    (hs : starEach [.Call (.Name "zip" p2) [e, e2] [] pos2] X.env = (false, eval (.Call (.Name "zip" p2) [e, e2] [] pos2) X.env) :: starEach [] X.env := by rfl)
    (hs2 : starEach [e, e2] X.env = (false, eval e X.env) :: starEach [e2] X.env := by rfl) (hp2 : (backTo pos2 (starEach [e2] X.env)).any (·.1) = false := by rfl) :
    PE X (.Call (.Name "list" p) [.Call (.Name "zip" p2) [e, e2] [] pos2] [] pos) (tLz X.K ta) := by
  refine ⟨fun pins s σ H Q I h => ?_⟩
  refine wpAny_Call_Name_kw (ld_blt I hg hm (show bootBuiltins "list" = some (.type "list") by decide +kernel) ?_)
  refine PyProof.Rows.callWith_type1 ?_ hs rfl
  rw [hs]
  show wpAny _ _ (spliced ((false, eval (.Call (.Name "zip" p2) [e, e2] [] pos2) X.env) :: backTo pos (starEach [] X.env))) _ _ s
  refine Calls.spliced_cons (Call_ (ld_blt I hg2 hm2 PyProof.Rows.boot_zip (PyProof.Rows.callWith_type1 (thn (ha.run pos2 pins s σ H _ I h) fun us s1 ⟨vs, H1, I1, r1, a, b, xs, ys, ex, sx, sy, q1⟩ => ?_) hs2 hp2)))
  subst ex
  cases r1 with
  | cons r rr =>
    cases rr with
    | cons r' rr =>
      cases rr
      cases r
      cases r'
      obtain ⟨its, rv, t1, z1⟩ := I1.tuple sx
      obtain ⟨its2, rv2, t2, z2⟩ := I1.tuple sy
      have la : a < s1.heap.objs.size := t1.lt
      have lb : b < s1.heap.objs.size := t2.lt
      have hh : X.A.handled = none := I1.ok.hd hc
      refine zip_begins2 (begins_tuple a its.toArray) (begins_tuple b its2.toArray) t1 t2 fun h' zz zI zO g1 g2 zs kp => ?_
      refine Calls.spliced_nil ?_
      have c1 : h'.IsTupleIter s1.heap.objs.size a 0 := ⟨_, g1, rfl, rfl⟩
      have c2 : h'.IsTupleIter (s1.heap.objs.size + 1) b 0 := ⟨_, g2, rfl, rfl⟩
      have hne1 : a ≠ s1.heap.objs.size := Nat.ne_of_lt la
      have hne2 : b ≠ s1.heap.objs.size + 1 := Nat.ne_of_lt (Nat.lt_succ_of_lt lb)
      have m1 : min its.toArray.size its2.toArray.size = min xs.length ys.length := by simp [rv.length, rv2.length]
      refine zl_call (s := { s1 with heap := h' }) (sep_of la lb) (fun A hA => Draws.tuple hA _ a hne1 its.toArray) (fun A hA => Draws.tuple hA _ b hne2 its2.toArray) hh (by rw [m1]; omega) ?_ ?_ zz ⟨_, _, zO⟩ zI ⟨c1, ?_⟩ ⟨c2, ?_⟩ fun h2 tk Ts k2 fin => ?_
      · intro c hcm
        show c < h'.objs.size
        rw [zs]
        have la' : (a : Nat) < s1.heap.objs.size := la
        rcases List.mem_cons.mp hcm with q | q
        · rw [q]; exact Nat.lt_add_of_pos_right (by decide)
        · rw [List.mem_singleton.mp q]; exact Nat.lt_add_right 5 la
      · intro c hcm
        show c < h'.objs.size
        rw [zs]
        rcases List.mem_cons.mp hcm with q | q
        · rw [q]; exact Nat.add_lt_add_left (by decide : 1 < 5) _
        · rw [List.mem_singleton.mp q]; exact Nat.lt_add_right 5 lb
      · obtain ⟨o, ho, r⟩ := t1
        exact ⟨o, kp _ _ ho, r⟩
      · obtain ⟨o, ho, r⟩ := t2
        exact ⟨o, kp _ _ ho, r⟩
      · obtain ⟨⟨acc, c, hS, hacc⟩, hl, pr⟩ := fin
        have zs' : ({ s1 with heap := h' } : Shared).heap.objs.size = s1.heap.objs.size + 5 := zs
        rw [zs'] at hS pr
        rw [m1] at hl
        have nd : Ts.Nodup := pr.up.imp fun {x y} (q : x < y) => Nat.ne_of_lt q
        have hql : (xs.zip ys).length = min xs.length ys.length := List.length_zip
        have qat : ∀ j T, Ts[j]? = some T → ∃ x y, xs[j]? = some x ∧ ys[j]? = some y ∧ (xs.zip ys)[j]? = some (x, y) := fun j T e => by
          have hj : j < min xs.length ys.length := by rw [← hl]; exact (List.getElem?_eq_some_iff.mp e).1
          have h1 : j < xs.length := by omega
          have h2 : j < ys.length := by omega
          exact ⟨xs[j], ys[j], List.getElem?_eq_getElem h1, List.getElem?_eq_getElem h2, by rw [List.getElem?_eq_getElem (by rw [hql]; exact hj), List.getElem_zip]⟩
        have kk : ∀ c o, s1.heap.get? c = some o → h2.get? c = some o := fun c o e => by
          have lc : (c : Nat) < s1.heap.objs.size := Heap.lt_size e
          exact k2 c o (Nat.ne_of_lt (Nat.lt_add_right 4 lc)) (Nat.ne_of_lt (Nat.lt_add_right 3 lc)) (Nat.ne_of_lt lc) (Nat.ne_of_lt (Nat.lt_add_right 1 lc)) (kp c o e)
        have pn : ∀ T ∈ Ts, T ≠ s1.heap.objs.size + 5 := fun T hT q => by
          have := pr.at_ T hT
          rw [q] at this
          exact Nat.lt_irrefl _ this
        have nT : ∀ j T x y, Ts[j]? = some T → (xs.zip ys)[j]? = some (x, y) → nw (s1.heap.objs.size + 5) Ts (xs.zip ys) T = some (.tup [x, y]) := fun j T x y e e2 => by
          unfold nw
          rw [if_neg (pn T (List.mem_of_getElem? e)), look_at nd e e2]
          rfl
        have nS : nw (s1.heap.objs.size + 5) Ts (xs.zip ys) (s1.heap.objs.size + 5) = some (.lst (Ts.map V.ref)) := by unfold nw; rw [if_pos rfl]
        have hN : ∀ b' o, nw (s1.heap.objs.size + 5) Ts (xs.zip ys) b' = some o → (b' = s1.heap.objs.size + 5 ∧ o = .lst (Ts.map V.ref)) ∨ ∃ j x y, Ts[j]? = some b' ∧ xs[j]? = some x ∧ ys[j]? = some y ∧ o = .tup [x, y] := fun b' o e => by
          unfold nw at e
          by_cases hb : b' = s1.heap.objs.size + 5
          · rw [if_pos hb] at e; cases e; exact .inl ⟨hb, rfl⟩
          · rw [if_neg hb] at e
            obtain ⟨q, e1, e2⟩ := Option.map_eq_some_iff.mp e
            obtain ⟨j, j1, j2⟩ := look_in e1
            obtain ⟨x, y, ex, ey, ez⟩ := qat j b' j1
            rw [ez] at j2
            cases j2
            exact .inr ⟨j, x, y, j1, ex, ey, e2.symm⟩
        have J := inv_laids (t' := tk) (N := nw (s1.heap.objs.size + 5) Ts (xs.zip ys)) I1 kk (fun b' o e => by
          rcases hN b' o e with ⟨q, _⟩ | ⟨j, x, y, j1, _⟩
          · rw [q]; exact Nat.le_add_right _ _
          · exact Nat.le_trans (Nat.le_add_right _ 6) (pr.at_ b' (List.mem_of_getElem? j1))) fun b' o e => by
            rcases hN b' o e with ⟨q, rfl⟩ | ⟨j, x, y, j1, ex, ey, rfl⟩
            · rw [q]
              refine ⟨by rw [List.length_map, hl]; omega, acc.toList, c, by rw [hacc]; exact vals_refs Ts, ?_⟩
              rw [Array.toArray_toList]
              exact hS
            · obtain ⟨x1, x2, p1, p2', pT⟩ := pr.pr j b' j1
              obtain ⟨u1, e1, r1⟩ := rv.get ex
              obtain ⟨u2, e2, r2⟩ := rv2.get ey
              have p1' : its.toArray[j]? = some x1 := p1
              have p2'' : its2.toArray[j]? = some x2 := p2'
              have f1 : u1 = x1 := by simpa [e1] using p1'
              have f2 : u2 = x2 := by simpa [e2] using p2''
              subst f1 f2
              exact ⟨by show 2 ≤ sizeLine; decide, [u1, u2], .cons r1 (.cons r2 .nil), ⟨_, pT, rfl, _, rfl⟩⟩
        refine ⟨.ref (s1.heap.objs.size + 5), _, J, by rw [zs']; rfl, q1 _ (s1.heap.objs.size + 5) Ts (fun b' o e => ?_) (I1.hok.fresh (Nat.le_add_right _ _)) (ov_new nS) hl fun j T e => ?_⟩
        · cases q : nw (s1.heap.objs.size + 5) Ts (xs.zip ys) b' with
          | none => rw [ov_old q]; exact e
          | some u =>
            have hlo : s1.heap.objs.size ≤ b' := by
              rcases hN b' u q with ⟨q', _⟩ | ⟨j, x, y, j1, _⟩
              · rw [q']; exact Nat.le_add_right _ _
              · exact Nat.le_trans (Nat.le_add_right _ 6) (pr.at_ b' (List.mem_of_getElem? j1))
            rw [I1.hok.fresh hlo] at e
            cases e
        · obtain ⟨x, y, ex, ey, ez⟩ := qat j T e
          exact ⟨x, y, ex, ey, ov_new (nT j T x y e ez)⟩
end MnZ
set_option Elab.async false
set_option linter.all false
set_option maxRecDepth 100000
set_option maxHeartbeats 1000000
namespace Mn
open PySem PySem.Spec L2 PyProof.Rows
section
variable {G : Gm} {as as' : List Addr} {H H' : Hp} {h h' : PH}
theorem repVs_of : ∀ {xs : List PV} {vs : List V}, xs.length = vs.length → (∀ (j : Nat) (x : PV) (v : V), xs[j]? = some x → vs[j]? = some v → RepV G as H x v) → RepVs G as H xs vs
  | [], [], _, _ => .nil
  | x :: xs, v :: vs, hl, k => .cons (k 0 x v rfl rfl) (repVs_of (by simpa using hl) fun j y w e1 e2 => k (j + 1) y w (by simpa using e1) (by simpa using e2))
  | [], _ :: _, hl, _ => by simp at hl
  | _ :: _, [], hl, _ => by simp at hl
theorem SR.newE (s : SR G as H h) (e : ∀ b o, H b = some o → H' b = some o) {p : Addr} {o : PO} (hp : H p = none) (r : RepO G (as ++ [p]) H' o p) : Fut G as H (as ++ [p]) H' (h ++ [o]) ∧ RepV G (as ++ [p]) H' (.ref h.length) (.ref p) := by
  have kp : Kp H H' := ⟨fun b xs q => e b _ q, fun b o u q => e b _ q⟩
  have there : ∀ l a, as[l]? = some a → H a ≠ none := fun l a ea => by
    have hl : l < h.length := by rw [← s.len]; exact (List.getElem?_eq_some_iff.mp ea).1
    exact (s.at_ l _ a (List.getElem?_eq_getElem hl) ea).there
  have hn : p ∉ as := fun hm => by
    obtain ⟨l, e1⟩ := List.getElem?_of_mem hm
    exact there l p e1 hp
  have pr : as <+: as ++ [p] := List.prefix_append _ _
  refine ⟨⟨pr, kp, ⟨?_, by simp [s.len], fun l ob a e1 e2 => ?_⟩, fun b hb hnb => ?_, fun b ob q _ => e b ob q⟩, ?_⟩
  · rw [List.nodup_append]
    exact ⟨s.nd, by simp, fun a ha b hb q => by rw [List.mem_singleton.mp hb] at q; exact hn (q ▸ ha)⟩
  · by_cases hl : l < as.length
    · rw [List.getElem?_append_left hl] at e2
      rw [List.getElem?_append_left (by rw [← s.len]; exact hl)] at e1
      have t := there l a e2
      cases q : H a with
      | none => exact absurd q t
      | some u => exact (s.at_ l ob a e1 e2).mono pr kp ((e a u q).trans q.symm)
    · have hl2 : l = as.length := by
        have := (List.getElem?_eq_some_iff.mp e2).1
        simp at this
        omega
      subst hl2
      rw [s.len, List.getElem?_append_right (Nat.le_refl _)] at e1
      rw [List.getElem?_append_right (Nat.le_refl _)] at e2
      simp at e1 e2
      subst e1 e2
      exact r
  · rcases List.mem_append.mp hb with q | q
    · exact absurd q hnb
    · rw [List.mem_singleton.mp q]; exact hp
  · unfold RepV
    exact ⟨p, by rw [← s.len, List.getElem?_append_right (Nat.le_refl _)]; simp, rfl⟩
end
section
variable {G : Gm} {T : Tb} {nm : Nm} {call : Nat → List PV → PH → Res PV} {fx : Fx} {X : Cx} {E : XK} {W : Nat}
theorem okE_lz (O : XOk G T nm call fx X E) {es : List Ex} {x y : Expr} {p p2 pos pos2 : Pos} (hx : isStar x = false) (hy : isStar y = false) (hg : glB fx.names "list" = true) (hg2 : glB fx.names "zip" = true) (ha : PA X [x, y] (tA G E (evEs T call es))) :
    PE X (.Call (.Name "list" p) [.Call (.Name "zip" p2) [x, y] [] pos2] [] pos) (tE G E (evE T call (.lz es))) := by
  refine (MnZ.pe_lz O.calm (gl_ok O hg) (O.bl .list) (gl_ok O hg2) O.zp ha (star_cons rfl) (star_cons hx) (noStars (by simp [hy]))).imp fun σ H Q ⟨as, ρ, h, S, R, o⟩ => ?_
  simp only [evE] at o
  refine ⟨as, ρ, h, S, R, Ok.bind o fun vs h1 as1 H1 vs' f1 r1 o1 => ?_⟩
  split at o1
  · rename_i xs ys
    obtain ⟨v, w, rfl, rv, rw'⟩ := r1.two
    obtain ⟨a, us, rfl, sa, ra⟩ := rv.tupE
    obtain ⟨b, ws, rfl, sb, rb⟩ := rw'.tupE
    refine ⟨a, b, us, ws, rfl, by rw [O.K]; exact sa, by rw [O.K]; exact sb, fun H' q Ts ext hq eq hl pr => ?_⟩
    have kp : Kp H1 H' := ⟨fun b xs q => ext b _ q, fun b o u q => ext b _ q⟩
    have r0 : RepO G (as1 ++ [q]) H' (.lst (List.zipWith (fun x y => .tup [x, y]) xs ys)) q := by
      refine ⟨Ts.map V.ref, eq, repVs_of (by simp [ra.length, rb.length, hl]) fun j z v e1 e2 => ?_⟩
      rw [List.getElem?_map] at e2
      obtain ⟨t, et, rfl⟩ := Option.map_eq_some_iff.mp e2
      obtain ⟨u1, u2, g1, g2, g3⟩ := pr j t et
      rw [List.getElem?_zipWith] at e1
      split at e1
      · rename_i x1 y1 k1 k2
        cases e1
        obtain ⟨v1, m1, n1⟩ := ra.get k1
        obtain ⟨v2, m2, n2⟩ := rb.get k2
        rw [g1] at m1
        rw [g2] at m2
        cases m1
        cases m2
        unfold RepV
        exact ⟨t, _, rfl, .of g3, .cons (n1.mono (List.prefix_append _ _) kp) (.cons (n2.mono (List.prefix_append _ _) kp) .nil)⟩
      · cases e1
    obtain ⟨f2, r2⟩ := f1.sr.newE ext hq r0
    exact okn o1 f2 r2
  · exact False.elim o1
def par3B (names : List (Str × NameKind)) (x y z : Str) (px py pz : Pos) (a b c : Expr) : Bool := locB names x && locB names y && locB names z && decide (x ≠ y) && decide (x ≠ z) && decide (y ≠ z) && (py.line == px.line) && (pz.line == px.line) && !isStar a && !isStar b && !isStar c && !(foldedForSure 8 a && foldedForSure 8 b && foldedForSure 8 c) && !(constantsAlone 8 a && constantsAlone 8 b && constantsAlone 8 c)
theorem par3_ok {env : Env} {x y z : Str} {px py pz p p2 : Pos} {k k2 : Nat} {a b c : Expr} (hk : env.scope.kind = .function) (h : par3B env.scope.names x y z px py pz a b c = true) : swappedStores [.Tuple [.Name x px, .Name y py, .Name z pz] k p] (.Tuple [a, b, c] k2 p2) env = pure (some [x, y, z]) := by
  unfold par3B at h
  simp only [Bool.and_eq_true, Bool.not_eq_true', decide_eq_true_eq] at h
  obtain ⟨⟨⟨⟨⟨⟨⟨⟨⟨⟨⟨⟨h1, h2⟩, h3⟩, h4⟩, h5⟩, h6⟩, h7⟩, h8⟩, h9⟩, h10⟩, h11⟩, h12⟩, h13⟩ := h
  have k1 : env.kindOf x = some .local := locB_ok h1
  have k2 : env.kindOf y = some .local := locB_ok h2
  have k3 : env.kindOf z = some .local := locB_ok h3
  have hb := bk_fn hk
  have ha : ([a, b, c].any fun e => match e with | .Starred .. => true | _ => false) = false := by
    have q : ∀ e : Expr, isStar e = false → (match e with | .Starred .. => true | _ => false) = false := fun e he => by cases e <;> first | rfl | cases he
    simp only [List.any_cons, List.any_nil, q a h9, q b h10, q c h11, Bool.or_false]
  have hf : [a, b, c].all (foldedForSure 8) = false := by simpa [Bool.and_assoc] using h12
  have hc : [a, b, c].all (constantsAlone 8) = false := by simpa [Bool.and_assoc] using h13
  have ed : [x, y, z].eraseDups.length = 3 := by
    have e1 : (y == x) = false := beq_eq_false_iff_ne.mpr fun q => h4 q.symm
    have e2 : (z == x) = false := beq_eq_false_iff_ne.mpr fun q => h5 q.symm
    have e3 : (z == y) = false := beq_eq_false_iff_ne.mpr fun q => h6 q.symm
    simp [List.eraseDups_cons, e1, e2, e3]
  have hb2 : (env.blockKind != ScopeKind.function) = false := by rw [hb]; rfl
  have l1 : (px.line == px.line) = true := by simp
  have l2 : (py.line == px.line) = true := h7
  have l3 : (pz.line == px.line) = true := h8
  unfold swappedStores
  dsimp only
  simp only [hb2]
  generalize hA : List.any [a, b, c] _ = A
  have eA : A = false := by rw [← hA]; exact ha
  generalize hN : List.filterMap _ [Expr.Name x px, Expr.Name y py, Expr.Name z pz] = N
  have eN : N = [x, y, z] := by
    rw [← hN]
    simp only [List.filterMap_cons, List.filterMap_nil, k1, k2, k3, List.head?, Option.map, Option.getD, Expr.pos, l1, l2, l3]
    rfl
  rw [eA, eN, hf, hc]
  simp only [ed]
  rfl
theorem RepVs.three {as : List Addr} {H : Hp} {x y z : PV} {xs : List V} (r : RepVs G as H [x, y, z] xs) : ∃ v w u, xs = [v, w, u] ∧ RepV G as H x v ∧ RepV G as H y w ∧ RepV G as H z u := by
  unfold RepVs at r
  obtain ⟨v, rest, rfl, r1, r2⟩ := r
  obtain ⟨w, u, rfl, r3, r4⟩ := r2.two
  exact ⟨v, w, u, rfl, r1, r3, r4⟩
theorem okS_par3 (O : XOk G T nm call fx X E) {es : List Ex} {i j l : Nat} {x y z : Str} {px py pz p p2 pos : Pos} {k k2 : Nat} {a b c : Expr} (hi : fx.N[i]? = some x) (hj : fx.N[j]? = some y) (hl : fx.N[l]? = some z) (hp : par3B fx.names x y z px py pz a b c = true) (ha : PA X [a, b, c] (tA G E (evEs T call es))) :
    PS X (.Assign [.Tuple [.Name x px, .Name y py, .Name z pz] k p] (.Tuple [a, b, c] k2 p2) pos) (tS G E (exS T call W (.asg (.tp [i, j, l]) (.tup es)))) := by
  have hp2 := hp
  unfold par3B at hp2
  simp only [Bool.and_eq_true, Bool.not_eq_true', decide_eq_true_eq] at hp2
  obtain ⟨⟨⟨⟨⟨⟨⟨⟨⟨⟨⟨⟨h1, h2⟩, h3⟩, h4⟩, h5⟩, h6⟩, _⟩, _⟩, _⟩, _⟩, _⟩, _⟩, _⟩ := hp2
  have hij : i ≠ j := fun e => by subst e; rw [hi] at hj; exact h4 (Option.some.inj hj)
  have hil : i ≠ l := fun e => by subst e; rw [hi] at hl; exact h5 (Option.some.inj hl)
  have hjl : j ≠ l := fun e => by subst e; rw [hj] at hl; exact h6 (Option.some.inj hl)
  refine (ps_par3 (i := i) (j := j) (l := l) O.calm O.nd (by rw [O.N]; exact hi) (by rw [O.N]; exact hj) (by rw [O.N]; exact hl) hij hil hjl (by rw [O.names]; exact locB_ok h1) (by rw [O.names]; exact locB_ok h2) (by rw [O.names]; exact locB_ok h3) ha
    (par3_ok O.kind (by rw [O.names]; exact hp))).imp fun D σ H ⟨as, ρ, h, S, R, o⟩ => ?_
  simp only [exS, evE, Res.bind_assoc] at o
  refine ⟨as, ρ, h, S, R, Ok.bind o fun vs h1 as1 H1 vs' f1 r1 o1 => ?_⟩
  split at o1
  · simp only [Res.bind_ok, asgTa, bindTg] at o1
    split at o1
    · rename_i ρ1 qb
      split at qb
      · rename_i hl2
        cases qb
        have hlen : vs.length = 3 := by simpa using hl2
        match vs, hlen, r1, o1 with
        | [v, w, u], _, r1, o1 =>
          obtain ⟨v', w', u', rfl, rv, rw', ru⟩ := RepVs.three r1
          exact ⟨v', w', u', rfl, o1 as1 H1 (.nx _) (Fut.refl f1.sr) ((((R.fut f1).set i rv).set j rw').set l ru)⟩
      · cases qb
    · exact False.elim o1
  · exact False.elim o1
end
end Mn
set_option Elab.async false
set_option linter.all false
set_option maxRecDepth 100000
set_option maxHeartbeats 1000000
namespace Mn
open PySem PySem.Spec L2 PyProof.Rows
theorem cspecF {M : Model} {A : Around} {E : Value → Shared → Prop} {s : Shared} {self : Value} {name : PySem.Str} {f : Addr} {args : List Value} {Q : Option Value → Shared → Prop} (sp : PySem.W.Looks M s.heap (specialOf self name) (some (.ref f))) (hb : PySem.W.Looks M s.heap (bindSpecial (.ref f) self) (.ref f, [self]))
    (hc : wpAny M A (call (.ref f) (self :: args)) (fun v => Q (some v)) E s) : wpAny M A (callSpecial? self name args) Q E s := by
  unfold callSpecial?
  refine wpAny_bind (sp.here ?_)
  dsimp only
  refine wpAny_holding (wpAny_bind (hb.here (wpAny_bind (wpAny_mono hc (fun v s' h' => wpAny_pure h') fun _ _ h' => h'))))
section
variable {X : Cx} {CX : CXT} {k : Nat} {C g a dx : Addr} {fs : List (Str × V)} {fd : FuncData} {ps : List Str} {sp : Sp} {E : XK} {e : Expr} {pos : Pos} {ta : TE}
theorem lenO_ok {pins : List (Addr × Obj)} {σ : L2.St} {H : Hp} {s : Shared} {Q : VK} {E' : Value → Shared → Prop} (I : Inv X pins σ H s) (ea : H a = some (.ins C dx fs)) (m : Meth X.K C "__len__" g)
    (F : FnOk X.prog X.w X.K X.mg X.base CX k g fd ps sp) (hr : Room (k + 1) X.A) (hb : Binds X.K fd ps []) (hx : Passes CX X.nox E) (h : sp [.ref a] H (fun v H2 => ∃ i : Int, v = .int i ∧ 0 ≤ i ∧ i < 2 ^ 63 ∧ Q (.int i) H2) E) :
    wpAny (model X.prog X.w) X.A (call (.builtin "len") [.ref a]) (EP X pins σ Q) E' s := by
  obtain ⟨mA, O, _, _, _, _⟩ := ins_get I.hok ea
  obtain ⟨od, J, _⟩ := O.look
  have hl : ([Value.ref a] ++ []).length = ps.length := by
    rw [← F.len _ _ _ _ h]
    rfl
  have sp1 : PySem.W.Looks (model X.prog X.w) s.heap (specialOf (.ref a) "__len__") (some (.ref g)) := J.type.andThen (PySem.W.looks_findIn I.kIn m.at_)
  refine Calls.call_function_entry kind_len plain_len entry_len (args_len1 _) ?_
  unfold Builtin.«len»
  refine wpAny_bind (m := oneArg "len" _) (wpAny_pure ?_)
  refine wpAny_bind (m := callSpecial? (.ref a) (PySem.Str.ofString "__len__")) (cspecF sp1 (PySem.W.bind_fn I.kIn _ (eq_of_beq m.fn)) (wpAny_call ?_))
  refine codeAny_mono (F.run X.A.in1 X.stack s H ⟨[.ref a], []⟩ [Value.ref a] [.ref a] (fun v H2 => ∃ i : Int, v = .int i ∧ 0 ≤ i ∧ i < 2 ^ 63 ∧ Q (.int i) H2) E hr.in1 I.env0.in1 (hb _ [.ref a] I.kIn hl) (.cons (show RelV (.ref a) (.ref a) from rfl) .nil) h) fun r s' hq => ?_
  cases r with
  | error er => exact False.elim (hx pins σ H s er s' (I.wish _) hq)
  | ok fl =>
    cases fl with
    | ret u =>
      obtain ⟨v, H', I3, rv, i, rfl, h0, h1, q3⟩ := I.after hq
      obtain ⟨t, rfl⟩ : ∃ t, u = .int i t := rv
      dsimp only
      refine wpAny_bind (wpAny_holding (wpAny_pure ?_))
      refine wpAny_bind (wpAny_letGo ?_)
      have n0 : ¬ i < 0 := by omega
      have n1 : ¬ i ≥ 2 ^ 63 := by omega
      simp only [n0, n1, if_false]
      exact wpAny_bind (wpAny_mkInt (wpAny_pure ⟨_, rfl, .int i, H', I3.tok _, ⟨_, rfl⟩, q3⟩))
    | next => exact False.elim hq
    | brk => exact False.elim hq
    | cont => exact False.elim hq
end
end Mn
set_option Elab.async false
set_option linter.all false
set_option maxRecDepth 100000
set_option maxHeartbeats 1000000
namespace Mn
open PySem PySem.Spec L2 PyProof.Rows
theorem ext_spl (xs ys : List Value) (a c : Nat) : (xs.toArray.extract 0 a ++ ys.toArray) ++ xs.toArray.extract c xs.toArray.size = ((xs.take a ++ ys) ++ xs.drop c).toArray := splice_eq xs ys a c
section
variable {X : Cx} {pins : List (Addr × Obj)} {s : Shared} {σ : L2.St} {H : Hp}
theorem setSl_run {A : Around} {E : Value → Shared → Prop} {l b sl : Addr} {its its2 : List Value} {n n2 : Nat} {vl vu : Value} {lo hi : Option Int} {Q : Unit → Shared → Prop}
    (e : s.heap.get? l = some { cls := .type "list", data := .seq its.toArray n }) (e2 : s.heap.get? b = some { cls := .type "list", data := .seq its2.toArray n2 }) (hne : l ≠ b) (hs : s.heap.IsSliceOf sl vl vu .none) (pl : IsPart vl lo) (pu : IsPart vu hi)
    (hz : its.length + its2.length ≤ sizeLine) (h : Q () { s with heap := s.heap.update l (Obj.mapSeq fun xs => (xs.extract 0 (HT.sIx its.length 0 lo) ++ its2.toArray) ++ xs.extract (max (HT.sIx its.length 0 lo) (HT.sIx its.length its.length hi)) xs.size) }) :
    wpAny (model X.prog X.w) A (setItem (.ref l) (.ref sl) (.ref b)) Q E s := by
  have il : s.heap.IsList l its.toArray := IsL.isList e
  have ib : s.heap.IsList b its2.toArray := IsL.isList e2
  have szs : its.toArray.size + its2.toArray.size ≤ sizeLine := by simpa using hz
  obtain ⟨os, ho, hc, hd⟩ := id hs
  have tS : s.TypeIs (.ref sl) "slice" := ⟨os, ho, hc⟩
  have same : Builtin.List.listSameRef (.ref l) (.ref b) = false := by
    unfold Builtin.List.listSameRef
    exact beq_eq_false_iff_ne.mpr hne
  have bd : sliceBounds lo hi none its.toArray.size = (((HT.sIx its.length 0 lo : Nat) : Int), ((HT.sIx its.length its.length hi : Nat) : Int), 1) := by
    have k := slice_bounds lo hi its.length
    rw [show its.toArray.size = its.length from by simp]
    exact Prod.ext k.1 (Prod.ext k.2.1 k.2.2)
  unfold setItem
  try with_reducible refine wpAny_holding ?_
  first | refine wpAny_bind (wpAny_pure ?_) | skip
  refine wpAny_bind (wpAny_sequenceKey il.typeIs (by decide) ?_)
  refine wpAny_bind (wpAny_callSpecial?_slot (name := Str.ofString "__setitem__") il.typeIs slot_list_setitem (wpAny_call_entry slot_list_setitem il.typeIs entry_list_setitem ?_ (args_list_setitem _ _ _)))
  show wpAny _ _ (Builtin.List.listSubscript? (.ref sl) >>= _) _ _ s
  unfold Builtin.List.listSubscript?
  refine wpAny_bind (wpAny_bind (wpAny_specialOf tS slice_no_index ?_))
  simp only [Option.isNone_none, if_true]
  refine wpAny_pure (show wpAny _ _ (typeOf (.ref sl) >>= _) _ _ s from wpAny_bind (wpAny_typeOf tS ?_))
  first | rw [if_neg (by decide)] | refine PySem.W.KFB.if_not (by decide) ?_
  rw [listSliceParts_eq]
  refine wpAny_bind (wpAny_bind (wpAny_field ho hd (x := .none) rfl (wpAny_bind (wpAny_listPart .none ?_))))
  rw [if_neg (show ¬ ((rawPart none == rawInt 0) = true) from Bool.false_ne_true)]
  refine wpAny_bind (wpAny_field ho hd (x := vl) rfl (wpAny_bind (wpAny_listPart pl ?_)))
  refine wpAny_bind (wpAny_field ho hd (x := vu) rfl (wpAny_bind (wpAny_listPart pu (wpAny_pure ?_))))
  first | simp only [same, Bool.false_eq_true, if_false] | refine PySem.W.KFB.if_not same ?_
  refine wpAny_bind (m := Builtin.List.listAllItems (.ref b) "must assign iterable to extended slice") ?_
  unfold Builtin.List.listAllItems
  refine wpAny_bind (wpAny_typeOf ib.typeIs ?_)
  first | refine PySem.W.KFB.if_so (by decide) ?_ | rw [if_pos (by decide)] | simp only [beq_self_eq_true, Bool.true_or, if_true]
  unfold Builtin.List.listItems
  refine wpAny_bind (wpAny_seqItems e2 rfl (wpAny_pure (wpAny_bind (wpAny_bind (wpAny_seqItems e rfl (wpAny_pure ?_))))))
  refine wpAny_bind (wpAny_of_eq ((sliceIndices_raw lo hi none its.toArray.size (by simp)).trans (congrArg (pure : Int × Int × Int → Sem (Int × Int × Int)) bd)) ?_)
  show wpAny _ _ (if ((1 : Int) == 1) = true then _ else _) _ _ s
  refine (if_pos (show ((1 : Int) == 1) = true by decide)).symm ▸ wpAny_bind (wpAny_rule ?_)
  rw [if_neg (by rw [notLongL szs]; decide)]
  dsimp only
  have em : (max ((HT.sIx its.length 0 lo : Nat) : Int) ((HT.sIx its.length its.length hi : Nat) : Int)).toNat = max (HT.sIx its.length 0 lo) (HT.sIx its.length its.length hi) := by omega
  rw [em, Int.toNat_natCast]
  have l1 := HT.sIx_le its.length 0 (Nat.zero_le _) lo
  have l2 := HT.sIx_le its.length its.length (Nat.le_refl _) hi
  refine wpAny_bind (m := updateSeq l (fun xs => xs.extract 0 (HT.sIx its.length 0 lo) ++ its2.toArray ++ xs.extract (max (HT.sIx its.length 0 lo) (HT.sIx its.length its.length hi)) xs.size)) (wpAny_updateSeq (hz := by simp; omega) (_hz' := by simp; omega) e rfl ?_)
  refine wpAny_bind (wpAny_letGo ?_)
  first | exact wpAny_bind (wpAny_pure (wpAny_pure ⟨.none, rfl, wpAny_pure h⟩)) | exact wpAny_pure ⟨.none, rfl, wpAny_pure h⟩
theorem setSl_ok {l b sl : Addr} {xs ys : List V} {vl vu : Value} {lo hi : Option Int} {Q : Hp → Prop} (I : Inv X pins σ H s) (hH : H l = some (.lst xs)) (hB : H b = some (.lst ys)) (hne : l ≠ b) (hs : s.heap.IsSliceOf sl vl vu .none) (pl : IsPart vl lo) (pu : IsPart vu hi)
    (hz : xs.length + ys.length ≤ sizeLine) (h : Q (upd H l (.lst (spl xs ys lo hi)))) : wpAny (model X.prog X.w) X.A (setItem (.ref l) (.ref sl) (.ref b)) (fun _ s' => ∃ H', Inv X pins σ H' s' ∧ Q H') X.xe s := by
  obtain ⟨z, its, n, r, hl, e⟩ := I.lstM hH
  obtain ⟨z2, its2, n2, r2, hl2, e2⟩ := I.lstM hB
  have e1 : xs.length = its.length := by simpa using hl
  have e3 : ys.length = its2.length := by simpa using hl2
  refine setSl_run (lo := lo) (hi := hi) e e2 hne hs pl pu (by omega) ?_
  have rr : Vals (spl xs ys lo hi) (its.take (HT.sIx its.length 0 lo) ++ its2 ++ its.drop (max (HT.sIx its.length 0 lo) (HT.sIx its.length its.length hi))) := by
    unfold spl
    rw [e1]
    exact Vals.append (Vals.append (r.take _) r2) (r.drop _)
  refine ⟨_, I.lset (its' := its.take (HT.sIx its.length 0 lo) ++ its2 ++ its.drop (max (HT.sIx its.length 0 lo) (HT.sIx its.length its.length hi))) (t' := s.toks) hH e (splice_eq its its2 _ _) rr ?_, h⟩
  unfold spl
  have l1 := HT.sIx_le xs.length 0 (Nat.zero_le _) lo
  simp only [List.length_append, List.length_take, List.length_drop]
  omega
end
def gSl (to : TE) (tl th : TO) : TG := fun v σ H Q => to σ H fun x H1 => tl σ H1 fun l H2 => th σ H2 fun u H3 => ∃ a b xs ys, x = .ref a ∧ v = .ref b ∧ H3 a = some (.lst xs) ∧ H3 b = some (.lst ys) ∧ a ≠ b ∧ xs.length + ys.length ≤ sizeLine ∧ Q σ (upd H3 a (.lst (spl xs ys l u)))
theorem pg_sl {X : Cx} {o : Expr} {lo hi : Option Expr} {to : TE} {tl th : TO} {pos p2 : Pos} (ho : PE X o to) (hl : L2.PO X lo tl) (hu : L2.PO X hi th) : PG X (.Subscript o (.Slice lo hi none p2) pos) (gSl to tl th) := by
  refine ⟨fun pins s σ H v u Q I r h => ?_⟩
  have ha : assign (.Subscript o (.Slice lo hi none p2) pos) X.env u = (do
      let ov ← holding [u] (eval o X.env)
      let iv ← holding [u, ov] (eval (.Slice lo hi none p2) X.env)
      standAt pos
      holding [u, ov, iv] (setItem ov iv u)
      release [iv, u, ov] []) := rfl
  rw [ha]
  refine wpAny_bind (wpAny_holding (thn (ho.run pins s σ H _ I h) fun ov s1 ⟨x, H1, I1, r1, q1⟩ => ?_))
  refine wpAny_bind (wpAny_holding (wpAny_Slice (thn (hl.run pins s1 σ H1 _ I1 q1) fun vl s2 ⟨l, H2, I2, pl, q2⟩ => thn (hu.run pins s2 σ H2 _ I2 q2) fun vu s3 ⟨w, H3, I3, pu, q3⟩ => ?_)))
  rw [evalPart_none]
  refine wpAny_pure ?_
  obtain ⟨a, b, xs, ys, ex, ev, na, nb, hne, hz, q⟩ := q3
  subst ex
  subst ev
  obtain rfl : ov = Value.ref a := r1
  obtain rfl : u = Value.ref b := r
  have I4 : Inv X pins σ H3 { s3 with heap := s3.heap.push { cls := .type "slice", data := .fields #[vl, vu, .none] } } := I3.kept (t' := s3.toks) fun c ob e => Heap.get?_push_of_some _ e
  refine wpAny_bind (wpAny_standAt (wpAny_bind (wpAny_holding (thn (setSl_ok (Q := fun H' => Q σ H') I4 na nb hne (Heap.IsSliceOf.new ..) pl pu hz q) fun _ s4 ⟨H4, I5, q4⟩ => ?_))))
  exact wpAny_release ⟨σ, H4, I5, q4⟩
end Mn
set_option Elab.async false
set_option linter.all false
set_option maxRecDepth 100000
set_option maxHeartbeats 4000000
namespace Mn
open PySem PySem.Spec L2 PyProof.Rows
section
variable {G : Gm} {T : Tb} {nm : Nm} {call : Nat → List PV → PH → Res PV} {fx : Fx} {X : Cx} {E : XK} {W : Nat}
def lnoR (T : Tb) (call : Nat → List PV → PH → Res PV) (m : Nat) (v : PV) (h1 : PH) : Res PV := match v with
    | .ref l => (match h1[l]? with
      | some (.ins c _) => (match (T.cls[c]?).bind fun ci => ci.meths.lookup m with
        | some f => (call f [.ref l] h1).noer.bind fun w h2 => (match w with
          | .int i => if decide (0 ≤ i) && decide (i < 2 ^ 63) then .ok (.int i) h2 else .stuck
          | _ => .stuck)
        | none => .stuck)
      | _ => pBi T .len [.ref l] h1)
    | v => pBi T .len [v] h1
theorem call_lno (O : XOk G T nm call fx X E) {m : Nat} (hn : nm.an[m]? = some "__len__") : CallR X (.builtin "len") (fun xs H Q => ∃ as h v x, xs = [x] ∧ SR G as H h ∧ RepV G as H v x ∧ OkV G E as H Q (lnoR T call m v h)) := by
  intro pins s σ H xs us Q I r ⟨as, h, v, x, ex, S, rv, o⟩
  subst ex
  have other : OkV G E as H Q (pBi T .len [v] h) → wpAny (model X.prog X.w) X.A (PySem.call (.builtin "len") us) (EP X pins σ Q) X.xe s := fun o => call_bi O.K O.calm O.cls .len pins s σ H [x] us Q I r ⟨as, h, [v], S, .cons rv .nil, o⟩
  cases v with
  | ref l =>
    obtain ⟨u, rfl, ru⟩ := vals1 r
    unfold lnoR at o
    dsimp only at o
    split at o
    · rename_i c fs ql
      split at o
      · rename_i f qm
        obtain ⟨ci, ec, em⟩ := Option.bind_eq_some_iff.mp qm
        obtain ⟨a, ea, rfl⟩ := rv.refE
        obtain rfl : u = Value.ref a := ru
        obtain ⟨dx, gs, eh, rf⟩ := S.insM ql ea
        have hn' := hn
        rw [O.an] at hn'
        have mm := O.cls.me c ci m f _ ec em hn'
        rw [← O.K] at mm
        obtain ⟨k, fd, ps, F, hr, hbd, ar, _⟩ := O.mfn c ci f ec (.inr (.inl ⟨m, em⟩))
        refine lenO_ok (E := E0) (sp := spF G call f ps.length) I eh mm F hr hbd (L2.passL (X := X.nox)) ?_
        refine Ok.bind_call (E := E0) ar S (.cons (by unfold RepV; exact ⟨a, ea, rfl⟩) .nil) (Ok.noer o fun w h2 as2 H2 w' f2 r2 o2 => ?_)
        cases w with
        | int i =>
          dsimp only at o2
          split at o2
          · rename_i hi
            simp only [Bool.and_eq_true, decide_eq_true_eq] at hi
            exact ⟨i, r2.intE, hi.1, hi.2, o2 as2 H2 (.int i) (Fut.refl f2.sr) (.int i)⟩
          · exact False.elim o2
        | _ => exact False.elim o2
      · exact False.elim o
    · exact other o
  | _ => exact other o
theorem okE_lno (O : XOk G T nm call fx X E) {m : Nat} {o : Ex} {xo : Expr} {p pos : Pos} (hn : nm.an[m]? = some "__len__") (hg : glB fx.names "len" = true) (hx : isStar xo = false) (hne : ∀ y, o ≠ .star y) (ho : PE X xo (tE G E (evE T call o))) :
    PE X (.Call (.Name "len" p) [xo] [] pos) (tE G E (evE T call (.lno m o))) := by
  refine (pe_callB (call_lno O hn) (gl_ok O hg) (O.bl .len) (bi_boot .len) (okA_cons hx hne ho okA_nil) (bi_name .len) (bi_dbg .len) (star_cons hx) (noStars rfl)).imp fun σ H Q ⟨as, ρ, h, S, R, q⟩ => ?_
  simp only [evE] at q
  refine ⟨as, ρ, h, S, R, ?_⟩
  rw [evEs_cons hne]
  refine Ok.bind (rel2 := fun as' H' => RepV G as' H') (Q2 := Q) (k := fun vs h1 => match vs with
    | [v] => lnoR T call m v h1
    | _ => .stuck) ?_ fun vs h1 as1 H1 vs' f1 r1 o1 => ?_
  · rw [Res.bind_assoc]
    refine Eq.mp (congrArg _ ?_) q
    congr 1
  · match vs, r1, o1 with
    | [], _, o1 => exact False.elim o1
    | [v], r1, o1 =>
      obtain ⟨x, rfl, rx⟩ := r1.one
      exact ⟨as1, h1, v, x, rfl, f1.sr, rx, o1⟩
    | _ :: _ :: _, _, o1 => exact False.elim o1
theorem WkOk.rngD {as : List Addr} {H : Hp} {lo : Int} {n : Nat} : WkOk G as H (.fix ((List.range n).map fun (i : Nat) => .int (lo - i))) (Itc lo (-1) n) := fun as' H' h hp kp S i => by
  refine ⟨fun e => ?_, fun x e => ?_⟩
  · simp only [wkAt, Option.some.injEq] at e
    have : n ≤ i := by simpa using e
    exact this
  · simp only [wkAt, Option.some.injEq, List.getElem?_map] at e
    by_cases hi : i < n
    · rw [List.getElem?_range hi] at e
      cases e
      refine ⟨hi, fun v H2 ⟨e1, e2⟩ => ?_⟩
      subst e1
      subst e2
      exact ⟨Fut.refl S, by rw [show lo + (i : Int) * -1 = lo - i by omega]; exact .int _⟩
    · rw [List.getElem?_eq_none (by simpa using hi)] at e
      cases e
theorem evEs_three {e e2 e3 : Ex} (he : ∀ x, e ≠ .star x) (he2 : ∀ x, e2 ≠ .star x) (he3 : ∀ x, e3 ≠ .star x) (ρ : PEnv) (h : PH) : evEs T call [e, e2, e3] ρ h = (evE T call e ρ h).bind fun u h1 => (evE T call e2 ρ h1).bind fun v h2 => (evE T call e3 ρ h2).bind fun w h3 => .ok [u, v, w] h3 := by
  rw [evEs_cons he]
  simp only [evEs_two he2 he3, Res.bind_assoc, Res.bind_ok]
theorem okI_rng3 (O : XOk G T nm call fx X E) {tg x y z : Expr} {p pos : Pos} {e e2 e3 : Ex} (hs : ∀ y, e ≠ .star y) (hs2 : ∀ y, e2 ≠ .star y) (hs3 : ∀ y, e3 ≠ .star y) (hx : isStar x = false) (hy : isStar y = false) (hz : isStar z = false) (hg : glB fx.names "range" = true) (ha : PA X [x, y, z] (tA G E (evEs T call [e, e2, e3]))) :
    PI X tg (.Call (.Name "range" p) [x, y, z] [] pos) (tI G E (evI T call .rng [e, e2, e3])) := by
  refine PI.imp (pi_range3 (gl_ok O hg) O.rng ha (star_cons hx) (noStars (by simp [hy, hz]))) fun σ H R ⟨as, ρ, h, S, R', q⟩ => ?_
  unfold evI at q
  refine ⟨as, ρ, h, S, R', ?_⟩
  rw [evEs_three hs hs2 hs3] at q ⊢
  simp only [Res.bind_assoc, Res.bind_ok] at q
  refine Ok.bindK q fun u h1 o1 => Ok.bindK o1 fun v h2 o2 => Ok.bindK o2 fun w h3 o3 as1 H1 vs' f r1 => ?_
  unfold RepVs at r1
  obtain ⟨a, r2, rfl, ra, r3⟩ := r1
  obtain ⟨b, c, rfl, rb, rc⟩ := r3.two
  cases qw : wkOf .rng [u, v, w] h3 with
  | none => rw [qw] at o3; exact False.elim o3
  | some pp =>
    rw [qw] at o3
    cases u with
    | int i =>
      cases v with
      | int j =>
        cases w with
        | int k =>
          simp only [wkOf] at qw
          split at qw
          · rename_i hb
            cases qw
            simp only [Bool.and_eq_true, decide_eq_true_eq] at hb
            obtain ⟨⟨⟨⟨rfl, h1⟩, h2⟩, h3⟩, h4⟩ := hb
            rw [ra.intE, rb.intE, rc.intE]
            exact ⟨i, j, -1, _, rfl, RgC.neg h1 h2 h3 h4, o3 as1 H1 _ f WkOk.rngD⟩
          · cases qw
        | _ => simp [wkOf] at qw
      | _ => simp [wkOf] at qw
    | _ => simp [wkOf] at qw
theorem okI_rvr (O : XOk G T nm call fx X E) {tg x : Expr} {p p2 pos pos2 : Pos} {e : Ex} (hs : ∀ y, e ≠ .star y) (hx : isStar x = false) (hg : glB fx.names "range" = true) (hg2 : glB fx.names "reversed" = true) (ha : PE X x (tE G E (evE T call e))) :
    PI X tg (.Call (.Name "reversed" p) [.Call (.Name "range" p2) [x] [] pos2] [] pos) (tI G E (evI T call .rvr [e])) := by
  refine PI.imp (pi_revR (gl_ok O hg2) O.rvs (prg_1 (gl_ok O hg) O.rng ha (star_cons hx)) (star_cons rfl)) fun σ H R ⟨as, ρ, h, S, R', q⟩ => ?_
  unfold evI at q
  refine ⟨as, ρ, h, S, R', ?_⟩
  rw [evEs_one hs] at q
  simp only [Res.bind_assoc, Res.bind_ok] at q
  refine Ok.bind q fun v h1 as1 H1 v' f r1 o1 => ?_
  cases v with
  | int j =>
    rw [r1.intE]
    refine ⟨j, rfl, ?_⟩
    cases qw : wkOf .rvr [.int j] h1 with
    | none => rw [qw] at o1; exact False.elim o1
    | some pp =>
      rw [qw] at o1
      simp only [wkOf] at qw
      split at qw
      · rename_i hb
        cases qw
        simp only [Bool.and_eq_true, decide_eq_true_eq] at hb
        refine ⟨by decide, by decide, hb.1, hb.2, o1 as1 H1 _ (Fut.refl f.sr) ?_⟩
        have ej : (j - 0).toNat = j.toNat := by omega
        rw [ej]
        have el : (List.range j.toNat).map (fun (m : Nat) => PV.int (j - 1 - m)) = (List.range j.toNat).map (fun (m : Nat) => PV.int ((0 : Int) + ((j.toNat : Nat) : Int) - 1 - m)) := by
          by_cases hj : 0 ≤ j
          · have : (0 : Int) + ((j.toNat : Nat) : Int) = j := by omega
            rw [this]
          · have : j.toNat = 0 := by omega
            rw [this]
            rfl
        show WkOk G as1 H1 (.fix ((List.range j.toNat).map fun (m : Nat) => PV.int (j - 1 - m))) _
        rw [el]
        exact WkOk.rngD
      · cases qw
  | _ => exact False.elim o1
theorem okS_sl (O : XOk G T nm call fx X E) {e o lo hi : Ex} {x xo : Expr} {l u : Option Expr} {p p2 p3 : Pos} (he : PE X x (tE G E (evE T call e))) (ho : PE X xo (tE G E (evE T call o))) (hl : L2.PO X l (tO G E fun ρ h => partR lo (evE T call lo ρ h) h)) (hu : L2.PO X u (tO G E fun ρ h => partR hi (evE T call hi ρ h) h)) :
    PS X (.Assign [.Subscript xo (.Slice l u none p3) p2] x p) (tS G E (exS T call W (.asg (.sl o lo hi) e))) := by
  refine (ps_asg he (pg_sl ho hl hu) noSwapIx noStoresIx).imp fun D σ H ⟨as, ρ, h, S, R, q⟩ => ?_
  simp only [exS, asgTa, Res.bind_assoc] at q
  refine ⟨as, ρ, h, S, R, Ok.bind q fun v h1 as1 H1 v' f1 r1 q1 => ⟨as1, ρ, h1, f1.sr, R.fut f1, Ok.bind q1 fun w h2 as2 H2 w' f2 r2 q2 => ⟨as2, ρ, h2, f2.sr, (R.fut f1).fut f2, Ok.bind q2 fun a h3 as3 H3 a' f3 ea q3 => ⟨as3, ρ, h3, f3.sr, ((R.fut f1).fut f2).fut f3, Ok.bind q3 fun b h4 as4 H4 b' f4 eb q4 => ?_⟩⟩⟩⟩
  subst ea
  subst eb
  cases qs : pSlS w a' b' v h4 with
  | none => rw [qs] at q4; exact False.elim q4
  | some h5 =>
    rw [qs] at q4
    simp only [Res.bind_ok] at q4
    cases w with
    | ref l =>
      cases v with
      | ref m =>
        simp only [pSlS] at qs
        split at qs
        · rename_i xs ys e1 e2
          split at qs
          · rename_i hne
            cases qs
            obtain ⟨al, el, rfl⟩ := ((r2.fut f3).fut f4).refE
            obtain ⟨am, em, rfl⟩ := (((r1.fut f2).fut f3).fut f4).refE
            obtain ⟨vs, eh1, rl1⟩ := f4.sr.lstM e1 el
            obtain ⟨ws, eh2, rl2⟩ := f4.sr.lstM e2 em
            have hna : al ≠ am := fun z => by
              subst z
              obtain ⟨k1, z1⟩ := List.getElem?_eq_some_iff.mp el
              obtain ⟨k2, z2⟩ := List.getElem?_eq_some_iff.mp em
              exact hne.1 ((List.getElem_inj f4.sr.nd).mp (z1.trans z2.symm))
            refine ⟨al, am, vs, ws, rfl, rfl, eh1, eh2, hna, by rw [← rl1.length, ← rl2.length]; exact hne.2, ?_⟩
            have rs : RepVs G as4 H4 (spl xs ys a' b') (spl vs ws a' b') := by
              unfold spl
              rw [rl1.length]
              exact ((rl1.take _).append rl2).append (rl1.drop _)
            have f5 := f4.sr.setL el eh1 rs
            exact q4 as4 _ (.nx σ) f5 (((((R.fut f1).fut f2).fut f3).fut f4).fut f5)
          · cases qs
        · cases qs
      | _ => cases qs
    | _ => cases qs
end
end Mn
set_option Elab.async false
set_option linter.all false
set_option maxRecDepth 100000
set_option maxHeartbeats 4000000
namespace Mn
open PySem PySem.Spec L2 PyProof.Rows
section
variable {G : Gm} {T : Tb} {nm : Nm} {call : Nat → List PV → PH → Res PV} {fx : Fx} {X : Cx} {E : XK} {W : Nat}
def lcI (T : Tb) (call : Nat → List PV → PH → Res PV) (e : Ex) (own1 : List Nat) (t1 : Tg) (ifs1 : List Ex) (D : Nat) (ρ1 : PEnv) (y : PV) (h5 : PH) : Res Unit := match bindTg t1 y (own1.foldr (fun i r => r.set i none) ρ1) with
  | none => .stuck
  | some ρ2 => (evIf T call ifs1 ρ2 h5).noer.bind fun b h6 => if b then (evE T call e ρ2 h6).noer.bind fun z h7 => accPut D z h7 else .ok () h6
def lcO (T : Tb) (call : Nat → List PV → PH → Res PV) (e : Ex) (own : List Nat) (t : Tg) (ifs : List Ex) (own1 : List Nat) (t1 : Tg) (k1 : Ik) (its1 ifs1 : List Ex) (D : Nat) (ρ : PEnv) (x : PV) (h2 : PH) : Res Unit := match bindTg t x (own.foldr (fun i r => r.set i none) ρ) with
  | none => .stuck
  | some ρ1 => (evIf T call ifs ρ1 h2).noer.bind fun b h3 => if b then (evI T call k1 its1 ρ1 h3).noer.bind fun p h4 => accRun (lcI T call e own1 t1 ifs1 D ρ1) p.1 (p.2 + 1) 0 h4 else .ok () h3
theorem evI_noer {γ : Type} {k : Ik} {its : List Ex} {ρ : PEnv} {h : PH} (f : Wk × Nat → PH → Res γ) : (evI T call k its ρ h).noer.bind f = (evEs T call its ρ h).noer.bind fun vs h1 => match wkOf k vs h1 with
    | none => .stuck
    | some p => f p h1 := by
  unfold evI
  rw [noer_bind, Res.bind_assoc]
  congr 1
  funext vs h1
  cases q : wkOf k vs h1 <;> rfl
theorem evE_lc2 {e : Ex} {own : List Nat} {t : Tg} {k : Ik} {its ifs : List Ex} {own1 : List Nat} {t1 : Tg} {k1 : Ik} {its1 ifs1 : List Ex} {ρ : PEnv} {h : PH} : evE T call (.lc2 e own t k its ifs own1 t1 k1 its1 ifs1) ρ h =
    (evI T call k its ρ h).bind fun p h1 => (accRun (lcO T call e own t ifs own1 t1 k1 its1 ifs1 h1.length ρ) p.1 (p.2 + 1) 0 (h1 ++ [.lst []])).bind fun _ h9 => .ok (.ref h1.length) h9 := by
  unfold evI
  simp only [evE, Res.bind_assoc]
  congr 1
  funext vs h1
  cases q : wkOf k vs h1 with
  | none => rfl
  | some p =>
    simp only [Res.bind_ok]
    congr 2
    funext x h2
    unfold lcO
    cases bindTg t x (own.foldr (fun i r => r.set i none) ρ) with
    | none => rfl
    | some ρ1 =>
      dsimp only
      congr 1
      funext b h3
      rw [evI_noer]
      cases b with
      | false => rfl
      | true =>
        simp only [if_true]
        congr 1
        funext ws h4
        cases wkOf k1 ws h4 <;> rfl
theorem accRun_succ {body : PV → PH → Res Unit} {w : Wk} {n i : Nat} {h : PH} : accRun body w (n + 1) i h = match wkAt h i w with
    | none => .stuck
    | some none => .ok () h
    | some (some x) => (body x h).bind fun _ h1 => accRun body w n (i + 1) h1 := rfl
theorem accPut_ok {as : List Addr} {H : Hp} {h : PH} {D : Nat} {a : Addr} {y : PV} {y' : V} {γ δ : Type} {rel : List Addr → Hp → γ → δ → Prop} {Q : δ → Hp → Prop} {f : Unit → PH → Res γ} (S : SR G as H h) (ea : as[D]? = some a) (ry : RepV G as H y y') (o : Ok G E as H rel Q ((accPut D y h).bind f)) :
    ∃ acc, H a = some (.lst acc) ∧ acc.length < sizeLine ∧ ∃ h9, Fut G as H as (upd H a (.lst (acc ++ [y']))) h9 ∧ Ok G E as (upd H a (.lst (acc ++ [y']))) rel Q (f () h9) := by
  unfold accPut at o
  split at o
  · rename_i acc qa
    split at o
    · rename_i hl
      obtain ⟨ws, eH, rl⟩ := S.lstM qa ea
      have f7 := S.setL ea eH (rl.append (.cons ry .nil))
      exact ⟨ws, eH, by rw [← rl.length]; exact hl, _, f7, Ok.fut f7 o⟩
    · exact False.elim o
  · exact False.elim o
theorem lc2_core' (O : XOk G T nm call fx X E) {e : Ex} {own : List Nat} {t : Tg} {k : Ik} {its ifs : List Ex} {own1 : List Nat} {t1 : Tg} {k1 : Ik} {its1 ifs1 : List Ex} (htg : ∀ i ∈ tgIs t, i ∈ own) (htg1 : ∀ i ∈ tgIs t1, i ∈ own1) (σ : L2.St) (H : Hp) (Q : VK) :
    tE G E (evE T call (.lc2 e own t k its ifs own1 t1 k1 its1 ifs1)) σ H Q → tLc2 (tI G E (evI T call k its)) (tG G t) (tT G E0 (evIf T call ifs)) (tI G E0 (evI T call k1 its1)) (tG G t1) (tT G E0 (evIf T call ifs1)) (tE G E0 (evE T call e)) ((ownsOf fx own).map (·.2)) own1 σ H Q := by
  have ow : (ownsOf fx own).map (·.2) = own := by unfold ownsOf; rw [List.map_map]; exact (List.map_congr_left (fun _ _ => rfl)).trans (List.map_id own)
  intro ⟨as, ρ, h, S, R, o⟩
  rw [ow]
  rw [evE_lc2] at o
  refine ⟨as, ρ, h, S, R, Ok.bind o fun p h1 as1 H1 J f1 hJ o1 D hD => ?_⟩
  obtain ⟨f2, rD⟩ := f1.sr.newL (ys := []) hD .nil
  have eD : (as1 ++ [D])[h1.length]? = some D := by
    rw [← f1.sr.len, List.getElem?_append_right (Nat.le_refl _)]
    simp
  have Rw : RepE G as1 H1 ρ σ := R.fut f1
  refine ⟨fun i m H => ∃ as2 h2, Fut G (as1 ++ [D]) (upd H1 D (.lst [])) as2 H h2 ∧ OkV G E as2 H Q ((accRun (lcO T call e own t ifs own1 t1 k1 its1 ifs1 h1.length ρ) p.1 m i h2).bind fun _ h9 => .ok (.ref h1.length) h9), ⟨p.2 + 1, as1 ++ [D], _, Fut.refl f2.sr, Ok.fut f2 o1⟩, ?_⟩
  rintro i m H' ⟨as2, h2, f3, o2⟩
  cases m with
  | zero => exact False.elim o2
  | succ m =>
    have f23 : Fut G as1 H1 as2 H' h2 := f2.trans f3
    obtain ⟨j1, j2⟩ := hJ as2 H' h2 f23.pre f23.kp f3.sr i
    rw [accRun_succ] at o2
    have eD2 : as2[h1.length]? = some D := pre_get f3.pre eD
    split at o2
    · exact False.elim o2
    · rename_i q
      refine .inl ⟨j1 q, okv f3.sr o2 ?_⟩
      unfold RepV
      exact ⟨D, eD2, rfl⟩
    · rename_i x q
      obtain ⟨jg, jy⟩ := j2 x q
      refine .inr ⟨jg, fun H3 => ∃ as3 h3, Fut G (as1 ++ [D]) (upd H1 D (.lst [])) as3 H3 h3 ∧ OkV G E as3 H3 Q ((accRun (lcO T call e own t ifs own1 t1 k1 its1 ifs1 h1.length ρ) p.1 m (i + 1) h3).bind fun _ h9 => .ok (.ref h1.length) h9), fun H3 n => ⟨m, Nat.lt_succ_self _, n⟩, fun v H3 y => ?_⟩
      obtain ⟨f4, rv⟩ := jy v H3 y
      have o3 := Ok.fut f4 o2
      have f34 := f3.trans f4
      have R3 : RepE G as2 H3 ρ σ := (Rw.fut f23).fut f4
      rw [Res.bind_assoc] at o3
      unfold lcO at o3
      split at o3
      · exact False.elim o3
      · rename_i ρ1 qb
        refine ⟨as2, _, h2, x, ρ1, f4.sr, wipe_ok R3 own, rv, qb, fun σ1 R1 ⟨is, vs, e1, e2⟩ => ⟨?_, ?_⟩⟩
        · rw [e1, wipe_fold (fun j hj => htg j (by have := e2 j hj; cases t <;> exact this)), wipe_wipe]
        · rw [Res.bind_assoc] at o3
          refine ⟨as2, ρ1, h2, f4.sr, R1, Ok.noer o3 fun b h4 as4 H4 b' f5 eb o4 => ?_⟩
          subst eb
          cases b with
          | false =>
            simp only [Bool.false_eq_true, if_false] at o4 ⊢
            exact ⟨as4, h4, f34.trans f5, o4⟩
          | true =>
            simp only [if_true] at o4 ⊢
            rw [Res.bind_assoc] at o4
            have R4 := R1.fut f5
            refine ⟨as4, ρ1, h4, f5.sr, R4, Ok.noer o4 fun p1 h5 as5 H5 J1 f6 hJ1 o5 => ?_⟩
            have f36 := (f34.trans f5).trans f6
            refine ⟨fun j n H => ∃ as6 h6, Fut G as5 H5 as6 H h6 ∧ OkV G E as6 H Q ((accRun (lcI T call e own1 t1 ifs1 h1.length ρ1) p1.1 n j h6).bind fun _ h9 => (accRun (lcO T call e own t ifs own1 t1 k1 its1 ifs1 h1.length ρ) p.1 m (i + 1) h9).bind fun _ h9 => .ok (.ref h1.length) h9), ⟨p1.2 + 1, as5, h5, Fut.refl f6.sr, o5⟩, ?_⟩
            rintro j n H6 ⟨as6, h6, f7, o6⟩
            cases n with
            | zero => exact False.elim o6
            | succ n =>
              obtain ⟨j1', j2'⟩ := hJ1 as6 H6 h6 f7.pre f7.kp f7.sr j
              rw [accRun_succ] at o6
              split at o6
              · exact False.elim o6
              · rename_i q'
                exact .inl ⟨j1' q', as6, h6, f36.trans f7, o6⟩
              · rename_i x' q'
                obtain ⟨jg', jy'⟩ := j2' x' q'
                refine .inr ⟨jg', fun H7 => ∃ as7 h7, Fut G as5 H5 as7 H7 h7 ∧ OkV G E as7 H7 Q ((accRun (lcI T call e own1 t1 ifs1 h1.length ρ1) p1.1 n (j + 1) h7).bind fun _ h9 => (accRun (lcO T call e own t ifs own1 t1 k1 its1 ifs1 h1.length ρ) p.1 m (i + 1) h9).bind fun _ h9 => .ok (.ref h1.length) h9), fun H7 z => ⟨n, Nat.lt_succ_self _, z⟩, fun v' H7 y' => ?_⟩
                obtain ⟨f8, rv'⟩ := jy' v' H7 y'
                have o7 := Ok.fut f8 o6
                rw [Res.bind_assoc] at o7
                unfold lcI at o7
                split at o7
                · exact False.elim o7
                · rename_i ρ2 qb'
                  refine ⟨as6, _, h6, x', ρ2, f8.sr, wipe_ok (((R4.fut f6).fut f7).fut f8) own1, rv', qb', fun σ3 R5 ⟨is', vs', e3, e4⟩ => ⟨?_, ?_⟩⟩
                  · rw [e3, wipe_fold (fun i hi => htg1 i (by have := e4 i hi; cases t1 <;> exact this)), wipe_wipe]
                  · rw [Res.bind_assoc] at o7
                    refine ⟨as6, ρ2, h6, f8.sr, R5, Ok.noer o7 fun b h8 as8 H8 b' f9 eb o8 => ?_⟩
                    subst eb
                    cases b with
                    | false =>
                      simp only [Bool.false_eq_true, if_false] at o8 ⊢
                      exact ⟨as8, h8, (f7.trans f8).trans f9, o8⟩
                    | true =>
                      simp only [if_true] at o8 ⊢
                      rw [Res.bind_assoc] at o8
                      refine ⟨as8, ρ2, h8, f9.sr, R5.fut f9, Ok.noer o8 fun z h10 as9 H9 z' f10 rz o9 => ?_⟩
                      have eD9 : as9[h1.length]? = some D := pre_get ((((((f5.pre.trans f6.pre).trans f7.pre).trans f8.pre).trans f9.pre).trans f10.pre)) eD2
                      obtain ⟨acc, eH, hl, h11, f11, o10⟩ := accPut_ok f10.sr eD9 rz o9
                      exact ⟨acc, eH, hl, as9, h11, (((f7.trans f8).trans f9).trans f10).trans f11, o10⟩
theorem okE_lc2 (O : XOk G T nm call fx X E) {e : Ex} {own : List Nat} {t : Tg} {k : Ik} {its ifs : List Ex} {own1 : List Nat} {t1 : Tg} {k1 : Ik} {its1 ifs1 : List Ex} {elt tg iter tg1 iter1 : Expr} {xifs xifs1 : List Expr} {sc : Scope} {pos : Pos}
    (hi : PI X tg iter (tI G E (evI T call k its))) (hb : blkC fx.N (scOf fx) sc (ownsOf fx own) = true) (htg : ∀ i ∈ tgIs t, i ∈ own) (htg1 : ∀ i ∈ tgIs t1, i ∈ own1) (hv : ∀ i ∈ own1, i ∈ own)
    (hg : ∀ (X' : Cx), XOk G T nm call (fxB fx sc) X' E0 → PG X' tg (tG G t)) (ht : ∀ (X' : Cx), XOk G T nm call (fxB fx sc) X' E0 → PTs X' xifs (tT G E0 (evIf T call ifs)))
    (hi1 : ∀ (X' : Cx), XOk G T nm call (fxB fx sc) X' E0 → PI X' tg1 iter1 (tI G E0 (evI T call k1 its1))) (hg1 : ∀ (X' : Cx), XOk G T nm call (fxB fx sc) X' E0 → PG X' tg1 (tG G t1)) (ht1 : ∀ (X' : Cx), XOk G T nm call (fxB fx sc) X' E0 → PTs X' xifs1 (tT G E0 (evIf T call ifs1)))
    (he : ∀ (X' : Cx), XOk G T nm call (fxB fx sc) X' E0 → PE X' elt (tE G E0 (evE T call e))) (hs : noSet iter = true) (hs1 : noSet iter1 = true) :
    PE X (.ListComp elt [⟨tg, iter, xifs, 0⟩, ⟨tg1, iter1, xifs1, 0⟩] sc pos) (tE G E (evE T call (.lc2 e own t k its ifs own1 t1 k1 its1 ifs1))) := by
  have hb0 := blkOk_by hb
  have hu : uniqB sc = true := List.all_eq_true.mpr fun y hy => decide_eq_true (hb0.uniq y hy)
  have ow : (ownsOf fx own).map (·.2) = own := by unfold ownsOf; rw [List.map_map]; exact (List.map_congr_left (fun _ _ => rfl)).trans (List.map_id own)
  obtain ⟨h1, h2, h3, h4, h5⟩ := lc_parts O hi hb htg hg ht he hs
  exact (pe_lc2 O.calm O.nd hi h1 (by rw [ow]; exact hv) h2 h3 (fun s H C cl fp => hi1 _ (O.blk hu s H C cl fp hb0.kind)) (fun s H C cl fp => hg1 _ (O.blk hu s H C cl fp hb0.kind)) (fun s H C cl fp => ht1 _ (O.blk hu s H C cl fp hb0.kind)) h4 h5
    (fun env x => by cases iter1 <;> first | rfl | cases hs1)).imp (lc2_core' O htg htg1)
end
end Mn
set_option Elab.async false
set_option linter.all false
set_option maxRecDepth 100000
set_option maxHeartbeats 1000000
namespace Mn
open PySem PySem.Spec L2 PyProof.Rows
section
variable {G : Gm} {T : Tb} {nm : Nm} {call : Nat → List PV → PH → Res PV} {fx : Fx} {X : Cx} {E : XK} {W : Nat}
theorem okA_star (O : XOk G T nm call fx X E) {e : Ex} {es : List Ex} {x : Expr} {xs : List Expr} {p : Pos} (h1 : PE X x (tE G E (evE T call e))) (h2 : PA X xs (tA G E (evEs T call es))) : PA X (.Starred x p :: xs) (tA G E (evEs T call (.star e :: es))) := by
  refine (StX.pa_star h1 h2).imp fun σ H Q ⟨as, ρ, h, S, R, o⟩ => ?_
  simp only [evEs] at o
  refine ⟨as, ρ, h, S, R, Ok.bind o fun v h1 as1 H1 v' f1 r1 o1 => ?_⟩
  cases v with
  | tup ys =>
    dsimp only at o1
    unfold RepV at r1
    obtain ⟨a, vs, rfl, s, r⟩ := r1
    refine ⟨a, vs, rfl, .inl (by rw [O.K]; exact s), as1, ρ, h1, f1.sr, R.fut f1, Ok.bind o1 fun ws h2 as2 H2 ws' f2 r2 o2 => ?_⟩
    exact o2 as2 H2 _ (Fut.refl f2.sr) ((r.fut f2).append r2)
  | ref l =>
    dsimp only at o1
    split at o1
    · rename_i ys q
      obtain ⟨a, ea, rfl⟩ := r1.refE
      obtain ⟨vs, s, r⟩ := f1.sr.lst q ea
      refine ⟨a, vs, rfl, .inr (by rw [O.K]; exact s), as1, ρ, h1, f1.sr, R.fut f1, Ok.bind o1 fun ws h2 as2 H2 ws' f2 r2 o2 => ?_⟩
      exact o2 as2 H2 _ (Fut.refl f2.sr) ((r.fut f2).append r2)
    · exact False.elim o1
  | _ => exact False.elim o1
end
end Mn
set_option Elab.async false
set_option linter.all false
set_option maxRecDepth 100000
set_option maxHeartbeats 1000000
namespace Mn
open PySem PySem.Spec L2 PyProof.Rows
section
variable {M : Model} {prog : Program} {w : World} {A : Around} {E : Value → Shared → Prop} {s : Shared} {K : PySem.W.Frag} {x C f : Addr} {ox : Obj} {od : Option Obj} {b tb : Value}
theorem ifBound_ne {args : List Value} {Q : Option Value → Shared → Prop} (X : K.In s.heap) (I : PySem.W.InstAt s.heap x ox C od) (hs : PySem.W.findIn K (.ref C) "__ne__" = some (some (.builtin "object.__ne__")))
    (h : wpAny M A (call (.builtin "object.__ne__") (.ref x :: args)) (fun v => Q (some v)) E s) : wpAny M A (callSpecialIfBound? (.ref x) "__ne__" args) Q E s := by
  simp only [callSpecialIfBound?, bindSpecialIfBound?]
  refine wpAny_holding (wpAny_bind (wpAny_bind (wpAny_bind (I.type.here ((PySem.W.looks_findIn X hs).here ?_)))))
  refine wpAny_bind (wpAny_askSetting (wpAny_ite ?_))
  have fin : wpAny M A (call (.builtin "object.__ne__") ([.ref x] ++ args) >>= fun v => pure (some v)) Q E s := wpAny_bind (wpAny_mono h (fun v s' h' => wpAny_pure h') fun _ _ h' => h')
  split
  · exact wpAny_bind (wpAny_of_eq (F.cmp_object.ne.bind _) (wpAny_pure (by exact fin)))
  · exact wpAny_tryCatch (wpAny_bind (wpAny_of_eq (F.cmp_object.ne.bind _) (wpAny_pure (by exact fin))))
theorem entry_ne {Q : Fin → Shared → Prop} (X : K.In s.heap) (I : PySem.W.InstAt s.heap x ox C od) (he : PySem.W.findIn K (.ref C) "__eq__" = some (some (.ref f))) (hf : PySem.W.isFn K (.ref f) = true) (hu : A.units < cLine)
    (h : wpAny M A (call (.ref f) [.ref x, b]) (fun v s' => ∃ c, v = .bool c ∧ Q (.done (.ret (.bool (!c)))) s') E s) : wpAny M A (Builtin.«object.__ne__» ⟨[.ref x, b], []⟩) Q E s := by
  unfold Builtin.«object.__ne__»
  repeat (first
    | with_reducible refine wpAny_cRoomFor hu ?_
    | (refine wpAny_bind (m := callSpecialIfBound? (.ref x) (Str.ofString "__eq__") [b])
        (PySem.W.ifBound_K X I he hf (wpAny_mono h (fun r s' hr => by
          obtain ⟨b, rfl, hq⟩ := hr
          repeat (first | exact hq | exact wpAny_pure hq | exact wpAny_truthy_bool hq | (refine wpAny_bind (m := truthy (.bool _)) (wpAny_truthy_bool ?_)) | wp_step)) fun _ _ e => e)))
    | wp_step)
theorem ne_K {Q : Value → Shared → Prop} (hu : A.units + 1 < cLine) (X : K.In s.heap) (I : PySem.W.InstAt s.heap x ox C od) (hb : PySem.W.Looks (model prog w) s.heap (typeOf b) tb) (hn : PySem.W.notFirst K C tb = true)
    (hm : PySem.W.mroIn K C (.type "object") = some true) (hs : PySem.W.findIn K (.ref C) "__ne__" = some (some (.builtin "object.__ne__"))) (he : PySem.W.findIn K (.ref C) "__eq__" = some (some (.ref f))) (hf : PySem.W.isFn K (.ref f) = true)
    (h : wpAny (model prog w) A.in1 (call (.ref f) [.ref x, b]) (fun v s' => ∃ c, v = .bool c ∧ Q (.bool (!c)) s') E s) : wpAny (model prog w) A (compareOp .NotEq (.ref x) b) Q E s := by
  have one : wpAny (model prog w) A (tryCompare (.ref x) "__ne__" b) (fun r s' => ∃ v, r = some v ∧ Q v s') E s := by
    unfold tryCompare
    refine wpAny_bind (ifBound_ne X I hs (wpAny_call (codeAny_call_builtin F.cmp_object.ne.plain F.cmpEntry_ne (PySem.W.check_slot F.cmpKind_ne F.cmpSplit_ne (I.type.andThen (PySem.W.looks_mroIn X hm)) (F.cmpArgs_ne _ _) (entry_ne (A := A.in1) X I he hf hu (wpAny_mono h (fun v s' hv => ?_) fun _ _ e => e))))))
    obtain ⟨c, rfl, hq⟩ := hv
    exact ⟨c, rfl, wpAny_pure ⟨_, rfl, hq⟩⟩
  unfold compareOp
  unfold richCompare
  simp only [oneThing_ref]
  refine wpAny_holding (wpAny_bind (wpAny_cRoomFor (Nat.lt_of_succ_lt hu) ?_))
  rw [cmpInfo_NotEq]
  dsimp only
  refine wpAny_bind (I.type.here (wpAny_bind (hb.here ?_)))
  split
  · rename_i q
    have e : PySem.W.subIn K tb (.ref C) = some false := by
      rcases Bool.or_eq_true_iff.mp hn with e | e
      · rw [beq_iff_eq.mp e] at q; simp at q
      · exact beq_iff_eq.mp e
    refine wpAny_bind ((PySem.W.looks_subIn X e).here ?_)
    simp only [Bool.false_eq_true, if_false]
    refine wpAny_bind (wpAny_mono one (fun r s' z => ?_) fun _ _ e => e)
    obtain ⟨v, rfl, hq⟩ := z
    exact wpAny_pure hq
  · refine wpAny_bind (wpAny_pure ?_)
    simp only [Bool.false_eq_true, if_false]
    refine wpAny_bind (wpAny_mono one (fun r s' z => ?_) fun _ _ e => e)
    obtain ⟨v, rfl, hq⟩ := z
    exact wpAny_pure hq
end
section
variable {X : Cx} {CX : CXT} {k : Nat} {C g a dx : Addr} {fs : List (Str × V)} {fd : FuncData} {ps : List Str} {sp : Sp} {E : XK}
theorem neO_ok {pins : List (Addr × Obj)} {σ : L2.St} {H : Hp} {s : Shared} {Q : VK} {E' : Value → Shared → Prop} {y : V} {u tb : Value} (hu : X.A.units + 1 < cLine) (I : Inv X pins σ H s) (ea : H a = some (.ins C dx fs)) (ry : RelV y u) (hb0 : PySem.W.Looks (model X.prog X.w) s.heap (typeOf u) tb) (hn : PySem.W.notFirst X.K C tb = true)
    (hm : PySem.W.mroIn X.K C (.type "object") = some true) (hs : PySem.W.findIn X.K (.ref C) "__ne__" = some (some (.builtin "object.__ne__"))) (he : PySem.W.findIn X.K (.ref C) "__eq__" = some (some (.ref g))) (hf : PySem.W.isFn X.K (.ref g) = true)
    (F : FnOk X.prog X.w X.K X.mg X.base CX k g fd ps sp) (hr : Room (k + 1) X.A) (hb : Binds X.K fd ps []) (hx : Passes CX X.nox E) (h : sp [.ref a, y] H (fun v H2 => ∃ b : Bool, v = .bl b ∧ Q (.bl (!b)) H2) E) :
    wpAny (model X.prog X.w) X.A (compareOp .NotEq (.ref a) u) (EP X pins σ Q) E' s := by
  obtain ⟨mA, O, _, _, _, _⟩ := ins_get I.hok ea
  obtain ⟨od, J, _⟩ := O.look
  have hl : ([Value.ref a, u] ++ []).length = ps.length := by
    rw [← F.len _ _ _ _ h]
    rfl
  refine ne_K hu I.kIn J hb0 hn hm hs he hf (wpAny_call ?_)
  refine codeAny_mono (F.run X.A.in1 X.stack s H ⟨[.ref a, u], []⟩ [Value.ref a, u] [.ref a, y] (fun v H2 => ∃ b : Bool, v = .bl b ∧ Q (.bl (!b)) H2) E hr.in1 I.env0.in1 (hb _ [.ref a, u] I.kIn hl) (.cons (show RelV (.ref a) (.ref a) from rfl) (.cons ry .nil)) h) fun r s' hq => ?_
  cases r with
  | error er => exact False.elim (hx pins σ H s er s' (I.wish _) hq)
  | ok fl =>
    cases fl with
    | ret u =>
      obtain ⟨v, H', I3, rv, b, rfl, q3⟩ := I.after hq
      obtain rfl : u = .bool b := rv
      exact ⟨b, rfl, .bl (!b), H', I3, rfl, q3⟩
    | next => exact False.elim hq
    | brk => exact False.elim hq
    | cont => exact False.elim hq
end
end Mn
set_option Elab.async false
set_option linter.all false
set_option maxRecDepth 100000
set_option maxHeartbeats 4000000
namespace Mn
open PySem PySem.Spec L2 PyProof.Rows
section
variable {G : Gm} {T : Tb} {nm : Nm} {call : Nat → List PV → PH → Res PV} {fx : Fx} {X : Cx} {E : XK} {W : Nat}
theorem own_bl {pins : List (Addr × Obj)} {s : Shared} {σ : L2.St} {H : Hp} {Q : VK} {k f : Nat} {fd : FuncData} {ps : List Str} {us : List Value} {vs : List V} {neg : Bool} (F : FnOk X.prog X.w X.K X.mg X.base (L2.CX X.prog X.w) k (G.fa f) fd ps (spF G call f ps.length)) (hr : Room k X.A) (hb : Binds X.K fd ps []) (hx : Passes (L2.CX X.prog X.w) X E) (I : Inv X pins σ H s) (r : Vals vs us)
    (h : spF G call f ps.length vs H (fun v H' => ∃ b, v = .bl b ∧ Q (.bl (b != neg)) H') E) : wpAny (model X.prog X.w) X.A (PySem.call (.ref (G.fa f)) us) (fun u s' => ∃ b, u = .bool b ∧ EP X pins σ Q (.bool (b != neg)) s') X.xe s := by
  refine wpAny_mono (run_fn (ds := []) (dvs := []) F hr hb .nil hx I r (by rw [List.append_nil]; exact h)) (fun u s' q => ?_) fun _ _ x => x
  obtain ⟨v, H', I', rv, b, rfl, q⟩ := q
  obtain rfl : u = Value.bool b := rv
  exact ⟨b, rfl, .bl (b != neg), H', I', rfl, q⟩
theorem op_oin (O : XOk G T nm call fx X E) {m : Nat} (hn : nm.an[m]? = some "__contains__") (neg : Bool) : OpR X (compareOp (if neg then .NotIn else .In)) (rP2 G E (oinP T call neg m)) := by
  intro pins s σ H x y v u Q I rx ry ⟨as, h, va, vb, S, ra, rb, o⟩
  unfold oinP at o
  split at o
  · rename_i l
    obtain ⟨a, ea, rfl⟩ := rb.refE
    obtain rfl : u = Value.ref a := ry
    split at o
    · rename_i c fs ql
      split at o
      · rename_i f qf
        obtain ⟨ci, ec, em⟩ := Option.bind_eq_some_iff.mp qf
        have mm := O.cls.me c ci m f _ ec em (by rw [← O.an]; exact hn)
        obtain ⟨k, fd, ps, F, hr, hbd, ar, _⟩ := O.mfn c ci f ec (.inr (.inl ⟨m, em⟩))
        obtain ⟨dx, gs, eh, rf⟩ := S.insM ql ea
        obtain ⟨mA, J0, _⟩ := ins_get I.hok eh
        obtain ⟨od, J, _⟩ := J0.look
        obtain ⟨mF, hF⟩ := I.fr
        rw [← O.K] at mm
        have hsp : spF G call f ps.length [.ref a, x] H (fun v' H' => ∃ b, v' = .bl b ∧ Q (.bl (b != neg)) H') E := by
          refine Ok.bind_call ar S (.cons rb (.cons ra .nil)) (Ok.bind o fun r h3 as3 H3 r' f3 rr q3 => ?_)
          cases r with
          | bl b =>
            obtain rfl := rr.blE
            exact ⟨b, rfl, q3 as3 H3 _ (Fut.refl f3.sr) (.bl _)⟩
          | _ => exact False.elim q3
        have w := own_bl (neg := neg) F (hr.mono (Nat.le_succ k)) hbd O.pass I (.cons (show RelV (.ref a) (.ref a) from rfl) (.cons rx .nil)) hsp
        cases neg with
        | false =>
          refine PySem.W.in_K hF I.ok.mod.kin J mm.at_ mm.fn (wpAny_mono w (fun r s' q => ?_) fun _ _ x => x)
          obtain ⟨b, rfl, q⟩ := q
          refine wpAny_truthy_bool ?_
          cases b <;> exact q
        | true =>
          refine PySem.W.notIn_K hF I.ok.mod.kin J mm.at_ mm.fn (wpAny_mono w (fun r s' q => ?_) fun _ _ x => x)
          obtain ⟨b, rfl, q⟩ := q
          refine wpAny_truthy_bool ?_
          cases b <;> exact q
      · exact False.elim o
    · exact False.elim o
  · exact False.elim o
theorem nfT_ok (O : XOk G T nm call fx X E) {t : PV} {c : Nat} (hc : c < T.cls.length) (h : nfT T t c = true) : (∃ d b, subC T t d = some b) ∧ PySem.W.notFirst X.K (G.ca c) (clV G t) = true := by
  unfold nfT at h
  rcases Bool.or_eq_true_iff.mp h with h | h
  · cases t with
    | cls d =>
      obtain rfl : d = c := by simpa using h
      have e : T.cls[d]? = some T.cls[d] := List.getElem?_eq_getElem hc
      refine ⟨⟨.cls d, T.cls[d].sups.contains d, ?_⟩, ?_⟩
      · simp only [subC, e, Option.bind_some, hc, if_true]
      · simp [PySem.W.notFirst, clV]
    | _ => simp at h
  · have h := beq_iff_eq.mp h
    refine ⟨⟨_, _, h⟩, ?_⟩
    have k := subC_kit O.cls h
    rw [show clV G (PV.cls c) = Value.ref (G.ca c) from rfl] at k
    unfold PySem.W.kitOne at k
    split at k
    · cases k
    · unfold PySem.W.kitCls at k
      dsimp only at k
      split at k
      · unfold PySem.W.notFirst
        rw [O.K, k]
        simp
      · cases k
theorem op_oeq (O : XOk G T nm call fx X E) : OpR X (compareOp .Eq) (rP2 G E (oeqP T call)) := by
  intro pins s σ H x y v u Q I rx ry ⟨as, h, va, vb, S, ra, rb, o⟩
  unfold oeqP at o
  split at o
  · rename_i l
    obtain ⟨a, ea, rfl⟩ := ra.refE
    obtain rfl : v = Value.ref a := rx
    split at o
    · rename_i c fs ql
      split at o
      · rename_i f t qf qt
        split at o
        · rename_i hh
          obtain ⟨hf, hnf⟩ := Bool.and_eq_true_iff.mp hh
          obtain ⟨ci, ec, em⟩ := Option.bind_eq_some_iff.mp qf
          obtain ⟨⟨d, b0, eb⟩, hnf⟩ := nfT_ok O (List.getElem?_eq_some_iff.mp ec).1 hnf
          obtain ⟨P, KX, hP, _⟩ := kit_all O.K O.cls I S hf qt eb rb ry
          obtain ⟨e1, e2⟩ := O.cls.eqm _ ci f ec em
          obtain ⟨k, fd, ps, F, hr, hbd, ar, _⟩ := O.mfn _ ci f ec (.inr (.inr (.inr em)))
          obtain ⟨dx, gs, eh, rf⟩ := S.insM ql ea
          obtain ⟨mA, J0, _⟩ := ins_get I.hok eh
          obtain ⟨od, J, _⟩ := J0.look
          obtain ⟨mF, hF⟩ := I.fr
          rw [← O.K] at e1 e2
          have hsp : spF G call f ps.length [.ref a, y] H (fun v' H' => ∃ b, v' = .bl b ∧ Q (.bl (b != false)) H') E := by
            refine Ok.bind_call ar S (.cons ra (.cons rb .nil)) (Ok.bind o fun r h3 as3 H3 r' f3 rr q3 => ?_)
            cases r with
            | bl b =>
              obtain rfl := rr.blE
              refine ⟨b, rfl, ?_⟩
              have := q3 as3 H3 _ (Fut.refl f3.sr) (.bl b)
              cases b <;> exact this
            | _ => exact False.elim q3
          have w := own_bl (neg := false) F (hr.mono (Nat.le_succ k)) hbd O.pass I (.cons (show RelV (.ref a) (.ref a) from rfl) (.cons ry .nil)) hsp
          have hu := O.hu
          refine PySem.W.cmp_K (op := .Eq) (by omega) hF I.ok.mod.kin J (KX.ty _ _ I.kIn hP) hnf e1 e2 (wpAny_mono w (fun r s' q => ?_) fun _ _ x => x)
          obtain ⟨b, rfl, q⟩ := q
          show EP X pins σ Q (.bool b) s'
          cases b <;> exact q
        · exact False.elim o
      · exact False.elim o
    · exact False.elim o
  · exact False.elim o
theorem op_one (O : XOk G T nm call fx X E) : OpR X (compareOp .NotEq) (rP2 G E (onpP T call)) := by
  intro pins s σ H x y v u Q I rx ry ⟨as, h, va, vb, S, ra, rb, o⟩
  unfold onpP at o
  split at o
  · rename_i l
    obtain ⟨a, ea, rfl⟩ := ra.refE
    obtain rfl : v = Value.ref a := rx
    split at o
    · rename_i c fs ql
      split at o
      · rename_i f t qf qt
        split at o
        · rename_i hh
          obtain ⟨hf, hnf⟩ := Bool.and_eq_true_iff.mp hh
          obtain ⟨ci, ec, em⟩ := Option.bind_eq_some_iff.mp qf
          have hc := (List.getElem?_eq_some_iff.mp ec).1
          obtain ⟨⟨d, b0, eb⟩, hnf⟩ := nfT_ok O hc hnf
          obtain ⟨P, KX, hP, _⟩ := kit_all O.K O.cls I S hf qt eb rb ry
          obtain ⟨e1, e2⟩ := O.cls.eqm _ ci f ec em
          have e3 := O.cls.nem _ ci f ec em
          have e4 := O.cls.hm c hc
          obtain ⟨k, fd, ps, F, hr, hbd, ar, _⟩ := O.mfn _ ci f ec (.inr (.inr (.inr em)))
          obtain ⟨dx, gs, eh, rf⟩ := S.insM ql ea
          rw [← O.K] at e1 e2 e3 e4
          have hu := O.hu
          refine neO_ok (E := E0) (sp := spF G call f ps.length) (by omega) I eh ry (KX.ty _ _ I.kIn hP) hnf e4 e3 e1 e2 F hr hbd (L2.passL (X := X.nox)) ?_
          refine Ok.bind_call (E := E0) ar S (.cons (by unfold RepV; exact ⟨a, ea, rfl⟩) (.cons rb .nil)) (Ok.noer o fun w h2 as2 H2 w' f2 r2 o2 => ?_)
          cases w with
          | bl b => exact ⟨b, r2.blE, o2 as2 H2 (.bl (!b)) (Fut.refl f2.sr) (.bl _)⟩
          | _ => exact False.elim o2
        · exact False.elim o
      · exact False.elim o
    · exact False.elim o
  · exact False.elim o
theorem okE_oin (O : XOk G T nm call fx X E) {m : Nat} {neg : Bool} {a b : Ex} {x y : Expr} {p : Pos} (hn : nm.an[m]? = some "__contains__") (hm : noSet y = true) (ha : PE X x (tE G E (evE T call a))) (hb : PE X y (tE G E (evE T call b))) : PE X (.Compare x [if neg then .NotIn else .In] [y] p) (tE G E (evE T call (.oin neg m a b))) := by
  refine (pe_cmpR (op_oin (E := E) O hn neg) ha hb (noSet_ok hm)).imp fun σ H Q q => ?_
  refine two_parts (fun _ _ _ _ h => h) ?_
  simpa only [tE, evE] using q
theorem okE_oeq (O : XOk G T nm call fx X E) {a b : Ex} {x y : Expr} {p : Pos} (hm : noSet y = true) (ha : PE X x (tE G E (evE T call a))) (hb : PE X y (tE G E (evE T call b))) : PE X (.Compare x [.Eq] [y] p) (tE G E (evE T call (.oeq a b))) := by
  refine (pe_cmpR (op_oeq (E := E) O) ha hb (noSet_ok hm)).imp fun σ H Q q => ?_
  refine two_parts (fun _ _ _ _ h => h) ?_
  simpa only [tE, evE] using q
theorem okE_one (O : XOk G T nm call fx X E) {a b : Ex} {x y : Expr} {p : Pos} (hm : noSet y = true) (ha : PE X x (tE G E (evE T call a))) (hb : PE X y (tE G E (evE T call b))) : PE X (.Compare x [.NotEq] [y] p) (tE G E (evE T call (.one a b))) := by
  refine (pe_cmpR (op_one (E := E) O) ha hb (noSet_ok hm)).imp fun σ H Q q => ?_
  refine two_parts (fun _ _ _ _ h => h) ?_
  simpa only [tE, evE] using q
theorem oin_bl {α : Type} {neg : Bool} {m : Nat} {v w : PV} {h : PH} {k : PV → PH → Res α} : (oinP T call neg m v w h).bind k = (oinP T call neg m v w h).bind fun r h1 => match r with
    | .bl b => k (.bl b) h1
    | _ => .stuck := by
  unfold oinP
  split
  · split
    · split
      · rw [Res.bind_assoc, Res.bind_assoc]
        congr 1
        funext r h3
        cases r <;> rfl
      · rfl
    · rfl
  · rfl
theorem oeq_bl {α : Type} {v w : PV} {h : PH} {k : PV → PH → Res α} : (oeqP T call v w h).bind k = (oeqP T call v w h).bind fun r h1 => match r with
    | .bl b => k (.bl b) h1
    | _ => .stuck := by
  unfold oeqP
  split
  · split
    · split
      · split
        · rw [Res.bind_assoc, Res.bind_assoc]
          congr 1
          funext r h3
          cases r <;> rfl
        · rfl
      · rfl
    · rfl
  · rfl
theorem one_bl {α : Type} {v w : PV} {h : PH} {k : PV → PH → Res α} : (onpP T call v w h).bind k = (onpP T call v w h).bind fun r h1 => match r with
    | .bl b => k (.bl b) h1
    | _ => .stuck := by
  unfold onpP
  split
  · split
    · split
      · split
        · rw [Res.bind_assoc, Res.bind_assoc]
          congr 1
          funext r h3
          cases r <;> rfl
        · rfl
      · rfl
    · rfl
  · rfl
theorem okT_oin (O : XOk G T nm call fx X E) {m : Nat} {neg : Bool} {a b : Ex} {x y : Expr} {p : Pos} (hn : nm.an[m]? = some "__contains__") (hm : noSet y = true) (ha : PE X x (tE G E (evE T call a))) (hb : PE X y (tE G E (evE T call b))) : PT X (.Compare x [if neg then .NotIn else .In] [y] p) (tT G E (evT T call (.oin neg m a b))) := by
  refine (pt_cmpR (op_oin (E := E) O hn neg) ha hb (noSet_ok hm)).imp fun σ H Q ⟨as, ρ, h, S, R, o⟩ => ?_
  simp only [evT, evE, Res.bind_assoc] at o
  refine ⟨as, ρ, h, S, R, Ok.bind o fun v h1 as1 H1 v' f1 r1 o1 => ⟨as1, ρ, h1, f1.sr, R.fut f1, Ok.bind o1 fun w h2 as2 H2 w' f2 r2 o2 => ?_⟩⟩
  refine ⟨as2, h2, v, w, f2.sr, r1.fut f2, r2, ?_⟩
  rw [oin_bl] at o2
  refine Ok.bind o2 fun r h3 as3 H3 r' f3 rr o3 => ?_
  cases r with
  | bl b => exact ⟨b, rr.blE, o3 as3 H3 b (Fut.refl f3.sr) rfl⟩
  | _ => exact False.elim o3
theorem okT_oeq (O : XOk G T nm call fx X E) {a b : Ex} {x y : Expr} {p : Pos} (hm : noSet y = true) (ha : PE X x (tE G E (evE T call a))) (hb : PE X y (tE G E (evE T call b))) : PT X (.Compare x [.Eq] [y] p) (tT G E (evT T call (.oeq a b))) := by
  refine (pt_cmpR (op_oeq (E := E) O) ha hb (noSet_ok hm)).imp fun σ H Q ⟨as, ρ, h, S, R, o⟩ => ?_
  simp only [evT, evE, Res.bind_assoc] at o
  refine ⟨as, ρ, h, S, R, Ok.bind o fun v h1 as1 H1 v' f1 r1 o1 => ⟨as1, ρ, h1, f1.sr, R.fut f1, Ok.bind o1 fun w h2 as2 H2 w' f2 r2 o2 => ?_⟩⟩
  refine ⟨as2, h2, v, w, f2.sr, r1.fut f2, r2, ?_⟩
  rw [oeq_bl] at o2
  refine Ok.bind o2 fun r h3 as3 H3 r' f3 rr o3 => ?_
  cases r with
  | bl b => exact ⟨b, rr.blE, o3 as3 H3 b (Fut.refl f3.sr) rfl⟩
  | _ => exact False.elim o3
theorem okT_one (O : XOk G T nm call fx X E) {a b : Ex} {x y : Expr} {p : Pos} (hm : noSet y = true) (ha : PE X x (tE G E (evE T call a))) (hb : PE X y (tE G E (evE T call b))) : PT X (.Compare x [.NotEq] [y] p) (tT G E (evT T call (.one a b))) := by
  refine (pt_cmpR (op_one (E := E) O) ha hb (noSet_ok hm)).imp fun σ H Q ⟨as, ρ, h, S, R, o⟩ => ?_
  simp only [evT, evE, Res.bind_assoc] at o
  refine ⟨as, ρ, h, S, R, Ok.bind o fun v h1 as1 H1 v' f1 r1 o1 => ⟨as1, ρ, h1, f1.sr, R.fut f1, Ok.bind o1 fun w h2 as2 H2 w' f2 r2 o2 => ?_⟩⟩
  refine ⟨as2, h2, v, w, f2.sr, r1.fut f2, r2, ?_⟩
  rw [one_bl] at o2
  refine Ok.bind o2 fun r h3 as3 H3 r' f3 rr o3 => ?_
  cases r with
  | bl b => exact ⟨b, rr.blE, o3 as3 H3 b (Fut.refl f3.sr) rfl⟩
  | _ => exact False.elim o3
theorem okE_calld (O : XOk G T nm call fx X E) {g f j : Nat} {ds : List PV} {es : List Ex} {x : Str} {ys : List Expr} {p pos : Pos} (hg : nm.gn[g]? = some x) (hf : T.glob[g]? = some (.fn f)) (hj : T.dfl[j]? = some (f, ds)) (hb : glB fx.names x = true) (hp : plainName x = true)
    (hxs : ys.all (fun x => !isStar x) = true) (hlen : es.length = ys.length) (ha : PA X ys (tA G E (evEs T call es))) : PE X (.Call (.Name x p) ys [] pos) (tE G E (evE T call (.calld g es j))) := by
  obtain ⟨k, fd, ps, F, hr, hk, hbd, hm, ar, dk⟩ := O.fns g x f hg hf
  obtain ⟨dvs, us, r1, r2, bd⟩ := dk ds (List.mem_of_getElem? hj)
  cases ys with
  | nil =>
    cases es with
    | nil =>
      refine (pe_call0 F hr (gl_ok O hb) hm hk bd r2 O.pass (plain_ok hp).1).imp fun σ H Q ⟨as, ρ, h, S, R, o⟩ => ?_
      simp only [evE, hf, hj, callG, evEs, Res.bind_ok] at o
      show spF G call f ps.length ([] ++ dvs) H Q E
      exact Ok.bind_call ar S (r1 as H) o
    | cons _ _ => simp at hlen
  | cons y ys =>
    refine (pe_call F hr (gl_ok O hb) hm hk bd r2 O.pass ha (plain_ok hp).1 (star_cons (by simpa using (Bool.and_eq_true_iff.mp hxs).1)) (noStars (Bool.and_eq_true_iff.mp hxs).2)).imp fun σ H Q ⟨as, ρ, h, S, R, o⟩ => ?_
    simp only [evE, hf, hj, callG] at o
    refine ⟨as, ρ, h, S, R, Ok.bind o fun vs h1 as1 H1 vs' f1 q1 o1 => ?_⟩
    exact Ok.bind_call ar f1.sr (q1.append (r1 as1 H1)) o1
theorem make_okd {as : List Addr} {H : Hp} {h : PH} {c f np : Nat} {vs ds : List PV} {xs dvs : List V} {Q : VK} (ar : ∀ xs h, xs.length ≠ np → call f xs h = .stuck) (S : SR G as H h) (r : RepVs G as H vs xs) (rd : ∀ as H, RepVs G as H ds dvs)
    (o : OkV G E as H Q ((call f (.ref h.length :: (vs ++ ds)) (h ++ [.ins c []])).bind fun v h1 => match v with
      | .non => .ok (.ref h.length) h1
      | _ => .stuck)) : ∀ x dx, H x = none → H dx = none → dx ≠ x → spF G call f np (.ref x :: (xs ++ dvs)) (upd (upd H dx (.own x)) x (.ins (G.ca c) dx [])) (fun v H2 => v = .non ∧ Q (.ref x) H2) E := by
  intro x dx hx hd hne
  obtain ⟨f1, r1⟩ := S.newI (c := c) hx hd hne
  refine Ok.bind_call ar f1.sr (.cons r1 ((r.fut f1).append (rd _ _))) ?_
  refine Ok.bind (Ok.fut f1 o) fun v h2 as2 H2 v' f2 r2 q2 => ?_
  cases v with
  | non =>
    have e : v' = .non := by unfold RepV at r2; exact r2
    exact ⟨e, q2 as2 H2 (.ref x) (Fut.refl f2.sr) (r1.fut f2)⟩
  | _ => exact False.elim q2
theorem okE_maked (O : XOk G T nm call fx X E) {g c f j : Nat} {ds : List PV} {es : List Ex} {x : Str} {ys : List Expr} {p pos : Pos} (hg : nm.gn[g]? = some x) (hf : T.glob[g]? = some (.cls c)) (hi : (T.cls[c]?).bind (·.init) = some f) (hj : T.dfl[j]? = some (f, ds)) (hb : glB fx.names x = true) (hp : plainName x = true)
    (hxs : ys.all (fun x => !isStar x) = true) (hlen : es.length = ys.length) (ha : PA X ys (tA G E (evEs T call es))) : PE X (.Call (.Name x p) ys [] pos) (tE G E (evE T call (.calld g es j))) := by
  have hm := mg_cls O hg hf
  refine ⟨fun pins s σ H Q I ⟨as, ρ, h, S, R, o⟩ => ?_⟩
  simp only [evE, hf, hj, callG] at o
  obtain ⟨ci, ec, ei⟩ := Option.bind_eq_some_iff.mp hi
  obtain ⟨k, fd, ps, F, hr, hbd, ar, dk⟩ := O.mfn c ci f ec (.inl ei)
  obtain ⟨dvs, us, r1, r2, bd⟩ := dk ds (List.mem_of_getElem? hj)
  have M : Mk X.K (G.ca c) (G.fa f) := by rw [O.K]; exact O.cls.mkr c ci f ec ei
  cases ys with
  | nil =>
    cases es with
    | nil =>
      refine (pe_make0 (sp := spF G call f ps.length) M F hr (gl_ok O hb) hm bd r2 O.pass (plain_ok hp).1).run pins s σ H Q I ?_
      simp only [evEs, Res.bind_ok, hi] at o
      exact make_okd ar S .nil r1 o
    | cons _ _ => simp at hlen
  | cons y ys =>
    refine (pe_make (sp := spF G call f ps.length) M F hr (gl_ok O hb) hm bd r2 O.pass ha (plain_ok hp).1 (star_cons (by simpa using (Bool.and_eq_true_iff.mp hxs).1)) (noStars (Bool.and_eq_true_iff.mp hxs).2)).run pins s σ H Q I ⟨as, ρ, h, S, R, ?_⟩
    refine Ok.bind o fun vs h1 as1 H1 vs' f1 q1 o1 => ?_
    rw [hi] at o1
    exact make_okd ar f1.sr q1 r1 o1
theorem okE_mtd (O : XOk G T nm call fx X E) {m j : Nat} {n : Str} {o : Ex} {es : List Ex} {xo : Expr} {ys : List Expr} {apos pos : Pos} (hn : nm.an[m]? = some n) (ho : PE X xo (tE G E (evE T call o))) (ha : PA X ys (tA G E (evEs T call es)))
    (hbase : attributeBase xo n X.env (eval xo X.env) = eval xo X.env) (hxs : ys.all (fun x => !isStar x) = true) (hl : ys.length < 29) (hline : (apos.endLine == pos.line) = true) (hlen : es.length = ys.length) :
    PE X (.Call (.Attribute xo n apos) ys [] pos) (tE G E (evE T call (.mtd m o es j))) := by
  refine ⟨fun pins s σ H Q I ⟨as, ρ, h, S, R, q⟩ => ?_⟩
  simp only [evE] at q
  split at q
  · rename_i l h1 er
    split at q
    · rename_i c fs ql
      split at q
      · rename_i fnum qd qf qm hj
        split at q
        · rename_i hfn
          obtain ⟨qf1, ds⟩ := qd
          simp only at hfn
          subst hfn
          obtain ⟨ci, ec, em⟩ := Option.bind_eq_some_iff.mp qm
          have hn' := hn
          rw [O.an] at hn'
          have mm := O.cls.me c ci m fnum n ec em hn'
          obtain ⟨k, fd, ps, F, hr, hbd, ar, dk⟩ := O.mfn c ci fnum ec (.inr (.inl ⟨m, em⟩))
          obtain ⟨dvs, us, r1, r2, bd⟩ := dk ds (List.mem_of_getElem? hj)
          have cc : Cls X.K (G.ca c) := by rw [O.K]; exact O.cls.cl c (cls_lt ec)
          rw [← O.K] at mm
          have pre : tE G E (evE T call o) σ H fun x H1 => ∃ a dx gs, x = .ref a ∧ H1 a = some (.ins (G.ca c) dx gs) ∧ gs.lookup n = none ∧ tA G E (evEs T call es) σ H1 fun vs H2 => spF G call fnum ps.length (x :: (vs ++ dvs)) H2 Q E := by
            refine ⟨as, ρ, h, S, R, ?_⟩
            rw [er]
            intro as1 H1 v1 f1 q1
            obtain ⟨a, ea, rfl⟩ := q1.refE
            obtain ⟨dx, gs, eh, rf⟩ := f1.sr.insM ql ea
            refine ⟨a, dx, gs, rfl, eh, rf.gone O.cls.nd hn' qf, as1, ρ, h1, f1.sr, R.fut f1, ?_⟩
            refine Ok.bind (Ok.fut f1 q) fun vs h2 as2 H2 vs' f2 q2 o2 => ?_
            exact Ok.bind_call ar f2.sr (.cons (q1.fut f2) (q2.append (r1 _ _))) o2
          cases ys with
          | nil =>
            cases es with
            | nil =>
              refine (pe_meth0 (sp := spF G call fnum ps.length) ho cc mm F (hr.mono (Nat.le_succ k)) bd r2 O.pass (meth_eq hbase rfl (by decide) hline)).run pins s σ H Q I ?_
              obtain ⟨as', ρ', h', S', R', q'⟩ := pre
              refine ⟨as', ρ', h', S', R', q'.imp fun v H1 ⟨a, dx, gs, e1, e2, e3, as3, ρ3, h3, S3, R3, q3⟩ => ⟨a, dx, gs, e1, e2, e3, ?_⟩⟩
              simp only [evEs] at q3
              exact q3 as3 H1 [] (Fut.refl S3) .nil
            | cons _ _ => simp at hlen
          | cons y ys =>
            exact (pe_meth (sp := spF G call fnum ps.length) ho cc mm F (hr.mono (Nat.le_succ k)) bd r2 O.pass ha (star_cons (by simpa using (Bool.and_eq_true_iff.mp hxs).1)) (noStars (Bool.and_eq_true_iff.mp hxs).2) (meth_eq hbase hxs hl hline)).run pins s σ H Q I pre
        · exact False.elim q
      · exact False.elim q
    · exact False.elim q
  · exact False.elim q
end
end Mn
set_option Elab.async false
set_option linter.all false
set_option maxRecDepth 100000
set_option maxHeartbeats 4000000
namespace Mn
open PySem PySem.Spec L2 PyProof.Rows
theorem ddI_first (ns : List Int) : ∀ i, i ≤ ns.length → firstMet (fun i => ns.getD i 0) i = ddI (ns.take i)
  | 0, _ => rfl
  | i + 1, hi => by
    have hlt : i < ns.length := hi
    have e : ns.getD i 0 = ns[i] := by rw [List.getD_eq_getElem?_getD, List.getElem?_eq_getElem hlt] <;> rfl
    rw [firstMet_succ, ddI_first ns i (Nat.le_of_lt hlt), List.take_succ, List.getElem?_eq_getElem hlt]
    show step_dedup (ddI (ns.take i)) (ns.getD i 0) = ddI (ns.take i ++ [ns[i]])
    unfold ddI
    rw [List.foldl_append, e]
    show step_dedup _ _ = (if _ then _ else _)
    unfold step_dedup
    congr 1
    simp only [eq_iff_iff]
    rw [List.any_eq_true, List.contains_iff_mem]
    constructor
    · rintro ⟨x, hx, q⟩
      rw [← beq_iff_eq.mp q]
      exact hx
    · exact fun h => ⟨_, h, by simp⟩
section
variable {G : Gm} {T : Tb} {nm : Nm} {call : Nat → List PV → PH → Res PV} {fx : Fx} {X : Cx} {E : XK} {W : Nat}
def tLenSetG (K : PySem.W.Frag) (ta : TE) : TE := fun σ H Q => ta σ H fun x H1 => ∃ (l : Addr) (ns : List Int), x = V.ref l ∧ SqL K H1 l (ns.map V.int) ∧ ns.length < 1000 ∧ Q (.int (ddI ns).length) H1
theorem pe_lenSetG {a : Expr} {ta : TE} {p p2 q pos : Pos} (hc : X.calm = true) (hg : Gl X "len") (hm : X.mg "len" = none) (hg2 : Gl X "set") (hm2 : X.mg "set" = none) (ha : PE X a ta)
    (na : starEach [a] X.env = (false, eval a X.env) :: starEach [] X.env := by rfl) : PE X (.Call (.Name "len" p) [.Call (.Name "set" p2) [a] [] q] [] pos) (tLenSetG X.K ta) := by
  refine ⟨fun pins s σ H Q I h => ?_⟩
  refine Call_ (ld_blt I hg hm PySem.boot_len ?_)
  refine PyProof.Rows.callWith_builtin1 (PyProof.Rows.args_cons ?_ rfl) rfl rfl
  refine Call_ (ld_blt I hg2 hm2 PyProof.Rows.boot_set ?_)
  refine PyProof.Rows.callWith_type1 (PyProof.Rows.args_cons (thn (ha.run pins s σ H _ I h) fun v s1 ⟨x, H1, I1, r1, q1⟩ => PyProof.Rows.args_nil ?_) na) na rfl
  obtain ⟨l, ns, rfl, hq, h1, q1⟩ := q1
  cases r1
  obtain ⟨its, r, pl, hz⟩ := I1.list hq
  have hl : its.toArray.size = ns.length := by rw [List.size_toArray, ← r.length, List.length_map]
  refine call_set_list (I1.ok.hd hc) pl.isList (ns := ns) (by simpa using r.ints) (by unfold scanBound; omega) fun h' tk hS hk => ?_
  rw [hl, ddI_first ns ns.length (Nat.le_refl _), List.take_length] at hS
  refine PyProof.Rows.args_nil ?_
  obtain ⟨o, es, ep, t, ho, hex, hd, _, _, _, hf, hn⟩ := hS
  have hle : (ddI ns).length ≤ ns.length := by
    have : ∀ (l acc : List Int), (l.foldl (fun a n => if a.contains n then a else a ++ [n]) acc).length ≤ acc.length + l.length := fun l => by
      induction l with
      | nil => intro acc; simp
      | cons a r ih =>
        intro acc
        simp only [List.foldl_cons]
        split
        · have := ih acc; rw [List.length_cons]; omega
        · have := ih (acc ++ [a]); rw [List.length_append] at this; simp only [List.length_cons, List.length_nil] at this ⊢; omega
    have := this ns []
    simpa [ddI] using this
  have I2 : Inv X pins σ H1 { s1 with heap := h', toks := tk } := I1.kept fun b o e => hk b o (Heap.lt_size e) e
  refine call_len_set ho hex hd hf (by rw [hn] <;> omega) ⟨.int (ddI ns).length, H1, I2.tok _, ⟨_, by rw [hn]⟩, q1⟩
theorem okE_lset (O : XOk G T nm call fx X E) {e : Ex} {x : Expr} {p p2 q pos : Pos} (hx : isStar x = false) (hg : glB fx.names "len" = true) (hg2 : glB fx.names "set" = true) (ha : PE X x (tE G E (evE T call e))) :
    PE X (.Call (.Name "len" p) [.Call (.Name "set" p2) [x] [] q] [] pos) (tE G E (evE T call (.lset e))) := by
  refine (pe_lenSetG O.calm (gl_ok O hg) (O.bl .len) (gl_ok O hg2) O.sts ha (star_cons hx)).imp fun σ H Q ⟨as, ρ, h, S, R, o⟩ => ?_
  simp only [evE] at o
  refine ⟨as, ρ, h, S, R, Ok.bind o fun v h1 as1 H1 v' f1 r1 o1 => ?_⟩
  split at o1
  · rename_i l
    obtain ⟨a, ea, rfl⟩ := r1.refE
    split at o1
    · rename_i xs ql
      split at o1
      · rename_i ns qn
        split at o1
        · rename_i hl
          obtain ⟨ws, sl, r2⟩ := f1.sr.lst ql ea
          have ew := intsOf_ok qn r2
          subst ew
          exact ⟨a, ns, rfl, by rw [O.K]; exact sl, hl, okn o1 (Fut.refl f1.sr) (.int _)⟩
        · exact False.elim o1
      · exact False.elim o1
    · exact False.elim o1
  · exact False.elim o1
end
end Mn
set_option Elab.async false
set_option linter.all false
set_option maxRecDepth 100000
set_option maxHeartbeats 8000000
namespace Mn
open PySem PySem.Spec L2 PyProof.Rows
def isBoolOp : Expr → Bool
  | .BoolOp .. => true
  | _ => false
def isTup : Expr → Bool
  | .Tuple .. => true
  | _ => false
def itB (names : List (Str × NameKind)) (k : Ik) (tg iter : Expr) (n : Nat) (ck : List Expr → Bool) : Bool := match k, iter with
  | .seq, x => (n == 1) && ck [x]
  | .keys, x => (n == 1) && ck [x]
  | .items, .Call (.Attribute xo y ap) [] [] cp => decide (y = "items") && baseB xo && (ap.endLine == cp.line) && isTup tg && (n == 1) && ck [xo]
  | .rng, .Call (.Name y _) xs [] _ => decide (y = "range") && glB names "range" && (n == 1 && xs.length == 1 || n == 2 && xs.length == 2 || n == 3 && xs.length == 3) && ck xs
  | .rvr, .Call (.Name y _) [.Call (.Name z _) xs [] _] [] _ => decide (y = "reversed") && glB names "reversed" && decide (z = "range") && glB names "range" && (n == 1 && xs.length == 1) && ck xs
  | .enum, .Call (.Name y _) xs [] _ => decide (y = "enumerate") && glB names "enumerate" && isTup tg && (n == 1 && xs.length == 1) && ck xs
  | .zip, .Call (.Name y _) xs [] _ => decide (y = "zip") && glB names "zip" && isTup tg && (n == 2 && xs.length == 2) && ck xs
  | .rev, .Call (.Name y _) xs [] _ => decide (y = "reversed") && glB names "reversed" && (n == 1 && xs.length == 1) && ck xs
  | _, _ => false
def isFn : Option PV → Bool
  | some (.fn _) => true
  | _ => false
def isMk (T : Tb) : Option PV → Bool
  | some (.cls c) => ((T.cls[c]?).bind (·.init)).isSome
  | _ => false
def dflB (T : Tb) (v : Option PV) (j : Nat) : Bool := match v, T.dfl[j]? with
  | some (.fn f), some q => decide (f = q.1)
  | some (.cls c), some q => decide ((T.cls[c]?).bind (·.init) = some q.1)
  | _, _ => false
section
variable (T : Tb) (nm : Nm)
mutual
def chkX (fx : Fx) : Ex → Expr → Bool
  | .var i, x => chkE nm fx (.var i) x
  | .con v, .Constant c _ _ => conOk v c
  | .glob g, x => chkE nm fx (.glob g) x
  | .bty f, .Name x _ => btyB fx.names f x
  | .bin op a b, .BinOp x o y _ => opB op o && chkX fx a x && chkX fx b y
  | .neg a, .UnaryOp .USub x _ => chkX fx a x
  | .not a, .UnaryOp .Not x _ => chkX fx a x
  | .and a b, .BoolOp .And (x :: y :: r) p => chkX fx a x && (match r with
      | [] => chkX fx b y
      | z :: r => chkX fx b (.BoolOp .And (y :: z :: r) p))
  | .or a b, .BoolOp .Or (x :: y :: r) p => chkX fx a x && (match r with
      | [] => chkX fx b y
      | z :: r => chkX fx b (.BoolOp .Or (y :: z :: r) p))
  | .cmp op a b, .Compare x [o] [y] _ => cpB op o && noSet y && chkX fx a x && chkX fx b y
  | .chn o1 o2 a b c, .Compare x [p1, p2] [y, z] _ => cpB o1 p1 && cpB o2 p2 && noSet y && noSet z && chkX fx a x && chkX fx b y && chkX fx c z
  | .ife c a b, .IfExp z x y _ => chkX fx c z && chkX fx a x && chkX fx b y
  | .tup es, .Tuple xs _ _ => chkDs fx es xs
  | .lst es, .List xs _ => chkDs fx es xs
  | .lno m o, .Call (.Name x _) [xo] [] _ => decide (x = "len") && glB fx.names "len" && decide (nm.an[m]? = some "__len__") && chkX fx o xo
  | .lc2 e own t k its ifs own1 t1 k1 its1 ifs1, .ListComp elt [⟨tg, iter, xifs, 0⟩, ⟨tg1, iter1, xifs1, 0⟩] sc _ => blkC fx.N (scOf fx) sc (ownsOf fx own) && (tgIs t).all (fun i => own.contains i) && (tgIs t1).all (fun i => own1.contains i) && own1.all (fun i => own.contains i) && chkTg (fxB fx sc) t tg && chkTg (fxB fx sc) t1 tg1 && noSet iter && noSet iter1 && itB fx.names k tg iter its.length (fun xs => chkXs fx its xs) && itB (fxB fx sc).names k1 tg1 iter1 its1.length (fun xs => chkXs (fxB fx sc) its1 xs) && decide (xifs.length ≤ 1) && decide (xifs1.length ≤ 1) && chkXs (fxB fx sc) ifs xifs && chkXs (fxB fx sc) ifs1 xifs1 && chkX (fxB fx sc) e elt
  | .ix o i, .Subscript x y _ => !isSlice y && chkX fx o x && chkX fx i y
  | .sl o lo hi, .Subscript x (.Slice l u none _) _ => chkX fx o x && (match l with
      | none => isNop lo
      | some e => !isNop lo && chkX fx lo e) && (match u with
      | none => isNop hi
      | some e => !isNop hi && chkX fx hi e)
  | .call g es, .Call (.Name x _) xs [] _ => decide (nm.gn[g]? = some x) && glB fx.names x && plainName x && (isFn T.glob[g]? || isMk T T.glob[g]?) && chkXs fx es xs
  | .bi f es, .Call (.Name x _) xs [] _ => decide (x = f.nm) && glB fx.names x && !xs.isEmpty && chkXs fx es xs
  | .mt m b o es, .Call (.Attribute xo name ap) xs [] pos => (if notNone b then decide (name = b.nm) else decide (nm.an[m]? = some name)) && baseB xo && (ap.endLine == pos.line) && decide (xs.length < 29) && chkX fx o xo && chkXs fx es xs
  | .dsp, .Dict [] [] _ => true
  | .calld g es j, .Call (.Name x _) xs [] _ => decide (nm.gn[g]? = some x) && glB fx.names x && plainName x && dflB T T.glob[g]? j && chkXs fx es xs
  | .mtd m o es _, .Call (.Attribute xo name ap) xs [] pos => decide (nm.an[m]? = some name) && baseB xo && (ap.endLine == pos.line) && decide (xs.length < 29) && chkX fx o xo && chkXs fx es xs
  | .oin neg m a b, .Compare x [o] [y] _ => decide (o = if neg then .NotIn else .In) && decide (nm.an[m]? = some "__contains__") && noSet y && chkX fx a x && chkX fx b y
  | .oeq a b, .Compare x [o] [y] _ => decide (o = .Eq) && noSet y && chkX fx a x && chkX fx b y
  | .one a b, .Compare x [o] [y] _ => decide (o = .NotEq) && noSet y && chkX fx a x && chkX fx b y
  | .lck _ e, .ListComp elt gs sc p => chkX fx e (.ListComp elt gs sc p)
  | .deq a b, .Compare x [o] [y] _ => decide (o = .Eq) && noSet y && chkX fx a x && chkX fx b y
  | .lit o, .Call (.Name x _) [.Call (.Attribute xo n ap) [] [] cp] [] _ => decide (x = "list") && glB fx.names "list" && decide (n = "items") && baseB xo && (ap.endLine == cp.line) && chkX fx o xo
  | .lset e, .Call (.Name x _) [.Call (.Name y _) [z] [] _] [] _ => decide (x = "len") && glB fx.names "len" && decide (y = "set") && glB fx.names "set" && chkX fx e z
  | .lz es, .Call (.Name x _) [.Call (.Name y _) xs [] _] [] _ => decide (x = "list") && glB fx.names "list" && decide (y = "zip") && glB fx.names "zip" && decide (xs.length = 2) && chkXs fx es xs
  | .clm o j, .Call (.Attribute xo n ap) [] [] pos => (match T.cms[j]? with
    | some q => decide (n = q.2.1)
    | none => false) && baseB xo && (ap.endLine == pos.line) && chkX fx o xo
  | .callk i es, .Call (.Name x _) xs [] _ => decide (fx.N[i]? = some x) && visB fx.names x && plainName x && !xs.isEmpty && chkXs fx es xs
  | .tit o, .Call (.Name x _) [.Call (.Attribute xo n ap) [] [] cp] [] _ => decide (x = "tuple") && glB fx.names "tuple" && decide (n = "items") && baseB xo && (ap.endLine == cp.line) && chkX fx o xo
  | .sit o, .Call (.Name x _) [.Call (.Attribute xo n ap) [] [] cp] [] _ => decide (x = "sorted") && glB fx.names "sorted" && decide (n = "items") && baseB xo && (ap.endLine == cp.line) && chkX fx o xo
  | .callv i es, .Call (.Name x _) xs [] _ => decide (fx.N[i]? = some x) && visB fx.names x && plainName x && !xs.isEmpty && chkXs fx es xs
  | .att o f, .Attribute xo n _ => decide (nm.an[f]? = some n) && baseB xo && chkX fx o xo
  | .lc e own t k its ifs, .ListComp elt [⟨tg, iter, xifs, 0⟩] sc _ => blkC fx.N (scOf fx) sc (ownsOf fx own) && (tgIs t).all (fun i => own.contains i) && chkTg (fxB fx sc) t tg && noSet iter && itB fx.names k tg iter its.length (fun xs => chkXs fx its xs) && decide (xifs.length ≤ 1) && chkXs (fxB fx sc) ifs xifs && chkX (fxB fx sc) e elt
  | _, _ => false
def chkXs (fx : Fx) : List Ex → List Expr → Bool
  | [], [] => true
  | e :: es, x :: xs => chkX fx e x && chkXs fx es xs
  | _, _ => false
def chkDs (fx : Fx) : List Ex → List Expr → Bool
  | [], [] => true
  | .star e :: es, .Starred x _ :: xs => chkX fx e x && chkDs fx es xs
  | e :: es, x :: xs => chkX fx e x && chkDs fx es xs
  | _, _ => false
end
end
section
variable (G : Gm) (T : Tb) (nm : Nm) (call : Nat → List PV → PH → Res PV)
structure CE (fx : Fx) (e : Ex) (x : Expr) : Prop where
  ns : isStar x = false
  ne : ∀ y, e ≠ .star y
  pe : ∀ X E, XOk G T nm call fx X E → PE X x (tE G E (evE T call e))
  pt : ∀ X E, XOk G T nm call fx X E → PT X x (tT G E (evT T call e))
  pw : ∀ X E, XOk G T nm call fx X E → isBoolOp x = true → PW X x (tT G E (evT T call e))
structure CEs (fx : Fx) (es : List Ex) (xs : List Expr) : Prop where
  len : es.length = xs.length
  ns : xs.all (fun x => !isStar x) = true
  ne : ∀ e ∈ es, ∀ y, e ≠ .star y
  pa : ∀ X E, XOk G T nm call fx X E → PA X xs (tA G E (evEs T call es))
  one : ∀ e x, es = [e] → xs = [x] → CE G T nm call fx e x
end
section
variable {G : Gm} {T : Tb} {nm : Nm} {call : Nat → List PV → PH → Res PV} {fx : Fx}
def isPlainT : Expr → Bool
  | .UnaryOp .Not _ _ => false
  | .BoolOp .. => false
  | .IfExp .. => false
  | .Compare .. => false
  | _ => true
theorem plainT_ok {x : Expr} {env : Env} (h : isPlainT x = true) : ∀ whole, isTrue x env whole = (do let v ← whole; standAt x.pos; holding [v] (truthy v)) := fun whole => by
  unfold PySem.isTrue
  split <;> first | rfl | cases h
theorem CE.val {e : Ex} {x : Expr} (ns : isStar x = false) (ne : ∀ y, e ≠ .star y) (pl : isPlainT x = true) (pe : ∀ X E, XOk G T nm call fx X E → PE X x (tE G E (evE T call e))) : CE G T nm call fx e x where
  ns := ns
  ne := ne
  pe := pe
  pt := fun X E O => okT_of O (pe X E O) (plainT_ok pl)
  pw := fun X E O hb => by cases x <;> first | exact Bool.noConfusion (show false = true from hb) | exact Bool.noConfusion (show false = true from pl)
theorem okI_by {k : Ik} {tg iter : Expr} {its : List Ex} {ck : List Expr → Bool} (h : itB fx.names k tg iter its.length ck = true) (hck : ∀ xs, ck xs = true → CEs G T nm call fx its xs) {X : Cx} {E : XK} (O : XOk G T nm call fx X E) : PI X tg iter (tI G E (evI T call k its)) := by
  unfold itB at h
  split at h
  · rename_i x
    simp only [Bool.and_eq_true, beq_iff_eq] at h
    match its, h with
    | [e], h => exact okI_seq O ((hck _ h.2).ne e (by simp)) (((hck _ h.2).one e _ rfl rfl).pe X E O)
  · rename_i x
    simp only [Bool.and_eq_true, beq_iff_eq] at h
    match its, h with
    | [e], h => exact okI_keys O ((hck _ h.2).ne e (by simp)) (((hck _ h.2).one e _ rfl rfl).pe X E O)
  · rename_i xo y ap cp
    simp only [Bool.and_eq_true, beq_iff_eq, decide_eq_true_eq] at h
    obtain ⟨⟨⟨⟨⟨rfl, h2⟩, h3⟩, h4⟩, h5⟩, h6⟩ := h
    cases tg with
    | Tuple elts kk tp =>
      match its, h5, h6 with
      | [e], _, h6 => exact okI_items O ((hck _ h6).ne e (by simp)) h2 (by simpa using h3) (((hck _ h6).one e _ rfl rfl).pe X E O)
    | _ => cases h4
  · rename_i y q xs pos
    simp only [Bool.and_eq_true, Bool.or_eq_true, beq_iff_eq, decide_eq_true_eq] at h
    obtain ⟨⟨⟨rfl, hg⟩, hl⟩, hc⟩ := h
    have c := hck _ hc
    have cn := c.ns
    rcases hl with (⟨h1, h2⟩ | ⟨h1, h2⟩) | ⟨h1, h2⟩
    · match its, xs, h1, h2, c, cn with
      | [e], [x], _, _, c, cn => exact okI_rng1 O (c.ne e (by simp)) (by simpa using cn) hg (c.pa X E O)
    · match its, xs, h1, h2, c, cn with
      | [e, e2], [x, x2], _, _, c, cn =>
        have cn' : isStar x = false ∧ isStar x2 = false := by simpa using cn
        exact okI_rng2 O (c.ne e (by simp)) (c.ne e2 (by simp)) cn'.1 cn'.2 hg (c.pa X E O)
    · match its, xs, h1, h2, c, cn with
      | [e, e2, e3], [x, x2, x3], _, _, c, cn =>
        have cn' : isStar x = false ∧ isStar x2 = false ∧ isStar x3 = false := by simpa using cn
        exact okI_rng3 O (c.ne e (by simp)) (c.ne e2 (by simp)) (c.ne e3 (by simp)) cn'.1 cn'.2.1 cn'.2.2 hg (c.pa X E O)
  · rename_i y q z q2 xs pos2 pos
    simp only [Bool.and_eq_true, beq_iff_eq, decide_eq_true_eq] at h
    obtain ⟨⟨⟨⟨⟨rfl, hg2⟩, rfl⟩, hg⟩, h1, h2⟩, hc⟩ := h
    have c := hck _ hc
    have cn := c.ns
    match its, xs, h1, h2, c, cn with
    | [e], [x], _, _, c, cn => exact okI_rvr O (c.ne e (by simp)) (by simpa using cn) hg hg2 ((c.one e x rfl rfl).pe X E O)
  · rename_i y q xs pos
    simp only [Bool.and_eq_true, beq_iff_eq, decide_eq_true_eq] at h
    obtain ⟨⟨⟨⟨rfl, hg⟩, ht⟩, h1, h2⟩, hc⟩ := h
    have c := hck _ hc
    have cn := c.ns
    cases tg with
    | Tuple elts kk tp =>
      match its, xs, h1, h2, c, cn with
      | [e], [x], _, _, c, cn => exact okI_enum O (c.ne e (by simp)) (by simpa using cn) hg (c.pa X E O)
    | _ => cases ht
  · rename_i y q xs pos
    simp only [Bool.and_eq_true, beq_iff_eq, decide_eq_true_eq] at h
    obtain ⟨⟨⟨⟨rfl, hg⟩, ht⟩, h1, h2⟩, hc⟩ := h
    have c := hck _ hc
    have cn := c.ns
    cases tg with
    | Tuple elts kk tp =>
      match its, xs, h1, h2, c, cn with
      | [e, e2], [x, x2], _, _, c, cn =>
        have cn' : isStar x = false ∧ isStar x2 = false := by simpa using cn
        exact okI_zip O (c.ne e (by simp)) (c.ne e2 (by simp)) cn'.1 cn'.2 hg (c.pa X E O)
    | _ => cases ht
  · rename_i y q xs pos
    simp only [Bool.and_eq_true, beq_iff_eq, decide_eq_true_eq] at h
    obtain ⟨⟨⟨rfl, hg⟩, h1, h2⟩, hc⟩ := h
    have c := hck _ hc
    have cn := c.ns
    match its, xs, h1, h2, c, cn with
    | [e], [x], _, _, c, cn => exact okI_rev O (c.ne e (by simp)) (by simpa using cn) hg (c.pa X E O)
  · cases h
theorem okTs_le {es : List Ex} {xs : List Expr} (c : CEs G T nm call fx es xs) (hl : xs.length ≤ 1) {X : Cx} {E : XK} (O : XOk G T nm call fx X E) : PTs X xs (tT G E (evIf T call es)) := by
  have ln := c.len
  cases xs with
  | nil =>
    cases es with
    | nil => exact okTs_nil
    | cons e es => simp at ln
  | cons x xs =>
    cases xs with
    | nil =>
      cases es with
      | nil => simp at ln
      | cons e es =>
        cases es with
        | nil => exact okTs_one ((c.one e x rfl rfl).pt X E O)
        | cons e2 es => simp at ln
    | cons y ys => simp at hl
end
end Mn
set_option Elab.async false
set_option linter.all false
set_option maxRecDepth 100000
set_option maxHeartbeats 8000000
namespace Mn
open PySem PySem.Spec L2 PyProof.Rows
section
variable {G : Gm} {T : Tb} {nm : Nm} {call : Nat → List PV → PH → Res PV}
theorem okT_ife {fx : Fx} {X : Cx} {E : XK} (O : XOk G T nm call fx X E) {c a b : Ex} {z x y : Expr} {p : Pos} (hc : PT X z (tT G E (evT T call c))) (ha : PT X x (tT G E (evT T call a))) (hb : PT X y (tT G E (evT T call b))) : PT X (.IfExp z x y p) (tT G E (evT T call (.ife c a b))) := by
  refine ⟨fun pins s σ H Q I ⟨as, ρ, h, S, R, o⟩ => ?_⟩
  have e : evT T call (.ife c a b) ρ h = (evT T call c ρ h).bind fun t h1 => if t then evT T call a ρ h1 else evT T call b ρ h1 := by
    simp only [evT, evE, Res.bind_assoc]
    congr 1
    funext v h1
    cases e : pTru h1 v with
    | none => rfl
    | some t => cases t <;> rfl
  rw [e] at o
  have e2 : ∀ w, PySem.isTrue (.IfExp z x y p) X.env w = (do
    if ← PySem.isTrue z X.env (eval z X.env) then PySem.isTrue x X.env (eval x X.env) else PySem.isTrue y X.env (eval y X.env)) := fun w => by conv => lhs; unfold PySem.isTrue
  rw [e2]
  refine wpAny_bind (thn (hc.run pins s σ H (fun t H1 => ∃ as1 h1, SR G as1 H1 h1 ∧ RepE G as1 H1 ρ σ ∧ OkB G E as1 H1 Q (if t then evT T call a ρ h1 else evT T call b ρ h1)) I ⟨as, ρ, h, S, R, Ok.bind o fun t h1 as1 H1 t' f1 et o1 => ?_⟩) fun d s1 ⟨H1, I1, as1, h1, S1, R1, o1⟩ => ?_)
  · subst et
    exact ⟨as1, h1, f1.sr, R.fut f1, o1⟩
  · cases d with
    | true => exact ha.run pins s1 σ H1 Q I1 ⟨as1, ρ, h1, S1, R1, o1⟩
    | false => exact hb.run pins s1 σ H1 Q I1 ⟨as1, ρ, h1, S1, R1, o1⟩
theorem pN {o : Option Expr} (h : (match o with | none => true | some _ => false) = true) : o = none := by cases o <;> first | rfl | cases h
mutual
theorem okX : ∀ (e : Ex) (fx : Fx) (x : Expr), chkX T nm fx e x = true → CE G T nm call fx e x
  | .var i, fx, x, h => by
    cases x with
    | Name y p => exact .val rfl (fun _ e => (nomatch e)) rfl fun X E O => okE_var O h
    | _ => cases h
  | .con v, fx, x, h => by
    cases x with
    | Constant c j p => exact .val rfl (fun _ e => (nomatch e)) rfl fun X E O => okE_con h
    | _ => cases h
  | .glob g, fx, x, h => by
    cases x with
    | Name y p => exact .val rfl (fun _ e => (nomatch e)) rfl fun X E O => okE_glob O h
    | _ => cases h
  | .bty f, fx, x, h => by
    cases x with
    | Name y p => exact .val rfl (fun _ e => (nomatch e)) rfl fun X E O => okE_bty O h
    | _ => cases h
  | .bin op a b, fx, x, h => by
    cases x with
    | BinOp x o y p =>
      simp only [chkX, Bool.and_eq_true] at h
      obtain ⟨⟨ho, ha⟩, hb⟩ := h
      obtain rfl := opB_ok ho
      have ca := okX a fx x ha
      have cb := okX b fx y hb
      exact .val rfl (fun _ e => (nomatch e)) rfl fun X E O => okE_bin O (ca.pe X E O) (cb.pe X E O)
    | _ => cases h
  | .neg a, fx, x, h => by
    cases x with
    | UnaryOp o y p =>
      cases o with
      | USub =>
        have ca := okX a fx y h
        exact .val rfl (fun _ e => (nomatch e)) rfl fun X E O => okE_neg (ca.pe X E O)
      | _ => cases h
    | _ => cases h
  | .not a, fx, x, h => by
    cases x with
    | UnaryOp o y p =>
      cases o with
      | Not =>
        have ca := okX a fx y h
        exact { ns := rfl, ne := fun _ e => (nomatch e), pe := fun X E O => okE_not O (ca.pe X E O), pt := fun X E O => okT_not (ca.pt X E O), pw := fun X E O hb => (nomatch hb) }
      | _ => cases h
    | _ => cases h
  | .and a b, fx, x, h => by
    cases x with
    | BoolOp o xs p =>
      cases o with
      | And =>
        match xs, h with
        | [x, y], h =>
          simp only [chkX, Bool.and_eq_true] at h
          have ca := okX a fx x h.1
          have cb := okX b fx y h.2
          exact { ns := rfl, ne := fun _ e => (nomatch e), pe := fun X E O => okE_and O (ca.pe X E O) (pe_one (cb.pe X E O)), pt := fun X E O => (okT_and (ca.pt X E O) (pw_and1 (cb.pt X E O))).pt, pw := fun X E O _ => okT_and (ca.pt X E O) (pw_and1 (cb.pt X E O)) }
        | x :: y :: z :: r, h =>
          simp only [chkX, Bool.and_eq_true] at h
          have ca := okX a fx x h.1
          have cb := okX b fx (.BoolOp .And (y :: z :: r) p) h.2
          exact { ns := rfl, ne := fun _ e => (nomatch e), pe := fun X E O => okE_and O (ca.pe X E O) (cb.pe X E O), pt := fun X E O => (okT_and (ca.pt X E O) (cb.pw X E O rfl)).pt, pw := fun X E O _ => okT_and (ca.pt X E O) (cb.pw X E O rfl) }
      | _ => cases h
    | _ => cases h
  | .or a b, fx, x, h => by
    cases x with
    | BoolOp o xs p =>
      cases o with
      | Or =>
        match xs, h with
        | [x, y], h =>
          simp only [chkX, Bool.and_eq_true] at h
          have ca := okX a fx x h.1
          have cb := okX b fx y h.2
          exact { ns := rfl, ne := fun _ e => (nomatch e), pe := fun X E O => okE_or O (ca.pe X E O) (pe_one (cb.pe X E O)), pt := fun X E O => (okT_or (ca.pt X E O) (pw_or1 (cb.pt X E O))).pt, pw := fun X E O _ => okT_or (ca.pt X E O) (pw_or1 (cb.pt X E O)) }
        | x :: y :: z :: r, h =>
          simp only [chkX, Bool.and_eq_true] at h
          have ca := okX a fx x h.1
          have cb := okX b fx (.BoolOp .Or (y :: z :: r) p) h.2
          exact { ns := rfl, ne := fun _ e => (nomatch e), pe := fun X E O => okE_or O (ca.pe X E O) (cb.pe X E O), pt := fun X E O => (okT_or (ca.pt X E O) (cb.pw X E O rfl)).pt, pw := fun X E O _ => okT_or (ca.pt X E O) (cb.pw X E O rfl) }
      | _ => cases h
    | _ => cases h
  | .cmp op a b, fx, x, h => by
    cases x with
    | Compare x os ys p =>
      match os, ys, h with
      | [o], [y], h =>
        simp only [chkX, Bool.and_eq_true] at h
        obtain ⟨⟨⟨ho, hs⟩, ha⟩, hb⟩ := h
        obtain rfl := cpB_ok ho
        have ca := okX a fx x ha
        have cb := okX b fx y hb
        exact { ns := rfl, ne := fun _ e => (nomatch e), pe := fun X E O => okE_cmp O hs (ca.pe X E O) (cb.pe X E O), pt := fun X E O => okT_cmp O hs (ca.pe X E O) (cb.pe X E O), pw := fun X E O hb => (nomatch hb) }
    | _ => cases h
  | .chn o1 o2 a b c, fx, x, h => by
    cases x with
    | Compare x os ys p =>
      match os, ys, h with
      | [p1, p2], [y, z], h =>
        simp only [chkX, Bool.and_eq_true] at h
        obtain ⟨⟨⟨⟨⟨⟨h1, h2⟩, _⟩, hz⟩, ha⟩, hb⟩, hc⟩ := h
        obtain rfl := cpB_ok h1
        obtain rfl := cpB_ok h2
        have ca := okX a fx x ha
        have cb := okX b fx y hb
        have cc := okX c fx z hc
        exact { ns := rfl, ne := fun _ e => (nomatch e), pe := fun X E O => okE_chn O hz (ca.pe X E O) (cb.pe X E O) (cc.pe X E O), pt := fun X E O => okT_chn O hz (ca.pe X E O) (cb.pe X E O) (cc.pe X E O), pw := fun X E O hb => (nomatch hb) }
    | _ => cases h
  | .ife c a b, fx, x, h => by
    cases x with
    | IfExp z x y p =>
      simp only [chkX, Bool.and_eq_true] at h
      have cc := okX c fx z h.1.1
      have ca := okX a fx x h.1.2
      have cb := okX b fx y h.2
      exact { ns := rfl, ne := fun _ e => (nomatch e), pe := fun X E O => okE_ife O (cc.pt X E O) (ca.pe X E O) (cb.pe X E O), pt := fun X E O => okT_ife O (cc.pt X E O) (ca.pt X E O) (cb.pt X E O), pw := fun X E O hb => (nomatch hb) }
    | _ => cases h
  | .tup es, fx, x, h => by
    cases x with
    | Tuple xs k p =>
      have c := okDs es fx xs h
      exact .val rfl (fun _ e => (nomatch e)) rfl fun X E O => okE_tup (c X E O)
    | _ => cases h
  | .lst es, fx, x, h => by
    cases x with
    | List xs p =>
      have c := okDs es fx xs h
      exact .val rfl (fun _ e => (nomatch e)) rfl fun X E O => okE_lst (c X E O)
    | _ => cases h
  | .ix o i, fx, x, h => by
    cases x with
    | Subscript x y p =>
      simp only [chkX, Bool.and_eq_true, Bool.not_eq_true'] at h
      have h' := h
      have ca := okX o fx x h'.1.2
      have cb := okX i fx y h'.2
      exact .val rfl (fun _ e => (nomatch e)) rfl fun X E O => okE_ix O h'.1.1 (ca.pe X E O) (cb.pe X E O)
    | _ => cases h
  | .sl o lo hi, fx, x, h => by
    cases x with
    | Subscript x y p =>
      cases y with
      | Slice l u st p2 =>
        cases st with
        | none =>
          simp only [chkX, Bool.and_eq_true] at h
          have co := okX o fx x h.1.1
          have kl : ∀ X E, XOk G T nm call fx X E → L2.PO X l (tO G E fun ρ h => partR lo (evE T call lo ρ h) h) := by
            cases l with
            | none =>
              have hn : lo = .nop := by
                have := h.1.2
                revert this
                cases lo <;> intro this <;> first | rfl | cases this
              subst hn
              exact fun X E O => okP_none
            | some e =>
              have h1 : isNop lo = false ∧ chkX T nm fx lo e = true := by simpa using h.1.2
              have c1 := okX lo fx e h1.2
              exact fun X E O => okP_some h1.1 (c1.pe X E O)
          have ku : ∀ X E, XOk G T nm call fx X E → L2.PO X u (tO G E fun ρ h => partR hi (evE T call hi ρ h) h) := by
            cases u with
            | none =>
              have hn : hi = .nop := by
                have := h.2
                revert this
                cases hi <;> intro this <;> first | rfl | cases this
              subst hn
              exact fun X E O => okP_none
            | some e =>
              have h1 : isNop hi = false ∧ chkX T nm fx hi e = true := by simpa using h.2
              have c1 := okX hi fx e h1.2
              exact fun X E O => okP_some h1.1 (c1.pe X E O)
          exact .val rfl (fun _ e => (nomatch e)) rfl fun X E O => okE_sl O (co.pe X E O) (kl X E O) (ku X E O)
        | some _ => cases h
      | _ => cases h
    | _ => cases h
  | .call g es, fx, x, h => by
    cases x with
    | Call f xs ks p =>
      cases f with
      | Name y q =>
        cases ks with
        | nil =>
          simp only [chkX, Bool.and_eq_true, decide_eq_true_eq] at h
          obtain ⟨⟨⟨⟨hg, hb⟩, hp⟩, hf⟩, hc⟩ := h
          have c := okXs es fx xs hc
          rw [Bool.or_eq_true] at hf
          rcases hf with hf | hf
          · have ⟨f, hf'⟩ : ∃ f, T.glob[g]? = some (.fn f) := by
              unfold isFn at hf
              split at hf
              · rename_i f q; exact ⟨f, q⟩
              · cases hf
            cases xs with
            | nil =>
              have e0 : es = [] := List.eq_nil_of_length_eq_zero c.len
              subst e0
              exact .val rfl (fun _ e => (nomatch e)) rfl fun X E O => okE_call0 O hg hf' hb hp
            | cons z zs =>
              have cn := c.ns
              simp only [List.all_cons, Bool.and_eq_true, Bool.not_eq_true'] at cn
              exact .val rfl (fun _ e => (nomatch e)) rfl fun X E O => okE_call O hg hf' hb hp cn.1 cn.2 (c.pa X E O)
          · have ⟨cc, f, hf', hi⟩ : ∃ cc f, T.glob[g]? = some (.cls cc) ∧ (T.cls[cc]?).bind (·.init) = some f := by
              unfold isMk at hf
              split at hf
              · rename_i cc q
                obtain ⟨f, hf⟩ := Option.isSome_iff_exists.mp hf
                exact ⟨cc, f, q, hf⟩
              · cases hf
            exact .val rfl (fun _ e => (nomatch e)) rfl fun X E O => okE_make O hg hf' hi hb hp c.ns c.len (c.pa X E O)
        | cons _ _ => cases h
      | _ => cases h
    | _ => cases h
  | .bi f es, fx, x, h => by
    cases x with
    | Call g xs ks p =>
      cases g with
      | Name y q =>
        cases ks with
        | nil =>
          simp only [chkX, Bool.and_eq_true, decide_eq_true_eq] at h
          obtain ⟨⟨⟨rfl, hb⟩, hne⟩, hc⟩ := h
          have c := okXs es fx xs hc
          cases xs with
          | nil => cases hne
          | cons z zs =>
            have cn := c.ns
            simp only [List.all_cons, Bool.and_eq_true, Bool.not_eq_true'] at cn
            exact .val rfl (fun _ e => (nomatch e)) rfl fun X E O => okE_bi O hb (c.pa X E O) cn.1 cn.2
        | cons _ _ => cases h
      | _ => cases h
    | _ => cases h
  | .mt m b o es, fx, x, h => by
    cases x with
    | Call g xs ks p =>
      cases g with
      | Attribute xo name ap =>
        cases ks with
        | nil =>
          simp only [chkX, Bool.and_eq_true, decide_eq_true_eq] at h
          obtain ⟨⟨⟨⟨⟨hnb, hba⟩, hl⟩, h30⟩, ho⟩, hc⟩ := h
          have co := okX o fx xo ho
          have c := okXs es fx xs hc
          by_cases hb : notNone b = true
          · rw [if_pos hb] at hnb
            have hnb := of_decide_eq_true hnb
            subst hnb
            cases xs with
            | nil =>
              have e0 : es = [] := List.eq_nil_of_length_eq_zero c.len
              subst e0
              exact .val rfl (fun _ e => (nomatch e)) rfl fun X E O => okE_mt0 O hb (co.pe X E O) (base_ok hba) hl
            | cons z zs => exact .val rfl (fun _ e => (nomatch e)) rfl fun X E O => okE_mt O hb (co.pe X E O) (c.pa X E O) (base_ok hba) c.ns h30 hl
          · rw [if_neg hb] at hnb
            have hn := of_decide_eq_true hnb
            have hbn : b = .none := by cases b <;> first | rfl | exact absurd rfl hb
            subst hbn
            exact .val rfl (fun _ e => (nomatch e)) rfl fun X E O => okE_meth O hn (co.pe X E O) (c.pa X E O) (base_ok hba) c.ns h30 hl c.len
        | cons _ _ => cases h
      | _ => cases h
    | _ => cases h
  | .lc e own t k its ifs, fx, x, h => by
    cases x with
    | ListComp elt gs sc p =>
      match gs, h with
      | [⟨tg, iter, xifs, 0⟩], h =>
        simp only [chkX, Bool.and_eq_true, decide_eq_true_eq] at h
        obtain ⟨⟨⟨⟨⟨⟨⟨hb, hown⟩, htg⟩, hns⟩, hit⟩, hl⟩, hifs⟩, he⟩ := h
        have ce := okX e (fxB fx sc) elt he
        have ci := okXs ifs (fxB fx sc) xifs hifs
        have cits : ∀ xs, chkXs T nm fx its xs = true → CEs G T nm call fx its xs := fun xs hx => okXs its fx xs hx
        refine .val rfl (fun _ e => (nomatch e)) rfl fun X E O => okE_lc O (okI_by hit cits O) hb (fun i hi => ?_) (fun X' O' => okG_tg O' htg) (fun X' O' => okTs_le ci hl O') (fun X' O' => ce.pe X' E0 O') hns
        have := List.all_eq_true.mp hown i hi
        simpa using this
    | _ => cases h
  | .lz es, fx, x, h => by
    cases x with
    | Call f xs ks p =>
      cases f with
      | Name y q =>
        match xs, ks, h with
        | [.Call (.Name y2 q2) zs [] p2], [], h =>
          simp only [chkX, Bool.and_eq_true, decide_eq_true_eq] at h
          obtain ⟨⟨⟨⟨⟨rfl, h2⟩, rfl⟩, h4⟩, h5⟩, h6⟩ := h
          have c := okXs es fx zs h6
          have cn := c.ns
          match zs, h5, c, cn with
          | [z1, z2], _, c, cn =>
            have cn' : isStar z1 = false ∧ isStar z2 = false := by simpa using cn
            exact .val rfl (fun _ e => (nomatch e)) rfl fun X E O => okE_lz O cn'.1 cn'.2 h2 h4 (c.pa X E O)
      | _ => cases h
    | _ => cases h
  | .lno m o, fx, x, h => by
    cases x with
    | Call f xs ks p =>
      cases f with
      | Name y q =>
        match xs, ks, h with
        | [xo], [], h =>
          simp only [chkX, Bool.and_eq_true, decide_eq_true_eq] at h
          obtain ⟨⟨⟨rfl, h2⟩, h3⟩, h4⟩ := h
          have co := okX o fx xo h4
          exact .val rfl (fun _ e => (nomatch e)) rfl fun X E O => okE_lno O h3 h2 co.ns co.ne (co.pe X E O)
      | _ => cases h
    | _ => cases h
  | .lc2 e own t k its ifs own1 t1 k1 its1 ifs1, fx, x, h => by
    cases x with
    | ListComp elt gs sc p =>
      match gs, h with
      | [⟨tg, iter, xifs, 0⟩, ⟨tg1, iter1, xifs1, 0⟩], h =>
        simp only [chkX, Bool.and_eq_true, decide_eq_true_eq] at h
        obtain ⟨⟨⟨⟨⟨⟨⟨⟨⟨⟨⟨⟨⟨⟨hb, hown⟩, hown1⟩, hsub⟩, htg⟩, htg1⟩, hns⟩, hns1⟩, hit⟩, hit1⟩, hl⟩, hl1⟩, hifs⟩, hifs1⟩, he⟩ := h
        have ce := okX e (fxB fx sc) elt he
        have ci := okXs ifs (fxB fx sc) xifs hifs
        have ci1 := okXs ifs1 (fxB fx sc) xifs1 hifs1
        have cits : ∀ xs, chkXs T nm fx its xs = true → CEs G T nm call fx its xs := fun xs hx => okXs its fx xs hx
        have cits1 : ∀ xs, chkXs T nm (fxB fx sc) its1 xs = true → CEs G T nm call (fxB fx sc) its1 xs := fun xs hx => okXs its1 (fxB fx sc) xs hx
        exact .val rfl (fun _ e => (nomatch e)) rfl fun X E O => okE_lc2 O (okI_by hit cits O) hb (fun i hi => by have := List.all_eq_true.mp hown i hi; simpa using this) (fun i hi => by have := List.all_eq_true.mp hown1 i hi; simpa using this) (fun i hi => by have := List.all_eq_true.mp hsub i hi; simpa using this)
          (fun X' O' => okG_tg O' htg) (fun X' O' => okTs_le ci hl O') (fun X' O' => okI_by hit1 cits1 O') (fun X' O' => okG_tg O' htg1) (fun X' O' => okTs_le ci1 hl1 O') (fun X' O' => ce.pe X' E0 O') hns hns1
    | _ => cases h
  | .star e, fx, x, h => by cases x <;> cases h
  | .nop, fx, x, h => by cases x <;> cases h
  | .att o f, fx, x, h => by
    cases x with
    | Attribute xo n p =>
      simp only [chkX, Bool.and_eq_true, decide_eq_true_eq] at h
      obtain ⟨⟨hn, hba⟩, ho⟩ := h
      have co := okX o fx xo ho
      exact .val rfl (fun _ e => (nomatch e)) rfl fun X E O => okE_att O hn (base_ok hba) (co.pe X E O)
    | _ => cases h
  | .callv i es, fx, x, h => by
    cases x with
    | Call f xs ks p =>
      cases f with
      | Name y q =>
        cases ks with
        | nil =>
          simp only [chkX, Bool.and_eq_true, decide_eq_true_eq] at h
          obtain ⟨⟨⟨⟨hn, hv⟩, hp⟩, hne⟩, hc⟩ := h
          have c := okXs es fx xs hc
          cases xs with
          | nil => cases hne
          | cons z zs =>
            have cn := c.ns
            simp only [List.all_cons, Bool.and_eq_true, Bool.not_eq_true'] at cn
            exact .val rfl (fun _ e => (nomatch e)) rfl fun X E O => okE_callv O hn hv hp cn.1 cn.2 (c.pa X E O)
        | cons _ _ => cases h
      | _ => cases h
    | _ => cases h
  | .dsp, fx, x, h => by
    cases x with
    | Dict ks vs p =>
      match ks, vs, h with
      | [], [], _ => exact .val rfl (fun _ e => (nomatch e)) rfl fun X E O => okE_dsp
    | _ => cases h
  | .calld g es j, fx, x, h => by
    cases x with
    | Call f xs ks p =>
      cases f with
      | Name y q =>
        cases ks with
        | nil =>
          simp only [chkX, Bool.and_eq_true, decide_eq_true_eq] at h
          obtain ⟨⟨⟨⟨hg, hb⟩, hp⟩, hf⟩, hc⟩ := h
          have c := okXs es fx xs hc
          unfold dflB at hf
          split at hf
          · rename_i f qd hf' hj
            obtain ⟨q1, ds⟩ := qd
            have e1 := of_decide_eq_true hf
            simp only at e1
            subst e1
            exact .val rfl (fun _ e => (nomatch e)) rfl fun X E O => okE_calld O hg hf' hj hb hp c.ns c.len (c.pa X E O)
          · rename_i cc qd hf' hj
            obtain ⟨q1, ds⟩ := qd
            have e1 := of_decide_eq_true hf
            exact .val rfl (fun _ e => (nomatch e)) rfl fun X E O => okE_maked O hg hf' e1 hj hb hp c.ns c.len (c.pa X E O)
          · cases hf
        | cons _ _ => cases h
      | _ => cases h
    | _ => cases h
  | .mtd m o es j, fx, x, h => by
    cases x with
    | Call g xs ks p =>
      cases g with
      | Attribute xo name ap =>
        cases ks with
        | nil =>
          simp only [chkX, Bool.and_eq_true, decide_eq_true_eq] at h
          obtain ⟨⟨⟨⟨⟨hn, hba⟩, hl⟩, h30⟩, ho⟩, hc⟩ := h
          have co := okX o fx xo ho
          have c := okXs es fx xs hc
          exact .val rfl (fun _ e => (nomatch e)) rfl fun X E O => okE_mtd O hn (co.pe X E O) (c.pa X E O) (base_ok hba) c.ns h30 hl c.len
        | cons _ _ => cases h
      | _ => cases h
    | _ => cases h
  | .oin neg m a b, fx, x, h => by
    cases x with
    | Compare x os ys p =>
      match os, ys, h with
      | [o], [y], h =>
        simp only [chkX, Bool.and_eq_true, decide_eq_true_eq] at h
        obtain ⟨⟨⟨⟨ho, hn⟩, hs⟩, ha⟩, hb⟩ := h
        subst ho
        have ca := okX a fx x ha
        have cb := okX b fx y hb
        exact { ns := rfl, ne := fun _ e => (nomatch e), pe := fun X E O => okE_oin O hn hs (ca.pe X E O) (cb.pe X E O), pt := fun X E O => okT_oin O hn hs (ca.pe X E O) (cb.pe X E O), pw := fun X E O hb => (nomatch hb) }
    | _ => cases h
  | .oeq a b, fx, x, h => by
    cases x with
    | Compare x os ys p =>
      match os, ys, h with
      | [o], [y], h =>
        simp only [chkX, Bool.and_eq_true, decide_eq_true_eq] at h
        obtain ⟨⟨⟨ho, hs⟩, ha⟩, hb⟩ := h
        subst ho
        have ca := okX a fx x ha
        have cb := okX b fx y hb
        exact { ns := rfl, ne := fun _ e => (nomatch e), pe := fun X E O => okE_oeq O hs (ca.pe X E O) (cb.pe X E O), pt := fun X E O => okT_oeq O hs (ca.pe X E O) (cb.pe X E O), pw := fun X E O hb => (nomatch hb) }
    | _ => cases h
  | .one a b, fx, x, h => by
    cases x with
    | Compare x os ys p =>
      match os, ys, h with
      | [o], [y], h =>
        simp only [chkX, Bool.and_eq_true, decide_eq_true_eq] at h
        obtain ⟨⟨⟨ho, hs⟩, ha⟩, hb⟩ := h
        subst ho
        have ca := okX a fx x ha
        have cb := okX b fx y hb
        exact { ns := rfl, ne := fun _ e => (nomatch e), pe := fun X E O => okE_one O hs (ca.pe X E O) (cb.pe X E O), pt := fun X E O => okT_one O hs (ca.pe X E O) (cb.pe X E O), pw := fun X E O hb => (nomatch hb) }
    | _ => cases h
  | .lck i e, fx, x, h => by
    cases x with
    | ListComp elt gs sc p =>
      simp only [chkX] at h
      have c := okX e fx (.ListComp elt gs sc p) h
      exact .val rfl (fun _ e => (nomatch e)) rfl fun X E O => okE_lck (c.pe X E O)
    | _ => cases h
  | .deq a b, fx, x, h => by
    cases x with
    | Compare x os ys p =>
      match os, ys, h with
      | [o], [y], h =>
        simp only [chkX, Bool.and_eq_true, decide_eq_true_eq] at h
        obtain ⟨⟨⟨ho, hs⟩, ha⟩, hb⟩ := h
        subst ho
        have ca := okX a fx x ha
        have cb := okX b fx y hb
        exact { ns := rfl, ne := fun _ e => (nomatch e), pe := fun X E O => okE_deq O hs (ca.pe X E O) (cb.pe X E O), pt := fun X E O => okT_deq O hs (ca.pe X E O) (cb.pe X E O), pw := fun X E O hb => (nomatch hb) }
    | _ => cases h
  | .lset e, fx, x, h => by
    cases x with
    | Call f xs ks p =>
      cases f with
      | Name y q =>
        match xs, ks, h with
        | [.Call (.Name y2 q2) [z] [] p2], [], h =>
          simp only [chkX, Bool.and_eq_true, decide_eq_true_eq] at h
          obtain ⟨⟨⟨⟨rfl, h2⟩, rfl⟩, h4⟩, h5⟩ := h
          have c := okX e fx z h5
          exact .val rfl (fun _ e => (nomatch e)) rfl fun X E O => okE_lset O c.ns h2 h4 (c.pe X E O)
      | _ => cases h
    | _ => cases h
  | .lit o, fx, x, h => by
    cases x with
    | Call f xs ks p =>
      cases f with
      | Name y q =>
        match xs, ks, h with
        | [.Call (.Attribute xo n ap) [] [] cp], [], h =>
          simp only [chkX, Bool.and_eq_true, decide_eq_true_eq] at h
          obtain ⟨⟨⟨⟨⟨rfl, h2⟩, rfl⟩, h4⟩, h5⟩, h6⟩ := h
          have c := okX o fx xo h6
          exact .val rfl (fun _ e => (nomatch e)) rfl fun X E O => okE_lit O h2 h4 h5 (c.pe X E O)
      | _ => cases h
    | _ => cases h
  | .tit o, fx, x, h => by
    cases x with
    | Call f xs ks p =>
      cases f with
      | Name y q =>
        match xs, ks, h with
        | [.Call (.Attribute xo n ap) [] [] cp], [], h =>
          simp only [chkX, Bool.and_eq_true, decide_eq_true_eq] at h
          obtain ⟨⟨⟨⟨⟨rfl, h2⟩, rfl⟩, h4⟩, h5⟩, h6⟩ := h
          have c := okX o fx xo h6
          exact .val rfl (fun _ e => (nomatch e)) rfl fun X E O => okE_tit O h2 h4 h5 (c.pe X E O)
      | _ => cases h
    | _ => cases h
  | .sit o, fx, x, h => by
    cases x with
    | Call f xs ks p =>
      cases f with
      | Name y q =>
        match xs, ks, h with
        | [.Call (.Attribute xo n ap) [] [] cp], [], h =>
          simp only [chkX, Bool.and_eq_true, decide_eq_true_eq] at h
          obtain ⟨⟨⟨⟨⟨rfl, h2⟩, rfl⟩, h4⟩, h5⟩, h6⟩ := h
          have c := okX o fx xo h6
          exact .val rfl (fun _ e => (nomatch e)) rfl fun X E O => okE_sit O h2 h4 h5 (c.pe X E O)
      | _ => cases h
    | _ => cases h
  | .clm o j, fx, x, h => by
    cases x with
    | Call g xs ks p =>
      cases g with
      | Attribute xo n ap =>
        match xs, ks, h with
        | [], [], h =>
          simp only [chkX, Bool.and_eq_true] at h
          obtain ⟨⟨⟨h1, h2⟩, h3⟩, h4⟩ := h
          have c := okX o fx xo h4
          split at h1
          · rename_i q hq
            obtain ⟨qc, qn, qf⟩ := q
            have e := of_decide_eq_true h1
            simp only at e
            subst e
            exact .val rfl (fun _ e => (nomatch e)) rfl fun X E O => okE_clm O hq h2 h3 (c.pe X E O)
          · cases h1
      | _ => cases h
    | _ => cases h
  | .callk i es, fx, x, h => by
    cases x with
    | Call f xs ks p =>
      cases f with
      | Name y q =>
        cases ks with
        | nil =>
          simp only [chkX, Bool.and_eq_true, decide_eq_true_eq] at h
          obtain ⟨⟨⟨⟨hn, hv⟩, hp⟩, hne⟩, hc⟩ := h
          have c := okXs es fx xs hc
          cases xs with
          | nil => cases hne
          | cons z zs =>
            have cn := c.ns
            simp only [List.all_cons, Bool.and_eq_true, Bool.not_eq_true'] at cn
            exact .val rfl (fun _ e => (nomatch e)) rfl fun X E O => okE_callk O hn hv hp cn.1 cn.2 (c.pa X E O)
        | cons _ _ => cases h
      | _ => cases h
    | _ => cases h
  | .repl o y z, fx, x, h => by cases x <;> cases h
  | .never, fx, x, h => by cases x <;> cases h
theorem okXs : ∀ (es : List Ex) (fx : Fx) (xs : List Expr), chkXs T nm fx es xs = true → CEs G T nm call fx es xs
  | [], fx, xs, h => by
    cases xs with
    | nil => exact { len := rfl, ns := rfl, ne := fun _ h => (by simp at h), pa := fun X E O => okA_nil, one := fun e x q => (nomatch q) }
    | cons _ _ => cases h
  | e :: es, fx, xs, h => by
    cases xs with
    | nil => cases h
    | cons x xs =>
      simp only [chkXs, Bool.and_eq_true] at h
      have c := okX e fx x h.1
      have cs := okXs es fx xs h.2
      refine { len := by simp [cs.len], ns := by simp [c.ns, cs.ns], ne := fun e' h' => ?_, pa := fun X E O => okA_cons c.ns c.ne (c.pe X E O) (cs.pa X E O), one := fun e' x' q1 q2 => ?_ }
      · rcases List.mem_cons.mp h' with rfl | h'
        · exact c.ne
        · exact cs.ne e' h'
      · cases q1
        cases q2
        exact c
theorem okDs : ∀ (es : List Ex) (fx : Fx) (xs : List Expr), chkDs T nm fx es xs = true → ∀ X E, XOk G T nm call fx X E → PA X xs (tA G E (evEs T call es))
  | [], fx, xs, h, X, E, O => by
    cases xs with
    | nil => exact okA_nil
    | cons _ _ => cases h
  | e :: es, fx, xs, h, X, E, O => by
    cases xs with
    | nil => cases e <;> cases h
    | cons x xs =>
      by_cases hs : ∃ y, e = .star y
      · obtain ⟨y, rfl⟩ := hs
        cases x with
        | Starred x p =>
          simp only [chkDs, Bool.and_eq_true] at h
          have c := okX y fx x h.1
          exact okA_star O (c.pe X E O) (okDs es fx xs h.2 X E O)
        | _ =>
          simp only [chkDs, Bool.and_eq_true] at h
          exact absurd h.1 (by simp [chkX])
      · have h' : chkX T nm fx e x = true ∧ chkDs T nm fx es xs = true := by
          cases e with
          | star y => exact absurd ⟨y, rfl⟩ hs
          | _ => cases x <;> simpa only [chkDs, Bool.and_eq_true] using h
        have c := okX e fx x h'.1
        exact okA_cons c.ns c.ne (c.pe X E O) (okDs es fx xs h'.2 X E O)
end
end
end Mn
set_option Elab.async false
set_option linter.all false
set_option maxRecDepth 100000
set_option maxHeartbeats 4000000
namespace Mn
open PySem PySem.Spec L2 PyProof.Rows
def tDel2 (to ti : TE) : TS := fun D σ H => to σ H fun x H1 => ti σ H1 fun y H2 => (∃ (l : Addr) (xs : List V) (i : Int) (k : Nat), x = .ref l ∧ y = .int i ∧ H2 l = some (.lst xs) ∧ -(2 ^ 63) ≤ i ∧ i < 2 ^ 63 ∧ PySem.seqIndex? i xs.length = some k ∧ D.nx σ (upd H2 l (.lst (xs.eraseIdx k)))) ∨
  ∃ a kvs k, x = .ref a ∧ H2 a = some (.dK kvs) ∧ y = kV k ∧ (valV kvs k).isSome = true ∧ D.nx σ (upd H2 a (.dK (dropK kvs k)))
theorem ps_del2 {X : Cx} {o i : Expr} {to ti : TE} {tpos pos : Pos} (ho : PE X o to) (hi : PE X i ti) : PS X (.Delete [.Subscript o i tpos] pos) (tDel2 to ti) := by
  refine ⟨fun pins s σ H D I h => ?_⟩
  refine wpAny_Delete (wpAny_deleteEach_cons (wpAny_delete_Subscript (thn (ho.run pins s σ H _ I h) fun u s1 ⟨x, H1, I1, rx, q1⟩ => thn (hi.run pins s1 σ H1 _ I1 q1) fun iv s2 ⟨y, H2, I2, ry, q2⟩ => ?_)))
  rcases q2 with ⟨l, xs, j, k, rfl, rfl, e, h1, h2, hk, q⟩ | ⟨a, kvs, k, rfl, e, rfl, hv, q⟩
  · cases (show u = Value.ref l from rx)
    obtain ⟨t, rfl⟩ := (show ∃ t, iv = Value.int j t from ry)
    exact del_list I2 e h1 h2 hk fun s3 I3 => wpAny_deleteEach_nil ⟨σ, _, I3, q⟩
  · cases (show u = Value.ref a from rx)
    exact d_delItem I2 e ry hv fun s3 I3 => wpAny_deleteEach_nil ⟨σ, _, I3, q⟩
section
variable {G : Gm} {T : Tb} {nm : Nm} {call : Nat → List PV → PH → Res PV} {fx : Fx} {X : Cx} {E : XK} {W : Nat}
theorem okS_del {o i : Ex} {xo xi : Expr} {p p2 : Pos} (ho : PE X xo (tE G E (evE T call o))) (hi : PE X xi (tE G E (evE T call i))) : PS X (.Delete [.Subscript xo xi p2] p) (tS G E (exS T call W (.del o i))) := by
  refine (ps_del2 ho hi).imp fun D σ H ⟨as, ρ, h, S, R, q⟩ => ?_
  simp only [exS] at q
  refine ⟨as, ρ, h, S, R, Ok.bind q fun v h1 as1 H1 v' f1 r1 q1 => ⟨as1, ρ, h1, f1.sr, R.fut f1, Ok.bind q1 fun w h2 as2 H2 w' f2 r2 q2 => ?_⟩⟩
  split at q2
  · rename_i h3 q3
    have S2 := f2.sr
    have rv := r1.fut f2
    cases v with
    | ref l =>
      obtain ⟨a, ea, rfl⟩ := rv.refE
      simp only [pDel] at q3
      split at q3
      · rename_i xs qq
        split at q3
        · rename_i j
          split at q3
          · rename_i k qk
            split at q3
            · rename_i hb
              cases q3
              simp only [Bool.and_eq_true, decide_eq_true_eq] at hb
              obtain ⟨vs, e1, rl⟩ := S2.lstM qq ea
              have f := S2.setL ea e1 (rl.eraseIdx k)
              exact .inl ⟨a, vs, j, k, rfl, r2.intE, e1, hb.1, hb.2, by rw [← rl.length]; exact qk, q2 _ _ (.nx σ) f (((R.fut f1).fut f2).fut f)⟩
            · cases q3
          · cases q3
        · cases q3
      · rename_i kvs qq
        split at q3
        · rename_i k qk
          split at q3
          · rename_i hs
            cases q3
            obtain ⟨ks, ed, rk⟩ := S2.dic qq ea
            obtain ⟨z, ez⟩ := Option.isSome_iff_exists.mp hs
            obtain ⟨z', ez', _⟩ := (dLook_ok k rk).1 z ez
            have f := S2.setD ea ed (dDrop_ok (k := k) rk)
            exact .inr ⟨a, ks, k, rfl, ed, keyOf_ok qk r2, by rw [ez']; rfl, q2 _ _ (.nx σ) f (((R.fut f1).fut f2).fut f)⟩
          · cases q3
        · cases q3
      · cases q3
    | _ => simp [pDel] at q3
  · exact False.elim q2
end
end Mn
set_option Elab.async false
set_option linter.all false
set_option maxRecDepth 100000
set_option maxHeartbeats 8000000
namespace Mn
open PySem PySem.Spec L2 PyProof.Rows
def isName : Expr → Bool
  | .Name .. => true
  | _ => false
section
variable (T : Tb) (nm : Nm)
def nmB (fx : Fx) (tg x : Expr) (l : Nat) : Bool := match tg, x with
  | .Name y py, .ListComp _ [_] sc pos => locB fx.names y && lcLine y py pos sc l
  | _, x => !isComp x
def tpB (fx : Fx) (is : List Nat) (ts : List Expr) (e : Ex) (x : Expr) : Bool := match is, ts, e, x with
  | [i, j], [.Name y py, .Name z pz], .tup es, .Tuple [a, b] _ _ => decide (fx.N[i]? = some y) && decide (fx.N[j]? = some z) && par2B fx.names y z py pz a b && chkXs T nm fx es [a, b]
  | [i, j, l], [.Name y py, .Name z pz, .Name u pu], .tup es, .Tuple [a, b, c] _ _ => decide (fx.N[i]? = some y) && decide (fx.N[j]? = some z) && decide (fx.N[l]? = some u) && par3B fx.names y z u py pz pu a b c && chkXs T nm fx es [a, b, c]
  | _, _, _, _ => false
def notLck : Ex → Bool
  | .lck _ _ => false
  | _ => true
def augB : Bop → Bool
  | .add => true
  | .sub => true
  | _ => false
def augM : Bop → Bool
  | .add => true
  | .sub => true
  | .mul => true
  | _ => false
mutual
def chkS (fx : Fx) : Sm → Stmt → Bool
  | .pass, .Pass _ => true
  | .slck _ _ s, x => chkS fx s x
  | .brk, .Break _ => true
  | .cnt, .Continue _ => true
  | .retn, .Return none _ => true
  | .never, _ => true
  | .ret e, .Return (some x) _ => chkX T nm fx e x
  | .ex e, .Expr x _ => !isComp x && chkX T nm fx e x
  | .ite c a b, .If z xa xb _ => chkX T nm fx c z && chkSs fx a xa && chkSs fx b xb
  | .wh c b, .While z xb [] _ => chkX T nm fx c z && chkSs fx b xb
  | .for_ t k its b, .For tg iter xb [] _ => chkTg fx t tg && noSet iter && itB fx.names k tg iter its.length (fun xs => chkXs T nm fx its xs) && chkSs fx b xb
  | .asg (.nm i) e, .Assign [tg] x p => chkNm fx i tg && nmB fx tg x p.line && (chkX T nm fx e x && notLck e)
  | .asg (.tp is) e, .Assign [.Tuple ts _ _] x _ => (swNo fx.names ts x && chkNms fx is ts && chkX T nm fx e x) || tpB T nm fx is ts e x
  | .asg (.ix o i) e, .Assign [.Subscript xo xi _] x _ => !isSlice xi && chkX T nm fx o xo && chkX T nm fx i xi && chkX T nm fx e x
  | .asg (.sl o lo hi) e, .Assign [.Subscript xo (.Slice l u none _) _] x _ => chkX T nm fx o xo && (match l with
      | none => isNop lo
      | some z => !isNop lo && chkX T nm fx lo z) && (match u with
      | none => isNop hi
      | some z => !isNop hi && chkX T nm fx hi z) && chkX T nm fx e x
  | .del o i, .Delete [.Subscript xo xi _] _ => !isSlice xi && chkX T nm fx o xo && chkX T nm fx i xi
  | .asg (.att o f) e, .Assign [.Attribute xo n _] x _ => decide (nm.an[f]? = some n) && chkX T nm fx o xo && chkX T nm fx e x
  | .aug (.att o f) op e, .AugAssign (.Attribute xo n _) ol x _ => augB op && opB op ol && decide (nm.an[f]? = some n) && chkX T nm fx o xo && chkX T nm fx e x
  | .aug (.nm i) op e, .AugAssign tg o x _ => augM op && opB op o && isName tg && chkNm fx i tg && chkX T nm fx e x
  | _, _ => false
def chkSs (fx : Fx) : List Sm → List Stmt → Bool
  | [], [] => true
  | s :: r, x :: xs => chkS fx s x && chkSs fx r xs
  | _, _ => false
end
end
section
variable {G : Gm} {T : Tb} {nm : Nm} {call : Nat → List PV → PH → Res PV} {W : Nat}
theorem okS_ret' {fx : Fx} {X : Cx} {E : XK} (O : XOk G T nm call fx X E) (po : PassesOwn (model X.prog X.w) X.A X.env X.xe) {t : Tg} {k : Ik} {its : List Ex} : True := trivial
mutual
theorem okS : ∀ (s : Sm) (fx : Fx) (x : Stmt), chkS T nm fx s x = true → ∀ X E, XOk G T nm call fx X E → PassesOwn (model X.prog X.w) X.A X.env X.xe → PS X x (tS G E (exS T call W s))
  | .pass, fx, x, h, X, E, O, po => by
    cases x with
    | Pass p => exact okS_pass
    | _ => cases h
  | .brk, fx, x, h, X, E, O, po => by
    cases x with
    | Break p => exact okS_brk
    | _ => cases h
  | .cnt, fx, x, h, X, E, O, po => by
    cases x with
    | Continue p => exact okS_cnt
    | _ => cases h
  | .retn, fx, x, h, X, E, O, po => by
    cases x with
    | Return o p =>
      cases o with
      | none => exact okS_retn
      | some _ => cases h
    | _ => cases h
  | .never, fx, x, h, X, E, O, po => okS_never
  | .ret e, fx, x, h, X, E, O, po => by
    cases x with
    | Return o p =>
      cases o with
      | none => cases h
      | some x => exact okS_ret ((okX e fx x h).pe X E O)
    | _ => cases h
  | .ex e, fx, x, h, X, E, O, po => by
    cases x with
    | Expr x p =>
      simp only [chkS, Bool.and_eq_true, Bool.not_eq_true'] at h
      exact okS_ex h.1 ((okX e fx x h.2).pe X E O)
    | _ => cases h
  | .ite c a b, fx, x, h, X, E, O, po => by
    cases x with
    | If z xa xb p =>
      simp only [chkS, Bool.and_eq_true] at h
      exact okS_ite ((okX c fx z h.1.1).pt X E O) (okSs a fx xa h.1.2 X E O po) (okSs b fx xb h.2 X E O po)
    | _ => cases h
  | .wh c b, fx, x, h, X, E, O, po => by
    cases x with
    | While z xb xo p =>
      cases xo with
      | nil =>
        simp only [chkS, Bool.and_eq_true] at h
        exact okS_wh po ((okX c fx z h.1).pt X E O) (okSs b fx xb h.2 X E O po)
      | cons _ _ => cases h
    | _ => cases h
  | .for_ t k its b, fx, x, h, X, E, O, po => by
    cases x with
    | For tg iter xb xo p =>
      cases xo with
      | nil =>
        simp only [chkS, Bool.and_eq_true] at h
        obtain ⟨⟨⟨ht, hs⟩, hi⟩, hb⟩ := h
        have cits : ∀ xs, chkXs T nm fx its xs = true → CEs G T nm call fx its xs := fun xs hx => okXs its fx xs hx
        exact okS_for O po (okI_by hi cits O) (okG_tg O ht) (okSs b fx xb hb X E O po) hs
      | cons _ _ => cases h
    | _ => cases h
  | .asg (.nm i) e, fx, x, h, X, E, O, po => by
    cases x with
    | Assign ts x p =>
      match ts, h with
      | [tg], h =>
        simp only [chkS, Bool.and_eq_true] at h
        obtain ⟨⟨ht, hn⟩, he, hk⟩ := h
        cases hc : isComp x with
        | false => exact okS_nm O ht hc ((okX e fx x he).pe X E O)
        | true =>
          cases tg with
          | Name y py =>
            cases x with
            | ListComp elt gs sc pos =>
              match gs, hn, he with
              | [], hn, he => simp [nmB, isComp] at hn
              | _ :: _ :: _, hn, he => simp [nmB, isComp] at hn
              | [g1], hn, he =>
              simp only [nmB, Bool.and_eq_true] at hn
              simp only [chkNm, Bool.and_eq_true, decide_eq_true_eq] at ht
              cases e with
              | lc e own t k its ifs =>
                match g1, he with
                | ⟨tg, iter, xifs, 0⟩, he =>
                  simp only [chkX, Bool.and_eq_true, decide_eq_true_eq] at he
                  obtain ⟨⟨⟨⟨⟨⟨⟨hb, hown⟩, htg⟩, hns⟩, hit⟩, hl⟩, hifs⟩, he⟩ := he
                  have ce : CE G T nm call (fxB fx sc) e elt := okX e (fxB fx sc) elt he
                  have ci : CEs G T nm call (fxB fx sc) ifs xifs := okXs ifs (fxB fx sc) xifs hifs
                  have cits : ∀ xs, chkXs T nm fx its xs = true → CEs G T nm call fx its xs := fun xs hx => okXs its fx xs hx
                  refine okS_nmLc O ht.1 (locB_ok hn.1) hn.2 (okI_by hit cits O) hb (fun i hi => ?_) (fun X' O' => okG_tg O' htg) (fun X' O' => okTs_le ci hl O') (fun X' O' => ce.pe X' E0 O') hns
                  have := List.all_eq_true.mp hown i hi
                  simpa using this
              | lc2 e' own' t' k' its' ifs' o1 t1 k1 i1 f1 => exact absurd he (by obtain ⟨tg, iter, xifs, n⟩ := g1; cases n <;> simp [chkX])
              | lck _ _ => cases hk
              | _ => cases he
            | SetComp _ _ _ _ => simp [nmB, isComp] at hn
            | DictComp _ _ _ _ _ => simp [nmB, isComp] at hn
            | _ => cases hc
          | _ => cases ht
    | _ => cases h
  | .asg (.tp is) e, fx, x, h, X, E, O, po => by
    cases x with
    | Assign ts x p =>
      match ts, h with
      | [.Tuple ts k p2], h =>
        simp only [chkS, Bool.or_eq_true, Bool.and_eq_true] at h
        rcases h with ⟨⟨h1, h2⟩, h3⟩ | h
        · exact okS_tp O h1 h2 ((okX e fx x h3).pe X E O)
        · unfold tpB at h
          split at h
          · rename_i i j y py z pz es a b k2 p3 hh
            simp only [Bool.and_eq_true, decide_eq_true_eq] at h
            obtain ⟨⟨⟨h1, h2⟩, h3⟩, h4⟩ := h
            exact okS_par2 O h1 h2 h3 ((okXs es fx [a, b] h4).pa X E O)
          · rename_i i j l y py z pz u pu es a b c k2 p3 hh
            simp only [Bool.and_eq_true, decide_eq_true_eq] at h
            obtain ⟨⟨⟨⟨h1, h2⟩, h3⟩, h4⟩, h5⟩ := h
            exact okS_par3 O h1 h2 h3 h4 ((okXs es fx [a, b, c] h5).pa X E O)
          · cases h
    | _ => cases h
  | .asg (.ix o i) e, fx, x, h, X, E, O, po => by
    cases x with
    | Assign ts x p =>
      match ts, h with
      | [.Subscript xo xi p2], h =>
        simp only [chkS, Bool.and_eq_true, Bool.not_eq_true'] at h
        obtain ⟨⟨⟨h1, h2⟩, h3⟩, h4⟩ := h
        exact okS_ix O h1 ((okX e fx x h4).pe X E O) ((okX o fx xo h2).pe X E O) ((okX i fx xi h3).pe X E O)
    | _ => cases h
  | .asg (.sl o lo hi) e, fx, x, h, X, E, O, po => by
    cases x with
    | Assign ts x p =>
      match ts, h with
      | [.Subscript xo (.Slice l u none p3) p2], h =>
        simp only [chkS, Bool.and_eq_true] at h
        obtain ⟨⟨⟨ho, hlo⟩, hhi⟩, he⟩ := h
        have kl : L2.PO X l (tO G E fun ρ h => partR lo (evE T call lo ρ h) h) := by
          cases l with
          | none =>
            have hn : lo = .nop := by
              revert hlo
              cases lo <;> intro this <;> first | rfl | cases this
            subst hn
            exact okP_none
          | some z =>
            have h1 : isNop lo = false ∧ chkX T nm fx lo z = true := by simpa using hlo
            exact okP_some h1.1 ((okX lo fx z h1.2).pe X E O)
        have ku : L2.PO X u (tO G E fun ρ h => partR hi (evE T call hi ρ h) h) := by
          cases u with
          | none =>
            have hn : hi = .nop := by
              revert hhi
              cases hi <;> intro this <;> first | rfl | cases this
            subst hn
            exact okP_none
          | some z =>
            have h1 : isNop hi = false ∧ chkX T nm fx hi z = true := by simpa using hhi
            exact okP_some h1.1 ((okX hi fx z h1.2).pe X E O)
        exact okS_sl O ((okX e fx x he).pe X E O) ((okX o fx xo ho).pe X E O) kl ku
    | _ => cases h
  | .asg (.att o f) e, fx, x, h, X, E, O, po => by
    cases x with
    | Assign ts v p =>
      match ts, h with
      | [.Attribute xo n p2], h =>
        simp only [chkS, Bool.and_eq_true, decide_eq_true_eq] at h
        obtain ⟨⟨hn, ho⟩, he⟩ := h
        exact okS_fld O hn ((okX e fx v he).pe X E O) ((okX o fx xo ho).pe X E O)
    | _ => cases h
  | .aug (.nm i) op e, fx, x, h, X, E, O, po => by
    cases x with
    | AugAssign tg o x p =>
      simp only [chkS, Bool.and_eq_true] at h
      obtain ⟨⟨⟨⟨h1, h2⟩, h3⟩, h4⟩, h5⟩ := h
      obtain rfl := opB_ok h2
      cases tg with
      | Name y q => exact okS_aug O (by cases op <;> first | exact .inl rfl | exact .inr (.inl rfl) | exact .inr (.inr rfl) | cases h1) h4 ((okX e fx x h5).pe X E O)
      | _ => cases h3
    | _ => cases h
  | .aug (.tp _) op e, fx, x, h, X, E, O, po => by cases x <;> cases h
  | .aug (.att o f) op e, fx, x, h, X, E, O, po => by
    cases x with
    | AugAssign tg ol v p =>
      cases tg with
      | Attribute xo n p2 =>
        simp only [chkS, Bool.and_eq_true, decide_eq_true_eq] at h
        obtain ⟨⟨⟨⟨h1, h2⟩, hn⟩, ho⟩, he⟩ := h
        rw [opB_ok h2]
        exact okS_fldaug O (by cases op <;> first | exact .inl rfl | exact .inr rfl | cases h1) hn ((okX e fx v he).pe X E O) ((okX o fx xo ho).pe X E O)
      | _ => cases h
    | _ => cases h
  | .aug (.ix _ _) op e, fx, x, h, X, E, O, po => by cases x <;> cases h
  | .aug (.sl _ _ _) op e, fx, x, h, X, E, O, po => by cases x <;> cases h
  | .raise _ _, fx, x, h, X, E, O, po => by cases x <;> cases h
  | .slck i f s, fx, x, h, X, E, O, po => by
    have h' : chkS T nm fx s x = true := by cases x <;> exact h
    exact okS_slck (okS s fx x h' X E O po)
  | .del o i, fx, x, h, X, E, O, po => by
    cases x with
    | Delete ts p =>
      match ts, h with
      | [.Subscript xo xi p2], h =>
        simp only [chkS, Bool.and_eq_true, Bool.not_eq_true'] at h
        obtain ⟨⟨h1, h2⟩, h3⟩ := h
        exact okS_del ((okX o fx xo h2).pe X E O) ((okX i fx xi h3).pe X E O)
    | _ => cases h
theorem okSs : ∀ (ss : List Sm) (fx : Fx) (xs : List Stmt), chkSs T nm fx ss xs = true → ∀ X E, XOk G T nm call fx X E → PassesOwn (model X.prog X.w) X.A X.env X.xe → PSs X xs (tS G E (exSs T call W ss))
  | [], fx, xs, h, X, E, O, po => by
    cases xs with
    | nil => exact okSs_nil
    | cons _ _ => cases h
  | s :: r, fx, xs, h, X, E, O, po => by
    cases xs with
    | nil => cases h
    | cons x xs =>
      simp only [chkSs, Bool.and_eq_true] at h
      exact okSs_cons (okS s fx x h.1 X E O po) (okSs r fx xs h.2 X E O po)
end
end
end Mn
set_option Elab.async false
set_option linter.all false
set_option maxRecDepth 100000
set_option maxHeartbeats 8000000
namespace Mn
open PySem PySem.Spec L2 PyProof.Rows CwR
section
variable (T : Tb) (nm : Nm)
mutual
def chkET (fx : Fx) : Ex → Expr → Bool
  | .repl o y z, .Call (.Attribute xo name ap) [.Constant (.str c) _ _, .Constant (.str d) _ _] [] pos => decide (name = "replace") && decide (y = c.cps.toList) && decide (z = d.cps.toList) && !(c == d) && baseB xo && (ap.endLine == pos.line) && chkET fx o xo
  | .lst es, .List xs _ => chkXs T nm fx es xs || chkAT fx es xs
  | .and a b, .BoolOp .And [x, y] p => chkX T nm fx (.and a b) (.BoolOp .And [x, y] p) || (chkX T nm fx a x && chkET fx b y)
  | .call g [e], .Call (.Name x p) [y] [] pos => chkX T nm fx (.call g [e]) (.Call (.Name x p) [y] [] pos) || (decide (nm.gn[g]? = some x) && glB fx.names x && plainName x && isFn T.glob[g]? && chkET fx e y)
  | e, x => chkX T nm fx e x
def chkAT (fx : Fx) : List Ex → List Expr → Bool
  | [], [] => true
  | e :: es, x :: xs => chkET fx e x && chkAT fx es xs
  | _, _ => false
end
mutual
def chkST (fx : Fx) : Sm → Stmt → Bool
  | .asg (.nm i) e, .Assign [tg] x p => chkS T nm fx (.asg (.nm i) e) (.Assign [tg] x p) || (chkNm fx i tg && !isComp x && chkET T nm fx e x)
  | .ret e, .Return (some x) _ => chkET T nm fx e x
  | .ite c a b, .If z xa xb _ => chkX T nm fx c z && chkSTs fx a xa && chkSTs fx b xb
  | s, x => chkS T nm fx s x
def chkSTs (fx : Fx) : List Sm → List Stmt → Bool
  | [], [] => true
  | s :: r, x :: xs => chkST fx s x && chkSTs fx r xs
  | _, _ => false
end
end
section
variable {G : Gm} {T : Tb} {nm : Nm} {call : Nat → List PV → PH → Res PV} {W : Nat} {X : Cx} {E : XK}
theorem PET.imp {x : Expr} {t t' : TE} (p : PET X x t) (h : ∀ σ H Q, t' σ H Q → t σ H Q) : PET X x t' := fun pins s σ H Q h0 I q => p pins s σ H Q h0 I (h σ H Q q)
theorem PAT.imp {x : List Expr} {t t' : TA} (p : PAT X x t) (h : ∀ σ H Q, t' σ H Q → t σ H Q) : PAT X x t' := fun pos pins s σ H Q h0 I q => p pos pins s σ H Q h0 I (h σ H Q q)
theorem PST.imp {x : Stmt} {t t' : TS} (p : PST X x t) (h : ∀ D σ H, t' D σ H → t D σ H) : PST X x t' := fun pins s σ H D h0 I q => p pins s σ H D h0 I (h D σ H q)
theorem PSsT.imp {x : List Stmt} {t t' : TS} (p : PSsT X x t) (h : ∀ D σ H, t' D σ H → t D σ H) : PSsT X x t' := fun pins s σ H D h0 I q => p pins s σ H D h0 I (h D σ H q)
structure CT (G : Gm) (T : Tb) (nm : Nm) (call : Nat → List PV → PH → Res PV) (fx : Fx) (e : Ex) (x : Expr) : Prop where
  ns : isStar x = false
  ne : ∀ y, e ≠ .star y
  pe : ∀ X E, XOk G T nm call fx X E → PET X x (tE G E (evE T call e))
theorem CE.ct {fx : Fx} {e : Ex} {x : Expr} (c : CE G T nm call fx e x) : CT G T nm call fx e x := ⟨c.ns, c.ne, fun X E O => PET.of (c.pe X E O)⟩
theorem okET_lst {es : List Ex} {xs : List Expr} {p : Pos} (h : PAT X xs (tA G E (evEs T call es))) : PET X (.List xs p) (tE G E (evE T call (.lst es))) := by
  refine PET.imp (pet_lst h) fun σ H Q ⟨as, ρ, h, S, R, o⟩ => ?_
  simp only [evE] at o
  refine ⟨as, ρ, h, S, R, Ok.bind o fun vs h1 as1 H1 vs' f1 r1 o1 => ?_⟩
  split at o1
  · rename_i hl
    refine ⟨by rw [← r1.length]; exact hl, fun p hp => ?_⟩
    obtain ⟨f, r⟩ := f1.sr.newL hp r1
    exact okn o1 f r
  · exact False.elim o1
theorem okET_repl {o : Ex} {xo : Expr} {y z : List Nat} {c d : Str} {j k : Nat} {c0 c1 ap pos : Pos} (ho : PET X xo (tE G E (evE T call o))) (hy : y = c.cps.toList) (hz : z = d.cps.toList) (hne : (c == d) = false) (hb : baseB xo = true) (hl : (ap.endLine == pos.line) = true) :
    PET X (.Call (.Attribute xo "replace" ap) [.Constant (.str c) j c0, .Constant (.str d) k c1] [] pos) (tE G E (evE T call (.repl o y z))) := by
  refine PET.imp (pet_replT ho hne rfl (base_ok hb) hl) fun σ H Q ⟨as, ρ, h, S, R, q⟩ => ?_
  simp only [evE] at q
  refine ⟨as, ρ, h, S, R, Ok.bind q fun v h1 as1 H1 v' f1 r1 q1 => ?_⟩
  cases v with
  | str x =>
    dsimp only at q1
    split at q1
    · rename_i hq
      simp only [Bool.and_eq_true, decide_eq_true_eq] at hq
      obtain rfl := r1.strE
      have ec : (⟨y.toArray⟩ : Str) = c := by rw [hy]
      have ed : (⟨z.toArray⟩ : Str) = d := by rw [hz]
      rw [ec, ed] at q1
      refine ⟨_, rfl, ?_, okv f1.sr q1 (.strO _)⟩
      rw [str_len, ← ed, str_len]
      exact hq.1
    · exact False.elim q1
  | _ => exact False.elim q1
theorem pet_call {CX : CXT} {k : Nat} {f : Addr} {fd : FuncData} {ps : List Str} {sp : Sp} {dvs : List V} {ds : List Value} {E : XK} {x : Str} {p pos : Pos} {e : Expr} {es : List Expr} {t : TA}
    (F : FnOk X.prog X.w X.K X.mg X.base CX k f fd ps sp) (hr : Room k X.A) (hg : Gl X x) (hm : X.mg x = some (.ref f)) (hk : PySem.W.keepIn X.K (.ref f) = true) (hb : Binds X.K fd ps ds) (hd : Vals dvs ds) (hx : Passes CX X E) (ha : PAT X (e :: es) t)
    (hdb : (x == Str.ofString "__debug__") = false) (he : starEach (e :: es) X.env = (false, eval e X.env) :: starEach es X.env) (hpl : ((backTo pos (starEach es X.env)).any fun x => x.fst) = false) :
    PET X (.Call (.Name x p) (e :: es) [] pos) (tCall sp dvs E t) := fun pins s σ H Q h0 I h =>
  wpAny_Call_Name_kw (ld_glob I hg hm (PySem.W.callWith_K I.ok.mod.kin hk (thn (ha pos pins s σ H (fun vs H1 => sp (vs ++ dvs) H1 Q E) h0 I h) fun us s1 ⟨vs, H1, I1, r, q⟩ => ⟨Inv.kIn I1, run_fn F hr hb hd hx I1 r q⟩) he hpl) hdb)
theorem pet_one {o : PySem.BoolOp} {b : Expr} {t : TE} {p : Pos} (h : PET X b t) : PET X (.BoolOp o [b] p) t := fun pins s σ H Q h0 I q => PyProof.Rows.BoolOp_one (h pins s σ H Q h0 I q)
theorem pet_andT {a b : Expr} {ta tb : TE} {rest : List Expr} {pos : Pos} (ha : PE X a ta) (hb : PET X (.BoolOp .And (b :: rest) pos) tb) : PET X (.BoolOp .And (a :: b :: rest) pos) (tAndT X.K ta tb) := fun pins s σ H Q h0 I h =>
  PyProof.Rows.BoolOp_and (wpAny_mono (wpAny_toks_of h0 (ha.run pins s σ H (fun x H1 => ∃ k, TruV X.K x H1 k ∧ if k = true then tb σ H1 Q else Q x H1) I h)) (fun v s1 ⟨ht, x, H1, I1, r1, k, e, q1⟩ =>
    wpAny_mono (wpAny_toks_of ht (tru_ok pins s1 σ H1 x v (fun c H2 => c = k ∧ H2 = H1) I1 r1 ⟨k, e, rfl, rfl⟩)) (fun c s2 ⟨ht2, H2, I2, e1, e2⟩ => by
      subst e1
      subst e2
      cases c with
      | false => exact ⟨x, _, I2, r1, q1⟩
      | true => exact hb pins s2 σ _ Q ht2 I2 q1) fun _ _ z => z.2) fun _ _ z => z.2)
theorem okET_and (O : XOk G T nm call fx X E) {a b : Ex} {x y : Expr} {p : Pos} (ha : PE X x (tE G E (evE T call a))) (hb : PET X y (tE G E (evE T call b))) : PET X (.BoolOp .And [x, y] p) (tE G E (evE T call (.and a b))) := by
  refine PET.imp (pet_andT ha (pet_one hb)) fun σ H Q ⟨as, ρ, h, S, R, o⟩ => ?_
  simp only [evE] at o
  refine ⟨as, ρ, h, S, R, Ok.bind o fun v h1 as1 H1 v' f1 r1 o1 => ?_⟩
  split at o1
  · rename_i q
    exact ⟨true, tru_p O.K f1.sr q r1, ⟨as1, ρ, h1, f1.sr, R.fut f1, o1⟩⟩
  · rename_i q
    exact ⟨false, tru_p O.K f1.sr q r1, okv f1.sr o1 r1⟩
  · exact False.elim o1
theorem okET_call (O : XOk G T nm call fx X E) {g f : Nat} {e : Ex} {x : Str} {y : Expr} {p pos : Pos} (hg : nm.gn[g]? = some x) (hf : T.glob[g]? = some (.fn f)) (hb : glB fx.names x = true) (hp : plainName x = true)
    (hx : isStar y = false) (hs : ∀ z, e ≠ .star z) (ha : PET X y (tE G E (evE T call e))) : PET X (.Call (.Name x p) [y] [] pos) (tE G E (evE T call (.call g [e]))) := by
  obtain ⟨k, fd, ps, F, hr, hk, hbd, hm, ar, _⟩ := O.fns g x f hg hf
  have hn : PAT X [] (tA G E (evEs T call [])) := PAT.imp pat_nil fun σ H Q ⟨as, ρ, h, S, R, o⟩ => (by
    simp only [evEs] at o
    exact o as H [] (Fut.refl S) .nil)
  have h1 : PAT X [y] (tA G E (evEs T call [e])) := PAT.imp (pat_cons ha hn (star_cons hx)) fun σ H Q ⟨as, ρ, h, S, R, o⟩ => by
    rw [evEs_cons hs] at o
    refine ⟨as, ρ, h, S, R, Ok.bind o fun v h1 as1 H1 v' f1 r1 o1 => ⟨as1, ρ, h1, f1.sr, R.fut f1, Ok.bind o1 fun vs h2 as2 H2 vs' f2 r2 o2 => ?_⟩⟩
    exact o2 as2 H2 _ (Fut.refl f2.sr) (.cons (r1.fut f2) r2)
  refine PET.imp (pet_call F hr (gl_ok O hb) hm hk hbd .nil O.pass h1 (plain_ok hp).1 (star_cons hx) (noStars (xs := []) rfl)) fun σ H Q ⟨as, ρ, h, S, R, o⟩ => ?_
  simp only [evE, hf, callG] at o
  refine ⟨as, ρ, h, S, R, Ok.bind o fun vs h1 as1 H1 vs' f1 r1 o1 => ?_⟩
  rw [List.append_nil]
  exact Ok.bind_call ar f1.sr r1 o1
mutual
theorem okET : ∀ (e : Ex) (fx : Fx) (x : Expr), chkET T nm fx e x = true → CT G T nm call fx e x
  | .repl o y z, fx, x, h => by
    cases x with
    | Call f xs ks pos =>
      cases f with
      | Attribute xo name ap =>
        match xs, ks, h with
        | [.Constant (.str c) j c0, .Constant (.str d) k c1], [], h =>
          simp only [chkET, Bool.and_eq_true, decide_eq_true_eq, Bool.not_eq_true'] at h
          obtain ⟨⟨⟨⟨⟨⟨rfl, h1⟩, h2⟩, h3⟩, h4⟩, h5⟩, h6⟩ := h
          have co := okET o fx xo h6
          exact ⟨rfl, fun _ e => (nomatch e), fun X E O => okET_repl (co.pe X E O) h1 h2 h3 h4 h5⟩
      | _ => cases h
    | _ => cases h
  | .lst es, fx, x, h => by
    cases x with
    | List xs p =>
      simp only [chkET, Bool.or_eq_true] at h
      rcases h with h | h
      · have c := okXs (G := G) (call := call) es fx xs h
        exact ⟨rfl, fun _ e => (nomatch e), fun X E O => PET.of (okE_lst (c.pa X E O))⟩
      · have c := okAT es fx xs h
        exact ⟨rfl, fun _ e => (nomatch e), fun X E O => okET_lst (c X E O)⟩
    | _ => cases h
  | .var i, fx, x, h => (okX (.var i) fx x h).ct
  | .con v, fx, x, h => (okX (.con v) fx x h).ct
  | .glob g, fx, x, h => (okX (.glob g) fx x h).ct
  | .bty f, fx, x, h => (okX (.bty f) fx x h).ct
  | .bin op a b, fx, x, h => (okX (.bin op a b) fx x h).ct
  | .neg a, fx, x, h => (okX (.neg a) fx x h).ct
  | .not a, fx, x, h => (okX (.not a) fx x h).ct
  | .and a b, fx, x, h => by
    cases x with
    | BoolOp o xs p =>
      cases o with
      | And =>
        match xs, h with
        | [x, y], h =>
          simp only [chkET, Bool.or_eq_true, Bool.and_eq_true] at h
          rcases h with h | h
          · exact (okX (.and a b) fx (.BoolOp .And [x, y] p) h).ct
          · have ca := okX (G := G) (call := call) a fx x h.1
            have cb := okET b fx y h.2
            exact ⟨rfl, fun _ e => (nomatch e), fun X E O => okET_and O (ca.pe X E O) (cb.pe X E O)⟩
        | [], h => exact (okX (.and a b) fx (.BoolOp .And [] p) h).ct
        | [x], h => exact (okX (.and a b) fx (.BoolOp .And [x] p) h).ct
        | x :: y :: z :: r, h => exact (okX (.and a b) fx (.BoolOp .And (x :: y :: z :: r) p) h).ct
      | _ => exact (okX (.and a b) fx _ h).ct
    | _ => exact (okX (.and a b) fx _ h).ct
  | .or a b, fx, x, h => (okX (.or a b) fx x h).ct
  | .cmp op a b, fx, x, h => (okX (.cmp op a b) fx x h).ct
  | .chn o1 o2 a b c, fx, x, h => (okX (.chn o1 o2 a b c) fx x h).ct
  | .ife c a b, fx, x, h => (okX (.ife c a b) fx x h).ct
  | .tup es, fx, x, h => (okX (.tup es) fx x h).ct
  | .star e, fx, x, h => (okX (.star e) fx x h).ct
  | .ix o i, fx, x, h => (okX (.ix o i) fx x h).ct
  | .sl o lo hi, fx, x, h => (okX (.sl o lo hi) fx x h).ct
  | .nop, fx, x, h => (okX (.nop) fx x h).ct
  | .call g [], fx, x, h => (okX (.call g []) fx x (by cases x <;> exact h)).ct
  | .call g (e :: e2 :: es), fx, x, h => (okX (.call g (e :: e2 :: es)) fx x (by cases x <;> exact h)).ct
  | .call g [e], fx, x, h => by
    cases x with
    | Call f xs ks pos =>
      cases f with
      | Name x p =>
        match xs, ks, h with
        | [y], [], h =>
          simp only [chkET, Bool.or_eq_true, Bool.and_eq_true, decide_eq_true_eq] at h
          rcases h with h | ⟨⟨⟨⟨h1, h2⟩, h3⟩, h4⟩, h5⟩
          · exact (okX (.call g [e]) fx (.Call (.Name x p) [y] [] pos) h).ct
          · have ⟨f, hf'⟩ : ∃ f, T.glob[g]? = some (.fn f) := by
              unfold isFn at h4
              split at h4
              · rename_i f q; exact ⟨f, q⟩
              · cases h4
            have ce := okET e fx y h5
            exact ⟨rfl, fun _ e => (nomatch e), fun X E O => okET_call O h1 hf' h2 h3 ce.ns ce.ne (ce.pe X E O)⟩
        | [y], k :: ks, h => exact (okX (.call g [e]) fx (.Call (.Name x p) [y] (k :: ks) pos) h).ct
        | [], ks, h => exact (okX (.call g [e]) fx (.Call (.Name x p) [] ks pos) h).ct
        | y :: z :: r, ks, h => exact (okX (.call g [e]) fx (.Call (.Name x p) (y :: z :: r) ks pos) h).ct
      | _ => exact (okX (.call g [e]) fx _ h).ct
    | _ => exact (okX (.call g [e]) fx _ h).ct
  | .bi f es, fx, x, h => (okX (.bi f es) fx x h).ct
  | .mt m b o es, fx, x, h => (okX (.mt m b o es) fx x h).ct
  | .att o f, fx, x, h => (okX (.att o f) fx x h).ct
  | .lc e own t k its ifs, fx, x, h => (okX (.lc e own t k its ifs) fx x h).ct
  | .callv i es, fx, x, h => (okX (.callv i es) fx x h).ct
  | .dsp, fx, x, h => (okX (.dsp) fx x h).ct
  | .lz es, fx, x, h => (okX (.lz es) fx x h).ct
  | .lno m o, fx, x, h => (okX (.lno m o) fx x h).ct
  | .lc2 e own t k its ifs own1 t1 k1 its1 ifs1, fx, x, h => (okX (.lc2 e own t k its ifs own1 t1 k1 its1 ifs1) fx x h).ct
  | .calld g es j, fx, x, h => (okX (.calld g es j) fx x h).ct
  | .mtd m o es j, fx, x, h => (okX (.mtd m o es j) fx x h).ct
  | .oin neg m a b, fx, x, h => (okX (.oin neg m a b) fx x h).ct
  | .oeq a b, fx, x, h => (okX (.oeq a b) fx x h).ct
  | .one a b, fx, x, h => (okX (.one a b) fx x h).ct
  | .lit o, fx, x, h => (okX (.lit o) fx x h).ct
  | .lset e, fx, x, h => (okX (.lset e) fx x h).ct
  | .lck i e, fx, x, h => (okX (.lck i e) fx x h).ct
  | .deq a b, fx, x, h => (okX (.deq a b) fx x h).ct
  | .clm o j, fx, x, h => (okX (.clm o j) fx x h).ct
  | .callk i es, fx, x, h => (okX (.callk i es) fx x h).ct
  | .tit o, fx, x, h => (okX (.tit o) fx x h).ct
  | .sit o, fx, x, h => (okX (.sit o) fx x h).ct
  | .never, fx, x, h => (okX (.never) fx x h).ct
theorem okAT : ∀ (es : List Ex) (fx : Fx) (xs : List Expr), chkAT T nm fx es xs = true → ∀ X E, XOk G T nm call fx X E → PAT X xs (tA G E (evEs T call es))
  | [], fx, xs, h, X, E, O => by
    cases xs with
    | nil => exact PAT.imp pat_nil fun σ H Q ⟨as, ρ, h, S, R, o⟩ => (by
        simp only [evEs] at o
        exact o as H [] (Fut.refl S) .nil)
    | cons _ _ => cases h
  | e :: es, fx, xs, h, X, E, O => by
    cases xs with
    | nil => cases h
    | cons x xs =>
      simp only [chkAT, Bool.and_eq_true] at h
      have c := okET e fx x h.1
      have cs := okAT es fx xs h.2 X E O
      refine PAT.imp (pat_cons (c.pe X E O) cs (star_cons c.ns)) fun σ H Q ⟨as, ρ, h, S, R, o⟩ => ?_
      rw [evEs_cons c.ne] at o
      refine ⟨as, ρ, h, S, R, Ok.bind o fun v h1 as1 H1 v' f1 r1 o1 => ⟨as1, ρ, h1, f1.sr, R.fut f1, Ok.bind o1 fun vs h2 as2 H2 vs' f2 r2 o2 => ?_⟩⟩
      exact o2 as2 H2 _ (Fut.refl f2.sr) (.cons (r1.fut f2) r2)
end
theorem pst_set {i : Nat} {x : Str} {e : Expr} {te : TE} {pos' pos : Pos} (hN : X.N.Nodup) (hi : X.N[i]? = some x) (hx : Loc X.env.scope x) (he : PET X e te) (hs : swapsWith e (some (.Name x pos')) pos.line X.env = pure false) (hf : X.fn x = true ∨ X.env.scope.names.lookup x = some .local) :
    PST X (.Assign [.Name x pos'] e pos) (tAsg te (gName i)) := by
  intro pins s σ H D h0 I h
  refine wpAny_Assign_Name (thn (he pins s σ H _ h0 I h) fun v s1 ⟨y, H1, I1, r1, q1⟩ => ?_) hs
  exact store_ok I1 hN hi hx r1 (fun s2 I2 => ⟨_, H1, I2, q1⟩) hf
theorem okST_nm {fx : Fx} (O : XOk G T nm call fx X E) {i : Nat} {e : Ex} {t x : Expr} {p : Pos} (ht : chkNm fx i t = true) (hc : isComp x = false) (he : PET X x (tE G E (evE T call e))) : PST X (.Assign [t] x p) (tS G E (exS T call W (.asg (.nm i) e))) := by
  cases t with
  | Name y q =>
    simp only [chkNm, Bool.and_eq_true, decide_eq_true_eq, List.contains_iff_mem] at ht
    obtain ⟨l, f⟩ := O.st y ht.2
    refine PST.imp (pst_set (i := i) O.nd (by rw [O.N]; exact ht.1) l he (noSwap hc) f) fun D σ H ⟨as, ρ, h, S, R, o⟩ => ?_
    simp only [exS, asgTa, Res.bind_ok] at o
    exact ⟨as, ρ, h, S, R, Ok.bind o fun v h1 as1 H1 v' f1 r1 o1 => o1 as1 H1 (.nx _) (Fut.refl f1.sr) ((R.fut f1).set i r1)⟩
  | _ => cases ht
theorem okST_ret {e : Ex} {x : Expr} {p : Pos} (he : PET X x (tE G E (evE T call e))) : PST X (.Return (some x) p) (tS G E (exS T call W (.ret e))) := by
  refine PST.imp (pst_ret he) fun D σ H ⟨as, ρ, h, S, R, o⟩ => ?_
  simp only [exS] at o
  exact ⟨as, ρ, h, S, R, Ok.bind o fun v h1 as1 H1 v' f1 r1 o1 => o1 as1 H1 (.rt v') (Fut.refl f1.sr) r1⟩
theorem okST_ite {c : Ex} {a b : List Sm} {z : Expr} {xa xb : List Stmt} {p : Pos} (hc : PT X z (tT G E (evT T call c))) (ha : PSsT X xa (tS G E (exSs T call W a))) (hb : PSsT X xb (tS G E (exSs T call W b))) : PST X (.If z xa xb p) (tS G E (exS T call W (.ite c a b))) := by
  refine PST.imp (pst_if hc ha hb) fun D σ H ⟨as, ρ, h, S, R, o⟩ => ?_
  simp only [exS] at o
  refine ⟨as, ρ, h, S, R, Ok.bind o fun t h1 as1 H1 t' f1 r1 o1 => ?_⟩
  subst r1
  cases t with
  | true => exact ⟨as1, ρ, h1, f1.sr, R.fut f1, o1⟩
  | false => exact ⟨as1, ρ, h1, f1.sr, R.fut f1, o1⟩
theorem okSTs_cons {s : Sm} {r : List Sm} {x : Stmt} {xs : List Stmt} (h1 : PST X x (tS G E (exS T call W s))) (h2 : PSsT X xs (tS G E (exSs T call W r))) : PSsT X (x :: xs) (tS G E (exSs T call W (s :: r))) := by
  refine PSsT.imp (psst_cons h1 h2) fun D σ H ⟨as, ρ, h, S, R, o⟩ => ?_
  simp only [exSs] at o
  refine ⟨as, ρ, h, S, R, Ok.bind o fun f h1 as1 H1 fv f1 r1 o1 => ?_⟩
  cases f with
  | nx ρ1 =>
    cases fv with
    | nx σ1 => exact ⟨as1, ρ1, h1, f1.sr, r1, o1⟩
    | _ => exact False.elim r1
  | bk ρ1 =>
    cases fv with
    | bk σ1 => exact o1 as1 H1 (.bk σ1) (Fut.refl f1.sr) r1
    | _ => exact False.elim r1
  | ct ρ1 =>
    cases fv with
    | ct σ1 => exact o1 as1 H1 (.ct σ1) (Fut.refl f1.sr) r1
    | _ => exact False.elim r1
  | rt v =>
    cases fv with
    | rt v1 => exact o1 as1 H1 (.rt v1) (Fut.refl f1.sr) r1
    | _ => exact False.elim r1
mutual
theorem okST : ∀ (s : Sm) (fx : Fx) (x : Stmt), chkST T nm fx s x = true → ∀ X E, XOk G T nm call fx X E → PassesOwn (model X.prog X.w) X.A X.env X.xe → PST X x (tS G E (exS T call W s))
  | .asg (.nm i) e, fx, x, h, X, E, O, po => by
    cases x with
    | Assign ts x p =>
      match ts, h with
      | [tg], h =>
        simp only [chkST, Bool.or_eq_true, Bool.and_eq_true, Bool.not_eq_true'] at h
        rcases h with h | ⟨⟨h1, h2⟩, h3⟩
        · exact PST.of (okS _ fx _ h X E O po)
        · exact okST_nm O h1 h2 ((okET e fx x h3).pe X E O)
    | _ => cases h
  | .ret e, fx, x, h, X, E, O, po => by
    cases x with
    | Return o p =>
      cases o with
      | none => cases h
      | some x => exact okST_ret ((okET e fx x h).pe X E O)
    | _ => cases h
  | .ite c a b, fx, x, h, X, E, O, po => by
    cases x with
    | If z xa xb p =>
      simp only [chkST, Bool.and_eq_true] at h
      exact okST_ite ((okX c fx z h.1.1).pt X E O) (okSTs a fx xa h.1.2 X E O po) (okSTs b fx xb h.2 X E O po)
    | _ => cases h
  | .asg (.tp is) e, fx, x, h, X, E, O, po => PST.of (okS _ fx x h X E O po)
  | .asg (.att o f) e, fx, x, h, X, E, O, po => PST.of (okS _ fx x h X E O po)
  | .asg (.ix o i) e, fx, x, h, X, E, O, po => PST.of (okS _ fx x h X E O po)
  | .asg (.sl o lo hi) e, fx, x, h, X, E, O, po => PST.of (okS _ fx x h X E O po)
  | .aug t op e, fx, x, h, X, E, O, po => PST.of (okS _ fx x h X E O po)
  | .ex e, fx, x, h, X, E, O, po => PST.of (okS _ fx x h X E O po)
  | .retn, fx, x, h, X, E, O, po => PST.of (okS _ fx x h X E O po)
  | .wh c b, fx, x, h, X, E, O, po => PST.of (okS _ fx x h X E O po)
  | .for_ t k its b, fx, x, h, X, E, O, po => PST.of (okS _ fx x h X E O po)
  | .brk, fx, x, h, X, E, O, po => PST.of (okS _ fx x h X E O po)
  | .cnt, fx, x, h, X, E, O, po => PST.of (okS _ fx x h X E O po)
  | .pass, fx, x, h, X, E, O, po => PST.of (okS _ fx x h X E O po)
  | .raise g es, fx, x, h, X, E, O, po => PST.of (okS _ fx x h X E O po)
  | .del o i, fx, x, h, X, E, O, po => PST.of (okS _ fx x h X E O po)
  | .slck i f s, fx, x, h, X, E, O, po => PST.of (okS _ fx x h X E O po)
  | .never, fx, x, h, X, E, O, po => PST.of (okS _ fx x h X E O po)
theorem okSTs : ∀ (ss : List Sm) (fx : Fx) (xs : List Stmt), chkSTs T nm fx ss xs = true → ∀ X E, XOk G T nm call fx X E → PassesOwn (model X.prog X.w) X.A X.env X.xe → PSsT X xs (tS G E (exSs T call W ss))
  | [], fx, xs, h, X, E, O, po => by
    cases xs with
    | nil => exact PSsT.of okSs_nil
    | cons _ _ => cases h
  | s :: r, fx, xs, h, X, E, O, po => by
    cases xs with
    | nil => cases h
    | cons x xs =>
      simp only [chkSTs, Bool.and_eq_true] at h
      exact okSTs_cons (okST s fx x h.1 X E O po) (okSTs r fx xs h.2 X E O po)
end
end
end Mn
set_option Elab.async false
set_option linter.all false
set_option maxRecDepth 100000
set_option maxHeartbeats 8000000
namespace Mn
open PySem PySem.Spec L2 PyProof.Rows CwR
structure Df where
  ps : List Str
  N : List Str
  body : List Sm
def locC (names : List (Str × NameKind)) (x : Str) : Bool := match names.lookup x with
  | some .local => true
  | some .cell => true
  | _ => false
theorem locC_ok {names : List (Str × NameKind)} {x : Str} (h : locC names x = true) : names.lookup x = some .local ∨ names.lookup x = some .cell := by
  unfold locC at h
  split at h
  · rename_i q; exact .inl q
  · rename_i q; exact .inr q
  · cases h
def Df.fx (d : Df) (sc : Scope) : Fx where
  N := d.N
  names := sc.names
  st := d.N.filter (locC sc.names)
def runD (T : Tb) (W : Nat) (call : Nat → List PV → PH → Res PV) (d : Df) (vs : List PV) (h : PH) : Res PV := if vs.length = d.ps.length then runBody T call W d.N.length d.body vs h else .stuck
def callS (T : Tb) (W : Nat) (D : List Df) (sp : Nat → Option (List PV → PH → Res PV)) : Nat → Nat → List PV → PH → Res PV
  | 0, _, _, _ => .stuck
  | n + 1, i, vs, h => match D[i]? with
    | none => .stuck
    | some d => match sp i with
      | none => runD T W (callS T W D sp n) d vs h
      | some r => if vs.length = d.ps.length then r vs h else .stuck
section
variable (G : Gm) (T : Tb) (nm : Nm) (D : List Df) (K : PySem.W.Frag) (mg : Str → Option Value)
structure GOk : Prop where
  K : K = G.K
  gl : ∀ (g : Nat) (x : Str) (v : PV), nm.gn[g]? = some x → T.glob[g]? = some v → ∃ u, mg x = some u ∧ RelG G v u
  bl : ∀ f : Bi, mg f.nm = none
  rng : mg "range" = none
  enm : mg "enumerate" = none
  zp : mg "zip" = none
  rvs : mg "reversed" = none
  sts : mg "set" = none
  cls : COk G T
  gnl : T.glob.length ≤ nm.gn.length
  an : nm.an = G.an
  mlt : ∀ (c : Nat) (ci : Ci) (f : Nat), T.cls[c]? = some ci → (ci.init = some f ∨ (∃ m, ci.meths.lookup m = some f) ∨ (∃ m, ci.props.lookup m = some f) ∨ ci.eq = some f) → f < D.length
  lt : ∀ (g f : Nat), T.glob[g]? = some (.fn f) → f < D.length
  clt : ∀ (c : Nat) (n : Str) (f : Nat), (c, n, f) ∈ T.cms → f < D.length
structure DOk (i : Nat) (d : Df) (fd : FuncData) : Prop where
  ex : ∃ (x qual : Str) (params : Arguments) (body : List Stmt) (scope : Scope), (∃ dvs kws, FunD K x qual params body scope dvs kws (G.fa i) fd) ∧ FnScope d.N d.ps scope ∧ ((chkSs T nm (d.fx scope) d.body body = true) ∨ ((∀ y ∈ scope.names, y.2 ≠ .cell) ∧ 1 ≤ d.ps.length ∧ chkSTs T nm (d.fx scope) d.body body = true))
  bn : Binds K fd d.ps []
  kp : PySem.W.keepIn K (.ref (G.fa i)) = true
  bd : DflK G T K fd d.ps i
end
section
variable {G : Gm} {T : Tb} {nm : Nm} {D : List Df} {K : PySem.W.Frag} {mg : Str → Option Value} {P : Program} {w : World} {base : Heap} {W : Nat} {sp : Nat → Option (List PV → PH → Res PV)}
def FnsAt (G : Gm) (T : Tb) (D : List Df) (P : Program) (w : World) (K : PySem.W.Frag) (mg : Str → Option Value) (base : Heap) (call : Nat → List PV → PH → Res PV) (k : Nat) : Prop :=
  ∀ i d, D[i]? = some d → ∃ fd, FnOk P w K mg base (L2.CX P w) k (G.fa i) fd d.ps (spF G call i d.ps.length) ∧ PySem.W.keepIn K (.ref (G.fa i)) = true ∧ Binds K fd d.ps [] ∧ (∀ xs h, xs.length ≠ d.ps.length → call i xs h = .stuck) ∧ DflK G T K fd d.ps i
theorem xok {call : Nat → List PV → PH → Res PV} {d : Df} {qual : Str} {scope : Scope} {f : Addr} {cdv : Value} {A : Around} {outer : List Env} {s : Shared} {H : Hp} {E : XK} {k : Nat} (O : GOk G T nm D K mg) (S : FnScope d.N d.ps scope) (hr : Room (k + 1) (A.deeper (envOfC qual scope s.heap.objs.size f cdv)))
    (F : FnsAt G T D P w K mg base call k) : XOk G T nm call (d.fx scope) (cxOf (L2.CX P w) P w K mg base d.N qual scope f cdv A outer s H E) E where
  K := O.K
  calm := rfl
  hu := by have := hr.un; show (A.deeper (envOfC qual scope s.heap.objs.size f cdv)).units + 70 < cLine; omega
  N := rfl
  nd := S.nd
  names := rfl
  gl := O.gl
  bl := O.bl
  st := fun x hx => by
    have : locC scope.names x = true := (List.mem_filter.mp hx).2
    exact ⟨locC_ok this, .inl rfl⟩
  rng := O.rng
  enm := O.enm
  zp := O.zp
  rvs := O.rvs
  sts := O.sts
  cls := O.cls
  kind := S.kind
  pass := passes_call (takes_of rfl rfl rfl rfl) fun _ _ _ _ h => h
  fns := fun g x f' h1 h2 => by
    have hl := O.lt g f' h2
    obtain ⟨fd, F1, kp, bn, ar, dk⟩ := F f' D[f'] (List.getElem?_eq_getElem hl)
    obtain ⟨u, e, y, ry, rep⟩ := O.gl g x _ h1 h2
    have e2 : y = .ref (G.fa f') := by
      have := rep [] (fun _ => none)
      unfold RepV at this
      exact this
    subst e2
    cases ry
    exact ⟨k, fd, D[f'].ps, F1, hr.mono (Nat.le_succ k), kp, bn, e, ar, dk⟩
  gnl := O.gnl
  an := O.an
  mfn := fun c ci f' h1 h2 => by
    have hl := O.mlt c ci f' h1 h2
    obtain ⟨fd, F1, kp, bn, ar, dk⟩ := F f' D[f'] (List.getElem?_eq_getElem hl)
    exact ⟨k, fd, D[f'].ps, F1, hr, bn, ar, dk⟩
  cfn := fun c n f' h1 => by
    have hl := O.clt c n f' h1
    obtain ⟨fd, F1, kp, bn, ar, dk⟩ := F f' D[f'] (List.getElem?_eq_getElem hl)
    exact ⟨k, fd, D[f'].ps, F1, hr, bn, ar⟩
theorem repE_start {as : List Addr} {H : Hp} {xs : List PV} {vs : List V} {N : List Str} (r : RepVs G as H xs vs) : RepE G as H (xs.map some ++ List.replicate (N.length - xs.length) none) (L2.start N vs) := by
  refine ⟨by simp [L2.start, r.length], fun i v e => ?_⟩
  unfold L2.start
  by_cases hi : i < xs.length
  · rw [List.getElem?_append_left (by simpa using hi), List.getElem?_map] at e
    rw [List.getElem?_append_left (by simpa [← r.length] using hi), List.getElem?_map]
    cases q : xs[i]? with
    | none => rw [q] at e; cases e
    | some y =>
      rw [q] at e
      cases e
      obtain ⟨v', e1, rv⟩ := r.get q
      exact ⟨v', by rw [e1]; rfl, rv⟩
  · rw [List.getElem?_append_right (by simpa using hi)] at e
    have := List.mem_of_getElem? e
    simp at this
theorem fn_mini {call : Nat → List PV → PH → Res PV} {i k : Nat} {d : Df} {fd : FuncData} (O : GOk G T nm D K mg) (DO : DOk G T nm K i d fd) (F : FnsAt G T D P w K mg base call k) : FnOk P w K mg base (L2.CX P w) (k + 2) (G.fa i) fd d.ps (spF G (fun _ => runD T W call d) i d.ps.length) := by
  obtain ⟨x, qual, params, body, scope, ⟨dvs, kws, FD⟩, S, hcc⟩ := DO.ex
  obtain ⟨oc, od, dV, kV, doc, pm, an, cdv, ct, osl, rfl, lk, hcd, _, _⟩ := FD.ex
  have fin : ∀ (vs : List V) (xs : List PV) (as : List Addr) (H : Hp) (h : PH) (Q : VK) (E : XK), vs.length = d.ps.length → RepVs G as H xs vs → OkV G E as H Q (runD T W call d xs h) →
      Ok G E as H (fun as' H' => relF G as' H') (endsQ { nx := fun _ H' => Q .non H', rt := Q }) (exSs T call W d.body (xs.map some ++ List.replicate (d.N.length - xs.length) none) h) := fun vs xs as H h Q E hl R o => by
    have hx : xs.length = d.ps.length := by rw [R.length]; exact hl
    unfold runD at o
    rw [if_pos hx] at o
    unfold runBody at o
    refine Ok.bind o fun f h1 as1 H1 fv f1 r1 o1 => ?_
    cases f with
    | nx ρ1 =>
      cases fv with
      | nx σ1 => exact o1 as1 H1 .non (Fut.refl f1.sr) .non
      | _ => exact False.elim r1
    | bk ρ1 => exact False.elim o1
    | ct ρ1 => exact False.elim o1
    | rt v =>
      cases fv with
      | rt v1 => exact o1 as1 H1 v1 (Fut.refl f1.sr) r1
      | _ => exact False.elim r1
  rcases hcc with hc | ⟨hnc, hps, hc⟩
  · refine fn_of lk hcd S (fun vs H Q E h => h.1) fun A outer s H vs Q E hr hsp => ?_
    obtain ⟨hl, as, h, xs, Sr, R, o⟩ := hsp
    have X := xok (P := P) (w := w) (base := base) (A := A) (outer := outer) (s := s) (H := H) (E := E) (qual := qual) (f := G.fa i) (cdv := cdv) O S hr F
    exact ⟨_, okSs (W := W) d.body _ body hc _ E X (passes_of rfl), as, _, h, Sr, repE_start R, fin vs xs as H h Q E hl R o⟩
  · refine fn_ofT lk hcd S hnc hps (fun vs H Q E h => h.1) fun A outer s H vs Q E hr hsp => ?_
    obtain ⟨hl, as, h, xs, Sr, R, o⟩ := hsp
    have X := xok (P := P) (w := w) (base := base) (A := A) (outer := outer) (s := s) (H := H) (E := E) (qual := qual) (f := G.fa i) (cdv := cdv) O S hr F
    exact ⟨_, okSTs (W := W) d.body _ body hc _ E X (passes_of rfl), as, _, h, Sr, repE_start R, fin vs xs as H h Q E hl R o⟩
def SpOk (G : Gm) (T : Tb) (W : Nat) (D : List Df) (sp : Nat → Option (List PV → PH → Res PV)) : Prop := ∀ i d r, D[i]? = some d → sp i = some r → ∀ (n : Nat) (as : List Addr) (H : Hp) (h : PH) (xs : List PV) (vs : List V) (Q : VK) (E : XK), SR G as H h → RepVs G as H xs vs → xs.length = d.ps.length → OkV G E as H Q (r xs h) →
  ∃ as' h', SR G as' H h' ∧ RepVs G as' H xs vs ∧ OkV G E as' H Q (runD T W (callS T W D sp n) d xs h')
theorem all_fns (O : GOk G T nm D K mg) (DO : ∀ i d, D[i]? = some d → ∃ fd, DOk G T nm K i d fd) (so : SpOk G T W D sp) : ∀ n, FnsAt G T D P w K mg base (callS T W D sp n) (2 * n)
  | 0 => fun i d e => by
    obtain ⟨fd, q⟩ := DO i d e
    refine ⟨fd, ⟨fun vs H Q E h => h.1, fun A outer s H args us vs Q E hr e0 hb r h => ?_⟩, q.kp, q.bn, fun xs h _ => rfl, q.bd⟩
    obtain ⟨_, _, _, _, _, _, o⟩ := h
    exact False.elim o
  | n + 1 => fun i d e => by
    obtain ⟨fd, q⟩ := DO i d e
    have F := fn_mini (W := W) (i := i) O q (all_fns O DO so n)
    refine ⟨fd, F.imp fun vs H Q E h => ?_, q.kp, q.bn, fun xs h hl => ?_, q.bd⟩
    · obtain ⟨hl, as, h, xs, Sr, R, o⟩ := h
      have hx : xs.length = d.ps.length := by rw [R.length]; exact hl
      simp only [callS, e] at o
      cases hs : sp i with
      | none =>
        rw [hs] at o
        exact ⟨hl, as, h, xs, Sr, R, o⟩
      | some r =>
        rw [hs] at o
        dsimp only at o
        rw [if_pos hx] at o
        obtain ⟨as', h', S', R', o'⟩ := so i d r e hs n as H h xs vs Q E Sr R hx o
        exact ⟨hl, as', h', xs, S', R', o'⟩
    · simp only [callS, e]
      cases hs : sp i with
      | none => simp only [runD, if_neg hl]
      | some r => simp only [if_neg hl]
end
end Mn
set_option Elab.async false
set_option linter.all false
set_option maxRecDepth 100000
set_option maxHeartbeats 4000000
namespace Mn
open PySem L2 He
def nB (n : Nat) (p : Nat → Bool) : Bool := (List.range n).all p
theorem nB_ok {n : Nat} {p : Nat → Bool} (h : nB n p = true) {i : Nat} (hi : i < n) : p i = true := List.all_eq_true.mp h i (List.mem_range.mpr hi)
def methB (K : PySem.W.Frag) (C : Addr) (n : Str) (f : Addr) : Bool := eqO (PySem.W.findIn K (.ref C) n) (some (some (.ref f))) && (PySem.W.isFn K (.ref f) && PySem.W.keepIn K (.ref f))
def propB (K : PySem.W.Frag) (C : Addr) (n : Str) (f : Addr) : Bool := eqO (PySem.W.findIn K (.ref C) n) (some (some (.ref (ma K C n)))) && (eqO (PySem.W.specialIn K (.ref (ma K C n)) "__get__") (some (some (.builtin "property.__get__"))) && (decide (PySem.W.takesIn K (.ref (ma K C n)) = some true) &&
  (match PySem.W.recIn K (ma K C n) "property" with
  | some (.ref g :: _) => decide (g = f)
  | _ => false)))
def mkB (K : PySem.W.Frag) (C : Addr) (f : Addr) : Bool := PySem.W.makesIn K C && (eqO (PySem.W.findIn K (.ref C) "__init__") (some (some (.ref f))) && (PySem.W.isFn K (.ref f) && PySem.W.keepIn K (.ref C)))
def clsB (K : PySem.W.Frag) (C : Addr) : Bool := (PySem.W.plainGet K C Str.empty && PySem.W.hasDictIn K C) && (PySem.W.plainOver K C && eqO (PySem.W.findIn K (.ref C) "__setattr__") (some (some (.builtin "object.__setattr__"))))
def attB (G : Gm) (c : Nat) (ci : Ci) (m : Nat) (n : Str) : Bool := match ci.meths.lookup m with
  | some f => methB G.K (G.ca c) n (G.fa f)
  | none => match ci.props.lookup m with
    | some f => propB G.K (G.ca c) n (G.fa f)
    | none => eqO (PySem.W.findIn G.K (.ref (G.ca c)) n) (some none)
def oneB (G : Gm) (T : Tb) (c : Nat) (ci : Ci) : Bool := (decide (PySem.W.kitOne G.K (.type "function") (.ref (G.ca c)) = some false) && (match ci.eq with
  | some f => eqO (PySem.W.findIn G.K (.ref (G.ca c)) "__eq__") (some (some (.ref (G.fa f)))) && (PySem.W.isFn G.K (.ref (G.fa f)) && eqO (PySem.W.findIn G.K (.ref (G.ca c)) "__ne__") (some (some (.builtin "object.__ne__"))))
  | none => true)) && (
  (nB T.cls.length fun d => decide (PySem.W.kitOne G.K (.ref (G.ca c)) (.ref (G.ca d)) = some (ci.sups.contains d))) &&
  ((tyNames.all fun n => decide (PySem.W.kitOne G.K (.ref (G.ca c)) (.type n) = some false) && decide (PySem.W.kitOne G.K (.type n) (.ref (G.ca c)) = some false)) &&
  (clsB G.K (G.ca c) &&
  (eqO (PySem.W.findIn G.K (.ref (G.ca c)) "__class__") (some (some (.builtin "object.__class__"))) &&
  (decide (PySem.W.mroIn G.K (G.ca c) (.type "object") = some true) &&
  ((nB G.an.length fun m => match G.an[m]? with
    | some n => attB G c ci m n
    | none => true) &&
  (match ci.init with
  | some f => mkB G.K (G.ca c) (G.fa f)
  | none => true)))))))
def fnkB (G : Gm) (T : Tb) : Bool := T.glob.all fun v => match v with
  | .fn f => PySem.W.isFn G.K (.ref (G.fa f))
  | _ => true
def cmB (K : PySem.W.Frag) (C : Addr) (n : Str) (f : Addr) : Bool := PySem.W.readsIn K C (.type "type") && (eqO (PySem.W.specialIn K (.ref C) "__getattribute__") (some (some (.builtin "type.__getattribute__"))) && (He5.wrapB K C "classmethod" "classmethod.__get__" n && (decide (He5.wf K C "classmethod" n = f) && PySem.W.fnIn K f)))
theorem cmB_ok {K : PySem.W.Frag} {C : Addr} {n : Str} {f : Addr} (h : cmB K C n f = true) : ∃ mc p, ClX.CRead K C mc ∧ ClX.CMet K C mc n p f := by
  obtain ⟨h1, h⟩ := ba h
  obtain ⟨h2, h⟩ := ba h
  obtain ⟨h3, h⟩ := ba h
  obtain ⟨h4, h5⟩ := ba h
  have e := of_decide_eq_true h4
  subst e
  exact ⟨_, _, ⟨h1, eqO_ok h2⟩, He5.cmet_of h3 h5⟩
def cmsB (G : Gm) (T : Tb) : Bool := T.cms.all fun q => cmB G.K (G.ca q.1) q.2.1 (G.fa q.2.2)
def cokB (G : Gm) (T : Tb) : Bool := (nB T.cls.length fun c => match T.cls[c]? with
  | some ci => oneB G T c ci
  | none => true) && (fnkB G T && cmsB G T && (eqO (PySem.W.specialIn G.K (.builtin "object.__class__") "__get__") (some (some (.builtin "getset_descriptor.__get__"))) && decide (PySem.W.takesIn G.K (.builtin "object.__class__") = some true)))
section
variable {G : Gm} {T : Tb}
theorem methB_ok {K : PySem.W.Frag} {C f : Addr} {n : Str} (h : methB K C n f = true) : Meth K C n f := by
  obtain ⟨h1, h2⟩ := ba h
  obtain ⟨h2, h3⟩ := ba h2
  exact ⟨eqO_ok h1, h2, h3⟩
theorem propB_ok {K : PySem.W.Frag} {C f : Addr} {n : Str} (h : propB K C n f = true) : ∃ p, PropOf K C n p f := by
  obtain ⟨h1, h2⟩ := ba h
  obtain ⟨h2, h3⟩ := ba h2
  obtain ⟨h3, h4⟩ := ba h3
  refine ⟨ma K C n, eqO_ok h1, eqO_ok h2, of_decide_eq_true h3, ?_⟩
  split at h4
  · rename_i g r e
    exact ⟨r, by rw [e, of_decide_eq_true h4]⟩
  · cases h4
theorem mkB_ok {K : PySem.W.Frag} {C f : Addr} (h : mkB K C f = true) : Mk K C f := by
  obtain ⟨h1, h2⟩ := ba h
  obtain ⟨h2, h3⟩ := ba h2
  obtain ⟨h3, h4⟩ := ba h3
  exact ⟨h1, eqO_ok h2, h3, h4⟩
theorem clsB_ok {K : PySem.W.Frag} {C : Addr} (h : clsB K C = true) : Cls K C := by
  obtain ⟨h1, h2⟩ := ba h
  obtain ⟨h3, h4⟩ := ba h1
  obtain ⟨h5, h6⟩ := ba h2
  exact ⟨h3, h4, h5, eqO_ok h6⟩
structure OneOk (G : Gm) (T : Tb) (c : Nat) (ci : Ci) : Prop where
  cc : ∀ d, d < T.cls.length → PySem.W.kitOne G.K (.ref (G.ca c)) (.ref (G.ca d)) = some (ci.sups.contains d)
  ty : ∀ n ∈ tyNames, PySem.W.kitOne G.K (.ref (G.ca c)) (.type n) = some false ∧ PySem.W.kitOne G.K (.type n) (.ref (G.ca c)) = some false
  cl : Cls G.K (G.ca c)
  ha : PySem.W.findIn G.K (.ref (G.ca c)) "__class__" = some (some (.builtin "object.__class__"))
  hm : PySem.W.mroIn G.K (G.ca c) (.type "object") = some true
  att : ∀ (m : Nat) (n : Str), G.an[m]? = some n → attB G c ci m n = true
  mkr : ∀ f, ci.init = some f → Mk G.K (G.ca c) (G.fa f)
  tf : PySem.W.kitOne G.K (.type "function") (.ref (G.ca c)) = some false
  eqm : ∀ f, ci.eq = some f → (PySem.W.findIn G.K (.ref (G.ca c)) "__eq__" = some (some (.ref (G.fa f))) ∧ PySem.W.isFn G.K (.ref (G.fa f)) = true) ∧ PySem.W.findIn G.K (.ref (G.ca c)) "__ne__" = some (some (.builtin "object.__ne__"))
theorem oneB_ok {c : Nat} {ci : Ci} (h : oneB G T c ci = true) : OneOk G T c ci := by
  obtain ⟨h0, h⟩ := ba h
  obtain ⟨h01, h02⟩ := ba h0
  obtain ⟨h1, h⟩ := ba h
  obtain ⟨h2, h⟩ := ba h
  obtain ⟨h3, h⟩ := ba h
  obtain ⟨h4, h⟩ := ba h
  obtain ⟨h5, h⟩ := ba h
  obtain ⟨h6, h7⟩ := ba h
  refine ⟨fun d hd => of_decide_eq_true (nB_ok h1 hd), fun n hn => ?_, clsB_ok h3, eqO_ok h4, of_decide_eq_true h5, fun m n e => ?_, fun f e => ?_, of_decide_eq_true h01, fun f e => ?_⟩
  · obtain ⟨q1, q2⟩ := ba (List.all_eq_true.mp h2 n hn)
    exact ⟨of_decide_eq_true q1, of_decide_eq_true q2⟩
  · have q := nB_ok h6 (List.getElem?_eq_some_iff.mp e).1
    rw [e] at q
    exact q
  · rw [e] at h7
    exact mkB_ok h7
  · rw [e] at h02
    obtain ⟨q1, q2⟩ := ba h02
    obtain ⟨q2, q3⟩ := ba q2
    exact ⟨⟨eqO_ok q1, q2⟩, eqO_ok q3⟩
theorem cok_of (h : cokB G T = true) (nd : G.an.Nodup) : COk G T := by
  obtain ⟨h1, h2⟩ := ba h
  obtain ⟨hf, h2⟩ := ba h2
  obtain ⟨hf, hcm⟩ := ba hf
  obtain ⟨h2, h3⟩ := ba h2
  have one : ∀ (c : Nat) (ci : Ci), T.cls[c]? = some ci → OneOk G T c ci := fun c ci e => by
    have q := nB_ok h1 (List.getElem?_eq_some_iff.mp e).1
    rw [e] at q
    exact oneB_ok q
  have at1 : ∀ c, c < T.cls.length → ∃ ci, T.cls[c]? = some ci ∧ OneOk G T c ci := fun c hc => ⟨_, List.getElem?_eq_getElem hc, one c _ (List.getElem?_eq_getElem hc)⟩
  exact {
    cc := fun c d ci e hd => (one c ci e).cc d hd
    ct := fun c n hc hn => let ⟨_, _, o⟩ := at1 c hc; (o.ty n hn).1
    tc := fun c n hc hn => let ⟨_, _, o⟩ := at1 c hc; (List.mem_cons.mp hn).elim (fun e => e ▸ o.tf) fun hn => (o.ty n hn).2
    fnk := fun f hq => by
      obtain ⟨v, hv, e⟩ := List.any_eq_true.mp hq
      have q := List.all_eq_true.mp hf v hv
      cases v with
      | fn j =>
        have e2 : j = f := by simpa [isFnOf] using e
        subst e2
        exact q
      | _ => simp [isFnOf] at e
    eqm := fun c ci f ec ei => ((one c ci ec).eqm f ei).1
    nem := fun c ci f ec ei => ((one c ci ec).eqm f ei).2
    cl := fun c hc => let ⟨_, _, o⟩ := at1 c hc; o.cl
    ha := fun c hc => let ⟨_, _, o⟩ := at1 c hc; o.ha
    hm := fun c hc => let ⟨_, _, o⟩ := at1 c hc; o.hm
    hn := fun _ => eqO_ok h2
    htk := fun _ => of_decide_eq_true h3
    nd := nd
    at_ := fun c f n e en => by
      obtain ⟨ci, ec, em, ep⟩ := attK_cls e
      have q := (one c ci ec).att f n en
      unfold attB at q
      rw [em, ep] at q
      exact eqO_ok q
    me := fun c ci m f n ec em en => by
      have q := (one c ci ec).att m n en
      unfold attB at q
      rw [em] at q
      exact methB_ok q
    mkr := fun c ci f ec ei => (one c ci ec).mkr f ei
    cm := fun c n f hm => cmB_ok (List.all_eq_true.mp hcm (c, n, f) hm)
    pr := fun c ci m f n ec em ep en => by
      have q := (one c ci ec).att m n en
      unfold attB at q
      rw [em, ep] at q
      exact propB_ok q }
end
def mltB (T : Tb) (n : Nat) : Bool := T.cls.all fun ci => (match ci.init with
  | some f => decide (f < n)
  | none => true) && ((match ci.eq with
  | some f => decide (f < n)
  | none => true) && ((ci.meths.all fun q => decide (q.2 < n)) && ci.props.all fun q => decide (q.2 < n)))
theorem lookup_in {l : List (Nat × Nat)} {m f : Nat} (h : l.lookup m = some f) : (m, f) ∈ l := by
  induction l with
  | nil => simp at h
  | cons q r ih =>
    obtain ⟨a, b⟩ := q
    rw [List.lookup_cons] at h
    split at h
    · rename_i e
      cases h
      rw [beq_iff_eq.mp e]
      exact List.mem_cons_self
    · exact List.mem_cons_of_mem _ (ih h)
theorem clt_of {T : Tb} {n : Nat} (h : (T.cms.all fun q => decide (q.2.2 < n)) = true) : ∀ (c : Nat) (m : Str) (f : Nat), (c, m, f) ∈ T.cms → f < n := fun c m f hm => of_decide_eq_true (List.all_eq_true.mp h (c, m, f) hm)
theorem mlt_of {T : Tb} {n : Nat} (h : mltB T n = true) : ∀ (c : Nat) (ci : Ci) (f : Nat), T.cls[c]? = some ci → (ci.init = some f ∨ (∃ m, ci.meths.lookup m = some f) ∨ (∃ m, ci.props.lookup m = some f) ∨ ci.eq = some f) → f < n := fun c ci f e q => by
  have h1 := List.all_eq_true.mp h ci (List.mem_of_getElem? e)
  obtain ⟨h1, h2⟩ := ba h1
  obtain ⟨h0, h2⟩ := ba h2
  obtain ⟨h2, h3⟩ := ba h2
  rcases q with q | ⟨m, q⟩ | ⟨m, q⟩ | q
  · rw [q] at h1
    exact of_decide_eq_true h1
  · exact of_decide_eq_true (List.all_eq_true.mp h2 _ (lookup_in q))
  · exact of_decide_eq_true (List.all_eq_true.mp h3 _ (lookup_in q))
  · rw [q] at h0
    exact of_decide_eq_true h0
abbrev DA := He5.DefA
def obM (ck : PySem.W.Frag → Bool) (fa : List Fa) (fn : List DA) (K : PySem.W.Frag) : AlD := (ck K && ((fa.all fun f => f.ok K) && fn.all fun d => d.ok K), fn.map fun d => He5.fnA K (d.at_ K))
def vaM (fn : List DA) : AlD := (true, fn.map He5.DefA.val)
def SaM (ck : PySem.W.Frag → Bool) (fa : List Fa) (fn : List DA) (K : PySem.W.Frag) : Prop := obM ck fa fn K = vaM fn
def obMG (n : Nat) (ck : PySem.W.Frag → Bool) (fa : List Fa) (fn : List DA) (g : Addr → Option Obj) : AlD := obM ck fa fn (frG g (asD g n))
def hkM (n : Nat) (ck : PySem.W.Frag → Bool) (fa : List Fa) (fn : List DA) : PySem.W.Hook where
  α := AlD
  obs := fun s => obMG n ck fa fn s.heap.get?
  val := fun _ => vaM fn
  says := fun _ h => ∃ K : PySem.W.Frag, K.In h ∧ SaM ck fa fn K
  of := fun _ _ e => ⟨_, frG_in, e⟩
  keeps := fun _ _ _ ⟨K, i, c⟩ k => ⟨K, PySem.W.Frag.In.keeps i k, c⟩
theorem obM_eq {n : Nat} {ck : PySem.W.Frag → Bool} {fa : List Fa} {fn : List DA} {g : Addr → Option Obj} {s : Shared} (h : ∀ a, g a = s.heap.get? a) : obMG n ck fa fn g = (hkM n ck fa fn).obs s := by
  rw [show g = s.heap.get? from funext h] <;> rfl
section
variable {ck : PySem.W.Frag → Bool} {fa : List Fa} {fn : List DA} {K : PySem.W.Frag}
theorem SaM.all (c : SaM ck fa fn K) : ck K = true ∧ (fa.all fun f => f.ok K) = true ∧ (fn.all fun d => d.ok K) = true := by
  obtain ⟨h1, h2⟩ := ba (show (ck K && ((fa.all fun f => f.ok K) && fn.all fun d => d.ok K)) = true from congrArg Prod.fst c)
  exact ⟨h1, ba h2⟩
theorem SaM.fact (c : SaM ck fa fn K) (i : Nat) {f : Fa} (h : fa[i]? = some f := by rfl) : f.ok K = true := List.all_eq_true.mp c.all.2.1 f (List.mem_of_getElem? h)
theorem SaM.def_ (c : SaM ck fa fn K) (i : Nat) {d : DA} (h : fn[i]? = some d := by rfl) : ∃ fd, FunD K d.name d.qual d.params d.body d.scope (d.dvs K) (d.kws K) (d.at_ K) fd := by
  have e : fn.map (fun d => He5.fnA K (d.at_ K)) = fn.map He5.DefA.val := congrArg Prod.snd c
  have e2 : (fn.map fun d => He5.fnA K (d.at_ K))[i]? = (fn.map He5.DefA.val)[i]? := by rw [e]
  rw [List.getElem?_map, List.getElem?_map, h] at e2
  exact He5.DefA.funD (Option.some.inj e2) (List.all_eq_true.mp c.all.2.2 d (List.mem_of_getElem? h))
end
theorem bindsF {K : PySem.W.Frag} {x qual : Str} {params : Arguments} {body : List Stmt} {scope : Scope} {dvs : List V} {kws : List (Str × V)} {f : Addr} {fd : FuncData} {ps : List Str} (F : FunD K x qual params body scope dvs kws f fd) (hd : dvs ≠ [])
    (h : ∀ (N : Addr) (kV doc pm : Value) (an : Option Addr) (cdv ct : Value) (us its : List Value), us.length = ps.length → its.length = dvs.length →
      ∃ k, bindArgs (PySem.W.fnOf x qual params body scope (.ref N) kV doc pm an cdv ct) ⟨us, []⟩ = seqItems? (.ref N) >>= k ∧ k (some its.toArray) = pure (ps.zip (us ++ its.drop dvs.length))) : Binds K fd ps [] := by
  obtain ⟨ds, r, b⟩ := F.binds1 ps.length dvs.length hd (by omega) h
  rw [List.drop_length] at r
  cases r
  exact b
section
variable {G : Gm} {T : Tb} {K : PySem.W.Frag} {fd : FuncData} {ps : List Str} {i : Nat}
theorem dfl_none (h : (T.dfl.all fun q => q.1 != i) = true) : DflK G T K fd ps i := fun ds hm => absurd (List.all_eq_true.mp h _ hm) (by simp)
def AllFill (G : Gm) (K : PySem.W.Frag) (fd : FuncData) (ps : List Str) : List (List PV) → Prop
  | [] => True
  | ds :: r => (∃ (vs : List V) (us : List Value), (∀ as H, RepVs G as H ds vs) ∧ Vals vs us ∧ Binds K fd ps us) ∧ AllFill G K fd ps r
theorem AllFill.get : ∀ {l : List (List PV)}, AllFill G K fd ps l → ∀ ds ∈ l, ∃ (vs : List V) (us : List Value), (∀ as H, RepVs G as H ds vs) ∧ Vals vs us ∧ Binds K fd ps us
  | [], _, ds, h => by simp at h
  | d :: r, a, ds, h => by
    rcases List.mem_cons.mp h with rfl | h
    · exact a.1
    · exact AllFill.get a.2 ds h
theorem dfl_of {l : List (List PV)} (e : (T.dfl.filter fun q => q.1 == i).map (·.2) = l) (h : AllFill G K fd ps l) : DflK G T K fd ps i := fun ds hm => h.get ds (by
  rw [← e]
  exact List.mem_map.mpr ⟨(i, ds), List.mem_filter.mpr ⟨hm, by simp⟩, rfl⟩)
end
def etB (K : PySem.W.Frag) (a : Addr) : Bool := match K.lookup a with
  | some ⟨c, _, .seq its _, _⟩ => decide (c = .type "tuple") && its.toList.isEmpty
  | _ => false
theorem etB_ok {G : Gm} {as : List Addr} {H : Hp} {a : Addr} (h : etB G.K a = true) : RepV G as H (.tup []) (.ref a) := by
  unfold etB at h
  split at h
  · rename_i c dd its n sl e
    obtain ⟨h1, h2⟩ := ba h
    have e2 : its.toList = [] := List.isEmpty_iff.mp h2
    unfold RepV
    refine ⟨a, [], rfl, .inr ⟨_, its, n, e, of_decide_eq_true h1, rfl, ?_, ?_⟩, .nil⟩
    · have : its.size = 0 := by rw [← Array.length_toList, e2]; rfl
      omega
    · rw [e2]; exact .nil
  · cases h
end Mn
set_option Elab.async false
set_option linter.all false
namespace Mn
open PySem L2
theorem cok_none {G : Gm} {T : Tb} (h : T.cls = []) (hc : T.cms = []) (ha : G.an = []) (hf : ∀ f, T.glob.any (isFnOf f) = true → PySem.W.isFn G.K (.ref (G.fa f)) = true) : COk G T where
  fnk := hf
  cm := fun c n f hm => by rw [hc] at hm; simp at hm
  eqm := fun c ci f e => by rw [h] at e; simp at e
  nem := fun c ci f e => by rw [h] at e; simp at e
  cc := fun c d ci e => by rw [h] at e; simp at e
  ct := fun c n q => by rw [h] at q; simp at q
  tc := fun c n q => by rw [h] at q; simp at q
  cl := fun c q => by rw [h] at q; simp at q
  ha := fun c q => by rw [h] at q; simp at q
  hm := fun c q => by rw [h] at q; simp at q
  hn := fun q => absurd h q
  htk := fun q => absurd h q
  nd := by rw [ha]; exact List.nodup_nil
  at_ := fun c f n e => by
    unfold attK at e
    rw [h] at e
    simp at e
  me := fun c ci m f n e => by rw [h] at e; simp at e
  mkr := fun c ci f e => by rw [h] at e; simp at e
  pr := fun c ci m f n e => by rw [h] at e; simp at e
end Mn
set_option Elab.async false
set_option linter.all false
set_option maxRecDepth 100000
set_option maxHeartbeats 0
namespace K04
open PySem PySem.Spec PyProof.Rows L2 Mn
def top (i : Nat) : Stmt := PySem.Challenge.pw_deedline_k04_hashes_spots_and_check_sums.main.body.getD i (.Pass ⟨0, 0, 0, 0⟩)
def inCls (s : Stmt) (j : Nat) : Stmt := match s with
  | .ClassDef (body := b) .. => b.getD j s
  | _ => s
def b_is_within : List Sm := [.ret (.and (.bi .isinst [.var 0, .bty .int]) (.and (.not (.bi .isinst [.var 0, .bty .bool])) (.chn .le .le (.var 1) (.var 0) (.var 2))))]
def d_is_within : Df := ⟨["value", "least", "most"], ["value", "least", "most"], b_is_within⟩
abbrev i_is_within : Nat := 0
def b_is_count : List Sm := [.ret (.and (.bi .isinst [.var 0, .bty .int]) (.and (.not (.bi .isinst [.var 0, .bty .bool])) (.cmp .ge (.var 0) (.var 1))))]
def d_is_count : Df := ⟨["value", "least"], ["value", "least"], b_is_count⟩
abbrev i_is_count : Nat := 1
def b_is_printed : List Sm := [.ret (.and (.bi .isinst [.var 0, .bty .str]) (.and (.mt 0 .isascii (.var 0) []) (.mt 0 .isprintable (.var 0) [])))]
def d_is_printed : Df := ⟨["value"], ["value"], b_is_printed⟩
abbrev i_is_printed : Nat := 2
def b_is_text : List Sm := [.ret (.and (.call 2 [.var 0]) (.cmp .le (.bi .len [.var 0]) (.glob 30)))]
def d_is_text : Df := ⟨["value"], ["value"], b_is_text⟩
abbrev i_is_text : Nat := 3
def b_check_text : List Sm := [.ite (.not (.call 3 [.var 0])) [.never] []]
def d_check_text : Df := ⟨["text"], ["text"], b_check_text⟩
abbrev i_check_text : Nat := 4
def b_check_within : List Sm := [.ite (.not (.call 0 [.var 0, .var 1, .var 2])) [.never] []]
def d_check_within : Df := ⟨["number", "least", "most"], ["number", "least", "most"], b_check_within⟩
abbrev i_check_within : Nat := 5
def b_check_count : List Sm := [.ite (.not (.call 1 [.var 0, .var 1])) [.never] []]
def d_check_count : Df := ⟨["number", "least"], ["number", "least"], b_check_count⟩
abbrev i_check_count : Nat := 6
def b_hash_of : List Sm := [.ex (.call 4 [.var 0]), .asg (.nm 1) (.con (.int 0)), .for_ (.nm 2) .seq [.var 0] [.asg (.nm 1) (.bin .mod (.bin .add (.bin .mul (.var 1) (.con (.int 33))) (.bi .ord [.var 2])) (.glob 33))], .ret (.var 1)]
def d_hash_of : Df := ⟨["text"], ["text", "code", "sign"], b_hash_of⟩
abbrev i_hash_of : Nat := 7
def b_spot_of : List Sm := [.ret (.call 12 [.call 7 [.var 0], .glob 31])]
def d_spot_of : Df := ⟨["text"], ["text"], b_spot_of⟩
abbrev i_spot_of : Nat := 8
def b_sum_of : List Sm := [.ex (.call 11 [.var 0]), .asg (.nm 1) (.bi .sum [.lc (.bin .mul (.bi .ord [.var 3]) (.bin .add (.var 2) (.con (.int 1)))) [2, 3] (.tp [2, 3]) .enum [.var 0] []]), .ret (.bin .mod (.var 1) (.glob 32))]
def d_sum_of : Df := ⟨["signs"], ["signs", "total", "at", "sign"], b_sum_of⟩
abbrev i_sum_of : Nat := 9
def b_are_signs : List Sm := [.ret (.and (.bi .isinst [.var 0, .bty .str]) (.call 2 [.repl (.var 0) [10] []]))]
def d_are_signs : Df := ⟨["value"], ["value"], b_are_signs⟩
abbrev i_are_signs : Nat := 10
def b_check_signs : List Sm := [.ite (.not (.call 10 [.var 0])) [.never] []]
def d_check_signs : Df := ⟨["signs"], ["signs"], b_check_signs⟩
abbrev i_check_signs : Nat := 11
def b_reversed_bits : List Sm := [.ex (.call 14 [.var 0, .var 1, .glob 34]), .asg (.nm 2) (.con (.int 0)), .for_ (.nm 3) .rng [.var 1] [.asg (.nm 2) (.bin .add (.bin .mul (.var 2) (.con (.int 2))) (.bin .band (.bin .shr (.var 0) (.var 3)) (.con (.int 1))))], .ret (.var 2)]
def d_reversed_bits : Df := ⟨["value", "bits"], ["value", "bits", "turned", "at"], b_reversed_bits⟩
abbrev i_reversed_bits : Nat := 12
def b_bucket_spots : List Sm := [.ex (.call 14 [.var 0, .var 1, .glob 31]), .asg (.nm 2) (.bin .shl (.con (.int 1)) (.bin .sub (.glob 31) (.var 1))), .asg (.nm 3) (.bin .mul (.call 12 [.var 0, .var 1]) (.var 2)), .ret (.tup [.var 3, .bin .sub (.bin .add (.var 3) (.var 2)) (.con (.int 1))])]
def d_bucket_spots : Df := ⟨["bucket", "bits"], ["bucket", "bits", "width", "first"], b_bucket_spots⟩
abbrev i_bucket_spots : Nat := 13
def b__check_bits : List Sm := [.ex (.calld 6 [.var 0] 0), .ex (.call 5 [.var 1, .con (.int 0), .var 2]), .ite (.cmp .ge (.var 0) (.bin .shl (.con (.int 1)) (.var 1))) [.never] []]
def d__check_bits : Df := ⟨["value", "bits", "most"], ["value", "bits", "most"], b__check_bits⟩
abbrev i__check_bits : Nat := 14
def b__law_dice : List Sm := [.asg (.nm 2) (.bin .add (.bin .mul (.con (.int 83)) (.var 1)) (.con (.int 59))), .ite (.cmp .lt (.var 1) (.bi .len [.var 0])) [.asg (.nm 2) (.ix (.var 0) (.var 1))] [], .asg (.nm 3) (.bin .mod (.bi .int [.bi .abs [.var 2]]) (.bin .pow (.bin .pow (.con (.int 10)) (.con (.int 60))) (.con (.int 10)))), .asg (.nm 4) (.bin .fdiv (.var 3) (.bin .pow (.con (.int 10)) (.con (.int 18)))), .asg (.nm 5) (.bin .add (.bin .add (.bin .add (.bin .mul (.bin .mod (.var 3) (.con (.int 2147482811))) (.con (.int 60509))) (.bin .mul (.con (.int 3499)) (.var 1))) (.bin .mul (.con (.int 73)) (.bi .int [.cmp .lt (.var 2) (.con (.int 0))]))) (.con (.int 101))), .ret (.lst [.var 4, .bin .mod (.var 5) (.con (.int 2147482801)), .con (.int 0)])]
def d__law_dice : Df := ⟨["_law_script", "_law_at"], ["_law_script", "_law_at", "_law_cell", "_law_great", "_law_left", "_law_mixed"], b__law_dice⟩
abbrev i__law_dice : Nat := 15
def b__law_roll : List Sm := [.asg (.nm 2) (.bi .int [.var 1]), .ite (.cmp .gt (.ix (.var 0) (.con (.int 0))) (.con (.int 0))) [.asg (.nm 5) (.bin .mod (.ix (.var 0) (.con (.int 0))) (.var 2)), .asg (.ix (.var 0) (.con (.int 0))) (.bin .fdiv (.ix (.var 0) (.con (.int 0))) (.var 2)), .ret (.bi .int [.var 5])] [], .asg (.ix (.var 0) (.con (.int 2))) (.bin .add (.ix (.var 0) (.con (.int 2))) (.con (.int 1))), .asg (.nm 3) (.bin .mod (.bin .add (.ix (.var 0) (.con (.int 1))) (.bin .mul (.con (.int 1000333)) (.ix (.var 0) (.con (.int 2))))) (.con (.int 2305843009213693951))), .asg (.nm 4) (.bin .add (.bin .mul (.bin .mod (.bin .mul (.var 3) (.var 3)) (.con (.int 2305843009213693921))) (.var 3)) (.bin .mul (.con (.int 9479)) (.ix (.var 0) (.con (.int 2))))), .asg (.nm 4) (.bin .mod (.var 4) (.con (.int 2305843009213693907))), .ret (.bi .int [.bin .mod (.bin .fdiv (.var 4) (.con (.int 4096))) (.var 2)])]
def d__law_roll : Df := ⟨["_law_dice_here", "_law_total"], ["_law_dice_here", "_law_total", "_law_size", "_law_one", "_law_two", "_law_drawn"], b__law_roll⟩
abbrev i__law_roll : Nat := 16
def b__law_one_of : List Sm := [.ret (.ix (.var 1) (.call 16 [.var 0, .bi .len [.var 1]]))]
def d__law_one_of : Df := ⟨["_law_dice_here", "_law_items"], ["_law_dice_here", "_law_items"], b__law_one_of⟩
abbrev i__law_one_of : Nat := 17
def b__law_key : List Sm := [.ret (.call 17 [.var 0, .lst [.con (.str [97]), .con (.str [97, 99]), .con (.str [98, 66]), .con (.str [107, 101, 121]), .con (.str [108, 32, 49]), .con (.str [122])]])]
def d__law_key : Df := ⟨["_law_dice_here"], ["_law_dice_here"], b__law_key⟩
abbrev i__law_key : Nat := 18
def b__law_text : List Sm := [.asg (.nm 1) (.lst [.con (.str []), .con (.str [120]), .con (.str [97, 32, 98]), .con (.str [107, 59, 58]), .con (.str [55, 32, 56]), .con (.str [108, 111, 110, 103, 101, 114, 32, 116, 104, 97, 110, 32, 97, 108, 108, 32, 111, 102, 32, 116, 104, 101, 32, 111, 116, 104, 101, 114, 115])]), .ret (.ife (.cmp .eq (.call 16 [.var 0, .con (.int 2)]) (.con (.int 0))) (.call 17 [.var 0, .var 1]) (.call 20 [.var 0]))]
def d__law_text : Df := ⟨["_law_dice_here"], ["_law_dice_here", "_law_some"], b__law_text⟩
abbrev i__law_text : Nat := 19
def b__law_number : List Sm := [.ite (.cmp .eq (.call 16 [.var 0, .con (.int 12)]) (.con (.int 0))) [.ret (.bi .str [.call 17 [.var 0, .lst [.bin .sub (.bin .pow (.con (.int 2)) (.con (.int 63))) (.con (.int 1)), .bin .sub (.bin .sub (.con (.int 1)) (.bin .pow (.con (.int 2)) (.con (.int 63)))) (.con (.int 1)), .bin .pow (.con (.int 2)) (.con (.int 62)), .bin .pow (.con (.int 10)) (.con (.int 18))]]])] [], .ret (.bi .str [.bin .sub (.call 16 [.var 0, .con (.int 9)]) (.con (.int 4))])]
def d__law_number : Df := ⟨["_law_dice_here"], ["_law_dice_here"], b__law_number⟩
abbrev i__law_number : Nat := 20
def b__law_power : List Sm := [.asg (.nm 1) (.con (.int 1)), .for_ (.nm 2) .rng [.var 0] [.asg (.nm 1) (.bin .mul (.var 1) (.con (.int 2)))], .ret (.var 1)]
def d__law_power : Df := ⟨["_law_bits"], ["_law_bits", "_law_found", "_law_turn"], b__law_power⟩
abbrev i__law_power : Nat := 21
def b__law_turned : List Sm := [.asg (.nm 2) (.lst []), .for_ (.nm 3) .rng [.var 1] [.ex (.mt 0 .append (.var 2) [.bin .mod (.bi .int [.var 0]) (.con (.int 2))]), .asg (.nm 0) (.bin .fdiv (.var 0) (.con (.int 2)))], .asg (.nm 4) (.con (.int 0)), .for_ (.nm 5) .seq [.var 2] [.asg (.nm 4) (.bin .add (.bin .mul (.var 4) (.con (.int 2))) (.var 5))], .ret (.var 4)]
def d__law_turned : Df := ⟨["_law_value", "_law_bits"], ["_law_value", "_law_bits", "_law_digits", "_law_turn", "_law_found", "_law_digit"], b__law_turned⟩
abbrev i__law_turned : Nat := 22
def b__law_hash : List Sm := [.asg (.nm 1) (.con (.int 0)), .for_ (.nm 2) .seq [.var 0] [.asg (.nm 1) (.bin .mod (.bi .int [.bin .add (.bin .mul (.var 1) (.con (.int 33))) (.bi .ord [.var 2])]) (.con (.int 65536)))], .ret (.var 1)]
def d__law_hash : Df := ⟨["_law_text_here"], ["_law_text_here", "_law_found", "_law_sign"], b__law_hash⟩
abbrev i__law_hash : Nat := 23
def b__law_sum : List Sm := [.asg (.nm 1) (.con (.int 0)), .for_ (.tp [2, 3]) .enum [.var 0] [.asg (.nm 1) (.bin .add (.var 1) (.bin .mul (.bi .ord [.var 3]) (.bin .add (.var 2) (.con (.int 1)))))], .ret (.bin .mod (.bi .int [.var 1]) (.con (.int 99991)))]
def d__law_sum : Df := ⟨["_law_signs_here"], ["_law_signs_here", "_law_found", "_law_at", "_law_sign"], b__law_sum⟩
abbrev i__law_sum : Nat := 24
def b__law_signs : List Sm := [.asg (.nm 2) (.con (.str [10, 32, 33, 48, 57, 65, 90, 97, 122, 126, 58, 59, 44, 98, 66])), .ret (.mt 0 .join (.con (.str [])) [.lc (.call 17 [.var 0, .bi .list [.var 2]]) [3] (.nm 3) .rng [.call 16 [.var 0, .var 1]] []])]
def d__law_signs : Df := ⟨["_law_dice_here", "_law_most"], ["_law_dice_here", "_law_most", "_law_some", "_law_turn"], b__law_signs⟩
abbrev i__law_signs : Nat := 25
def b__law_texts_right : List Sm := [.asg (.nm 1) (.lst [.call 19 [.var 0], .call 18 [.var 0], .repl (.call 25 [.var 0, .con (.int 12)]) [10] [110], .bin .mul (.con (.str [126])) (.call 16 [.var 0, .con (.int 201)])]), .for_ (.nm 2) .seq [.var 1] [.asg (.nm 3) (.call 23 [.var 2]), .ite (.or (.cmp .ne (.call 7 [.var 2]) (.var 3)) (.cmp .ne (.call 8 [.var 2]) (.call 22 [.var 3, .con (.int 16)]))) [.ret (.con (.bl false))] []], .ret (.con (.bl true))]
def d__law_texts_right : Df := ⟨["_law_dice_here"], ["_law_dice_here", "_law_some", "_law_text_here", "_law_number_here"], b__law_texts_right⟩
abbrev i__law_texts_right : Nat := 26
def b__law_bits_right : List Sm := [.asg (.nm 1) (.call 16 [.var 0, .con (.int 65)]), .asg (.nm 2) (.call 16 [.var 0, .call 21 [.bi .min [.var 1, .con (.int 40)]]]), .asg (.nm 3) (.call 22 [.var 2, .var 1]), .ite (.or (.cmp .ne (.call 12 [.var 2, .var 1]) (.var 3)) (.cmp .ne (.call 12 [.var 3, .var 1]) (.var 2))) [.ret (.con (.bl false))] [], .asg (.nm 1) (.call 16 [.var 0, .con (.int 17)]), .asg (.nm 4) (.call 21 [.var 1]), .asg (.tp [7, 8]) (.tup [.call 16 [.var 0, .var 4], .call 16 [.var 0, .con (.int 65536)]]), .asg (.tp [9, 10]) (.call 13 [.var 7, .var 1]), .ite (.or (.cmp .ne (.bin .add (.bin .sub (.var 10) (.var 9)) (.con (.int 1))) (.call 21 [.bin .sub (.con (.int 16)) (.var 1)])) (.cmp .ne (.var 9) (.bin .mul (.call 22 [.var 7, .var 1]) (.call 21 [.bin .sub (.con (.int 16)) (.var 1)])))) [.ret (.con (.bl false))] [], .asg (.nm 5) (.call 22 [.var 8, .con (.int 16)]), .ite (.cmp .ne (.chn .le .le (.var 9) (.var 5) (.var 10)) (.cmp .eq (.bin .mod (.bi .int [.var 8]) (.var 4)) (.var 7))) [.ret (.con (.bl false))] [], .ite (.cmp .eq (.var 1) (.con (.int 16))) [.ret (.chn .eq .eq (.var 9) (.var 10) (.call 22 [.var 7, .con (.int 16)]))] [], .asg (.nm 6) (.lst [.call 13 [.var 7, .bin .add (.var 1) (.con (.int 1))], .call 13 [.bin .add (.var 7) (.var 4), .bin .add (.var 1) (.con (.int 1))]]), .ret (.cmp .eq (.lst [.ix (.ix (.var 6) (.con (.int 0))) (.con (.int 0)), .bin .add (.ix (.ix (.var 6) (.con (.int 0))) (.con (.int 1))) (.con (.int 1)), .ix (.ix (.var 6) (.con (.int 1))) (.con (.int 1))]) (.lst [.var 9, .ix (.ix (.var 6) (.con (.int 1))) (.con (.int 0)), .var 10]))]
def d__law_bits_right : Df := ⟨["_law_dice_here"], ["_law_dice_here", "_law_bits", "_law_value", "_law_turned_here", "_law_many", "_law_spot", "_law_halves", "_law_bucket", "_law_number_here", "_law_first", "_law_last"], b__law_bits_right⟩
abbrev i__law_bits_right : Nat := 27
def b__law_sums_right : List Sm := [.asg (.nm 1) (.call 25 [.var 0, .con (.int 30)]), .ite (.cmp .ne (.call 9 [.var 1]) (.call 24 [.var 1])) [.ret (.con (.bl false))] [], .ite (.cmp .eq (.var 1) (.con (.str []))) [.ret (.con (.bl true))] [], .asg (.tp [5, 6]) (.tup [.call 16 [.var 0, .bi .len [.var 1]], .call 16 [.var 0, .bi .len [.var 1]]]), .asg (.nm 2) (.call 17 [.var 0, .lst [.con (.str [113]), .con (.str [48]), .con (.str [126])]]), .asg (.nm 3) (.bin .add (.bin .add (.sl (.var 1) .nop (.var 5)) (.var 2)) (.sl (.var 1) (.bin .add (.var 5) (.con (.int 1))) .nop)), .ite (.cmp .ne (.cmp .eq (.call 9 [.var 3]) (.call 9 [.var 1])) (.cmp .eq (.ix (.var 1) (.var 5)) (.var 2))) [.ret (.con (.bl false))] [], .asg (.tp [7, 8]) (.tup [.bi .min [.var 5, .var 6], .bi .max [.var 5, .var 6]]), .ite (.cmp .eq (.var 7) (.var 8)) [.ret (.con (.bl true))] [], .asg (.nm 4) (.bin .add (.bin .add (.bin .add (.bin .add (.sl (.var 1) .nop (.var 7)) (.ix (.var 1) (.var 8))) (.sl (.var 1) (.bin .add (.var 7) (.con (.int 1))) (.var 8))) (.ix (.var 1) (.var 7))) (.sl (.var 1) (.bin .add (.var 8) (.con (.int 1))) .nop)), .ret (.cmp .eq (.cmp .eq (.call 9 [.var 4]) (.call 9 [.var 1])) (.cmp .eq (.ix (.var 1) (.var 7)) (.ix (.var 1) (.var 8))))]
def d__law_sums_right : Df := ⟨["_law_dice_here"], ["_law_dice_here", "_law_signs_here", "_law_other", "_law_changed", "_law_swapped", "_law_at", "_law_to", "_law_low", "_law_high"], b__law_sums_right⟩
abbrev i__law_sums_right : Nat := 28
def b_law : List Sm := [.for_ (.nm 1) .rng [.bi .max [.con (.int 1), .bi .min [.con (.int 5), .bi .len [.var 0]]]] [.asg (.nm 3) (.call 15 [.var 0, .var 1]), .for_ (.nm 4) .rng [.con (.int 3)] [.ite (.or (.not (.call 26 [.var 3])) (.or (.not (.call 27 [.var 3])) (.not (.call 28 [.var 3])))) [.ret (.con (.bl false))] []]], .asg (.nm 2) (.lst [.call 7 [.con (.str [97, 99])], .call 7 [.con (.str [98, 66])], .call 8 [.con (.str [])], .call 9 [.con (.str [])], .call 9 [.con (.str [10])], .call 13 [.con (.int 1), .con (.int 1)]]), .ret (.cmp .eq (.bin .add (.var 2) (.lst [.call 12 [.con (.int 3), .con (.int 64)]])) (.lst [.con (.int 3300), .con (.int 3300), .con (.int 0), .con (.int 0), .con (.int 10), .tup [.con (.int 32768), .con (.int 65535)], .bin .mul (.con (.int 3)) (.con (.int 4611686018427387904))]))]
def d_law : Df := ⟨["_law_script"], ["_law_script", "_law_at", "_law_told", "_law_dice_here", "_law_turn"], b_law⟩
abbrev i_law : Nat := 29
def defs : List Df := [d_is_within, d_is_count, d_is_printed, d_is_text, d_check_text, d_check_within, d_check_count, d_hash_of, d_spot_of, d_sum_of, d_are_signs, d_check_signs, d_reversed_bits, d_bucket_spots, d__check_bits, d__law_dice, d__law_roll, d__law_one_of, d__law_key, d__law_text, d__law_number, d__law_power, d__law_turned, d__law_hash, d__law_sum, d__law_signs, d__law_texts_right, d__law_bits_right, d__law_sums_right, d_law]
def gn : List Str := (["is_within", "is_count", "is_printed", "is_text", "check_text", "check_within", "check_count", "hash_of", "spot_of", "sum_of", "are_signs", "check_signs", "reversed_bits", "bucket_spots", "_check_bits", "_law_dice"] : List Str) ++ (["_law_roll", "_law_one_of", "_law_key", "_law_text", "_law_number", "_law_power", "_law_turned", "_law_hash", "_law_sum", "_law_signs", "_law_texts_right", "_law_bits_right", "_law_sums_right", "law", "MAX_TEXT", "HASH_BITS"] : List Str) ++ (["SUM_MODULUS", "_HASH_MODULUS", "_MAX_BITS"] : List Str)
def anl : List Str := []
def nm : Nm := ⟨gn, anl⟩
def T : Tb := ⟨[.fn 0, .fn 1, .fn 2, .fn 3, .fn 4, .fn 5, .fn 6, .fn 7, .fn 8, .fn 9, .fn 10, .fn 11, .fn 12, .fn 13, .fn 14, .fn 15, .fn 16, .fn 17, .fn 18, .fn 19, .fn 20, .fn 21, .fn 22, .fn 23, .fn 24, .fn 25, .fn 26, .fn 27, .fn 28, .fn 29, .int 200, .int 16, .int 99991, .int 65536, .int 64],
  [],
  [(6, [.int 0])],
  []⟩
abbrev s_is_within : Stmt := top 6
def D_is_within : DA := ⟨fun K => He.ga K "is_within", "is_within", "is_within", defArgs s_is_within, defBody s_is_within, defScope s_is_within, [], []⟩
abbrev s_is_count : Stmt := top 7
def D_is_count : DA := ⟨fun K => He.ga K "is_count", "is_count", "is_count", defArgs s_is_count, defBody s_is_count, defScope s_is_count, [.int 0], []⟩
abbrev s_is_printed : Stmt := top 8
def D_is_printed : DA := ⟨fun K => He.ga K "is_printed", "is_printed", "is_printed", defArgs s_is_printed, defBody s_is_printed, defScope s_is_printed, [], []⟩
abbrev s_is_text : Stmt := top 9
def D_is_text : DA := ⟨fun K => He.ga K "is_text", "is_text", "is_text", defArgs s_is_text, defBody s_is_text, defScope s_is_text, [], []⟩
abbrev s_check_text : Stmt := top 10
def D_check_text : DA := ⟨fun K => He.ga K "check_text", "check_text", "check_text", defArgs s_check_text, defBody s_check_text, defScope s_check_text, [], []⟩
abbrev s_check_within : Stmt := top 11
def D_check_within : DA := ⟨fun K => He.ga K "check_within", "check_within", "check_within", defArgs s_check_within, defBody s_check_within, defScope s_check_within, [], []⟩
abbrev s_check_count : Stmt := top 12
def D_check_count : DA := ⟨fun K => He.ga K "check_count", "check_count", "check_count", defArgs s_check_count, defBody s_check_count, defScope s_check_count, [.int 0], []⟩
abbrev s_hash_of : Stmt := top 18
def D_hash_of : DA := ⟨fun K => He.ga K "hash_of", "hash_of", "hash_of", defArgs s_hash_of, defBody s_hash_of, defScope s_hash_of, [], []⟩
abbrev s_spot_of : Stmt := top 19
def D_spot_of : DA := ⟨fun K => He.ga K "spot_of", "spot_of", "spot_of", defArgs s_spot_of, defBody s_spot_of, defScope s_spot_of, [], []⟩
abbrev s_sum_of : Stmt := top 20
def D_sum_of : DA := ⟨fun K => He.ga K "sum_of", "sum_of", "sum_of", defArgs s_sum_of, defBody s_sum_of, defScope s_sum_of, [], []⟩
abbrev s_are_signs : Stmt := top 21
def D_are_signs : DA := ⟨fun K => He.ga K "are_signs", "are_signs", "are_signs", defArgs s_are_signs, defBody s_are_signs, defScope s_are_signs, [], []⟩
abbrev s_check_signs : Stmt := top 22
def D_check_signs : DA := ⟨fun K => He.ga K "check_signs", "check_signs", "check_signs", defArgs s_check_signs, defBody s_check_signs, defScope s_check_signs, [], []⟩
abbrev s_reversed_bits : Stmt := top 23
def D_reversed_bits : DA := ⟨fun K => He.ga K "reversed_bits", "reversed_bits", "reversed_bits", defArgs s_reversed_bits, defBody s_reversed_bits, defScope s_reversed_bits, [], []⟩
abbrev s_bucket_spots : Stmt := top 24
def D_bucket_spots : DA := ⟨fun K => He.ga K "bucket_spots", "bucket_spots", "bucket_spots", defArgs s_bucket_spots, defBody s_bucket_spots, defScope s_bucket_spots, [], []⟩
abbrev s__check_bits : Stmt := top 25
def D__check_bits : DA := ⟨fun K => He.ga K "_check_bits", "_check_bits", "_check_bits", defArgs s__check_bits, defBody s__check_bits, defScope s__check_bits, [], []⟩
abbrev s__law_dice : Stmt := top 27
def D__law_dice : DA := ⟨fun K => He.ga K "_law_dice", "_law_dice", "_law_dice", defArgs s__law_dice, defBody s__law_dice, defScope s__law_dice, [], []⟩
abbrev s__law_roll : Stmt := top 28
def D__law_roll : DA := ⟨fun K => He.ga K "_law_roll", "_law_roll", "_law_roll", defArgs s__law_roll, defBody s__law_roll, defScope s__law_roll, [], []⟩
abbrev s__law_one_of : Stmt := top 29
def D__law_one_of : DA := ⟨fun K => He.ga K "_law_one_of", "_law_one_of", "_law_one_of", defArgs s__law_one_of, defBody s__law_one_of, defScope s__law_one_of, [], []⟩
abbrev s__law_key : Stmt := top 30
def D__law_key : DA := ⟨fun K => He.ga K "_law_key", "_law_key", "_law_key", defArgs s__law_key, defBody s__law_key, defScope s__law_key, [], []⟩
abbrev s__law_text : Stmt := top 31
def D__law_text : DA := ⟨fun K => He.ga K "_law_text", "_law_text", "_law_text", defArgs s__law_text, defBody s__law_text, defScope s__law_text, [], []⟩
abbrev s__law_number : Stmt := top 32
def D__law_number : DA := ⟨fun K => He.ga K "_law_number", "_law_number", "_law_number", defArgs s__law_number, defBody s__law_number, defScope s__law_number, [], []⟩
abbrev s__law_power : Stmt := top 33
def D__law_power : DA := ⟨fun K => He.ga K "_law_power", "_law_power", "_law_power", defArgs s__law_power, defBody s__law_power, defScope s__law_power, [], []⟩
abbrev s__law_turned : Stmt := top 34
def D__law_turned : DA := ⟨fun K => He.ga K "_law_turned", "_law_turned", "_law_turned", defArgs s__law_turned, defBody s__law_turned, defScope s__law_turned, [], []⟩
abbrev s__law_hash : Stmt := top 35
def D__law_hash : DA := ⟨fun K => He.ga K "_law_hash", "_law_hash", "_law_hash", defArgs s__law_hash, defBody s__law_hash, defScope s__law_hash, [], []⟩
abbrev s__law_sum : Stmt := top 36
def D__law_sum : DA := ⟨fun K => He.ga K "_law_sum", "_law_sum", "_law_sum", defArgs s__law_sum, defBody s__law_sum, defScope s__law_sum, [], []⟩
abbrev s__law_signs : Stmt := top 37
def D__law_signs : DA := ⟨fun K => He.ga K "_law_signs", "_law_signs", "_law_signs", defArgs s__law_signs, defBody s__law_signs, defScope s__law_signs, [], []⟩
abbrev s__law_texts_right : Stmt := top 38
def D__law_texts_right : DA := ⟨fun K => He.ga K "_law_texts_right", "_law_texts_right", "_law_texts_right", defArgs s__law_texts_right, defBody s__law_texts_right, defScope s__law_texts_right, [], []⟩
abbrev s__law_bits_right : Stmt := top 39
def D__law_bits_right : DA := ⟨fun K => He.ga K "_law_bits_right", "_law_bits_right", "_law_bits_right", defArgs s__law_bits_right, defBody s__law_bits_right, defScope s__law_bits_right, [], []⟩
abbrev s__law_sums_right : Stmt := top 40
def D__law_sums_right : DA := ⟨fun K => He.ga K "_law_sums_right", "_law_sums_right", "_law_sums_right", defArgs s__law_sums_right, defBody s__law_sums_right, defScope s__law_sums_right, [], []⟩
abbrev s_law : Stmt := top 41
def D_law : DA := ⟨fun K => He.ga K "law", "law", "law", defArgs s_law, defBody s_law, defScope s_law, [], []⟩
def fn : List DA := [D_is_within, D_is_count, D_is_printed, D_is_text, D_check_text, D_check_within, D_check_count, D_hash_of, D_spot_of, D_sum_of, D_are_signs, D_check_signs, D_reversed_bits, D_bucket_spots, D__check_bits, D__law_dice, D__law_roll, D__law_one_of, D__law_key, D__law_text, D__law_number, D__law_power, D__law_turned, D__law_hash, D__law_sum, D__law_signs, D__law_texts_right, D__law_bits_right, D__law_sums_right, D_law]
def fa : List He.Fa := [.glo "is_within", .glo "is_count", .glo "is_printed", .glo "is_text", .glo "check_text", .glo "check_within", .glo "check_count", .glo "hash_of", .glo "spot_of", .glo "sum_of", .glo "are_signs", .glo "check_signs", .glo "reversed_bits", .glo "bucket_spots", .glo "_check_bits", .glo "_law_dice", .glo "_law_roll", .glo "_law_one_of", .glo "_law_key", .glo "_law_text", .glo "_law_number", .glo "_law_power", .glo "_law_turned", .glo "_law_hash", .glo "_law_sum", .glo "_law_signs", .glo "_law_texts_right", .glo "_law_bits_right", .glo "_law_sums_right", .glo "law", .int "MAX_TEXT" 200, .int "HASH_BITS" 16, .int "SUM_MODULUS" 99991, .int "_HASH_MODULUS" 65536, .int "_MAX_BITS" 64, .free "len", .free "abs", .free "max", .free "min", .free "int", .free "str", .free "bool", .free "list", .free "tuple", .free "sorted", .free "sum", .free "any", .free "all", .free "ord", .free "isinstance", .free "repr", .free "dict", .free "range", .free "enumerate", .free "zip", .free "reversed", .free "set"]
def loose : List Str := (["__name__", "DeedError", "InvalidText", "InvalidNumber", "MAX_TEXT", "is_within", "is_count", "is_printed", "is_text", "check_text", "check_within", "check_count", "HASH_BITS", "SUM_MODULUS", "_HASH_MODULUS", "_MAX_BITS"] : List Str) ++ (["hash_of", "spot_of", "sum_of", "are_signs", "check_signs", "reversed_bits", "bucket_spots", "_check_bits", "_law_dice", "_law_roll", "_law_one_of", "_law_key", "_law_text", "_law_number", "_law_power", "_law_turned"] : List Str) ++ (["_law_hash", "_law_sum", "_law_signs", "_law_texts_right", "_law_bits_right", "_law_sums_right"] : List Str)
abbrev lawTop : Nat := 41
def cnm : List Str := []
def gm (K : PySem.W.Frag) : Gm := { K := K, fa := fun i => (fn.getD i D_law).at_ K, ca := fun c => He.ga K (cnm.getD c Str.empty), an := anl }
def ck (K : PySem.W.Frag) : Bool := cokB (gm K) T
theorem anl_nd : anl.Nodup := by decide +kernel
section
variable {K : PySem.W.Frag} {h : Heap} {mg : Str → Option Value}
theorem c_is_within : chkSs T nm (d_is_within.fx (defScope s_is_within)) d_is_within.body (defBody s_is_within) = true := by decide +kernel
theorem S_is_within : FnScope d_is_within.N d_is_within.ps (defScope s_is_within) := ⟨rfl, rfl, rfl, by decide +kernel, rfl, by decide +kernel, by decide +kernel⟩
theorem k_is_within (c : SaM ck fa fn K) : ∃ fd, DOk (gm K) T nm K 0 d_is_within fd := by
  obtain ⟨fd, F⟩ := c.def_ 0 (d := D_is_within) rfl
  exact ⟨fd, ⟨_, _, _, _, _, ⟨_, _, F⟩, S_is_within, .inl c_is_within⟩, F.bindsN fun _ _ _ _ _ _ us hl => match us, hl with | [_, _, _], _ => rfl, F.kp, dfl_none (by decide)⟩
theorem c_is_count : chkSs T nm (d_is_count.fx (defScope s_is_count)) d_is_count.body (defBody s_is_count) = true := by decide +kernel
theorem S_is_count : FnScope d_is_count.N d_is_count.ps (defScope s_is_count) := ⟨rfl, rfl, rfl, by decide +kernel, rfl, by decide +kernel, by decide +kernel⟩
theorem k_is_count (c : SaM ck fa fn K) : ∃ fd, DOk (gm K) T nm K 1 d_is_count fd := by
  obtain ⟨fd, F⟩ := c.def_ 1 (d := D_is_count) rfl
  exact ⟨fd, ⟨_, _, _, _, _, ⟨_, _, F⟩, S_is_count, .inl c_is_count⟩, bindsF F (List.cons_ne_nil _ _) fun _ _ _ _ _ _ _ us its hl hi => match us, its, hl, hi with | [_, _], [_], _, _ => ⟨_, rfl, rfl⟩, F.kp, dfl_none (by decide)⟩
theorem c_is_printed : chkSs T nm (d_is_printed.fx (defScope s_is_printed)) d_is_printed.body (defBody s_is_printed) = true := by decide +kernel
theorem S_is_printed : FnScope d_is_printed.N d_is_printed.ps (defScope s_is_printed) := ⟨rfl, rfl, rfl, by decide +kernel, rfl, by decide +kernel, by decide +kernel⟩
theorem k_is_printed (c : SaM ck fa fn K) : ∃ fd, DOk (gm K) T nm K 2 d_is_printed fd := by
  obtain ⟨fd, F⟩ := c.def_ 2 (d := D_is_printed) rfl
  exact ⟨fd, ⟨_, _, _, _, _, ⟨_, _, F⟩, S_is_printed, .inl c_is_printed⟩, F.bindsN fun _ _ _ _ _ _ us hl => match us, hl with | [_], _ => rfl, F.kp, dfl_none (by decide)⟩
theorem c_is_text : chkSs T nm (d_is_text.fx (defScope s_is_text)) d_is_text.body (defBody s_is_text) = true := by decide +kernel
theorem S_is_text : FnScope d_is_text.N d_is_text.ps (defScope s_is_text) := ⟨rfl, rfl, rfl, by decide +kernel, rfl, by decide +kernel, by decide +kernel⟩
theorem k_is_text (c : SaM ck fa fn K) : ∃ fd, DOk (gm K) T nm K 3 d_is_text fd := by
  obtain ⟨fd, F⟩ := c.def_ 3 (d := D_is_text) rfl
  exact ⟨fd, ⟨_, _, _, _, _, ⟨_, _, F⟩, S_is_text, .inl c_is_text⟩, F.bindsN fun _ _ _ _ _ _ us hl => match us, hl with | [_], _ => rfl, F.kp, dfl_none (by decide)⟩
theorem c_check_text : chkSs T nm (d_check_text.fx (defScope s_check_text)) d_check_text.body (defBody s_check_text) = true := by decide +kernel
theorem S_check_text : FnScope d_check_text.N d_check_text.ps (defScope s_check_text) := ⟨rfl, rfl, rfl, by decide +kernel, rfl, by decide +kernel, by decide +kernel⟩
theorem k_check_text (c : SaM ck fa fn K) : ∃ fd, DOk (gm K) T nm K 4 d_check_text fd := by
  obtain ⟨fd, F⟩ := c.def_ 4 (d := D_check_text) rfl
  exact ⟨fd, ⟨_, _, _, _, _, ⟨_, _, F⟩, S_check_text, .inl c_check_text⟩, F.bindsN fun _ _ _ _ _ _ us hl => match us, hl with | [_], _ => rfl, F.kp, dfl_none (by decide)⟩
theorem c_check_within : chkSs T nm (d_check_within.fx (defScope s_check_within)) d_check_within.body (defBody s_check_within) = true := by decide +kernel
theorem S_check_within : FnScope d_check_within.N d_check_within.ps (defScope s_check_within) := ⟨rfl, rfl, rfl, by decide +kernel, rfl, by decide +kernel, by decide +kernel⟩
theorem k_check_within (c : SaM ck fa fn K) : ∃ fd, DOk (gm K) T nm K 5 d_check_within fd := by
  obtain ⟨fd, F⟩ := c.def_ 5 (d := D_check_within) rfl
  exact ⟨fd, ⟨_, _, _, _, _, ⟨_, _, F⟩, S_check_within, .inl c_check_within⟩, F.bindsN fun _ _ _ _ _ _ us hl => match us, hl with | [_, _, _], _ => rfl, F.kp, dfl_none (by decide)⟩
theorem c_check_count : chkSs T nm (d_check_count.fx (defScope s_check_count)) d_check_count.body (defBody s_check_count) = true := by decide +kernel
theorem S_check_count : FnScope d_check_count.N d_check_count.ps (defScope s_check_count) := ⟨rfl, rfl, rfl, by decide +kernel, rfl, by decide +kernel, by decide +kernel⟩
theorem k_check_count (c : SaM ck fa fn K) : ∃ fd, DOk (gm K) T nm K 6 d_check_count fd := by
  obtain ⟨fd, F⟩ := c.def_ 6 (d := D_check_count) rfl
  exact ⟨fd, ⟨_, _, _, _, _, ⟨_, _, F⟩, S_check_count, .inl c_check_count⟩, bindsF F (List.cons_ne_nil _ _) fun _ _ _ _ _ _ _ us its hl hi => match us, its, hl, hi with | [_, _], [_], _, _ => ⟨_, rfl, rfl⟩, F.kp, dfl_of (l := [[.int 0]]) rfl ⟨(let ⟨us, r, b⟩ := F.binds1 1 0 (List.cons_ne_nil _ _) rfl (fun _ _ _ _ _ _ _ us its hl hi => match us, its, hl, hi with | [_], [_], _, _ => ⟨_, rfl, rfl⟩); ⟨_, us, fun as H => .cons (.int _) (.nil), r, b⟩), trivial⟩⟩
theorem c_hash_of : chkSs T nm (d_hash_of.fx (defScope s_hash_of)) d_hash_of.body (defBody s_hash_of) = true := by decide +kernel
theorem S_hash_of : FnScope d_hash_of.N d_hash_of.ps (defScope s_hash_of) := ⟨rfl, rfl, rfl, by decide +kernel, rfl, by decide +kernel, by decide +kernel⟩
theorem k_hash_of (c : SaM ck fa fn K) : ∃ fd, DOk (gm K) T nm K 7 d_hash_of fd := by
  obtain ⟨fd, F⟩ := c.def_ 7 (d := D_hash_of) rfl
  exact ⟨fd, ⟨_, _, _, _, _, ⟨_, _, F⟩, S_hash_of, .inl c_hash_of⟩, F.bindsN fun _ _ _ _ _ _ us hl => match us, hl with | [_], _ => rfl, F.kp, dfl_none (by decide)⟩
theorem c_spot_of : chkSs T nm (d_spot_of.fx (defScope s_spot_of)) d_spot_of.body (defBody s_spot_of) = true := by decide +kernel
theorem S_spot_of : FnScope d_spot_of.N d_spot_of.ps (defScope s_spot_of) := ⟨rfl, rfl, rfl, by decide +kernel, rfl, by decide +kernel, by decide +kernel⟩
theorem k_spot_of (c : SaM ck fa fn K) : ∃ fd, DOk (gm K) T nm K 8 d_spot_of fd := by
  obtain ⟨fd, F⟩ := c.def_ 8 (d := D_spot_of) rfl
  exact ⟨fd, ⟨_, _, _, _, _, ⟨_, _, F⟩, S_spot_of, .inl c_spot_of⟩, F.bindsN fun _ _ _ _ _ _ us hl => match us, hl with | [_], _ => rfl, F.kp, dfl_none (by decide)⟩
theorem c_sum_of : chkSs T nm (d_sum_of.fx (defScope s_sum_of)) d_sum_of.body (defBody s_sum_of) = true := by decide +kernel
theorem S_sum_of : FnScope d_sum_of.N d_sum_of.ps (defScope s_sum_of) := ⟨rfl, rfl, rfl, by decide +kernel, rfl, by decide +kernel, by decide +kernel⟩
theorem k_sum_of (c : SaM ck fa fn K) : ∃ fd, DOk (gm K) T nm K 9 d_sum_of fd := by
  obtain ⟨fd, F⟩ := c.def_ 9 (d := D_sum_of) rfl
  exact ⟨fd, ⟨_, _, _, _, _, ⟨_, _, F⟩, S_sum_of, .inl c_sum_of⟩, F.bindsN fun _ _ _ _ _ _ us hl => match us, hl with | [_], _ => rfl, F.kp, dfl_none (by decide)⟩
theorem c_are_signs : chkSTs T nm (d_are_signs.fx (defScope s_are_signs)) d_are_signs.body (defBody s_are_signs) = true := by decide +kernel
theorem S_are_signs : FnScope d_are_signs.N d_are_signs.ps (defScope s_are_signs) := ⟨rfl, rfl, rfl, by decide +kernel, rfl, by decide +kernel, by decide +kernel⟩
theorem k_are_signs (c : SaM ck fa fn K) : ∃ fd, DOk (gm K) T nm K 10 d_are_signs fd := by
  obtain ⟨fd, F⟩ := c.def_ 10 (d := D_are_signs) rfl
  exact ⟨fd, ⟨_, _, _, _, _, ⟨_, _, F⟩, S_are_signs, .inr ⟨by decide +kernel, by decide, c_are_signs⟩⟩, F.bindsN fun _ _ _ _ _ _ us hl => match us, hl with | [_], _ => rfl, F.kp, dfl_none (by decide)⟩
theorem c_check_signs : chkSs T nm (d_check_signs.fx (defScope s_check_signs)) d_check_signs.body (defBody s_check_signs) = true := by decide +kernel
theorem S_check_signs : FnScope d_check_signs.N d_check_signs.ps (defScope s_check_signs) := ⟨rfl, rfl, rfl, by decide +kernel, rfl, by decide +kernel, by decide +kernel⟩
theorem k_check_signs (c : SaM ck fa fn K) : ∃ fd, DOk (gm K) T nm K 11 d_check_signs fd := by
  obtain ⟨fd, F⟩ := c.def_ 11 (d := D_check_signs) rfl
  exact ⟨fd, ⟨_, _, _, _, _, ⟨_, _, F⟩, S_check_signs, .inl c_check_signs⟩, F.bindsN fun _ _ _ _ _ _ us hl => match us, hl with | [_], _ => rfl, F.kp, dfl_none (by decide)⟩
theorem c_reversed_bits : chkSs T nm (d_reversed_bits.fx (defScope s_reversed_bits)) d_reversed_bits.body (defBody s_reversed_bits) = true := by decide +kernel
theorem S_reversed_bits : FnScope d_reversed_bits.N d_reversed_bits.ps (defScope s_reversed_bits) := ⟨rfl, rfl, rfl, by decide +kernel, rfl, by decide +kernel, by decide +kernel⟩
theorem k_reversed_bits (c : SaM ck fa fn K) : ∃ fd, DOk (gm K) T nm K 12 d_reversed_bits fd := by
  obtain ⟨fd, F⟩ := c.def_ 12 (d := D_reversed_bits) rfl
  exact ⟨fd, ⟨_, _, _, _, _, ⟨_, _, F⟩, S_reversed_bits, .inl c_reversed_bits⟩, F.bindsN fun _ _ _ _ _ _ us hl => match us, hl with | [_, _], _ => rfl, F.kp, dfl_none (by decide)⟩
theorem c_bucket_spots : chkSs T nm (d_bucket_spots.fx (defScope s_bucket_spots)) d_bucket_spots.body (defBody s_bucket_spots) = true := by decide +kernel
theorem S_bucket_spots : FnScope d_bucket_spots.N d_bucket_spots.ps (defScope s_bucket_spots) := ⟨rfl, rfl, rfl, by decide +kernel, rfl, by decide +kernel, by decide +kernel⟩
theorem k_bucket_spots (c : SaM ck fa fn K) : ∃ fd, DOk (gm K) T nm K 13 d_bucket_spots fd := by
  obtain ⟨fd, F⟩ := c.def_ 13 (d := D_bucket_spots) rfl
  exact ⟨fd, ⟨_, _, _, _, _, ⟨_, _, F⟩, S_bucket_spots, .inl c_bucket_spots⟩, F.bindsN fun _ _ _ _ _ _ us hl => match us, hl with | [_, _], _ => rfl, F.kp, dfl_none (by decide)⟩
theorem c__check_bits : chkSs T nm (d__check_bits.fx (defScope s__check_bits)) d__check_bits.body (defBody s__check_bits) = true := by decide +kernel
theorem S__check_bits : FnScope d__check_bits.N d__check_bits.ps (defScope s__check_bits) := ⟨rfl, rfl, rfl, by decide +kernel, rfl, by decide +kernel, by decide +kernel⟩
theorem k__check_bits (c : SaM ck fa fn K) : ∃ fd, DOk (gm K) T nm K 14 d__check_bits fd := by
  obtain ⟨fd, F⟩ := c.def_ 14 (d := D__check_bits) rfl
  exact ⟨fd, ⟨_, _, _, _, _, ⟨_, _, F⟩, S__check_bits, .inl c__check_bits⟩, F.bindsN fun _ _ _ _ _ _ us hl => match us, hl with | [_, _, _], _ => rfl, F.kp, dfl_none (by decide)⟩
theorem c__law_dice : chkSs T nm (d__law_dice.fx (defScope s__law_dice)) d__law_dice.body (defBody s__law_dice) = true := by decide +kernel
theorem S__law_dice : FnScope d__law_dice.N d__law_dice.ps (defScope s__law_dice) := ⟨rfl, rfl, rfl, by decide +kernel, rfl, by decide +kernel, by decide +kernel⟩
theorem k__law_dice (c : SaM ck fa fn K) : ∃ fd, DOk (gm K) T nm K 15 d__law_dice fd := by
  obtain ⟨fd, F⟩ := c.def_ 15 (d := D__law_dice) rfl
  exact ⟨fd, ⟨_, _, _, _, _, ⟨_, _, F⟩, S__law_dice, .inl c__law_dice⟩, F.bindsN fun _ _ _ _ _ _ us hl => match us, hl with | [_, _], _ => rfl, F.kp, dfl_none (by decide)⟩
theorem c__law_roll : chkSs T nm (d__law_roll.fx (defScope s__law_roll)) d__law_roll.body (defBody s__law_roll) = true := by decide +kernel
theorem S__law_roll : FnScope d__law_roll.N d__law_roll.ps (defScope s__law_roll) := ⟨rfl, rfl, rfl, by decide +kernel, rfl, by decide +kernel, by decide +kernel⟩
theorem k__law_roll (c : SaM ck fa fn K) : ∃ fd, DOk (gm K) T nm K 16 d__law_roll fd := by
  obtain ⟨fd, F⟩ := c.def_ 16 (d := D__law_roll) rfl
  exact ⟨fd, ⟨_, _, _, _, _, ⟨_, _, F⟩, S__law_roll, .inl c__law_roll⟩, F.bindsN fun _ _ _ _ _ _ us hl => match us, hl with | [_, _], _ => rfl, F.kp, dfl_none (by decide)⟩
theorem c__law_one_of : chkSs T nm (d__law_one_of.fx (defScope s__law_one_of)) d__law_one_of.body (defBody s__law_one_of) = true := by decide +kernel
theorem S__law_one_of : FnScope d__law_one_of.N d__law_one_of.ps (defScope s__law_one_of) := ⟨rfl, rfl, rfl, by decide +kernel, rfl, by decide +kernel, by decide +kernel⟩
theorem k__law_one_of (c : SaM ck fa fn K) : ∃ fd, DOk (gm K) T nm K 17 d__law_one_of fd := by
  obtain ⟨fd, F⟩ := c.def_ 17 (d := D__law_one_of) rfl
  exact ⟨fd, ⟨_, _, _, _, _, ⟨_, _, F⟩, S__law_one_of, .inl c__law_one_of⟩, F.bindsN fun _ _ _ _ _ _ us hl => match us, hl with | [_, _], _ => rfl, F.kp, dfl_none (by decide)⟩
theorem c__law_key : chkSs T nm (d__law_key.fx (defScope s__law_key)) d__law_key.body (defBody s__law_key) = true := by decide +kernel
theorem S__law_key : FnScope d__law_key.N d__law_key.ps (defScope s__law_key) := ⟨rfl, rfl, rfl, by decide +kernel, rfl, by decide +kernel, by decide +kernel⟩
theorem k__law_key (c : SaM ck fa fn K) : ∃ fd, DOk (gm K) T nm K 18 d__law_key fd := by
  obtain ⟨fd, F⟩ := c.def_ 18 (d := D__law_key) rfl
  exact ⟨fd, ⟨_, _, _, _, _, ⟨_, _, F⟩, S__law_key, .inl c__law_key⟩, F.bindsN fun _ _ _ _ _ _ us hl => match us, hl with | [_], _ => rfl, F.kp, dfl_none (by decide)⟩
theorem c__law_text : chkSs T nm (d__law_text.fx (defScope s__law_text)) d__law_text.body (defBody s__law_text) = true := by decide +kernel
theorem S__law_text : FnScope d__law_text.N d__law_text.ps (defScope s__law_text) := ⟨rfl, rfl, rfl, by decide +kernel, rfl, by decide +kernel, by decide +kernel⟩
theorem k__law_text (c : SaM ck fa fn K) : ∃ fd, DOk (gm K) T nm K 19 d__law_text fd := by
  obtain ⟨fd, F⟩ := c.def_ 19 (d := D__law_text) rfl
  exact ⟨fd, ⟨_, _, _, _, _, ⟨_, _, F⟩, S__law_text, .inl c__law_text⟩, F.bindsN fun _ _ _ _ _ _ us hl => match us, hl with | [_], _ => rfl, F.kp, dfl_none (by decide)⟩
theorem c__law_number : chkSs T nm (d__law_number.fx (defScope s__law_number)) d__law_number.body (defBody s__law_number) = true := by decide +kernel
theorem S__law_number : FnScope d__law_number.N d__law_number.ps (defScope s__law_number) := ⟨rfl, rfl, rfl, by decide +kernel, rfl, by decide +kernel, by decide +kernel⟩
theorem k__law_number (c : SaM ck fa fn K) : ∃ fd, DOk (gm K) T nm K 20 d__law_number fd := by
  obtain ⟨fd, F⟩ := c.def_ 20 (d := D__law_number) rfl
  exact ⟨fd, ⟨_, _, _, _, _, ⟨_, _, F⟩, S__law_number, .inl c__law_number⟩, F.bindsN fun _ _ _ _ _ _ us hl => match us, hl with | [_], _ => rfl, F.kp, dfl_none (by decide)⟩
theorem c__law_power : chkSs T nm (d__law_power.fx (defScope s__law_power)) d__law_power.body (defBody s__law_power) = true := by decide +kernel
theorem S__law_power : FnScope d__law_power.N d__law_power.ps (defScope s__law_power) := ⟨rfl, rfl, rfl, by decide +kernel, rfl, by decide +kernel, by decide +kernel⟩
theorem k__law_power (c : SaM ck fa fn K) : ∃ fd, DOk (gm K) T nm K 21 d__law_power fd := by
  obtain ⟨fd, F⟩ := c.def_ 21 (d := D__law_power) rfl
  exact ⟨fd, ⟨_, _, _, _, _, ⟨_, _, F⟩, S__law_power, .inl c__law_power⟩, F.bindsN fun _ _ _ _ _ _ us hl => match us, hl with | [_], _ => rfl, F.kp, dfl_none (by decide)⟩
theorem c__law_turned : chkSs T nm (d__law_turned.fx (defScope s__law_turned)) d__law_turned.body (defBody s__law_turned) = true := by decide +kernel
theorem S__law_turned : FnScope d__law_turned.N d__law_turned.ps (defScope s__law_turned) := ⟨rfl, rfl, rfl, by decide +kernel, rfl, by decide +kernel, by decide +kernel⟩
theorem k__law_turned (c : SaM ck fa fn K) : ∃ fd, DOk (gm K) T nm K 22 d__law_turned fd := by
  obtain ⟨fd, F⟩ := c.def_ 22 (d := D__law_turned) rfl
  exact ⟨fd, ⟨_, _, _, _, _, ⟨_, _, F⟩, S__law_turned, .inl c__law_turned⟩, F.bindsN fun _ _ _ _ _ _ us hl => match us, hl with | [_, _], _ => rfl, F.kp, dfl_none (by decide)⟩
theorem c__law_hash : chkSs T nm (d__law_hash.fx (defScope s__law_hash)) d__law_hash.body (defBody s__law_hash) = true := by decide +kernel
theorem S__law_hash : FnScope d__law_hash.N d__law_hash.ps (defScope s__law_hash) := ⟨rfl, rfl, rfl, by decide +kernel, rfl, by decide +kernel, by decide +kernel⟩
theorem k__law_hash (c : SaM ck fa fn K) : ∃ fd, DOk (gm K) T nm K 23 d__law_hash fd := by
  obtain ⟨fd, F⟩ := c.def_ 23 (d := D__law_hash) rfl
  exact ⟨fd, ⟨_, _, _, _, _, ⟨_, _, F⟩, S__law_hash, .inl c__law_hash⟩, F.bindsN fun _ _ _ _ _ _ us hl => match us, hl with | [_], _ => rfl, F.kp, dfl_none (by decide)⟩
theorem c__law_sum : chkSs T nm (d__law_sum.fx (defScope s__law_sum)) d__law_sum.body (defBody s__law_sum) = true := by decide +kernel
theorem S__law_sum : FnScope d__law_sum.N d__law_sum.ps (defScope s__law_sum) := ⟨rfl, rfl, rfl, by decide +kernel, rfl, by decide +kernel, by decide +kernel⟩
theorem k__law_sum (c : SaM ck fa fn K) : ∃ fd, DOk (gm K) T nm K 24 d__law_sum fd := by
  obtain ⟨fd, F⟩ := c.def_ 24 (d := D__law_sum) rfl
  exact ⟨fd, ⟨_, _, _, _, _, ⟨_, _, F⟩, S__law_sum, .inl c__law_sum⟩, F.bindsN fun _ _ _ _ _ _ us hl => match us, hl with | [_], _ => rfl, F.kp, dfl_none (by decide)⟩
theorem c__law_signs : chkSs T nm (d__law_signs.fx (defScope s__law_signs)) d__law_signs.body (defBody s__law_signs) = true := by decide +kernel
theorem S__law_signs : FnScope d__law_signs.N d__law_signs.ps (defScope s__law_signs) := ⟨rfl, rfl, rfl, by decide +kernel, rfl, by decide +kernel, by decide +kernel⟩
theorem k__law_signs (c : SaM ck fa fn K) : ∃ fd, DOk (gm K) T nm K 25 d__law_signs fd := by
  obtain ⟨fd, F⟩ := c.def_ 25 (d := D__law_signs) rfl
  exact ⟨fd, ⟨_, _, _, _, _, ⟨_, _, F⟩, S__law_signs, .inl c__law_signs⟩, F.bindsN fun _ _ _ _ _ _ us hl => match us, hl with | [_, _], _ => rfl, F.kp, dfl_none (by decide)⟩
theorem c__law_texts_right : chkSTs T nm (d__law_texts_right.fx (defScope s__law_texts_right)) d__law_texts_right.body (defBody s__law_texts_right) = true := by decide +kernel
theorem S__law_texts_right : FnScope d__law_texts_right.N d__law_texts_right.ps (defScope s__law_texts_right) := ⟨rfl, rfl, rfl, by decide +kernel, rfl, by decide +kernel, by decide +kernel⟩
theorem k__law_texts_right (c : SaM ck fa fn K) : ∃ fd, DOk (gm K) T nm K 26 d__law_texts_right fd := by
  obtain ⟨fd, F⟩ := c.def_ 26 (d := D__law_texts_right) rfl
  exact ⟨fd, ⟨_, _, _, _, _, ⟨_, _, F⟩, S__law_texts_right, .inr ⟨by decide +kernel, by decide, c__law_texts_right⟩⟩, F.bindsN fun _ _ _ _ _ _ us hl => match us, hl with | [_], _ => rfl, F.kp, dfl_none (by decide)⟩
theorem c__law_bits_right : chkSs T nm (d__law_bits_right.fx (defScope s__law_bits_right)) d__law_bits_right.body (defBody s__law_bits_right) = true := by decide +kernel
theorem S__law_bits_right : FnScope d__law_bits_right.N d__law_bits_right.ps (defScope s__law_bits_right) := ⟨rfl, rfl, rfl, by decide +kernel, rfl, by decide +kernel, by decide +kernel⟩
theorem k__law_bits_right (c : SaM ck fa fn K) : ∃ fd, DOk (gm K) T nm K 27 d__law_bits_right fd := by
  obtain ⟨fd, F⟩ := c.def_ 27 (d := D__law_bits_right) rfl
  exact ⟨fd, ⟨_, _, _, _, _, ⟨_, _, F⟩, S__law_bits_right, .inl c__law_bits_right⟩, F.bindsN fun _ _ _ _ _ _ us hl => match us, hl with | [_], _ => rfl, F.kp, dfl_none (by decide)⟩
theorem c__law_sums_right : chkSs T nm (d__law_sums_right.fx (defScope s__law_sums_right)) d__law_sums_right.body (defBody s__law_sums_right) = true := by decide +kernel
theorem S__law_sums_right : FnScope d__law_sums_right.N d__law_sums_right.ps (defScope s__law_sums_right) := ⟨rfl, rfl, rfl, by decide +kernel, rfl, by decide +kernel, by decide +kernel⟩
theorem k__law_sums_right (c : SaM ck fa fn K) : ∃ fd, DOk (gm K) T nm K 28 d__law_sums_right fd := by
  obtain ⟨fd, F⟩ := c.def_ 28 (d := D__law_sums_right) rfl
  exact ⟨fd, ⟨_, _, _, _, _, ⟨_, _, F⟩, S__law_sums_right, .inl c__law_sums_right⟩, F.bindsN fun _ _ _ _ _ _ us hl => match us, hl with | [_], _ => rfl, F.kp, dfl_none (by decide)⟩
theorem c_law : chkSs T nm (d_law.fx (defScope s_law)) d_law.body (defBody s_law) = true := by decide +kernel
theorem S_law : FnScope d_law.N d_law.ps (defScope s_law) := ⟨rfl, rfl, rfl, by decide +kernel, rfl, by decide +kernel, by decide +kernel⟩
theorem k_law (c : SaM ck fa fn K) : ∃ fd, DOk (gm K) T nm K 29 d_law fd := by
  obtain ⟨fd, F⟩ := c.def_ 29 (d := D_law) rfl
  exact ⟨fd, ⟨_, _, _, _, _, ⟨_, _, F⟩, S_law, .inl c_law⟩, F.bindsN fun _ _ _ _ _ _ us hl => match us, hl with | [_], _ => rfl, F.kp, dfl_none (by decide)⟩
theorem dok (c : SaM ck fa fn K) : ∀ i d, defs[i]? = some d → ∃ fd, DOk (gm K) T nm K i d fd
  | 0, _, e => by cases e; exact k_is_within c
  | 1, _, e => by cases e; exact k_is_count c
  | 2, _, e => by cases e; exact k_is_printed c
  | 3, _, e => by cases e; exact k_is_text c
  | 4, _, e => by cases e; exact k_check_text c
  | 5, _, e => by cases e; exact k_check_within c
  | 6, _, e => by cases e; exact k_check_count c
  | 7, _, e => by cases e; exact k_hash_of c
  | 8, _, e => by cases e; exact k_spot_of c
  | 9, _, e => by cases e; exact k_sum_of c
  | 10, _, e => by cases e; exact k_are_signs c
  | 11, _, e => by cases e; exact k_check_signs c
  | 12, _, e => by cases e; exact k_reversed_bits c
  | 13, _, e => by cases e; exact k_bucket_spots c
  | 14, _, e => by cases e; exact k__check_bits c
  | 15, _, e => by cases e; exact k__law_dice c
  | 16, _, e => by cases e; exact k__law_roll c
  | 17, _, e => by cases e; exact k__law_one_of c
  | 18, _, e => by cases e; exact k__law_key c
  | 19, _, e => by cases e; exact k__law_text c
  | 20, _, e => by cases e; exact k__law_number c
  | 21, _, e => by cases e; exact k__law_power c
  | 22, _, e => by cases e; exact k__law_turned c
  | 23, _, e => by cases e; exact k__law_hash c
  | 24, _, e => by cases e; exact k__law_sum c
  | 25, _, e => by cases e; exact k__law_signs c
  | 26, _, e => by cases e; exact k__law_texts_right c
  | 27, _, e => by cases e; exact k__law_bits_right c
  | 28, _, e => by cases e; exact k__law_sums_right c
  | 29, _, e => by cases e; exact k_law c
  | n + 30, _, e => by simp [defs] at e
theorem gls (X : K.In h) (G : h.Ns mainGlobals mg) (c : SaM ck fa fn K) : ∀ (g : Nat) (x : Str) (v : PV), nm.gn[g]? = some x → T.glob[g]? = some v → ∃ u, mg x = some u ∧ RelG (gm K) v u
  | 0, _, _, e1, e2 => by cases e1; cases e2; exact ⟨_, He.glo_ok X G (c.fact 0 (f := .glo "is_within") rfl), .ref _, rfl, fun as H => by unfold RepV; rfl⟩
  | 1, _, _, e1, e2 => by cases e1; cases e2; exact ⟨_, He.glo_ok X G (c.fact 1 (f := .glo "is_count") rfl), .ref _, rfl, fun as H => by unfold RepV; rfl⟩
  | 2, _, _, e1, e2 => by cases e1; cases e2; exact ⟨_, He.glo_ok X G (c.fact 2 (f := .glo "is_printed") rfl), .ref _, rfl, fun as H => by unfold RepV; rfl⟩
  | 3, _, _, e1, e2 => by cases e1; cases e2; exact ⟨_, He.glo_ok X G (c.fact 3 (f := .glo "is_text") rfl), .ref _, rfl, fun as H => by unfold RepV; rfl⟩
  | 4, _, _, e1, e2 => by cases e1; cases e2; exact ⟨_, He.glo_ok X G (c.fact 4 (f := .glo "check_text") rfl), .ref _, rfl, fun as H => by unfold RepV; rfl⟩
  | 5, _, _, e1, e2 => by cases e1; cases e2; exact ⟨_, He.glo_ok X G (c.fact 5 (f := .glo "check_within") rfl), .ref _, rfl, fun as H => by unfold RepV; rfl⟩
  | 6, _, _, e1, e2 => by cases e1; cases e2; exact ⟨_, He.glo_ok X G (c.fact 6 (f := .glo "check_count") rfl), .ref _, rfl, fun as H => by unfold RepV; rfl⟩
  | 7, _, _, e1, e2 => by cases e1; cases e2; exact ⟨_, He.glo_ok X G (c.fact 7 (f := .glo "hash_of") rfl), .ref _, rfl, fun as H => by unfold RepV; rfl⟩
  | 8, _, _, e1, e2 => by cases e1; cases e2; exact ⟨_, He.glo_ok X G (c.fact 8 (f := .glo "spot_of") rfl), .ref _, rfl, fun as H => by unfold RepV; rfl⟩
  | 9, _, _, e1, e2 => by cases e1; cases e2; exact ⟨_, He.glo_ok X G (c.fact 9 (f := .glo "sum_of") rfl), .ref _, rfl, fun as H => by unfold RepV; rfl⟩
  | 10, _, _, e1, e2 => by cases e1; cases e2; exact ⟨_, He.glo_ok X G (c.fact 10 (f := .glo "are_signs") rfl), .ref _, rfl, fun as H => by unfold RepV; rfl⟩
  | 11, _, _, e1, e2 => by cases e1; cases e2; exact ⟨_, He.glo_ok X G (c.fact 11 (f := .glo "check_signs") rfl), .ref _, rfl, fun as H => by unfold RepV; rfl⟩
  | 12, _, _, e1, e2 => by cases e1; cases e2; exact ⟨_, He.glo_ok X G (c.fact 12 (f := .glo "reversed_bits") rfl), .ref _, rfl, fun as H => by unfold RepV; rfl⟩
  | 13, _, _, e1, e2 => by cases e1; cases e2; exact ⟨_, He.glo_ok X G (c.fact 13 (f := .glo "bucket_spots") rfl), .ref _, rfl, fun as H => by unfold RepV; rfl⟩
  | 14, _, _, e1, e2 => by cases e1; cases e2; exact ⟨_, He.glo_ok X G (c.fact 14 (f := .glo "_check_bits") rfl), .ref _, rfl, fun as H => by unfold RepV; rfl⟩
  | 15, _, _, e1, e2 => by cases e1; cases e2; exact ⟨_, He.glo_ok X G (c.fact 15 (f := .glo "_law_dice") rfl), .ref _, rfl, fun as H => by unfold RepV; rfl⟩
  | 16, _, _, e1, e2 => by cases e1; cases e2; exact ⟨_, He.glo_ok X G (c.fact 16 (f := .glo "_law_roll") rfl), .ref _, rfl, fun as H => by unfold RepV; rfl⟩
  | 17, _, _, e1, e2 => by cases e1; cases e2; exact ⟨_, He.glo_ok X G (c.fact 17 (f := .glo "_law_one_of") rfl), .ref _, rfl, fun as H => by unfold RepV; rfl⟩
  | 18, _, _, e1, e2 => by cases e1; cases e2; exact ⟨_, He.glo_ok X G (c.fact 18 (f := .glo "_law_key") rfl), .ref _, rfl, fun as H => by unfold RepV; rfl⟩
  | 19, _, _, e1, e2 => by cases e1; cases e2; exact ⟨_, He.glo_ok X G (c.fact 19 (f := .glo "_law_text") rfl), .ref _, rfl, fun as H => by unfold RepV; rfl⟩
  | 20, _, _, e1, e2 => by cases e1; cases e2; exact ⟨_, He.glo_ok X G (c.fact 20 (f := .glo "_law_number") rfl), .ref _, rfl, fun as H => by unfold RepV; rfl⟩
  | 21, _, _, e1, e2 => by cases e1; cases e2; exact ⟨_, He.glo_ok X G (c.fact 21 (f := .glo "_law_power") rfl), .ref _, rfl, fun as H => by unfold RepV; rfl⟩
  | 22, _, _, e1, e2 => by cases e1; cases e2; exact ⟨_, He.glo_ok X G (c.fact 22 (f := .glo "_law_turned") rfl), .ref _, rfl, fun as H => by unfold RepV; rfl⟩
  | 23, _, _, e1, e2 => by cases e1; cases e2; exact ⟨_, He.glo_ok X G (c.fact 23 (f := .glo "_law_hash") rfl), .ref _, rfl, fun as H => by unfold RepV; rfl⟩
  | 24, _, _, e1, e2 => by cases e1; cases e2; exact ⟨_, He.glo_ok X G (c.fact 24 (f := .glo "_law_sum") rfl), .ref _, rfl, fun as H => by unfold RepV; rfl⟩
  | 25, _, _, e1, e2 => by cases e1; cases e2; exact ⟨_, He.glo_ok X G (c.fact 25 (f := .glo "_law_signs") rfl), .ref _, rfl, fun as H => by unfold RepV; rfl⟩
  | 26, _, _, e1, e2 => by cases e1; cases e2; exact ⟨_, He.glo_ok X G (c.fact 26 (f := .glo "_law_texts_right") rfl), .ref _, rfl, fun as H => by unfold RepV; rfl⟩
  | 27, _, _, e1, e2 => by cases e1; cases e2; exact ⟨_, He.glo_ok X G (c.fact 27 (f := .glo "_law_bits_right") rfl), .ref _, rfl, fun as H => by unfold RepV; rfl⟩
  | 28, _, _, e1, e2 => by cases e1; cases e2; exact ⟨_, He.glo_ok X G (c.fact 28 (f := .glo "_law_sums_right") rfl), .ref _, rfl, fun as H => by unfold RepV; rfl⟩
  | 29, _, _, e1, e2 => by cases e1; cases e2; exact ⟨_, He.glo_ok X G (c.fact 29 (f := .glo "law") rfl), .ref _, rfl, fun as H => by unfold RepV; rfl⟩
  | 30, _, _, e1, e2 => by cases e1; cases e2; obtain ⟨t, e⟩ := He.int_ok X G (c.fact 30 (f := .int "MAX_TEXT" 200) rfl); exact ⟨_, e, .int _, ⟨t, rfl⟩, fun as H => .int _⟩
  | 31, _, _, e1, e2 => by cases e1; cases e2; obtain ⟨t, e⟩ := He.int_ok X G (c.fact 31 (f := .int "HASH_BITS" 16) rfl); exact ⟨_, e, .int _, ⟨t, rfl⟩, fun as H => .int _⟩
  | 32, _, _, e1, e2 => by cases e1; cases e2; obtain ⟨t, e⟩ := He.int_ok X G (c.fact 32 (f := .int "SUM_MODULUS" 99991) rfl); exact ⟨_, e, .int _, ⟨t, rfl⟩, fun as H => .int _⟩
  | 33, _, _, e1, e2 => by cases e1; cases e2; obtain ⟨t, e⟩ := He.int_ok X G (c.fact 33 (f := .int "_HASH_MODULUS" 65536) rfl); exact ⟨_, e, .int _, ⟨t, rfl⟩, fun as H => .int _⟩
  | 34, _, _, e1, e2 => by cases e1; cases e2; obtain ⟨t, e⟩ := He.int_ok X G (c.fact 34 (f := .int "_MAX_BITS" 64) rfl); exact ⟨_, e, .int _, ⟨t, rfl⟩, fun as H => .int _⟩
  | n + 35, _, _, e1, e2 => by simp [T] at e2
theorem bls (X : K.In h) (G : h.Ns mainGlobals mg) (c : SaM ck fa fn K) : ∀ f : Bi, mg f.nm = none
  | .len => He.free_ok X G (c.fact 35 (f := .free "len") rfl)
  | .abs => He.free_ok X G (c.fact 36 (f := .free "abs") rfl)
  | .max => He.free_ok X G (c.fact 37 (f := .free "max") rfl)
  | .min => He.free_ok X G (c.fact 38 (f := .free "min") rfl)
  | .int => He.free_ok X G (c.fact 39 (f := .free "int") rfl)
  | .str => He.free_ok X G (c.fact 40 (f := .free "str") rfl)
  | .bool => He.free_ok X G (c.fact 41 (f := .free "bool") rfl)
  | .list => He.free_ok X G (c.fact 42 (f := .free "list") rfl)
  | .tuple => He.free_ok X G (c.fact 43 (f := .free "tuple") rfl)
  | .sorted => He.free_ok X G (c.fact 44 (f := .free "sorted") rfl)
  | .sum => He.free_ok X G (c.fact 45 (f := .free "sum") rfl)
  | .any => He.free_ok X G (c.fact 46 (f := .free "any") rfl)
  | .all => He.free_ok X G (c.fact 47 (f := .free "all") rfl)
  | .ord => He.free_ok X G (c.fact 48 (f := .free "ord") rfl)
  | .isinst => He.free_ok X G (c.fact 49 (f := .free "isinstance") rfl)
  | .repr => He.free_ok X G (c.fact 50 (f := .free "repr") rfl)
  | .dict => He.free_ok X G (c.fact 51 (f := .free "dict") rfl)
theorem lts : ∀ (g f : Nat), T.glob[g]? = some (.fn f) → f < defs.length
  | 0, _, e => by cases e; decide
  | 1, _, e => by cases e; decide
  | 2, _, e => by cases e; decide
  | 3, _, e => by cases e; decide
  | 4, _, e => by cases e; decide
  | 5, _, e => by cases e; decide
  | 6, _, e => by cases e; decide
  | 7, _, e => by cases e; decide
  | 8, _, e => by cases e; decide
  | 9, _, e => by cases e; decide
  | 10, _, e => by cases e; decide
  | 11, _, e => by cases e; decide
  | 12, _, e => by cases e; decide
  | 13, _, e => by cases e; decide
  | 14, _, e => by cases e; decide
  | 15, _, e => by cases e; decide
  | 16, _, e => by cases e; decide
  | 17, _, e => by cases e; decide
  | 18, _, e => by cases e; decide
  | 19, _, e => by cases e; decide
  | 20, _, e => by cases e; decide
  | 21, _, e => by cases e; decide
  | 22, _, e => by cases e; decide
  | 23, _, e => by cases e; decide
  | 24, _, e => by cases e; decide
  | 25, _, e => by cases e; decide
  | 26, _, e => by cases e; decide
  | 27, _, e => by cases e; decide
  | 28, _, e => by cases e; decide
  | 29, _, e => by cases e; decide
  | 30, _, e => by cases e
  | 31, _, e => by cases e
  | 32, _, e => by cases e
  | 33, _, e => by cases e
  | 34, _, e => by cases e
  | n + 35, _, e => by simp [T] at e
theorem gok (X : K.In h) (G : h.Ns mainGlobals mg) (c : SaM ck fa fn K) : GOk (gm K) T nm defs K mg where
  K := rfl
  gl := gls X G c
  bl := bls X G c
  rng := He.free_ok X G (c.fact 52 (f := .free "range") rfl)
  enm := He.free_ok X G (c.fact 53 (f := .free "enumerate") rfl)
  zp := He.free_ok X G (c.fact 54 (f := .free "zip") rfl)
  rvs := He.free_ok X G (c.fact 55 (f := .free "reversed") rfl)
  sts := He.free_ok X G (c.fact 56 (f := .free "set") rfl)
  cls := cok_of c.all.1 anl_nd
  gnl := by decide
  an := rfl
  mlt := mlt_of (by decide +kernel)
  lt := lts
  clt := clt_of (by decide +kernel)
end
end K04
set_option linter.all false
namespace K04
def R : Nat → Nat → Nat
  | 0, _ => 0
  | b + 1, v => R b v * 2 + v / 2 ^ b % 2
theorem R_lt : ∀ b v, R b v < 2 ^ b
  | 0, _ => by simp [R]
  | b + 1, v => by
    have h := R_lt b v
    have h2 : v / 2 ^ b % 2 < 2 := Nat.mod_lt _ (by decide)
    unfold R
    rw [Nat.pow_succ]
    omega
theorem digit_mod {v i b : Nat} (h : i < b) : v % 2 ^ b / 2 ^ i % 2 = v / 2 ^ i % 2 := by
  have e : 2 ^ b = 2 ^ i * 2 ^ (b - i) := by rw [← Nat.pow_add]; congr 1; omega
  rw [e, Nat.mod_mul_right_div_self]
  have e2 : 2 ^ (b - i) = 2 * 2 ^ (b - i - 1) := by rw [← Nat.pow_succ']; congr 1; omega
  rw [e2, Nat.mod_mul_right_mod]
theorem R_mod' : ∀ a b v, a ≤ b → R a (v % 2 ^ b) = R a v
  | 0, _, _, _ => rfl
  | a + 1, b, v, h => by
    unfold R
    rw [R_mod' a b v (by omega), digit_mod (by omega)]
theorem R_mod (b v : Nat) : R b (v % 2 ^ b) = R b v := R_mod' b b v (Nat.le_refl _)
theorem R_add (a v : Nat) : ∀ b, R (a + b) v = R a v * 2 ^ b + R b (v / 2 ^ a)
  | 0 => by simp [R]
  | b + 1 => by
    show R (a + b) v * 2 + v / 2 ^ (a + b) % 2 = R a v * 2 ^ (b + 1) + (R b (v / 2 ^ a) * 2 + v / 2 ^ a / 2 ^ b % 2)
    rw [R_add a v b, Nat.div_div_eq_div_mul, ← Nat.pow_add, Nat.pow_succ, Nat.add_mul, Nat.mul_assoc]
    omega
theorem R_one (v : Nat) : R 1 v = v % 2 := by simp [R]
theorem R_R : ∀ b v, R b (R b v) = v % 2 ^ b
  | 0, v => by simp [R, Nat.mod_one]
  | b + 1, v => by
    have e : R (1 + b) (R (b + 1) v) = R 1 (R (b + 1) v) * 2 ^ b + R b (R (b + 1) v / 2 ^ 1) := R_add 1 _ b
    rw [Nat.add_comm 1 b] at e
    rw [e, R_one]
    have hd : v / 2 ^ b % 2 < 2 := Nat.mod_lt _ (by decide)
    have e1 : R (b + 1) v % 2 = v / 2 ^ b % 2 := by
      show (R b v * 2 + v / 2 ^ b % 2) % 2 = _
      omega
    have e2 : R (b + 1) v / 2 ^ 1 = R b v := by
      show (R b v * 2 + v / 2 ^ b % 2) / 2 ^ 1 = _
      omega
    rw [e1, e2, R_R b v, Nat.pow_succ, Nat.mod_mul]
    rw [Nat.mul_comm, Nat.add_comm]
theorem R_inj {b u v : Nat} (hu : u < 2 ^ b) (hv : v < 2 ^ b) (h : R b u = R b v) : u = v := by
  have e := R_R b u
  rw [h, R_R b v, Nat.mod_eq_of_lt hv, Nat.mod_eq_of_lt hu] at e
  exact e.symm
theorem spot_in {b v k : Nat} (hb : b ≤ 16) (hk : k < 2 ^ b) : (R b k * 2 ^ (16 - b) ≤ R 16 v ∧ R 16 v ≤ R b k * 2 ^ (16 - b) + 2 ^ (16 - b) - 1) ↔ v % 2 ^ b = k := by
  have e : R (b + (16 - b)) v = R b v * 2 ^ (16 - b) + R (16 - b) (v / 2 ^ b) := R_add b v _
  rw [show b + (16 - b) = 16 by omega] at e
  have hl := R_lt (16 - b) (v / 2 ^ b)
  have hp : 0 < 2 ^ (16 - b) := Nat.pow_pos (by decide)
  generalize hw : 2 ^ (16 - b) = w at *
  generalize R (16 - b) (v / 2 ^ b) = r at *
  constructor
  · intro ⟨h1, h2⟩
    have q : R b v = R b k := by
      rw [e] at h1 h2
      apply Nat.le_antisymm
      · apply Nat.le_of_not_lt
        intro hlt
        have : (R b k + 1) * w ≤ R b v * w := Nat.mul_le_mul_right _ hlt
        rw [Nat.add_mul] at this
        omega
      · apply Nat.le_of_not_lt
        intro hlt
        have : (R b v + 1) * w ≤ R b k * w := Nat.mul_le_mul_right _ hlt
        rw [Nat.add_mul] at this
        omega
    refine R_inj (Nat.mod_lt _ (Nat.pow_pos (by decide))) hk ?_
    rw [R_mod, q]
  · intro h
    have q : R b v = R b k := by rw [← h, R_mod]
    rw [e, q]
    omega
theorem R_half0 {b k : Nat} (hk : k < 2 ^ b) : R (b + 1) k = R b k * 2 := by
  show R b k * 2 + k / 2 ^ b % 2 = _
  rw [Nat.div_eq_of_lt hk]
  simp
theorem R_half1 {b k : Nat} (hk : k < 2 ^ b) : R (b + 1) (k + 2 ^ b) = R b k * 2 + 1 := by
  show R b (k + 2 ^ b) * 2 + (k + 2 ^ b) / 2 ^ b % 2 = _
  rw [Nat.add_div_right _ (Nat.pow_pos (by decide)), Nat.div_eq_of_lt hk, ← R_mod, Nat.add_mod_right, Nat.mod_eq_of_lt hk]
def hsh (x : List Nat) : Nat := x.foldl (fun c s => (c * 33 + s) % 65536) 0
theorem hsh_lt (x : List Nat) : hsh x < 65536 := by
  have gen : ∀ (x : List Nat) (c : Nat), c < 65536 → x.foldl (fun c s => (c * 33 + s) % 65536) c < 65536 := fun x => by
    induction x with
    | nil => exact fun c h => h
    | cons s x ih => exact fun c h => ih _ (Nat.mod_lt _ (by decide))
  exact gen x 0 (by decide)
def sm : Nat → List Nat → Nat
  | _, [] => 0
  | i, c :: x => c * (i + 1) + sm (i + 1) x
theorem sm_set : ∀ (x : List Nat) (i k c d : Nat), x[k]? = some d → sm i (x.set k c) + d * (i + k + 1) = sm i x + c * (i + k + 1)
  | [], i, k, c, d, h => by simp at h
  | a :: x, i, 0, c, d, h => by
    simp at h
    subst h
    simp only [List.set_cons_zero, sm, Nat.add_zero]
    omega
  | a :: x, i, k + 1, c, d, h => by
    have q := sm_set x (i + 1) k c d (by simpa using h)
    simp only [List.set_cons_succ, sm]
    rw [show i + (k + 1) + 1 = i + 1 + k + 1 by omega]
    omega
theorem sum_one {x : List Nat} {k c d : Nat} (hx : x[k]? = some d) (hk : k < 30) (hd : d < 128) (hc : c < 128) : (sm 0 (x.set k c) % 99991 = sm 0 x % 99991) ↔ d = c := by
  have q := sm_set x 0 k c d hx
  rw [Nat.zero_add] at q
  constructor
  · intro h
    rcases Nat.lt_trichotomy d c with hlt | he | hgt
    · exfalso
      obtain ⟨e, rfl⟩ : ∃ e, c = d + e := ⟨c - d, by omega⟩
      rw [Nat.add_mul] at q
      have h1 : sm 0 (x.set k (d + e)) = sm 0 x + e * (k + 1) := by omega
      rw [h1] at h
      have h2 : e * (k + 1) ≤ 127 * 30 := Nat.mul_le_mul (by omega) (by omega)
      have h3 : 0 < e * (k + 1) := Nat.mul_pos (by omega) (by omega)
      omega
    · exact he
    · exfalso
      obtain ⟨e, rfl⟩ : ∃ e, d = c + e := ⟨d - c, by omega⟩
      rw [Nat.add_mul] at q
      have h1 : sm 0 x = sm 0 (x.set k c) + e * (k + 1) := by omega
      rw [h1] at h
      have h2 : e * (k + 1) ≤ 127 * 30 := Nat.mul_le_mul (by omega) (by omega)
      have h3 : 0 < e * (k + 1) := Nat.mul_pos (by omega) (by omega)
      omega
  · intro h
    subst h
    have : sm 0 (x.set k d) = sm 0 x := by omega
    rw [this]
theorem sum_two {x : List Nat} {k m c d : Nat} (hk : x[k]? = some c) (hm : x[m]? = some d) (hlt : k < m) (hm30 : m < 30) (hc : c < 128) (hd : d < 128) : (sm 0 ((x.set k d).set m c) % 99991 = sm 0 x % 99991) ↔ c = d := by
  have q1 := sm_set x 0 k d c hk
  have hm' : (x.set k d)[m]? = some d := by rw [List.getElem?_set_ne (by omega)]; exact hm
  have q2 := sm_set (x.set k d) 0 m c d hm'
  rw [Nat.zero_add] at q1 q2
  constructor
  · intro h
    rcases Nat.lt_trichotomy c d with h1 | h1 | h1
    · exfalso
      obtain ⟨e, rfl⟩ : ∃ e, d = c + e := ⟨d - c, by omega⟩
      obtain ⟨f, rfl⟩ : ∃ f, m = k + f := ⟨m - k, by omega⟩
      rw [Nat.add_mul] at q1 q2
      have e3 : e * (k + f + 1) = e * (k + 1) + e * f := by rw [← Nat.mul_add]; congr 1; omega
      have h4 : 0 < e * f := Nat.mul_pos (by omega) (by omega)
      have h5 : e * f ≤ 127 * 30 := Nat.mul_le_mul (by omega) (by omega)
      omega
    · exact h1
    · exfalso
      obtain ⟨e, rfl⟩ : ∃ e, c = d + e := ⟨c - d, by omega⟩
      obtain ⟨f, rfl⟩ : ∃ f, m = k + f := ⟨m - k, by omega⟩
      rw [Nat.add_mul] at q1 q2
      have e3 : e * (k + f + 1) = e * (k + 1) + e * f := by rw [← Nat.mul_add]; congr 1; omega
      have h4 : 0 < e * f := Nat.mul_pos (by omega) (by omega)
      have h5 : e * f ≤ 127 * 30 := Nat.mul_le_mul (by omega) (by omega)
      omega
  · intro h
    subst h
    have : sm 0 ((x.set k c).set m c) = sm 0 x := by omega
    rw [this]
end K04
set_option Elab.async false
set_option linter.all false
set_option maxRecDepth 100000
set_option maxHeartbeats 1000000
namespace Mn
open PySem PySem.Spec L2 PyProof.Rows CwR
def bDice : List Sm := [.asg (.nm 2) (.bin .add (.bin .mul (.con (.int 83)) (.var 1)) (.con (.int 59))), .ite (.cmp .lt (.var 1) (.bi .len [.var 0])) [.asg (.nm 2) (.ix (.var 0) (.var 1))] [], .asg (.nm 3) (.bin .mod (.bi .int [.bi .abs [.var 2]]) (.bin .pow (.bin .pow (.con (.int 10)) (.con (.int 60))) (.con (.int 10)))), .asg (.nm 4) (.bin .fdiv (.var 3) (.bin .pow (.con (.int 10)) (.con (.int 18)))), .asg (.nm 5) (.bin .add (.bin .add (.bin .add (.bin .mul (.bin .mod (.var 3) (.con (.int 2147482811))) (.con (.int 60509))) (.bin .mul (.con (.int 3499)) (.var 1))) (.bin .mul (.con (.int 73)) (.bi .int [.cmp .lt (.var 2) (.con (.int 0))]))) (.con (.int 101))), .ret (.lst [.var 4, .bin .mod (.var 5) (.con (.int 2147482801)), .con (.int 0)])]
def bRoll : List Sm := [.asg (.nm 2) (.bi .int [.var 1]), .ite (.cmp .gt (.ix (.var 0) (.con (.int 0))) (.con (.int 0))) [.asg (.nm 5) (.bin .mod (.ix (.var 0) (.con (.int 0))) (.var 2)), .asg (.ix (.var 0) (.con (.int 0))) (.bin .fdiv (.ix (.var 0) (.con (.int 0))) (.var 2)), .ret (.bi .int [.var 5])] [], .asg (.ix (.var 0) (.con (.int 2))) (.bin .add (.ix (.var 0) (.con (.int 2))) (.con (.int 1))), .asg (.nm 3) (.bin .mod (.bin .add (.ix (.var 0) (.con (.int 1))) (.bin .mul (.con (.int 1000333)) (.ix (.var 0) (.con (.int 2))))) (.con (.int 2305843009213693951))), .asg (.nm 4) (.bin .add (.bin .mul (.bin .mod (.bin .mul (.var 3) (.var 3)) (.con (.int 2305843009213693921))) (.var 3)) (.bin .mul (.con (.int 9479)) (.ix (.var 0) (.con (.int 2))))), .asg (.nm 4) (.bin .mod (.var 4) (.con (.int 2305843009213693907))), .ret (.bi .int [.bin .mod (.bin .fdiv (.var 4) (.con (.int 4096))) (.var 2)])]
def spRoll (xs : List PV) (h : PH) : Res PV := match xs with
  | [.ref l, .int n] => (match h[l]? with
    | some (.dice (b + 1)) => if 0 < n ∧ n < 2 ^ 62 then .all n.toNat fun r => .ok (.int r) (h.set l (.dice b)) else .stuck
    | _ => .stuck)
  | _ => .stuck
def spDice (xs : List PV) (h : PH) : Res PV := match xs with
  | [.frk xs, .int i] => if (intsOf xs).isSome ∧ 0 ≤ i ∧ i < 2 ^ 20 then .ok (.ref h.length) (h ++ [.dice (2 ^ 63)]) else .stuck
  | _ => .stuck
section
variable {T : Tb} {cl : Nat → List PV → PH → Res PV} {W : Nat}
theorem D_nx {s : Sm} {r : List Sm} {ρ ρ1 : PEnv} {h h1 : PH} {z : Res Fl} (e : exS T cl W s ρ h = .ok (.nx ρ1) h1) (k : exSs T cl W r ρ1 h1 = z) : exSs T cl W (s :: r) ρ h = z := by
  simp only [exSs, e, Res.bind_ok]
  exact k
theorem D_rt {s : Sm} {r : List Sm} {ρ : PEnv} {h h1 : PH} {v : PV} (e : exS T cl W s ρ h = .ok (.rt v) h1) : exSs T cl W (s :: r) ρ h = .ok (.rt v) h1 := by
  simp only [exSs, e, Res.bind_ok]
theorem run_rt {d : Df} {vs : List PV} {h h1 : PH} {v : PV} (hl : vs.length = d.ps.length) (e : exSs T cl W d.body (vs.map some ++ List.replicate (d.N.length - vs.length) none) h = .ok (.rt v) h1) : runD T W cl d vs h = .ok v h1 := by
  unfold runD
  rw [if_pos hl]
  unfold runBody
  rw [e]
  rfl
theorem nat_log {x k : Nat} (h : x < 2 ^ k) (hk : k ≤ 400000) : x.log2 < 400000 + 1 := by
  by_cases hz : x = 0
  · rw [hz]; decide
  · have := (Nat.log2_lt hz).mpr h
    omega
theorem big_nat {a b : Int} {k : Nat} (ha : a.natAbs < 2 ^ k) (hb : b.natAbs < 2 ^ k) (hk : k ≤ 400000) : big a b = true := by
  unfold big
  have h1 := nat_log ha hk
  have h2 := nat_log hb hk
  simp
  omega
theorem roll_great {l : Nat} {n i j k : Int} {h : PH} (e : h[l]? = some (.lst [.int i, .int j, .int k])) (hn : 0 < n) (hs : n < 2 ^ 62) (hi : 0 < i) :
    exSs T cl W bRoll [some (.ref l), some (.int n), none, none, none, none] h = .ok (.rt (.int (i % n))) (h.set l (.lst [.int (i / n), .int j, .int k])) := by
  have hl : n.natAbs.log2 < 9000 := by
    have h1 : n.natAbs < 2 ^ 62 := by omega
    have := nat_log h1 (by decide)
    by_cases hz : n.natAbs = 0
    · rw [hz]; decide
    · have := (Nat.log2_lt hz).mpr h1
      omega
  unfold bRoll
  refine D_nx (ρ1 := [some (.ref l), some (.int n), some (.int n), none, none, none]) (h1 := h) (by simp [exSs, exS, evE, evEs, evT, evIf, asgTa, bindTg, pBin, pCmp, pBi, pTru, ob, pIx, atI, ixN, Res.bind, pSet]) ?_
  refine D_rt ?_
  have c : evT T cl (.cmp .gt (.ix (.var 0) (.con (.int 0))) (.con (.int 0))) [some (.ref l), some (.int n), some (.int n), none, none, none] h = .ok true h := by simp [exSs, exS, evE, evEs, evT, evIf, asgTa, bindTg, pBin, pCmp, pBi, pTru, ob, pIx, atI, ixN, Res.bind, pSet, e, hi]
  simp only [exS, c, Res.bind_ok, if_true]
  refine D_nx (ρ1 := [some (.ref l), some (.int n), some (.int n), none, none, some (.int (i % n))]) (h1 := h) (by simp [exSs, exS, evE, evEs, evT, evIf, asgTa, bindTg, pBin, pCmp, pBi, pTru, ob, pIx, atI, ixN, Res.bind, pSet, e, hn]) ?_
  refine D_nx (ρ1 := [some (.ref l), some (.int n), some (.int n), none, none, some (.int (i % n))]) (h1 := h.set l (.lst [.int (i / n), .int j, .int k])) (by simp [exSs, exS, evE, evEs, evT, evIf, asgTa, bindTg, pBin, pCmp, pBi, pTru, ob, pIx, atI, ixN, Res.bind, pSet, e, hn, hl]) ?_
  exact D_rt (by simp [exSs, exS, evE, evEs, evT, evIf, asgTa, bindTg, pBin, pCmp, pBi, pTru, ob, pIx, atI, ixN, Res.bind, pSet])
theorem roll_small {l : Nat} {n i j k : Int} {h : PH} (e : h[l]? = some (.lst [.int i, .int j, .int k])) (hn : 0 < n) (hs : n < 2 ^ 62) (hi : ¬ 0 < i) (hj : 0 ≤ j ∧ j < 2 ^ 40) (hk : 0 ≤ k ∧ k < 2 ^ 64) :
    ∃ r : Int, 0 ≤ r ∧ r < n ∧ exSs T cl W bRoll [some (.ref l), some (.int n), none, none, none, none] h = .ok (.rt (.int r)) (h.set l (.lst [.int i, .int j, .int (k + 1)])) := by
  have hl : l < h.length := (List.getElem?_eq_some_iff.mp e).1
  have e2 : (h.set l (.lst [.int i, .int j, .int (k + 1)]))[l]? = some (.lst [.int i, .int j, .int (k + 1)]) := List.getElem?_set_self hl
  have l4 : Nat.log2 4096 = 12 := by decide
  obtain ⟨o, ho⟩ : ∃ o, (j + 1000333 * (k + 1)) % 2305843009213693951 = o := ⟨_, rfl⟩
  have o1 : 0 ≤ o := by rw [← ho]; exact Int.emod_nonneg _ (by decide)
  have o2 : o < 2305843009213693951 := by rw [← ho]; exact Int.emod_lt_of_pos _ (by decide)
  obtain ⟨q, hq⟩ : ∃ q, o * o % 2305843009213693921 = q := ⟨_, rfl⟩
  have q1 : 0 ≤ q := by rw [← hq]; exact Int.emod_nonneg _ (by decide)
  have q2 : q < 2305843009213693921 := by rw [← hq]; exact Int.emod_lt_of_pos _ (by decide)
  have b1 : big 1000333 (k + 1) = true := big_nat (k := 70) (by decide) (by omega) (by decide)
  have b2 : big o o = true := big_nat (k := 70) (by omega) (by omega) (by decide)
  have b3 : big q o = true := big_nat (k := 70) (by omega) (by omega) (by decide)
  have b4 : big 9479 (k + 1) = true := big_nat (k := 70) (by decide) (by omega) (by decide)
  refine ⟨(q * o + 9479 * (k + 1)) % 2305843009213693907 / 4096 % n, Int.emod_nonneg _ (by omega), Int.emod_lt_of_pos _ hn, ?_⟩
  unfold bRoll
  refine D_nx (ρ1 := [some (.ref l), some (.int n), some (.int n), none, none, none]) (h1 := h) (by simp [exSs, exS, evE, evEs, evT, evIf, asgTa, bindTg, pBin, pCmp, pBi, pTru, ob, pIx, atI, ixN, Res.bind, pSet]) ?_
  refine D_nx (ρ1 := [some (.ref l), some (.int n), some (.int n), none, none, none]) (h1 := h) ?_ ?_
  · have c : evT T cl (.cmp .gt (.ix (.var 0) (.con (.int 0))) (.con (.int 0))) [some (.ref l), some (.int n), some (.int n), none, none, none] h = .ok false h := by simp [exSs, exS, evE, evEs, evT, evIf, asgTa, bindTg, pBin, pCmp, pBi, pTru, ob, pIx, atI, ixN, Res.bind, pSet, e, hi]
    simp only [exS, c, Res.bind_ok, exSs]
    rfl
  refine D_nx (ρ1 := [some (.ref l), some (.int n), some (.int n), none, none, none]) (h1 := h.set l (.lst [.int i, .int j, .int (k + 1)])) (by simp [exSs, exS, evE, evEs, evT, evIf, asgTa, bindTg, pBin, pCmp, pBi, pTru, ob, pIx, atI, ixN, Res.bind, pSet, e]) ?_
  generalize h.set l (.lst [.int i, .int j, .int (k + 1)]) = h2 at e2 ⊢
  refine D_nx (ρ1 := [some (.ref l), some (.int n), some (.int n), some (.int o), none, none]) (h1 := h2) (by simp [exSs, exS, evE, evEs, evT, evIf, asgTa, bindTg, pBin, pCmp, pBi, pTru, ob, pIx, atI, ixN, Res.bind, pSet, e2, b1, ho]) ?_
  refine D_nx (ρ1 := [some (.ref l), some (.int n), some (.int n), some (.int o), some (.int (q * o + 9479 * (k + 1))), none]) (h1 := h2) (by simp [exSs, exS, evE, evEs, evT, evIf, asgTa, bindTg, pBin, pCmp, pBi, pTru, ob, pIx, atI, ixN, Res.bind, pSet, e2, b2, b3, b4, hq]) ?_
  generalize (q * o + 9479 * (k + 1)) = t
  refine D_nx (ρ1 := [some (.ref l), some (.int n), some (.int n), some (.int o), some (.int (t % 2305843009213693907)), none]) (h1 := h2) (by simp [exSs, exS, evE, evEs, evT, evIf, asgTa, bindTg, pBin, pCmp, pBi, pTru, ob, pIx, atI, ixN, Res.bind, pSet]) ?_
  exact D_rt (by simp [exSs, exS, evE, evEs, evT, evIf, asgTa, bindTg, pBin, pCmp, pBi, pTru, ob, pIx, atI, ixN, Res.bind, pSet, l4, hn])
theorem ten_pow : Builtin.Int.intBits 10 = 4 ∧ Builtin.Int.intBits (10 ^ 60) = 200 := by decide +kernel
theorem dice_run {xs : List PV} {at_ : Int} {is : List Int} {h : PH} (e : intsOf xs = some is) (h0 : 0 ≤ at_) (h1 : at_ < 2 ^ 20) :
    ∃ a b : Int, (0 ≤ a ∧ a < 10 ^ 600) ∧ (0 ≤ b ∧ b < 2 ^ 40) ∧ exSs T cl W bDice [some (.frk xs), some (.int at_), none, none, none, none] h = .ok (.rt (.ref h.length)) (h ++ [.lst [.int a, .int b, .int 0]]) := by
  have gets : ∀ (xs : List PV) (is : List Int), intsOf xs = some is → xs.length = is.length ∧ ∀ (m : Nat) (x : PV), xs[m]? = some x → ∃ c : Int, x = .int c := fun xs => by
    induction xs with
    | nil => intro is e; simp only [intsOf] at e; cases e; exact ⟨rfl, fun m x q => by simp at q⟩
    | cons y ys ih =>
      intro is e
      cases y with
      | int c =>
        simp only [intsOf] at e
        cases q : intsOf ys with
        | none => rw [q] at e; cases e
        | some js =>
          rw [q] at e
          cases e
          obtain ⟨l1, l2⟩ := ih js q
          refine ⟨by simp [l1], fun m x z => ?_⟩
          cases m with
          | zero => simp at z; exact ⟨c, z.symm⟩
          | succ m => exact l2 m x (by simpa using z)
      | _ => simp only [intsOf] at e; cases e
  obtain ⟨_, gx⟩ := gets xs is e
  -- the cell
  obtain ⟨c, hc⟩ : ∃ c : Int, exSs T cl W (bDice.take 2) [some (.frk xs), some (.int at_), none, none, none, none] h = .ok (.nx [some (.frk xs), some (.int at_), some (.int c), none, none, none]) h := by
    have b1 : big 83 at_ = true := big_nat (k := 70) (by decide) (by omega) (by decide)
    unfold bDice
    by_cases q : at_ < xs.length
    · obtain ⟨m, rfl⟩ : ∃ m : Nat, at_ = m := ⟨at_.toNat, by omega⟩
      have hm : m < xs.length := by omega
      obtain ⟨c, hx⟩ := gx m xs[m] (List.getElem?_eq_getElem hm)
      refine ⟨c, ?_⟩
      have hb2 : big 83 (m : Int) = true := b1
      have ea : atI xs (m : Int) = some (.int c) := by
        unfold atI ixN
        rw [if_pos (by omega), if_pos q]
        simp [hm, hx]
      refine D_nx (ρ1 := [some (.frk xs), some (.int m), some (.int (83 * m + 59)), none, none, none]) (h1 := h) (by simp [exSs, exS, evE, evEs, evT, evIf, asgTa, bindTg, pBin, pCmp, pBi, pTru, ob, pIx, atI, ixN, Res.bind, pSet, hb2]) ?_
      generalize (83 * (m : Int) + 59) = z
      have cc : evT T cl (.cmp .lt (.var 1) (.bi .len [.var 0])) [some (.frk xs), some (.int m), some (.int z), none, none, none] h = .ok true h := by simp [exSs, exS, evE, evEs, evT, evIf, asgTa, bindTg, pBin, pCmp, pBi, pTru, ob, pIx, atI, ixN, Res.bind, pSet, hm]
      refine D_nx (ρ1 := [some (.frk xs), some (.int m), some (.int c), none, none, none]) (h1 := h) ?_ (by simp only [List.take_zero, exSs])
      simp only [exS, cc, Res.bind_ok, if_true, exSs, evE, asgTa, List.getElem?_cons_zero, List.getElem?_cons_succ, pIx, ea]
      rfl
    · refine ⟨83 * at_ + 59, ?_⟩
      refine D_nx (ρ1 := [some (.frk xs), some (.int at_), some (.int (83 * at_ + 59)), none, none, none]) (h1 := h) (by simp [exSs, exS, evE, evEs, evT, evIf, asgTa, bindTg, pBin, pCmp, pBi, pTru, ob, pIx, atI, ixN, Res.bind, pSet, b1]) ?_
      generalize (83 * at_ + 59) = z
      have cc : evT T cl (.cmp .lt (.var 1) (.bi .len [.var 0])) [some (.frk xs), some (.int at_), some (.int z), none, none, none] h = .ok false h := by simp [exSs, exS, evE, evEs, evT, evIf, asgTa, bindTg, pBin, pCmp, pBi, pTru, ob, pIx, atI, ixN, Res.bind, pSet, q]
      refine D_nx (ρ1 := [some (.frk xs), some (.int at_), some (.int z), none, none, none]) (h1 := h) ?_ (by simp only [List.take_zero, exSs])
      simp only [exS, cc, Res.bind_ok, exSs]
      rfl
  have split : ∀ (a b : List Sm) (ρ ρ1 : PEnv) (h h1 : PH), exSs T cl W a ρ h = .ok (.nx ρ1) h1 → exSs T cl W (a ++ b) ρ h = exSs T cl W b ρ1 h1 := fun a => by
    induction a with
    | nil => intro b ρ ρ1 h h1 q; simp only [exSs] at q; cases q; rfl
    | cons s r ih =>
      intro b ρ ρ1 h h1 q
      simp only [List.cons_append, exSs] at q ⊢
      cases w : exS T cl W s ρ h with
      | ok f h2 =>
        rw [w, Res.bind_ok] at q
        rw [Res.bind_ok]
        cases f with
        | nx ρ2 => exact ih b ρ2 ρ1 h2 h1 q
        | _ => simp at q
      | _ => rw [w] at q; simp [Res.bind] at q
  have main := split (bDice.take 2) (bDice.drop 2) _ _ _ _ hc
  rw [List.take_append_drop] at main
  obtain ⟨g, hg⟩ : ∃ g : Int, (if c < 0 then -c else c) % ((10 : Int) ^ 60) ^ 10 = g := ⟨_, rfl⟩
  have p600 : ((10 : Int) ^ 60) ^ 10 = 10 ^ 600 := by decide +kernel
  have g1 : 0 ≤ g := by rw [← hg]; exact Int.emod_nonneg _ (by rw [p600]; decide +kernel)
  have g2 : g < 10 ^ 600 := by rw [← hg, ← p600]; exact Int.emod_lt_of_pos _ (by rw [p600]; decide +kernel)
  have s3 : 3 ≤ sizeLine := Nat.le_trans (show 3 ≤ 16 by decide) (by decide)
  have hp1 : ∀ (ρ : PEnv) (h : PH), evE T cl (.bin .pow (.bin .pow (.con (.int 10)) (.con (.int 60))) (.con (.int 10))) ρ h = .ok (.int (((10 : Int) ^ 60) ^ 10)) h := fun ρ h => by
    simp only [evE, Res.bind_ok, pBin]
    rw [if_pos (by decide +kernel)]
    simp only [Res.bind_ok]
    rw [if_pos (by decide +kernel)]
    rfl
  have hp2 : ∀ (ρ : PEnv) (h : PH), evE T cl (.bin .pow (.con (.int 10)) (.con (.int 18))) ρ h = .ok (.int 1000000000000000000) h := fun ρ h => by
    simp only [evE, Res.bind_ok, pBin]
    rw [if_pos (by decide +kernel)]
    rfl
  have pos : (0 : Int) < ((10 : Int) ^ 60) ^ 10 := by rw [p600]; decide +kernel
  have l18 : (1000000000000000000 : Int).natAbs.log2 < 9000 := by decide +kernel
  obtain ⟨m, hm⟩ : ∃ m : Int, g % 2147482811 = m := ⟨_, rfl⟩
  have m1 : 0 ≤ m := by rw [← hm]; exact Int.emod_nonneg _ (by decide)
  have m2 : m < 2147482811 := by rw [← hm]; exact Int.emod_lt_of_pos _ (by decide)
  have b1 : big m 60509 = true := big_nat (k := 70) (by omega) (by decide) (by decide)
  have b2 : big 3499 at_ = true := big_nat (k := 70) (by decide) (by omega) (by decide)
  have b3 : big 73 (if c < 0 then 1 else 0) = true := big_nat (k := 70) (by decide) (by split <;> decide) (by decide)
  have d1 : g / 1000000000000000000 ≤ g := Int.ediv_le_self _ g1
  have d2 : 0 ≤ g / 1000000000000000000 := Int.ediv_nonneg g1 (by decide)
  refine ⟨g / 1000000000000000000, (m * 60509 + 3499 * at_ + 73 * (if c < 0 then 1 else 0) + 101) % 2147482801, ⟨d2, Int.lt_of_le_of_lt d1 g2⟩, ⟨Int.emod_nonneg _ (by decide), Int.lt_trans (Int.emod_lt_of_pos _ (by decide)) (by decide)⟩, ?_⟩
  rw [main]
  clear main hc split d1 d2 g2
  unfold bDice
  refine D_nx (ρ1 := [some (.frk xs), some (.int at_), some (.int c), some (.int g), none, none]) (h1 := h) ?_ ?_
  · have ea : evE T cl (.bi .int [.bi .abs [.var 2]]) [some (.frk xs), some (.int at_), some (.int c), none, none, none] h = .ok (.int (if c < 0 then -c else c)) h := by
      simp only [evE, evEs, List.getElem?_cons_succ, List.getElem?_cons_zero, Res.bind_ok, pBi]
    unfold exS
    rw [show evE T cl (.bin .mod (.bi .int [.bi .abs [.var 2]]) (.bin .pow (.bin .pow (.con (.int 10)) (.con (.int 60))) (.con (.int 10)))) [some (.frk xs), some (.int at_), some (.int c), none, none, none] h = .ok (.int g) h by
      rw [evE, ea, Res.bind_ok, hp1, Res.bind_ok]
      simp only [pBin]
      rw [if_pos (decide_eq_true pos), hg]]
    rfl
  clear hp1 hg pos p600
  refine D_nx (ρ1 := [some (.frk xs), some (.int at_), some (.int c), some (.int g), some (.int (g / 1000000000000000000)), none]) (h1 := h) ?_ ?_
  · unfold exS
    rw [show evE T cl (.bin .fdiv (.var 3) (.bin .pow (.con (.int 10)) (.con (.int 18)))) [some (.frk xs), some (.int at_), some (.int c), some (.int g), none, none] h = .ok (.int (g / 1000000000000000000)) h by
      rw [evE, show evE T cl (.var 3) [some (.frk xs), some (.int at_), some (.int c), some (.int g), none, none] h = .ok (.int g) h from rfl, Res.bind_ok, hp2, Res.bind_ok]
      simp only [pBin]
      rw [if_pos (by rw [decide_eq_true l18]; rfl)]]
    rfl
  generalize g / 1000000000000000000 = gl
  have e8 : evE T cl (.bi .int [.cmp .lt (.var 2) (.con (.int 0))]) [some (.frk xs), some (.int at_), some (.int c), some (.int g), some (.int gl), none] h = .ok (.int (if c < 0 then 1 else 0)) h := by
    simp only [evE, evEs, List.getElem?_cons_succ, List.getElem?_cons_zero, Res.bind_ok, pCmp, pBi]
    by_cases q : c < 0 <;> simp [q]
  generalize (if c < 0 then (1 : Int) else 0) = sg at b3 e8 ⊢
  refine D_nx (ρ1 := [some (.frk xs), some (.int at_), some (.int c), some (.int g), some (.int gl), some (.int (m * 60509 + 3499 * at_ + 73 * sg + 101))]) (h1 := h) ?_ ?_
  · unfold exS
    rw [show evE T cl (.bin .add (.bin .add (.bin .add (.bin .mul (.bin .mod (.var 3) (.con (.int 2147482811))) (.con (.int 60509))) (.bin .mul (.con (.int 3499)) (.var 1))) (.bin .mul (.con (.int 73)) (.bi .int [.cmp .lt (.var 2) (.con (.int 0))]))) (.con (.int 101))) [some (.frk xs), some (.int at_), some (.int c), some (.int g), some (.int gl), none] h = .ok (.int (m * 60509 + 3499 * at_ + 73 * sg + 101)) h by
      generalize hx : (Ex.bi .int [.cmp .lt (.var 2) (.con (.int 0))]) = ex at e8
      simp [evE, e8, pBin, hm, b1, b2, b3]]
    rfl
  generalize (m * 60509 + 3499 * at_ + 73 * sg + 101) = t
  refine D_rt ?_
  simp [exS, evE, evEs, pBin, s3]
end
end Mn
set_option Elab.async false
set_option linter.all false
set_option maxRecDepth 100000
set_option maxHeartbeats 1000000
namespace Mn
open PySem PySem.Spec L2 PyProof.Rows CwR
section
variable {G : Gm} {as as' : List Addr} {H H' : Hp} {h : PH}
theorem SR.say (s : SR G as H h) {l : Nat} {o : PO} (k : ∀ a, as[l]? = some a → RepO G as H o a) : SR G as H (h.set l o) := by
  refine ⟨s.nd, by simp [s.len], fun m ob b e1 e2 => ?_⟩
  by_cases hm : m = l
  · subst hm
    have hl : m < h.length := by
      have := (List.getElem?_eq_some_iff.mp e1).1
      simpa using this
    rw [List.getElem?_set_self hl] at e1
    cases e1
    exact k b e2
  · rw [List.getElem?_set_ne (Ne.symm hm)] at e1
    exact s.at_ m ob b e1 e2
theorem Fut.say {h' : PH} (f : Fut G as H as' H' h') {l : Nat} {o : PO} (k : ∀ a, as'[l]? = some a → RepO G as' H' o a) : Fut G as H as' H' (h'.set l o) := ⟨f.pre, f.kp, f.sr.say k, f.fresh, f.frame⟩
theorem rep_ints {a : Addr} {i j k : Int} (r : RepO G as H (.lst [.int i, .int j, .int k]) a) : H a = some (.lst [.int i, .int j, .int k]) := by
  obtain ⟨vs, e, q⟩ := r
  simp only [RepVs, RepV] at q
  obtain ⟨v, r1, rfl, rfl, v2, r2, rfl, rfl, v3, r3, rfl, rfl, rfl⟩ := q
  exact e
theorem ints_rep {a : Addr} {i j k : Int} (e : H a = some (.lst [.int i, .int j, .int k])) : RepO G as H (.lst [.int i, .int j, .int k]) a := by
  refine ⟨_, e, .cons ?_ (.cons ?_ (.cons ?_ .nil))⟩ <;> (unfold RepV; rfl)
theorem dice_ok {T : Tb} {W : Nat} {cl : Nat → List PV → PH → Res PV} {d : Df} {xs : List PV} {Q : VK} {E : XK} (hp : d.ps.length = 2) (hN : d.N.length = 6) (hb : d.body = bDice) (hx : xs.length = 2) (o : OkV G E as H Q (spDice xs h)) :
    OkV G E as H Q (runD T W cl d xs h) := by
  match xs, hx with
  | [x, y], _ =>
    unfold spDice at o
    split at o
    · rename_i ys i ee
      cases ee
      split at o
      · rename_i q
        obtain ⟨is, e⟩ := Option.isSome_iff_exists.mp q.1
        obtain ⟨a, b, ha, hb', er⟩ := dice_run (T := T) (cl := cl) (W := W) (h := h) e q.2.1 q.2.2
        have : runD T W cl d [.frk ys, .int i] h = .ok (.ref h.length) (h ++ [.lst [.int a, .int b, .int 0]]) := by
          refine run_rt (by simp [hp]) ?_
          rw [hb, hN]
          exact er
        rw [this]
        intro as1 H1 v1 f1 r1
        refine o as1 H1 v1 ?_ r1
        have f2 := f1.say (l := h.length) (o := .dice (2 ^ 63)) fun c ec => by
          obtain ⟨c', ec', rc⟩ := f1.sr.addr (l := h.length) (o := .lst [.int a, .int b, .int 0]) (by simp)
          rw [ec] at ec'
          cases ec'
          exact ⟨a, b, 0, rep_ints rc, ha, hb', by decide, by decide⟩
        simpa using f2
      · exact False.elim o
    · exact False.elim o
theorem roll_ok {T : Tb} {W : Nat} {cl : Nat → List PV → PH → Res PV} {d : Df} {xs : List PV} {Q : VK} {E : XK} (hp : d.ps.length = 2) (hN : d.N.length = 6) (hb : d.body = bRoll) (s : SR G as H h) (hx : xs.length = 2) (o : OkV G E as H Q (spRoll xs h)) :
    ∃ h', SR G as H h' ∧ OkV G E as H Q (runD T W cl d xs h') := by
  match xs, hx with
  | [x, y], _ =>
    unfold spRoll at o
    split at o
    · rename_i l n ee
      cases ee
      split at o
      · rename_i b el
        split at o
        · rename_i q
          obtain ⟨a, ea, ro⟩ := s.addr el
          obtain ⟨i, j, k, eh, hi, hj, hk⟩ := ro
          have hl : l < h.length := (List.getElem?_eq_some_iff.mp el).1
          have eget : (h.set l (.lst [.int i, .int j, .int k]))[l]? = some (.lst [.int i, .int j, .int k]) := List.getElem?_set_self hl
          refine ⟨h.set l (.lst [.int i, .int j, .int k]), s.say fun c ec => ?_, ?_⟩
          · rw [ea] at ec
            cases ec
            exact ints_rep eh
          have fin : ∀ (r i' k' : Int), 0 ≤ r → r < n → (0 ≤ i' ∧ i' < 10 ^ 600) → (0 ≤ k' ∧ k' + b ≤ 2 ^ 64) → exSs T cl W bRoll [some (.ref l), some (.int n), none, none, none, none] (h.set l (.lst [.int i, .int j, .int k])) = .ok (.rt (.int r)) ((h.set l (.lst [.int i, .int j, .int k])).set l (.lst [.int i', .int j, .int k'])) →
              OkV G E as H Q (runD T W cl d [.ref l, .int n] (h.set l (.lst [.int i, .int j, .int k]))) := by
            intro r i' k' r0 rn hi' hk' er
            have e2 : runD T W cl d [.ref l, .int n] (h.set l (.lst [.int i, .int j, .int k])) = .ok (.int r) (h.set l (.lst [.int i', .int j, .int k'])) := by
              rw [List.set_set] at er
              refine run_rt (by simp [hp]) ?_
              rw [hb, hN]
              exact er
            rw [e2]
            intro as1 H1 v1 f1 r1
            have o2 : OkV G E as H Q (.ok (.int (r.toNat : Int)) (h.set l (.dice b))) := o r.toNat (by omega)
            rw [Int.toNat_of_nonneg r0] at o2
            refine o2 as1 H1 v1 ?_ r1
            have f2 := f1.say (l := l) (o := .dice b) fun c ec => by
              obtain ⟨c', ec', rc⟩ := f1.sr.addr (l := l) (o := .lst [.int i', .int j, .int k']) (List.getElem?_set_self hl)
              rw [ec] at ec'
              cases ec'
              exact ⟨i', j, k', rep_ints rc, hi', hj, hk'⟩
            rw [List.set_set] at f2
            exact f2
          by_cases hz : 0 < i
          · refine fin (i % n) (i / n) k (Int.emod_nonneg _ (by omega)) (Int.emod_lt_of_pos _ q.1) ⟨Int.ediv_nonneg hi.1 (by omega), Int.lt_of_le_of_lt (Int.ediv_le_self _ hi.1) hi.2⟩ ⟨hk.1, by omega⟩ (roll_great eget q.1 q.2 hz)
          · obtain ⟨r, r0, rn, er⟩ := roll_small (T := T) (cl := cl) (W := W) eget q.1 q.2 hz hj ⟨hk.1, by omega⟩
            exact fin r i (k + 1) r0 rn hi ⟨by omega, by omega⟩ er
        · exact False.elim o
      · exact False.elim o
    · exact False.elim o
end
end Mn
set_option Elab.async false
set_option linter.all false
set_option maxRecDepth 100000
set_option maxHeartbeats 4000000
namespace K04
open PySem PySem.Spec PyProof.Rows L2 Mn
def spec : Nat → Option (List PV → PH → Res PV)
  | 15 => some spDice
  | 16 => some spRoll
  | _ => none
abbrev call (n : Nat) : Nat → List PV → PH → Res PV := callS T 0 defs spec n
theorem call_run {n i : Nat} {d : Df} {vs : List PV} {h : PH} (hd : defs[i]? = some d) (hs : spec i = none) : call (n + 1) i vs h = runD T 0 (call n) d vs h := by
  show callS T 0 defs spec (n + 1) i vs h = _
  simp only [callS, hd, hs]
theorem e_roll {n l b : Nat} {k : Int} {h : PH} (hl : h[l]? = some (.dice (b + 1))) (h0 : 0 < k) (h1 : k < 2 ^ 62) : call (n + 1) 16 [.ref l, .int k] h = .all k.toNat fun r => .ok (.int r) (h.set l (.dice b)) := by
  have e : call (n + 1) 16 [.ref l, .int k] h = spRoll [.ref l, .int k] h := by
    show callS T 0 defs spec (n + 1) 16 [.ref l, .int k] h = _
    simp only [callS, show defs[16]? = some d__law_roll from rfl, show spec 16 = some spRoll from rfl]
    rfl
  rw [e]
  unfold spRoll
  simp only [hl]
  rw [if_pos ⟨h0, h1⟩]
theorem e_within {n : Nat} {v l m : Int} {h : PH} (h1 : l ≤ v) (h2 : v ≤ m) : call (n + 1) 0 [.int v, .int l, .int m] h = .ok (.bl true) h := by
  rw [call_run (d := d_is_within) rfl rfl]
  simp [runD, runBody, exSs, exS, evE, evEs, evT, evIf, asgTa, bindTg, pBin, pCmp, pBi, pTru, Mn.ob, pIx, Res.bind, callG, T, isTy, fnT, isTys, tyOf, subC, tyB, tyAll, tyNames, Bi.tyn, d_is_within, b_is_within, h1, h2]
theorem e_checkw {n : Nat} {v l m : Int} {h : PH} (h1 : l ≤ v) (h2 : v ≤ m) : call (n + 2) 5 [.int v, .int l, .int m] h = .ok .non h := by
  rw [call_run (d := d_check_within) rfl rfl]
  simp [runD, runBody, exSs, exS, evE, evEs, evT, evIf, asgTa, bindTg, pBin, pCmp, pBi, pTru, Mn.ob, pIx, Res.bind, callG, T, isTy, fnT, isTys, tyOf, subC, tyB, tyAll, tyNames, Bi.tyn, d_check_within, b_check_within, e_within h1 h2]
theorem e_count {n : Nat} {v : Int} {h : PH} (h1 : 0 ≤ v) : call (n + 1) 1 [.int v, .int 0] h = .ok (.bl true) h := by
  rw [call_run (d := d_is_count) rfl rfl]
  simp [runD, runBody, exSs, exS, evE, evEs, evT, evIf, asgTa, bindTg, pBin, pCmp, pBi, pTru, Mn.ob, pIx, Res.bind, callG, T, isTy, fnT, isTys, tyOf, subC, tyB, tyAll, tyNames, Bi.tyn, d_is_count, b_is_count, h1]
theorem e_checkc {n : Nat} {v : Int} {h : PH} (h1 : 0 ≤ v) : call (n + 2) 6 [.int v, .int 0] h = .ok .non h := by
  rw [call_run (d := d_check_count) rfl rfl]
  simp [runD, runBody, exSs, exS, evE, evEs, evT, evIf, asgTa, bindTg, pBin, pCmp, pBi, pTru, Mn.ob, pIx, Res.bind, callG, T, isTy, fnT, isTys, tyOf, subC, tyB, tyAll, tyNames, Bi.tyn, d_check_count, b_check_count, e_count h1]
theorem e_checkb {n : Nat} {v b m : Nat} {h : PH} (h1 : b ≤ m) (h2 : v < 2 ^ b) (h3 : b ≤ 1000) : call (n + 3) 14 [.int v, .int b, .int m] h = .ok .non h := by
  rw [call_run (d := d__check_bits) rfl rfl]
  have e := e_checkw (n := n) (v := b) (l := 0) (m := m) (h := h) (by omega) (by omega)
  have h4 : ¬ ((2 : Int) ^ b ≤ v) := by
    have : ((2 ^ b : Nat) : Int) > v := by omega
    push_cast at this
    omega
  have h5 : (b : Int) ≤ 1000000 := by omega
  have ec := e_checkc (n := n) (v := v) (h := h) (by omega)
  simp [runD, runBody, exSs, exS, evE, evEs, evT, evIf, asgTa, bindTg, pBin, pCmp, pBi, pTru, Mn.ob, pIx, Res.bind, callG, T, isTy, fnT, isTys, tyOf, subC, tyB, tyAll, tyNames, Bi.tyn, d__check_bits, b__check_bits, e, ec, h4, h5]
theorem for_det {body : PV → PEnv → PH → Res Fl} {w : Wk} {N : Nat} {item : Nat → PV} {f : Nat → PEnv} {hp : Nat → PH} (hi : ∀ i < N, wkAt (hp i) i w = some (some (item i))) (he : wkAt (hp N) N w = some none) (hb : ∀ i < N, body (item i) (f i) (hp i) = .ok (.nx (f (i + 1))) (hp (i + 1))) :
    forRun body w (N + 1) 0 (f 0) (hp 0) = .ok (.nx (f N)) (hp N) := by
  have gen : ∀ m i, i + m = N → forRun body w (m + 1) i (f i) (hp i) = .ok (.nx (f N)) (hp N) := fun m => by
    induction m with
    | zero =>
      intro i hi'
      have : i = N := by omega
      subst this
      unfold forRun
      rw [he]
    | succ m ih =>
      intro i hi'
      unfold forRun
      rw [hi i (by omega)]
      simp only
      rw [hb i (by omega)]
      exact ih (i + 1) (by omega)
  exact gen N 0 (by omega)
theorem fix_at {xs : List PV} {h : PH} {i : Nat} {x : PV} (e : xs[i]? = some x) : wkAt h i (.fix xs) = some (some x) := by simp only [wkAt, e]
theorem fix_end {xs : List PV} {h : PH} : wkAt h xs.length (.fix xs) = some none := by simp [wkAt]
section
variable {cl : Nat → List PV → PH → Res PV}
theorem st_nx {s : Sm} {r : List Sm} {ρ ρ1 : PEnv} {h h1 : PH} {z : Res Fl} (e : exS T cl 0 s ρ h = .ok (.nx ρ1) h1) (k : exSs T cl 0 r ρ1 h1 = z) : exSs T cl 0 (s :: r) ρ h = z := by
  simp only [exSs, e, Res.bind_ok]
  exact k
theorem st_rt {s : Sm} {r : List Sm} {ρ : PEnv} {h h1 : PH} {v : PV} (e : exS T cl 0 s ρ h = .ok (.rt v) h1) : exSs T cl 0 (s :: r) ρ h = .ok (.rt v) h1 := by
  simp only [exSs, e, Res.bind_ok]
theorem rb_rt {ns : Nat} {b : List Sm} {vs : List PV} {h h1 : PH} {v : PV} (e : exSs T cl 0 b (vs.map some ++ List.replicate (ns - vs.length) none) h = .ok (.rt v) h1) : runBody T cl 0 ns b vs h = .ok v h1 := by
  unfold runBody
  rw [e]
  rfl
theorem rd_rt {d : Df} {vs : List PV} {h h1 : PH} {v : PV} (hl : vs.length = d.ps.length) (e : exSs T cl 0 d.body (vs.map some ++ List.replicate (d.N.length - vs.length) none) h = .ok (.rt v) h1) : runD T 0 cl d vs h = .ok v h1 := by
  unfold runD
  rw [if_pos hl]
  exact rb_rt e
theorem for_st {t : Tg} {k : Ik} {its : List Ex} {b : List Sm} {w : Wk} {N : Nat} {ρ : PEnv} {h : PH} (item : Nat → PV) (f : Nat → PEnv) (hp : Nat → PH) (hv : evI T cl k its ρ h = .ok (w, N) (hp 0)) (h0 : ρ = f 0)
    (hi : ∀ i < N, wkAt (hp i) i w = some (some (item i))) (he : wkAt (hp N) N w = some none) (hb : ∀ i < N, forB T cl 0 t b (item i) (f i) (hp i) = .ok (.nx (f (i + 1))) (hp (i + 1))) :
    exS T cl 0 (.for_ t k its b) ρ h = .ok (.nx (f N)) (hp N) := by
  rw [exS_for, hv, Res.bind_ok, h0]
  exact for_det hi he hb
end
theorem wk_rng {b : Nat} {h : PH} (hb : b ≤ 1000000) : wkOf .rng [.int b] h = some (.fix ((List.range b).map fun (i : Nat) => .int i), b) := by
  have h3 : (b : Int) < 4611686018427387904 := by omega
  have h4 : (-4611686018427387904 : Int) ≤ b := by omega
  simp [wkOf, h3, h4]
theorem evI_rng {cl : Nat → List PV → PH → Res PV} {its : List Ex} {ρ : PEnv} {h h1 : PH} {b : Nat} (he : evEs T cl its ρ h = .ok [.int b] h1) (hb : b ≤ 1000000) : evI T cl .rng its ρ h = .ok (.fix ((List.range b).map fun (i : Nat) => .int i), b) h1 := by
  unfold evI
  rw [he, Res.bind_ok, wk_rng hb]
theorem log_lt {x k : Nat} (h : x < 2 ^ k) (hk : k ≤ 400000) : x.log2 < 400000 + 1 := by
  by_cases hz : x = 0
  · rw [hz]; decide
  · have := (Nat.log2_lt hz).mpr h
    omega
theorem big_ok {a b k : Nat} (ha : a < 2 ^ k) (hb : b < 2 ^ k) (hk : k ≤ 400000) : big a b = true := by
  unfold big
  have h1 := log_lt ha hk
  have h2 := log_lt hb hk
  simp
  omega
theorem e_rev {n : Nat} {v b : Nat} {h : PH} (h1 : b ≤ 64) (h2 : v < 2 ^ b) : call (n + 4) 12 [.int v, .int b] h = .ok (.int (R b v)) h := by
  rw [call_run (d := d_reversed_bits) rfl rfl]
  have e : call (n + 3) 14 [.int v, .int b, .int 64] h = .ok .non h := e_checkb (n := n) (v := v) (b := b) (m := 64) (h := h) h1 h2 (by omega)
  refine rd_rt rfl ?_
  show exSs T (call (n + 3)) 0 b_reversed_bits [some (.int v), some (.int b), none, none] h = _
  refine st_nx (ρ1 := [some (.int v), some (.int b), none, none]) (h1 := h) (by simp [runD, runBody, exSs, exS, evE, evEs, evT, evIf, asgTa, bindTg, pBin, pCmp, pBi, pTru, Mn.ob, pIx, Res.bind, callG, T, isTy, fnT, isTys, tyOf, subC, tyB, tyAll, tyNames, Bi.tyn, e]) ?_
  refine st_nx (ρ1 := [some (.int v), some (.int b), some (.int 0), none]) (h1 := h) (by simp [runD, runBody, exSs, exS, evE, evEs, evT, evIf, asgTa, bindTg, pBin, pCmp, pBi, pTru, Mn.ob, pIx, Res.bind, callG, T, isTy, fnT, isTys, tyOf, subC, tyB, tyAll, tyNames, Bi.tyn]) ?_
  refine st_nx (for_st (w := .fix ((List.range b).map fun (i : Nat) => .int i)) (N := b) (fun i => .int i) (fun i => [some (.int v), some (.int b), some (.int (R i v)), if i = 0 then none else some (.int (i - 1 : Int))]) (fun _ => h)
    ?_ rfl (fun i hi => fix_at (by simp [hi])) (by simpa using fix_end (xs := (List.range b).map fun (i : Nat) => PV.int i) (h := h)) fun i hi => ?_) ?_
  · exact evI_rng (by simp [runD, runBody, exSs, exS, evE, evEs, evT, evIf, asgTa, bindTg, pBin, pCmp, pBi, pTru, Mn.ob, pIx, Res.bind, callG, T, isTy, fnT, isTys, tyOf, subC, tyB, tyAll, tyNames, Bi.tyn]) (by omega)
  · have hb : big (R i v) 2 = true := big_ok (k := 65) (Nat.lt_of_lt_of_le (R_lt i v) (Nat.pow_le_pow_right (by decide) (by omega))) (by decide) (by decide)
    unfold forB
    simp [runD, runBody, exSs, exS, evE, evEs, evT, evIf, asgTa, bindTg, pBin, pCmp, pBi, pTru, Mn.ob, pIx, Res.bind, callG, T, isTy, fnT, isTys, tyOf, subC, tyB, tyAll, tyNames, Bi.tyn, hb, bitAnd_m1]
    simp only [R]
    push_cast
    rfl
  · exact st_rt (by simp [runD, runBody, exSs, exS, evE, evEs, evT, evIf, asgTa, bindTg, pBin, pCmp, pBi, pTru, Mn.ob, pIx, Res.bind, callG, T, isTy, fnT, isTys, tyOf, subC, tyB, tyAll, tyNames, Bi.tyn])
theorem e_bucket {n : Nat} {k b : Nat} {h : PH} (h1 : b ≤ 16) (h2 : k < 2 ^ b) : call (n + 5) 13 [.int k, .int b] h = .ok (.tup [.int (R b k * 2 ^ (16 - b) : Nat), .int ((R b k * 2 ^ (16 - b) + 2 ^ (16 - b) - 1 : Nat))]) h := by
  rw [call_run (d := d_bucket_spots) rfl rfl]
  have e : call (n + 4) 14 [.int k, .int b, .int 16] h = .ok .non h := e_checkb (n := n + 1) (v := k) (b := b) (m := 16) (h := h) h1 h2 (by omega)
  have e2 := e_rev (n := n) (v := k) (b := b) (h := h) (by omega) h2
  refine rd_rt rfl ?_
  show exSs T (call (n + 4)) 0 b_bucket_spots [some (.int k), some (.int b), none, none] h = _
  have ht : ((16 : Int) - b).toNat = 16 - b := by omega
  have hc1 : (b : Int) ≤ 16 := by omega
  have hc2 : (16 : Int) - b ≤ 1000000 := by omega
  refine st_nx (ρ1 := [some (.int k), some (.int b), none, none]) (h1 := h) (by simp [runD, runBody, exSs, exS, evE, evEs, evT, evIf, asgTa, bindTg, pBin, pCmp, pBi, pTru, Mn.ob, pIx, Res.bind, callG, T, isTy, fnT, isTys, tyOf, subC, tyB, tyAll, tyNames, Bi.tyn, e]) ?_
  refine st_nx (ρ1 := [some (.int k), some (.int b), some (.int (2 ^ (16 - b) : Nat)), none]) (h1 := h) (by
    simp [runD, runBody, exSs, exS, evE, evEs, evT, evIf, asgTa, bindTg, pBin, pCmp, pBi, pTru, Mn.ob, pIx, Res.bind, callG, T, isTy, fnT, isTys, tyOf, subC, tyB, tyAll, tyNames, Bi.tyn, ht, hc1, hc2]) ?_
  have hb : big (R b k) ((2 ^ (16 - b) : Nat)) = true := big_ok (k := 65) (Nat.lt_of_lt_of_le (R_lt b k) (Nat.pow_le_pow_right (by decide) (by omega))) (Nat.pow_lt_pow_right (by decide) (by omega)) (by decide)
  refine st_nx (ρ1 := [some (.int k), some (.int b), some (.int (2 ^ (16 - b) : Nat)), some (.int (R b k * 2 ^ (16 - b) : Nat))]) (h1 := h) (by
    push_cast at hb
    simp [runD, runBody, exSs, exS, evE, evEs, evT, evIf, asgTa, bindTg, pBin, pCmp, pBi, pTru, Mn.ob, pIx, Res.bind, callG, T, isTy, fnT, isTys, tyOf, subC, tyB, tyAll, tyNames, Bi.tyn, e2, hb]) ?_
  refine st_rt ?_
  have hp : 0 < 2 ^ (16 - b) := Nat.pow_pos (by decide)
  have hh : ((R b k * 2 ^ (16 - b) + 2 ^ (16 - b) - 1 : Nat) : Int) = ((R b k * 2 ^ (16 - b) : Nat) : Int) + ((2 ^ (16 - b) : Nat) : Int) - 1 := by omega
  rw [hh]
  have hs : 2 ≤ sizeLine := by decide
  simp [runD, runBody, exSs, exS, evE, evEs, evT, evIf, asgTa, bindTg, pBin, pCmp, pBi, pTru, Mn.ob, pIx, Res.bind, callG, T, isTy, fnT, isTys, tyOf, subC, tyB, tyAll, tyNames, Bi.tyn, hs]
theorem e_power {n b : Nat} {h : PH} (h1 : b ≤ 100) : call (n + 1) 21 [.int b] h = .ok (.int (2 ^ b : Nat)) h := by
  rw [call_run (d := d__law_power) rfl rfl]
  refine rd_rt rfl ?_
  show exSs T (call n) 0 b__law_power [some (.int b), none, none] h = _
  refine st_nx (ρ1 := [some (.int b), some (.int 1), none]) (h1 := h) (by simp [runD, runBody, exSs, exS, evE, evEs, evT, evIf, asgTa, bindTg, pBin, pCmp, pBi, pTru, Mn.ob, pIx, Res.bind, callG, T, isTy, fnT, isTys, tyOf, subC, tyB, tyAll, tyNames, Bi.tyn]) ?_
  refine st_nx (for_st (w := .fix ((List.range b).map fun (i : Nat) => .int i)) (N := b) (fun i => .int i) (fun i => [some (.int b), some (.int (2 ^ i : Nat)), if i = 0 then none else some (.int (i - 1 : Int))]) (fun _ => h)
    ?_ rfl (fun i hi => fix_at (by simp [hi])) (by simpa using fix_end (xs := (List.range b).map fun (i : Nat) => PV.int i) (h := h)) fun i hi => ?_) ?_
  · exact evI_rng (by simp [runD, runBody, exSs, exS, evE, evEs, evT, evIf, asgTa, bindTg, pBin, pCmp, pBi, pTru, Mn.ob, pIx, Res.bind, callG, T, isTy, fnT, isTys, tyOf, subC, tyB, tyAll, tyNames, Bi.tyn]) (by omega)
  · have hb : big ((2 ^ i : Nat)) 2 = true := big_ok (k := 101) (Nat.pow_lt_pow_right (by decide) (by omega)) (by decide) (by decide)
    unfold forB
    push_cast at hb
    simp [runD, runBody, exSs, exS, evE, evEs, evT, evIf, asgTa, bindTg, pBin, pCmp, pBi, pTru, Mn.ob, pIx, Res.bind, callG, T, isTy, fnT, isTys, tyOf, subC, tyB, tyAll, tyNames, Bi.tyn, hb]
    rw [Int.pow_succ]
  · exact st_rt (by simp [runD, runBody, exSs, exS, evE, evEs, evT, evIf, asgTa, bindTg, pBin, pCmp, pBi, pTru, Mn.ob, pIx, Res.bind, callG, T, isTy, fnT, isTys, tyOf, subC, tyB, tyAll, tyNames, Bi.tyn])
end K04
set_option Elab.async false
set_option linter.all false
set_option maxRecDepth 100000
set_option maxHeartbeats 4000000
namespace K04
open PySem PySem.Spec PyProof.Rows L2 Mn
def okc (c : Nat) : Prop := 32 ≤ c ∧ c < 127
def okx (x : List Nat) : Prop := ∀ c ∈ x, okc c
theorem pr_ok : ∀ c, c < 127 → 32 ≤ c → Unicode.isPrintable c = true := by decide +kernel
theorem ascii_ok {x : List Nat} (h : okx x) : Txt.isascii ⟨x.toArray⟩ = true := by
  unfold Txt.isascii
  simp only [List.all_toArray, List.all_eq_true, decide_eq_true_eq]
  intro c hc
  have := h c hc
  unfold okc at this
  omega
theorem print_ok {x : List Nat} (h : okx x) : Txt.isprintable ⟨x.toArray⟩ = true := by
  unfold Txt.isprintable
  simp only [List.all_toArray, List.all_eq_true]
  intro c hc
  have := h c hc
  exact pr_ok c this.2 this.1
theorem e_isprint {n : Nat} {x : List Nat} {h : PH} (hx : okx x) : call (n + 1) 2 [.str x] h = .ok (.bl true) h := by
  rw [call_run (d := d_is_printed) rfl rfl]
  simp [runD, runBody, exSs, exS, evE, evEs, evT, evIf, asgTa, bindTg, pBin, pCmp, pBi, pTru, Mn.ob, pIx, Res.bind, callG, T, isTy, fnT, isTys, tyOf, subC, tyB, tyAll, tyNames, Bi.tyn, d_is_printed, b_is_printed, Bq.of, kindAt, pBq, ascii_ok hx, print_ok hx]
theorem e_istext {n : Nat} {x : List Nat} {h : PH} (hx : okx x) (hl : x.length ≤ 200) : call (n + 2) 3 [.str x] h = .ok (.bl true) h := by
  rw [call_run (d := d_is_text) rfl rfl]
  have h1 : x.length ≤ sizeLine := Nat.le_trans hl (by decide)
  have h2 : (x.length : Int) ≤ 200 := by omega
  simp [runD, runBody, exSs, exS, evE, evEs, evT, evIf, asgTa, bindTg, pBin, pCmp, pBi, pTru, Mn.ob, pIx, Res.bind, callG, T, isTy, fnT, isTys, tyOf, subC, tyB, tyAll, tyNames, Bi.tyn, d_is_text, b_is_text, h1, h2, e_isprint hx]
theorem e_checkt {n : Nat} {x : List Nat} {h : PH} (hx : okx x) (hl : x.length ≤ 200) : call (n + 3) 4 [.str x] h = .ok .non h := by
  rw [call_run (d := d_check_text) rfl rfl]
  simp [runD, runBody, exSs, exS, evE, evEs, evT, evIf, asgTa, bindTg, pBin, pCmp, pBi, pTru, Mn.ob, pIx, Res.bind, callG, T, isTy, fnT, isTys, tyOf, subC, tyB, tyAll, tyNames, Bi.tyn, d_check_text, b_check_text, e_istext hx hl]
theorem hsh_take {x : List Nat} {i : Nat} (hi : i < x.length) : hsh (x.take (i + 1)) = (hsh (x.take i) * 33 + x[i]) % 65536 := by
  unfold hsh
  rw [List.take_succ_eq_append_getElem hi, List.foldl_append]
  rfl
theorem hash_big (y : List Nat) : big (hsh y) 33 = true := big_ok (k := 17) (by have := hsh_lt y; omega) (by decide) (by decide)
theorem hash_turn_p {cl : Nat → List PV → PH → Res PV} {x : List Nat} {i : Nat} {h : PH} (hi : i < x.length) : forB T cl 0 (.nm 2) [.asg (.nm 1) (.bin .mod (.bin .add (.bin .mul (.var 1) (.con (.int 33))) (.bi .ord [.var 2])) (.glob 33))] (.str [x.getD i 0]) [some (.str x), some (.int (hsh (x.take i))), if i = 0 then none else some (.str [x.getD (i - 1) 0])] h =
    .ok (.nx [some (.str x), some (.int (hsh (x.take (i + 1)))), if i + 1 = 0 then none else some (.str [x.getD (i + 1 - 1) 0])]) h := by
  have e1 : hsh (x.take (i + 1)) = (hsh (x.take i) * 33 + x.getD i 0) % 65536 := by rw [hsh_take hi]; simp [hi]
  have hb := hash_big (x.take i)
  rw [e1, if_neg (Nat.succ_ne_zero i), Nat.add_sub_cancel]
  generalize (if i = 0 then none else some (PV.str [x.getD (i - 1) 0])) = z
  generalize hsh (x.take i) = H at hb ⊢
  generalize x.getD i 0 = c
  unfold forB
  simp [runD, runBody, exSs, exS, evE, evEs, evT, evIf, asgTa, bindTg, pBin, pCmp, pBi, pTru, Mn.ob, pIx, Res.bind, callG, T, isTy, fnT, isTys, tyOf, subC, tyB, tyAll, tyNames, Bi.tyn, hb]
theorem hash_turn_l {cl : Nat → List PV → PH → Res PV} {x : List Nat} {i : Nat} {h : PH} (hi : i < x.length) : forB T cl 0 (.nm 2) [.asg (.nm 1) (.bin .mod (.bi .int [.bin .add (.bin .mul (.var 1) (.con (.int 33))) (.bi .ord [.var 2])]) (.con (.int 65536)))] (.str [x.getD i 0]) [some (.str x), some (.int (hsh (x.take i))), if i = 0 then none else some (.str [x.getD (i - 1) 0])] h =
    .ok (.nx [some (.str x), some (.int (hsh (x.take (i + 1)))), if i + 1 = 0 then none else some (.str [x.getD (i + 1 - 1) 0])]) h := by
  have e1 : hsh (x.take (i + 1)) = (hsh (x.take i) * 33 + x.getD i 0) % 65536 := by rw [hsh_take hi]; simp [hi]
  have hb := hash_big (x.take i)
  rw [e1, if_neg (Nat.succ_ne_zero i), Nat.add_sub_cancel]
  generalize (if i = 0 then none else some (PV.str [x.getD (i - 1) 0])) = z
  generalize hsh (x.take i) = H at hb ⊢
  generalize x.getD i 0 = c
  unfold forB
  simp [runD, runBody, exSs, exS, evE, evEs, evT, evIf, asgTa, bindTg, pBin, pCmp, pBi, pTru, Mn.ob, pIx, Res.bind, callG, T, isTy, fnT, isTys, tyOf, subC, tyB, tyAll, tyNames, Bi.tyn, hb]
theorem e_hash {n : Nat} {x : List Nat} {h : PH} (hx : okx x) (hl : x.length ≤ 200) : call (n + 4) 7 [.str x] h = .ok (.int (hsh x)) h := by
  rw [call_run (d := d_hash_of) rfl rfl]
  have e := e_checkt (n := n) (h := h) hx hl
  refine rd_rt rfl ?_
  show exSs T (call (n + 3)) 0 b_hash_of [some (.str x), none, none] h = _
  refine st_nx (ρ1 := [some (.str x), none, none]) (h1 := h) (by simp [runD, runBody, exSs, exS, evE, evEs, evT, evIf, asgTa, bindTg, pBin, pCmp, pBi, pTru, Mn.ob, pIx, Res.bind, callG, T, isTy, fnT, isTys, tyOf, subC, tyB, tyAll, tyNames, Bi.tyn, e]) ?_
  refine st_nx (ρ1 := [some (.str x), some (.int 0), none]) (h1 := h) (by simp [runD, runBody, exSs, exS, evE, evEs, evT, evIf, asgTa, bindTg, pBin, pCmp, pBi, pTru, Mn.ob, pIx, Res.bind, callG, T, isTy, fnT, isTys, tyOf, subC, tyB, tyAll, tyNames, Bi.tyn]) ?_
  refine st_nx (for_st (w := .fix (x.map fun c => .str [c])) (N := x.length) (fun i => .str [x.getD i 0]) (fun i => [some (.str x), some (.int (hsh (x.take i))), if i = 0 then none else some (.str [x.getD (i - 1) 0])]) (fun _ => h)
    ?_ rfl (fun i hi => fix_at (by simp [hi])) (by simp [wkAt]) fun i hi => ?_) ?_
  · unfold evI
    simp [runD, runBody, exSs, exS, evE, evEs, evT, evIf, asgTa, bindTg, pBin, pCmp, pBi, pTru, Mn.ob, pIx, Res.bind, callG, T, isTy, fnT, isTys, tyOf, subC, tyB, tyAll, tyNames, Bi.tyn, wkOf]
  · exact hash_turn_p hi
  · refine st_rt ?_
    simp [runD, runBody, exSs, exS, evE, evEs, evT, evIf, asgTa, bindTg, pBin, pCmp, pBi, pTru, Mn.ob, pIx, Res.bind, callG, T, isTy, fnT, isTys, tyOf, subC, tyB, tyAll, tyNames, Bi.tyn]
theorem e_lhash {n : Nat} {x : List Nat} {h : PH} : call (n + 1) 23 [.str x] h = .ok (.int (hsh x)) h := by
  rw [call_run (d := d__law_hash) rfl rfl]
  refine rd_rt rfl ?_
  show exSs T (call n) 0 b__law_hash [some (.str x), none, none] h = _
  refine st_nx (ρ1 := [some (.str x), some (.int 0), none]) (h1 := h) (by simp [runD, runBody, exSs, exS, evE, evEs, evT, evIf, asgTa, bindTg, pBin, pCmp, pBi, pTru, Mn.ob, pIx, Res.bind, callG, T, isTy, fnT, isTys, tyOf, subC, tyB, tyAll, tyNames, Bi.tyn]) ?_
  refine st_nx (for_st (w := .fix (x.map fun c => .str [c])) (N := x.length) (fun i => .str [x.getD i 0]) (fun i => [some (.str x), some (.int (hsh (x.take i))), if i = 0 then none else some (.str [x.getD (i - 1) 0])]) (fun _ => h)
    ?_ rfl (fun i hi => fix_at (by simp [hi])) (by simp [wkAt]) fun i hi => ?_) ?_
  · unfold evI
    simp [runD, runBody, exSs, exS, evE, evEs, evT, evIf, asgTa, bindTg, pBin, pCmp, pBi, pTru, Mn.ob, pIx, Res.bind, callG, T, isTy, fnT, isTys, tyOf, subC, tyB, tyAll, tyNames, Bi.tyn, wkOf]
  · exact hash_turn_l hi
  · refine st_rt ?_
    simp [runD, runBody, exSs, exS, evE, evEs, evT, evIf, asgTa, bindTg, pBin, pCmp, pBi, pTru, Mn.ob, pIx, Res.bind, callG, T, isTy, fnT, isTys, tyOf, subC, tyB, tyAll, tyNames, Bi.tyn]
theorem e_spot {n : Nat} {x : List Nat} {h : PH} (hx : okx x) (hl : x.length ≤ 200) : call (n + 5) 8 [.str x] h = .ok (.int (R 16 (hsh x))) h := by
  rw [call_run (d := d_spot_of) rfl rfl]
  have e : call (n + 4) 12 [.int (hsh x), .int 16] h = .ok (.int (R 16 (hsh x))) h := e_rev (n := n) (v := hsh x) (b := 16) (by decide) (by have := hsh_lt x; omega)
  have e2 := e_hash (n := n) (h := h) hx hl
  simp [runD, runBody, exSs, exS, evE, evEs, evT, evIf, asgTa, bindTg, pBin, pCmp, pBi, pTru, Mn.ob, pIx, Res.bind, callG, T, isTy, fnT, isTys, tyOf, subC, tyB, tyAll, tyNames, Bi.tyn, d_spot_of, b_spot_of, e, e2]
end K04
set_option Elab.async false
set_option linter.all false
set_option maxRecDepth 100000
set_option maxHeartbeats 4000000
namespace K04
open PySem PySem.Spec PyProof.Rows L2 Mn
theorem get_last {h : PH} {o : PO} : (h ++ [o])[h.length]? = some o := by simp
theorem set_last {h : PH} {o o' : PO} : (h ++ [o]).set h.length o' = h ++ [o'] := by simp
def digs (v i : Nat) : List PV := (List.range i).map fun j => .int (v / 2 ^ j % 2 : Nat)
theorem digs_succ (v i : Nat) : digs v (i + 1) = digs v i ++ [.int (v / 2 ^ i % 2 : Nat)] := by simp [digs, List.range_succ]
theorem digs_len (v i : Nat) : (digs v i).length = i := by simp [digs]
theorem digs_get {v b i : Nat} (h : i < b) : (digs v b)[i]? = some (.int (v / 2 ^ i % 2 : Nat)) := by simp [digs, h]
theorem turn_a {cl : Nat → List PV → PH → Res PV} {v b i : Nat} {h : PH} {z : Option PV} (hi : i < 100) : forB T cl 0 (.nm 3) [.ex (.mt 0 .append (.var 2) [.bin .mod (.bi .int [.var 0]) (.con (.int 2))]), .asg (.nm 0) (.bin .fdiv (.var 0) (.con (.int 2)))] (.int i)
    [some (.int (v / 2 ^ i : Nat)), some (.int b), some (.ref h.length), z, none, none] (h ++ [.lst (digs v i)]) = .ok (.nx [some (.int (v / 2 ^ (i + 1) : Nat)), some (.int b), some (.ref h.length), some (.int i), none, none]) (h ++ [.lst (digs v (i + 1))]) := by
  have e1 : ((v / 2 ^ (i + 1) : Nat) : Int) = ((v / 2 ^ i : Nat) : Int) / 2 := by
    rw [Nat.pow_succ, ← Nat.div_div_eq_div_mul]
    push_cast
    rfl
  have e2 : ((v / 2 ^ i % 2 : Nat) : Int) = ((v / 2 ^ i : Nat) : Int) % 2 := by push_cast; rfl
  have hl : (digs v i).length < sizeLine := by rw [digs_len]; exact Nat.lt_of_lt_of_le hi (by decide)
  have l2 : Nat.log2 2 = 1 := by decide
  rw [digs_succ, e1, e2]
  generalize ((v / 2 ^ i : Nat) : Int) = V
  generalize digs v i = xs at hl ⊢
  unfold forB
  simp [runD, runBody, exSs, exS, evE, evEs, evT, evIf, asgTa, bindTg, pBin, pCmp, pBi, pTru, Mn.ob, pIx, Res.bind, callG, T, isTy, fnT, isTys, tyOf, subC, tyB, tyAll, tyNames, Bi.tyn, Bq.of, kindAt, pBq, hl, l2]
theorem turn_b {cl : Nat → List PV → PH → Res PV} {v i : Nat} {d0 d1 d2 d3 z : Option PV} {h : PH} (hi : i < 100) : forB T cl 0 (.nm 5) [.asg (.nm 4) (.bin .add (.bin .mul (.var 4) (.con (.int 2))) (.var 5))] (.int (v / 2 ^ i % 2 : Nat))
    [d0, d1, d2, d3, some (.int (R i v)), z] h = .ok (.nx [d0, d1, d2, d3, some (.int (R (i + 1) v)), some (.int (v / 2 ^ i % 2 : Nat))]) h := by
  have hb : big (R i v) 2 = true := big_ok (k := 101) (Nat.lt_of_lt_of_le (R_lt i v) (Nat.pow_le_pow_right (by decide) (by omega))) (by decide) (by decide)
  have e : ((R (i + 1) v : Nat) : Int) = (R i v : Int) * 2 + ((v / 2 ^ i % 2 : Nat) : Int) := by simp only [R]; push_cast; rfl
  rw [e]
  generalize ((R i v : Nat) : Int) = r at hb ⊢
  generalize ((v / 2 ^ i % 2 : Nat) : Int) = w
  unfold forB
  simp [runD, runBody, exSs, exS, evE, evEs, evT, evIf, asgTa, bindTg, pBin, pCmp, pBi, pTru, Mn.ob, pIx, Res.bind, callG, T, isTy, fnT, isTys, tyOf, subC, tyB, tyAll, tyNames, Bi.tyn, hb]
theorem e_turned {n : Nat} {v b : Nat} {h : PH} (hb : b ≤ 64) : call (n + 1) 22 [.int v, .int b] h = .ok (.int (R b v)) (h ++ [.lst (digs v b)]) := by
  rw [call_run (d := d__law_turned) rfl rfl]
  refine rd_rt rfl ?_
  show exSs T (call n) 0 b__law_turned [some (.int v), some (.int b), none, none, none, none] h = _
  refine st_nx (ρ1 := [some (.int v), some (.int b), some (.ref h.length), none, none, none]) (h1 := h ++ [.lst []]) (by simp [runD, runBody, exSs, exS, evE, evEs, evT, evIf, asgTa, bindTg, pBin, pCmp, pBi, pTru, Mn.ob, pIx, Res.bind, callG, T, isTy, fnT, isTys, tyOf, subC, tyB, tyAll, tyNames, Bi.tyn]) ?_
  refine st_nx (for_st (w := .fix ((List.range b).map fun (i : Nat) => .int i)) (N := b) (fun i => .int i) (fun i => [some (.int (v / 2 ^ i : Nat)), some (.int b), some (.ref h.length), if i = 0 then none else some (.int (i - 1 : Nat)), none, none]) (fun i => h ++ [.lst (digs v i)])
    ?_ (by simp) (fun i hi => fix_at (by simp [hi])) (by simpa using fix_end (xs := (List.range b).map fun (i : Nat) => PV.int i) (h := h ++ [.lst (digs v b)])) fun i hi => ?_) ?_
  · exact evI_rng (by simp [runD, runBody, exSs, exS, evE, evEs, evT, evIf, asgTa, bindTg, pBin, pCmp, pBi, pTru, Mn.ob, pIx, Res.bind, callG, T, isTy, fnT, isTys, tyOf, subC, tyB, tyAll, tyNames, Bi.tyn, digs]) (by omega)
  · have q := turn_a (cl := call n) (v := v) (b := b) (i := i) (h := h) (z := if i = 0 then none else some (.int (i - 1 : Nat))) (by omega)
    rw [q, if_neg (Nat.succ_ne_zero i), Nat.add_sub_cancel]
  generalize (if b = 0 then none else some (PV.int ((b - 1 : Nat) : Int))) = z
  refine st_nx (ρ1 := [some (.int (v / 2 ^ b : Nat)), some (.int b), some (.ref h.length), z, some (.int 0), none]) (h1 := h ++ [.lst (digs v b)]) (by simp [runD, runBody, exSs, exS, evE, evEs, evT, evIf, asgTa, bindTg, pBin, pCmp, pBi, pTru, Mn.ob, pIx, Res.bind, callG, T, isTy, fnT, isTys, tyOf, subC, tyB, tyAll, tyNames, Bi.tyn]) ?_
  refine st_nx (for_st (w := .lst h.length) (N := b) (fun i => .int (v / 2 ^ i % 2 : Nat)) (fun i => [some (.int (v / 2 ^ b : Nat)), some (.int b), some (.ref h.length), z, some (.int (R i v)), if i = 0 then none else some (.int (v / 2 ^ (i - 1) % 2 : Nat))]) (fun i => h ++ [.lst (digs v b)])
    ?_ rfl (fun i hi => ?_) ?_ fun i hi => ?_) ?_
  · unfold evI
    simp [runD, runBody, exSs, exS, evE, evEs, evT, evIf, asgTa, bindTg, pBin, pCmp, pBi, pTru, Mn.ob, pIx, Res.bind, callG, T, isTy, fnT, isTys, tyOf, subC, tyB, tyAll, tyNames, Bi.tyn, wkOf, lstAt, digs_len]
  · simp only [wkAt, lstAt, get_last, Option.map_some, digs_get hi]
  · simp only [wkAt, lstAt, get_last, Option.map_some]
    rw [List.getElem?_eq_none (by rw [digs_len]; exact Nat.le_refl _)]
  · rw [turn_b (by omega), if_neg (Nat.succ_ne_zero i), Nat.add_sub_cancel]
  · exact st_rt (by simp [runD, runBody, exSs, exS, evE, evEs, evT, evIf, asgTa, bindTg, pBin, pCmp, pBi, pTru, Mn.ob, pIx, Res.bind, callG, T, isTy, fnT, isTys, tyOf, subC, tyB, tyAll, tyNames, Bi.tyn])
end K04
set_option Elab.async false
set_option linter.all false
set_option maxRecDepth 100000
set_option maxHeartbeats 1000000
namespace Mn
open PySem PySem.Spec L2 PyProof.Rows CwR
inductive Al {α : Type} (P : α → PH → Prop) : Res α → Prop
  | ret {a : α} {h : PH} (p : P a h) : Al P (.ok a h)
  | draw {n : Nat} {k : Nat → Res α} (q : ∀ i < n, Al P (k i)) : Al P (.all n k)
theorem Al.bind {α β : Type} {P : β → PH → Prop} {r : Res α} {k : α → PH → Res β} (h : Al (fun a h1 => Al P (k a h1)) r) : Al P (r.bind k) := by
  induction h with
  | ret p => exact p
  | draw q ih => exact .draw ih
theorem Al.imp {α : Type} {P Q : α → PH → Prop} {r : Res α} (h : Al P r) (k : ∀ a h1, P a h1 → Q a h1) : Al Q r := by
  induction h with
  | ret p => exact .ret (k _ _ p)
  | draw q ih => exact .draw ih
theorem Al.ok {α : Type} {P : α → PH → Prop} {r : Res α} {a : α} {h : PH} (e : r = .ok a h) (p : P a h) : Al P r := by rw [e]; exact .ret p
theorem Al.noer {α : Type} {P : α → PH → Prop} {r : Res α} (h : Al P r) : Al P r.noer := by
  induction h with
  | ret p => exact .ret p
  | draw q ih => exact .draw ih
theorem al_forRun {body : PV → PEnv → PH → Res Fl} {w : Wk} {N : Nat} {Inv : Nat → PEnv → PH → Prop} {P : Fl → PH → Prop}
    (hb : ∀ i < N, ∀ ρ h, Inv i ρ h → ∃ x, wkAt h i w = some (some x) ∧ Al (fun f h1 => match f with
      | .nx ρ1 => Inv (i + 1) ρ1 h1
      | .ct ρ1 => Inv (i + 1) ρ1 h1
      | .bk ρ1 => P (.nx ρ1) h1
      | .rt v => P (.rt v) h1) (body x ρ h))
    (he : ∀ ρ h, Inv N ρ h → wkAt h N w = some none ∧ P (.nx ρ) h) :
    ∀ m i ρ h, i + m = N → Inv i ρ h → Al P (forRun body w (m + 1) i ρ h) := fun m => by
  induction m with
  | zero =>
    intro i ρ h hi I
    have : i = N := by omega
    subst this
    obtain ⟨e, p⟩ := he ρ h I
    unfold forRun
    rw [e]
    exact Al.ok rfl p
  | succ m ih =>
    intro i ρ h hi I
    obtain ⟨x, e, q⟩ := hb i (by omega) ρ h I
    unfold forRun
    rw [e]
    refine Al.bind (q.imp fun f h1 z => ?_)
    cases f with
    | nx ρ1 => exact ih (i + 1) ρ1 h1 (by omega) z
    | ct ρ1 => exact ih (i + 1) ρ1 h1 (by omega) z
    | bk ρ1 => exact Al.ok rfl z
    | rt v => exact Al.ok rfl z
section
variable {T : Tb} {W : Nat} {cl : Nat → List PV → PH → Res PV} {ρ : PEnv} {h : PH}
theorem al_call {P : PV → PH → Prop} {g f : Nat} {es : List Ex} (hg : T.glob[g]? = some (.fn f)) (k : Al (fun vs h1 => Al P (cl f vs h1)) (evEs T cl es ρ h)) : Al P (evE T cl (.call g es) ρ h) := by
  simp only [evE, hg, callG]
  exact Al.bind k
theorem al_ix {P : PV → PH → Prop} {o i : Ex} (k : Al (fun v h1 => Al (fun w h2 => Al P (pIx v w h2)) (evE T cl i ρ h1)) (evE T cl o ρ h)) : Al P (evE T cl (.ix o i) ρ h) := by
  simp only [evE]
  exact Al.bind (k.imp fun v h1 q => Al.bind q)
theorem al_bin {P : PV → PH → Prop} {op : Bop} {o i : Ex} (k : Al (fun v h1 => Al (fun w h2 => Al P (pBin op v w h2)) (evE T cl i ρ h1)) (evE T cl o ρ h)) : Al P (evE T cl (.bin op o i) ρ h) := by
  simp only [evE]
  exact Al.bind (k.imp fun v h1 q => Al.bind q)
theorem al_cmp {P : PV → PH → Prop} {op : Cop} {o i : Ex} (k : Al (fun v h1 => Al (fun w h2 => Al P (pCmp op v w h2)) (evE T cl i ρ h1)) (evE T cl o ρ h)) : Al P (evE T cl (.cmp op o i) ρ h) := by
  simp only [evE]
  exact Al.bind (k.imp fun v h1 q => Al.bind q)
theorem al_bi {P : PV → PH → Prop} {f : Bi} {es : List Ex} (k : Al (fun vs h1 => Al P (pBi T f vs h1)) (evEs T cl es ρ h)) : Al P (evE T cl (.bi f es) ρ h) := by
  simp only [evE]
  exact Al.bind k
theorem al_nil {P : List PV → PH → Prop} (k : P [] h) : Al P (evEs T cl [] ρ h) := by
  simp only [evEs]
  exact .ret k
theorem al_cons {P : List PV → PH → Prop} {e : Ex} {es : List Ex} (he : ∀ x, e ≠ .star x) (k : Al (fun v h1 => Al (fun vs h2 => P (v :: vs) h2) (evEs T cl es ρ h1)) (evE T cl e ρ h)) : Al P (evEs T cl (e :: es) ρ h) := by
  rw [evEs_cons he]
  exact Al.bind (k.imp fun v h1 q => Al.bind (q.imp fun vs h2 z => .ret z))
theorem al_var {P : PV → PH → Prop} {i : Nat} {v : PV} (e : ρ[i]? = some (some v)) (k : P v h) : Al P (evE T cl (.var i) ρ h) := by
  simp only [evE, e]
  exact .ret k
theorem al_con {P : PV → PH → Prop} {v : PV} (k : P v h) : Al P (evE T cl (.con v) ρ h) := by
  simp only [evE]
  exact .ret k
theorem al_ife {P : PV → PH → Prop} {c a b : Ex} (k : Al (fun v h1 => ∃ t, pTru h1 v = some t ∧ if t then Al P (evE T cl a ρ h1) else Al P (evE T cl b ρ h1)) (evE T cl c ρ h)) : Al P (evE T cl (.ife c a b) ρ h) := by
  simp only [evE]
  refine Al.bind (k.imp fun v h1 ⟨t, e, q⟩ => ?_)
  rw [e]
  cases t <;> exact q
theorem al_evT {P : Bool → PH → Prop} {c : Ex} (k : Al (fun v h1 => ∃ t, pTru h1 v = some t ∧ P t h1) (evE T cl c ρ h)) : Al P (evT T cl c ρ h) := by
  unfold evT
  refine Al.bind (k.imp fun v h1 ⟨t, e, q⟩ => ?_)
  rw [e]
  exact .ret q
theorem al_ss {P : Fl → PH → Prop} {s : Sm} {r : List Sm} (k : Al (fun f h1 => match f with
    | .nx ρ1 => Al P (exSs T cl W r ρ1 h1)
    | f => P f h1) (exS T cl W s ρ h)) : Al P (exSs T cl W (s :: r) ρ h) := by
  simp only [exSs]
  refine Al.bind (k.imp fun f h1 q => ?_)
  cases f
  · exact q
  all_goals exact .ret q
theorem al_asg {P : Fl → PH → Prop} {i : Nat} {e : Ex} (k : Al (fun v h1 => P (.nx (ρ.set i (some v))) h1) (evE T cl e ρ h)) : Al P (exS T cl W (.asg (.nm i) e) ρ h) := by
  simp only [exS]
  exact Al.bind (k.imp fun v h1 q => .ret q)
theorem al_ret {P : Fl → PH → Prop} {e : Ex} (k : Al (fun v h1 => P (.rt v) h1) (evE T cl e ρ h)) : Al P (exS T cl W (.ret e) ρ h) := by
  simp only [exS]
  exact Al.bind (k.imp fun v h1 q => .ret q)
theorem al_ite {P : Fl → PH → Prop} {c : Ex} {a b : List Sm} (k : Al (fun t h1 => if t then Al P (exSs T cl W a ρ h1) else Al P (exSs T cl W b ρ h1)) (evT T cl c ρ h)) : Al P (exS T cl W (.ite c a b) ρ h) := by
  simp only [exS]
  refine Al.bind (k.imp fun t h1 q => ?_)
  cases t <;> exact q
theorem al_run {P : PV → PH → Prop} {d : Df} {vs : List PV} (hl : vs.length = d.ps.length) (k : Al (fun f h1 => match f with
    | .nx _ => P .non h1
    | .rt v => P v h1
    | _ => False) (exSs T cl W d.body (vs.map some ++ List.replicate (d.N.length - vs.length) none) h)) : Al P (runD T W cl d vs h) := by
  unfold runD runBody
  rw [if_pos hl]
  refine Al.bind (k.imp fun f h1 q => ?_)
  cases f
  · exact .ret q
  · exact False.elim q
  · exact False.elim q
  · exact .ret q
theorem al_mt {P : PV → PH → Prop} {m : Nat} {b : Bm} {o : Ex} {es : List Ex} (hb : notNone b = true) (k : Al (fun v h1 => ∃ q, Bq.of b (kindAt h1 v) = some q ∧ Al (fun vs h2 => Al P (pBq q v vs h2)) (evEs T cl es ρ h1)) (evE T cl o ρ h)) : Al P (evE T cl (.mt m b o es) ρ h) := by
  rw [evE_mt hb]
  refine Al.bind (k.imp fun v h1 ⟨q, e, z⟩ => ?_)
  rw [e]
  exact Al.bind z
theorem al_lc {P : PV → PH → Prop} {e : Ex} {own : List Nat} {t : Tg} {k : Ik} {its ifs : List Ex} (q : Al (fun vs h1 => ∃ p, wkOf k vs h1 = some p ∧ Al P (lcRun (lcB T cl e own t ifs ρ) p.1 h1.length (p.2 + 1) 0 (h1 ++ [.lst []]))) (evEs T cl its ρ h)) : Al P (evE T cl (.lc e own t k its ifs) ρ h) := by
  rw [evE_lc]
  unfold evI
  rw [Res.bind_assoc]
  refine Al.bind (q.imp fun vs h1 ⟨p, e1, z⟩ => ?_)
  rw [e1]
  exact z
theorem al_lst {P : PV → PH → Prop} {es : List Ex} (k : Al (fun vs h1 => vs.length ≤ sizeLine ∧ P (.ref h1.length) (h1 ++ [.lst vs])) (evEs T cl es ρ h)) : Al P (evE T cl (.lst es) ρ h) := by
  simp only [evE]
  refine Al.bind (k.imp fun vs h1 ⟨q, z⟩ => ?_)
  rw [if_pos q]
  exact Al.ok rfl z
theorem al_tup {P : PV → PH → Prop} {es : List Ex} (k : Al (fun vs h1 => vs.length ≤ sizeLine ∧ P (.tup vs) h1) (evEs T cl es ρ h)) : Al P (evE T cl (.tup es) ρ h) := by
  simp only [evE]
  refine Al.bind (k.imp fun vs h1 ⟨q, z⟩ => ?_)
  rw [if_pos q]
  exact Al.ok rfl z
theorem al_repl {P : PV → PH → Prop} {o : Ex} {y z : List Nat} (hyz : y ≠ z) (k : Al (fun v h1 => ∃ x : List Nat, v = .str x ∧ x.length + (x.length + 1) * z.length ≤ 16777216 ∧ P (.str (Txt.replace ⟨x.toArray⟩ ⟨y.toArray⟩ ⟨z.toArray⟩).cps.toList) h1) (evE T cl o ρ h)) : Al P (evE T cl (.repl o y z) ρ h) := by
  simp only [evE]
  refine Al.bind (k.imp fun v h1 ⟨x, e, q, p⟩ => ?_)
  subst e
  simp only
  rw [if_pos (by simp [q, hyz])]
  exact Al.ok rfl p
theorem al_nx {P : Fl → PH → Prop} (k : P (.nx ρ) h) : Al P (exSs T cl W [] ρ h) := Al.ok (by simp only [exSs]) k
theorem al_for {t : Tg} {k : Ik} {its : List Ex} {b : List Sm} {w : Wk} {N : Nat} {h1 : PH} {Inv : Nat → PEnv → PH → Prop} {P : Fl → PH → Prop} (hv : evI T cl k its ρ h = .ok (w, N) h1)
    (hb : ∀ i < N, ∀ ρ h, Inv i ρ h → ∃ x, wkAt h i w = some (some x) ∧ Al (fun f h1 => match f with
      | .nx ρ1 => Inv (i + 1) ρ1 h1
      | .ct ρ1 => Inv (i + 1) ρ1 h1
      | .bk ρ1 => P (.nx ρ1) h1
      | .rt v => P (.rt v) h1) (forB T cl W t b x ρ h))
    (he : ∀ ρ h, Inv N ρ h → wkAt h N w = some none ∧ P (.nx ρ) h) (h0 : Inv 0 ρ h1) : Al P (exS T cl W (.for_ t k its b) ρ h) := by
  rw [exS_for, hv, Res.bind_ok]
  exact al_forRun hb he N 0 ρ h1 (by omega) h0
theorem al_asgt {P : Fl → PH → Prop} {is : List Nat} {e : Ex} (k : Al (fun v h1 => ∃ ρ1, bindTg (.tp is) v ρ = some ρ1 ∧ P (.nx ρ1) h1) (evE T cl e ρ h)) : Al P (exS T cl W (.asg (.tp is) e) ρ h) := by
  simp only [exS, asgTa]
  refine Al.bind (k.imp fun v h1 ⟨ρ1, e1, q⟩ => ?_)
  rw [e1]
  exact Al.ok rfl q
theorem al_no {P : Fl → PH → Prop} {c : Ex} {a r : List Sm} {h1 : PH} (e : evE T cl c ρ h = .ok (.bl false) h1) (k : Al P (exSs T cl W r ρ h1)) : Al P (exSs T cl W (.ite c a [] :: r) ρ h) :=
  al_ss (al_ite (al_evT (Al.ok e ⟨false, rfl, by simpa using al_nx k⟩)))
theorem al_yes {P : Fl → PH → Prop} {c : Ex} {a r : List Sm} {h1 : PH} (e : evE T cl c ρ h = .ok (.bl true) h1) (k : Al (fun f h2 => match f with
    | .nx ρ1 => Al P (exSs T cl W r ρ1 h2)
    | f => P f h2) (exSs T cl W a ρ h1)) : Al P (exSs T cl W (.ite c a [] :: r) ρ h) :=
  al_ss (al_ite (al_evT (Al.ok e ⟨true, rfl, by rw [if_pos rfl]; exact k⟩)))
theorem al_or {P : PV → PH → Prop} {a b : Ex} (k : Al (fun v h1 => ∃ t, pTru h1 v = some t ∧ if t then P v h1 else Al P (evE T cl b ρ h1)) (evE T cl a ρ h)) : Al P (evE T cl (.or a b) ρ h) := by
  simp only [evE]
  refine Al.bind (k.imp fun v h1 ⟨t, e, q⟩ => ?_)
  rw [e]
  cases t with
  | true => exact Al.ok rfl (by simpa using q)
  | false => simpa using q
theorem al_not {P : PV → PH → Prop} {a : Ex} (k : Al (fun v h1 => ∃ t, pTru h1 v = some t ∧ P (.bl (!t)) h1) (evE T cl a ρ h)) : Al P (evE T cl (.not a) ρ h) := by
  simp only [evE]
  refine Al.bind (k.imp fun v h1 ⟨t, e, q⟩ => ?_)
  rw [e]
  exact Al.ok rfl q
end
theorem for_det {body : PV → PEnv → PH → Res Fl} {w : Wk} {N : Nat} {item : Nat → PV} {f : Nat → PEnv} {hp : Nat → PH} (hi : ∀ i < N, wkAt (hp i) i w = some (some (item i))) (he : wkAt (hp N) N w = some none) (hb : ∀ i < N, body (item i) (f i) (hp i) = .ok (.nx (f (i + 1))) (hp (i + 1))) :
    forRun body w (N + 1) 0 (f 0) (hp 0) = .ok (.nx (f N)) (hp N) := by
  have gen : ∀ m i, i + m = N → forRun body w (m + 1) i (f i) (hp i) = .ok (.nx (f N)) (hp N) := fun m => by
    induction m with
    | zero =>
      intro i hi'
      have : i = N := by omega
      subst this
      unfold forRun
      rw [he]
    | succ m ih =>
      intro i hi'
      unfold forRun
      rw [hi i (by omega)]
      simp only
      rw [hb i (by omega)]
      exact ih (i + 1) (by omega)
  exact gen N 0 (by omega)
theorem fix_at {xs : List PV} {h : PH} {i : Nat} {x : PV} (e : xs[i]? = some x) : wkAt h i (.fix xs) = some (some x) := by simp only [wkAt, e]
theorem fix_end {xs : List PV} {h : PH} : wkAt h xs.length (.fix xs) = some none := by simp [wkAt]
section
variable {T : Tb} {W : Nat} {cl : Nat → List PV → PH → Res PV}
theorem st_nx {s : Sm} {r : List Sm} {ρ ρ1 : PEnv} {h h1 : PH} {z : Res Fl} (e : exS T cl W s ρ h = .ok (.nx ρ1) h1) (k : exSs T cl W r ρ1 h1 = z) : exSs T cl W (s :: r) ρ h = z := by
  simp only [exSs, e, Res.bind_ok]
  exact k
theorem st_rt {s : Sm} {r : List Sm} {ρ : PEnv} {h h1 : PH} {v : PV} (e : exS T cl W s ρ h = .ok (.rt v) h1) : exSs T cl W (s :: r) ρ h = .ok (.rt v) h1 := by
  simp only [exSs, e, Res.bind_ok]
theorem rb_rt {ns : Nat} {b : List Sm} {vs : List PV} {h h1 : PH} {v : PV} (e : exSs T cl W b (vs.map some ++ List.replicate (ns - vs.length) none) h = .ok (.rt v) h1) : runBody T cl W ns b vs h = .ok v h1 := by
  unfold runBody
  rw [e]
  rfl
theorem rd_rt {d : Df} {vs : List PV} {h h1 : PH} {v : PV} (hl : vs.length = d.ps.length) (e : exSs T cl W d.body (vs.map some ++ List.replicate (d.N.length - vs.length) none) h = .ok (.rt v) h1) : runD T W cl d vs h = .ok v h1 := by
  unfold runD
  rw [if_pos hl]
  exact rb_rt e
theorem for_st {t : Tg} {k : Ik} {its : List Ex} {b : List Sm} {w : Wk} {N : Nat} {ρ : PEnv} {h : PH} (item : Nat → PV) (f : Nat → PEnv) (hp : Nat → PH) (hv : evI T cl k its ρ h = .ok (w, N) (hp 0)) (h0 : ρ = f 0)
    (hi : ∀ i < N, wkAt (hp i) i w = some (some (item i))) (he : wkAt (hp N) N w = some none) (hb : ∀ i < N, forB T cl W t b (item i) (f i) (hp i) = .ok (.nx (f (i + 1))) (hp (i + 1))) :
    exS T cl W (.for_ t k its b) ρ h = .ok (.nx (f N)) (hp N) := by
  rw [exS_for, hv, Res.bind_ok, h0]
  exact for_det hi he hb
end
theorem wk_rng {b : Nat} {h : PH} (hb : b ≤ 1000000) : wkOf .rng [.int b] h = some (.fix ((List.range b).map fun (i : Nat) => .int i), b) := by
  have h3 : (b : Int) < 4611686018427387904 := by omega
  have h4 : (-4611686018427387904 : Int) ≤ b := by omega
  simp [wkOf, h3, h4]
theorem evI_rng {T : Tb} {cl : Nat → List PV → PH → Res PV} {its : List Ex} {ρ : PEnv} {h h1 : PH} {b : Nat} (he : evEs T cl its ρ h = .ok [.int b] h1) (hb : b ≤ 1000000) : evI T cl .rng its ρ h = .ok (.fix ((List.range b).map fun (i : Nat) => .int i), b) h1 := by
  unfold evI
  rw [he, Res.bind_ok, wk_rng hb]
def Dc (l b : Nat) (h : PH) : Prop := ∃ b', h[l]? = some (.dice b') ∧ b ≤ b'
def Gr (l : Nat) (h h' : PH) : Prop := h.length ≤ h'.length ∧ ∀ m, m < h.length → m ≠ l → h'[m]? = h[m]?
theorem Gr.refl (l : Nat) (h : PH) : Gr l h h := ⟨Nat.le_refl _, fun _ _ _ => rfl⟩
theorem Gr.trans {l : Nat} {a b c : PH} (x : Gr l a b) (y : Gr l b c) : Gr l a c := ⟨Nat.le_trans x.1 y.1, fun m hm hn => (y.2 m (Nat.lt_of_lt_of_le hm x.1) hn).trans (x.2 m hm hn)⟩
theorem Gr.app (l : Nat) (h g : PH) : Gr l h (h ++ g) := ⟨by simp, fun m hm _ => List.getElem?_append_left hm⟩
theorem Gr.get {l m : Nat} {h h' : PH} {o : PO} (g : Gr l h h') (e : h[m]? = some o) (hn : m ≠ l) : h'[m]? = some o := by
  rw [g.2 m (List.getElem?_eq_some_iff.mp e).1 hn]
  exact e
theorem Dc.le {l b c : Nat} {h : PH} (d : Dc l b h) (hc : c ≤ b) : Dc l c h := let ⟨b', e, q⟩ := d; ⟨b', e, Nat.le_trans hc q⟩
theorem Dc.lt {l b : Nat} {h : PH} (d : Dc l b h) : l < h.length := let ⟨_, e, _⟩ := d; (List.getElem?_eq_some_iff.mp e).1
theorem Dc.app {l b : Nat} {h : PH} (d : Dc l b h) (g : PH) : Dc l b (h ++ g) := let ⟨b', e, q⟩ := d; ⟨b', by rw [List.getElem?_append_left d.lt]; exact e, q⟩
theorem atI_lt {xs : List PV} {r : Nat} (hr : r < xs.length) : atI xs r = some xs[r] := by
  exact atI_nat (List.getElem?_eq_getElem hr)
theorem get_last {h : PH} {o : PO} : (h ++ [o])[h.length]? = some o := by simp
theorem set_last {h : PH} {o o' : PO} : (h ++ [o]).set h.length o' = h ++ [o'] := by simp
theorem lc_det {body : PV → PH → Res (Option PV)} {w : Wk} {N : Nat} {item y : Nat → PV} {h : PH} (hN : N ≤ 1000) (hi : ∀ i < N, ∀ h', wkAt h' i w = some (some (item i))) (he : ∀ h', wkAt h' N w = some none) (hb : ∀ i < N, ∀ h', body (item i) h' = .ok (some (y i)) h') :
    lcRun body w h.length (N + 1) 0 (h ++ [.lst []]) = .ok (.ref h.length) (h ++ [.lst ((List.range N).map y)]) := by
  have gen : ∀ m i, i + m = N → lcRun body w h.length (m + 1) i (h ++ [.lst ((List.range i).map y)]) = .ok (.ref h.length) (h ++ [.lst ((List.range N).map y)]) := fun m => by
    induction m with
    | zero =>
      intro i hi'
      have : i = N := by omega
      subst this
      unfold lcRun
      rw [he]
    | succ m ih =>
      intro i hi'
      unfold lcRun
      rw [hi i (by omega)]
      simp only
      rw [hb i (by omega), Res.bind_ok]
      simp only [get_last, set_last]
      have hs : ((List.range i).map y).length < sizeLine := by
        rw [List.length_map, List.length_range]
        exact Nat.lt_of_lt_of_le (Nat.lt_of_le_of_lt (by omega : i ≤ 1000) (by decide : 1000 < 1001)) (by decide)
      rw [if_pos hs]
      have := ih (i + 1) (by omega)
      rw [List.range_succ, List.map_append] at this
      exact this
  exact gen N 0 (by omega)
theorem lc_al {body : PV → PH → Res (Option PV)} {w : Wk} {N l : Nat} {item : Nat → PV} {C : PV → Prop} {h0 : PH} {P : PV → PH → Prop} (hN : N ≤ 1000) (hl : l < h0.length)
    (hi : ∀ i < N, ∀ h', wkAt h' i w = some (some (item i))) (he : ∀ h', wkAt h' N w = some none)
    (hb : ∀ i < N, ∀ b h', Dc l (b + 1) h' → Gr l h0 h' → Al (fun y h2 => (∃ v, y = some v ∧ C v) ∧ Dc l b h2 ∧ Gr l h' h2) (body (item i) h')) :
    ∀ m i b h' acc, i + m = N → h'[h0.length]? = some (.lst acc) → acc.length = i → (∀ v ∈ acc, C v) → Dc l (b + m) h' → Gr l h0 h' →
      (∀ h2 ys, h2[h0.length]? = some (.lst ys) → ys.length = N → (∀ v ∈ ys, C v) → Dc l b h2 → Gr l h0 h2 → P (.ref h0.length) h2) → Al P (lcRun body w h0.length (m + 1) i h') := fun m => by
  induction m with
  | zero =>
    intro i b h' acc hi' ea hl2 hc d g k
    have : i = N := by omega
    subst this
    unfold lcRun
    rw [he]
    exact Al.ok rfl (k h' acc ea hl2 hc d g)
  | succ m ih =>
    intro i b h' acc hi' ea hl2 hc d g k
    unfold lcRun
    rw [hi i (by omega)]
    refine Al.bind ((hb i (by omega) (b + m) h' d g).imp fun y h2 ⟨⟨v, ey, cv⟩, d2, g2⟩ => ?_)
    subst ey
    have e2 : h2[h0.length]? = some (.lst acc) := g2.get ea (Nat.ne_of_gt hl)
    have hs : acc.length < sizeLine := Nat.lt_of_lt_of_le (show acc.length < 1001 by omega) (by decide)
    have hlt : h0.length < h2.length := (List.getElem?_eq_some_iff.mp e2).1
    simp only [e2]
    rw [if_pos hs]
    refine ih (i + 1) b _ (acc ++ [v]) (by omega) ?_ (by simp [hl2]) (fun u hu => ?_) ?_ ?_ k
    · rw [List.getElem?_set_self hlt]
    · rcases List.mem_append.mp hu with hu | hu
      · exact hc u hu
      · rw [List.mem_singleton.mp hu]; exact cv
    · obtain ⟨b', q1, q2⟩ := d2
      exact ⟨b', by rw [List.getElem?_set_ne (Nat.ne_of_gt hl)]; exact q1, q2⟩
    · have g3 := g.trans g2
      exact ⟨by simpa using g3.1, fun m' hm hn => by rw [List.getElem?_set_ne (Nat.ne_of_gt hm)]; exact g3.2 m' hm hn⟩
theorem datum_int {h : PH} {a : Int} : datum h (.int a) = some (.int a) := rfl
theorem pEq_int {h : PH} {a b : Int} : pEq h (.int a) (.int b) = some (decide (a = b)) := by
  have e : pEq h (.int a) (.int b) = some (PyData.eqv (.int a) (.int b)) := by
    unfold pEq
    rw [datum_int, datum_int]
  rw [e]
  unfold PyData.eqv
  by_cases q : a = b <;> simp [q]
theorem pEq_bb {h : PH} {a b : Bool} : pEq h (.bl a) (.bl b) = some (a == b) := by
  show some (PyData.eqv (.bool a) (.bool b)) = _
  unfold PyData.eqv
  rfl
theorem datum_str {h : PH} {x : List Nat} (hx : PyData.strOk ⟨x.toArray⟩ = true) : datum h (.str x) = some (.str ⟨x.toArray⟩) := by
  unfold datum
  simp only [toD]
  rw [if_pos]
  unfold SeqAt.shaped
  simp [PyData.canLay0, hx, PyData.depth]
theorem pEq_ss {h : PH} {x y : List Nat} (hx : PyData.strOk ⟨x.toArray⟩ = true) (hy : PyData.strOk ⟨y.toArray⟩ = true) : pEq h (.str x) (.str y) = some (decide (x = y)) := by
  unfold pEq
  rw [datum_str hx, datum_str hy]
  simp only [PyData.eqv]
  congr 1
  by_cases e : x = y
  · subst e; simp
  · simp [e]
section
variable {T : Tb} {W : Nat} {cl : Nat → List PV → PH → Res PV} {ρ : PEnv} {h : PH}
theorem sIx_k {n d k : Nat} (h : k ≤ n) : HT.sIx n d (some (k : Int)) = k := by rw [HT.sIx_nat]; omega
theorem sl_to {x : List Nat} {i j k : Nat} (hi : ρ[i]? = some (some (.str x))) (hj : ρ[j]? = some (some (.int k))) (hk : k ≤ x.length) (hs : x.length ≤ sizeLine) : evE T cl (.sl (.var i) .nop (.var j)) ρ h = .ok (.str (x.take k)) h := by
  simp only [evE, partR, hi, hj, Res.bind_ok, pSl, hs, if_true, cut, HT.sIx_none, sIx_k hk, List.drop_zero, Nat.sub_zero]
theorem sl_from {x : List Nat} {i j k : Nat} (hi : ρ[i]? = some (some (.str x))) (hj : ρ[j]? = some (some (.int k))) (hk : k + 1 ≤ x.length) (hs : x.length ≤ sizeLine) : evE T cl (.sl (.var i) (.bin .add (.var j) (.con (.int 1))) .nop) ρ h = .ok (.str (x.drop (k + 1))) h := by
  have e : (k : Int) + 1 = ((k + 1 : Nat) : Int) := by omega
  simp only [evE, partR, hi, hj, Res.bind_ok, pBin, pSl, hs, if_true, cut, HT.sIx_none, e, sIx_k hk]
  rw [List.take_of_length_le (by simp)]
theorem sl_mid {x : List Nat} {i j m k q : Nat} (hi : ρ[i]? = some (some (.str x))) (hj : ρ[j]? = some (some (.int k))) (hm : ρ[m]? = some (some (.int q))) (hk : k + 1 ≤ x.length) (hq : q ≤ x.length) (hs : x.length ≤ sizeLine) : evE T cl (.sl (.var i) (.bin .add (.var j) (.con (.int 1))) (.var m)) ρ h = .ok (.str ((x.drop (k + 1)).take (q - (k + 1)))) h := by
  have e : (k : Int) + 1 = ((k + 1 : Nat) : Int) := by omega
  simp only [evE, partR, hi, hj, hm, Res.bind_ok, pBin, pSl, hs, if_true, cut, HT.sIx_none, e, sIx_k hk, sIx_k hq]
theorem e_add {a b : Ex} {x y : List Nat} {h1 h2 : PH} (ha : evE T cl a ρ h = .ok (.str x) h1) (hb : evE T cl b ρ h1 = .ok (.str y) h2) (hs : x.length + y.length ≤ sizeLine) : evE T cl (.bin .add a b) ρ h = .ok (.str (x ++ y)) h2 := by
  simp only [evE, ha, hb, Res.bind_ok, pBin, hs, if_true]
theorem e_ixs {x : List Nat} {i j k : Nat} (hi : ρ[i]? = some (some (.str x))) (hj : ρ[j]? = some (some (.int k))) (hk : k < x.length) (hs : x.length ≤ sizeLine) : evE T cl (.ix (.var i) (.var j)) ρ h = .ok (.str [x.getD k 0]) h := by
  have e : atI x (k : Int) = some (x.getD k 0) := by
    rw [show x.getD k 0 = x[k] by simp [hk]]
    simp [atI, ixN, hk]
  simp only [evE, hi, hj, Res.bind_ok, pIx, hs, if_true, e]
theorem e_var {i : Nat} {v : PV} (e : ρ[i]? = some (some v)) : evE T cl (.var i) ρ h = .ok v h := by simp only [evE, e]
theorem e_eqs {a b : Ex} {x y : List Nat} {h1 h2 : PH} (ha : evE T cl a ρ h = .ok (.str x) h1) (hb : evE T cl b ρ h1 = .ok (.str y) h2) (hx : PyData.strOk ⟨x.toArray⟩ = true) (hy : PyData.strOk ⟨y.toArray⟩ = true) : evE T cl (.cmp .eq a b) ρ h = .ok (.bl (decide (x = y))) h2 := by
  simp only [evE, ha, hb, Res.bind_ok, pCmp, pEq_ss hx hy, ob]
theorem e_eqi {a b : Ex} {x y : Int} {h1 h2 : PH} (ha : evE T cl a ρ h = .ok (.int x) h1) (hb : evE T cl b ρ h1 = .ok (.int y) h2) : evE T cl (.cmp .eq a b) ρ h = .ok (.bl (decide (x = y))) h2 := by
  simp only [evE, ha, hb, Res.bind_ok, pCmp, pEq_int, ob]
theorem e_nei {a b : Ex} {x y : Int} {h1 h2 : PH} (ha : evE T cl a ρ h = .ok (.int x) h1) (hb : evE T cl b ρ h1 = .ok (.int y) h2) : evE T cl (.cmp .ne a b) ρ h = .ok (.bl (!decide (x = y))) h2 := by
  simp only [evE, ha, hb, Res.bind_ok, pCmp, pEq_int, ob, Option.map_some]
theorem e_eqb {a b : Ex} {x y : Bool} {h1 h2 : PH} (ha : evE T cl a ρ h = .ok (.bl x) h1) (hb : evE T cl b ρ h1 = .ok (.bl y) h2) : evE T cl (.cmp .eq a b) ρ h = .ok (.bl (x == y)) h2 := by
  simp only [evE, ha, hb, Res.bind_ok, pCmp, pEq_bb, ob]
theorem e_neb {a b : Ex} {x y : Bool} {h1 h2 : PH} (ha : evE T cl a ρ h = .ok (.bl x) h1) (hb : evE T cl b ρ h1 = .ok (.bl y) h2) : evE T cl (.cmp .ne a b) ρ h = .ok (.bl (!(x == y))) h2 := by
  simp only [evE, ha, hb, Res.bind_ok, pCmp, pEq_bb, ob, Option.map_some]
theorem e_call1 {g f i : Nat} {v w : PV} {h1 : PH} (hg : T.glob[g]? = some (.fn f)) (e : ρ[i]? = some (some v)) (k : cl f [v] h = .ok w h1) : evE T cl (.call g [.var i]) ρ h = .ok w h1 := by
  simp only [evE, evEs, hg, e, Res.bind_ok, callG, k]
end
theorem callS_run {T : Tb} {W : Nat} {D : List Df} {sp : Nat → Option (List PV → PH → Res PV)} {n i : Nat} {d : Df} {vs : List PV} {h : PH} (hd : D[i]? = some d) (hs : sp i = none) : callS T W D sp (n + 1) i vs h = runD T W (callS T W D sp n) d vs h := by
  simp only [callS, hd, hs]
theorem callS_sp {T : Tb} {W : Nat} {D : List Df} {sp : Nat → Option (List PV → PH → Res PV)} {n i : Nat} {d : Df} {r : List PV → PH → Res PV} {vs : List PV} {h : PH} (hd : D[i]? = some d) (hs : sp i = some r) (hl : vs.length = d.ps.length) : callS T W D sp (n + 1) i vs h = r vs h := by
  simp only [callS, hd, hs]
  rw [if_pos hl]
theorem al_roll {l b : Nat} {k : Int} {h : PH} (d : Dc l (b + 1) h) (h0 : 0 < k) (h1 : k < 2 ^ 62) : Al (fun v h' => (∃ r : Nat, (r : Int) < k ∧ v = .int r) ∧ Dc l b h' ∧ Gr l h h') (spRoll [.ref l, .int k] h) := by
  obtain ⟨b', e, hb⟩ := d
  obtain ⟨b2, rfl⟩ : ∃ b2, b' = b2 + 1 := ⟨b' - 1, by omega⟩
  unfold spRoll
  simp only [e]
  rw [if_pos ⟨h0, h1⟩]
  refine .draw fun r hr => .ret ⟨⟨r, by omega, rfl⟩, ⟨b2, ?_, by omega⟩, by simp, fun m hm hn => ?_⟩
  · rw [List.getElem?_set_self (List.getElem?_eq_some_iff.mp e).1]
  · rw [List.getElem?_set_ne (Ne.symm hn)]
theorem al_dice {i : Nat} {xs : List PV} {h : PH} (hx : (intsOf xs).isSome = true) (hi : i < 100) : spDice [.frk xs, .int i] h = .ok (.ref h.length) (h ++ [.dice (2 ^ 63)]) := if_pos ⟨hx, by omega, by omega⟩
theorem ints_some : ∀ l : List Int, (intsOf (l.map .int)).isSome = true
  | [] => rfl
  | a :: l => by
    obtain ⟨w, e⟩ := Option.isSome_iff_exists.mp (ints_some l)
    simp only [List.map_cons, intsOf, e, Option.map_some, Option.isSome_some]
end Mn
set_option Elab.async false
set_option linter.all false
set_option maxRecDepth 100000
set_option maxHeartbeats 1000000
namespace Mn
open PySem PySem.Spec L2 PyProof.Rows CwR
section
variable {T : Tb} {W : Nat} {cl : Nat → List PV → PH → Res PV} {ρ : PEnv} {h h1 h2 h3 : PH}
theorem e_con {v : PV} : evE T cl (.con v) ρ h = .ok v h := by simp only [evE]
theorem e_glob {g : Nat} {v : PV} (e : T.glob[g]? = some v) : evE T cl (.glob g) ρ h = .ok v h := by simp only [evE, e]
theorem e_bty {f : Bi} {n : String} (e : f.tyn = some n) : evE T cl (.bty f) ρ h = .ok (.ty n) h := by simp only [evE, e]
theorem e_bin {op : Bop} {a b : Ex} {v w : PV} {r : Res PV} (ha : evE T cl a ρ h = .ok v h1) (hb : evE T cl b ρ h1 = .ok w h2) (k : pBin op v w h2 = r) : evE T cl (.bin op a b) ρ h = r := by
  simp only [evE, ha, hb, Res.bind_ok]; exact k
theorem e_addi {a b : Ex} {x y : Int} (ha : evE T cl a ρ h = .ok (.int x) h1) (hb : evE T cl b ρ h1 = .ok (.int y) h2) : evE T cl (.bin .add a b) ρ h = .ok (.int (x + y)) h2 := e_bin ha hb rfl
theorem e_subi {a b : Ex} {x y : Int} (ha : evE T cl a ρ h = .ok (.int x) h1) (hb : evE T cl b ρ h1 = .ok (.int y) h2) : evE T cl (.bin .sub a b) ρ h = .ok (.int (x - y)) h2 := e_bin ha hb rfl
theorem e_neg {a : Ex} {x : Int} (ha : evE T cl a ρ h = .ok (.int x) h1) : evE T cl (.neg a) ρ h = .ok (.int (-x)) h1 := by
  simp only [evE, ha, Res.bind_ok]
theorem e_cmp {op : Cop} {a b : Ex} {v w : PV} {r : Res PV} (ha : evE T cl a ρ h = .ok v h1) (hb : evE T cl b ρ h1 = .ok w h2) (k : pCmp op v w h2 = r) : evE T cl (.cmp op a b) ρ h = r := by
  simp only [evE, ha, hb, Res.bind_ok]; exact k
theorem e_chn {o1 o2 : Cop} {a b c : Ex} {u v w : PV} {t t2 : Bool} (ha : evE T cl a ρ h = .ok u h1) (hb : evE T cl b ρ h1 = .ok v h2) (k : pCmp o1 u v h2 = .ok (.bl t) h2) (hc : t = true → evE T cl c ρ h2 = .ok w h3 ∧ pCmp o2 v w h3 = .ok (.bl t2) h2) :
    evE T cl (.chn o1 o2 a b c) ρ h = .ok (.bl (t && t2)) h2 := by
  simp only [evE, ha, hb, Res.bind_ok, k]
  cases t with
  | true =>
    obtain ⟨k1, k2⟩ := hc rfl
    simp only [k1, Res.bind_ok, k2, Bool.true_and]
  | false => simp only [Bool.false_and]
theorem e_ix {o i : Ex} {v w : PV} {r : Res PV} (ha : evE T cl o ρ h = .ok v h1) (hb : evE T cl i ρ h1 = .ok w h2) (k : pIx v w h2 = r) : evE T cl (.ix o i) ρ h = r := by
  simp only [evE, ha, hb, Res.bind_ok]; exact k
theorem e_ixT {o i : Ex} {xs : List PV} {j : Int} {x : PV} (ha : evE T cl o ρ h = .ok (.tup xs) h1) (hb : evE T cl i ρ h1 = .ok (.int j) h2) (k : atI xs j = some x) : evE T cl (.ix o i) ρ h = .ok x h2 := e_ix ha hb (by simp only [pIx, k])
def isPart (e : Ex) : Prop := ∀ r h, partR e r h = r.bind fun v h1 => match v with
  | .int i => .ok (some i) h1
  | _ => .stuck
theorem partR_nop (r : Res PV) (h : PH) : partR .nop r h = .ok none h := rfl
theorem e_slT {o lo hi : Ex} {xs : List PV} {i j : Int} (pl : isPart lo) (pu : isPart hi) (ha : evE T cl o ρ h = .ok (.tup xs) h1) (hl : evE T cl lo ρ h1 = .ok (.int i) h2) (hu : evE T cl hi ρ h2 = .ok (.int j) h3) : evE T cl (.sl o lo hi) ρ h = .ok (.tup (cut xs (some i) (some j))) h3 := by
  simp only [evE, ha, Res.bind_ok, pl _ _, pu _ _, hl, hu, pSl]
theorem e_slF {o lo : Ex} {xs : List PV} {i : Int} (pl : isPart lo) (ha : evE T cl o ρ h = .ok (.tup xs) h1) (hl : evE T cl lo ρ h1 = .ok (.int i) h2) : evE T cl (.sl o lo .nop) ρ h = .ok (.tup (cut xs (some i) none)) h2 := by
  simp only [evE, ha, Res.bind_ok, pl _ _, hl, pSl, partR_nop]
theorem e_slU {o hi : Ex} {xs : List PV} {j : Int} (pu : isPart hi) (ha : evE T cl o ρ h = .ok (.tup xs) h1) (hu : evE T cl hi ρ h1 = .ok (.int j) h2) : evE T cl (.sl o .nop hi) ρ h = .ok (.tup (cut xs none (some j))) h2 := by
  simp only [evE, ha, Res.bind_ok, pu _ _, hu, pSl, partR_nop]
theorem e_nil : evEs T cl [] ρ h = .ok [] h := by simp only [evEs]
theorem e_cons {e : Ex} {es : List Ex} {v : PV} {vs : List PV} (he : evE T cl e ρ h = .ok v h1) (hs : evEs T cl es ρ h1 = .ok vs h2) (hn : ∀ x, e ≠ .star x := by intro x q; cases q) : evEs T cl (e :: es) ρ h = .ok (v :: vs) h2 := by
  rw [evEs_cons hn, he, Res.bind_ok, hs, Res.bind_ok]
theorem e_one {e : Ex} {v : PV} (he : evE T cl e ρ h = .ok v h1) (hn : ∀ x, e ≠ .star x := by intro x q; cases q) : evEs T cl [e] ρ h = .ok [v] h1 := e_cons he e_nil hn
theorem e_two {e e' : Ex} {v w : PV} (he : evE T cl e ρ h = .ok v h1) (he' : evE T cl e' ρ h1 = .ok w h2) (hn : ∀ x, e ≠ .star x := by intro x q; cases q) (hn' : ∀ x, e' ≠ .star x := by intro x q; cases q) : evEs T cl [e, e'] ρ h = .ok [v, w] h2 := e_cons he (e_one he' hn') hn
theorem e_tup {es : List Ex} {vs : List PV} (he : evEs T cl es ρ h = .ok vs h1) (hl : vs.length ≤ 1000) : evE T cl (.tup es) ρ h = .ok (.tup vs) h1 := by
  simp only [evE, he, Res.bind_ok]
  rw [if_pos (Nat.le_trans hl (by decide))]
theorem e_lst {es : List Ex} {vs : List PV} (he : evEs T cl es ρ h = .ok vs h1) (hl : vs.length ≤ 1000) : evE T cl (.lst es) ρ h = .ok (.ref h1.length) (h1 ++ [.lst vs]) := by
  simp only [evE, he, Res.bind_ok]
  rw [if_pos (Nat.le_trans hl (by decide))]
theorem e_bi {f : Bi} {es : List Ex} {vs : List PV} {r : Res PV} (he : evEs T cl es ρ h = .ok vs h1) (k : pBi T f vs h1 = r) : evE T cl (.bi f es) ρ h = r := by
  simp only [evE, he, Res.bind_ok]; exact k
theorem e_call {g f : Nat} {es : List Ex} {vs : List PV} {r : Res PV} (hg : T.glob[g]? = some (.fn f)) (he : evEs T cl es ρ h = .ok vs h1) (k : cl f vs h1 = r) : evE T cl (.call g es) ρ h = r := by
  simp only [evE, hg, callG, he, Res.bind_ok]; exact k
theorem e_not {a : Ex} {b : Bool} (ha : evE T cl a ρ h = .ok (.bl b) h1) : evE T cl (.not a) ρ h = .ok (.bl (!b)) h1 := by
  simp only [evE, ha, Res.bind_ok, pTru]
theorem e_and {a b : Ex} {t u : Bool} (ha : evE T cl a ρ h = .ok (.bl t) h1) (hb : t = true → evE T cl b ρ h1 = .ok (.bl u) h1) : evE T cl (.and a b) ρ h = .ok (.bl (t && u)) h1 := by
  simp only [evE, ha, Res.bind_ok, pTru]
  cases t with
  | true => simp only [hb rfl, Bool.true_and]
  | false => simp only [Bool.false_and]
theorem e_or {a b : Ex} {t u : Bool} (ha : evE T cl a ρ h = .ok (.bl t) h1) (hb : t = false → evE T cl b ρ h1 = .ok (.bl u) h1) : evE T cl (.or a b) ρ h = .ok (.bl (t || u)) h1 := by
  simp only [evE, ha, Res.bind_ok, pTru]
  cases t with
  | true => simp only [Bool.true_or]
  | false => simp only [hb rfl, Bool.false_or]
theorem e_andF {a b : Ex} (ha : evE T cl a ρ h = .ok (.bl false) h1) : evE T cl (.and a b) ρ h = .ok (.bl false) h1 := by
  simp only [evE, ha, Res.bind_ok, pTru]
theorem e_andT {a b : Ex} {r : Res PV} (ha : evE T cl a ρ h = .ok (.bl true) h1) (hb : evE T cl b ρ h1 = r) : evE T cl (.and a b) ρ h = r := by
  simp only [evE, ha, Res.bind_ok, pTru]; exact hb
theorem e_orT {a b : Ex} (ha : evE T cl a ρ h = .ok (.bl true) h1) : evE T cl (.or a b) ρ h = .ok (.bl true) h1 := by
  simp only [evE, ha, Res.bind_ok, pTru]
theorem e_orF {a b : Ex} {r : Res PV} (ha : evE T cl a ρ h = .ok (.bl false) h1) (hb : evE T cl b ρ h1 = r) : evE T cl (.or a b) ρ h = r := by
  simp only [evE, ha, Res.bind_ok, pTru]; exact hb
theorem e_ife {c a b : Ex} {t : Bool} {r : Res PV} (hc : evE T cl c ρ h = .ok (.bl t) h1) (ha : t = true → evE T cl a ρ h1 = r) (hb : t = false → evE T cl b ρ h1 = r) : evE T cl (.ife c a b) ρ h = r := by
  simp only [evE, hc, Res.bind_ok, pTru]
  cases t with
  | true => exact ha rfl
  | false => exact hb rfl
theorem t_bl {c : Ex} {b : Bool} (hc : evE T cl c ρ h = .ok (.bl b) h1) : evT T cl c ρ h = .ok b h1 := by
  simp only [evT, hc, Res.bind_ok, pTru]
theorem s_asg {i : Nat} {e : Ex} {v : PV} (he : evE T cl e ρ h = .ok v h1) : exS T cl W (.asg (.nm i) e) ρ h = .ok (.nx (ρ.set i (some v))) h1 := by
  simp only [exS, he, Res.bind_ok, asgTa]
theorem s_asgt {is : List Nat} {e : Ex} {v : PV} {ρ1 : PEnv} (he : evE T cl e ρ h = .ok v h1) (hb : bindTg (.tp is) v ρ = some ρ1) : exS T cl W (.asg (.tp is) e) ρ h = .ok (.nx ρ1) h1 := by
  simp only [exS, he, Res.bind_ok, asgTa, hb]
theorem s_ex {e : Ex} {v : PV} (he : evE T cl e ρ h = .ok v h1) : exS T cl W (.ex e) ρ h = .ok (.nx ρ) h1 := by
  simp only [exS, he, Res.bind_ok]
theorem s_ret {e : Ex} {v : PV} (he : evE T cl e ρ h = .ok v h1) : exS T cl W (.ret e) ρ h = .ok (.rt v) h1 := by
  simp only [exS, he, Res.bind_ok]
theorem s_nil : exSs T cl W [] ρ h = .ok (.nx ρ) h := by simp only [exSs]
theorem st_no {c : Ex} {a r : List Sm} {z : Res Fl} (hc : evE T cl c ρ h = .ok (.bl false) h1) (k : exSs T cl W r ρ h1 = z) : exSs T cl W (.ite c a [] :: r) ρ h = z :=
  st_nx (by simp only [exS, t_bl hc, Res.bind_ok, Bool.false_eq_true, if_false]; exact s_nil) k
theorem st_yes {c e : Ex} {r : List Sm} {v : PV} (hc : evE T cl c ρ h = .ok (.bl true) h1) (he : evE T cl e ρ h1 = .ok v h2) : exSs T cl W (.ite c [.ret e] [] :: r) ρ h = .ok (.rt v) h2 :=
  st_rt (by simp only [exS, t_bl hc, Res.bind_ok, if_true]; exact st_rt (s_ret he))
end
section
variable {T : Tb} {W : Nat} {cl : Nat → List PV → PH → Res PV} {ρ : PEnv} {h h1 : PH}
theorem lc_gen {e : Ex} {own : List Nat} {t : Tg} {k : Ik} {its ifs : List Ex} {xs : List PV} {w : Wk} (p : PV → Bool) (f : PV → PV) (hv : evI T cl k its ρ h = .ok (w, xs.length) h1) (hw : ∀ h' : PH, (∀ m < h1.length, h'[m]? = h1[m]?) → ∀ i, wkAt h' i w = some xs[i]?) (hN : xs.length ≤ 1000)
    (hb : ∀ x ∈ xs, ∀ h' : PH, h1.length ≤ h'.length → (∀ m < h1.length, h'[m]? = h1[m]?) → lcB T cl e own t ifs ρ x h' = .ok (if p x then some (f x) else none) h') :
    evE T cl (.lc e own t k its ifs) ρ h = .ok (.ref h1.length) (h1 ++ [.lst ((xs.filter p).map f)]) := by
  rw [evE_lc, hv]
  simp only [Res.bind_ok]
  have gen : ∀ m i, i + m = xs.length → lcRun (lcB T cl e own t ifs ρ) w h1.length (m + 1) i (h1 ++ [.lst (((xs.take i).filter p).map f)]) = .ok (.ref h1.length) (h1 ++ [.lst ((xs.filter p).map f)]) := fun m => by
    induction m with
    | zero =>
      intro i hi
      have : i = xs.length := by omega
      subst this
      unfold lcRun
      rw [hw _ (fun m hm => List.getElem?_append_left hm), List.getElem?_eq_none (Nat.le_refl _), List.take_length]
    | succ m ih =>
      intro i hi
      have hlt : i < xs.length := by omega
      unfold lcRun
      rw [hw _ (fun m hm => List.getElem?_append_left hm), List.getElem?_eq_getElem hlt]
      simp only
      rw [hb _ (List.getElem_mem hlt) _ (by simp) (fun m hm => List.getElem?_append_left hm), Res.bind_ok]
      have et : (xs.take (i + 1)).filter p = (xs.take i).filter p ++ (if p xs[i] then [xs[i]] else []) := by
        rw [List.take_succ, List.getElem?_eq_getElem hlt, List.filter_append]
        simp [List.filter_cons]
      by_cases hp : p xs[i] = true
      · simp only [hp, if_true, get_last, set_last]
        have hsz : (((xs.take i).filter p).map f).length < sizeLine := by
          rw [List.length_map]
          have := List.length_filter_le p (xs.take i)
          have h2 : (xs.take i).length ≤ 1000 := by simp; omega
          exact Nat.lt_of_lt_of_le (show _ < 1001 by omega) (by decide)
        rw [if_pos hsz]
        have k := ih (i + 1) (by omega)
        rw [et, if_pos hp, List.map_append] at k
        exact k
      · rw [if_neg hp]
        simp only
        have k := ih (i + 1) (by omega)
        rw [et, if_neg hp, List.append_nil] at k
        exact k
  have k := gen xs.length 0 (by omega)
  simpa using k
theorem evI_row {src : Ex} {xs : List PV} (hs : evE T cl src ρ h = .ok (.tup xs) h1) : evI T cl .seq [src] ρ h = .ok (.fix xs, xs.length) h1 := by
  have ns : ∀ x, src ≠ .star x := fun x q => by subst q; simp [evE] at hs
  unfold evI
  rw [evEs_cons ns, hs]
  simp only [Res.bind_ok, evEs, wkOf]
theorem evI_ref {src : Ex} {xs : List PV} {l : Nat} (hs : evE T cl src ρ h = .ok (.ref l) h1) (hl : h1[l]? = some (.lst xs)) : evI T cl .seq [src] ρ h = .ok (.lst l, xs.length) h1 := by
  have ns : ∀ x, src ≠ .star x := fun x q => by subst q; simp [evE] at hs
  unfold evI
  rw [evEs_cons ns, hs]
  simp only [Res.bind_ok, evEs, wkOf, lstAt, hl, Option.map_some]
theorem lc_row {e src : Ex} {own : List Nat} {t : Tg} {ifs : List Ex} {xs : List PV} (p : PV → Bool) (f : PV → PV) (hs : evE T cl src ρ h = .ok (.tup xs) h1) (hN : xs.length ≤ 1000)
    (hb : ∀ x ∈ xs, ∀ h' : PH, h1.length ≤ h'.length → (∀ m < h1.length, h'[m]? = h1[m]?) → lcB T cl e own t ifs ρ x h' = .ok (if p x then some (f x) else none) h') :
    evE T cl (.lc e own t .seq [src] ifs) ρ h = .ok (.ref h1.length) (h1 ++ [.lst ((xs.filter p).map f)]) := lc_gen p f (evI_row hs) (fun _ _ _ => rfl) hN hb
theorem lc_ref {e src : Ex} {own : List Nat} {t : Tg} {ifs : List Ex} {xs : List PV} {l : Nat} (p : PV → Bool) (f : PV → PV) (hs : evE T cl src ρ h = .ok (.ref l) h1) (hl : h1[l]? = some (.lst xs)) (hN : xs.length ≤ 1000)
    (hb : ∀ x ∈ xs, ∀ h' : PH, h1.length ≤ h'.length → (∀ m < h1.length, h'[m]? = h1[m]?) → lcB T cl e own t ifs ρ x h' = .ok (if p x then some (f x) else none) h') :
    evE T cl (.lc e own t .seq [src] ifs) ρ h = .ok (.ref h1.length) (h1 ++ [.lst ((xs.filter p).map f)]) := lc_gen p f (evI_ref hs hl) (fun h' hh i => by simp only [wkAt, lstAt, hh l (List.getElem?_eq_some_iff.mp hl).1, hl, Option.map_some]) hN hb
theorem lc_all {e : Ex} {own : List Nat} {t : Tg} {k : Ik} {its : List Ex} {xs : List PV} {w : Wk} (f : PV → PV) (hv : evI T cl k its ρ h = .ok (w, xs.length) h1) (hw : ∀ h' : PH, (∀ m < h1.length, h'[m]? = h1[m]?) → ∀ i, wkAt h' i w = some xs[i]?) (hN : xs.length ≤ 1000)
    (hb : ∀ x ∈ xs, ∀ h' : PH, h1.length ≤ h'.length → (∀ m < h1.length, h'[m]? = h1[m]?) → lcB T cl e own t [] ρ x h' = .ok (some (f x)) h') :
    evE T cl (.lc e own t k its []) ρ h = .ok (.ref h1.length) (h1 ++ [.lst (xs.map f)]) := by
  have k := lc_gen (fun _ => true) f hv hw hN (fun x hx h' a b => by simpa using hb x hx h' a b)
  rw [List.filter_eq_self.mpr (fun _ _ => rfl)] at k
  exact k
theorem fix_all {xs : List PV} {h' : PH} (i : Nat) : wkAt h' i (.fix xs) = some xs[i]? := rfl
theorem lst_all {xs : List PV} {l : Nat} (hl : h1[l]? = some (.lst xs)) (h' : PH) (hh : ∀ m < h1.length, h'[m]? = h1[m]?) (i : Nat) : wkAt h' i (.lst l) = some xs[i]? := by
  simp only [wkAt, lstAt, hh l (List.getElem?_eq_some_iff.mp hl).1, hl, Option.map_some]
theorem evI_rng2 {its : List Ex} {a b : Int} (he : evEs T cl its ρ h = .ok [.int a, .int b] h1) (ha : -1000000 ≤ a) (ha' : a ≤ 1000000) (hb : -1000000 ≤ b) (hb' : b ≤ 1000000) : evI T cl .rng its ρ h = .ok (.fix ((List.range (b - a).toNat).map fun (m : Nat) => .int (a + m)), (b - a).toNat) h1 := by
  unfold evI
  rw [he]
  have h3 : (-4611686018427387904 : Int) ≤ a := by omega
  have h4 : a < 4611686018427387904 := by omega
  have h5 : (-4611686018427387904 : Int) ≤ b := by omega
  have h6 : b < 4611686018427387904 := by omega
  simp [wkOf, h3, h4, h5, h6]
theorem e_app {m : Nat} {o e : Ex} {l : Nat} {xs ys : List PV} {x : PV} {h2 : PH} (ho : evE T cl o ρ h = .ok (.ref l) h1) (hl : h1[l]? = some (.lst xs)) (he : evE T cl e ρ h1 = .ok x h2) (hl2 : h2[l]? = some (.lst ys)) (hs : ys.length ≤ 1000) (hn : ∀ x, e ≠ .star x := by intro x q; cases q) :
    evE T cl (.mt m .append o [e]) ρ h = .ok .non (h2.set l (.lst (ys ++ [x]))) := by
  rw [evE_mt rfl, ho]
  simp only [Res.bind_ok, kindAt, hl, Bq.of]
  rw [evEs_cons hn, he]
  simp only [Res.bind_ok, evEs, pBq, hl2]
  rw [if_pos (Nat.lt_of_le_of_lt hs (by decide))]
theorem lcB_all {e : Ex} {own : List Nat} {t : Tg} {x y : PV} {ρ1 : PEnv} (hb : bindTg t x (own.foldr (fun i r => r.set i none) ρ) = some ρ1) (he : evE T cl e ρ1 h = .ok y h) : lcB T cl e own t [] ρ x h = .ok (some y) h := by
  unfold lcB
  rw [hb]
  simp only [evIf, Res.bind_ok, if_true, he]
  rfl
theorem lcB_if {e c : Ex} {own : List Nat} {t : Tg} {x y : PV} {b : Bool} {ρ1 : PEnv} (hb : bindTg t x (own.foldr (fun i r => r.set i none) ρ) = some ρ1) (hc : evE T cl c ρ1 h = .ok (.bl b) h) (he : b = true → evE T cl e ρ1 h = .ok y h) : lcB T cl e own t [c] ρ x h = .ok (if b then some y else none) h := by
  unfold lcB
  rw [hb]
  cases b with
  | true =>
    simp only [evIf, hc, pTru, Res.bind_ok, if_true, he rfl]
    rfl
  | false =>
    simp only [evIf, hc, pTru, Res.bind_ok, Bool.false_eq_true, if_false]
    rfl
theorem wh_det {c : PEnv → PH → Res Bool} {body : PEnv → PH → Res Fl} {f : Nat → PEnv} {N : Nat} {h : PH} (hc : ∀ i < N, c (f i) h = .ok true h) (he : c (f N) h = .ok false h) (hb : ∀ i < N, body (f i) h = .ok (.nx (f (i + 1))) h) :
    ∀ m i W, i + m = N → m < W → whRun c body W (f i) h = .ok (.nx (f N)) h := fun m => by
  induction m with
  | zero =>
    intro i W hi hW
    obtain ⟨W', rfl⟩ : ∃ W', W = W' + 1 := ⟨W - 1, by omega⟩
    have : i = N := by omega
    subst this
    unfold whRun
    rw [he]
    rfl
  | succ m ih =>
    intro i W hi hW
    obtain ⟨W', rfl⟩ : ∃ W', W = W' + 1 := ⟨W - 1, by omega⟩
    unfold whRun
    rw [hc i (by omega)]
    simp only [Res.bind_ok, if_true]
    rw [hb i (by omega)]
    simp only [Res.bind_ok]
    exact ih (i + 1) W' (by omega) (by omega)
theorem intsOf_map : ∀ l : List Int, intsOf (l.map .int) = some l
  | [] => rfl
  | x :: l => by simp [intsOf, intsOf_map l]
theorem blsOf_map : ∀ l : List Bool, blsOf (l.map .bl) = some l
  | [] => rfl
  | x :: l => by simp [blsOf, blsOf_map l]
theorem lst_last {h : PH} {xs : List PV} : lstAt (h ++ [.lst xs]) h.length = some xs := by unfold lstAt; rw [get_last]
end
end Mn
set_option Elab.async false
set_option linter.all false
set_option maxRecDepth 100000
set_option maxHeartbeats 4000000
namespace K04
open PySem PySem.Spec PyProof.Rows L2 Mn
def oks (x : List Nat) : Prop := ∀ c ∈ x, c = 10 ∨ okc c
theorem strike (x : List Nat) : (Txt.replace ⟨x.toArray⟩ ⟨[10].toArray⟩ ⟨([] : List Nat).toArray⟩).cps.toList = x.filter (· != 10) := by
  have e := replace_strikes ⟨x.toArray⟩ 10
  simpa using e
theorem strike_ok {x : List Nat} (h : oks x) : okx (x.filter (· != 10)) := fun c hc => by
  rw [List.mem_filter] at hc
  rcases h c hc.1 with rfl | q
  · simp at hc
  · exact q
theorem e_signs {n : Nat} {x : List Nat} {h : PH} (hx : oks x) (hl : x.length ≤ 1000) : call (n + 2) 10 [.str x] h = .ok (.bl true) h := by
  rw [call_run (d := d_are_signs) rfl rfl]
  have h1 : x.length ≤ 16777216 := by omega
  refine rd_rt rfl ?_
  have e1 : evE T (call (n + 1)) (.repl (.var 0) [10] []) [some (.str x)] h = .ok (.str (x.filter (· != 10))) h := by
    have e := strike x
    simp only [evE]
    simp [Res.bind, h1]
    simpa using e
  have b := e_isprint (n := n) (h := h) (strike_ok hx)
  show exSs T (call (n + 1)) 0 b_are_signs [some (.str x)] h = _
  exact st_rt (Mn.s_ret (Mn.e_andT (h1 := h) rfl (Mn.e_call (f := 2) (vs := [.str (x.filter (· != 10))]) (h1 := h) rfl (Mn.e_one e1) b)))
theorem lc_det {body : PV → PH → Res (Option PV)} {w : Wk} {N : Nat} {item y : Nat → PV} {h : PH} (hN : N ≤ 1000) (hi : ∀ i < N, ∀ h', wkAt h' i w = some (some (item i))) (he : ∀ h', wkAt h' N w = some none) (hb : ∀ i < N, ∀ h', body (item i) h' = .ok (some (y i)) h') :
    lcRun body w h.length (N + 1) 0 (h ++ [.lst []]) = .ok (.ref h.length) (h ++ [.lst ((List.range N).map y)]) := by
  have gen : ∀ m i, i + m = N → lcRun body w h.length (m + 1) i (h ++ [.lst ((List.range i).map y)]) = .ok (.ref h.length) (h ++ [.lst ((List.range N).map y)]) := fun m => by
    induction m with
    | zero =>
      intro i hi'
      have : i = N := by omega
      subst this
      unfold lcRun
      rw [he]
    | succ m ih =>
      intro i hi'
      unfold lcRun
      rw [hi i (by omega)]
      simp only
      rw [hb i (by omega), Res.bind_ok]
      simp only [get_last, set_last]
      have hs : ((List.range i).map y).length < sizeLine := by
        rw [List.length_map, List.length_range]
        exact Nat.lt_of_lt_of_le (Nat.lt_of_le_of_lt (by omega : i ≤ 1000) (by decide : 1000 < 1001)) (by decide)
      rw [if_pos hs]
      have := ih (i + 1) (by omega)
      rw [List.range_succ, List.map_append] at this
      exact this
  exact gen N 0 (by omega)
theorem sm_range : ∀ (x : List Nat) (k : Nat), ((List.range x.length).map fun i => x.getD i 0 * (k + i + 1)).sum = sm k x
  | [], k => rfl
  | c :: x, k => by
    have q := sm_range x (k + 1)
    rw [List.length_cons, List.range_succ_eq_map, List.map_cons, List.sum_cons, List.map_map]
    simp only [sm]
    rw [← q]
    congr 1
    congr 1
    apply List.map_congr_left
    intro i _
    simp only [Function.comp, List.getD_cons_succ]
    congr 1
    omega
theorem ints_range (f : Nat → Nat) : ∀ l : List Nat, intsOf (l.map fun i => PV.int (f i : Nat)) = some (l.map fun i => ((f i : Nat) : Int))
  | [] => rfl
  | a :: l => by simp only [List.map_cons, intsOf, ints_range f l, Option.map_some]
theorem sum_cast (f : Nat → Nat) : ∀ l : List Nat, (l.map fun i => ((f i : Nat) : Int)).sum = (((l.map f).sum : Nat) : Int)
  | [] => rfl
  | a :: l => by simp only [List.map_cons, List.sum_cons, sum_cast f l]; push_cast; rfl
theorem sum_turn {cl : Nat → List PV → PH → Res PV} {x : List Nat} {c i : Nat} {h : PH} (hc : c < 1000000) (hi : i < 1000) : lcB T cl (.bin .mul (.bi .ord [.var 3]) (.bin .add (.var 2) (.con (.int 1)))) [2, 3] (.tp [2, 3]) [] [some (.str x), none, none, none] (.tup [.int i, .str [c]]) h = .ok (some (.int (c * (i + 1) : Nat))) h := by
  have hb : big c ((i : Int) + 1) = true := by
    have := big_ok (a := c) (b := i + 1) (k := 20) (by omega) (by omega) (by decide)
    push_cast at this
    exact this
  unfold lcB
  simp [runD, runBody, exSs, exS, evE, evEs, evT, evIf, asgTa, bindTg, pBin, pCmp, pBi, pTru, Mn.ob, pIx, Res.bind, callG, T, isTy, fnT, isTys, tyOf, subC, tyB, tyAll, tyNames, Bi.tyn, hb, Res.noer]
theorem e_checks {n : Nat} {x : List Nat} {h : PH} (hx : oks x) (hl : x.length ≤ 1000) : call (n + 3) 11 [.str x] h = .ok .non h := by
  rw [call_run (d := d_check_signs) rfl rfl]
  simp [runD, runBody, exSs, exS, evE, evEs, evT, evIf, asgTa, bindTg, pBin, pCmp, pBi, pTru, Mn.ob, pIx, Res.bind, callG, T, isTy, fnT, isTys, tyOf, subC, tyB, tyAll, tyNames, Bi.tyn, d_check_signs, b_check_signs, e_signs hx hl]
theorem e_sum {n : Nat} {x : List Nat} {h : PH} (hx : oks x) (hl : x.length ≤ 500) : ∃ g, call (n + 4) 9 [.str x] h = .ok (.int (sm 0 x % 99991 : Nat)) (h ++ g) := by
  refine ⟨[.lst ((List.range x.length).map fun i => .int (x.getD i 0 * (i + 1) : Nat))], ?_⟩
  rw [call_run (d := d_sum_of) rfl rfl]
  have e := e_checks (n := n) (h := h) hx (by omega)
  have cc : ∀ i, x.getD i 0 < 1000000 := fun i => by
    by_cases hi : i < x.length
    · have hm : x[i] ∈ x := List.getElem_mem hi
      have : x.getD i 0 = x[i] := by simp [hi]
      rw [this]
      rcases hx _ hm with q | q
      · omega
      · unfold okc at q; omega
    · have : x.getD i 0 = 0 := by simp [hi]
      omega
  refine rd_rt rfl ?_
  show exSs T (call (n + 3)) 0 b_sum_of [some (.str x), none, none, none] h = _
  refine st_nx (ρ1 := [some (.str x), none, none, none]) (h1 := h) (by simp [runD, runBody, exSs, exS, evE, evEs, evT, evIf, asgTa, bindTg, pBin, pCmp, pBi, pTru, Mn.ob, pIx, Res.bind, callG, T, isTy, fnT, isTys, tyOf, subC, tyB, tyAll, tyNames, Bi.tyn, e]) ?_
  have key : evE T (call (n + 3)) (.lc (.bin .mul (.bi .ord [.var 3]) (.bin .add (.var 2) (.con (.int 1)))) [2, 3] (.tp [2, 3]) .enum [.var 0] []) [some (.str x), none, none, none] h =
      .ok (.ref h.length) (h ++ [.lst ((List.range x.length).map fun i => .int (x.getD i 0 * (i + 1) : Nat))]) := by
    have hI : evI T (call (n + 3)) .enum [.var 0] [some (.str x), none, none, none] h = .ok (.ens x, x.length) h := by
      have hs : x.length ≤ sizeLine := Nat.le_trans hl (by decide)
      unfold evI
      simp [runD, runBody, exSs, exS, evE, evEs, evT, evIf, asgTa, bindTg, pBin, pCmp, pBi, pTru, Mn.ob, pIx, Res.bind, callG, T, isTy, fnT, isTys, tyOf, subC, tyB, tyAll, tyNames, Bi.tyn, wkOf, hs]
    rw [evE_lc, hI, Res.bind_ok]
    refine lc_det (item := fun i => .tup [.int i, .str [x.getD i 0]]) (by omega) (fun i hi h' => ?_) (fun h' => ?_) fun i hi h' => sum_turn (cc i) (by omega)
    · have : i ≤ x.length := by omega
      simp [wkAt, this, hi]
    · simp [wkAt]
  have s1 : ((List.range x.length).map fun i => ((x.getD i 0 * (i + 1) : Nat) : Int)).sum = (sm 0 x : Int) := by
    have := sum_cast (fun i => x.getD i 0 * (i + 1)) (List.range x.length)
    rw [this]
    have q := sm_range x 0
    simp only [Nat.zero_add] at q
    rw [q]
  have s2 := ints_range (fun i => x.getD i 0 * (i + 1)) (List.range x.length)
  obtain ⟨L, sL, sS⟩ : ∃ L, intsOf ((List.range x.length).map fun i => PV.int ((x.getD i 0 * (i + 1) : Nat) : Int)) = some L ∧ L.sum = (sm 0 x : Int) := ⟨_, s2, s1⟩
  clear s1 s2
  generalize ((List.range x.length).map fun i => PV.int ((x.getD i 0 * (i + 1) : Nat) : Int)) = ys at key sL ⊢
  refine st_nx (ρ1 := [some (.str x), some (.int (sm 0 x)), none, none]) (h1 := h ++ [.lst ys]) (by
    unfold exS evE evEs
    rw [key]
    simp [evEs, Res.bind, pBi, lstAt, sL, asgTa, sS]) ?_
  refine st_rt ?_
  have hm : ((sm 0 x % 99991 : Nat) : Int) = (sm 0 x : Int) % 99991 := by omega
  rw [hm]
  generalize ((sm 0 x : Nat) : Int) = z
  simp only [exS, evE, T, List.getElem?_cons_succ, List.getElem?_cons_zero, Res.bind_ok, pBin]
  rw [if_pos (by decide)]
  rfl
end K04
namespace K04
open PySem PySem.Spec PyProof.Rows L2 Mn
theorem sm_take {x : List Nat} {i k : Nat} (hi : i < x.length) : sm k (x.take (i + 1)) = sm k (x.take i) + x.getD i 0 * (k + i + 1) := by
  induction x generalizing i k with
  | nil => simp at hi
  | cons c x ih =>
    cases i with
    | zero => simp [sm]
    | succ i =>
      have q := ih (i := i) (k := k + 1) (by simpa using hi)
      simp only [List.take_succ_cons, sm, q, List.getD_cons_succ]
      rw [show k + 1 + i + 1 = k + (i + 1) + 1 by omega]
      omega
theorem lsum_turn {cl : Nat → List PV → PH → Res PV} {x : List Nat} {c i : Nat} {s : Nat} {z2 z3 : Option PV} {h : PH} (hc : c < 1000000) (hi : i < 1000) : forB T cl 0 (.tp [2, 3]) [.asg (.nm 1) (.bin .add (.var 1) (.bin .mul (.bi .ord [.var 3]) (.bin .add (.var 2) (.con (.int 1)))))] (.tup [.int i, .str [c]]) [some (.str x), some (.int s), z2, z3] h =
    .ok (.nx [some (.str x), some (.int (s + c * (i + 1) : Nat)), some (.int i), some (.str [c])]) h := by
  have hb : big c ((i : Int) + 1) = true := by
    have := big_ok (a := c) (b := i + 1) (k := 20) (by omega) (by omega) (by decide)
    push_cast at this
    exact this
  unfold forB
  simp [runD, runBody, exSs, exS, evE, evEs, evT, evIf, asgTa, bindTg, pBin, pCmp, pBi, pTru, Mn.ob, pIx, Res.bind, callG, T, isTy, fnT, isTys, tyOf, subC, tyB, tyAll, tyNames, Bi.tyn, hb]
theorem e_lsum {n : Nat} {x : List Nat} {h : PH} (hx : oks x) (hl : x.length ≤ 500) : call (n + 1) 24 [.str x] h = .ok (.int (sm 0 x % 99991 : Nat)) h := by
  rw [call_run (d := d__law_sum) rfl rfl]
  have cc : ∀ i, x.getD i 0 < 1000000 := fun i => by
    by_cases hi : i < x.length
    · have hm : x[i] ∈ x := List.getElem_mem hi
      have : x.getD i 0 = x[i] := by simp [hi]
      rw [this]
      rcases hx _ hm with q | q
      · omega
      · unfold okc at q; omega
    · have : x.getD i 0 = 0 := by simp [hi]
      omega
  refine rd_rt rfl ?_
  show exSs T (call n) 0 b__law_sum [some (.str x), none, none, none] h = _
  refine st_nx (ρ1 := [some (.str x), some (.int 0), none, none]) (h1 := h) (by simp [runD, runBody, exSs, exS, evE, evEs, evT, evIf, asgTa, bindTg, pBin, pCmp, pBi, pTru, Mn.ob, pIx, Res.bind, callG, T, isTy, fnT, isTys, tyOf, subC, tyB, tyAll, tyNames, Bi.tyn]) ?_
  refine st_nx (for_st (w := .ens x) (N := x.length) (fun i => .tup [.int i, .str [x.getD i 0]]) (fun i => [some (.str x), some (.int (sm 0 (x.take i))), if i = 0 then none else some (.int (i - 1 : Nat)), if i = 0 then none else some (.str [x.getD (i - 1) 0])]) (fun _ => h)
    ?_ rfl (fun i hi => ?_) (by simp [wkAt]) fun i hi => ?_) ?_
  · have hs : x.length ≤ sizeLine := Nat.le_trans hl (by decide)
    unfold evI
    simp [runD, runBody, exSs, exS, evE, evEs, evT, evIf, asgTa, bindTg, pBin, pCmp, pBi, pTru, Mn.ob, pIx, Res.bind, callG, T, isTy, fnT, isTys, tyOf, subC, tyB, tyAll, tyNames, Bi.tyn, wkOf, hs]
  · have : i ≤ x.length := by omega
    simp [wkAt, this, hi]
  · rw [sm_take hi, if_neg (Nat.succ_ne_zero i), if_neg (Nat.succ_ne_zero i), Nat.add_sub_cancel, Nat.zero_add]
    exact lsum_turn (cc i) (by omega)
  · refine st_rt ?_
    rw [List.take_length]
    have hm : ((sm 0 x % 99991 : Nat) : Int) = (sm 0 x : Int) % 99991 := by omega
    rw [hm]
    generalize ((sm 0 x : Nat) : Int) = z
    simp only [exS, evE, evEs, pBi, List.getElem?_cons_succ, List.getElem?_cons_zero, Res.bind_ok, pBin]
    rw [if_pos (by decide)]
    rfl
end K04
set_option Elab.async false
set_option linter.all false
set_option maxRecDepth 100000
set_option maxHeartbeats 4000000
namespace K04
open PySem PySem.Spec PyProof.Rows L2 Mn
inductive Al {α : Type} (P : α → PH → Prop) : Res α → Prop
  | ret {a : α} {h : PH} (p : P a h) : Al P (.ok a h)
  | draw {n : Nat} {k : Nat → Res α} (q : ∀ i < n, Al P (k i)) : Al P (.all n k)
theorem Al.bind {α β : Type} {P : β → PH → Prop} {r : Res α} {k : α → PH → Res β} (h : Al (fun a h1 => Al P (k a h1)) r) : Al P (r.bind k) := by
  induction h with
  | ret p => exact p
  | draw q ih => exact .draw ih
theorem Al.imp {α : Type} {P Q : α → PH → Prop} {r : Res α} (h : Al P r) (k : ∀ a h1, P a h1 → Q a h1) : Al Q r := by
  induction h with
  | ret p => exact .ret (k _ _ p)
  | draw q ih => exact .draw ih
theorem Al.ok {α : Type} {P : α → PH → Prop} {r : Res α} {a : α} {h : PH} (e : r = .ok a h) (p : P a h) : Al P r := by rw [e]; exact .ret p
section
variable {cl : Nat → List PV → PH → Res PV} {ρ : PEnv} {h : PH}
theorem al_call {P : PV → PH → Prop} {g f : Nat} {es : List Ex} (hg : T.glob[g]? = some (.fn f)) (k : Al (fun vs h1 => Al P (cl f vs h1)) (evEs T cl es ρ h)) : Al P (evE T cl (.call g es) ρ h) := by
  simp only [evE, hg, callG]
  exact Al.bind k
theorem al_ix {P : PV → PH → Prop} {o i : Ex} (k : Al (fun v h1 => Al (fun w h2 => Al P (pIx v w h2)) (evE T cl i ρ h1)) (evE T cl o ρ h)) : Al P (evE T cl (.ix o i) ρ h) := by
  simp only [evE]
  exact Al.bind (k.imp fun v h1 q => Al.bind q)
theorem al_bin {P : PV → PH → Prop} {op : Bop} {o i : Ex} (k : Al (fun v h1 => Al (fun w h2 => Al P (pBin op v w h2)) (evE T cl i ρ h1)) (evE T cl o ρ h)) : Al P (evE T cl (.bin op o i) ρ h) := by
  simp only [evE]
  exact Al.bind (k.imp fun v h1 q => Al.bind q)
theorem al_cmp {P : PV → PH → Prop} {op : Cop} {o i : Ex} (k : Al (fun v h1 => Al (fun w h2 => Al P (pCmp op v w h2)) (evE T cl i ρ h1)) (evE T cl o ρ h)) : Al P (evE T cl (.cmp op o i) ρ h) := by
  simp only [evE]
  exact Al.bind (k.imp fun v h1 q => Al.bind q)
theorem al_bi {P : PV → PH → Prop} {f : Bi} {es : List Ex} (k : Al (fun vs h1 => Al P (pBi T f vs h1)) (evEs T cl es ρ h)) : Al P (evE T cl (.bi f es) ρ h) := by
  simp only [evE]
  exact Al.bind k
theorem al_nil {P : List PV → PH → Prop} (k : P [] h) : Al P (evEs T cl [] ρ h) := by
  simp only [evEs]
  exact .ret k
theorem al_cons {P : List PV → PH → Prop} {e : Ex} {es : List Ex} (he : ∀ x, e ≠ .star x) (k : Al (fun v h1 => Al (fun vs h2 => P (v :: vs) h2) (evEs T cl es ρ h1)) (evE T cl e ρ h)) : Al P (evEs T cl (e :: es) ρ h) := by
  rw [evEs_cons he]
  exact Al.bind (k.imp fun v h1 q => Al.bind (q.imp fun vs h2 z => .ret z))
theorem al_var {P : PV → PH → Prop} {i : Nat} {v : PV} (e : ρ[i]? = some (some v)) (k : P v h) : Al P (evE T cl (.var i) ρ h) := by
  simp only [evE, e]
  exact .ret k
theorem al_con {P : PV → PH → Prop} {v : PV} (k : P v h) : Al P (evE T cl (.con v) ρ h) := by
  simp only [evE]
  exact .ret k
theorem al_ife {P : PV → PH → Prop} {c a b : Ex} (k : Al (fun v h1 => ∃ t, pTru h1 v = some t ∧ if t then Al P (evE T cl a ρ h1) else Al P (evE T cl b ρ h1)) (evE T cl c ρ h)) : Al P (evE T cl (.ife c a b) ρ h) := by
  simp only [evE]
  refine Al.bind (k.imp fun v h1 ⟨t, e, q⟩ => ?_)
  rw [e]
  cases t <;> exact q
theorem al_evT {P : Bool → PH → Prop} {c : Ex} (k : Al (fun v h1 => ∃ t, pTru h1 v = some t ∧ P t h1) (evE T cl c ρ h)) : Al P (evT T cl c ρ h) := by
  unfold evT
  refine Al.bind (k.imp fun v h1 ⟨t, e, q⟩ => ?_)
  rw [e]
  exact .ret q
theorem al_ss {P : Fl → PH → Prop} {s : Sm} {r : List Sm} (k : Al (fun f h1 => match f with
    | .nx ρ1 => Al P (exSs T cl 0 r ρ1 h1)
    | f => P f h1) (exS T cl 0 s ρ h)) : Al P (exSs T cl 0 (s :: r) ρ h) := by
  simp only [exSs]
  refine Al.bind (k.imp fun f h1 q => ?_)
  cases f
  · exact q
  all_goals exact .ret q
theorem al_asg {P : Fl → PH → Prop} {i : Nat} {e : Ex} (k : Al (fun v h1 => P (.nx (ρ.set i (some v))) h1) (evE T cl e ρ h)) : Al P (exS T cl 0 (.asg (.nm i) e) ρ h) := by
  simp only [exS]
  exact Al.bind (k.imp fun v h1 q => .ret q)
theorem al_ret {P : Fl → PH → Prop} {e : Ex} (k : Al (fun v h1 => P (.rt v) h1) (evE T cl e ρ h)) : Al P (exS T cl 0 (.ret e) ρ h) := by
  simp only [exS]
  exact Al.bind (k.imp fun v h1 q => .ret q)
theorem al_ite {P : Fl → PH → Prop} {c : Ex} {a b : List Sm} (k : Al (fun t h1 => if t then Al P (exSs T cl 0 a ρ h1) else Al P (exSs T cl 0 b ρ h1)) (evT T cl c ρ h)) : Al P (exS T cl 0 (.ite c a b) ρ h) := by
  simp only [exS]
  refine Al.bind (k.imp fun t h1 q => ?_)
  cases t <;> exact q
theorem al_run {P : PV → PH → Prop} {d : Df} {vs : List PV} (hl : vs.length = d.ps.length) (k : Al (fun f h1 => match f with
    | .nx _ => P .non h1
    | .rt v => P v h1
    | _ => False) (exSs T cl 0 d.body (vs.map some ++ List.replicate (d.N.length - vs.length) none) h)) : Al P (runD T 0 cl d vs h) := by
  unfold runD runBody
  rw [if_pos hl]
  refine Al.bind (k.imp fun f h1 q => ?_)
  cases f
  · exact .ret q
  · exact False.elim q
  · exact False.elim q
  · exact .ret q
end
def Dc (l b : Nat) (h : PH) : Prop := ∃ b', h[l]? = some (.dice b') ∧ b ≤ b'
def Gr (l : Nat) (h h' : PH) : Prop := h.length ≤ h'.length ∧ ∀ m, m < h.length → m ≠ l → h'[m]? = h[m]?
theorem Gr.refl (l : Nat) (h : PH) : Gr l h h := ⟨Nat.le_refl _, fun _ _ _ => rfl⟩
theorem Gr.trans {l : Nat} {a b c : PH} (x : Gr l a b) (y : Gr l b c) : Gr l a c := ⟨Nat.le_trans x.1 y.1, fun m hm hn => (y.2 m (Nat.lt_of_lt_of_le hm x.1) hn).trans (x.2 m hm hn)⟩
theorem Gr.app (l : Nat) (h g : PH) : Gr l h (h ++ g) := ⟨by simp, fun m hm _ => List.getElem?_append_left hm⟩
theorem Gr.get {l m : Nat} {h h' : PH} {o : PO} (g : Gr l h h') (e : h[m]? = some o) (hn : m ≠ l) : h'[m]? = some o := by
  rw [g.2 m (List.getElem?_eq_some_iff.mp e).1 hn]
  exact e
theorem Dc.le {l b c : Nat} {h : PH} (d : Dc l b h) (hc : c ≤ b) : Dc l c h := let ⟨b', e, q⟩ := d; ⟨b', e, Nat.le_trans hc q⟩
theorem Dc.lt {l b : Nat} {h : PH} (d : Dc l b h) : l < h.length := let ⟨_, e, _⟩ := d; (List.getElem?_eq_some_iff.mp e).1
theorem Dc.app {l b : Nat} {h : PH} (d : Dc l b h) (g : PH) : Dc l b (h ++ g) := let ⟨b', e, q⟩ := d; ⟨b', by rw [List.getElem?_append_left d.lt]; exact e, q⟩
theorem a_roll {n l b : Nat} {k : Int} {h : PH} (d : Dc l (b + 1) h) (h0 : 0 < k) (h1 : k < 2 ^ 62) : Al (fun v h' => (∃ r : Nat, (r : Int) < k ∧ v = .int r) ∧ Dc l b h' ∧ Gr l h h') (call (n + 1) 16 [.ref l, .int k] h) := by
  obtain ⟨b', e, hb⟩ := d
  obtain ⟨b2, rfl⟩ : ∃ b2, b' = b2 + 1 := ⟨b' - 1, by omega⟩
  rw [e_roll e h0 h1]
  refine .draw fun r hr => .ret ⟨⟨r, by omega, rfl⟩, ⟨b2, ?_, by omega⟩, by simp, fun m hm hn => ?_⟩
  · rw [List.getElem?_set_self (List.getElem?_eq_some_iff.mp e).1]
  · rw [List.getElem?_set_ne (Ne.symm hn)]
theorem Al.noer {α : Type} {P : α → PH → Prop} {r : Res α} (h : Al P r) : Al P r.noer := by
  induction h with
  | ret p => exact .ret p
  | draw q ih => exact .draw ih
theorem atI_lt {xs : List PV} {r : Nat} (hr : r < xs.length) : atI xs r = some xs[r] := by
  exact atI_nat (List.getElem?_eq_getElem hr)
theorem a_one {n l m b : Nat} {xs : List PV} {h : PH} (d : Dc l (b + 1) h) (e : h[m]? = some (.lst xs)) (hne : m ≠ l) (h0 : 0 < xs.length) (h1 : xs.length < 1000) : Al (fun v h' => v ∈ xs ∧ Dc l b h' ∧ Gr l h h') (call (n + 2) 17 [.ref l, .ref m] h) := by
  rw [call_run (d := d__law_one_of) rfl rfl]
  refine al_run rfl (al_ss (al_ret (al_ix (al_var (v := .ref m) rfl (al_call (f := 16) rfl (al_cons (fun _ e => nomatch e) (al_var (v := .ref l) rfl (al_cons (fun _ e => nomatch e) (Al.ok (a := .int xs.length) (h := h) ?_ (al_nil ?_))))))))))
  · show evE T (call (n + 1)) (.bi .len [.var 1]) [some (.ref l), some (.ref m)] h = _
    simp [runD, runBody, exSs, exS, evE, evEs, evT, evIf, asgTa, bindTg, pBin, pCmp, pBi, pTru, Mn.ob, pIx, Res.bind, callG, T, isTy, fnT, isTys, tyOf, subC, tyB, tyAll, tyNames, Bi.tyn, e]
  · refine (a_roll (n := n) (k := xs.length) d (by omega) (by omega)).imp fun v h' ⟨⟨r, hr, er⟩, d', g⟩ => ?_
    subst er
    have e' := g.get e hne
    have hr' : r < xs.length := by omega
    refine Al.ok (a := xs[r]) (h := h') ?_ ⟨List.getElem_mem hr', d', g⟩
    simp only [pIx, e', atI_lt hr']
end K04
set_option Elab.async false
set_option linter.all false
set_option maxRecDepth 100000
set_option maxHeartbeats 4000000
namespace K04
open PySem PySem.Spec PyProof.Rows L2 Mn
def okb (x : List Nat) : Bool := x.all (fun c => decide (32 ≤ c) && decide (c < 127)) && decide (x.length ≤ 200)
def TX (v : PV) : Prop := ∃ x, v = .str x ∧ okx x ∧ x.length ≤ 200
theorem okb_ok {x : List Nat} (h : okb x = true) : okx x ∧ x.length ≤ 200 := by
  unfold okb at h
  simp only [Bool.and_eq_true, List.all_eq_true, decide_eq_true_eq] at h
  exact ⟨fun c hc => h.1 c hc, h.2⟩
def pvb : PV → Bool
  | .str x => okb x
  | _ => false
theorem pvb_ok {v : PV} (h : pvb v = true) : TX v := by
  cases v with
  | str x => exact ⟨x, rfl, okb_ok h⟩
  | _ => cases h
theorem all_mem {xs : List PV} {p : PV → Bool} (h : xs.all p = true) {v : PV} (hv : v ∈ xs) : p v = true := List.all_eq_true.mp h v hv
def keys : List PV := [.str [97], .str [97, 99], .str [98, 66], .str [107, 101, 121], .str [108, 32, 49], .str [122]]
theorem a_key {n l b : Nat} {h : PH} (d : Dc l (b + 1) h) : Al (fun v h' => TX v ∧ Dc l b h' ∧ Gr l h h') (call (n + 3) 18 [.ref l] h) := by
  rw [call_run (d := d__law_key) rfl rfl]
  refine al_run rfl (al_ss (al_ret (al_call (f := 17) rfl (al_cons (fun _ e => nomatch e) (al_var (v := .ref l) rfl (al_cons (fun _ e => nomatch e) (Al.ok (a := .ref h.length) (h := h ++ [.lst keys]) ?_ (al_nil ?_))))))))
  · simp only [evE, evEs, Res.bind_ok]
    exact if_pos (show [PV.str [97], .str [97, 99], .str [98, 66], .str [107, 101, 121], .str [108, 32, 49], .str [122]].length ≤ sizeLine from Nat.le_trans (show 6 ≤ 16 by decide) (by decide))
  · refine (a_one (n := n) (xs := keys) (d.app _) get_last (Nat.ne_of_gt d.lt) (by decide) (by decide)).imp fun v h' ⟨hv, d', g⟩ => ?_
    exact ⟨pvb_ok (all_mem (p := pvb) (by decide +kernel) hv), d', (Gr.app l h _).trans g⟩
theorem datum_int {h : PH} {a : Int} : datum h (.int a) = some (.int a) := rfl
theorem pEq_int {h : PH} {a b : Int} : pEq h (.int a) (.int b) = some (decide (a = b)) := by
  have e : pEq h (.int a) (.int b) = some (PyData.eqv (.int a) (.int b)) := by
    unfold pEq
    rw [datum_int, datum_int]
  rw [e]
  unfold PyData.eqv
  by_cases q : a = b <;> simp [q]
def nums : List PV := [.int (2 ^ 63 - 1), .int (1 - 2 ^ 63 - 1), .int (2 ^ 62), .int (10 ^ 18)]
def numb : PV → Bool
  | .int i => decide (i.natAbs.log2 < 1920) && okb (toString i : Str).cps.toList
  | _ => false
theorem num_str {v : PV} {h : PH} (hv : numb v = true) : ∃ w, pBi T .str [v] h = .ok w h ∧ TX w := by
  cases v with
  | int i =>
    unfold numb at hv
    simp only [Bool.and_eq_true, decide_eq_true_eq] at hv
    exact ⟨.str (toString i : Str).cps.toList, by simp only [pBi]; rw [if_pos hv.1], _, rfl, okb_ok hv.2⟩
  | _ => cases hv
theorem small_num : ∀ r : Nat, r < 9 → numb (.int ((r : Int) - 4)) = true := by decide +kernel
theorem nums_ok : nums.all numb = true := by decide +kernel
theorem a_number {n l b : Nat} {h : PH} (d : Dc l (b + 2) h) : Al (fun v h' => TX v ∧ Dc l b h' ∧ Gr l h h') (call (n + 3) 20 [.ref l] h) := by
  rw [call_run (d := d__law_number) rfl rfl]
  refine al_run rfl (al_ss (al_ite (al_evT (al_cmp (al_call (f := 16) rfl (al_cons (fun _ e => nomatch e) (al_var (v := .ref l) rfl (al_cons (fun _ e => nomatch e) (al_con (al_nil ?_))))))))))
  refine (a_roll (n := n + 1) (b := b + 1) d (by decide) (by decide)).imp fun v h1 ⟨⟨r, hr, er⟩, d1, g1⟩ => ?_
  subst er
  refine al_con (Al.ok (a := .bl (decide ((r : Int) = 0))) (h := h1) (by simp only [pCmp, ob, pEq_int]) ⟨decide ((r : Int) = 0), rfl, ?_⟩)
  cases decide ((r : Int) = 0) with
  | true =>
    simp only [if_true]
    refine al_ss (al_ret (al_bi (al_cons (fun _ e => nomatch e) (al_call (f := 17) rfl (al_cons (fun _ e => nomatch e) (al_var (v := .ref l) rfl (al_cons (fun _ e => nomatch e) (Al.ok (a := .ref h1.length) (h := h1 ++ [.lst nums]) ?_ (al_nil ?_)))))))))
    · have q1 : Nat.log2 2 = 1 := by decide
      have q2 : Nat.log2 10 = 3 := by decide
      have q3 : 4 ≤ sizeLine := Nat.le_trans (show 4 ≤ 16 by decide) (by decide)
      simp [evE, evEs, Res.bind, pBin, nums, Builtin.Int.intBits, q1, q2, q3]
    · refine (a_one (n := n) (b := b) (xs := nums) (d1.app _) get_last (Nat.ne_of_gt d1.lt) (by decide) (by decide)).imp fun v h2 ⟨hv, d2, g2⟩ => al_nil ?_
      obtain ⟨w, ew, tw⟩ := num_str (h := h2) (all_mem (p := numb) nums_ok hv)
      exact Al.ok ew ⟨tw, d2, g1.trans ((Gr.app l h1 _).trans g2)⟩
  | false =>
    simp only [Bool.false_eq_true, if_false]
    refine Al.ok (a := .nx [some (.ref l)]) (h := h1) (by simp only [exSs]; rfl) ?_
    refine al_ss (al_ret (al_bi (al_cons (fun _ e => nomatch e) (al_bin (al_call (f := 16) rfl (al_cons (fun _ e => nomatch e) (al_var (v := .ref l) rfl (al_cons (fun _ e => nomatch e) (al_con (al_nil ?_))))))))))
    refine (a_roll (n := n + 1) (b := b) d1 (by decide) (by decide)).imp fun v h2 ⟨⟨r2, hr2, er2⟩, d2, g2⟩ => ?_
    subst er2
    refine al_con (Al.ok (a := .int ((r2 : Int) - 4)) (h := h2) (by simp only [pBin]) (al_nil ?_))
    obtain ⟨w, ew, tw⟩ := num_str (h := h2) (small_num r2 (by omega))
    exact Al.ok ew ⟨tw, d2, g1.trans g2⟩
end K04
set_option Elab.async false
set_option linter.all false
set_option maxRecDepth 100000
set_option maxHeartbeats 4000000
namespace K04
open PySem PySem.Spec PyProof.Rows L2 Mn
def words : List PV := [.str [], .str [120], .str [97, 32, 98], .str [107, 59, 58], .str [55, 32, 56], .str [108, 111, 110, 103, 101, 114, 32, 116, 104, 97, 110, 32, 97, 108, 108, 32, 111, 102, 32, 116, 104, 101, 32, 111, 116, 104, 101, 114, 115]]
theorem a_text {n l b : Nat} {h : PH} (d : Dc l (b + 3) h) : Al (fun v h' => TX v ∧ Dc l b h' ∧ Gr l h h') (call (n + 4) 19 [.ref l] h) := by
  rw [call_run (d := d__law_text) rfl rfl]
  have q3 : 6 ≤ sizeLine := Nat.le_trans (show 6 ≤ 16 by decide) (by decide)
  refine al_run rfl (al_ss (al_asg (Al.ok (a := .ref h.length) (h := h ++ [.lst words]) (by simp [evE, evEs, Res.bind, words, q3]) ?_)))
  have d0 : Dc l (b + 3) (h ++ [.lst words]) := d.app _
  refine al_ss (al_ret (al_ife (al_cmp (al_call (f := 16) rfl (al_cons (fun _ e => nomatch e) (al_var (v := .ref l) rfl (al_cons (fun _ e => nomatch e) (al_con (al_nil ?_)))))))))
  refine (a_roll (n := n + 2) (b := b + 2) d0 (by decide) (by decide)).imp fun v h1 ⟨⟨r, hr, er⟩, d1, g1⟩ => ?_
  subst er
  have w1 : h1[h.length]? = some (.lst words) := g1.get get_last (Nat.ne_of_gt d.lt)
  refine al_con (Al.ok (a := .bl (decide ((r : Int) = 0))) (h := h1) (by simp only [pCmp, ob, pEq_int]) ⟨decide ((r : Int) = 0), rfl, ?_⟩)
  have g0 : Gr l h h1 := (Gr.app l h _).trans g1
  cases decide ((r : Int) = 0) with
  | true =>
    simp only [if_true]
    refine al_call (f := 17) rfl (al_cons (fun _ e => nomatch e) (al_var (v := .ref l) rfl (al_cons (fun _ e => nomatch e) (al_var (v := .ref h.length) rfl (al_nil ?_)))))
    refine (a_one (n := n + 1) (b := b) (xs := words) (d1.le (by omega)) w1 (Nat.ne_of_gt d.lt) (by decide) (by decide)).imp fun v h2 ⟨hv, d2, g2⟩ => ?_
    exact ⟨pvb_ok (all_mem (p := pvb) (by decide +kernel) hv), d2, g0.trans g2⟩
  | false =>
    simp only [Bool.false_eq_true, if_false]
    refine al_call (f := 20) rfl (al_cons (fun _ e => nomatch e) (al_var (v := .ref l) rfl (al_nil ?_)))
    refine (a_number (n := n) (b := b) d1).imp fun v h2 ⟨tv, d2, g2⟩ => ?_
    exact ⟨tv, d2, g0.trans g2⟩
end K04
set_option Elab.async false
set_option linter.all false
set_option maxRecDepth 100000
set_option maxHeartbeats 4000000
namespace K04
open PySem PySem.Spec PyProof.Rows L2 Mn
theorem lc_al {body : PV → PH → Res (Option PV)} {w : Wk} {N l : Nat} {item : Nat → PV} {C : PV → Prop} {h0 : PH} {P : PV → PH → Prop} (hN : N ≤ 1000) (hl : l < h0.length)
    (hi : ∀ i < N, ∀ h', wkAt h' i w = some (some (item i))) (he : ∀ h', wkAt h' N w = some none)
    (hb : ∀ i < N, ∀ b h', Dc l (b + 1) h' → Gr l h0 h' → Al (fun y h2 => (∃ v, y = some v ∧ C v) ∧ Dc l b h2 ∧ Gr l h' h2) (body (item i) h')) :
    ∀ m i b h' acc, i + m = N → h'[h0.length]? = some (.lst acc) → acc.length = i → (∀ v ∈ acc, C v) → Dc l (b + m) h' → Gr l h0 h' →
      (∀ h2 ys, h2[h0.length]? = some (.lst ys) → ys.length = N → (∀ v ∈ ys, C v) → Dc l b h2 → Gr l h0 h2 → P (.ref h0.length) h2) → Al P (lcRun body w h0.length (m + 1) i h') := fun m => by
  induction m with
  | zero =>
    intro i b h' acc hi' ea hl2 hc d g k
    have : i = N := by omega
    subst this
    unfold lcRun
    rw [he]
    exact Al.ok rfl (k h' acc ea hl2 hc d g)
  | succ m ih =>
    intro i b h' acc hi' ea hl2 hc d g k
    unfold lcRun
    rw [hi i (by omega)]
    refine Al.bind ((hb i (by omega) (b + m) h' d g).imp fun y h2 ⟨⟨v, ey, cv⟩, d2, g2⟩ => ?_)
    subst ey
    have e2 : h2[h0.length]? = some (.lst acc) := g2.get ea (Nat.ne_of_gt hl)
    have hs : acc.length < sizeLine := Nat.lt_of_lt_of_le (show acc.length < 1001 by omega) (by decide)
    have hlt : h0.length < h2.length := (List.getElem?_eq_some_iff.mp e2).1
    simp only [e2]
    rw [if_pos hs]
    refine ih (i + 1) b _ (acc ++ [v]) (by omega) ?_ (by simp [hl2]) (fun u hu => ?_) ?_ ?_ k
    · rw [List.getElem?_set_self hlt]
    · rcases List.mem_append.mp hu with hu | hu
      · exact hc u hu
      · rw [List.mem_singleton.mp hu]; exact cv
    · obtain ⟨b', q1, q2⟩ := d2
      exact ⟨b', by rw [List.getElem?_set_ne (Nat.ne_of_gt hl)]; exact q1, q2⟩
    · have g3 := g.trans g2
      exact ⟨by simpa using g3.1, fun m' hm hn => by rw [List.getElem?_set_ne (Nat.ne_of_gt hm)]; exact g3.2 m' hm hn⟩
end K04
set_option Elab.async false
set_option linter.all false
set_option maxRecDepth 100000
set_option maxHeartbeats 4000000
namespace K04
open PySem PySem.Spec PyProof.Rows L2 Mn
section
variable {cl : Nat → List PV → PH → Res PV} {ρ : PEnv} {h : PH}
theorem al_mt {P : PV → PH → Prop} {m : Nat} {b : Bm} {o : Ex} {es : List Ex} (hb : notNone b = true) (k : Al (fun v h1 => ∃ q, Bq.of b (kindAt h1 v) = some q ∧ Al (fun vs h2 => Al P (pBq q v vs h2)) (evEs T cl es ρ h1)) (evE T cl o ρ h)) : Al P (evE T cl (.mt m b o es) ρ h) := by
  rw [evE_mt hb]
  refine Al.bind (k.imp fun v h1 ⟨q, e, z⟩ => ?_)
  rw [e]
  exact Al.bind z
theorem al_lc {P : PV → PH → Prop} {e : Ex} {own : List Nat} {t : Tg} {k : Ik} {its ifs : List Ex} (q : Al (fun vs h1 => ∃ p, wkOf k vs h1 = some p ∧ Al P (lcRun (lcB T cl e own t ifs ρ) p.1 h1.length (p.2 + 1) 0 (h1 ++ [.lst []]))) (evEs T cl its ρ h)) : Al P (evE T cl (.lc e own t k its ifs) ρ h) := by
  rw [evE_lc]
  unfold evI
  rw [Res.bind_assoc]
  refine Al.bind (q.imp fun vs h1 ⟨p, e1, z⟩ => ?_)
  rw [e1]
  exact z
end
def sgn : List Nat := [10, 32, 33, 48, 57, 65, 90, 97, 122, 126, 58, 59, 44, 98, 66]
def Sg (v : PV) : Prop := ∃ c, v = .str [c] ∧ (c = 10 ∨ okc c)
theorem sgn_ok {v : PV} (h : v ∈ sgn.map fun c => PV.str [c]) : Sg v := by
  obtain ⟨c, hc, rfl⟩ := List.mem_map.mp h
  refine ⟨c, rfl, ?_⟩
  show c = 10 ∨ (32 ≤ c ∧ c < 127)
  have : sgn.all (fun c => decide (c = 10 ∨ (32 ≤ c ∧ c < 127))) = true := by decide
  exact of_decide_eq_true (List.all_eq_true.mp this c hc)
theorem all_sg : ∀ {ys : List PV}, (∀ v ∈ ys, Sg v) → ∃ x : List Nat, ys = x.map (fun c => PV.str [c]) ∧ oks x
  | [], _ => ⟨[], rfl, fun c h => by simp at h⟩
  | y :: ys, h => by
    obtain ⟨x, rfl, hx⟩ := all_sg fun v hv => h v (List.mem_cons_of_mem _ hv)
    obtain ⟨c, rfl, hc⟩ := h _ List.mem_cons_self
    exact ⟨c :: x, rfl, fun d hd => by
      rcases List.mem_cons.mp hd with rfl | hd
      · exact hc
      · exact hx d hd⟩
theorem strs_sg : ∀ x : List Nat, strsOf (x.map fun c => PV.str [c]) = some (x.map fun c => [c])
  | [] => rfl
  | c :: x => by simp only [List.map_cons, strsOf, strs_sg x, Option.map_some]
theorem join_sg (x : List Nat) : (Txt.join ⟨([] : List Nat).toArray⟩ ((x.map fun c => [c]).map fun y => (⟨y.toArray⟩ : Str))).cps.toList = x := by
  have e := join_nil_signs ⟨x.toArray⟩
  have e2 : ((x.map fun c => [c]).map fun y => (⟨y.toArray⟩ : Str)) = signs ⟨x.toArray⟩ := by simp [signs]
  rw [e2]
  have e3 : Txt.join (⟨#[]⟩ : Str) (signs ⟨x.toArray⟩) = Str.join ⟨#[]⟩ (signs ⟨x.toArray⟩) := StrLaws.glued_eq_join _ _
  show (Txt.join (⟨#[]⟩ : Str) (signs ⟨x.toArray⟩)).cps.toList = x
  rw [e3, e]
theorem a_signs {n l b most : Nat} {h : PH} (hm : 0 < most) (hm2 : most ≤ 100) (d : Dc l (b + most + 1) h) : Al (fun v h' => (∃ x, v = .str x ∧ oks x ∧ x.length < most) ∧ Dc l b h' ∧ Gr l h h') (call (n + 3) 25 [.ref l, .int most] h) := by
  rw [call_run (d := d__law_signs) rfl rfl]
  refine al_run rfl (al_ss (al_asg (al_con ?_)))
  refine al_ss (al_ret (al_mt rfl (al_con ⟨.sjoin, rfl, al_cons (fun _ e => nomatch e) (al_lc (al_cons (fun _ e => nomatch e) (al_call (f := 16) rfl (al_cons (fun _ e => nomatch e) (al_var (v := .ref l) rfl (al_cons (fun _ e => nomatch e) (al_var (v := .int most) rfl (al_nil ?_))))))))⟩)))
  refine (a_roll (n := n + 1) (b := b + most) d (by omega) (by omega)).imp fun v h1 ⟨⟨r, hr, er⟩, d1, g1⟩ => ?_
  subst er
  have hr' : r < most := by omega
  refine al_nil ⟨_, wk_rng (by omega), ?_⟩
  refine lc_al (N := r) (w := .fix ((List.range r).map fun (i : Nat) => .int i)) (item := fun i => .int i) (C := Sg) (h0 := h1) (l := l) (by omega) d1.lt (fun i hi h' => fix_at (by simp [hi])) (fun h' => by simpa using fix_end (xs := (List.range r).map fun (i : Nat) => PV.int i) (h := h')) (fun i hi b2 h2 d2 g2 => ?_)
    r 0 b (h1 ++ [.lst []]) [] (by omega) get_last rfl (fun v hv => by simp at hv) (d1.app _ |>.le (by omega)) (Gr.app l h1 _) fun h2 ys e2 hy hc d2 g2 => ?_
  · have q3 : 15 ≤ sizeLine := Nat.le_trans (show 15 ≤ 16 by decide) (by decide)
    unfold lcB
    simp only [bindTg]
    refine Al.noer (Al.bind (Al.ok (a := true) (h := h2) (by simp only [evIf]) ?_))
    simp only [if_true]
    refine Al.bind (al_call (f := 17) rfl (al_cons (fun _ e => nomatch e) (al_var (v := .ref l) rfl (al_cons (fun _ e => nomatch e) (Al.ok (a := .ref h2.length) (h := h2 ++ [.lst (sgn.map fun c => PV.str [c])]) (by simp [evE, evEs, Res.bind, pBi, sgn, q3, d__law_signs]) (al_nil ?_))))))
    refine (a_one (n := n) (xs := sgn.map fun c => PV.str [c]) (d2.app _) get_last (Nat.ne_of_gt d2.lt) (by decide) (by decide)).imp fun v h3 ⟨hv, d3, g3⟩ => ?_
    exact Al.ok rfl ⟨⟨v, rfl, sgn_ok hv⟩, d3, (Gr.app l h2 _).trans g3⟩
  · refine al_nil ?_
    obtain ⟨x, rfl, hx⟩ := all_sg hc
    have hxl : x.length = r := by simpa using hy
    refine Al.ok (a := .str x) (h := h2) ?_ ⟨⟨x, rfl, hx, by omega⟩, d2, g1.trans g2⟩
    simp only [pBq, lstAt, e2, strs_sg]
    have hsum : ∀ y : List Nat, ((y.map fun c => [c]).map fun z => z.length).sum = y.length := fun y => by
      induction y with
      | nil => rfl
      | cons c y ih => simp only [List.map_cons, List.sum_cons, ih, List.length_cons, List.length_nil]; omega
    rw [if_pos (by rw [hsum]; simp; omega), join_sg]
end K04
set_option Elab.async false
set_option linter.all false
set_option maxRecDepth 100000
set_option maxHeartbeats 4000000
namespace K04
open PySem PySem.Spec PyProof.Rows L2 Mn
theorem al_forRun {body : PV → PEnv → PH → Res Fl} {w : Wk} {N : Nat} {Inv : Nat → PEnv → PH → Prop} {P : Fl → PH → Prop}
    (hb : ∀ i < N, ∀ ρ h, Inv i ρ h → ∃ x, wkAt h i w = some (some x) ∧ Al (fun f h1 => match f with
      | .nx ρ1 => Inv (i + 1) ρ1 h1
      | .ct ρ1 => Inv (i + 1) ρ1 h1
      | .bk ρ1 => P (.nx ρ1) h1
      | .rt v => P (.rt v) h1) (body x ρ h))
    (he : ∀ ρ h, Inv N ρ h → wkAt h N w = some none ∧ P (.nx ρ) h) :
    ∀ m i ρ h, i + m = N → Inv i ρ h → Al P (forRun body w (m + 1) i ρ h) := fun m => by
  induction m with
  | zero =>
    intro i ρ h hi I
    have : i = N := by omega
    subst this
    obtain ⟨e, p⟩ := he ρ h I
    unfold forRun
    rw [e]
    exact Al.ok rfl p
  | succ m ih =>
    intro i ρ h hi I
    obtain ⟨x, e, q⟩ := hb i (by omega) ρ h I
    unfold forRun
    rw [e]
    refine Al.bind (q.imp fun f h1 z => ?_)
    cases f with
    | nx ρ1 => exact ih (i + 1) ρ1 h1 (by omega) z
    | ct ρ1 => exact ih (i + 1) ρ1 h1 (by omega) z
    | bk ρ1 => exact Al.ok rfl z
    | rt v => exact Al.ok rfl z
section
variable {cl : Nat → List PV → PH → Res PV} {ρ : PEnv} {h : PH}
theorem al_for {t : Tg} {k : Ik} {its : List Ex} {b : List Sm} {w : Wk} {N : Nat} {h1 : PH} {Inv : Nat → PEnv → PH → Prop} {P : Fl → PH → Prop} (hv : evI T cl k its ρ h = .ok (w, N) h1)
    (hb : ∀ i < N, ∀ ρ h, Inv i ρ h → ∃ x, wkAt h i w = some (some x) ∧ Al (fun f h1 => match f with
      | .nx ρ1 => Inv (i + 1) ρ1 h1
      | .ct ρ1 => Inv (i + 1) ρ1 h1
      | .bk ρ1 => P (.nx ρ1) h1
      | .rt v => P (.rt v) h1) (forB T cl 0 t b x ρ h))
    (he : ∀ ρ h, Inv N ρ h → wkAt h N w = some none ∧ P (.nx ρ) h) (h0 : Inv 0 ρ h1) : Al P (exS T cl 0 (.for_ t k its b) ρ h) := by
  rw [exS_for, hv, Res.bind_ok]
  exact al_forRun hb he N 0 ρ h1 (by omega) h0
theorem al_lst {P : PV → PH → Prop} {es : List Ex} (k : Al (fun vs h1 => vs.length ≤ sizeLine ∧ P (.ref h1.length) (h1 ++ [.lst vs])) (evEs T cl es ρ h)) : Al P (evE T cl (.lst es) ρ h) := by
  simp only [evE]
  refine Al.bind (k.imp fun vs h1 ⟨q, z⟩ => ?_)
  rw [if_pos q]
  exact Al.ok rfl z
theorem al_tup {P : PV → PH → Prop} {es : List Ex} (k : Al (fun vs h1 => vs.length ≤ sizeLine ∧ P (.tup vs) h1) (evEs T cl es ρ h)) : Al P (evE T cl (.tup es) ρ h) := by
  simp only [evE]
  refine Al.bind (k.imp fun vs h1 ⟨q, z⟩ => ?_)
  rw [if_pos q]
  exact Al.ok rfl z
theorem al_repl {P : PV → PH → Prop} {o : Ex} {y z : List Nat} (hyz : y ≠ z) (k : Al (fun v h1 => ∃ x : List Nat, v = .str x ∧ x.length + (x.length + 1) * z.length ≤ 16777216 ∧ P (.str (Txt.replace ⟨x.toArray⟩ ⟨y.toArray⟩ ⟨z.toArray⟩).cps.toList) h1) (evE T cl o ρ h)) : Al P (evE T cl (.repl o y z) ρ h) := by
  simp only [evE]
  refine Al.bind (k.imp fun v h1 ⟨x, e, q, p⟩ => ?_)
  subst e
  simp only
  rw [if_pos (by simp [q, hyz])]
  exact Al.ok rfl p
theorem al_nx {P : Fl → PH → Prop} (k : P (.nx ρ) h) : Al P (exSs T cl 0 [] ρ h) := Al.ok (by simp only [exSs]) k
end
theorem swap10L : ∀ x : List Nat, StrLaws.replL [10] [110] x = x.map fun c => if c = 10 then 110 else c
  | [] => StrLaws.replL_nil
  | c :: x => by
    by_cases h : c = 10
    · subst h
      rw [StrLaws.replL_hit (by simp) (by simp)]
      simp [swap10L x]
    · rw [StrLaws.replL_miss (by simpa using h), swap10L x]
      simp [h]
theorem swap10 (x : List Nat) : (Txt.replace ⟨x.toArray⟩ ⟨[10].toArray⟩ ⟨[110].toArray⟩).cps.toList = x.map fun c => if c = 10 then 110 else c := by
  rw [StrLaws.replace_list (by decide)]
  exact swap10L x
theorem swap_ok {x : List Nat} (h : oks x) : okx (x.map fun c => if c = 10 then 110 else c) := fun c hc => by
  obtain ⟨d, hd, rfl⟩ := List.mem_map.mp hc
  have q := h d hd
  unfold okc at q
  show okc _
  unfold okc
  split <;> omega
theorem rep_flat (c : Nat) : ∀ r : Nat, (List.replicate r [c]).flatten = List.replicate r c
  | 0 => rfl
  | r + 1 => by rw [List.replicate_succ, List.flatten_cons, rep_flat c r]; rfl
theorem pEq_ii {h : PH} {a b : Int} : pEq h (.int a) (.int b) = some (decide (a = b)) := pEq_int
theorem text_turn {n : Nat} {l L : Nat} {x : List Nat} {z2 z3 : Option PV} {h : PH} (hx : okx x) (hl : x.length ≤ 200) : forB T (call (n + 5)) 0 (.nm 2) [.asg (.nm 3) (.call 23 [.var 2]), .ite (.or (.cmp .ne (.call 7 [.var 2]) (.var 3)) (.cmp .ne (.call 8 [.var 2]) (.call 22 [.var 3, .con (.int 16)]))) [.ret (.con (.bl false))] []]
    (.str x) [some (.ref l), some (.ref L), z2, z3] h = .ok (.nx [some (.ref l), some (.ref L), some (.str x), some (.int (hsh x))]) (h ++ [.lst (digs (hsh x) 16)]) := by
  have e1 : call (n + 5) 23 [.str x] h = .ok (.int (hsh x)) h := e_lhash (n := n + 4) (h := h)
  have e2 : call (n + 5) 7 [.str x] h = .ok (.int (hsh x)) h := e_hash (n := n + 1) (h := h) hx hl
  have e3 : call (n + 5) 8 [.str x] h = .ok (.int (R 16 (hsh x))) h := e_spot (n := n) (h := h) hx hl
  have e4 : call (n + 5) 22 [.int (hsh x), .int 16] h = .ok (.int (R 16 (hsh x))) (h ++ [.lst (digs (hsh x) 16)]) := e_turned (n := n + 4) (v := hsh x) (b := 16) (h := h) (by decide)
  unfold forB
  simp [runD, runBody, exSs, exS, evE, evEs, evT, evIf, asgTa, bindTg, pBin, pCmp, pBi, pTru, Mn.ob, pIx, Res.bind, callG, T, isTy, fnT, isTys, tyOf, subC, tyB, tyAll, tyNames, Bi.tyn, e1, e2, e3, e4, pEq_ii]
theorem a_texts {n l b : Nat} {h : PH} (d : Dc l (b + 18) h) : Al (fun v h' => v = .bl true ∧ Dc l b h' ∧ Gr l h h') (call (n + 6) 26 [.ref l] h) := by
  rw [call_run (d := d__law_texts_right) rfl rfl]
  have q4 : 4 ≤ sizeLine := Nat.le_trans (show 4 ≤ 16 by decide) (by decide)
  refine al_run rfl (al_ss (al_asg (al_lst (al_cons (fun _ e => nomatch e) (al_call (f := 19) rfl (al_cons (fun _ e => nomatch e) (al_var (v := .ref l) rfl (al_nil ?_))))))))
  refine (a_text (n := n + 1) (b := b + 15) d).imp fun v1 h1 ⟨t1, d1, g1⟩ => ?_
  refine al_cons (fun _ e => nomatch e) (al_call (f := 18) rfl (al_cons (fun _ e => nomatch e) (al_var (v := .ref l) rfl (al_nil ?_))))
  refine (a_key (n := n + 2) (b := b + 14) d1).imp fun v2 h2 ⟨t2, d2, g2⟩ => ?_
  refine al_cons (fun _ e => nomatch e) (al_repl (by decide) (al_call (f := 25) rfl (al_cons (fun _ e => nomatch e) (al_var (v := .ref l) rfl (al_cons (fun _ e => nomatch e) (al_con (al_nil ?_)))))))
  refine (a_signs (n := n + 2) (b := b + 1) (most := 12) (by decide) (by decide) d2).imp fun v3 h3 ⟨⟨x, e3, ox, lx⟩, d3, g3⟩ => ⟨x, e3, by simp; omega, ?_⟩
  rw [swap10]
  refine al_cons (fun _ e => nomatch e) (al_bin (al_con (al_call (f := 16) rfl (al_cons (fun _ e => nomatch e) (al_var (v := .ref l) rfl (al_cons (fun _ e => nomatch e) (al_con (al_nil ?_))))))))
  refine (a_roll (n := n + 4) (b := b) d3 (by decide) (by decide)).imp fun v4 h4 ⟨⟨r, hr, er⟩, d4, g4⟩ => ?_
  subst er
  have hr' : r < 201 := by omega
  refine Al.ok (a := .str (List.replicate r 126)) (h := h4) ?_ (al_nil ⟨q4, ?_⟩)
  · have c1 : (-(2 ^ 63) : Int) ≤ r := by omega
    have c2 : (r : Int) < 2 ^ 63 := by omega
    have c3 : [126].length * r ≤ sizeLine := Nat.le_trans (show [126].length * r ≤ 300 by simp; omega) (by decide)
    simp only [pBin, c1, c2, c3, decide_true, Bool.and_self, if_true, Int.toNat_natCast, rep_flat]
  have t3 : TX (.str (x.map fun c => if c = 10 then 110 else c)) := ⟨_, rfl, swap_ok ox, by simp; omega⟩
  have t4 : TX (.str (List.replicate r 126)) := ⟨_, rfl, fun c hc => by rw [List.eq_of_mem_replicate hc]; exact ⟨by decide, by decide⟩, by simp; omega⟩
  generalize (PV.str (x.map fun c => if c = 10 then 110 else c)) = w3 at t3 ⊢
  generalize (PV.str (List.replicate r 126)) = w4 at t4 ⊢
  have gg : Gr l h h4 := g1.trans (g2.trans (g3.trans g4))
  have all4 : ∀ v ∈ [v1, v2, w3, w4], TX v := by
    intro v hv
    simp only [List.mem_cons, List.not_mem_nil, or_false] at hv
    rcases hv with rfl | rfl | rfl | rfl <;> assumption
  generalize hxs : [v1, v2, w3, w4] = xs at all4 ⊢
  have hlen : xs.length = 4 := by rw [← hxs]; rfl
  have hI : evI T (call (n + 5)) .seq [.var 1] [some (.ref l), some (.ref h4.length), none, none] (h4 ++ [.lst xs]) = .ok (.lst h4.length, 4) (h4 ++ [.lst xs]) := by
    unfold evI
    simp [runD, runBody, exSs, exS, evE, evEs, evT, evIf, asgTa, bindTg, pBin, pCmp, pBi, pTru, Mn.ob, pIx, Res.bind, callG, T, isTy, fnT, isTys, tyOf, subC, tyB, tyAll, tyNames, Bi.tyn, wkOf, lstAt, hlen]
  refine al_ss (al_for (ρ := [some (.ref l), some (.ref h4.length), none, none]) (N := 4) (w := .lst h4.length) (h1 := h4 ++ [PO.lst xs]) (Inv := fun i ρ h' => (∃ z2 z3, ρ = [some (.ref l), some (.ref h4.length), z2, z3]) ∧ h'[h4.length]? = some (.lst xs) ∧ Dc l b h' ∧ Gr l h h') hI ?_ ?_ ?_)
  · rintro i hi ρ h' ⟨⟨z2, z3, rfl⟩, e', d', g'⟩
    have hi' : i < xs.length := by omega
    obtain ⟨x, ex, ox, lx⟩ := all4 xs[i] (List.getElem_mem hi')
    refine ⟨.str x, by simp only [wkAt, lstAt, e', Option.map_some, List.getElem?_eq_getElem hi', ex], ?_⟩
    refine Al.ok (text_turn (n := n) (l := l) (L := h4.length) (x := x) (z2 := z2) (z3 := z3) (h := h') ox lx) ?_
    refine ⟨⟨_, _, rfl⟩, ?_, d'.app _, g'.trans (Gr.app l h' _)⟩
    rw [List.getElem?_append_left (List.getElem?_eq_some_iff.mp e').1]
    exact e'
  · rintro ρ h' ⟨⟨z2, z3, rfl⟩, e', d', g'⟩
    refine ⟨by simp only [wkAt, lstAt, e', Option.map_some]; rw [List.getElem?_eq_none (by omega)], ?_⟩
    refine al_ss (al_ret (al_con ?_))
    exact ⟨rfl, d', g'⟩
  · exact ⟨⟨_, _, rfl⟩, get_last, d4.app _, gg.trans (Gr.app l h4 _)⟩
end K04
set_option Elab.async false
set_option linter.all false
set_option maxRecDepth 100000
set_option maxHeartbeats 4000000
namespace K04
open PySem PySem.Spec PyProof.Rows L2 Mn
section
variable {cl : Nat → List PV → PH → Res PV} {ρ : PEnv} {h : PH}
theorem al_asgt {P : Fl → PH → Prop} {is : List Nat} {e : Ex} (k : Al (fun v h1 => ∃ ρ1, bindTg (.tp is) v ρ = some ρ1 ∧ P (.nx ρ1) h1) (evE T cl e ρ h)) : Al P (exS T cl 0 (.asg (.tp is) e) ρ h) := by
  simp only [exS, asgTa]
  refine Al.bind (k.imp fun v h1 ⟨ρ1, e1, q⟩ => ?_)
  rw [e1]
  exact Al.ok rfl q
theorem al_no {P : Fl → PH → Prop} {c : Ex} {a r : List Sm} {h1 : PH} (e : evE T cl c ρ h = .ok (.bl false) h1) (k : Al P (exSs T cl 0 r ρ h1)) : Al P (exSs T cl 0 (.ite c a [] :: r) ρ h) :=
  al_ss (al_ite (al_evT (Al.ok e ⟨false, rfl, by simpa using al_nx k⟩)))
theorem al_yes {P : Fl → PH → Prop} {c : Ex} {a r : List Sm} {h1 : PH} (e : evE T cl c ρ h = .ok (.bl true) h1) (k : Al (fun f h2 => match f with
    | .nx ρ1 => Al P (exSs T cl 0 r ρ1 h2)
    | f => P f h2) (exSs T cl 0 a ρ h1)) : Al P (exSs T cl 0 (.ite c a [] :: r) ρ h) :=
  al_ss (al_ite (al_evT (Al.ok e ⟨true, rfl, by rw [if_pos rfl]; exact k⟩)))
end
theorem pEq_bb {h : PH} {a b : Bool} : pEq h (.bl a) (.bl b) = some (a == b) := by
  show some (PyData.eqv (.bool a) (.bool b)) = _
  unfold PyData.eqv
  rfl
theorem datum_str {h : PH} {x : List Nat} (hx : PyData.strOk ⟨x.toArray⟩ = true) : datum h (.str x) = some (.str ⟨x.toArray⟩) := by
  unfold datum
  simp only [toD]
  rw [if_pos]
  unfold SeqAt.shaped
  simp [PyData.canLay0, hx, PyData.depth]
theorem pEq_ss {h : PH} {x y : List Nat} (hx : PyData.strOk ⟨x.toArray⟩ = true) (hy : PyData.strOk ⟨y.toArray⟩ = true) : pEq h (.str x) (.str y) = some (decide (x = y)) := by
  unfold pEq
  rw [datum_str hx, datum_str hy]
  simp only [PyData.eqv]
  congr 1
  by_cases e : x = y
  · subst e; simp
  · simp [e]
theorem deref_ints {h : PH} {m : Nat} {a b c : Int} (e : h[m]? = some (.lst [.int a, .int b, .int c])) : datum h (.ref m) = some (.list [.int a, .int b, .int c]) := by
  unfold datum
  simp only [toD, deref, e, toDs, Option.map_some]
  rfl
theorem pEq_l3 {h : PH} {m k : Nat} {a b c : Int} (e : h[m]? = some (.lst [.int a, .int b, .int c])) (e2 : h[k]? = some (.lst [.int a, .int b, .int c])) : pEq h (.ref m) (.ref k) = some true := by
  unfold pEq
  rw [deref_ints e, deref_ints e2]
  simp [PyData.eqv, PyData.eqvAll]
theorem chn_le {cl : Nat → List PV → PH → Res PV} {ρ : PEnv} {h : PH} {i j k : Nat} {a b c : Int} (ha : ρ[i]? = some (some (.int a))) (hb : ρ[j]? = some (some (.int b))) (hc : ρ[k]? = some (some (.int c))) : evE T cl (.chn .le .le (.var i) (.var j) (.var k)) ρ h = .ok (.bl (decide (a ≤ b ∧ b ≤ c))) h := by
  simp only [evE, ha, hb, hc, Res.bind_ok, pCmp]
  by_cases q : a ≤ b
  · simp [q]
  · simp [q]
theorem pEq_refl_int {h : PH} {a b : Int} (e : a = b) : pEq h (.int a) (.int b) = some true := by rw [pEq_int, e]; simp
theorem bits_one {n l b k : Nat} {z4 z5 z6 z7 z8 z9 z10 : Option PV} {h : PH} (hb : b ≤ 64) (hk : k < 2 ^ b) :
    evE T (call (n + 5)) (.or (.cmp .ne (.call 12 [.var 2, .var 1]) (.var 3)) (.cmp .ne (.call 12 [.var 3, .var 1]) (.var 2))) [some (.ref l), some (.int b), some (.int k), some (.int (R b k)), z4, z5, z6, z7, z8, z9, z10] h = .ok (.bl false) h := by
  have e1 : call (n + 5) 12 [.int k, .int b] h = .ok (.int (R b k)) h := e_rev (n := n + 1) (v := k) (b := b) (h := h) hb hk
  have e2 : call (n + 5) 12 [.int (R b k), .int b] h = .ok (.int (R b (R b k))) h := e_rev (n := n + 1) (v := R b k) (b := b) (h := h) hb (R_lt b k)
  rw [R_R, Nat.mod_eq_of_lt hk] at e2
  simp [runD, runBody, exSs, exS, evE, evEs, evT, evIf, asgTa, bindTg, pBin, pCmp, pBi, pTru, Mn.ob, pIx, Res.bind, callG, T, isTy, fnT, isTys, tyOf, subC, tyB, tyAll, tyNames, Bi.tyn, e1, e2, pEq_ii]
theorem bits_two' {cl : Nat → List PV → PH → Res PV} {l : Nat} {b k u r w fi la m : Int} {z2 z3 z5 z6 : Option PV} {h h1 : PH} (e1 : cl 21 [.int (16 - b)] h = .ok (.int w) h) (e2 : cl 22 [.int k, .int b] h = .ok (.int r) h1) (e3 : cl 21 [.int (16 - b)] h1 = .ok (.int w) h1) (hb : big r w = true) (c1 : la - fi + 1 = w) (c2 : fi = r * w) :
    evE T cl (.or (.cmp .ne (.bin .add (.bin .sub (.var 10) (.var 9)) (.con (.int 1))) (.call 21 [.bin .sub (.con (.int 16)) (.var 1)])) (.cmp .ne (.var 9) (.bin .mul (.call 22 [.var 7, .var 1]) (.call 21 [.bin .sub (.con (.int 16)) (.var 1)])))) [some (.ref l), some (.int b), z2, z3, some (.int m), z5, z6, some (.int k), some (.int u), some (.int fi), some (.int la)] h = .ok (.bl false) h1 := by
  subst c2
  simp [runD, runBody, exSs, exS, evE, evEs, evT, evIf, asgTa, bindTg, pBin, pCmp, pBi, pTru, Mn.ob, pIx, Res.bind, callG, T, isTy, fnT, isTys, tyOf, subC, tyB, tyAll, tyNames, Bi.tyn, e1, e2, e3, hb, c1, pEq_ii]
theorem bits_three {cl : Nat → List PV → PH → Res PV} {l : Nat} {b k u m fi la s : Int} {z2 z3 z6 : Option PV} {h : PH} (hm : 0 < m) (e : (fi ≤ s ∧ s ≤ la) ↔ u % m = k) :
    evE T cl (.cmp .ne (.chn .le .le (.var 9) (.var 5) (.var 10)) (.cmp .eq (.bin .mod (.bi .int [.var 8]) (.var 4)) (.var 7))) [some (.ref l), some (.int b), z2, z3, some (.int m), some (.int s), z6, some (.int k), some (.int u), some (.int fi), some (.int la)] h = .ok (.bl false) h := by
  have q := chn_le (cl := cl) (ρ := [some (.ref l), some (.int b), z2, z3, some (.int m), some (.int s), z6, some (.int k), some (.int u), some (.int fi), some (.int la)]) (h := h) (i := 9) (j := 5) (k := 10) rfl rfl rfl
  have q2 : evE T cl (.cmp .eq (.bin .mod (.bi .int [.var 8]) (.var 4)) (.var 7)) [some (.ref l), some (.int b), z2, z3, some (.int m), some (.int s), z6, some (.int k), some (.int u), some (.int fi), some (.int la)] h = .ok (.bl (decide (u % m = k))) h := by
    simp [runD, runBody, exSs, exS, evE, evEs, evT, evIf, asgTa, bindTg, pBin, pCmp, pBi, pTru, Mn.ob, pIx, Res.bind, callG, T, isTy, fnT, isTys, tyOf, subC, tyB, tyAll, tyNames, Bi.tyn, hm, pEq_ii]
  have e2 : decide (fi ≤ s ∧ s ≤ la) = decide (u % m = k) := decide_eq_decide.mpr e
  unfold evE
  rw [q, Res.bind_ok, q2, Res.bind_ok, e2]
  simp only [pCmp, pEq_bb, ob, Option.map_some, beq_self_eq_true, Bool.not_true]
theorem nx_int {r : Nat} {k : Nat} (h : (r : Int) < ((k : Nat) : Int)) : r < k := by omega
theorem bits_four {cl : Nat → List PV → PH → Res PV} {l H : Nat} {b k u m fi la f0 l0 f1 l1 : Int} {z2 z3 z5 : Option PV} {h : PH} (e : h[H]? = some (.lst [.tup [.int f0, .int l0], .tup [.int f1, .int l1]])) (c0 : f0 = fi) (c1 : l0 + 1 = f1) (c2 : l1 = la) :
    ∃ g, evE T cl (.cmp .eq (.lst [.ix (.ix (.var 6) (.con (.int 0))) (.con (.int 0)), .bin .add (.ix (.ix (.var 6) (.con (.int 0))) (.con (.int 1))) (.con (.int 1)), .ix (.ix (.var 6) (.con (.int 1))) (.con (.int 1))]) (.lst [.var 9, .ix (.ix (.var 6) (.con (.int 1))) (.con (.int 0)), .var 10]))
      [some (.ref l), some (.int b), z2, z3, some (.int m), z5, some (.ref H), some (.int k), some (.int u), some (.int fi), some (.int la)] h = .ok (.bl true) (h ++ g) := by
  subst c0 c1 c2
  have q3 : 3 ≤ sizeLine := Nat.le_trans (show 3 ≤ 16 by decide) (by decide)
  have e' : (h ++ [PO.lst [.int f0, .int (l0 + 1), .int l1]])[H]? = some (.lst [.tup [.int f0, .int l0], .tup [.int (l0 + 1 - 1 - 0), .int l1]]) ∨ True := .inr trivial
  have hH : H < h.length := (List.getElem?_eq_some_iff.mp e).1
  have e2 : ∀ o : PO, (h ++ [o])[H]? = some (.lst [.tup [.int f0, .int l0], .tup [.int (l0 + 1), .int l1]]) := fun o => by rw [List.getElem?_append_left hH]; exact e
  refine ⟨[.lst [.int f0, .int (l0 + 1), .int l1], .lst [.int f0, .int (l0 + 1), .int l1]], ?_⟩
  have p := pEq_l3 (h := h ++ [.lst [.int f0, .int (l0 + 1), .int l1], .lst [.int f0, .int (l0 + 1), .int l1]]) (m := h.length) (k := h.length + 1) (a := f0) (b := l0 + 1) (c := l1) (by simp) (by simp)
  simp [evE, evEs, Res.bind, pIx, e, e2, atI, ixN, q3, pBin, pCmp, ob, p]
end K04
set_option Elab.async false
set_option linter.all false
set_option maxRecDepth 100000
set_option maxHeartbeats 4000000
namespace K04
open PySem PySem.Spec PyProof.Rows L2 Mn
theorem min40 (r : Nat) : ∃ k : Nat, (if (40 : Int) < (r : Int) then (40 : Int) else (r : Int)) = (k : Int) ∧ k ≤ 40 ∧ k ≤ r := by
  by_cases q : (40 : Int) < (r : Int)
  · exact ⟨40, by rw [if_pos q]; rfl, by omega, by omega⟩
  · exact ⟨r, by rw [if_neg q], by omega, by omega⟩
theorem pow_nat (k : Nat) : ((2 ^ k : Nat) : Int) = 2 ^ k := by push_cast; rfl
theorem pow_lt62 {k : Nat} (h : k ≤ 40) : ((2 ^ k : Nat) : Int) < 2 ^ 62 := by
  have : 2 ^ k ≤ 2 ^ 40 := Nat.pow_le_pow_right (by decide) h
  have h2 : (2 : Nat) ^ 40 < 2 ^ 62 := by decide
  exact_mod_cast Nat.lt_of_le_of_lt this h2
theorem bits_tail {cl : Nat → List PV → PH → Res PV} {l b : Nat} {c k u r w m s F la : Int} {z2 z3 : Option PV} {h6 : PH} {dg dg2 dg3 : List PV} (d6 : Dc l b h6)
    (eb : cl 13 [.int k, .int c] h6 = .ok (.tup [.int F, .int la]) h6) (e17 : ∀ hh, cl 21 [.int (16 - c)] hh = .ok (.int w) hh) (e18 : cl 22 [.int k, .int c] h6 = .ok (.int r) (h6 ++ [.lst dg]))
    (e16 : ∀ hh, cl 22 [.int u, .int 16] hh = .ok (.int s) (hh ++ [.lst dg2])) (hb : big r w = true) (c1 : la - F + 1 = w) (c2 : F = r * w) (hm : 0 < m) (hsp : (F ≤ s ∧ s ≤ la) ↔ u % m = k)
    (h16 : c = 16 → F = la ∧ la = r ∧ ∀ hh, cl 22 [.int k, .int 16] hh = .ok (.int r) (hh ++ [.lst dg3]))
    (hne : c ≠ 16 → ∃ l0 f1 : Int, l0 + 1 = f1 ∧ ∀ hh, cl 13 [.int k, .int (c + 1)] hh = .ok (.tup [.int F, .int l0]) hh ∧ cl 13 [.int (k + m), .int (c + 1)] hh = .ok (.tup [.int f1, .int la]) hh) :
    Al (fun f h' => f = .rt (.bl true) ∧ Dc l b h' ∧ Gr l h6 h') (exSs T cl 0 (b__law_bits_right.drop 7) [some (.ref l), some (.int c), z2, z3, some (.int m), none, none, some (.int k), some (.int u), none, none] h6) := by
  unfold b__law_bits_right
  refine al_ss (al_asgt (Al.ok (a := .tup [.int F, .int la]) (h := h6) (by simp [runD, runBody, exSs, exS, evE, evEs, evT, evIf, asgTa, bindTg, pBin, pCmp, pBi, pTru, Mn.ob, pIx, Res.bind, callG, T, isTy, fnT, isTys, tyOf, subC, tyB, tyAll, tyNames, Bi.tyn, eb]) ⟨_, rfl, ?_⟩))
  refine al_no (bits_two' (l := l) (b := c) (k := k) (u := u) (r := r) (w := w) (fi := F) (la := la) (m := m) (e17 h6) e18 (e17 _) hb c1 c2) ?_
  refine al_ss (al_asg (Al.ok (a := .int s) (h := h6 ++ [.lst dg] ++ [.lst dg2]) (by simp [runD, runBody, exSs, exS, evE, evEs, evT, evIf, asgTa, bindTg, pBin, pCmp, pBi, pTru, Mn.ob, pIx, Res.bind, callG, T, isTy, fnT, isTys, tyOf, subC, tyB, tyAll, tyNames, Bi.tyn, e16]) ?_))
  have d8 : Dc l b (h6 ++ [.lst dg] ++ [.lst dg2]) := (d6.app _).app _
  have g8 : Gr l h6 (h6 ++ [.lst dg] ++ [.lst dg2]) := (Gr.app l h6 _).trans (Gr.app l _ _)
  generalize h6 ++ [.lst dg] ++ [.lst dg2] = h8 at d8 g8 ⊢
  refine al_no (bits_three (l := l) (b := c) (k := k) (u := u) (fi := F) (la := la) (s := s) hm hsp) ?_
  by_cases q : c = 16
  · obtain ⟨p1, p2, p3⟩ := h16 q
    subst q
    refine al_yes (h1 := h8) (by simp [runD, runBody, exSs, exS, evE, evEs, evT, evIf, asgTa, bindTg, pBin, pCmp, pBi, pTru, Mn.ob, pIx, Res.bind, callG, T, isTy, fnT, isTys, tyOf, subC, tyB, tyAll, tyNames, Bi.tyn, pEq_ii]) (al_ss (al_ret (Al.ok (a := .bl true) (h := h8 ++ [.lst dg3]) ?_ ⟨rfl, d8.app _, g8.trans (Gr.app l h8 _)⟩)))
    subst p1
    subst p2
    simp [runD, runBody, exSs, exS, evE, evEs, evT, evIf, asgTa, bindTg, pBin, pCmp, pBi, pTru, Mn.ob, pIx, Res.bind, callG, T, isTy, fnT, isTys, tyOf, subC, tyB, tyAll, tyNames, Bi.tyn, p3, pEq_ii]
  · obtain ⟨l0, f1, p1, p2⟩ := hne q
    refine al_no (h1 := h8) (by simp [runD, runBody, exSs, exS, evE, evEs, evT, evIf, asgTa, bindTg, pBin, pCmp, pBi, pTru, Mn.ob, pIx, Res.bind, callG, T, isTy, fnT, isTys, tyOf, subC, tyB, tyAll, tyNames, Bi.tyn, pEq_ii, q]) ?_
    have q2 : 2 ≤ sizeLine := Nat.le_trans (show 2 ≤ 16 by decide) (by decide)
    refine al_ss (al_asg (Al.ok (a := .ref h8.length) (h := h8 ++ [.lst [.tup [.int F, .int l0], .tup [.int f1, .int la]]]) (by simp [runD, runBody, exSs, exS, evE, evEs, evT, evIf, asgTa, bindTg, pBin, pCmp, pBi, pTru, Mn.ob, pIx, Res.bind, callG, T, isTy, fnT, isTys, tyOf, subC, tyB, tyAll, tyNames, Bi.tyn, (p2 h8).1, (p2 h8).2, q2]) ?_))
    obtain ⟨g, e⟩ := bits_four (cl := cl) (l := l) (H := h8.length) (b := c) (k := k) (u := u) (m := m) (fi := F) (la := la) (f0 := F) (l0 := l0) (f1 := f1) (l1 := la) (z2 := z2) (z3 := z3) (z5 := some (.int s)) (h := h8 ++ [.lst [.tup [.int F, .int l0], .tup [.int f1, .int la]]]) (by simp) rfl p1 rfl
    refine al_ss (al_ret (Al.ok e ⟨rfl, (d8.app _).app _, (g8.trans (Gr.app l h8 _)).trans (Gr.app l _ _)⟩))
end K04
set_option Elab.async false
set_option linter.all false
set_option maxRecDepth 100000
set_option maxHeartbeats 4000000
namespace K04
open PySem PySem.Spec PyProof.Rows L2 Mn
theorem pw_half {c : Nat} (h : c < 16) : 2 ^ (16 - c) = 2 * 2 ^ (16 - (c + 1)) := by
  have e : 16 - c = 16 - (c + 1) + 1 := by omega
  rw [e, Nat.pow_succ']
theorem halves {n c k : Nat} {hh : PH} (hc : c < 16) (hk : k < 2 ^ c) :
    call (n + 5) 13 [.int k, .int ((c : Int) + 1)] hh = .ok (.tup [.int (R c k * 2 ^ (16 - c) : Nat), .int (R c k * 2 ^ (16 - c) + 2 ^ (16 - (c + 1)) - 1 : Nat)]) hh ∧
    call (n + 5) 13 [.int ((k : Int) + ((2 ^ c : Nat) : Int)), .int ((c : Int) + 1)] hh = .ok (.tup [.int (R c k * 2 ^ (16 - c) + 2 ^ (16 - (c + 1)) : Nat), .int ((R c k * 2 ^ (16 - c) + 2 ^ (16 - c) - 1 : Nat))]) hh := by
  have x1 := e_bucket (n := n) (k := k) (b := c + 1) (h := hh) (by omega) (by rw [Nat.pow_succ]; omega)
  have x2 := e_bucket (n := n) (k := k + 2 ^ c) (b := c + 1) (h := hh) (by omega) (by rw [Nat.pow_succ]; omega)
  rw [R_half0 hk] at x1
  rw [R_half1 hk] at x2
  rw [pw_half hc]
  have i1 : ((c + 1 : Nat) : Int) = (c : Int) + 1 := by omega
  have i2 : ((k + 2 ^ c : Nat) : Int) = (k : Int) + ((2 ^ c : Nat) : Int) := by omega
  rw [i1] at x1 x2
  rw [i2] at x2
  revert x1 x2
  generalize 2 ^ (16 - (c + 1)) = w2
  generalize R c k = r
  generalize ((2 ^ c : Nat) : Int) = m
  intro x1 x2
  have f1 : r * 2 * w2 = r * (2 * w2) := Nat.mul_assoc ..
  have f2 : (r * 2 + 1) * w2 = r * (2 * w2) + w2 := by rw [Nat.add_mul, f1, Nat.one_mul]
  rw [f1] at x1
  rw [f2] at x2
  have f4 : r * (2 * w2) + w2 + w2 - 1 = r * (2 * w2) + 2 * w2 - 1 := by omega
  rw [f4] at x2
  exact ⟨x1, x2⟩
theorem a_bits {n l b : Nat} {h : PH} (d : Dc l (b + 5) h) : Al (fun v h' => v = .bl true ∧ Dc l b h' ∧ Gr l h h') (call (n + 6) 27 [.ref l] h) := by
  rw [call_run (d := d__law_bits_right) rfl rfl]
  refine al_run rfl ?_
  show Al _ (exSs T (call (n + 5)) 0 b__law_bits_right [some (.ref l), none, none, none, none, none, none, none, none, none, none] h)
  unfold b__law_bits_right
  repeat (first | (with_reducible show Al _ (evEs _ _ (_ :: _) _ _)); refine al_cons (fun _ e => nomatch e) ?_ | (with_reducible show Al _ (evEs _ _ [] _ _)); refine al_nil ?_ | (with_reducible show Al _ (evE _ _ (.var _) _ _)); refine al_var rfl ?_ | (with_reducible show Al _ (evE _ _ (.con _) _ _)); refine al_con ?_ | (with_reducible show Al _ (evE _ _ (.call _ _) _ _)); refine al_call rfl ?_ | (with_reducible show Al _ (evE _ _ (.bin _ _ _) _ _)); refine al_bin ?_ | (with_reducible show Al _ (evE _ _ (.cmp _ _ _) _ _)); refine al_cmp ?_ | (with_reducible show Al _ (evE _ _ (.bi _ _) _ _)); refine al_bi ?_ | (with_reducible show Al _ (evE _ _ (.tup _) _ _)); refine al_tup ?_ | (with_reducible show Al _ (evE _ _ (.lst _) _ _)); refine al_lst ?_ | (with_reducible show Al _ (exS _ _ _ (.ret _) _ _)); refine al_ret ?_ | (with_reducible show Al _ (exS _ _ _ (.asg (.nm _) _) _ _)); refine al_asg ?_ | (with_reducible show Al _ (exS _ _ _ (.asg (.tp _) _) _ _)); refine al_asgt ?_ | (with_reducible show Al _ (exSs _ _ _ (.asg _ _ :: _) _ _)); refine al_ss ?_ | (with_reducible show Al _ (exSs _ _ _ (.ret _ :: _) _ _)); refine al_ss ?_)
  refine (a_roll (n := n + 4) (b := b + 4) d (by decide) (by decide)).imp fun v h1 ⟨⟨r1, hr1, er⟩, d1, g1⟩ => ?_
  subst er
  have hr1' : r1 < 65 := by omega
  obtain ⟨k, hk, k40, kr⟩ := min40 r1
  repeat (first | (with_reducible show Al _ (evEs _ _ (_ :: _) _ _)); refine al_cons (fun _ e => nomatch e) ?_ | (with_reducible show Al _ (evEs _ _ [] _ _)); refine al_nil ?_ | (with_reducible show Al _ (evE _ _ (.var _) _ _)); refine al_var rfl ?_ | (with_reducible show Al _ (evE _ _ (.con _) _ _)); refine al_con ?_ | (with_reducible show Al _ (evE _ _ (.call _ _) _ _)); refine al_call rfl ?_ | (with_reducible show Al _ (evE _ _ (.bin _ _ _) _ _)); refine al_bin ?_ | (with_reducible show Al _ (evE _ _ (.cmp _ _ _) _ _)); refine al_cmp ?_ | (with_reducible show Al _ (evE _ _ (.bi _ _) _ _)); refine al_bi ?_ | (with_reducible show Al _ (evE _ _ (.tup _) _ _)); refine al_tup ?_ | (with_reducible show Al _ (evE _ _ (.lst _) _ _)); refine al_lst ?_ | (with_reducible show Al _ (exS _ _ _ (.ret _) _ _)); refine al_ret ?_ | (with_reducible show Al _ (exS _ _ _ (.asg (.nm _) _) _ _)); refine al_asg ?_ | (with_reducible show Al _ (exS _ _ _ (.asg (.tp _) _) _ _)); refine al_asgt ?_ | (with_reducible show Al _ (exSs _ _ _ (.asg _ _ :: _) _ _)); refine al_ss ?_ | (with_reducible show Al _ (exSs _ _ _ (.ret _ :: _) _ _)); refine al_ss ?_)
  refine Al.ok (a := .int k) (h := h1) (by simp only [pBi, hk]) ?_
  repeat (first | (with_reducible show Al _ (evEs _ _ (_ :: _) _ _)); refine al_cons (fun _ e => nomatch e) ?_ | (with_reducible show Al _ (evEs _ _ [] _ _)); refine al_nil ?_ | (with_reducible show Al _ (evE _ _ (.var _) _ _)); refine al_var rfl ?_ | (with_reducible show Al _ (evE _ _ (.con _) _ _)); refine al_con ?_ | (with_reducible show Al _ (evE _ _ (.call _ _) _ _)); refine al_call rfl ?_ | (with_reducible show Al _ (evE _ _ (.bin _ _ _) _ _)); refine al_bin ?_ | (with_reducible show Al _ (evE _ _ (.cmp _ _ _) _ _)); refine al_cmp ?_ | (with_reducible show Al _ (evE _ _ (.bi _ _) _ _)); refine al_bi ?_ | (with_reducible show Al _ (evE _ _ (.tup _) _ _)); refine al_tup ?_ | (with_reducible show Al _ (evE _ _ (.lst _) _ _)); refine al_lst ?_ | (with_reducible show Al _ (exS _ _ _ (.ret _) _ _)); refine al_ret ?_ | (with_reducible show Al _ (exS _ _ _ (.asg (.nm _) _) _ _)); refine al_asg ?_ | (with_reducible show Al _ (exS _ _ _ (.asg (.tp _) _) _ _)); refine al_asgt ?_ | (with_reducible show Al _ (exSs _ _ _ (.asg _ _ :: _) _ _)); refine al_ss ?_ | (with_reducible show Al _ (exSs _ _ _ (.ret _ :: _) _ _)); refine al_ss ?_)
  refine Al.ok (e_power (n := n + 4) (b := k) (h := h1) (by omega)) ?_
  repeat (first | (with_reducible show Al _ (evEs _ _ (_ :: _) _ _)); refine al_cons (fun _ e => nomatch e) ?_ | (with_reducible show Al _ (evEs _ _ [] _ _)); refine al_nil ?_ | (with_reducible show Al _ (evE _ _ (.var _) _ _)); refine al_var rfl ?_ | (with_reducible show Al _ (evE _ _ (.con _) _ _)); refine al_con ?_ | (with_reducible show Al _ (evE _ _ (.call _ _) _ _)); refine al_call rfl ?_ | (with_reducible show Al _ (evE _ _ (.bin _ _ _) _ _)); refine al_bin ?_ | (with_reducible show Al _ (evE _ _ (.cmp _ _ _) _ _)); refine al_cmp ?_ | (with_reducible show Al _ (evE _ _ (.bi _ _) _ _)); refine al_bi ?_ | (with_reducible show Al _ (evE _ _ (.tup _) _ _)); refine al_tup ?_ | (with_reducible show Al _ (evE _ _ (.lst _) _ _)); refine al_lst ?_ | (with_reducible show Al _ (exS _ _ _ (.ret _) _ _)); refine al_ret ?_ | (with_reducible show Al _ (exS _ _ _ (.asg (.nm _) _) _ _)); refine al_asg ?_ | (with_reducible show Al _ (exS _ _ _ (.asg (.tp _) _) _ _)); refine al_asgt ?_ | (with_reducible show Al _ (exSs _ _ _ (.asg _ _ :: _) _ _)); refine al_ss ?_ | (with_reducible show Al _ (exSs _ _ _ (.ret _ :: _) _ _)); refine al_ss ?_)
  refine (a_roll (n := n + 4) (b := b + 3) (k := ((2 ^ k : Nat) : Int)) d1 (by rw [pow_nat]; exact Int.pow_pos (by decide)) (pow_lt62 k40)).imp fun v h2 ⟨⟨r2, hr2, er⟩, d2, g2⟩ => ?_
  subst er
  have hr2' : r2 < 2 ^ r1 := Nat.lt_of_lt_of_le (nx_int hr2) (Nat.pow_le_pow_right (by decide) kr)
  have t1 : call (n + 5) 22 [.int r2, .int r1] h2 = .ok (.int (R r1 r2)) (h2 ++ [.lst (digs r2 r1)]) := e_turned (n := n + 4) (v := r2) (b := r1) (h := h2) (by omega)
  repeat (first | (with_reducible show Al _ (evEs _ _ (_ :: _) _ _)); refine al_cons (fun _ e => nomatch e) ?_ | (with_reducible show Al _ (evEs _ _ [] _ _)); refine al_nil ?_ | (with_reducible show Al _ (evE _ _ (.var _) _ _)); refine al_var rfl ?_ | (with_reducible show Al _ (evE _ _ (.con _) _ _)); refine al_con ?_ | (with_reducible show Al _ (evE _ _ (.call _ _) _ _)); refine al_call rfl ?_ | (with_reducible show Al _ (evE _ _ (.bin _ _ _) _ _)); refine al_bin ?_ | (with_reducible show Al _ (evE _ _ (.cmp _ _ _) _ _)); refine al_cmp ?_ | (with_reducible show Al _ (evE _ _ (.bi _ _) _ _)); refine al_bi ?_ | (with_reducible show Al _ (evE _ _ (.tup _) _ _)); refine al_tup ?_ | (with_reducible show Al _ (evE _ _ (.lst _) _ _)); refine al_lst ?_ | (with_reducible show Al _ (exS _ _ _ (.ret _) _ _)); refine al_ret ?_ | (with_reducible show Al _ (exS _ _ _ (.asg (.nm _) _) _ _)); refine al_asg ?_ | (with_reducible show Al _ (exS _ _ _ (.asg (.tp _) _) _ _)); refine al_asgt ?_ | (with_reducible show Al _ (exSs _ _ _ (.asg _ _ :: _) _ _)); refine al_ss ?_ | (with_reducible show Al _ (exSs _ _ _ (.ret _ :: _) _ _)); refine al_ss ?_)
  refine Al.ok t1 ?_
  refine al_no (bits_one (n := n) (l := l) (b := r1) (k := r2) (by omega) hr2') ?_
  have d3 : Dc l (b + 3) (h2 ++ [.lst (digs r2 r1)]) := d2.app _
  have g3 : Gr l h (h2 ++ [.lst (digs r2 r1)]) := g1.trans (g2.trans (Gr.app l h2 _))
  generalize h2 ++ [.lst (digs r2 r1)] = h3 at d3 g3 ⊢
  generalize R r1 r2 = q3
  repeat (first | (with_reducible show Al _ (evEs _ _ (_ :: _) _ _)); refine al_cons (fun _ e => nomatch e) ?_ | (with_reducible show Al _ (evEs _ _ [] _ _)); refine al_nil ?_ | (with_reducible show Al _ (evE _ _ (.var _) _ _)); refine al_var rfl ?_ | (with_reducible show Al _ (evE _ _ (.con _) _ _)); refine al_con ?_ | (with_reducible show Al _ (evE _ _ (.call _ _) _ _)); refine al_call rfl ?_ | (with_reducible show Al _ (evE _ _ (.bin _ _ _) _ _)); refine al_bin ?_ | (with_reducible show Al _ (evE _ _ (.cmp _ _ _) _ _)); refine al_cmp ?_ | (with_reducible show Al _ (evE _ _ (.bi _ _) _ _)); refine al_bi ?_ | (with_reducible show Al _ (evE _ _ (.tup _) _ _)); refine al_tup ?_ | (with_reducible show Al _ (evE _ _ (.lst _) _ _)); refine al_lst ?_ | (with_reducible show Al _ (exS _ _ _ (.ret _) _ _)); refine al_ret ?_ | (with_reducible show Al _ (exS _ _ _ (.asg (.nm _) _) _ _)); refine al_asg ?_ | (with_reducible show Al _ (exS _ _ _ (.asg (.tp _) _) _ _)); refine al_asgt ?_ | (with_reducible show Al _ (exSs _ _ _ (.asg _ _ :: _) _ _)); refine al_ss ?_ | (with_reducible show Al _ (exSs _ _ _ (.ret _ :: _) _ _)); refine al_ss ?_)
  refine (a_roll (n := n + 4) (b := b + 2) d3 (by decide) (by decide)).imp fun v h4 ⟨⟨c, hc, er⟩, d4, g4⟩ => ?_
  subst er
  have hc' : c ≤ 16 := by omega
  repeat (first | (with_reducible show Al _ (evEs _ _ (_ :: _) _ _)); refine al_cons (fun _ e => nomatch e) ?_ | (with_reducible show Al _ (evEs _ _ [] _ _)); refine al_nil ?_ | (with_reducible show Al _ (evE _ _ (.var _) _ _)); refine al_var rfl ?_ | (with_reducible show Al _ (evE _ _ (.con _) _ _)); refine al_con ?_ | (with_reducible show Al _ (evE _ _ (.call _ _) _ _)); refine al_call rfl ?_ | (with_reducible show Al _ (evE _ _ (.bin _ _ _) _ _)); refine al_bin ?_ | (with_reducible show Al _ (evE _ _ (.cmp _ _ _) _ _)); refine al_cmp ?_ | (with_reducible show Al _ (evE _ _ (.bi _ _) _ _)); refine al_bi ?_ | (with_reducible show Al _ (evE _ _ (.tup _) _ _)); refine al_tup ?_ | (with_reducible show Al _ (evE _ _ (.lst _) _ _)); refine al_lst ?_ | (with_reducible show Al _ (exS _ _ _ (.ret _) _ _)); refine al_ret ?_ | (with_reducible show Al _ (exS _ _ _ (.asg (.nm _) _) _ _)); refine al_asg ?_ | (with_reducible show Al _ (exS _ _ _ (.asg (.tp _) _) _ _)); refine al_asgt ?_ | (with_reducible show Al _ (exSs _ _ _ (.asg _ _ :: _) _ _)); refine al_ss ?_ | (with_reducible show Al _ (exSs _ _ _ (.ret _ :: _) _ _)); refine al_ss ?_)
  refine Al.ok (e_power (n := n + 4) (b := c) (h := h4) (by omega)) ?_
  repeat (first | (with_reducible show Al _ (evEs _ _ (_ :: _) _ _)); refine al_cons (fun _ e => nomatch e) ?_ | (with_reducible show Al _ (evEs _ _ [] _ _)); refine al_nil ?_ | (with_reducible show Al _ (evE _ _ (.var _) _ _)); refine al_var rfl ?_ | (with_reducible show Al _ (evE _ _ (.con _) _ _)); refine al_con ?_ | (with_reducible show Al _ (evE _ _ (.call _ _) _ _)); refine al_call rfl ?_ | (with_reducible show Al _ (evE _ _ (.bin _ _ _) _ _)); refine al_bin ?_ | (with_reducible show Al _ (evE _ _ (.cmp _ _ _) _ _)); refine al_cmp ?_ | (with_reducible show Al _ (evE _ _ (.bi _ _) _ _)); refine al_bi ?_ | (with_reducible show Al _ (evE _ _ (.tup _) _ _)); refine al_tup ?_ | (with_reducible show Al _ (evE _ _ (.lst _) _ _)); refine al_lst ?_ | (with_reducible show Al _ (exS _ _ _ (.ret _) _ _)); refine al_ret ?_ | (with_reducible show Al _ (exS _ _ _ (.asg (.nm _) _) _ _)); refine al_asg ?_ | (with_reducible show Al _ (exS _ _ _ (.asg (.tp _) _) _ _)); refine al_asgt ?_ | (with_reducible show Al _ (exSs _ _ _ (.asg _ _ :: _) _ _)); refine al_ss ?_ | (with_reducible show Al _ (exSs _ _ _ (.ret _ :: _) _ _)); refine al_ss ?_)
  refine (a_roll (n := n + 4) (b := b + 1) (k := ((2 ^ c : Nat) : Int)) d4 (by rw [pow_nat]; exact Int.pow_pos (by decide)) (pow_lt62 (by omega))).imp fun v h5 ⟨⟨k2, hk2, er⟩, d5, g5⟩ => ?_
  subst er
  have hk2' : k2 < 2 ^ c := nx_int hk2
  repeat (first | (with_reducible show Al _ (evEs _ _ (_ :: _) _ _)); refine al_cons (fun _ e => nomatch e) ?_ | (with_reducible show Al _ (evEs _ _ [] _ _)); refine al_nil ?_ | (with_reducible show Al _ (evE _ _ (.var _) _ _)); refine al_var rfl ?_ | (with_reducible show Al _ (evE _ _ (.con _) _ _)); refine al_con ?_ | (with_reducible show Al _ (evE _ _ (.call _ _) _ _)); refine al_call rfl ?_ | (with_reducible show Al _ (evE _ _ (.bin _ _ _) _ _)); refine al_bin ?_ | (with_reducible show Al _ (evE _ _ (.cmp _ _ _) _ _)); refine al_cmp ?_ | (with_reducible show Al _ (evE _ _ (.bi _ _) _ _)); refine al_bi ?_ | (with_reducible show Al _ (evE _ _ (.tup _) _ _)); refine al_tup ?_ | (with_reducible show Al _ (evE _ _ (.lst _) _ _)); refine al_lst ?_ | (with_reducible show Al _ (exS _ _ _ (.ret _) _ _)); refine al_ret ?_ | (with_reducible show Al _ (exS _ _ _ (.asg (.nm _) _) _ _)); refine al_asg ?_ | (with_reducible show Al _ (exS _ _ _ (.asg (.tp _) _) _ _)); refine al_asgt ?_ | (with_reducible show Al _ (exSs _ _ _ (.asg _ _ :: _) _ _)); refine al_ss ?_ | (with_reducible show Al _ (exSs _ _ _ (.ret _ :: _) _ _)); refine al_ss ?_)
  refine (a_roll (n := n + 4) (b := b) d5 (by decide) (by decide)).imp fun v h6 ⟨⟨u, hu, er⟩, d6, g6⟩ => ?_
  subst er
  have hu' : u < 65536 := by omega
  have q2 : 2 ≤ sizeLine := Nat.le_trans (show 2 ≤ 16 by decide) (by decide)
  refine al_nil ⟨q2, _, rfl, ?_⟩
  have g7 : Gr l h h6 := g3.trans (g4.trans (g5.trans g6))
  show Al _ (exSs T (call (n + 5)) 0 (b__law_bits_right.drop 7) [some (.ref l), some (.int c), some (.int r2), some (.int q3), some (.int (2 ^ c : Nat)), none, none, some (.int k2), some (.int u), none, none] h6)
  have hk5 : (0 : Int) < ((2 ^ c : Nat) : Int) := by rw [pow_nat]; exact Int.pow_pos (by decide)
  have hmn : ((u : Int) % ((2 ^ c : Nat) : Int) = (k2 : Int)) ↔ u % 2 ^ c = k2 := by
    rw [← Int.natCast_emod]
    omega
  have hs : (16 : Int) - (c : Int) = ((16 - c : Nat) : Int) := by omega
  have hsp := spot_in (b := c) (v := u) (k := k2) hc' hk2'
  have hp : 0 < 2 ^ (16 - c) := Nat.pow_pos (by decide)
  have x1 := e_bucket (n := n) (k := k2) (b := c) (h := h6) hc' hk2'
  have x2 : ∀ hh, call (n + 5) 21 [.int ((16 : Int) - c)] hh = .ok (.int (2 ^ (16 - c) : Nat)) hh := fun hh => by rw [hs]; exact e_power (n := n + 4) (b := 16 - c) (h := hh) (by omega)
  have x3 : call (n + 5) 22 [.int k2, .int c] h6 = .ok (.int (R c k2)) (h6 ++ [.lst (digs k2 c)]) := e_turned (n := n + 4) (v := k2) (b := c) (h := h6) (by omega)
  have x4 : ∀ hh, call (n + 5) 22 [.int u, .int 16] hh = .ok (.int (R 16 u)) (hh ++ [.lst (digs u 16)]) := fun hh => e_turned (n := n + 4) (v := u) (b := 16) (h := hh) (by decide)
--M1
  have x5 : big (R c k2) ((2 ^ (16 - c) : Nat)) = true := big_ok (k := 65) (Nat.lt_of_lt_of_le (R_lt c k2) (Nat.pow_le_pow_right (by decide) (by omega))) (Nat.pow_lt_pow_right (by decide) (by omega)) (by decide)
--M2
  have x6 : (((R c k2 * 2 ^ (16 - c) + 2 ^ (16 - c) - 1 : Nat)) : Int) - ((R c k2 * 2 ^ (16 - c) : Nat) : Int) + 1 = ((2 ^ (16 - c) : Nat) : Int) := by
    revert hp
    generalize 2 ^ (16 - c) = w
    generalize R c k2 = r
    intro hp
    omega
  have x7 : ((R c k2 * 2 ^ (16 - c) : Nat) : Int) = ((R c k2 : Nat) : Int) * ((2 ^ (16 - c) : Nat) : Int) := Int.natCast_mul ..
--M3
  have x8 : (((R c k2 * 2 ^ (16 - c) : Nat) : Int) ≤ ((R 16 u : Nat) : Int) ∧ ((R 16 u : Nat) : Int) ≤ ((R c k2 * 2 ^ (16 - c) + 2 ^ (16 - c) - 1 : Nat) : Int)) ↔ ((u : Int) % ((2 ^ c : Nat) : Int) = (k2 : Int)) := by
    rw [hmn, ← hsp, Int.ofNat_le, Int.ofNat_le]
--M4
  have x9 : (c : Int) = 16 → ((R c k2 * 2 ^ (16 - c) : Nat) : Int) = ((R c k2 * 2 ^ (16 - c) + 2 ^ (16 - c) - 1 : Nat) : Int) ∧ ((R c k2 * 2 ^ (16 - c) + 2 ^ (16 - c) - 1 : Nat) : Int) = ((R c k2 : Nat) : Int) ∧ ∀ hh, call (n + 5) 22 [.int k2, .int 16] hh = .ok (.int (R c k2)) (hh ++ [.lst (digs k2 16)]) := fun e => by
    have e2 : c = 16 := by omega
    subst e2
    refine ⟨by simp, by simp, fun hh => e_turned (n := n + 4) (v := k2) (b := 16) (h := hh) (by decide)⟩
--M5
  have x10 : (c : Int) ≠ 16 → ∃ l0 f1 : Int, l0 + 1 = f1 ∧ ∀ hh, call (n + 5) 13 [.int k2, .int ((c : Int) + 1)] hh = .ok (.tup [.int ((R c k2 * 2 ^ (16 - c) : Nat) : Int), .int l0]) hh ∧ call (n + 5) 13 [.int ((k2 : Int) + ((2 ^ c : Nat) : Int)), .int ((c : Int) + 1)] hh = .ok (.tup [.int f1, .int ((R c k2 * 2 ^ (16 - c) + 2 ^ (16 - c) - 1 : Nat) : Int)]) hh := fun e => by
    have e2 : c < 16 := by omega
    have hp2 : 0 < 2 ^ (16 - (c + 1)) := Nat.pow_pos (by decide)
    refine ⟨_, _, ?_, fun hh => halves (n := n) (hh := hh) e2 hk2'⟩
    revert hp2
    generalize 2 ^ (16 - (c + 1)) = w2
    intro hp2
    omega
--M6
  revert x1 x2 x3 x4 x5 x6 x7 x8 x9 x10 hk5
  generalize ((R c k2 * 2 ^ (16 - c) : Nat) : Int) = F
  generalize ((R c k2 * 2 ^ (16 - c) + 2 ^ (16 - c) - 1 : Nat) : Int) = la
  generalize ((2 ^ (16 - c) : Nat) : Int) = w
  generalize ((R c k2 : Nat) : Int) = r
  generalize ((R 16 u : Nat) : Int) = s
  generalize ((2 ^ c : Nat) : Int) = m
  intro hk5 x1 x2 x3 x4 x5 x6 x7 x8 x9 x10
  exact (bits_tail d6 x1 x2 x3 x4 x5 x6 x7 hk5 x8 x9 x10).imp fun f h7 ⟨ef, d7, g8⟩ => by
    subst ef
    exact ⟨rfl, d7, g7.trans g8⟩
end K04
set_option Elab.async false
set_option linter.all false
set_option maxRecDepth 100000
set_option maxHeartbeats 4000000
namespace K04
open PySem PySem.Spec PyProof.Rows L2 Mn
theorem os_ok {x : List Nat} (h : oks x) : PyData.strOk ⟨x.toArray⟩ = true := by
  unfold PyData.strOk
  simp only [List.all_toArray, List.all_eq_true, decide_eq_true_eq]
  intro c hc
  rcases h c hc with q | q
  · omega
  · unfold okc at q; omega
theorem oks_set {x : List Nat} {k c : Nat} (h : oks x) (hc : c = 10 ∨ okc c) : oks (x.set k c) := fun d hd => by
  rcases List.mem_or_eq_of_mem_set hd with q | q
  · exact h d q
  · rw [q]; exact hc
theorem set_cut {x : List Nat} {k c : Nat} (hk : k < x.length) : x.take k ++ [c] ++ x.drop (k + 1) = x.set k c := by
  rw [List.set_eq_take_append_cons_drop, if_pos hk, List.append_assoc]
  rfl
theorem set_cut2 {x : List Nat} {k m c d : Nat} (hk : k < m) (hm : m < x.length) : x.take k ++ [d] ++ (x.drop (k + 1)).take (m - (k + 1)) ++ [c] ++ x.drop (m + 1) = (x.set k d).set m c := by
  have h1 : (x.set k d).take m = x.take k ++ [d] ++ (x.drop (k + 1)).take (m - (k + 1)) := by
    rw [← set_cut (by omega : k < x.length), List.take_append, List.take_of_length_le (by simp; omega)]
    congr 2
    simp
    omega
  have h2 : (x.set k d).drop (m + 1) = x.drop (m + 1) := by
    rw [List.drop_set]
    rw [if_pos (by omega)]
  rw [← set_cut (by simpa using hm), h1, h2]
section
variable {cl : Nat → List PV → PH → Res PV} {ρ : PEnv} {h : PH}
theorem sIx_k {n d k : Nat} (h : k ≤ n) : HT.sIx n d (some (k : Int)) = k := by rw [HT.sIx_nat]; omega
theorem sl_to {x : List Nat} {i j k : Nat} (hi : ρ[i]? = some (some (.str x))) (hj : ρ[j]? = some (some (.int k))) (hk : k ≤ x.length) (hs : x.length ≤ sizeLine) : evE T cl (.sl (.var i) .nop (.var j)) ρ h = .ok (.str (x.take k)) h := by
  simp only [evE, partR, hi, hj, Res.bind_ok, pSl, hs, if_true, cut, HT.sIx_none, sIx_k hk, List.drop_zero, Nat.sub_zero]
theorem sl_from {x : List Nat} {i j k : Nat} (hi : ρ[i]? = some (some (.str x))) (hj : ρ[j]? = some (some (.int k))) (hk : k + 1 ≤ x.length) (hs : x.length ≤ sizeLine) : evE T cl (.sl (.var i) (.bin .add (.var j) (.con (.int 1))) .nop) ρ h = .ok (.str (x.drop (k + 1))) h := by
  have e : (k : Int) + 1 = ((k + 1 : Nat) : Int) := by omega
  simp only [evE, partR, hi, hj, Res.bind_ok, pBin, pSl, hs, if_true, cut, HT.sIx_none, e, sIx_k hk]
  rw [List.take_of_length_le (by simp)]
theorem sl_mid {x : List Nat} {i j m k q : Nat} (hi : ρ[i]? = some (some (.str x))) (hj : ρ[j]? = some (some (.int k))) (hm : ρ[m]? = some (some (.int q))) (hk : k + 1 ≤ x.length) (hq : q ≤ x.length) (hs : x.length ≤ sizeLine) : evE T cl (.sl (.var i) (.bin .add (.var j) (.con (.int 1))) (.var m)) ρ h = .ok (.str ((x.drop (k + 1)).take (q - (k + 1)))) h := by
  have e : (k : Int) + 1 = ((k + 1 : Nat) : Int) := by omega
  simp only [evE, partR, hi, hj, hm, Res.bind_ok, pBin, pSl, hs, if_true, cut, HT.sIx_none, e, sIx_k hk, sIx_k hq]
theorem e_add {a b : Ex} {x y : List Nat} {h1 h2 : PH} (ha : evE T cl a ρ h = .ok (.str x) h1) (hb : evE T cl b ρ h1 = .ok (.str y) h2) (hs : x.length + y.length ≤ sizeLine) : evE T cl (.bin .add a b) ρ h = .ok (.str (x ++ y)) h2 := by
  simp only [evE, ha, hb, Res.bind_ok, pBin, hs, if_true]
theorem e_ixs {x : List Nat} {i j k : Nat} (hi : ρ[i]? = some (some (.str x))) (hj : ρ[j]? = some (some (.int k))) (hk : k < x.length) (hs : x.length ≤ sizeLine) : evE T cl (.ix (.var i) (.var j)) ρ h = .ok (.str [x.getD k 0]) h := by
  have e : atI x (k : Int) = some (x.getD k 0) := by
    rw [show x.getD k 0 = x[k] by simp [hk]]
    simp [atI, ixN, hk]
  simp only [evE, hi, hj, Res.bind_ok, pIx, hs, if_true, e]
theorem e_var {i : Nat} {v : PV} (e : ρ[i]? = some (some v)) : evE T cl (.var i) ρ h = .ok v h := by simp only [evE, e]
theorem e_eqs {a b : Ex} {x y : List Nat} {h1 h2 : PH} (ha : evE T cl a ρ h = .ok (.str x) h1) (hb : evE T cl b ρ h1 = .ok (.str y) h2) (hx : PyData.strOk ⟨x.toArray⟩ = true) (hy : PyData.strOk ⟨y.toArray⟩ = true) : evE T cl (.cmp .eq a b) ρ h = .ok (.bl (decide (x = y))) h2 := by
  simp only [evE, ha, hb, Res.bind_ok, pCmp, pEq_ss hx hy, ob]
theorem e_eqi {a b : Ex} {x y : Int} {h1 h2 : PH} (ha : evE T cl a ρ h = .ok (.int x) h1) (hb : evE T cl b ρ h1 = .ok (.int y) h2) : evE T cl (.cmp .eq a b) ρ h = .ok (.bl (decide (x = y))) h2 := by
  simp only [evE, ha, hb, Res.bind_ok, pCmp, pEq_int, ob]
theorem e_nei {a b : Ex} {x y : Int} {h1 h2 : PH} (ha : evE T cl a ρ h = .ok (.int x) h1) (hb : evE T cl b ρ h1 = .ok (.int y) h2) : evE T cl (.cmp .ne a b) ρ h = .ok (.bl (!decide (x = y))) h2 := by
  simp only [evE, ha, hb, Res.bind_ok, pCmp, pEq_int, ob, Option.map_some]
theorem e_eqb {a b : Ex} {x y : Bool} {h1 h2 : PH} (ha : evE T cl a ρ h = .ok (.bl x) h1) (hb : evE T cl b ρ h1 = .ok (.bl y) h2) : evE T cl (.cmp .eq a b) ρ h = .ok (.bl (x == y)) h2 := by
  simp only [evE, ha, hb, Res.bind_ok, pCmp, pEq_bb, ob]
theorem e_neb {a b : Ex} {x y : Bool} {h1 h2 : PH} (ha : evE T cl a ρ h = .ok (.bl x) h1) (hb : evE T cl b ρ h1 = .ok (.bl y) h2) : evE T cl (.cmp .ne a b) ρ h = .ok (.bl (!(x == y))) h2 := by
  simp only [evE, ha, hb, Res.bind_ok, pCmp, pEq_bb, ob, Option.map_some]
theorem e_call1 {g f i : Nat} {v w : PV} {h1 : PH} (hg : T.glob[g]? = some (.fn f)) (e : ρ[i]? = some (some v)) (k : cl f [v] h = .ok w h1) : evE T cl (.call g [.var i]) ρ h = .ok w h1 := by
  simp only [evE, evEs, hg, e, Res.bind_ok, callG, k]
end
theorem minmax (a b : Nat) : ∃ lo hi : Nat, (if (b : Int) < (a : Int) then (b : Int) else (a : Int)) = (lo : Int) ∧ (if (b : Int) > (a : Int) then (b : Int) else (a : Int)) = (hi : Int) ∧ lo ≤ hi ∧ (lo = a ∧ hi = b ∨ lo = b ∧ hi = a) := by
  by_cases q : b < a
  · exact ⟨b, a, by rw [if_pos (by omega)], by rw [if_neg (by omega)], by omega, .inr ⟨rfl, rfl⟩⟩
  · by_cases q2 : a < b
    · exact ⟨a, b, by rw [if_neg (by omega)], by rw [if_pos (by omega)], by omega, .inl ⟨rfl, rfl⟩⟩
    · exact ⟨a, b, by rw [if_neg (by omega)], by rw [if_neg (by omega)]; omega, by omega, .inl ⟨rfl, rfl⟩⟩
end K04
set_option Elab.async false
set_option linter.all false
set_option maxRecDepth 100000
set_option maxHeartbeats 4000000
namespace K04
open PySem PySem.Spec PyProof.Rows L2 Mn
theorem sum_at {n : Nat} {x : List Nat} {h : PH} (hx : oks x) (hl : x.length ≤ 500) : ∃ g, call (n + 5) 9 [.str x] h = .ok (.int (sm 0 x % 99991 : Nat)) (h ++ g) := e_sum (n := n + 1) hx hl
theorem g_get {x : List Nat} {k : Nat} (hk : k < x.length) : x[k]? = some (x.getD k 0) := by simp [hk]
theorem ok128 {c : Nat} (h : c = 10 ∨ okc c) : c < 128 := by
  rcases h with q | q
  · omega
  · unfold okc at q; omega
def oth : List PV := [.str [113], .str [48], .str [126]]
theorem oth_ok {v : PV} (h : v ∈ oth) : ∃ c, v = .str [c] ∧ okc c := by
  simp only [oth, List.mem_cons, List.not_mem_nil, or_false] at h
  rcases h with rfl | rfl | rfl
  · exact ⟨113, rfl, by decide, by decide⟩
  · exact ⟨48, rfl, by decide, by decide⟩
  · exact ⟨126, rfl, by decide, by decide⟩
theorem ok_one {c : Nat} (h : c = 10 ∨ okc c) : PyData.strOk ⟨[c].toArray⟩ = true := os_ok fun d hd => by rw [List.mem_singleton.mp hd]; exact h
theorem ok_nil : PyData.strOk ⟨([] : List Nat).toArray⟩ = true := os_ok (x := []) fun _ h => by simp at h
theorem sums_tail {n l b : Nat} {x : List Nat} {c at_ to : Nat} {h : PH} (d : Dc l b h) (ox : oks x) (lx : x.length < 30) (hc : okc c) (ha : at_ < x.length) (ht : to < x.length) :
    Al (fun f h' => f = .rt (.bl true) ∧ Dc l b h' ∧ Gr l h h') (exSs T (call (n + 5)) 0 (b__law_sums_right.drop 5) [some (.ref l), some (.str x), some (.str [c]), none, none, some (.int at_), some (.int to), none, none] h) := by
  unfold b__law_sums_right
  have big30 : ∀ m, m ≤ 100 → m ≤ sizeLine := fun m hm => Nat.le_trans hm (by decide)
  have hs : x.length ≤ sizeLine := big30 _ (by omega)
  have oc : c = 10 ∨ okc c := .inr hc
  have gok : ∀ k, k < x.length → (x.getD k 0 = 10 ∨ okc (x.getD k 0)) := fun k hk => ox _ (by rw [show x.getD k 0 = x[k] by simp [hk]]; exact List.getElem_mem hk)
  -- the changed one
  have hch : evE T (call (n + 5)) (.bin .add (.bin .add (.sl (.var 1) .nop (.var 5)) (.var 2)) (.sl (.var 1) (.bin .add (.var 5) (.con (.int 1))) .nop)) [some (.ref l), some (.str x), some (.str [c]), none, none, some (.int at_), some (.int to), none, none] h = .ok (.str (x.set at_ c)) h := by
    rw [← set_cut ha]
    refine e_add (e_add (sl_to rfl rfl (by omega) hs) (e_var rfl) ?_) (sl_from rfl rfl (by omega) hs) ?_
    · exact big30 _ (by simp; omega)
    · exact big30 _ (by simp; omega)
  refine al_ss (al_asg (Al.ok hch ?_))
  show Al _ (exSs T (call (n + 5)) 0 (b__law_sums_right.drop 6) [some (.ref l), some (.str x), some (.str [c]), some (.str (x.set at_ c)), none, some (.int at_), some (.int to), none, none] h)
  unfold b__law_sums_right
  obtain ⟨e1, s1⟩ := sum_at (n := n) (x := x.set at_ c) (h := h) (oks_set ox oc) (by simp; omega)
  obtain ⟨e2, s2⟩ := sum_at (n := n) (x := x) (h := h ++ e1) ox (by omega)
  refine al_no (h1 := h ++ e1 ++ e2) ?_ ?_
  · have q := e_neb (e_eqi (e_call1 (cl := call (n + 5)) (ρ := [some (.ref l), some (.str x), some (.str [c]), some (.str (x.set at_ c)), none, some (.int at_), some (.int to), none, none]) (g := 9) (i := 3) rfl rfl s1) (e_call1 (g := 9) (i := 1) rfl rfl s2))
      (e_eqs (e_ixs (i := 1) (j := 5) rfl rfl ha hs) (e_var (i := 2) rfl) (ok_one (gok _ ha)) (ok_one oc))
    have e : decide ((((sm 0 (x.set at_ c) % 99991 : Nat)) : Int) = ((sm 0 x % 99991 : Nat) : Int)) = decide ([x.getD at_ 0] = [c]) := by
      apply decide_eq_decide.mpr
      have := sum_one (x := x) (k := at_) (c := c) (d := x.getD at_ 0) (g_get ha) (by omega) (ok128 (gok _ ha)) (ok128 oc)
      constructor
      · intro p
        rw [this.mp (by omega)]
      · intro p
        have p2 : x.getD at_ 0 = c := by simpa using p
        rw [this.mpr p2]
    rw [e, beq_self_eq_true, Bool.not_true] at q
    exact q
  have d2 : Dc l b (h ++ e1 ++ e2) := (d.app _).app _
  have g2 : Gr l h (h ++ e1 ++ e2) := (Gr.app l h _).trans (Gr.app l _ _)
  generalize h ++ e1 ++ e2 = h2 at d2 g2 ⊢
  obtain ⟨lo, hi, m1, m2, m3, m4⟩ := minmax at_ to
  have hlo : lo < x.length := by rcases m4 with ⟨rfl, rfl⟩ | ⟨rfl, rfl⟩ <;> assumption
  have hhi : hi < x.length := by rcases m4 with ⟨rfl, rfl⟩ | ⟨rfl, rfl⟩ <;> assumption
  repeat (first | (with_reducible show Al _ (evEs _ _ (_ :: _) _ _)); refine al_cons (fun _ e => nomatch e) ?_ | (with_reducible show Al _ (evEs _ _ [] _ _)); refine al_nil ?_ | (with_reducible show Al _ (evE _ _ (.var _) _ _)); refine al_var rfl ?_ | (with_reducible show Al _ (evE _ _ (.con _) _ _)); refine al_con ?_ | (with_reducible show Al _ (evE _ _ (.call _ _) _ _)); refine al_call rfl ?_ | (with_reducible show Al _ (evE _ _ (.bin _ _ _) _ _)); refine al_bin ?_ | (with_reducible show Al _ (evE _ _ (.cmp _ _ _) _ _)); refine al_cmp ?_ | (with_reducible show Al _ (evE _ _ (.bi _ _) _ _)); refine al_bi ?_ | (with_reducible show Al _ (evE _ _ (.tup _) _ _)); refine al_tup ?_ | (with_reducible show Al _ (evE _ _ (.lst _) _ _)); refine al_lst ?_ | (with_reducible show Al _ (exS _ _ _ (.ret _) _ _)); refine al_ret ?_ | (with_reducible show Al _ (exS _ _ _ (.asg (.nm _) _) _ _)); refine al_asg ?_ | (with_reducible show Al _ (exS _ _ _ (.asg (.tp _) _) _ _)); refine al_asgt ?_ | (with_reducible show Al _ (exSs _ _ _ (.asg _ _ :: _) _ _)); refine al_ss ?_ | (with_reducible show Al _ (exSs _ _ _ (.ret _ :: _) _ _)); refine al_ss ?_)
  refine Al.ok (a := .int lo) (h := h2) (by simp only [pBi, m1]) ?_
  repeat (first | (with_reducible show Al _ (evEs _ _ (_ :: _) _ _)); refine al_cons (fun _ e => nomatch e) ?_ | (with_reducible show Al _ (evEs _ _ [] _ _)); refine al_nil ?_ | (with_reducible show Al _ (evE _ _ (.var _) _ _)); refine al_var rfl ?_ | (with_reducible show Al _ (evE _ _ (.con _) _ _)); refine al_con ?_ | (with_reducible show Al _ (evE _ _ (.call _ _) _ _)); refine al_call rfl ?_ | (with_reducible show Al _ (evE _ _ (.bin _ _ _) _ _)); refine al_bin ?_ | (with_reducible show Al _ (evE _ _ (.cmp _ _ _) _ _)); refine al_cmp ?_ | (with_reducible show Al _ (evE _ _ (.bi _ _) _ _)); refine al_bi ?_ | (with_reducible show Al _ (evE _ _ (.tup _) _ _)); refine al_tup ?_ | (with_reducible show Al _ (evE _ _ (.lst _) _ _)); refine al_lst ?_ | (with_reducible show Al _ (exS _ _ _ (.ret _) _ _)); refine al_ret ?_ | (with_reducible show Al _ (exS _ _ _ (.asg (.nm _) _) _ _)); refine al_asg ?_ | (with_reducible show Al _ (exS _ _ _ (.asg (.tp _) _) _ _)); refine al_asgt ?_ | (with_reducible show Al _ (exSs _ _ _ (.asg _ _ :: _) _ _)); refine al_ss ?_ | (with_reducible show Al _ (exSs _ _ _ (.ret _ :: _) _ _)); refine al_ss ?_)
  refine Al.ok (a := .int hi) (h := h2) (by simp only [pBi, m2]) ?_
  refine al_nil ⟨big30 _ (show 2 ≤ 100 by decide), _, rfl, ?_⟩
  show Al _ (exSs T (call (n + 5)) 0 (b__law_sums_right.drop 8) [some (.ref l), some (.str x), some (.str [c]), some (.str (x.set at_ c)), none, some (.int at_), some (.int to), some (.int lo), some (.int hi)] h2)
  unfold b__law_sums_right
  have qeq := e_eqi (cl := call (n + 5)) (ρ := [some (.ref l), some (.str x), some (.str [c]), some (.str (x.set at_ c)), none, some (.int at_), some (.int to), some (.int lo), some (.int hi)]) (e_var (i := 7) (v := .int lo) (h := h2) rfl) (e_var (i := 8) (v := .int hi) rfl)
  by_cases q : lo = hi
  · rw [decide_eq_true (by omega)] at qeq
    exact al_yes qeq (al_ss (al_ret (al_con ⟨rfl, d2, g2⟩)))
  rw [decide_eq_false (by omega)] at qeq
  refine al_no qeq ?_
  have hlt : lo < hi := by omega
  have hsw : evE T (call (n + 5)) (.bin .add (.bin .add (.bin .add (.bin .add (.sl (.var 1) .nop (.var 7)) (.ix (.var 1) (.var 8))) (.sl (.var 1) (.bin .add (.var 7) (.con (.int 1))) (.var 8))) (.ix (.var 1) (.var 7))) (.sl (.var 1) (.bin .add (.var 8) (.con (.int 1))) .nop)) [some (.ref l), some (.str x), some (.str [c]), some (.str (x.set at_ c)), none, some (.int at_), some (.int to), some (.int lo), some (.int hi)] h2 = .ok (.str ((x.set lo (x.getD hi 0)).set hi (x.getD lo 0))) h2 := by
    rw [← set_cut2 hlt hhi]
    refine e_add (e_add (e_add (e_add (sl_to rfl rfl (by omega) hs) (e_ixs rfl rfl hhi hs) ?_) (sl_mid rfl rfl rfl (by omega) (by omega) hs) ?_) (e_ixs rfl rfl hlo hs) ?_) (sl_from rfl rfl (by omega) hs) ?_ <;> exact big30 _ (by simp; omega)
  refine al_ss (al_asg (Al.ok hsw ?_))
  show Al _ (exSs T (call (n + 5)) 0 (b__law_sums_right.drop 10) [some (.ref l), some (.str x), some (.str [c]), some (.str (x.set at_ c)), some (.str ((x.set lo (x.getD hi 0)).set hi (x.getD lo 0))), some (.int at_), some (.int to), some (.int lo), some (.int hi)] h2)
  unfold b__law_sums_right
  obtain ⟨e3, s3⟩ := sum_at (n := n) (x := (x.set lo (x.getD hi 0)).set hi (x.getD lo 0)) (h := h2) (oks_set (oks_set ox (gok _ hhi)) (gok _ hlo)) (by simp; omega)
  obtain ⟨e4, s4⟩ := sum_at (n := n) (x := x) (h := h2 ++ e3) ox (by omega)
  have qe := e_eqb (e_eqi (e_call1 (cl := call (n + 5)) (ρ := [some (.ref l), some (.str x), some (.str [c]), some (.str (x.set at_ c)), some (.str ((x.set lo (x.getD hi 0)).set hi (x.getD lo 0))), some (.int at_), some (.int to), some (.int lo), some (.int hi)]) (g := 9) (i := 4) rfl rfl s3) (e_call1 (g := 9) (i := 1) rfl rfl s4))
      (e_eqs (e_ixs (i := 1) (j := 7) rfl rfl hlo hs) (e_ixs (i := 1) (j := 8) rfl rfl hhi hs) (ok_one (gok _ hlo)) (ok_one (gok _ hhi)))
  have e : decide ((((sm 0 ((x.set lo (x.getD hi 0)).set hi (x.getD lo 0)) % 99991 : Nat)) : Int) = ((sm 0 x % 99991 : Nat) : Int)) = decide ([x.getD lo 0] = [x.getD hi 0]) := by
    apply decide_eq_decide.mpr
    have := sum_two (x := x) (k := lo) (m := hi) (c := x.getD lo 0) (d := x.getD hi 0) (g_get hlo) (g_get hhi) hlt (by omega) (ok128 (gok _ hlo)) (ok128 (gok _ hhi))
    constructor
    · intro p
      rw [this.mp (by omega)]
    · intro p
      have p2 : x.getD lo 0 = x.getD hi 0 := by simpa using p
      rw [this.mpr p2]
  rw [e, beq_self_eq_true] at qe
  exact al_ss (al_ret (Al.ok qe ⟨rfl, (d2.app _).app _, (g2.trans (Gr.app l h2 _)).trans (Gr.app l _ _)⟩))
theorem a_sums {n l b : Nat} {h : PH} (d : Dc l (b + 34) h) : Al (fun v h' => v = .bl true ∧ Dc l b h' ∧ Gr l h h') (call (n + 6) 28 [.ref l] h) := by
  rw [call_run (d := d__law_sums_right) rfl rfl]
  refine al_run rfl ?_
  show Al _ (exSs T (call (n + 5)) 0 b__law_sums_right [some (.ref l), none, none, none, none, none, none, none, none] h)
  unfold b__law_sums_right
  repeat (first | (with_reducible show Al _ (evEs _ _ (_ :: _) _ _)); refine al_cons (fun _ e => nomatch e) ?_ | (with_reducible show Al _ (evEs _ _ [] _ _)); refine al_nil ?_ | (with_reducible show Al _ (evE _ _ (.var _) _ _)); refine al_var rfl ?_ | (with_reducible show Al _ (evE _ _ (.con _) _ _)); refine al_con ?_ | (with_reducible show Al _ (evE _ _ (.call _ _) _ _)); refine al_call rfl ?_ | (with_reducible show Al _ (evE _ _ (.bin _ _ _) _ _)); refine al_bin ?_ | (with_reducible show Al _ (evE _ _ (.cmp _ _ _) _ _)); refine al_cmp ?_ | (with_reducible show Al _ (evE _ _ (.bi _ _) _ _)); refine al_bi ?_ | (with_reducible show Al _ (evE _ _ (.tup _) _ _)); refine al_tup ?_ | (with_reducible show Al _ (evE _ _ (.lst _) _ _)); refine al_lst ?_ | (with_reducible show Al _ (exS _ _ _ (.ret _) _ _)); refine al_ret ?_ | (with_reducible show Al _ (exS _ _ _ (.asg (.nm _) _) _ _)); refine al_asg ?_ | (with_reducible show Al _ (exS _ _ _ (.asg (.tp _) _) _ _)); refine al_asgt ?_ | (with_reducible show Al _ (exSs _ _ _ (.asg _ _ :: _) _ _)); refine al_ss ?_ | (with_reducible show Al _ (exSs _ _ _ (.ret _ :: _) _ _)); refine al_ss ?_)
  refine (a_signs (n := n + 2) (b := b + 3) (most := 30) (by decide) (by decide) d).imp fun v h1 ⟨⟨x, ev, ox, lx⟩, d1, g1⟩ => ?_
  subst ev
  have hs : x.length ≤ sizeLine := Nat.le_trans (show x.length ≤ 30 by omega) (by decide)
  obtain ⟨e1, s1⟩ := sum_at (n := n) (x := x) (h := h1) ox (by omega)
  have l1 : call (n + 5) 24 [.str x] (h1 ++ e1) = .ok (.int (sm 0 x % 99991 : Nat)) (h1 ++ e1) := e_lsum (n := n + 4) ox (by omega)
  refine al_no (h1 := h1 ++ e1) ?_ ?_
  · have q := e_nei (e_call1 (cl := call (n + 5)) (ρ := [some (.ref l), some (.str x), none, none, none, none, none, none, none]) (g := 9) (i := 1) rfl rfl s1) (e_call1 (g := 24) (i := 1) rfl rfl l1)
    rw [decide_eq_true rfl, Bool.not_true] at q
    exact q
  have d2 : Dc l (b + 3) (h1 ++ e1) := d1.app _
  have g2 : Gr l h (h1 ++ e1) := g1.trans (Gr.app l h1 _)
  generalize h1 ++ e1 = h2 at d2 g2 ⊢
  by_cases hx0 : x = []
  · subst hx0
    refine al_yes (h1 := h2) ?_ (al_ss (al_ret (al_con ⟨rfl, d2.le (by omega), g2⟩)))
    have q := e_eqs (cl := call (n + 5)) (ρ := [some (.ref l), some (.str []), none, none, none, none, none, none, none]) (e_var (i := 1) (h := h2) rfl) (show evE T (call (n + 5)) (.con (.str [])) _ h2 = .ok (.str []) h2 by simp only [evE]) ok_nil ok_nil
    exact q
  have hx1 : 0 < x.length := List.length_pos_iff.mpr hx0
  refine al_no (h1 := h2) ?_ ?_
  · have q := e_eqs (cl := call (n + 5)) (ρ := [some (.ref l), some (.str x), none, none, none, none, none, none, none]) (e_var (i := 1) (h := h2) rfl) (show evE T (call (n + 5)) (.con (.str [])) _ h2 = .ok (.str []) h2 by simp only [evE]) (os_ok ox) ok_nil
    rw [decide_eq_false hx0] at q
    exact q
  have hlen : ∀ hh, pBi T .len [.str x] hh = .ok (.int x.length) hh := fun hh => by simp only [pBi]; rw [if_pos hs]
  repeat (first | (with_reducible show Al _ (evEs _ _ (_ :: _) _ _)); refine al_cons (fun _ e => nomatch e) ?_ | (with_reducible show Al _ (evEs _ _ [] _ _)); refine al_nil ?_ | (with_reducible show Al _ (evE _ _ (.var _) _ _)); refine al_var rfl ?_ | (with_reducible show Al _ (evE _ _ (.con _) _ _)); refine al_con ?_ | (with_reducible show Al _ (evE _ _ (.call _ _) _ _)); refine al_call rfl ?_ | (with_reducible show Al _ (evE _ _ (.bin _ _ _) _ _)); refine al_bin ?_ | (with_reducible show Al _ (evE _ _ (.cmp _ _ _) _ _)); refine al_cmp ?_ | (with_reducible show Al _ (evE _ _ (.bi _ _) _ _)); refine al_bi ?_ | (with_reducible show Al _ (evE _ _ (.tup _) _ _)); refine al_tup ?_ | (with_reducible show Al _ (evE _ _ (.lst _) _ _)); refine al_lst ?_ | (with_reducible show Al _ (exS _ _ _ (.ret _) _ _)); refine al_ret ?_ | (with_reducible show Al _ (exS _ _ _ (.asg (.nm _) _) _ _)); refine al_asg ?_ | (with_reducible show Al _ (exS _ _ _ (.asg (.tp _) _) _ _)); refine al_asgt ?_ | (with_reducible show Al _ (exSs _ _ _ (.asg _ _ :: _) _ _)); refine al_ss ?_ | (with_reducible show Al _ (exSs _ _ _ (.ret _ :: _) _ _)); refine al_ss ?_)
  refine Al.ok (hlen h2) ?_
  repeat (first | (with_reducible show Al _ (evEs _ _ (_ :: _) _ _)); refine al_cons (fun _ e => nomatch e) ?_ | (with_reducible show Al _ (evEs _ _ [] _ _)); refine al_nil ?_ | (with_reducible show Al _ (evE _ _ (.var _) _ _)); refine al_var rfl ?_ | (with_reducible show Al _ (evE _ _ (.con _) _ _)); refine al_con ?_ | (with_reducible show Al _ (evE _ _ (.call _ _) _ _)); refine al_call rfl ?_ | (with_reducible show Al _ (evE _ _ (.bin _ _ _) _ _)); refine al_bin ?_ | (with_reducible show Al _ (evE _ _ (.cmp _ _ _) _ _)); refine al_cmp ?_ | (with_reducible show Al _ (evE _ _ (.bi _ _) _ _)); refine al_bi ?_ | (with_reducible show Al _ (evE _ _ (.tup _) _ _)); refine al_tup ?_ | (with_reducible show Al _ (evE _ _ (.lst _) _ _)); refine al_lst ?_ | (with_reducible show Al _ (exS _ _ _ (.ret _) _ _)); refine al_ret ?_ | (with_reducible show Al _ (exS _ _ _ (.asg (.nm _) _) _ _)); refine al_asg ?_ | (with_reducible show Al _ (exS _ _ _ (.asg (.tp _) _) _ _)); refine al_asgt ?_ | (with_reducible show Al _ (exSs _ _ _ (.asg _ _ :: _) _ _)); refine al_ss ?_ | (with_reducible show Al _ (exSs _ _ _ (.ret _ :: _) _ _)); refine al_ss ?_)
  refine (a_roll (n := n + 4) (b := b + 2) (k := x.length) d2 (by omega) (by omega)).imp fun v h3 ⟨⟨at_, ha, er⟩, d3, g3⟩ => ?_
  subst er
  repeat (first | (with_reducible show Al _ (evEs _ _ (_ :: _) _ _)); refine al_cons (fun _ e => nomatch e) ?_ | (with_reducible show Al _ (evEs _ _ [] _ _)); refine al_nil ?_ | (with_reducible show Al _ (evE _ _ (.var _) _ _)); refine al_var rfl ?_ | (with_reducible show Al _ (evE _ _ (.con _) _ _)); refine al_con ?_ | (with_reducible show Al _ (evE _ _ (.call _ _) _ _)); refine al_call rfl ?_ | (with_reducible show Al _ (evE _ _ (.bin _ _ _) _ _)); refine al_bin ?_ | (with_reducible show Al _ (evE _ _ (.cmp _ _ _) _ _)); refine al_cmp ?_ | (with_reducible show Al _ (evE _ _ (.bi _ _) _ _)); refine al_bi ?_ | (with_reducible show Al _ (evE _ _ (.tup _) _ _)); refine al_tup ?_ | (with_reducible show Al _ (evE _ _ (.lst _) _ _)); refine al_lst ?_ | (with_reducible show Al _ (exS _ _ _ (.ret _) _ _)); refine al_ret ?_ | (with_reducible show Al _ (exS _ _ _ (.asg (.nm _) _) _ _)); refine al_asg ?_ | (with_reducible show Al _ (exS _ _ _ (.asg (.tp _) _) _ _)); refine al_asgt ?_ | (with_reducible show Al _ (exSs _ _ _ (.asg _ _ :: _) _ _)); refine al_ss ?_ | (with_reducible show Al _ (exSs _ _ _ (.ret _ :: _) _ _)); refine al_ss ?_)
  refine Al.ok (hlen h3) ?_
  repeat (first | (with_reducible show Al _ (evEs _ _ (_ :: _) _ _)); refine al_cons (fun _ e => nomatch e) ?_ | (with_reducible show Al _ (evEs _ _ [] _ _)); refine al_nil ?_ | (with_reducible show Al _ (evE _ _ (.var _) _ _)); refine al_var rfl ?_ | (with_reducible show Al _ (evE _ _ (.con _) _ _)); refine al_con ?_ | (with_reducible show Al _ (evE _ _ (.call _ _) _ _)); refine al_call rfl ?_ | (with_reducible show Al _ (evE _ _ (.bin _ _ _) _ _)); refine al_bin ?_ | (with_reducible show Al _ (evE _ _ (.cmp _ _ _) _ _)); refine al_cmp ?_ | (with_reducible show Al _ (evE _ _ (.bi _ _) _ _)); refine al_bi ?_ | (with_reducible show Al _ (evE _ _ (.tup _) _ _)); refine al_tup ?_ | (with_reducible show Al _ (evE _ _ (.lst _) _ _)); refine al_lst ?_ | (with_reducible show Al _ (exS _ _ _ (.ret _) _ _)); refine al_ret ?_ | (with_reducible show Al _ (exS _ _ _ (.asg (.nm _) _) _ _)); refine al_asg ?_ | (with_reducible show Al _ (exS _ _ _ (.asg (.tp _) _) _ _)); refine al_asgt ?_ | (with_reducible show Al _ (exSs _ _ _ (.asg _ _ :: _) _ _)); refine al_ss ?_ | (with_reducible show Al _ (exSs _ _ _ (.ret _ :: _) _ _)); refine al_ss ?_)
  refine (a_roll (n := n + 4) (b := b + 1) (k := x.length) d3 (by omega) (by omega)).imp fun v h4 ⟨⟨to, ht, er⟩, d4, g4⟩ => ?_
  subst er
  have q3 : 3 ≤ sizeLine := Nat.le_trans (show 3 ≤ 16 by decide) (by decide)
  refine al_nil ⟨Nat.le_trans (show 2 ≤ 16 by decide) (by decide), _, rfl, ?_⟩
  repeat (first | (with_reducible show Al _ (evEs _ _ (_ :: _) _ _)); refine al_cons (fun _ e => nomatch e) ?_ | (with_reducible show Al _ (evEs _ _ [] _ _)); refine al_nil ?_ | (with_reducible show Al _ (evE _ _ (.var _) _ _)); refine al_var rfl ?_ | (with_reducible show Al _ (evE _ _ (.con _) _ _)); refine al_con ?_ | (with_reducible show Al _ (evE _ _ (.call _ _) _ _)); refine al_call rfl ?_ | (with_reducible show Al _ (evE _ _ (.bin _ _ _) _ _)); refine al_bin ?_ | (with_reducible show Al _ (evE _ _ (.cmp _ _ _) _ _)); refine al_cmp ?_ | (with_reducible show Al _ (evE _ _ (.bi _ _) _ _)); refine al_bi ?_ | (with_reducible show Al _ (evE _ _ (.tup _) _ _)); refine al_tup ?_ | (with_reducible show Al _ (evE _ _ (.lst _) _ _)); refine al_lst ?_ | (with_reducible show Al _ (exS _ _ _ (.ret _) _ _)); refine al_ret ?_ | (with_reducible show Al _ (exS _ _ _ (.asg (.nm _) _) _ _)); refine al_asg ?_ | (with_reducible show Al _ (exS _ _ _ (.asg (.tp _) _) _ _)); refine al_asgt ?_ | (with_reducible show Al _ (exSs _ _ _ (.asg _ _ :: _) _ _)); refine al_ss ?_ | (with_reducible show Al _ (exSs _ _ _ (.ret _ :: _) _ _)); refine al_ss ?_)
  refine ⟨q3, ?_⟩
  repeat (first | (with_reducible show Al _ (evEs _ _ (_ :: _) _ _)); refine al_cons (fun _ e => nomatch e) ?_ | (with_reducible show Al _ (evEs _ _ [] _ _)); refine al_nil ?_ | (with_reducible show Al _ (evE _ _ (.var _) _ _)); refine al_var rfl ?_ | (with_reducible show Al _ (evE _ _ (.con _) _ _)); refine al_con ?_ | (with_reducible show Al _ (evE _ _ (.call _ _) _ _)); refine al_call rfl ?_ | (with_reducible show Al _ (evE _ _ (.bin _ _ _) _ _)); refine al_bin ?_ | (with_reducible show Al _ (evE _ _ (.cmp _ _ _) _ _)); refine al_cmp ?_ | (with_reducible show Al _ (evE _ _ (.bi _ _) _ _)); refine al_bi ?_ | (with_reducible show Al _ (evE _ _ (.tup _) _ _)); refine al_tup ?_ | (with_reducible show Al _ (evE _ _ (.lst _) _ _)); refine al_lst ?_ | (with_reducible show Al _ (exS _ _ _ (.ret _) _ _)); refine al_ret ?_ | (with_reducible show Al _ (exS _ _ _ (.asg (.nm _) _) _ _)); refine al_asg ?_ | (with_reducible show Al _ (exS _ _ _ (.asg (.tp _) _) _ _)); refine al_asgt ?_ | (with_reducible show Al _ (exSs _ _ _ (.asg _ _ :: _) _ _)); refine al_ss ?_ | (with_reducible show Al _ (exSs _ _ _ (.ret _ :: _) _ _)); refine al_ss ?_)
  refine (a_one (n := n + 3) (b := b) (xs := oth) (d4.app _) get_last (Nat.ne_of_gt d4.lt) (by decide) (by decide)).imp fun v h5 ⟨hv, d5, g5⟩ => ?_
  obtain ⟨c, rfl, hc⟩ := oth_ok hv
  have g6 : Gr l h h5 := (g2.trans g3).trans (g4.trans ((Gr.app l h4 _).trans g5))
  have ha' : at_ < x.length := by omega
  have ht' : to < x.length := by omega
  show Al _ (exSs T (call (n + 5)) 0 (b__law_sums_right.drop 5) [some (.ref l), some (.str x), some (.str [c]), none, none, some (.int at_), some (.int to), none, none] h5)
  exact (sums_tail (n := n) d5 ox lx hc ha' ht').imp fun f h7 ⟨ef, d7, g8⟩ => by
    subst ef
    exact ⟨rfl, d7, g6.trans g8⟩
end K04
set_option Elab.async false
set_option linter.all false
set_option maxRecDepth 100000
set_option maxHeartbeats 400000
namespace K04
open PySem PySem.Spec PyProof.Rows L2 Mn
section
variable {cl : Nat → List PV → PH → Res PV} {ρ : PEnv} {h : PH}
theorem al_or {P : PV → PH → Prop} {a b : Ex} (k : Al (fun v h1 => ∃ t, pTru h1 v = some t ∧ if t then P v h1 else Al P (evE T cl b ρ h1)) (evE T cl a ρ h)) : Al P (evE T cl (.or a b) ρ h) := by
  simp only [evE]
  refine Al.bind (k.imp fun v h1 ⟨t, e, q⟩ => ?_)
  rw [e]
  cases t with
  | true => exact Al.ok rfl (by simpa using q)
  | false => simpa using q
theorem al_not {P : PV → PH → Prop} {a : Ex} (k : Al (fun v h1 => ∃ t, pTru h1 v = some t ∧ P (.bl (!t)) h1) (evE T cl a ρ h)) : Al P (evE T cl (.not a) ρ h) := by
  simp only [evE]
  refine Al.bind (k.imp fun v h1 ⟨t, e, q⟩ => ?_)
  rw [e]
  exact Al.ok rfl q
end
theorem law_turn {l b : Nat} {v0 v1 z2 z4 : Option PV} {h : PH} (d : Dc l (b + 57) h) : Al (fun f h' => f = .nx [v0, v1, z2, some (.ref l), z4] ∧ Dc l b h' ∧ Gr l h h') (exSs T (call 11) 0 [.ite (.or (.not (.call 26 [.var 3])) (.or (.not (.call 27 [.var 3])) (.not (.call 28 [.var 3])))) [.ret (.con (.bl false))] []] [v0, v1, z2, some (.ref l), z4] h) := by
  refine al_ss (al_ite (al_evT (al_or (al_not ?_))))
  repeat (first | (with_reducible show Al _ (evEs _ _ (_ :: _) _ _)); refine al_cons (fun _ e => nomatch e) ?_ | (with_reducible show Al _ (evEs _ _ [] _ _)); refine al_nil ?_ | (with_reducible show Al _ (evE _ _ (.var _) _ _)); refine al_var rfl ?_ | (with_reducible show Al _ (evE _ _ (.con _) _ _)); refine al_con ?_ | (with_reducible show Al _ (evE _ _ (.call _ _) _ _)); refine al_call rfl ?_ | (with_reducible show Al _ (evE _ _ (.bin _ _ _) _ _)); refine al_bin ?_ | (with_reducible show Al _ (evE _ _ (.cmp _ _ _) _ _)); refine al_cmp ?_ | (with_reducible show Al _ (evE _ _ (.bi _ _) _ _)); refine al_bi ?_ | (with_reducible show Al _ (evE _ _ (.tup _) _ _)); refine al_tup ?_ | (with_reducible show Al _ (evE _ _ (.lst _) _ _)); refine al_lst ?_ | (with_reducible show Al _ (exS _ _ _ (.ret _) _ _)); refine al_ret ?_ | (with_reducible show Al _ (exS _ _ _ (.asg (.nm _) _) _ _)); refine al_asg ?_ | (with_reducible show Al _ (exS _ _ _ (.asg (.tp _) _) _ _)); refine al_asgt ?_ | (with_reducible show Al _ (exSs _ _ _ (.asg _ _ :: _) _ _)); refine al_ss ?_ | (with_reducible show Al _ (exSs _ _ _ (.ret _ :: _) _ _)); refine al_ss ?_)
  refine (a_texts (n := 5) (b := b + 39) (by simpa [Nat.add_assoc] using d)).imp fun v h1 ⟨e1, d1, g1⟩ => ?_
  subst e1
  refine ⟨true, rfl, false, rfl, ?_⟩
  rw [if_neg (by decide)]
  refine al_or (al_not ?_)
  repeat (first | (with_reducible show Al _ (evEs _ _ (_ :: _) _ _)); refine al_cons (fun _ e => nomatch e) ?_ | (with_reducible show Al _ (evEs _ _ [] _ _)); refine al_nil ?_ | (with_reducible show Al _ (evE _ _ (.var _) _ _)); refine al_var rfl ?_ | (with_reducible show Al _ (evE _ _ (.con _) _ _)); refine al_con ?_ | (with_reducible show Al _ (evE _ _ (.call _ _) _ _)); refine al_call rfl ?_ | (with_reducible show Al _ (evE _ _ (.bin _ _ _) _ _)); refine al_bin ?_ | (with_reducible show Al _ (evE _ _ (.cmp _ _ _) _ _)); refine al_cmp ?_ | (with_reducible show Al _ (evE _ _ (.bi _ _) _ _)); refine al_bi ?_ | (with_reducible show Al _ (evE _ _ (.tup _) _ _)); refine al_tup ?_ | (with_reducible show Al _ (evE _ _ (.lst _) _ _)); refine al_lst ?_ | (with_reducible show Al _ (exS _ _ _ (.ret _) _ _)); refine al_ret ?_ | (with_reducible show Al _ (exS _ _ _ (.asg (.nm _) _) _ _)); refine al_asg ?_ | (with_reducible show Al _ (exS _ _ _ (.asg (.tp _) _) _ _)); refine al_asgt ?_ | (with_reducible show Al _ (exSs _ _ _ (.asg _ _ :: _) _ _)); refine al_ss ?_ | (with_reducible show Al _ (exSs _ _ _ (.ret _ :: _) _ _)); refine al_ss ?_)
  refine (a_bits (n := 5) (b := b + 34) (by simpa [Nat.add_assoc] using d1)).imp fun v h2 ⟨e2, d2, g2⟩ => ?_
  subst e2
  refine ⟨true, rfl, false, rfl, ?_⟩
  rw [if_neg (by decide)]
  refine al_not ?_
  repeat (first | (with_reducible show Al _ (evEs _ _ (_ :: _) _ _)); refine al_cons (fun _ e => nomatch e) ?_ | (with_reducible show Al _ (evEs _ _ [] _ _)); refine al_nil ?_ | (with_reducible show Al _ (evE _ _ (.var _) _ _)); refine al_var rfl ?_ | (with_reducible show Al _ (evE _ _ (.con _) _ _)); refine al_con ?_ | (with_reducible show Al _ (evE _ _ (.call _ _) _ _)); refine al_call rfl ?_ | (with_reducible show Al _ (evE _ _ (.bin _ _ _) _ _)); refine al_bin ?_ | (with_reducible show Al _ (evE _ _ (.cmp _ _ _) _ _)); refine al_cmp ?_ | (with_reducible show Al _ (evE _ _ (.bi _ _) _ _)); refine al_bi ?_ | (with_reducible show Al _ (evE _ _ (.tup _) _ _)); refine al_tup ?_ | (with_reducible show Al _ (evE _ _ (.lst _) _ _)); refine al_lst ?_ | (with_reducible show Al _ (exS _ _ _ (.ret _) _ _)); refine al_ret ?_ | (with_reducible show Al _ (exS _ _ _ (.asg (.nm _) _) _ _)); refine al_asg ?_ | (with_reducible show Al _ (exS _ _ _ (.asg (.tp _) _) _ _)); refine al_asgt ?_ | (with_reducible show Al _ (exSs _ _ _ (.asg _ _ :: _) _ _)); refine al_ss ?_ | (with_reducible show Al _ (exSs _ _ _ (.ret _ :: _) _ _)); refine al_ss ?_)
  refine (a_sums (n := 5) (b := b) d2).imp fun v h3 ⟨e3, d3, g3⟩ => ?_
  subst e3
  refine ⟨true, rfl, false, rfl, ?_⟩
  rw [if_neg (by decide)]
  exact al_nx (al_nx ⟨rfl, d3, g1.trans (g2.trans g3)⟩)
theorem law_turns {l b : Nat} {v0 v1 z2 z4 : Option PV} {h : PH} (d : Dc l (b + 171) h) : Al (fun f h' => ∃ z4', f = .nx [v0, v1, z2, some (.ref l), z4'] ∧ Gr l h h') (exS T (call 11) 0 (.for_ (.nm 4) .rng [.con (.int 3)] [.ite (.or (.not (.call 26 [.var 3])) (.or (.not (.call 27 [.var 3])) (.not (.call 28 [.var 3])))) [.ret (.con (.bl false))] []]) [v0, v1, z2, some (.ref l), z4] h) := by
  refine al_for (w := .fix ((List.range 3).map fun (i : Nat) => .int i)) (N := 3) (h1 := h) (Inv := fun i ρ h' => (∃ z4', ρ = [v0, v1, z2, some (.ref l), z4']) ∧ Dc l (b + 57 * (3 - i)) h' ∧ Gr l h h') (evI_rng (b := 3) (by simp only [evE, evEs, Res.bind_ok]; rfl) (by decide)) ?_ ?_ ?_
  · rintro i hi ρ h' ⟨⟨z4', rfl⟩, d', g'⟩
    refine ⟨.int i, fix_at (by simp [hi]), ?_⟩
    have d2 : Dc l (b + 57 * (3 - (i + 1)) + 57) h' := d'.le (by omega)
    unfold forB
    simp only [bindTg]
    refine (law_turn (v0 := v0) (v1 := v1) (z2 := z2) (z4 := some (.int i)) d2).imp fun f h2 ⟨ef, d3, g3⟩ => ?_
    subst ef
    exact ⟨⟨_, rfl⟩, d3, g'.trans g3⟩
  · rintro ρ h' ⟨⟨z4', rfl⟩, d', g'⟩
    exact ⟨by simpa using fix_end (xs := (List.range 3).map fun (i : Nat) => PV.int i) (h := h'), ⟨_, rfl, g'⟩⟩
  · exact ⟨⟨_, rfl⟩, d.le (by omega), Gr.refl l h⟩
theorem e_dice {n i : Nat} {xs : List PV} {h : PH} (hx : (intsOf xs).isSome = true) (hi : i < 100) : call (n + 1) 15 [.frk xs, .int i] h = .ok (.ref h.length) (h ++ [.dice (2 ^ 63)]) := by
  have e : call (n + 1) 15 [.frk xs, .int i] h = spDice [.frk xs, .int i] h := by
    show callS T 0 defs spec (n + 1) 15 [.frk xs, .int i] h = _
    simp only [callS, show defs[15]? = some d__law_dice from rfl, show spec 15 = some spDice from rfl]
    rfl
  rw [e]
  exact if_pos ⟨hx, by omega, by omega⟩
theorem law_len {xs : List PV} (hx : xs.length ≤ 63) : ∃ N : Nat, N ≤ 5 ∧ ∀ (ρ : PEnv) (h : PH), ρ[0]? = some (some (.frk xs)) → evEs T (call 11) [.bi .max [.con (.int 1), .bi .min [.con (.int 5), .bi .len [.var 0]]]] ρ h = .ok [.int N] h := by
  have gen : ∀ m : Int, 0 ≤ m → m ≤ 5 → ∃ N : Nat, N ≤ 5 ∧ (if m > 1 then m else 1) = (N : Int) := fun m h0 h5 => by
    by_cases q : m > 1
    · exact ⟨m.toNat, by omega, by rw [if_pos q]; omega⟩
    · exact ⟨1, by omega, by rw [if_neg q]; rfl⟩
  obtain ⟨N, hN, e⟩ := gen (if (xs.length : Int) < 5 then (xs.length : Int) else 5) (by split <;> omega) (by split <;> omega)
  refine ⟨N, hN, fun ρ h h0 => ?_⟩
  simp only [evE, evEs, Res.bind_ok, h0, pBi, e]
def told : List PV := [.int 3300, .int 3300, .int 0, .int 0, .int 10, .tup [.int 32768, .int 65535], .int 13835058055282163712]
theorem told_datum {h : PH} {m : Nat} (e : h[m]? = some (.lst told)) : datum h (.ref m) = some (.list [.int 3300, .int 3300, .int 0, .int 0, .int 10, .tuple [.int 32768, .int 65535], .int 13835058055282163712]) := by
  unfold datum
  simp only [toD, deref, e, toDs, told, Option.map_some]
  rfl
theorem told_eq {h : PH} {m k : Nat} (e : h[m]? = some (.lst told)) (e2 : h[k]? = some (.lst told)) : pEq h (.ref m) (.ref k) = some true := by
  unfold pEq
  rw [told_datum e, told_datum e2]
  simp [PyData.eqv, PyData.eqvAll]
theorem law_end {v0 z1 z3 z4 : Option PV} {h : PH} : Al (fun f _ => f = .rt (.bl true)) (exSs T (call 11) 0 (b_law.drop 1) [v0, z1, none, z3, z4] h) := by
  unfold b_law
  have ox : oks [10] := fun c hc => .inl (List.mem_singleton.mp hc)
  have c1 : ∀ hh, call 11 7 [.str [97, 99]] hh = .ok (.int ((3300 : Nat) : Int)) hh := fun hh => by
    have q := e_hash (n := 7) (x := [97, 99]) (h := hh) (by intro c hc; simp at hc; rcases hc with rfl | rfl <;> exact ⟨by decide, by decide⟩) (by decide)
    rw [show hsh [97, 99] = 3300 by decide] at q
    exact q
  have c2 : ∀ hh, call 11 7 [.str [98, 66]] hh = .ok (.int ((3300 : Nat) : Int)) hh := fun hh => by
    have q := e_hash (n := 7) (x := [98, 66]) (h := hh) (by intro c hc; simp at hc; rcases hc with rfl | rfl <;> exact ⟨by decide, by decide⟩) (by decide)
    rw [show hsh [98, 66] = 3300 by decide] at q
    exact q
  have c3 : ∀ hh, call 11 8 [.str []] hh = .ok (.int ((0 : Nat) : Int)) hh := fun hh => by
    have q := e_spot (n := 6) (x := []) (h := hh) (by intro c hc; simp at hc) (by decide)
    rw [show R 16 (hsh []) = 0 by decide] at q
    exact q
  have c4 : ∀ hh, ∃ g, call 11 9 [.str []] hh = .ok (.int ((0 : Nat) : Int)) (hh ++ g) := fun hh => by
    have q := e_sum (n := 7) (x := []) (h := hh) (by intro c hc; simp at hc) (by decide)
    rw [show sm 0 [] % 99991 = 0 by decide] at q
    exact q
  have c5 : ∀ hh, ∃ g, call 11 9 [.str [10]] hh = .ok (.int ((10 : Nat) : Int)) (hh ++ g) := fun hh => by
    have q := e_sum (n := 7) (x := [10]) (h := hh) ox (by decide)
    rw [show sm 0 [10] % 99991 = 10 by decide] at q
    exact q
  have c6 : ∀ hh, call 11 13 [.int ((1 : Nat) : Int), .int ((1 : Nat) : Int)] hh = .ok (.tup [.int ((32768 : Nat) : Int), .int ((65535 : Nat) : Int)]) hh := fun hh => by
    have q := e_bucket (n := 6) (k := 1) (b := 1) (h := hh) (by decide) (by decide)
    rw [show R 1 1 * 2 ^ (16 - 1) + 2 ^ (16 - 1) - 1 = 65535 by decide, show R 1 1 * 2 ^ (16 - 1) = 32768 by decide] at q
    exact q
  have c7 : ∀ hh, call 11 12 [.int 3, .int 64] hh = .ok (.int 13835058055282163712) hh := fun hh => by
    have q := e_rev (n := 7) (v := 3) (b := 64) (h := hh) (by decide) (by decide)
    have r : R 64 3 = 13835058055282163712 := by decide +kernel
    rw [r] at q
    exact q
  have small : ∀ m, m ≤ 16 → m ≤ sizeLine := fun m hm => Nat.le_trans hm (by decide)
  refine al_ss (al_asg ?_)
  repeat (first | (with_reducible show Al _ (evEs _ _ (_ :: _) _ _)); refine al_cons (fun _ e => nomatch e) ?_ | (with_reducible show Al _ (evEs _ _ [] _ _)); refine al_nil ?_ | (with_reducible show Al _ (evE _ _ (.var _) _ _)); refine al_var rfl ?_ | (with_reducible show Al _ (evE _ _ (.con _) _ _)); refine al_con ?_ | (with_reducible show Al _ (evE _ _ (.call _ _) _ _)); refine al_call rfl ?_ | (with_reducible show Al _ (evE _ _ (.bin _ _ _) _ _)); refine al_bin ?_ | (with_reducible show Al _ (evE _ _ (.cmp _ _ _) _ _)); refine al_cmp ?_ | (with_reducible show Al _ (evE _ _ (.bi _ _) _ _)); refine al_bi ?_ | (with_reducible show Al _ (evE _ _ (.tup _) _ _)); refine al_tup ?_ | (with_reducible show Al _ (evE _ _ (.lst _) _ _)); refine al_lst ?_ | (with_reducible show Al _ (exS _ _ _ (.ret _) _ _)); refine al_ret ?_ | (with_reducible show Al _ (exS _ _ _ (.asg (.nm _) _) _ _)); refine al_asg ?_ | (with_reducible show Al _ (exS _ _ _ (.asg (.tp _) _) _ _)); refine al_asgt ?_ | (with_reducible show Al _ (exSs _ _ _ (.asg _ _ :: _) _ _)); refine al_ss ?_ | (with_reducible show Al _ (exSs _ _ _ (.ret _ :: _) _ _)); refine al_ss ?_)
  refine Al.ok (c1 _) ?_
  repeat (first | (with_reducible show Al _ (evEs _ _ (_ :: _) _ _)); refine al_cons (fun _ e => nomatch e) ?_ | (with_reducible show Al _ (evEs _ _ [] _ _)); refine al_nil ?_ | (with_reducible show Al _ (evE _ _ (.var _) _ _)); refine al_var rfl ?_ | (with_reducible show Al _ (evE _ _ (.con _) _ _)); refine al_con ?_ | (with_reducible show Al _ (evE _ _ (.call _ _) _ _)); refine al_call rfl ?_ | (with_reducible show Al _ (evE _ _ (.bin _ _ _) _ _)); refine al_bin ?_ | (with_reducible show Al _ (evE _ _ (.cmp _ _ _) _ _)); refine al_cmp ?_ | (with_reducible show Al _ (evE _ _ (.bi _ _) _ _)); refine al_bi ?_ | (with_reducible show Al _ (evE _ _ (.tup _) _ _)); refine al_tup ?_ | (with_reducible show Al _ (evE _ _ (.lst _) _ _)); refine al_lst ?_ | (with_reducible show Al _ (exS _ _ _ (.ret _) _ _)); refine al_ret ?_ | (with_reducible show Al _ (exS _ _ _ (.asg (.nm _) _) _ _)); refine al_asg ?_ | (with_reducible show Al _ (exS _ _ _ (.asg (.tp _) _) _ _)); refine al_asgt ?_ | (with_reducible show Al _ (exSs _ _ _ (.asg _ _ :: _) _ _)); refine al_ss ?_ | (with_reducible show Al _ (exSs _ _ _ (.ret _ :: _) _ _)); refine al_ss ?_)
  refine Al.ok (c2 _) ?_
  repeat (first | (with_reducible show Al _ (evEs _ _ (_ :: _) _ _)); refine al_cons (fun _ e => nomatch e) ?_ | (with_reducible show Al _ (evEs _ _ [] _ _)); refine al_nil ?_ | (with_reducible show Al _ (evE _ _ (.var _) _ _)); refine al_var rfl ?_ | (with_reducible show Al _ (evE _ _ (.con _) _ _)); refine al_con ?_ | (with_reducible show Al _ (evE _ _ (.call _ _) _ _)); refine al_call rfl ?_ | (with_reducible show Al _ (evE _ _ (.bin _ _ _) _ _)); refine al_bin ?_ | (with_reducible show Al _ (evE _ _ (.cmp _ _ _) _ _)); refine al_cmp ?_ | (with_reducible show Al _ (evE _ _ (.bi _ _) _ _)); refine al_bi ?_ | (with_reducible show Al _ (evE _ _ (.tup _) _ _)); refine al_tup ?_ | (with_reducible show Al _ (evE _ _ (.lst _) _ _)); refine al_lst ?_ | (with_reducible show Al _ (exS _ _ _ (.ret _) _ _)); refine al_ret ?_ | (with_reducible show Al _ (exS _ _ _ (.asg (.nm _) _) _ _)); refine al_asg ?_ | (with_reducible show Al _ (exS _ _ _ (.asg (.tp _) _) _ _)); refine al_asgt ?_ | (with_reducible show Al _ (exSs _ _ _ (.asg _ _ :: _) _ _)); refine al_ss ?_ | (with_reducible show Al _ (exSs _ _ _ (.ret _ :: _) _ _)); refine al_ss ?_)
  refine Al.ok (c3 _) ?_
  repeat (first | (with_reducible show Al _ (evEs _ _ (_ :: _) _ _)); refine al_cons (fun _ e => nomatch e) ?_ | (with_reducible show Al _ (evEs _ _ [] _ _)); refine al_nil ?_ | (with_reducible show Al _ (evE _ _ (.var _) _ _)); refine al_var rfl ?_ | (with_reducible show Al _ (evE _ _ (.con _) _ _)); refine al_con ?_ | (with_reducible show Al _ (evE _ _ (.call _ _) _ _)); refine al_call rfl ?_ | (with_reducible show Al _ (evE _ _ (.bin _ _ _) _ _)); refine al_bin ?_ | (with_reducible show Al _ (evE _ _ (.cmp _ _ _) _ _)); refine al_cmp ?_ | (with_reducible show Al _ (evE _ _ (.bi _ _) _ _)); refine al_bi ?_ | (with_reducible show Al _ (evE _ _ (.tup _) _ _)); refine al_tup ?_ | (with_reducible show Al _ (evE _ _ (.lst _) _ _)); refine al_lst ?_ | (with_reducible show Al _ (exS _ _ _ (.ret _) _ _)); refine al_ret ?_ | (with_reducible show Al _ (exS _ _ _ (.asg (.nm _) _) _ _)); refine al_asg ?_ | (with_reducible show Al _ (exS _ _ _ (.asg (.tp _) _) _ _)); refine al_asgt ?_ | (with_reducible show Al _ (exSs _ _ _ (.asg _ _ :: _) _ _)); refine al_ss ?_ | (with_reducible show Al _ (exSs _ _ _ (.ret _ :: _) _ _)); refine al_ss ?_)
  obtain ⟨g4, q4⟩ := c4 h
  refine Al.ok q4 ?_
  repeat (first | (with_reducible show Al _ (evEs _ _ (_ :: _) _ _)); refine al_cons (fun _ e => nomatch e) ?_ | (with_reducible show Al _ (evEs _ _ [] _ _)); refine al_nil ?_ | (with_reducible show Al _ (evE _ _ (.var _) _ _)); refine al_var rfl ?_ | (with_reducible show Al _ (evE _ _ (.con _) _ _)); refine al_con ?_ | (with_reducible show Al _ (evE _ _ (.call _ _) _ _)); refine al_call rfl ?_ | (with_reducible show Al _ (evE _ _ (.bin _ _ _) _ _)); refine al_bin ?_ | (with_reducible show Al _ (evE _ _ (.cmp _ _ _) _ _)); refine al_cmp ?_ | (with_reducible show Al _ (evE _ _ (.bi _ _) _ _)); refine al_bi ?_ | (with_reducible show Al _ (evE _ _ (.tup _) _ _)); refine al_tup ?_ | (with_reducible show Al _ (evE _ _ (.lst _) _ _)); refine al_lst ?_ | (with_reducible show Al _ (exS _ _ _ (.ret _) _ _)); refine al_ret ?_ | (with_reducible show Al _ (exS _ _ _ (.asg (.nm _) _) _ _)); refine al_asg ?_ | (with_reducible show Al _ (exS _ _ _ (.asg (.tp _) _) _ _)); refine al_asgt ?_ | (with_reducible show Al _ (exSs _ _ _ (.asg _ _ :: _) _ _)); refine al_ss ?_ | (with_reducible show Al _ (exSs _ _ _ (.ret _ :: _) _ _)); refine al_ss ?_)
  obtain ⟨g5, q5⟩ := c5 (h ++ g4)
  refine Al.ok q5 ?_
  repeat (first | (with_reducible show Al _ (evEs _ _ (_ :: _) _ _)); refine al_cons (fun _ e => nomatch e) ?_ | (with_reducible show Al _ (evEs _ _ [] _ _)); refine al_nil ?_ | (with_reducible show Al _ (evE _ _ (.var _) _ _)); refine al_var rfl ?_ | (with_reducible show Al _ (evE _ _ (.con _) _ _)); refine al_con ?_ | (with_reducible show Al _ (evE _ _ (.call _ _) _ _)); refine al_call rfl ?_ | (with_reducible show Al _ (evE _ _ (.bin _ _ _) _ _)); refine al_bin ?_ | (with_reducible show Al _ (evE _ _ (.cmp _ _ _) _ _)); refine al_cmp ?_ | (with_reducible show Al _ (evE _ _ (.bi _ _) _ _)); refine al_bi ?_ | (with_reducible show Al _ (evE _ _ (.tup _) _ _)); refine al_tup ?_ | (with_reducible show Al _ (evE _ _ (.lst _) _ _)); refine al_lst ?_ | (with_reducible show Al _ (exS _ _ _ (.ret _) _ _)); refine al_ret ?_ | (with_reducible show Al _ (exS _ _ _ (.asg (.nm _) _) _ _)); refine al_asg ?_ | (with_reducible show Al _ (exS _ _ _ (.asg (.tp _) _) _ _)); refine al_asgt ?_ | (with_reducible show Al _ (exSs _ _ _ (.asg _ _ :: _) _ _)); refine al_ss ?_ | (with_reducible show Al _ (exSs _ _ _ (.ret _ :: _) _ _)); refine al_ss ?_)
  refine Al.ok (c6 _) ?_
  refine al_nil ⟨small _ (by decide), ?_⟩
  generalize h ++ g4 ++ g5 = h1
  repeat (first | (with_reducible show Al _ (evEs _ _ (_ :: _) _ _)); refine al_cons (fun _ e => nomatch e) ?_ | (with_reducible show Al _ (evEs _ _ [] _ _)); refine al_nil ?_ | (with_reducible show Al _ (evE _ _ (.var _) _ _)); refine al_var rfl ?_ | (with_reducible show Al _ (evE _ _ (.con _) _ _)); refine al_con ?_ | (with_reducible show Al _ (evE _ _ (.call _ _) _ _)); refine al_call rfl ?_ | (with_reducible show Al _ (evE _ _ (.bin _ _ _) _ _)); refine al_bin ?_ | (with_reducible show Al _ (evE _ _ (.cmp _ _ _) _ _)); refine al_cmp ?_ | (with_reducible show Al _ (evE _ _ (.bi _ _) _ _)); refine al_bi ?_ | (with_reducible show Al _ (evE _ _ (.tup _) _ _)); refine al_tup ?_ | (with_reducible show Al _ (evE _ _ (.lst _) _ _)); refine al_lst ?_ | (with_reducible show Al _ (exS _ _ _ (.ret _) _ _)); refine al_ret ?_ | (with_reducible show Al _ (exS _ _ _ (.asg (.nm _) _) _ _)); refine al_asg ?_ | (with_reducible show Al _ (exS _ _ _ (.asg (.tp _) _) _ _)); refine al_asgt ?_ | (with_reducible show Al _ (exSs _ _ _ (.asg _ _ :: _) _ _)); refine al_ss ?_ | (with_reducible show Al _ (exSs _ _ _ (.ret _ :: _) _ _)); refine al_ss ?_)
  refine Al.ok (c7 _) ?_
  refine al_nil ⟨small _ (by decide), ?_⟩
  refine Al.ok (a := .ref (h1.length + 2)) (h := h1 ++ [.lst (told.take 6)] ++ [.lst [.int 13835058055282163712]] ++ [.lst told]) ?_ ?_
  · have s7 : 6 + 1 ≤ sizeLine := small _ (by decide)
    simp [pBin, told, s7]
  refine Al.ok (a := .ref (h1.length + 3)) (h := h1 ++ [.lst (told.take 6)] ++ [.lst [.int 13835058055282163712]] ++ [.lst told] ++ [.lst told]) ?_ ?_
  · have s7 : 7 ≤ sizeLine := small _ (by decide)
    have s2 : 2 ≤ sizeLine := small _ (by decide)
    have hb : big 3 4611686018427387904 = true := by decide +kernel
    simp [evE, evEs, Res.bind, pBin, hb, told, s7, s2]
  refine Al.ok (a := .bl true) (h := h1 ++ [.lst (told.take 6)] ++ [.lst [.int 13835058055282163712]] ++ [.lst told] ++ [.lst told]) ?_ rfl
  have q := told_eq (h := h1 ++ [.lst (told.take 6)] ++ [.lst [.int 13835058055282163712]] ++ [.lst told] ++ [.lst told]) (m := h1.length + 2) (k := h1.length + 3) (by simp) (by simp)
  simp only [pCmp, q, ob]
theorem law_al {ns : List Int} (hn : ns.length ≤ 63) : Al (fun v _ => v = .bl true) (call 12 29 [.frk (ns.map .int)] []) := by
  rw [call_run (d := d_law) rfl rfl]
  refine al_run rfl ?_
  show Al _ (exSs T (call 11) 0 b_law [some (.frk (ns.map .int)), none, none, none, none] [])
  obtain ⟨N, hN, eN⟩ := law_len (xs := ns.map .int) (by simpa using hn)
  have hI : ∀ ρ h, ρ[0]? = some (some (.frk (ns.map .int))) → evI T (call 11) .rng [.bi .max [.con (.int 1), .bi .min [.con (.int 5), .bi .len [.var 0]]]] ρ h = .ok (.fix ((List.range N).map fun (i : Nat) => .int i), N) h := fun ρ h h0 => evI_rng (eN ρ h h0) (by omega)
  have hints : ∀ l : List Int, (intsOf (l.map .int)).isSome = true := fun l => by
    induction l with
    | nil => rfl
    | cons a l ih =>
      obtain ⟨w, e⟩ := Option.isSome_iff_exists.mp ih
      simp only [List.map_cons, intsOf, e, Option.map_some, Option.isSome_some]
  unfold b_law
  refine al_ss (al_for (w := .fix ((List.range N).map fun (i : Nat) => .int i)) (N := N) (h1 := []) (Inv := fun i ρ h' => ∃ z1 z3 z4, ρ = [some (.frk (ns.map .int)), z1, none, z3, z4]) (hI _ _ rfl) ?_ ?_ ⟨_, _, _, rfl⟩)
  · rintro i hi ρ h' ⟨z1, z3, z4, rfl⟩
    refine ⟨.int i, fix_at (by simp [hi]), ?_⟩
    unfold forB
    simp only [bindTg]
    show Al _ (exSs T (call 11) 0 [.asg (.nm 3) (.call 15 [.var 0, .var 1]), .for_ (.nm 4) .rng [.con (.int 3)] [.ite (.or (.not (.call 26 [.var 3])) (.or (.not (.call 27 [.var 3])) (.not (.call 28 [.var 3])))) [.ret (.con (.bl false))] []]] [some (.frk (ns.map .int)), some (.int i), none, z3, z4] h')
    repeat (first | (with_reducible show Al _ (evEs _ _ (_ :: _) _ _)); refine al_cons (fun _ e => nomatch e) ?_ | (with_reducible show Al _ (evEs _ _ [] _ _)); refine al_nil ?_ | (with_reducible show Al _ (evE _ _ (.var _) _ _)); refine al_var rfl ?_ | (with_reducible show Al _ (evE _ _ (.con _) _ _)); refine al_con ?_ | (with_reducible show Al _ (evE _ _ (.call _ _) _ _)); refine al_call rfl ?_ | (with_reducible show Al _ (evE _ _ (.bin _ _ _) _ _)); refine al_bin ?_ | (with_reducible show Al _ (evE _ _ (.cmp _ _ _) _ _)); refine al_cmp ?_ | (with_reducible show Al _ (evE _ _ (.bi _ _) _ _)); refine al_bi ?_ | (with_reducible show Al _ (evE _ _ (.tup _) _ _)); refine al_tup ?_ | (with_reducible show Al _ (evE _ _ (.lst _) _ _)); refine al_lst ?_ | (with_reducible show Al _ (exS _ _ _ (.ret _) _ _)); refine al_ret ?_ | (with_reducible show Al _ (exS _ _ _ (.asg (.nm _) _) _ _)); refine al_asg ?_ | (with_reducible show Al _ (exS _ _ _ (.asg (.tp _) _) _ _)); refine al_asgt ?_ | (with_reducible show Al _ (exSs _ _ _ (.asg _ _ :: _) _ _)); refine al_ss ?_ | (with_reducible show Al _ (exSs _ _ _ (.ret _ :: _) _ _)); refine al_ss ?_)
    refine Al.ok (e_dice (n := 10) (hints ns) (by omega)) ?_
    refine al_ss ((law_turns (b := 0) (l := h'.length) (v0 := some (.frk (ns.map .int))) (v1 := some (.int i)) (z2 := none) (z4 := z4) ⟨2 ^ 63, get_last, by decide⟩).imp fun f h2 ⟨z4', ef, g⟩ => ?_)
    subst ef
    exact al_nx ⟨_, _, _, rfl⟩
  · rintro ρ h' ⟨z1, z3, z4, rfl⟩
    refine ⟨by simpa using fix_end (xs := (List.range N).map fun (i : Nat) => PV.int i) (h := h'), ?_⟩
    refine law_end.imp fun f h2 ef => ?_
    subst ef
    rfl
end K04
set_option Elab.async false
set_option linter.all false
set_option maxRecDepth 100000
set_option maxHeartbeats 0
namespace K04
open PySem PySem.Spec PyProof.Rows L2 Mn
def Tr : Res PV → Prop
  | .ok v _ => v = .bl true
  | .er _ _ => False
  | .stuck => False
  | .all n k => ∀ i < n, Tr (k i)
theorem Tr.ok {G : Gm} {E : XK} {as : List Addr} {H : Hp} {r : Res PV} (t : Tr r) : OkV G E as H (fun v _ => v = .bl true) r := by
  induction r with
  | ok v h =>
    intro as' H' v' f r
    have e : v = .bl true := t
    rw [e] at r
    exact RepV.blE r
  | er x h => exact False.elim t
  | stuck => exact False.elim t
  | all n f ih => exact fun i hi => ih i (t i hi)
theorem al_tr {r : Res PV} (h : Al (fun v _ => v = .bl true) r) : Tr r := by
  induction h with
  | ret p => exact p
  | draw q ih => exact ih
theorem core (ns : List Int) (h : ns.length ≤ 63) : Tr (call 12 29 [.frk (ns.map .int)] []) := al_tr (law_al h)
theorem spOk (K : PySem.W.Frag) : SpOk (gm K) T 0 defs spec := by
  intro i d r hd hs n as H h xs vs Q E S R hl o
  unfold spec at hs
  split at hs
  · cases hs
    cases hd
    exact ⟨as, h, S, R, dice_ok rfl rfl rfl hl o⟩
  · cases hs
    cases hd
    obtain ⟨h', S', o'⟩ := roll_ok (d := d__law_roll) rfl rfl rfl S hl o
    exact ⟨as, h', S', R, o'⟩
  · cases hs
def spLaw (K : PySem.W.Frag) : Sp := spF (gm K) (call 12) 29 1
theorem frk_ints {G : Gm} {as : List Addr} {H : Hp} : ∀ ns : List Int, RepVs G as H (ns.map .int) (ns.map V.int)
  | [] => .nil
  | n :: ns => .cons (.int n) (frk_ints ns)
theorem law_sp {K : PySem.W.Frag} {H : Hp} {a : Addr} {ns : List Int} (hl : ns.length ≤ 63) (hO : Only H) (hS : SqL K H a (ns.map V.int)) : spLaw K [.ref a] H (fun v _ => v = .bl true) fun _ _ _ => False := by
  have hF : SqF K H a (ns.map V.int) := by
    rcases hS with (h | ⟨o, h⟩) | h
    · rcases hO a with q | ⟨o, xs, q⟩
      · rw [q] at h; cases h
      · rw [q] at h; cases h
    · exact .inl ⟨o, h⟩
    · exact .inr h
  refine ⟨rfl, [], [], [.frk (ns.map .int)], ⟨List.nodup_nil, rfl, fun l o a e => by simp at e⟩, .cons ?_ .nil, (core ns hl).ok⟩
  unfold RepV
  exact ⟨a, ns.map V.int, rfl, hF, frk_ints ns⟩
abbrev RowK : PySem.W.OpenRow := PySem.W.OpenLaw.row PySem.Challenge.rw_deedline_k04_hashes_spots_and_check_sums
def asL : List Addr := [3, 6, 4, 24, 44, 63, 73, 81, 88, 95, 102, 109, 117, 124, 131, 136, 143, 150, 157, 164, 171, 178, 185, 192, 199, 206, 213, 220, 227, 234, 241, 246, 253, 260, 267, 274, 0, 23, 43, 62, 72, 80, 74, 87, 94, 101, 108, 116, 110, 123, 130, 135, 142, 149, 156, 163, 170, 177, 184, 191, 198, 205, 212, 219, 226, 233, 240, 245, 252, 259, 266, 273, 22, 25, 41, 42, 60, 61, 64, 67, 68, 69, 70, 71, 75, 76, 77, 78, 79, 82, 83, 84, 85, 86, 89, 90, 91, 92, 93, 96, 97, 98, 99, 100, 103, 104, 105, 106, 107, 111, 112, 113, 114, 115, 118, 119, 120, 121, 122, 125, 126, 127, 128, 129, 132, 133, 134, 137, 138, 139, 140, 141, 144, 145, 146, 147, 148, 151, 152, 153, 154, 155, 158, 159, 160, 161, 162, 165, 166, 167, 168, 169, 172, 173, 174, 175, 176, 179, 180, 181, 182, 183, 186, 187, 188, 189, 190, 193, 194, 195, 196, 197, 200, 201, 202, 203, 204, 207, 208, 209, 210, 211, 214, 215, 216, 217, 218, 221, 222, 223, 224, 225, 228, 229, 230, 231, 232, 235, 236, 237, 238, 239, 242, 243, 244, 247, 248, 249, 250, 251, 254, 255, 256, 257, 258, 261, 262, 263, 264, 265, 268, 269, 270, 271, 272, 40, 59, 35, 36, 37, 38, 39, 54, 55, 56, 57, 58]
def hkL (as : List Addr) (ck : PySem.W.Frag → Bool) (fa : List He.Fa) (fn : List DA) : PySem.W.Hook where
  α := He.AlD
  obs := fun s => obM ck fa fn (He.frG s.heap.get? as)
  val := fun _ => vaM fn
  says := fun _ h => ∃ K : PySem.W.Frag, K.In h ∧ SaM ck fa fn K
  of := fun _ _ e => ⟨_, He.frG_in, e⟩
  keeps := fun _ _ _ ⟨K, i, c⟩ k => ⟨K, PySem.W.Frag.In.keeps i k, c⟩
abbrev hk : PySem.W.Hook := hkL asL ck fa fn
def ob (s : PySem.W.SharedT) : He.AlD := obM ck fa fn (He.frG (HandSHeadRun.getT s) asL)
theorem ob_eq (s : PySem.W.SharedT) : ob s = hk.obs s.abs := by
  show obM ck fa fn (He.frG (HandSHeadRun.getT s) asL) = obM ck fa fn (He.frG s.abs.heap.get? asL)
  rw [show HandSHeadRun.getT s = s.abs.heap.get? from funext (HandSHeadRun.getT_eq s)]
theorem parts3 {S α β γ : Type} {o : Option S} {f : S → α} {g : S → β} {k : S → γ} {a : α} {b : β} {c : γ} (h1 : o.map f = some a) (h2 : o.map g = some b) (h3 : o.map k = some c) : o.map (fun s => (f s, g s, k s)) = some (a, b, c) := by
  cases o with
  | none => cases h1
  | some s =>
    have e1 : f s = a := Option.some.inj h1
    have e2 : g s = b := Option.some.inj h2
    have e3 : k s = c := Option.some.inj h3
    show some (f s, g s, k s) = _
    rw [e1, e2, e3]
theorem run1 (w : World) (os : OsState) : (HandSHeadRun.endF (HandSHeadRun.stepQ (HandSHeadRun.denQ HandSHeadRun.tabQ) RowK.prog w) 12000 RowK.prog w os).map (fun s => HandSHeadRun.looksF RowK.prog (PySem.W.boot_heap w.params) s.abs) = some true := by kernel_rfl
theorem run2 (w : World) (os : OsState) : (HandSHeadRun.endF (HandSHeadRun.stepQ (HandSHeadRun.denQ HandSHeadRun.tabQ) RowK.prog w) 12000 RowK.prog w os).map (fun s => HandSHeadRun.seenQ (PySem.W.view RowK.prog [lawTop]) loose (PySem.importedModules RowK.prog.main.body) (fun s => PySem.W.xlAt (PySem.W.view RowK.prog [lawTop]) [] s && PySem.W.recOk RowK.toRowW.records s) s.abs) = some (PySem.W.openGood (PySem.W.view RowK.prog [lawTop]) loose) := by kernel_rfl
theorem run3 (w : World) (os : OsState) : (HandSHeadRun.endF (HandSHeadRun.stepQ (HandSHeadRun.denQ HandSHeadRun.tabQ) RowK.prog w) 12000 RowK.prog w os).map ob = some (hk.val w) := by kernel_rfl
theorem run (w : World) : HandSHeadRun.RunEq RowK (PySem.W.view RowK.prog [lawTop]) hk ob 12000 loose w := fun os => parts3 (run1 w os) (run2 w os) (run3 w os)
def CXw (P : Program) : CXT := fun outer H s E e s' => ∃ w, L2.CX P w outer H s E e s'
theorem fnok_cx {P : Program} {w : World} {K : PySem.W.Frag} {mg : Str → Option Value} {base : Heap} {CX CX' : CXT} {k : Nat} {f : Addr} {fd : FuncData} {ps : List Str} {sp : Sp} (F : FnOk P w K mg base CX k f fd ps sp) (h : ∀ o H s E e s', CX o H s E e s' → CX' o H s E e s') : FnOk P w K mg base CX' k f fd ps sp :=
  ⟨F.len, fun A outer s H args us vs Q E hr he hb hv hs => codeAny_mono (F.run A outer s H args us vs Q E hr he hb hv hs) fun r s' q => by
    cases r with
    | error e => exact h _ _ _ _ _ _ q
    | ok fl => cases fl <;> exact q⟩
theorem facts {P : Program} {w : World} {K : PySem.W.Frag} {h : Heap} {mg : Str → Option Value} {f : Addr} (X : K.In h) (G : h.Ns mainGlobals mg) (hfa : mg ("law" : Str) = some (.ref f)) (c : SaM ck fa fn K) :
    ∃ fd : FuncData, (∀ (s : Shared) (v : Value), BindsTo s fd ⟨[v], []⟩ [("_law_script", v)]) ∧ ∀ base : Heap, K.In base → base.Ns mainGlobals mg → FnOk P w K mg base (CXw P) 24 f fd ["_law_script"] (spLaw K) := by
  obtain ⟨fd, F⟩ := c.def_ 29 (d := D_law) rfl
  have e := hfa.symm.trans (He.glo_ok X G (c.fact 29 (f := .glo "law") rfl))
  cases e
  have b := FunD.bindsA (ps := ["_law_script"]) F fun _ _ _ _ _ _ us hl => match us, hl with | [_], _ => rfl
  refine ⟨fd, fun s v => b s [v] rfl, fun base _ _ => ?_⟩
  have D : DOk (gm K) T nm K 29 d_law fd := ⟨⟨_, _, _, _, _, ⟨_, _, F⟩, S_law, .inl c_law⟩, F.bindsN fun _ _ _ _ _ _ us hl => match us, hl with | [_], _ => rfl, F.kp, dfl_none (by decide)⟩
  refine fnok_cx (CX := L2.CX P w) ?_ fun o H s E e s' q => ⟨w, q⟩
  exact fn_mini (W := 0) (i := 29) (gok X G c) D (all_fns (P := P) (w := w) (base := base) (gok X G c) (dok c) (spOk K) 11)
end K04
open PySem PySem.W PySem.Calls PyProof.Rows
theorem PySem.Challenge.cw_deedline_k04_hashes_spots_and_check_sums_holds : PySem.Challenge.rw_deedline_k04_hashes_spots_and_check_sums.Holds := by
  w_on; o_law
  refine HandSHeadRun.head_any (r := OpenLaw.row PySem.Challenge.rw_deedline_k04_hashes_spots_and_check_sums) (q := view (OpenLaw.row PySem.Challenge.rw_deedline_k04_hashes_spots_and_check_sums).prog [K04.lawTop]) (H := K04.hk) (ob := K04.ob) (M := 12000) (loose := K04.loose) (d := HandSHeadRun.topDef (OpenLaw.row PySem.Challenge.rw_deedline_k04_hashes_spots_and_check_sums).prog K04.lawTop) (kwd := []) K04.ob_eq
    (by kernel_rfl) (fun s => by kernel_rfl) K04.run (by kernel_rfl) (by kernel_rfl) (by kernel_rfl) (by rfl) (by first | assumption | decide +kernel) (by decide +kernel) ⟨rfl, rfl, rfl, rfl, rfl, by decide +kernel⟩ ?hw ?hc
  case hw => w_witness2
  case hc =>
    refine L2.walk_ofE (l := PySem.Challenge.rw_deedline_k04_hashes_spots_and_check_sums) (n := 63) (k := 24) (x := "_law_script") (CX := K04.CXw (PySem.Challenge.rw_deedline_k04_hashes_spots_and_check_sums).prog) rfl (by decide) (by kernel_rfl) ⟨rfl, by decide, by decide⟩ ?F ?G
    case G =>
      intro H s e s' h
      obtain ⟨_, _, _, _, _, _, _, _, _, _, _, _, _, q⟩ := h
      exact q
    intro w mg fa h Y G hmg0
    obtain ⟨K, KX, c⟩ := Y
    have hmg : mg ("law" : PySem.Str) = some (.ref fa) := by
      have e : (HandSHeadRun.topDef (OpenLaw.row PySem.Challenge.rw_deedline_k04_hashes_spots_and_check_sums).prog K04.lawTop).name = ("law" : PySem.Str) := by kernel_rfl
      rw [← e]
      exact hmg0
    obtain ⟨fd, hb, hF⟩ := K04.facts (P := (PySem.Challenge.rw_deedline_k04_hashes_spots_and_check_sums).prog) (w := w) KX G hmg c
    exact ⟨K, fd, K04.spLaw K, KX, hb, fun H a ns hl hO hS => K04.law_sp hl hO hS, hF⟩
