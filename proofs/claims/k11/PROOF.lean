import PyProof.Rows.All
import Wide.All
import OpenK.AllK
import Wide.FinOn
import HandS.ForMost
import HandS.ForExc
import HandS.IsInst
import HandS.Wide
import HandS.EndBits
import HandS.HotCalls
import HandS.ExcInit
import HandS.ExcField
import HandS.ExcIs
import HandS.TupMul
import HandS.TupAny
import HandS.WideBits
import HandS.Style
import HandS.Deep
import HandS.Flow
import HandS.RevRange
import HandS.Conv
import HandS.Zip
import KE.GoesMore
import KE.GoesEnum
import HandS.Small
import HandS.Replace
import HandS.MakeKwOnly
import HandS.Defaults
import HandS.HeadHook4
import HandS.HeadEnd
import HandS.Head2
import PySem.Challenge.RW_picturetide_k11_numbers
set_option Elab.async false
set_option linter.all false
set_option maxRecDepth 100000
/-! M1: the small semantics' values and heap, and how they stand in the model. -/
namespace Mp
open PySem PySem.Spec PyProof.Rows L2
abbrev Fg := PySem.W.Frag
inductive MV where
  | non | bl (b : Bool) | int (i : Int) | str (x : Str)
  /-- a list that nobody changes any more -/
  | lst (xs : List MV) | tup (xs : List MV)
  /-- a tuple of the module's -/
  | ktup (xs : List MV)
  /-- the script -/
  | scr (ns : List Int)
  /-- an object of the small heap -/
  | ref (n : Nat)
  /-- a def, as a value -/
  | fn (x : Str)
inductive MO where
  | lst (xs : List MV) | dK (kvs : List (Key × MV)) | dT (kvs : List (List Key × MV)) | ins (c : Str) (fs : List (Str × MV)) | gone
/-- what never changes -/
def ImO : HO → Prop
  | .tup _ => True
  | .frz _ _ => True
  | _ => False
theorem sqt_im {K : Fg} {H H' : Hp} (im : ∀ a o, H a = some o → ImO o → H' a = some o) {a : Addr} {xs : List V} (h : SqT K H a xs) : SqT K H' a xs := by
  rcases h with h | h
  · refine .inl ?_
    rcases h with h | ⟨o, h⟩
    · exact .inl (im a _ h True.intro)
    · exact .inr ⟨o, im a _ h True.intro⟩
  · exact .inr h
abbrev MHp := List MO
abbrev Mm := List (Option Addr)
/-- what stands at an address, behind a growth: a code object's table may have got longer, all else stands -/
def Gr : HO → Option HO → Prop
  | .tbl ps, x => ∃ more, x = some (.tbl (ps ++ more)) ∧ (TriplesOk ps.toList → TriplesOk (ps ++ more).toList)
  | o, x => x = some o
theorem Gr.of {o : HO} {x : Option HO} (h : x = some o) : Gr o x := by
  cases o <;> first | exact h | exact ⟨#[], by rw [h, Array.append_empty], fun z => by rw [Array.append_empty]; exact z⟩
theorem Gr.trans {o : HO} {x y : Option HO} (h : Gr o x) (k : ∀ u, x = some u → Gr u y) : Gr o y := by
  cases o <;> first
    | exact k _ h
    | (obtain ⟨m, e, t⟩ := h
       obtain ⟨m2, e2, t2⟩ := k _ e
       exact ⟨m ++ m2, by rw [e2, Array.append_assoc], fun z => by rw [← Array.append_assoc]; exact t2 (t z)⟩)
theorem Gr.ne {o : HO} {x : Option HO} (h : Gr o x) : x ≠ none := by
  cases o <;> first | (rw [show x = _ from h]; simp) | (obtain ⟨m, e, _⟩ := h; rw [e]; simp)
def TabAt (G : Hp) (P : Addr) : Prop := ∃ ps, G P = some (.tbl ps) ∧ TriplesOk ps.toList
structure Sx where
  K : Fg
  mg : Str → Option Value
  /-- the code objects' tables that may grow -/
  T : Addr → Prop
  /-- lists that are being made -/
  F : Addr → Prop
  /-- a caught exception's dict, its fields -/
  xd : List (Addr × List (Str × MV))
/-- a list to be read: none of m's objects -/
def SqF (K : Fg) (F : Addr → Prop) (m : Mm) (H : Hp) (a : Addr) (xs : List V) : Prop :=
  (Rd H a (.lst xs) ∧ (∀ n : Nat, m[n]? ≠ some (some a)) ∧ ¬ F a) ∨
    ∃ (o : Obj) (its : Array Value) (n : Nat), K.lookup a = some o ∧ o.cls = .type "list" ∧ o.dict = none ∧ o.data = .seq its n ∧ its.size ≤ sizeLine ∧ Vals xs its.toList
theorem SqF.l {K : Fg} {F : Addr → Prop} {m : Mm} {H : Hp} {a : Addr} {xs : List V} (h : SqF K F m H a xs) : SqL K H a xs := h.imp (·.1) id
mutual
inductive VR (S : Sx) (m : Mm) (H : Hp) : V → MV → Prop
  | non : VR S m H .non .non
  | bl (b : Bool) : VR S m H (.bl b) (.bl b)
  | int (i : Int) : VR S m H (.int i) (.int i)
  | str (x : Str) : VR S m H (.str x) (.str x)
  | lst {a : Addr} {xs : List V} {ds : List MV} : H a = some (.lst xs) → (∀ n : Nat, m[n]? ≠ some (some a)) → ¬ S.F a → VRs S m H xs ds → VR S m H (.ref a) (.lst ds)
  | tup {a : Addr} {xs : List V} {ds : List MV} : H a = some (.tup xs) → VRs S m H xs ds → VR S m H (.ref a) (.tup ds)
  | ktup {a : Addr} {xs : List V} {ds : List MV} : SqT S.K H a xs → VRs S m H xs ds → VR S m H (.ref a) (.ktup ds)
  | scr {a : Addr} {ns : List Int} : SqF S.K S.F m H a (ns.map V.int) → VR S m H (.ref a) (.scr ns)
  | ref {a : Addr} {n : Nat} : m[n]? = some (some a) ∨ m[n]? = some none → VR S m H (.ref a) (.ref n)
  | fn {a : Addr} {x : Str} : S.mg x = some (.ref a) → VR S m H (.ref a) (.fn x)
inductive VRs (S : Sx) (m : Mm) (H : Hp) : List V → List MV → Prop
  | nil : VRs S m H [] []
  | cons {v : V} {vs : List V} {d : MV} {ds : List MV} : VR S m H v d → VRs S m H vs ds → VRs S m H (v :: vs) (d :: ds)
end
/-- a step of the model's heap that the small heap follows -/
structure Stp (S : Sx) (m : Mm) (H : Hp) (m' : Mm) (H' : Hp) : Prop where
  len : m.length ≤ m'.length
  old : ∀ n : Nat, n < m.length → m'[n]? = m[n]? ∨ m'[n]? = some none
  new : ∀ (n : Nat) (a : Addr), m'[n]? = some (some a) → m[n]? = some (some a) ∨ H a = none
  fr : ∀ a o, H a = some o → (∀ n : Nat, m[n]? ≠ some (some a)) → Gr o (H' a)
  pr : ∀ a, H a ≠ none → H' a ≠ none
  im : ∀ a o, H a = some o → ImO o → H' a = some o
section
variable {S : Sx} {m m1 m2 m' : Mm} {H H1 H2 H' : Hp}
theorem Stp.refl : Stp S m H m H := ⟨Nat.le_refl _, fun _ _ => .inl rfl, fun _ _ h => .inl h, fun _ _ h _ => .of h, fun _ h => h, fun _ _ h _ => h⟩
theorem Stp.keepNot {a : Addr} (s : Stp S m H m' H') (h : H a ≠ none) (k : ∀ n : Nat, m[n]? ≠ some (some a)) : ∀ n : Nat, m'[n]? ≠ some (some a) := fun n e => by
  rcases s.new n a e with z | z
  · exact k n z
  · exact h z
theorem Stp.trans (s : Stp S m H m1 H1) (t : Stp S m1 H1 m2 H2) : Stp S m H m2 H2 where
  len := Nat.le_trans s.len t.len
  old := fun n hn => by
    rcases t.old n (Nat.lt_of_lt_of_le hn s.len) with e | e
    · rw [e]; exact s.old n hn
    · exact .inr e
  new := fun n a e => by
    rcases t.new n a e with z | z
    · exact s.new n a z
    · refine .inr ?_
      cases q : H a with
      | none => rfl
      | some o => exact absurd z (s.pr a (by rw [q]; simp))
  fr := fun a o h k => (s.fr a o h k).trans fun u hu => t.fr a u hu (s.keepNot (by rw [h]; simp) k)
  pr := fun a h => t.pr a (s.pr a h)
  im := fun a o h i => t.im a o (s.im a o h i) i
theorem Rd.step {a : Addr} {u : HO} (s : Stp S m H m' H') (k : ∀ n : Nat, m[n]? ≠ some (some a)) (hu : ∀ ps, u ≠ .tbl ps) (h : Rd H a u) : Rd H' a u := by
  rcases h with h | ⟨o, h⟩
  · refine .inl ?_
    have := s.fr a _ h k
    cases u <;> first | exact this | exact absurd rfl (hu _)
  · exact .inr ⟨o, s.fr a _ h k⟩
theorem SqF.step {a : Addr} {xs : List V} (s : Stp S m H m' H') (h : SqF S.K S.F m H a xs) : SqF S.K S.F m' H' a xs := by
  rcases h with ⟨h, k, nf⟩ | h
  · refine .inl ⟨Rd.step s k (fun _ z => nomatch z) h, s.keepNot ?_ k, nf⟩
    rcases h with h | ⟨o, h⟩ <;> rw [h] <;> simp
  · exact .inr h
mutual
theorem VR.step (s : Stp S m H m' H') : ∀ {v : V} {d : MV}, VR S m H v d → VR S m' H' v d
  | _, _, .non => .non
  | _, _, .bl b => .bl b
  | _, _, .int i => .int i
  | _, _, .str x => .str x
  | _, _, .lst h k nf a => .lst (s.fr _ _ h k) (s.keepNot (by rw [h]; simp) k) nf (VRs.step s a)
  | _, _, .tup h a => .tup (s.im _ _ h True.intro) (VRs.step s a)
  | _, _, .ktup h a => .ktup (sqt_im s.im h) (VRs.step s a)
  | _, _, .scr h => .scr (h.step s)
  | _, _, .ref (n := n) h => .ref (by
      have hn : n < m.length := by rcases h with h | h <;> exact (List.getElem?_eq_some_iff.mp h).1
      rcases s.old n hn with e | e
      · rw [e]; exact h
      · exact .inr e)
  | _, _, .fn h => .fn h
theorem VRs.step (s : Stp S m H m' H') : ∀ {vs : List V} {ds : List MV}, VRs S m H vs ds → VRs S m' H' vs ds
  | _, _, .nil => .nil
  | _, _, .cons h a => .cons (VR.step s h) (VRs.step s a)
end
theorem vr_int {v : V} {i : Int} (h : VR S m H v (.int i)) : v = .int i := by cases h; rfl
theorem vr_bl {v : V} {b : Bool} (h : VR S m H v (.bl b)) : v = .bl b := by cases h; rfl
theorem vr_str {v : V} {x : Str} (h : VR S m H v (.str x)) : v = .str x := by cases h; rfl
theorem vr_non {v : V} (h : VR S m H v .non) : v = .non := by cases h; rfl
theorem vr_ref {v : V} {n : Nat} {a : Addr} (h : VR S m H v (.ref n)) (e : m[n]? = some (some a)) : v = .ref a := by
  cases h with
  | ref h =>
    rcases h with h | h <;> rw [e] at h <;> cases h
    rfl
theorem VRs.length : ∀ {vs : List V} {ds : List MV}, VRs S m H vs ds → vs.length = ds.length
  | _, _, .nil => rfl
  | _, _, .cons _ a => congrArg (· + 1) (VRs.length a)
theorem VRs.get : ∀ {vs : List V} {ds : List MV} {i : Nat} {d : MV}, VRs S m H vs ds → ds[i]? = some d → ∃ v, vs[i]? = some v ∧ VR S m H v d
  | _, _, _, _, .nil, e => by simp at e
  | _, _, 0, _, .cons h _, e => by
    simp at e; subst e; exact ⟨_, rfl, h⟩
  | _, _, i + 1, d, .cons _ a, e => by
    obtain ⟨v, h1, h2⟩ := VRs.get (i := i) (d := d) a (by simpa using e)
    exact ⟨v, by simpa using h1, h2⟩
theorem VRs.get' : ∀ {vs : List V} {ds : List MV} {i : Nat} {v : V}, VRs S m H vs ds → vs[i]? = some v → ∃ d, ds[i]? = some d ∧ VR S m H v d
  | _, _, _, _, .nil, e => by simp at e
  | _, _, 0, _, .cons h _, e => by
    simp at e; subst e; exact ⟨_, rfl, h⟩
  | _, _, i + 1, d, .cons _ a, e => by
    obtain ⟨v, h1, h2⟩ := VRs.get' (i := i) (v := d) a (by simpa using e)
    exact ⟨v, by simpa using h1, h2⟩
theorem VRs.append : ∀ {vs ws : List V} {ds es : List MV}, VRs S m H vs ds → VRs S m H ws es → VRs S m H (vs ++ ws) (ds ++ es)
  | _, _, _, _, .nil, b => b
  | _, _, _, _, .cons h a, b => .cons h (VRs.append a b)
theorem VRs.take : ∀ {vs : List V} {ds : List MV} (n : Nat), VRs S m H vs ds → VRs S m H (vs.take n) (ds.take n)
  | _, _, 0, _ => .nil
  | _, _, _ + 1, .nil => .nil
  | _, _, n + 1, .cons h a => .cons h (VRs.take n a)
theorem VRs.drop : ∀ {vs : List V} {ds : List MV} (n : Nat), VRs S m H vs ds → VRs S m H (vs.drop n) (ds.drop n)
  | _, _, 0, h => h
  | _, _, _ + 1, .nil => .nil
  | _, _, n + 1, .cons _ a => VRs.drop n a
theorem VRs.set {v : V} {d : MV} (r : VR S m H v d) : ∀ {vs : List V} {ds : List MV} (i : Nat), VRs S m H vs ds → VRs S m H (vs.set i v) (ds.set i d)
  | _, _, _, .nil => .nil
  | _, _, 0, .cons _ t => .cons r t
  | _, _, i + 1, .cons q t => .cons q (VRs.set r i t)
theorem VRs.reverse : ∀ {vs : List V} {ds : List MV}, VRs S m H vs ds → VRs S m H vs.reverse ds.reverse
  | _, _, .nil => .nil
  | _, _, .cons h a => by
    simp only [List.reverse_cons]
    exact (VRs.reverse a).append (.cons h .nil)
theorem vrs_ints : ∀ (ns : List Int), VRs S m H (ns.map V.int) (ns.map MV.int)
  | [] => .nil
  | n :: r => .cons (.int n) (vrs_ints r)
theorem vrs_ints' : ∀ {vs : List V} {ns : List Int}, VRs S m H vs (ns.map MV.int) → vs = ns.map V.int
  | [], [], _ => rfl
  | _, _ :: _, .cons h a => by rw [vr_int h, vrs_ints' a]; rfl
theorem vrs_strs' : ∀ {vs : List V} {ns : List Str}, VRs S m H vs (ns.map MV.str) → vs = ns.map V.str
  | [], [], _ => rfl
  | _, _ :: _, .cons h a => by rw [vr_str h, vrs_strs' a]; rfl
end
/-- the same, other lists under way -/
def Sx.wF (S : Sx) (F : Addr → Prop) : Sx := { S with F := F }
theorem Stp.wF {S : Sx} {F : Addr → Prop} {m m' : Mm} {H H' : Hp} (s : Stp S m H m' H') : Stp (S.wF F) m H m' H' := ⟨s.len, s.old, s.new, s.fr, s.pr, s.im⟩
mutual
/-- what is new is none of what was there -/
theorem VR.more {S : Sx} {F : Addr → Prop} {m : Mm} {H : Hp} (hF : ∀ a, F a → S.F a ∨ H a = none) : ∀ {v : V} {d : MV}, VR S m H v d → VR (S.wF F) m H v d
  | _, _, .non => .non
  | _, _, .bl b => .bl b
  | _, _, .int i => .int i
  | _, _, .str x => .str x
  | _, _, .lst h k nf a => .lst h k (fun z => (hF _ z).elim nf fun w => by rw [h] at w; cases w) (VRs.more hF a)
  | _, _, .tup h a => .tup h (VRs.more hF a)
  | _, _, .ktup h a => .ktup h (VRs.more hF a)
  | _, _, .scr h => .scr (h.imp (fun z => ⟨z.1, z.2.1, fun w => (hF _ w).elim z.2.2 fun w => by
      rcases z.1 with h | ⟨o, h⟩ <;> (rw [h] at w; cases w)⟩) id)
  | _, _, .ref h => .ref h
  | _, _, .fn h => .fn h
theorem VRs.more {S : Sx} {F : Addr → Prop} {m : Mm} {H : Hp} (hF : ∀ a, F a → S.F a ∨ H a = none) : ∀ {vs : List V} {ds : List MV}, VRs S m H vs ds → VRs (S.wF F) m H vs ds
  | _, _, .nil => .nil
  | _, _, .cons h a => .cons (VR.more hF h) (VRs.more hF a)
end
mutual
theorem VR.less {S : Sx} {F : Addr → Prop} {m : Mm} {H : Hp} (hF : ∀ a, S.F a → F a) : ∀ {v : V} {d : MV}, VR (S.wF F) m H v d → VR S m H v d
  | _, _, .non => .non
  | _, _, .bl b => .bl b
  | _, _, .int i => .int i
  | _, _, .str x => .str x
  | _, _, .lst h k nf a => .lst h k (fun z => nf (hF _ z)) (VRs.less hF a)
  | _, _, .tup h a => .tup h (VRs.less hF a)
  | _, _, .ktup h a => .ktup h (VRs.less hF a)
  | _, _, .scr h => .scr (h.imp (fun z => ⟨z.1, z.2.1, fun w => z.2.2 (hF _ w)⟩) id)
  | _, _, .ref h => .ref h
  | _, _, .fn h => .fn h
theorem VRs.less {S : Sx} {F : Addr → Prop} {m : Mm} {H : Hp} (hF : ∀ a, S.F a → F a) : ∀ {vs : List V} {ds : List MV}, VRs (S.wF F) m H vs ds → VRs S m H vs ds
  | _, _, .nil => .nil
  | _, _, .cons h a => .cons (VR.less hF h) (VRs.less hF a)
end
mutual
/-- what is written where a list is made -/
theorem VR.putL {S : Sx} {m : Mm} {H : Hp} {D : Addr} {o : HO} {ws : List V} (hD : S.F D) (e : H D = some (.lst ws)) : ∀ {v : V} {d : MV}, VR S m H v d → VR S m (upd H D o) v d
  | _, _, .non => .non
  | _, _, .bl b => .bl b
  | _, _, .int i => .int i
  | _, _, .str x => .str x
  | _, _, .lst (a := b) h k nf a => .lst (by rw [upd_ne (fun z : b = D => nf (by rw [z]; exact hD))]; exact h) k nf (VRs.putL hD e a)
  | _, _, .tup h a => .tup (by rw [upd_ne (ne_of h e fun z => nomatch z)]; exact h) (VRs.putL hD e a)
  | _, _, .ktup h a => .ktup (sqt_im (fun b u hb iu => by rw [upd_ne (ne_of hb e fun z => by subst z; exact iu)]; exact hb) h) (VRs.putL hD e a)
  | _, _, .scr (a := b) h => .scr (by
      rcases h with ⟨h, k, nf⟩ | h
      · refine .inl ⟨?_, k, nf⟩
        have ne : b ≠ D := fun z => nf (by rw [z]; exact hD)
        rcases h with h | ⟨o, h⟩
        · exact .inl (by rw [upd_ne ne]; exact h)
        · exact .inr ⟨o, by rw [upd_ne ne]; exact h⟩
      · exact .inr h)
  | _, _, .ref h => .ref h
  | _, _, .fn h => .fn h
theorem VRs.putL {S : Sx} {m : Mm} {H : Hp} {D : Addr} {o : HO} {ws : List V} (hD : S.F D) (e : H D = some (.lst ws)) : ∀ {vs : List V} {ds : List MV}, VRs S m H vs ds → VRs S m (upd H D o) vs ds
  | _, _, .nil => .nil
  | _, _, .cons h a => .cons (VR.putL hD e h) (VRs.putL hD e a)
end
/-- a step, but for what is being made -/
structure Stw (K : Fg) (G : Addr → Prop) (m : Mm) (H : Hp) (m' : Mm) (H' : Hp) : Prop where
  old : ∀ n : Nat, n < m.length → m'[n]? = m[n]? ∨ m'[n]? = some none
  new : ∀ (n : Nat) (a : Addr), m'[n]? = some (some a) → m[n]? = some (some a) ∨ H a = none
  fr : ∀ a o, H a = some o → (∀ n : Nat, m[n]? ≠ some (some a)) → ¬ G a → Gr o (H' a)
  pr : ∀ a, H a ≠ none → H' a ≠ none
  im : ∀ a o, H a = some o → ImO o → H' a = some o
  len : m.length ≤ m'.length
theorem Stp.w {S : Sx} {G : Addr → Prop} {m m' : Mm} {H H' : Hp} (s : Stp S m H m' H') : Stw S.K G m H m' H' := ⟨s.old, s.new, fun a o h k _ => s.fr a o h k, s.pr, s.im, s.len⟩
section
variable {S : Sx} {K : Fg} {G : Addr → Prop} {m m1 m2 m' : Mm} {H H1 H2 H' : Hp}
theorem Stw.keepNot {a : Addr} (s : Stw K G m H m' H') (h : H a ≠ none) (k : ∀ n : Nat, m[n]? ≠ some (some a)) : ∀ n : Nat, m'[n]? ≠ some (some a) := fun n e => by
  rcases s.new n a e with z | z
  · exact k n z
  · exact h z
theorem Stw.trans (s : Stw K G m H m1 H1) (t : Stw K G m1 H1 m2 H2) : Stw K G m H m2 H2 where
  len := Nat.le_trans s.len t.len
  old := fun n hn => by
    rcases t.old n (Nat.lt_of_lt_of_le hn s.len) with e | e
    · rw [e]; exact s.old n hn
    · exact .inr e
  new := fun n a e => by
    rcases t.new n a e with z | z
    · exact s.new n a z
    · refine .inr ?_
      cases q : H a with
      | none => rfl
      | some o => exact absurd z (s.pr a (by rw [q]; simp))
  fr := fun a o h k g => (s.fr a o h k g).trans fun u hu => t.fr a u hu (s.keepNot (by rw [h]; simp) k) g
  pr := fun a h => t.pr a (s.pr a h)
  im := fun a o h i => t.im a o (s.im a o h i) i
/-- the list at D, that is being made, changes -/
theorem Stw.put {D : Addr} {ws vs : List V} (hG : G D) (e : H D = some (.lst ws)) : Stw K G m H m (upd H D (.lst vs)) where
  len := Nat.le_refl _
  old := fun _ _ => .inl rfl
  new := fun _ _ h => .inl h
  fr := fun a o h _ g => by
    have ne : a ≠ D := fun z => g (by rw [z]; exact hG)
    rw [upd_ne ne]; exact .of h
  pr := fun a h => by
    by_cases ha : a = D
    · subst ha; rw [upd_same]; simp
    · rw [upd_ne ha]; exact h
  im := fun b u hb iu => by rw [upd_ne (ne_of hb e fun z => by subst z; exact iu)]; exact hb
theorem SqF.stw {a : Addr} {xs : List V} (s : Stw K G m H m' H') (h : SqF K G m H a xs) : SqF K G m' H' a xs := by
  rcases h with ⟨h, k, nf⟩ | h
  · refine .inl ⟨?_, s.keepNot ?_ k, nf⟩
    · rcases h with h | ⟨o, h⟩
      · exact .inl (s.fr a _ h k nf)
      · exact .inr ⟨o, s.fr a _ h k nf⟩
    · rcases h with h | ⟨o, h⟩ <;> rw [h] <;> simp
  · exact .inr h
mutual
theorem VR.stw (s : Stw S.K S.F m H m' H') : ∀ {v : V} {d : MV}, VR S m H v d → VR S m' H' v d
  | _, _, .non => .non
  | _, _, .bl b => .bl b
  | _, _, .int i => .int i
  | _, _, .str x => .str x
  | _, _, .lst h k nf a => .lst (s.fr _ _ h k nf) (s.keepNot (by rw [h]; simp) k) nf (VRs.stw s a)
  | _, _, .tup h a => .tup (s.im _ _ h True.intro) (VRs.stw s a)
  | _, _, .ktup h a => .ktup (sqt_im s.im h) (VRs.stw s a)
  | _, _, .scr h => .scr (h.stw s)
  | _, _, .ref (n := n) h => .ref (by
      have hn : n < m.length := by rcases h with h | h <;> exact (List.getElem?_eq_some_iff.mp h).1
      rcases s.old n hn with e | e
      · rw [e]; exact h
      · exact .inr e)
  | _, _, .fn h => .fn h
theorem VRs.stw (s : Stw S.K S.F m H m' H') : ∀ {vs : List V} {ds : List MV}, VRs S m H vs ds → VRs S m' H' vs ds
  | _, _, .nil => .nil
  | _, _, .cons h a => .cons (VR.stw s h) (VRs.stw s a)
end
end
theorem SqF.more {K : Fg} {G F : Addr → Prop} {m : Mm} {H : Hp} {a : Addr} {xs : List V} (hF : ∀ a, F a → G a ∨ H a = none) (h : SqF K G m H a xs) : SqF K F m H a xs :=
  h.imp (fun z => ⟨z.1, z.2.1, fun w => (hF _ w).elim z.2.2 fun w => by
      rcases z.1 with h | ⟨o, h⟩ <;> (rw [h] at w; cases w)⟩) id
/-- pairs of a name (a key) and a value -/
inductive KR {κ : Type} (S : Sx) (m : Mm) (H : Hp) : List (κ × V) → List (κ × MV) → Prop
  | nil : KR S m H [] []
  | cons {k : κ} {v : V} {d : MV} {vs : List (κ × V)} {ds : List (κ × MV)} : VR S m H v d → KR S m H vs ds → KR S m H ((k, v) :: vs) ((k, d) :: ds)
section
variable {κ : Type} {S : Sx} {m m1 m2 m' : Mm} {H H1 H2 H' : Hp}
theorem KR.step (s : Stp S m H m' H') : ∀ {vs : List (κ × V)} {ds : List (κ × MV)}, KR S m H vs ds → KR S m' H' vs ds
  | _, _, .nil => .nil
  | _, _, .cons h a => .cons (h.step s) (KR.step s a)
theorem KR.length : ∀ {vs : List (κ × V)} {ds : List (κ × MV)}, KR S m H vs ds → vs.length = ds.length
  | _, _, .nil => rfl
  | _, _, .cons _ a => congrArg (· + 1) (KR.length a)
/-- how an object of the small heap stands -/
def OR (S : Sx) (m : Mm) (H : Hp) : Option Addr → MO → Prop
  | some a, .lst ds => ∃ vs, H a = some (.lst vs) ∧ VRs S m H vs ds
  | some a, .dK kvs => ∃ ws, H a = some (.dK ws) ∧ KR S m H ws kvs
  | some a, .dT kvs => ∃ ws, H a = some (.dT ws) ∧ KR S m H ws kvs
  | some a, .ins c fs => ∃ Ca dx ws, S.mg c = some (.ref Ca) ∧ H a = some (.ins Ca dx ws) ∧ KR S m H ws fs
  | none, .gone => True
  | _, _ => False
theorem KR.more {F : Addr → Prop} (hF : ∀ a, F a → S.F a ∨ H a = none) : ∀ {vs : List (κ × V)} {ds : List (κ × MV)}, KR S m H vs ds → KR (S.wF F) m H vs ds
  | _, _, .nil => .nil
  | _, _, .cons h a => .cons (h.more hF) (KR.more hF a)
theorem KR.less {F : Addr → Prop} (hF : ∀ a, S.F a → F a) : ∀ {vs : List (κ × V)} {ds : List (κ × MV)}, KR (S.wF F) m H vs ds → KR S m H vs ds
  | _, _, .nil => .nil
  | _, _, .cons h a => .cons (h.less hF) (KR.less hF a)
theorem KR.putL {D : Addr} {o : HO} {ws : List V} (hD : S.F D) (e : H D = some (.lst ws)) : ∀ {vs : List (κ × V)} {ds : List (κ × MV)}, KR S m H vs ds → KR S m (upd H D o) vs ds
  | _, _, .nil => .nil
  | _, _, .cons h a => .cons (h.putL hD e) (KR.putL hD e a)
theorem OR.more {F : Addr → Prop} (hF : ∀ a, F a → S.F a ∨ H a = none) {x : Option Addr} {o : MO} (h : OR S m H x o) : OR (S.wF F) m H x o := by
  cases x with
  | none => cases o <;> first | exact h.elim | exact True.intro
  | some a =>
    cases o with
    | lst ds => obtain ⟨vs, h, r⟩ := h; exact ⟨vs, h, r.more hF⟩
    | dK ds => obtain ⟨vs, h, r⟩ := h; exact ⟨vs, h, r.more hF⟩
    | dT ds => obtain ⟨vs, h, r⟩ := h; exact ⟨vs, h, r.more hF⟩
    | ins c fs => obtain ⟨Ca, dx, ws, hc, h, r⟩ := h; exact ⟨Ca, dx, ws, hc, h, r.more hF⟩
    | gone => exact h.elim
theorem OR.less {F : Addr → Prop} (hF : ∀ a, S.F a → F a) {x : Option Addr} {o : MO} (h : OR (S.wF F) m H x o) : OR S m H x o := by
  cases x with
  | none => cases o <;> first | exact h.elim | exact True.intro
  | some a =>
    cases o with
    | lst ds => obtain ⟨vs, h, r⟩ := h; exact ⟨vs, h, r.less hF⟩
    | dK ds => obtain ⟨vs, h, r⟩ := h; exact ⟨vs, h, r.less hF⟩
    | dT ds => obtain ⟨vs, h, r⟩ := h; exact ⟨vs, h, r.less hF⟩
    | ins c fs => obtain ⟨Ca, dx, ws, hc, h, r⟩ := h; exact ⟨Ca, dx, ws, hc, h, r.less hF⟩
    | gone => exact h.elim
theorem OR.putL {D : Addr} {o' : HO} {ws : List V} (hD : S.F D) (e : H D = some (.lst ws)) (hm : ∀ n : Nat, m[n]? ≠ some (some D)) {x : Option Addr} {o : MO} {k : Nat} (hk : m[k]? = some x) (h : OR S m H x o) : OR S m (upd H D o') x o := by
  cases x with
  | none => cases o <;> first | exact h.elim | exact True.intro
  | some a =>
    have ne : a ≠ D := fun z => hm k (by rw [hk, z])
    cases o with
    | lst ds => obtain ⟨vs, h, r⟩ := h; exact ⟨vs, by rw [upd_ne ne]; exact h, r.putL hD e⟩
    | dK ds => obtain ⟨vs, h, r⟩ := h; exact ⟨vs, by rw [upd_ne ne]; exact h, r.putL hD e⟩
    | dT ds => obtain ⟨vs, h, r⟩ := h; exact ⟨vs, by rw [upd_ne ne]; exact h, r.putL hD e⟩
    | ins c fs => obtain ⟨Ca, dx, ws', hc, h, r⟩ := h; exact ⟨Ca, dx, ws', hc, by rw [upd_ne ne]; exact h, r.putL hD e⟩
    | gone => exact h.elim
structure Rl (S : Sx) (m : Mm) (h : MHp) (H : Hp) : Prop where
  len : m.length = h.length
  inj : ∀ (i j : Nat) (a : Addr), m[i]? = some (some a) → m[j]? = some (some a) → i = j
  ob : ∀ (n : Nat) (o : MO), h[n]? = some o → ∃ x, m[n]? = some x ∧ OR S m H x o
  tb : ∀ P, S.T P → TabAt H P
  fo : ∀ a, S.F a → H a ≠ none ∧ ∀ n : Nat, m[n]? ≠ some (some a)
  xd : ∀ p ∈ S.xd, ∃ ws, H p.1 = some (.xd ws) ∧ KR S m H ws p.2
theorem OR.at {x : Option Addr} {o : MO} {a : Addr} (h : OR S m H x o) (e : x = some a) : ∃ u, H a = some u ∧ (∀ xs, u ≠ .tup xs) ∧ (∀ ps, u ≠ .tbl ps) ∧ (∀ ob w, u ≠ .frz ob w) ∧ (∀ ws, u ≠ .xd ws) := by
  subst e
  cases o with
  | lst ds => obtain ⟨vs, h, _⟩ := h; exact ⟨_, h, (fun _ z => nomatch z), (fun _ z => nomatch z), (fun _ _ z => nomatch z), (fun _ z => nomatch z)⟩
  | dK ds => obtain ⟨vs, h, _⟩ := h; exact ⟨_, h, (fun _ z => nomatch z), (fun _ z => nomatch z), (fun _ _ z => nomatch z), (fun _ z => nomatch z)⟩
  | dT ds => obtain ⟨vs, h, _⟩ := h; exact ⟨_, h, (fun _ z => nomatch z), (fun _ z => nomatch z), (fun _ _ z => nomatch z), (fun _ z => nomatch z)⟩
  | ins c fs => obtain ⟨_, _, _, _, h, _⟩ := h; exact ⟨_, h, (fun _ z => nomatch z), (fun _ z => nomatch z), (fun _ _ z => nomatch z), (fun _ z => nomatch z)⟩
  | gone => exact h.elim
theorem Rl.here {h : MHp} (r : Rl S m h H) {n : Nat} {a : Addr} (e : m[n]? = some (some a)) : ∃ u, H a = some u ∧ (∀ xs, u ≠ .tup xs) ∧ (∀ ps, u ≠ .tbl ps) ∧ (∀ ob w, u ≠ .frz ob w) ∧ (∀ ws, u ≠ .xd ws) := by
  have hn : n < h.length := by rw [← r.len]; exact (List.getElem?_eq_some_iff.mp e).1
  obtain ⟨x, e1, o⟩ := r.ob n _ (List.getElem?_eq_getElem hn)
  rw [e] at e1
  cases e1
  exact o.at rfl
theorem OR.step (s : Stp S m H m' H') {x : Option Addr} {o : MO} (h : OR S m H x o) (e : ∀ a, x = some a → H' a = H a) : OR S m' H' x o := by
  cases x with
  | none => cases o <;> first | exact h.elim | exact True.intro
  | some a =>
    have ea := e a rfl
    cases o with
    | lst ds => obtain ⟨vs, h, r⟩ := h; exact ⟨vs, ea.trans h, r.step s⟩
    | dK ds => obtain ⟨vs, h, r⟩ := h; exact ⟨vs, ea.trans h, r.step s⟩
    | dT ds => obtain ⟨vs, h, r⟩ := h; exact ⟨vs, ea.trans h, r.step s⟩
    | ins c fs => obtain ⟨Ca, dx, ws, hc, h, r⟩ := h; exact ⟨Ca, dx, ws, hc, ea.trans h, r.step s⟩
    | gone => exact h.elim
/-! steps -/
/-- something new is laid that is none of m's -/
theorem Stp.made {p : Addr} {o : HO} (h : H p = none) : Stp S m H m (upd H p o) where
  len := Nat.le_refl _
  old := fun _ _ => .inl rfl
  new := fun _ _ e => .inl e
  fr := fun a u e _ => by rw [upd_ne (ne_of_none e h)]; exact .of e
  pr := fun a e => by
    by_cases hp : a = p
    · subst hp; rw [upd_same]; simp
    · rw [upd_ne hp]; exact e
  im := fun a u e _ => by rw [upd_ne (ne_of_none e h)]; exact e
theorem Rl.made {h : MHp} (r : Rl S m h H) {p : Addr} {o : HO} (hp : H p = none) : Rl S m h (upd H p o) where
  len := r.len
  inj := r.inj
  ob := fun n u e => by
    obtain ⟨x, e1, q⟩ := r.ob n u e
    refine ⟨x, e1, q.step (.made hp) fun a ea => ?_⟩
    obtain ⟨w, hw, _⟩ := q.at ea
    exact upd_ne (ne_of_none hw hp)
  tb := fun P hP => by
    obtain ⟨ps, e, t⟩ := r.tb P hP
    exact ⟨ps, by rw [upd_ne (ne_of_none e hp)]; exact e, t⟩
  fo := fun a fa => ⟨(Stp.made (S := S) (m := m) hp).pr a (r.fo a fa).1, (r.fo a fa).2⟩
  xd := fun p hq => by
    obtain ⟨ws, e, k⟩ := r.xd p hq
    exact ⟨ws, by rw [upd_ne (ne_of_none e hp)]; exact e, k.step (.made hp)⟩
/-- a list (a dict, an instance) of nobody becomes an object of the small heap -/
theorem Stp.push {p : Addr} (s : Stp S m H m' H') (hp : H p = none) : Stp S m H (m' ++ [some p]) H' := {
  len := by rw [List.length_append]; exact Nat.le_trans s.len (Nat.le_add_right _ _)
  old := fun n hn' => by
    rw [List.getElem?_append_left (Nat.lt_of_lt_of_le hn' s.len)]
    exact s.old n hn'
  new := fun n a e => by
    by_cases hl : n < m'.length
    · rw [List.getElem?_append_left hl] at e
      exact s.new n a e
    · rw [List.getElem?_append_right (by omega)] at e
      have : n - m'.length = 0 := by
        cases q : n - m'.length with
        | zero => rfl
        | succ k => rw [q] at e; simp at e
      rw [this] at e
      simp at e
      exact .inr (e ▸ hp)
  fr := s.fr
  pr := s.pr
  im := s.im }
/-- an object of the small heap is written -/
theorem Stp.mut {h : MHp} (r : Rl S m h H) {n : Nat} {a : Addr} {o : HO} (e : m[n]? = some (some a)) : Stp S m H m (upd H a o) where
  len := Nat.le_refl _
  old := fun _ _ => .inl rfl
  new := fun _ _ e => .inl e
  fr := fun b u hb k => by
    have ne : b ≠ a := fun z => k n (z ▸ e)
    rw [upd_ne ne]; exact .of hb
  pr := fun b hb => by
    by_cases ne : b = a
    · subst ne; rw [upd_same]; simp
    · rw [upd_ne ne]; exact hb
  im := fun b o hb ib => by
    obtain ⟨u, hu, n1, n2, n3, _⟩ := r.here e
    have ne : b ≠ a := fun z => by
      subst z
      rw [hb] at hu
      cases hu
      cases o <;> first | exact ib | exact n1 _ rfl | exact n3 _ _ rfl
    rw [upd_ne ne]; exact hb
theorem Rl.mut {h : MHp} (r : Rl S m h H) {n : Nat} {a : Addr} {o : HO} {u : MO} (e : m[n]? = some (some a)) (ho : OR S m (upd H a o) (some a) u) : Rl S m (h.set n u) (upd H a o) where
  len := by rw [List.length_set]; exact r.len
  inj := r.inj
  ob := fun k w ek => by
    by_cases hk : n = k
    · subst hk
      have hl : n < h.length := by rw [← r.len]; exact (List.getElem?_eq_some_iff.mp e).1
      rw [List.getElem?_set_self hl] at ek
      cases ek
      exact ⟨_, e, ho⟩
    · rw [List.getElem?_set_ne hk] at ek
      obtain ⟨x, e1, q⟩ := r.ob k w ek
      refine ⟨x, e1, q.step (.mut r e) fun b eb => upd_ne fun z => hk (r.inj n k a e ?_)⟩
      rw [e1, eb, z]
  tb := fun P hP => by
    obtain ⟨ps, e1, t⟩ := r.tb P hP
    obtain ⟨w, hw, _, n2, _, _⟩ := r.here e
    exact ⟨ps, by rw [upd_ne (ne_of e1 hw fun z => n2 _ z.symm)]; exact e1, t⟩
  fo := fun b fb => ⟨(Stp.mut r e).pr b (r.fo b fb).1, (r.fo b fb).2⟩
  xd := fun p hq => by
    obtain ⟨ws, e1, k⟩ := r.xd p hq
    obtain ⟨w, hw, _, _, _, n4⟩ := r.here e
    exact ⟨ws, by rw [upd_ne (ne_of e1 hw fun z => n4 _ z.symm)]; exact e1, k.step (.mut r e)⟩
/-- an object leaves the small heap -/
theorem Stp.gone {n : Nat} : Stp S m H (m.set n none) H where
  len := by rw [List.length_set]; exact Nat.le_refl _
  old := fun k hk => by
    by_cases e : n = k
    · subst e; exact .inr (List.getElem?_set_self hk)
    · exact .inl (List.getElem?_set_ne e)
  new := fun k a e => by
    by_cases q : n = k
    · subst q
      by_cases hl : n < m.length
      · rw [List.getElem?_set_self hl] at e; cases e
      · rw [List.getElem?_eq_none (by rw [List.length_set]; omega)] at e; cases e
    · rw [List.getElem?_set_ne q] at e; exact .inl e
  fr := fun _ _ h _ => .of h
  pr := fun _ h => h
  im := fun _ _ h _ => h
theorem Rl.gone {h : MHp} (r : Rl S m h H) {n : Nat} : Rl S (m.set n none) (h.set n .gone) H where
  len := by rw [List.length_set, List.length_set]; exact r.len
  inj := fun i j a ei ej => by
    have key : ∀ k : Nat, (m.set n none)[k]? = some (some a) → m[k]? = some (some a) := fun k e => by
      by_cases q : n = k
      · subst q
        by_cases hl : n < m.length
        · rw [List.getElem?_set_self hl] at e; cases e
        · rw [List.getElem?_eq_none (by rw [List.length_set]; omega)] at e; cases e
      · rw [List.getElem?_set_ne q] at e; exact e
    exact r.inj i j a (key i ei) (key j ej)
  ob := fun k w ek => by
    by_cases hk : n = k
    · subst hk
      by_cases hl : n < h.length
      · rw [List.getElem?_set_self hl] at ek
        cases ek
        exact ⟨none, List.getElem?_set_self (by rw [r.len]; exact hl), True.intro⟩
      · rw [List.getElem?_eq_none (by rw [List.length_set]; omega)] at ek; cases ek
    · rw [List.getElem?_set_ne hk] at ek
      obtain ⟨x, e1, q⟩ := r.ob k w ek
      exact ⟨x, by rw [List.getElem?_set_ne hk]; exact e1, q.step .gone fun _ _ => rfl⟩
  tb := r.tb
  fo := fun a fa => ⟨(r.fo a fa).1, fun k e => by
    by_cases q : n = k
    · subst q
      by_cases hl : n < m.length
      · rw [List.getElem?_set_self hl] at e; cases e
      · rw [List.getElem?_eq_none (by rw [List.length_set]; omega)] at e; cases e
    · rw [List.getElem?_set_ne q] at e; exact (r.fo a fa).2 k e⟩
  xd := fun p hq => by
    obtain ⟨ws, e1, k⟩ := r.xd p hq
    exact ⟨ws, e1, k.step .gone⟩
theorem gone_not {h : MHp} (r : Rl S m h H) {n : Nat} {a : Addr} (e : m[n]? = some (some a)) : ∀ k : Nat, (m.set n none)[k]? ≠ some (some a) := fun k z => by
  by_cases q : n = k
  · subst q
    rw [List.getElem?_set_self (List.getElem?_eq_some_iff.mp e).1] at z; cases z
  · rw [List.getElem?_set_ne q] at z
    exact q (r.inj n k a e z)
/-- a ref that is asked: its object, its address -/
theorem Rl.at {h : MHp} (r : Rl S m h H) {v : V} {n : Nat} {o : MO} (hv : VR S m H v (.ref n)) (e : h[n]? = some o) (hg : o ≠ .gone) : ∃ a, v = .ref a ∧ m[n]? = some (some a) ∧ OR S m H (some a) o := by
  obtain ⟨x, e1, q⟩ := r.ob n o e
  cases x with
  | none => cases o <;> first | exact q.elim | exact absurd rfl hg
  | some a => exact ⟨a, vr_ref hv e1, e1, q⟩
/-- a list begins to be made at D -/
theorem Rl.more {h : MHp} (r : Rl S m h H) {F : Addr → Prop} (hF : ∀ a, F a → S.F a ∨ H a = none) (hT : ∀ a, F a → H a ≠ none) : Rl (S.wF F) m h H where
  len := r.len
  inj := r.inj
  ob := fun n o e => by
    obtain ⟨x, e1, q⟩ := r.ob n o e
    exact ⟨x, e1, q.more hF⟩
  tb := r.tb
  fo := fun a fa => ⟨hT a fa, (hF a fa).elim (fun z => (r.fo a z).2) fun z => absurd z (hT a fa)⟩
  xd := fun p hq => by
    obtain ⟨ws, e1, k⟩ := r.xd p hq
    exact ⟨ws, e1, k.more hF⟩
theorem Rl.less {h : MHp} {F : Addr → Prop} (r : Rl (S.wF F) m h H) (hF : ∀ a, S.F a → F a) : Rl S m h H where
  len := r.len
  inj := r.inj
  ob := fun n o e => by
    obtain ⟨x, e1, q⟩ := r.ob n o e
    exact ⟨x, e1, q.less hF⟩
  tb := r.tb
  fo := fun a fa => r.fo a (hF a fa)
  xd := fun p hq => by
    obtain ⟨ws, e1, k⟩ := r.xd p hq
    exact ⟨ws, e1, k.less hF⟩
/-- it gets longer -/
theorem Rl.putL {h : MHp} (r : Rl S m h H) {D : Addr} {o : HO} {ws : List V} (hD : S.F D) (e : H D = some (.lst ws)) : Rl S m h (upd H D o) where
  len := r.len
  inj := r.inj
  ob := fun n u en => by
    obtain ⟨x, e1, q⟩ := r.ob n u en
    exact ⟨x, e1, q.putL hD e (r.fo D hD).2 e1⟩
  tb := fun P hP => by
    obtain ⟨ps, e1, t⟩ := r.tb P hP
    exact ⟨ps, by rw [upd_ne (ne_of e1 e fun z => nomatch z)]; exact e1, t⟩
  fo := fun a fa => ⟨by
    by_cases ha : a = D
    · subst ha; rw [upd_same]; simp
    · rw [upd_ne ha]; exact (r.fo a fa).1, (r.fo a fa).2⟩
  xd := fun p hq => by
    obtain ⟨ws', e1, k⟩ := r.xd p hq
    exact ⟨ws', by rw [upd_ne (ne_of e1 e fun z => nomatch z)]; exact e1, k.putL hD e⟩
end
/-- the lists that are made, and one more -/
def andD (F : Addr → Prop) (D : Addr) : Addr → Prop := fun a => F a ∨ a = D
theorem Rl.begin {S : Sx} {m : Mm} {h : MHp} {H : Hp} {D : Addr} {o : HO} (r : Rl S m h H) (hD : H D = none) : Rl (S.wF (andD S.F D)) m h (upd H D o) where
  len := r.len
  inj := r.inj
  ob := fun n u e => by
    obtain ⟨x, e1, q⟩ := r.ob n u e
    refine ⟨x, e1, (q.more (F := andD S.F D) fun a fa => fa.imp id fun z => by rw [z]; exact hD).step (.made hD) fun a ea => ?_⟩
    obtain ⟨w, hw, _⟩ := q.at ea
    exact upd_ne (ne_of_none hw hD)
  tb := fun P hP => by
    obtain ⟨ps, e, t⟩ := r.tb P hP
    exact ⟨ps, by rw [upd_ne (ne_of_none e hD)]; exact e, t⟩
  fo := fun a fa => by
    rcases fa with fa | fa
    · exact ⟨(Stp.made (S := S) (m := m) hD).pr a (r.fo a fa).1, (r.fo a fa).2⟩
    · subst fa
      refine ⟨by rw [upd_same]; simp, fun n e => ?_⟩
      obtain ⟨u, hu, _⟩ := r.here e
      rw [hD] at hu; cases hu
  xd := fun p hq => by
    obtain ⟨ws, e1, k⟩ := r.xd p hq
    exact ⟨ws, by rw [upd_ne (ne_of_none e1 hD)]; exact e1, (k.more (F := andD S.F D) fun a fa => fa.imp id fun z => by rw [z]; exact hD).step (.made hD)⟩
end Mp

/-! M2: contexts, answers, what it says that an expression follows a function. -/
namespace Mp
open PySem PySem.Spec PyProof.Rows L2
abbrev WX := Value → Option Addr → L2.St → Hp → Prop
theorem takesN {X : Cx} : L2N.Takes X (fun _ _ _ _ => False) := fun _ _ x => by
  obtain ⟨_, _, _, _, _, _, _, _, _, _, _, _, _, _, _, _, z⟩ := x
  exact z.elim
/-- a family of contexts of one text -/
structure Cs where
  ι : Type
  X : ι → Cx
  P : Program
  w : World
  K : Fg
  mg : Str → Option Value
  base : Heap
  N : List Str
  k : Nat
  hP : ∀ i, (X i).prog = P
  hw : ∀ i, (X i).w = w
  hK : ∀ i, (X i).K = K
  hmg : ∀ i, (X i).mg = mg
  hbase : ∀ i, (X i).base = base
  hN : ∀ i, (X i).N = N
  nd : N.Nodup
  /-- within the suite of an except -/
  hot : Bool := false
  calm : ∀ i, hot = false → (X i).calm = true
  cold : ∀ i, hot = false → Room k (X i).A
  hotc : ∀ i, hot = true → L2H.HotC (X i) ∧ L2H.RoomH k (X i).A
  W : WX
  takes : ∀ i, L2N.Takes (X i) W
  T : Addr → Prop
  xd : List (Addr × List (Str × MV)) := []
  owns : hot = false → ∀ i, PassesOwn (model (X i).prog (X i).w) (X i).A (X i).env (X i).xe
def Cs.S (C : Cs) (F : Addr → Prop) : Sx := ⟨C.K, C.mg, C.T, F, C.xd⟩
class Cold (C : Cs) : Prop where
  h : C.hot = false
  x : C.xd = []
theorem cold_S {C : Cs} [hc : Cold C] (F : Addr → Prop) : C.S F = ⟨C.K, C.mg, C.T, F, []⟩ := by
  unfold Cs.S
  rw [hc.x]
theorem Cs.hu (C : Cs) (i : C.ι) : (C.X i).A.units + 65 < cLine := by
  cases h : C.hot with
  | false => have := (C.cold i h).un; omega
  | true =>
    have := (C.hotc i h).2.un
    omega
theorem kx {C : Cs} (j : C.ι) {p : Fg → Prop} (h : p (C.X j).K) : p C.K := C.hK j ▸ h
/-! ### any reading -/
def eAny (C : Cs) (e : Expr) : TE := fun σ H Q => ∃ t : TE, (∀ i, PE (C.X i) e t) ∧ t σ H Q
theorem pe_any (C : Cs) (e : Expr) (i : C.ι) : PE (C.X i) e (eAny C e) := ⟨fun pins s σ H Q I h => by
  obtain ⟨t, ht, q⟩ := h
  exact (ht i).run pins s σ H Q I q⟩
def tAny (C : Cs) (e : Expr) : TT := fun σ H Q => ∃ t : TT, (∀ i, PT (C.X i) e t) ∧ t σ H Q
theorem pt_any (C : Cs) (e : Expr) (i : C.ι) : PT (C.X i) e (tAny C e) := ⟨fun pins s σ H Q I h => by
  obtain ⟨t, ht, q⟩ := h
  exact (ht i).run pins s σ H Q I q⟩
def wAny (C : Cs) (e : Expr) : TT := fun σ H Q => ∃ t : TT, (∀ i, PW (C.X i) e t) ∧ t σ H Q
theorem pw_any (C : Cs) (e : Expr) (i : C.ι) : PW (C.X i) e (wAny C e) := ⟨fun wh pins s σ H Q I h => by
  obtain ⟨t, ht, q⟩ := h
  exact (ht i).run wh pins s σ H Q I q⟩
def aAny (C : Cs) (es : List Expr) : TA := fun σ H Q => ∃ t : TA, (∀ i, PA (C.X i) es t) ∧ t σ H Q
theorem pa_any (C : Cs) (es : List Expr) (i : C.ι) : PA (C.X i) es (aAny C es) := ⟨fun pos pins s σ H Q I h => by
  obtain ⟨t, ht, q⟩ := h
  exact (ht i).run pos pins s σ H Q I q⟩
def oAny (C : Cs) (o : Option Expr) : TO := fun σ H Q => ∃ t : TO, (∀ i, PO (C.X i) o t) ∧ t σ H Q
theorem po_any (C : Cs) (o : Option Expr) (i : C.ι) : PO (C.X i) o (oAny C o) := ⟨fun pins s σ H Q I h => by
  obtain ⟨t, ht, q⟩ := h
  exact (ht i).run pins s σ H Q I q⟩
def iAny (C : Cs) (tg e : Expr) : TI := fun σ H R => ∃ t : TI, (∀ i, PI (C.X i) tg e t) ∧ t σ H R
theorem pi_any (C : Cs) (tg e : Expr) (i : C.ι) : PI (C.X i) tg e (iAny C tg e) := ⟨fun pins s σ H R I h => by
  obtain ⟨t, ht, q⟩ := h
  exact (ht i).run pins s σ H R I q⟩
def gAny (C : Cs) (e : Expr) : TG := fun x σ H N => ∃ t : TG, (∀ i, PG (C.X i) e t) ∧ t x σ H N
theorem pg_any (C : Cs) (e : Expr) (i : C.ι) : PG (C.X i) e (gAny C e) := ⟨fun pins s σ H x u N I r h => by
  obtain ⟨t, ht, q⟩ := h
  exact (ht i).run pins s σ H x u N I r q⟩
def bAny (C : Cs) (b : List Stmt) : TS := fun D σ H => ∃ t : TS, (∀ i, PSs (C.X i) b t) ∧ t D σ H
theorem pb_any (C : Cs) (b : List Stmt) (i : C.ι) : PSs (C.X i) b (bAny C b) := ⟨fun pins s σ H D I h => by
  obtain ⟨t, ht, q⟩ := h
  exact (ht i).run pins s σ H D I q⟩
def sAny (C : Cs) (b : Stmt) : TS := fun D σ H => ∃ t : TS, (∀ i, PS (C.X i) b t) ∧ t D σ H
theorem ps_any (C : Cs) (b : Stmt) (i : C.ι) : PS (C.X i) b (sAny C b) := ⟨fun pins s σ H D I h => by
  obtain ⟨t, ht, q⟩ := h
  exact (ht i).run pins s σ H D I q⟩
/-! ### answers -/
inductive Out (α : Type) where
  | ok (a : α) (h : MHp) | ex (c : Str) (fs : List (Str × MV)) (h : MHp) | no
def Out.bind {α β : Type} : Out α → (α → MHp → Out β) → Out β
  | .ok a h, k => k a h
  | .ex c fs h, _ => .ex c fs h
  | .no, _ => .no
/-- an expression's answer: a value, or a new list of nobody -/
inductive RV where
  | v (d : MV) | nl (ds : List MV)
def RV.toV : RV → MV
  | .v d => d
  | .nl ds => .lst ds
inductive RR (S : Sx) (H : Hp) (m' : Mm) (H' : Hp) : V → RV → Prop
  | v {x : V} {d : MV} : VR S m' H' x d → RR S H m' H' x (.v d)
  | nl {p : Addr} {vs : List V} {ds : List MV} : H p = none → (∀ n : Nat, m'[n]? ≠ some (some p)) → ¬ S.F p → H' p = some (.lst vs) → VRs (S.wF (andD S.F p)) m' H' vs ds → RR S H m' H' (.ref p) (.nl ds)
section
variable {S : Sx} {m m1 m' m2 : Mm} {H H1 H' H2 : Hp} {x : V} {r : RV}
theorem RR.toV (h : RR S H m' H' x r) : VR S m' H' x r.toV := by
  cases h with
  | v h => exact h
  | nl h1 h2 nf h3 h4 => exact .lst h3 h2 nf (h4.less fun _ z => .inl z)
theorem RR.step (s : Stp S m' H' m2 H2) (h : RR S H m' H' x r) : RR S H m2 H2 x r := by
  cases h with
  | v h => exact .v (h.step s)
  | nl h1 h2 nf h3 h4 => exact .nl h1 (s.keepNot (by rw [h3]; simp) h2) nf (s.fr _ _ h3 h2) (h4.step s.wF)
theorem fresh_back {p : Addr} (s : Stp S m H m1 H1) (h : H1 p = none) : H p = none := by
  cases q : H p with
  | none => rfl
  | some o => exact absurd h (s.pr p (by rw [q]; simp))
theorem RR.back (s : Stp S m H m1 H1) (h : RR S H1 m' H' x r) : RR S H m' H' x r := by
  cases h with
  | v h => exact .v h
  | nl h1 h2 nf h3 h4 => exact .nl (fresh_back s h1) h2 nf h3 h4
end
/-- what kind of answer -/
structure Kd (β α : Type) where
  rel : Sx → Hp → Mm → Hp → β → α → Prop
  rl : Sx → Mm → MHp → Hp → β → α → Prop
  rlOf : ∀ {S : Sx} {m : Mm} {h : MHp} {H : Hp} {x : β} {a : α}, rl S m h H x a → Rl S m h H
  back : ∀ {S : Sx} {m m1 m' : Mm} {H H1 H' : Hp} {x : β} {a : α}, Stp S m H m1 H1 → rel S H1 m' H' x a → rel S H m' H' x a
  step : ∀ {S : Sx} {m1 m' : Mm} {H H1 H' : Hp} {x : β} {a : α}, Stp S m1 H1 m' H' → rel S H m1 H1 x a → rel S H m' H' x a
/-- of a new list: nobody else holds it -/
def rlE (S : Sx) (m : Mm) (h : MHp) (H : Hp) (x : V) (r : RV) : Prop := match r with
  | .nl _ => ∃ p, x = .ref p ∧ Rl (S.wF (andD S.F p)) m h H
  | .v _ => Rl S m h H
theorem rlE_of {S : Sx} {m : Mm} {h : MHp} {H : Hp} {x : V} {r : RV} (R : rlE S m h H x r) : Rl S m h H := by
  cases r with
  | v d => exact R
  | nl ds => obtain ⟨p, _, R⟩ := R; exact R.less fun _ fa => .inl fa
def kE : Kd V RV := ⟨RR, rlE, rlE_of, fun s h => h.back s, fun s h => h.step s⟩
def kM : Kd V MV := ⟨fun S _ m' H' x d => VR S m' H' x d, fun S m h H _ _ => Rl S m h H, id, fun _ h => h, fun s h => h.step s⟩
def kT : Kd Bool Bool := ⟨fun _ _ _ _ x d => x = d, fun S m h H _ _ => Rl S m h H, id, fun _ h => h, fun _ h => h⟩
def kA : Kd (List V) (List MV) := ⟨fun S _ m' H' x d => VRs S m' H' x d, fun S m h H _ _ => Rl S m h H, id, fun _ h => h, fun s h => h.step s⟩
def kO : Kd (Option Int) (Option Int) := ⟨fun _ _ _ _ x d => x = d, fun S m h H _ _ => Rl S m h H, id, fun _ h => h, fun _ h => h⟩
def ExOk (C : Cs) (F : Addr → Prop) (m : Mm) (H : Hp) (σ : L2.St) (c : Str) (fs : List (Str × MV)) (h' : MHp) : Prop :=
  ∀ m' H' Cl dd ws, Stp (C.S F) m H m' H' → Rl (C.S F) m' h' H' → C.mg c = some (.ref Cl) → H' dd = some (.xd ws) → KR (C.S F) m' H' ws fs → C.W (.ref Cl) (some dd) σ H'
def Post {β α : Type} (C : Cs) (F : Addr → Prop) (m : Mm) (H : Hp) (σ : L2.St) (k : Kd β α) (o : Out α) (Q : β → Hp → Prop) : Prop := match o with
  | .ok a h' => ∀ m' x H', Stp (C.S F) m H m' H' → k.rl (C.S F) m' h' H' x a → k.rel (C.S F) H m' H' x a → Q x H'
  | .ex c fs h' => ExOk C F m H σ c fs h'
  | .no => False
def EnvR (S : Sx) (m : Mm) (H : Hp) (σ : L2.St) (env : List (Option MV)) : Prop := σ.length = env.length ∧ ∀ (i : Nat) (d : MV), env[i]? = some (some d) → ∃ v, σ[i]? = some (some v) ∧ VR S m H v d
abbrev Ev := List (Option MV)
theorem EnvR.step {S : Sx} {m m' : Mm} {H H' : Hp} {σ : L2.St} {env : Ev} (s : Stp S m H m' H') (e : EnvR S m H σ env) : EnvR S m' H' σ env := ⟨e.1, fun i d h => by
  obtain ⟨v, h1, h2⟩ := e.2 i d h
  exact ⟨v, h1, h2.step s⟩⟩
theorem EnvR.set {S : Sx} {m : Mm} {H : Hp} {σ : L2.St} {env : Ev} {v : V} {d : MV} (e : EnvR S m H σ env) (i : Nat) (hv : VR S m H v d) : EnvR S m H (σ.set i (some v)) (env.set i (some d)) := ⟨by rw [List.length_set, List.length_set]; exact e.1, fun j d' h => by
  by_cases hj : i = j
  · subst hj
    have hl : i < env.length := by
      have := (List.getElem?_eq_some_iff.mp h).1
      rwa [List.length_set] at this
    rw [List.getElem?_set_self hl] at h
    cases h
    exact ⟨v, List.getElem?_set_self (by rw [e.1]; exact hl), hv⟩
  · rw [List.getElem?_set_ne hj] at h
    rw [List.getElem?_set_ne hj]
    exact e.2 j d' h⟩
theorem EnvR.none {S : Sx} {m : Mm} {H : Hp} {σ : L2.St} {env : Ev} (e : EnvR S m H σ env) (i : Nat) (x : Option V) : EnvR S m H (σ.set i x) (env.set i none) := ⟨by rw [List.length_set, List.length_set]; exact e.1, fun j d' h => by
  by_cases hj : i = j
  · subst hj
    by_cases hl : i < env.length
    · rw [List.getElem?_set_self hl] at h; cases h
    · rw [List.getElem?_eq_none (by rw [List.length_set]; omega)] at h; cases h
  · rw [List.getElem?_set_ne hj] at h
    rw [List.getElem?_set_ne hj]
    exact e.2 j d' h⟩
section
variable {C : Cs} {m m1 m' : Mm} {h h1 : MHp} {H H1 H' : Hp} {σ : L2.St} {env : Ev}
theorem ExOk.step {c : Str} {fs : List (Str × MV)} {h' : MHp} (s : Stp (C.S F) m H m1 H1) (e : ExOk C F m H σ c fs h') : ExOk C F m1 H1 σ c fs h' := fun m' H' Cl dd ws st rl hc hd kr => e m' H' Cl dd ws (s.trans st) rl hc hd kr
theorem Post.step {β α : Type} {k : Kd β α} {o : Out α} {Q : β → Hp → Prop} (s : Stp (C.S F) m H m1 H1) (p : Post C F m H σ k o Q) : Post C F m1 H1 σ k o Q := by
  cases o with
  | ok a h' => exact fun m' x H' st rl r => p m' x H' (s.trans st) rl (k.back s r)
  | ex c fs h' => exact ExOk.step s p
  | no => exact p
/-- the first of two -/
theorem Post.bind {β α β2 α2 : Type} {k : Kd β α} {k2 : Kd β2 α2} {o : Out α} {f : α → MHp → Out α2} {Q : β → Hp → Prop} {Q2 : β2 → Hp → Prop} (p : Post C F m H σ k2 (o.bind f) Q2)
    (hk : ∀ a h1 m1 x H1, o = .ok a h1 → Stp (C.S F) m H m1 H1 → Rl (C.S F) m1 h1 H1 → k.rel (C.S F) H m1 H1 x a → Post C F m1 H1 σ k2 (f a h1) Q2 → Q x H1) : Post C F m H σ k o Q := by
  cases o with
  | ok a h' => exact fun m' x H' st rl r => hk a h' m' x H' rfl st (k.rlOf rl) r (Post.step st p)
  | ex c fs h' => exact p
  | no => exact p
/-- .. with the answer still told from the start -/
theorem Post.bindR {β α β2 α2 : Type} {k : Kd β α} {k2 : Kd β2 α2} {o : Out α} {f : α → MHp → Out α2} {Q : β → Hp → Prop} {Q2 : β2 → Hp → Prop} (p : Post C F m H σ k2 (o.bind f) Q2)
    (hk : ∀ a h1 m1 x H1, o = .ok a h1 → Stp (C.S F) m H m1 H1 → k.rl (C.S F) m1 h1 H1 x a → k.rel (C.S F) H m1 H1 x a → Post C F m H σ k2 (f a h1) Q2 → Q x H1) : Post C F m H σ k o Q := by
  cases o with
  | ok a h' => exact fun m' x H' st rl r => hk a h' m' x H' rfl st rl r p
  | ex c fs h' => exact p
  | no => exact p
theorem Post.bind0 {β α β2 α2 : Type} {k : Kd β α} {k2 : Kd β2 α2} {o : Out α} {f : α → MHp → Out α2} {Q : β → Hp → Prop} {Q2 : β2 → Hp → Prop} (p : Post C F m H σ k2 (o.bind f) Q2)
    (hk : ∀ a h1 m1 x H1, o = .ok a h1 → Stp (C.S F) m H m1 H1 → Rl (C.S F) m1 h1 H1 → k.rel (C.S F) H m1 H1 x a → Post C F m H σ k2 (f a h1) Q2 → Q x H1) : Post C F m H σ k o Q := by
  cases o with
  | ok a h' => exact fun m' x H' st rl r => hk a h' m' x H' rfl st (k.rlOf rl) r p
  | ex c fs h' => exact p
  | no => exact p
theorem Post.mono {β α : Type} {k : Kd β α} {o : Out α} {Q Q' : β → Hp → Prop} (p : Post C F m H σ k o Q) (hq : ∀ x H, Q x H → Q' x H) : Post C F m H σ k o Q' := by
  cases o with
  | ok a h' => exact fun m' x H' st rl r => hq _ _ (p m' x H' st rl r)
  | ex c fs h' => exact p
  | no => exact p
end
def Out.map {α β : Type} (f : α → β) : Out α → Out β := fun o => o.bind fun a h => .ok (f a) h
abbrev Fe := Ev → MHp → Out RV
/-- a reading follows f -/
def RE (C : Cs) (t : TE) (f : Fe) : Prop := ∀ F m h env H σ, Rl (C.S F) m h H → EnvR (C.S F) m H σ env → ∀ Q : VK, Post C F m H σ kE (f env h) Q → t σ H Q
/-- e follows f -/
def SE (C : Cs) (e : Expr) (f : Fe) : Prop := ∀ F m h env H σ, Rl (C.S F) m h H → EnvR (C.S F) m H σ env → ∀ Q : VK, Post C F m H σ kE (f env h) Q → eAny C e σ H Q
def ST (C : Cs) (e : Expr) (f : Ev → MHp → Out Bool) : Prop := ∀ F m h env H σ, Rl (C.S F) m h H → EnvR (C.S F) m H σ env → ∀ Q : Bool → Hp → Prop, Post C F m H σ kT (f env h) Q → tAny C e σ H Q
def SW (C : Cs) (e : Expr) (f : Ev → MHp → Out Bool) : Prop := ∀ F m h env H σ, Rl (C.S F) m h H → EnvR (C.S F) m H σ env → ∀ Q : Bool → Hp → Prop, Post C F m H σ kT (f env h) Q → wAny C e σ H Q
def SA (C : Cs) (es : List Expr) (f : Ev → MHp → Out (List MV)) : Prop := ∀ F m h env H σ, Rl (C.S F) m h H → EnvR (C.S F) m H σ env → ∀ Q : List V → Hp → Prop, Post C F m H σ kA (f env h) Q → aAny C es σ H Q
def SO (C : Cs) (e : Option Expr) (f : Ev → MHp → Out (Option Int)) : Prop := ∀ F m h env H σ, Rl (C.S F) m h H → EnvR (C.S F) m H σ env → ∀ Q : Option Int → Hp → Prop, Post C F m H σ kO (f env h) Q → oAny C e σ H Q
end Mp

/-! M2b: a tuple taken once, not at all. -/
namespace Mp
open PySem PySem.Spec PyProof.Rows L2
theorem tuple_mul1 (l : Addr) (items : Array Value) (n : Nat) (dd : Option Addr) (sl : Array (Option Value)) (u : Tok) :
    Meets (Builtin.«tuple.__mul__» { pos := [Value.ref l, Value.int 1 u] }) fun A R s =>
      s.heap.get? l = some { cls := Value.type "tuple", dict := dd, data := Data.seq items n, slots := sl } ∧ R (Except.ok (Flow.ret (Value.ref l))) s :=
  Meets.of_wp fun prog w A R s h => by
    obtain ⟨hp, g, d, tk, os⟩ := s
    obtain ⟨hl, h⟩ := h
    have f1 := AutoSeq1.idx_int
    generalize hX : Builtin.«tuple.__mul__» { pos := [Value.ref l, Value.int 1 u] } = X
    conv at hX => lhs; whnf
    rw [← hX]
    clear hX
    have hT : Shared.TypeIs { heap := hp, gens := g, drawn := d, toks := tk, os := os } (Value.ref l) "tuple" := ⟨_, hl, rfl⟩
    refine wpAny_bind (m := load l) (wpAny_load' hl ?_)
    dsimp only [Sem.bind, Sem.pure, bind, pure]
    rw [if_pos (by simp)]
    refine wpAny_bind (m := Builtin.Tuple.tupleIsExact (Value.ref l)) ?_
    refine wpAny_bind (wpAny_typeOf hT (wpAny_pure ?_))
    rw [if_pos (by decide)]
    refine wpAny_bind (m := rule _) ?_
    exact wpAny_rule (wpAny_pure ⟨_, rfl, h⟩)
theorem tuple_mul0 (l : Addr) (items : Array Value) (n : Nat) (dd : Option Addr) (sl : Array (Option Value)) (u : Tok) (hne : items.isEmpty = false) :
    Meets (Builtin.«tuple.__mul__» { pos := [Value.ref l, Value.int 0 u] }) fun A R s =>
      s.heap.get? l = some { cls := Value.type "tuple", dict := dd, data := Data.seq items n, slots := sl } ∧ R (Except.ok (Flow.ret (Value.ref s.heap.objs.size))) { s with heap := s.heap.push { cls := Value.type "tuple", data := Data.seq #[] } } :=
  Meets.of_wp fun prog w A R s h => by
    obtain ⟨hp, g, d, tk, os⟩ := s
    obtain ⟨hl, h⟩ := h
    have f1 := AutoSeq1.idx_int
    generalize hX : Builtin.«tuple.__mul__» { pos := [Value.ref l, Value.int 0 u] } = X
    conv at hX => lhs; whnf
    rw [← hX]
    clear hX
    refine wpAny_bind (m := load l) (wpAny_load' hl ?_)
    dsimp only [Sem.bind, Sem.pure, bind, pure]
    rw [if_neg (by rw [hne]; decide), if_pos (by simp)]
    refine wpAny_bind (m := Builtin.Tuple.tupleExact #[]) ?_
    have htake : sizeOk (.seq (#[] : Array Value)) := by
      show (#[] : Array Value).size ≤ sizeLine
      decide
    exact wpAny_newObj_type (wpAny_pure ⟨_, rfl, h⟩) htake
def rRep01 (K : Fg) : R2 := fun x y H Q => ∃ l k xs, x = .ref l ∧ y = .int k ∧ SqT K H l xs ∧ xs ≠ [] ∧ ((k = 1 ∧ Q (.ref l) H) ∨ (k = 0 ∧ ∀ p, H p = none → Q (.ref p) (upd H p (.tup []))))
theorem op_rep01 {X : Cx} : OpR X (binaryOp .Mult) (rRep01 X.K) := by
  intro pins s σ H x y v u Q I rx ry h
  obtain ⟨l, k, xs, rfl, rfl, hT, hne, q⟩ := h
  obtain rfl : v = Value.ref l := rx
  obtain ⟨t, rfl⟩ := ry
  obtain ⟨its, r, ⟨⟨cls, dd, data, sl⟩, ho, hc, n, hd⟩, hz⟩ := I.tuple hT
  obtain rfl : cls = Value.type "tuple" := hc
  obtain rfl : data = Data.seq its.toArray n := hd
  refine wpAny_binaryOp_repeat_ref (by decide) ⟨_, ho, rfl⟩ (fun s' => typeIs_int s' k t) noFill_tuple_mul F.fills_int_mul F.slot_int_rmul repeat_tuple F.slot_int_index.lookup (call_meets F.slot_int_rmul (typeIs_int s k t) F.entry_int_rmul (F.args_int_rmul_2 _ _) (int_rmul_tuple k t l its.toArray n dd sl) ⟨ho, rfl, ⟨_, ho, rfl⟩, ?_⟩)
  rcases q with ⟨rfl, q⟩ | ⟨rfl, q⟩
  · exact call_meets F.slot_tuple_mul ⟨_, ho, rfl⟩ F.entry_tuple_mul (F.args_tuple_mul_2 _ _) (tuple_mul1 l its.toArray n dd sl t) ⟨ho, .ref l, H, I, rfl, q⟩
  · have hl2 := r.length
    have he : its.toArray.isEmpty = false := by
      cases its with
      | nil => exact absurd (List.eq_nil_of_length_eq_zero hl2) hne
      | cons a b => rfl
    refine call_meets F.slot_tuple_mul ⟨_, ho, rfl⟩ F.entry_tuple_mul (F.args_tuple_mul_2 _ _) (tuple_mul0 l its.toArray n dd sl t he) ⟨ho, .ref _, _, I.laid (t' := s.toks) (o := .tup []) (fun b ob q => Heap.get?_push_of_some _ q) (Nat.le_refl _) ?_, rfl, q _ (I.hok.fresh (Nat.le_refl _))⟩
    exact ⟨by decide, _, .nil, IsTup.new _ _⟩
end Mp

/-! M3: names, constants, operators, sequences. -/
namespace Mp
open PySem PySem.Spec PyProof.Rows L2
/-! ### any rule -/
def opAny (C : Cs) (f : Value → Value → Sem Value) : R2 := fun x y H Q => ∃ r : R2, (∀ j, OpR (C.X j) f r) ∧ r x y H Q
theorem opr_any (C : Cs) (f : Value → Value → Sem Value) (j : C.ι) : OpR (C.X j) f (opAny C f) := fun pins s σ H x y v u Q I rx ry h => by
  obtain ⟨r, hr, q⟩ := h
  exact hr j pins s σ H x y v u Q I rx ry q
def callAny (C : Cs) (f : Value) : List V → Hp → VK → Prop := fun xs H Q => ∃ r : List V → Hp → VK → Prop, (∀ j, CallR (C.X j) f r) ∧ r xs H Q
theorem callr_any (C : Cs) (f : Value) (j : C.ι) : CallR (C.X j) f (callAny C f) := fun pins s σ H xs us Q I r h => by
  obtain ⟨q, hr, w⟩ := h
  exact hr j pins s σ H xs us Q I r w
def ixAny (C : Cs) : R2 := fun x y H Q => ∃ r : R2, (∀ j, IxR (C.X j) r) ∧ r x y H Q
theorem ixr_any (C : Cs) (j : C.ι) : IxR (C.X j) (ixAny C) := fun va sl pins s σ H x y v u Q I rx ry h => by
  obtain ⟨r, hr, q⟩ := h
  exact hr j va sl pins s σ H x y v u Q I rx ry q
def slAny (C : Cs) : V → Option Int → Option Int → Hp → VK → Prop := fun x l u H Q => ∃ r : V → Option Int → Option Int → Hp → VK → Prop, (∀ j, SlR (C.X j) r) ∧ r x l u H Q
theorem slr_any (C : Cs) (j : C.ι) : SlR (C.X j) (slAny C) := by
  intro pins s σ H x v vl vu lo hi sl Q I rx h1 h2 h3 h
  obtain ⟨r, hr, q⟩ := h
  exact hr j pins s σ H x v vl vu lo hi sl Q I rx h1 h2 h3 q
/-! ### what an object holds -/
def lstAt (h : MHp) (n : Nat) : Option (List MV) := match h[n]? with
  | some (.lst ds) => some ds
  | _ => none
theorem lstAt_eq {h : MHp} {n : Nat} {ds : List MV} : lstAt h n = some ds ↔ h[n]? = some (.lst ds) := by
  unfold lstAt
  split
  · rename_i e; rw [e]; constructor <;> (intro z; cases z; rfl)
  · rename_i w; constructor
    · intro z; cases z
    · intro z; exact absurd z (w ds)
def seqOf (h : MHp) : RV → Option (Bool × List MV)
  | .nl ds => some (true, ds)
  | .v (.lst ds) => some (true, ds)
  | .v (.tup ds) => some (false, ds)
  | .v (.ktup ds) => some (false, ds)
  | .v (.scr ns) => some (true, ns.map MV.int)
  | .v (.ref n) => (lstAt h n).map fun ds => (true, ds)
  | _ => none
/-- a list that is tracked -/
def lstOf (h : MHp) : RV → Option (List MV)
  | .nl ds => some ds
  | .v (.lst ds) => some ds
  | .v (.ref n) => lstAt h n
  | _ => none
section
variable {C : Cs} {m m' : Mm} {h : MHp} {H H0 H' : Hp} {σ : L2.St} {x y : V} {r : RV} {ds : List MV}
theorem lst_of (R : Rl (C.S F) m h H) (hr : RR (C.S F) H0 m H x r) (e : lstOf h r = some ds) : ∃ a vs, x = .ref a ∧ H a = some (.lst vs) ∧ VRs (C.S F) m H vs ds := by
  cases hr with
  | nl h1 h2 nf h3 h4 => cases e; exact ⟨_, _, rfl, h3, h4.less fun _ z => .inl z⟩
  | v hv =>
    cases hv with
    | lst h1 h2 nf h3 => cases e; exact ⟨_, _, rfl, h1, h3⟩
    | ref hn =>
      obtain ⟨a, ea, hm, vs, hl, hv⟩ := R.at (.ref hn) (lstAt_eq.mp e) (fun z => nomatch z)
      exact ⟨a, vs, ea, hl, hv⟩
    | _ => cases e
theorem seq_of {b : Bool} (R : Rl (C.S F) m h H) (hr : RR (C.S F) H0 m H x r) (e : seqOf h r = some (b, ds)) : ∃ a vs, x = .ref a ∧ VRs (C.S F) m H vs ds ∧ ((b = true ∧ SqL C.K H a vs) ∨ (b = false ∧ SqT C.K H a vs)) := by
  cases hr with
  | nl h1 h2 nf h3 h4 => cases e; exact ⟨_, _, rfl, (h4.less fun _ z => .inl z), .inl ⟨rfl, SqL.of h3⟩⟩
  | v hv =>
    cases hv with
    | lst h1 h2 nf h3 => cases e; exact ⟨_, _, rfl, h3, .inl ⟨rfl, SqL.of h1⟩⟩
    | tup h1 h3 => cases e; exact ⟨_, _, rfl, h3, .inr ⟨rfl, SqT.of h1⟩⟩
    | ktup h1 h3 => cases e; exact ⟨_, _, rfl, h3, .inr ⟨rfl, h1⟩⟩
    | scr h1 => cases e; exact ⟨_, _, rfl, vrs_ints _, .inl ⟨rfl, h1.l⟩⟩
    | ref hn =>
      obtain ⟨ds', e1, e2⟩ := Option.map_eq_some_iff.mp e
      cases e2
      obtain ⟨a, ea, hm, vs, hl, hv⟩ := R.at (.ref hn) (lstAt_eq.mp e1) (fun z => nomatch z)
      exact ⟨a, vs, ea, hv, .inl ⟨rfl, SqL.of hl⟩⟩
    | _ => cases e
theorem Rl.notNew (R : Rl (C.S F) m h H) {p : Addr} (hp : H p = none) : ∀ n : Nat, m[n]? ≠ some (some p) := fun n e => by
  obtain ⟨u, hu, _⟩ := R.here e
  rw [hp] at hu; cases hu
/-! ways out -/
theorem post_v {Q : VK} {d : MV} (R : Rl (C.S F) m h H) (hv : VR (C.S F) m H x d) (p : Post C F m H σ kE (.ok (.v d) h) Q) : Q x H := p m x H .refl R (.v hv)
theorem post_nl {Q : VK} {vs : List V} (R : Rl (C.S F) m h H) (hv : VRs (C.S F) m H vs ds) (p : Post C F m H σ kE (.ok (.nl ds) h) Q) : ∀ a, H a = none → Q (.ref a) (upd H a (.lst vs)) := fun a ha =>
  p m _ _ (.made ha) ⟨a, rfl, R.begin ha⟩ (.nl ha (R.notNew ha) (fun z => (R.fo a z).1 ha) upd_same ((VRs.more (S := C.S F) (F := andD F a) (fun b fb => fb.imp id fun z : b = a => by rw [z]; exact ha) hv).step (.made ha)))
theorem post_tup {Q : VK} {vs : List V} (R : Rl (C.S F) m h H) (hv : VRs (C.S F) m H vs ds) (p : Post C F m H σ kE (.ok (.v (.tup ds)) h) Q) : ∀ a, H a = none → Q (.ref a) (upd H a (.tup vs)) := fun a ha =>
  p m _ _ (.made ha) (R.made ha) (.v (.tup upd_same (hv.step (.made ha))))
end
/-! ### names, constants -/
def eVar (i : Nat) : Fe := fun env h => match env[i]? with
  | some (some d) => .ok (.v d) h
  | _ => .no
def eVal (d : MV) : Fe := fun _ h => .ok (.v d) h
section
variable {C : Cs} {e a b : Expr} {f fa fb : Fe} {pos : Pos}
theorem se_of {t : TE} (h : ∀ i, PE (C.X i) e t) (ev : ∀ F m h env H σ, Rl (C.S F) m h H → EnvR (C.S F) m H σ env → ∀ Q : VK, Post C F m H σ kE (f env h) Q → t σ H Q) : SE C e f := fun F m hh env H σ R E Q p => ⟨t, h, ev F m hh env H σ R E Q p⟩
theorem se_var {i : Nat} {x : Str} (hi : C.N[i]? = some x) (hv : ∀ j, Vis (C.X j).env.scope x) (hd : (x == ("__debug__" : Str)) = false) (hcd : (x == ("__classdict__" : Str)) = false) : SE C (.Name x pos) (eVar i) :=
  se_of (fun j => pe_var (by rw [C.hN]; exact hi) (hv j) hd hcd) fun F m h env H σ R E Q p => by
    unfold eVar at p
    split at p
    · rename_i d e
      obtain ⟨v, h1, h2⟩ := E.2 _ _ e
      exact ⟨v, h1, post_v R h2 p⟩
    · exact p.elim
theorem se_c {v : V} {d : MV} (h : ∀ i, PE (C.X i) e (tC v)) (hv : ∀ F m H, VR (C.S F) m H v d) : SE C e (eVal d) := se_of h fun F m hh env H σ R E Q p => post_v R (hv F m H) p
theorem se_int {i : Int} {k : Nat} : SE C (.Constant (.int i) k pos) (eVal (.int i)) := se_c (fun _ => pe_int) fun _ _ _ => .int i
theorem se_bl {i : Bool} {k : Nat} : SE C (.Constant (.bool i) k pos) (eVal (.bl i)) := se_c (fun _ => pe_bl) fun _ _ _ => .bl i
theorem se_str {i : Str} {k : Nat} : SE C (.Constant (.str i) k pos) (eVal (.str i)) := se_c (fun _ => pe_str) fun _ _ _ => .str i
theorem se_non {k : Nat} : SE C (.Constant .none k pos) (eVal .non) := se_c (fun _ => pe_non) fun _ _ _ => .non
/-! ### two operands -/
abbrev Op2 := MHp → RV → RV → Out RV
def eBin (op : Op2) (fa fb : Fe) : Fe := fun env h => (fa env h).bind fun x h1 => (fb env h1).bind fun y h2 => op h2 x y
/-- what an operator's rule has to say -/
def OpS (C : Cs) (r : R2) (op : Op2) : Prop := ∀ F m h H H0 σ x y rx ry Q, Rl (C.S F) m h H → RR (C.S F) H0 m H x rx → RR (C.S F) H0 m H y ry → Post C F m H σ kE (op h rx ry) Q → r x y H Q
theorem ev_bin {r : R2} {op : Op2} (hr : OpS C r op) (ha : SE C a fa) (hb : SE C b fb) {F m h env H σ} (R : Rl (C.S F) m h H) (E : EnvR (C.S F) m H σ env) {Q : VK} (p : Post C F m H σ kE (eBin op fa fb env h) Q) : tOp r (eAny C a) (eAny C b) σ H Q :=
  ha F m h env H σ R E _ (p.bind fun rx h1 m1 x H1 e1 s1 R1 r1 p1 => hb F m1 h1 env H1 σ R1 (E.step s1) _ (p1.bind fun ry h2 m2 y H2 e2 s2 R2 r2 p2 =>
    hr F m2 h2 H2 H σ x y rx ry Q R2 (kE.step s2 r1) (kE.back s1 r2) p2))
theorem se_op {op : Operator} {g : Op2} (hr : OpS C (opAny C (binaryOp op)) g) (ha : SE C a fa) (hb : SE C b fb) : SE C (.BinOp a op b pos) (eBin g fa fb) :=
  se_of (fun j => pe_op (opr_any C _ j) (pe_any C a j) (pe_any C b j)) fun F m h env H σ R E Q p => ev_bin hr ha hb R E p
theorem se_cmp {op : CmpOp} {g : Op2} (hr : OpS C (opAny C (compareOp op)) g) (ha : SE C a fa) (hb : SE C b fb) (hm : behindInMarks op b = false) : SE C (.Compare a [op] [b] pos) (eBin g fa fb) :=
  se_of (fun j => pe_cmpR (opr_any C _ j) (pe_any C a j) (pe_any C b j) hm) fun F m h env H σ R E Q p => ev_bin hr ha hb R E p
/-- whole numbers -/
def small (i : Int) : Bool := decide (i.natAbs < 18446744073709551616)
def mAdd : Op2 := fun h x y => match x, y with
  | .v (.int i), .v (.int j) => .ok (.v (.int (i + j))) h
  | .v (.str a), .v (.str b) => if a.length + b.length ≤ 1000000 then .ok (.v (.str (a ++ b))) h else .no
  | .v (.tup a), .v (.tup b) => if a.length + b.length ≤ 1000000 then .ok (.v (.tup (a ++ b))) h else .no
  | x, y => match lstOf h x, lstOf h y with
    | some a, some b => if a.length + b.length ≤ 1000000 then .ok (.nl (a ++ b)) h else .no
    | _, _ => .no
def mSub : Op2 := fun h x y => match x, y with
  | .v (.int i), .v (.int j) => .ok (.v (.int (i - j))) h
  | _, _ => .no
/-- factors that may be multiplied -/
def mulB (i j : Int) : Bool := (small i || small j) || decide (i.natAbs.log2 + j.natAbs.log2 < 1000000)
def mMul : Op2 := fun h x y => match x, y with
  | .v (.int i), .v (.int j) => if mulB i j = true then .ok (.v (.int (i * j))) h else .no
  | .v (.tup a), .v (.int k) => if a ≠ [] ∧ 0 ≤ k ∧ k ≤ 1000 ∧ a.length ≤ 1000 then .ok (.v (.tup (List.replicate k.toNat a).flatten)) h else .no
  | x, .v (.int k) => match lstOf h x with
    | some a => if 0 ≤ k ∧ k ≤ 1000 ∧ a.length ≤ 1000 then .ok (.nl (List.replicate k.toNat a).flatten) h else .no
    | _ => .no
  | _, _ => .no
def mDiv : Op2 := fun h x y => match x, y with
  | .v (.int i), .v (.int j) => if 0 < j ∧ j.natAbs.log2 < 9000 then .ok (.v (.int (i / j))) h else .no
  | _, _ => .no
def mMod : Op2 := fun h x y => match x, y with
  | .v (.int i), .v (.int j) => if 0 < j then .ok (.v (.int (i % j))) h else .no
  | _, _ => .no
def mPow : Op2 := fun h x y => match x, y with
  | .v (.int i), .v (.int j) => if 0 ≤ j ∧ j ≤ 1000000 ∧ small i then .ok (.v (.int (i ^ j.toNat))) h else .no
  | _, _ => .no
def mShr : Op2 := fun h x y => match x, y with
  | .v (.int i), .v (.int j) => if 0 ≤ j then .ok (.v (.int (i / 2 ^ j.toNat))) h else .no
  | _, _ => .no
def mAnd1 : Op2 := fun h x y => match x, y with
  | .v (.int i), .v (.int j) => if j = 1 then .ok (.v (.int (i % 2))) h else .no
  | _, _ => .no
theorem small_ok {i : Int} (h : small i = true) : -(2 ^ 64) < i ∧ i < 2 ^ 64 := by
  have := of_decide_eq_true h
  omega
theorem vrs_rep {S : Sx} {m : Mm} {H : Hp} {vs : List V} {ds : List MV} (h : VRs S m H vs ds) : ∀ n, VRs S m H (List.replicate n vs).flatten (List.replicate n ds).flatten
  | 0 => .nil
  | n + 1 => by
    rw [List.replicate_succ, List.replicate_succ, List.flatten_cons, List.flatten_cons]
    exact h.append (vrs_rep h n)
theorem rr_tup {S : Sx} {H0 : Hp} {m : Mm} {H : Hp} {x : V} {ds : List MV} (h : RR S H0 m H x (.v (.tup ds))) : ∃ a vs, x = .ref a ∧ SqT S.K H a vs ∧ VRs S m H vs ds := by
  cases h with
  | v h => cases h with
    | tup h1 h2 => exact ⟨_, _, rfl, SqT.of h1, h2⟩
theorem rr_v {S : Sx} {H0 : Hp} {m : Mm} {H : Hp} {x : V} {d : MV} (h : RR S H0 m H x (.v d)) : VR S m H x d := by
  cases h with
  | v h => exact h
theorem os_add : OpS C (opAny C (binaryOp .Add)) mAdd := fun F m h H H0 σ x y rx ry Q R hx hy p => by
  unfold mAdd at p
  split at p
  · exact ⟨_, fun _ => op_add, _, _, vr_int (rr_v hx), vr_int (rr_v hy), post_v R (.int _) p⟩
  · split at p
    · rename_i hl
      exact ⟨_, fun _ => op_add_str, _, _, vr_str (rr_v hx), vr_str (rr_v hy), Nat.le_trans hl (by decide), post_v R (.str _) p⟩
    · exact p.elim
  · split at p
    · rename_i a b hl
      obtain ⟨pa, va, rfl, ta, ra⟩ := rr_tup hx
      obtain ⟨pb, vb, rfl, tb, rb⟩ := rr_tup hy
      have l1 := ra.length
      have l2 := rb.length
      refine ⟨_, fun j => kx (p := fun K => OpR (C.X j) (binaryOp .Add) (rCatA K)) j op_catA, pa, pb, va, vb, rfl, rfl, ta, tb, by rw [l1, l2]; exact Nat.le_trans hl (by decide), fun z => ?_, fun _ z => ?_, fun _ _ => post_tup R (ra.append rb) p⟩
      · have e : a = [] := by rw [z] at l1; exact List.eq_nil_of_length_eq_zero l1.symm
        rw [e] at p
        exact post_v R (rr_v hy) p
      · have e : b = [] := by rw [z] at l2; exact List.eq_nil_of_length_eq_zero l2.symm
        rw [e, List.append_nil] at p
        exact post_v R (rr_v hx) p
    · exact p.elim
  · split at p
    · rename_i a b ea eb
      split at p
      · rename_i hl
        obtain ⟨pa, va, rfl, ta, ra⟩ := lst_of R hx ea
        obtain ⟨pb, vb, rfl, tb, rb⟩ := lst_of R hy eb
        exact ⟨_, fun _ => op_cat, pa, pb, va, vb, rfl, rfl, ta, tb, by rw [ra.length, rb.length]; exact Nat.le_trans hl (by decide), post_nl R (ra.append rb) p⟩
      · exact p.elim
    · exact p.elim
theorem os_sub : OpS C (opAny C (binaryOp .Sub)) mSub := fun F m h H H0 σ x y rx ry Q R hx hy p => by
  unfold mSub at p
  split at p
  · exact ⟨_, fun _ => op_sub, _, _, vr_int (rr_v hx), vr_int (rr_v hy), post_v R (.int _) p⟩
  · exact p.elim
theorem op_mulA {X : Cx} : OpR X (binaryOp .Mult) (rI IntMulOk fun i j => .int (i * j)) := opI fun _ _ _ _ _ _ _ hc q => mul_int q hc
theorem os_mul : OpS C (opAny C (binaryOp .Mult)) mMul := fun F m h H H0 σ x y rx ry Q R hx hy p => by
  unfold mMul at p
  split at p
  · split at p
    · rename_i i j hk
      refine ⟨_, fun _ => op_mulA, i, j, vr_int (rr_v hx), vr_int (rr_v hy), ?_, post_v R (.int _) p⟩
      rcases Bool.or_eq_true_iff.mp hk with hk | hk
      case inr =>
        have q : i.natAbs.log2 + j.natAbs.log2 < 1000000 := of_decide_eq_true hk
        exact L2.CMulW.ok q
      rcases Bool.or_eq_true_iff.mp hk with k | k
      · exact .of_left (intBits_le_64 (small_ok k).1 (small_ok k).2)
      · exact .of_right (intBits_le_64 (small_ok k).1 (small_ok k).2)
    · exact p.elim
  · split at p
    · rename_i a k hk
      obtain ⟨pa, va, rfl, ta, ra⟩ := rr_tup hx
      have l1 := ra.length
      have hne : va ≠ [] := fun z => hk.1 (by rw [z] at l1; exact List.eq_nil_of_length_eq_zero l1.symm)
      by_cases h2 : 2 ≤ k
      case neg =>
        have hk01 : k = 1 ∨ k = 0 := by omega
        rcases hk01 with rfl | rfl
        · have e1 : (List.replicate (1 : Int).toNat a).flatten = a := by simp
          rw [e1] at p
          exact ⟨_, fun j => kx (p := fun K => OpR (C.X j) (binaryOp .Mult) (rRep01 K)) j op_rep01, pa, 1, va, rfl, vr_int (rr_v hy), ta, hne, .inl ⟨rfl, post_v R (rr_v hx) p⟩⟩
        · exact ⟨_, fun j => kx (p := fun K => OpR (C.X j) (binaryOp .Mult) (rRep01 K)) j op_rep01, pa, 0, va, rfl, vr_int (rr_v hy), ta, hne, .inr ⟨rfl, post_tup R .nil p⟩⟩
      refine ⟨_, fun j => kx (p := fun K => OpR (C.X j) (binaryOp .Mult) (rRepT K)) j op_repT, pa, k, va, rfl, vr_int (rr_v hy), ta, fun z => hk.1 (by rw [z] at l1; exact List.eq_nil_of_length_eq_zero l1.symm), h2, hk.2.2.1, by omega, post_tup R (vrs_rep ra k.toNat) p⟩
    · exact p.elim
  · split at p
    · rename_i k _ _ _ a ea
      split at p
      · rename_i hk
        obtain ⟨pa, va, rfl, ta, ra⟩ := lst_of R hx ea
        have l1 := ra.length
        refine ⟨_, fun _ => op_rep, pa, k, va, rfl, vr_int (rr_v hy), ta, by omega, by omega, ?_, post_nl R (vrs_rep ra k.toNat) p⟩
        have h1 : va.length ≤ 1000 := by omega
        have h2 : k.toNat ≤ 1000 := by omega
        exact Nat.le_trans (Nat.mul_le_mul h1 h2) (by decide)
      · exact p.elim
    · exact p.elim
  · exact p.elim
theorem os_div : OpS C (opAny C (binaryOp .FloorDiv)) mDiv := fun F m h H H0 σ x y rx ry Q R hx hy p => by
  unfold mDiv at p
  split at p
  · split at p
    · rename_i hk
      exact ⟨_, fun _ => op_fdivW, _, _, vr_int (rr_v hx), vr_int (rr_v hy), hk, post_v R (.int _) p⟩
    · exact p.elim
  · exact p.elim
theorem os_mod : OpS C (opAny C (binaryOp .Mod)) mMod := fun F m h H H0 σ x y rx ry Q R hx hy p => by
  unfold mMod at p
  split at p
  · split at p
    · rename_i hk
      exact ⟨_, fun _ => op_mod, _, _, vr_int (rr_v hx), vr_int (rr_v hy), hk, post_v R (.int _) p⟩
    · exact p.elim
  · exact p.elim
theorem os_pow : OpS C (opAny C (binaryOp .Pow)) mPow := fun F m h H H0 σ x y rx ry Q R hx hy p => by
  unfold mPow at p
  split at p
  · split at p
    · rename_i hk
      exact ⟨_, fun _ => op_pow, _, _, vr_int (rr_v hx), vr_int (rr_v hy), ⟨hk.1, hk.2.1, Nat.lt_of_lt_of_eq (of_decide_eq_true hk.2.2) (by decide)⟩, post_v R (.int _) p⟩
    · exact p.elim
  · exact p.elim
theorem os_shr : OpS C (opAny C (binaryOp .RShift)) mShr := fun F m h H H0 σ x y rx ry Q R hx hy p => by
  unfold mShr at p
  split at p
  · split at p
    · rename_i hk
      exact ⟨_, fun _ => op_shr, _, _, vr_int (rr_v hx), vr_int (rr_v hy), hk, post_v R (.int _) p⟩
    · exact p.elim
  · exact p.elim
theorem os_and1 : OpS C (opAny C (binaryOp .BitAnd)) mAnd1 := fun F m h H H0 σ x y rx ry Q R hx hy p => by
  unfold mAnd1 at p
  split at p
  · split at p
    · rename_i i j hk
      subst hk
      exact ⟨_, fun _ => op_andM, i, 1, vr_int (rr_v hx), vr_int (rr_v hy), post_v R (.int _) p⟩
    · exact p.elim
  · exact p.elim
/-- - a -/
def eNeg (fa : Fe) : Fe := fun env h => (fa env h).bind fun x h1 => match x with
  | .v (.int i) => .ok (.v (.int (-i))) h1
  | _ => .no
theorem se_neg (ha : SE C a fa) : SE C (.UnaryOp .USub a pos) (eNeg fa) :=
  se_of (fun j => pe_un un_neg (pe_any C a j)) fun F m h env H σ R E Q p => ha F m h env H σ R E _ (p.bind fun rx h1 m1 x H1 e1 s1 R1 r1 p1 => by
    split at p1
    · exact ⟨_, vr_int (rr_v r1), post_v R1 (.int _) p1⟩
    · exact p1.elim)
/-! comparisons of whole numbers -/
abbrev Cmp2 := MHp → RV → RV → Option Bool
def mB (g : Cmp2) : Op2 := fun h x y => match g h x y with
  | some b => .ok (.v (.bl b)) h
  | none => .no
/-- what a comparison's rule has to say -/
def CmS (C : Cs) (r : R2) (g : Cmp2) : Prop := ∀ F m h H H0 x y rx ry k (Q : VK), Rl (C.S F) m h H → RR (C.S F) H0 m H x rx → RR (C.S F) H0 m H y ry → g h rx ry = some k → Q (.bl k) H → r x y H Q
theorem CmS.op {r : R2} {g : Cmp2} (hr : CmS C r g) : OpS C r (mB g) := fun F m h H H0 σ x y rx ry Q R hx hy p => by
  unfold mB at p
  split at p
  · rename_i k e
    exact hr F m h H H0 x y rx ry k Q R hx hy e (post_v R (.bl _) p)
  · exact p.elim
def gI (g : Int → Int → Bool) : Cmp2 := fun _ x y => match x, y with
  | .v (.int i), .v (.int j) => some (g i j)
  | _, _ => none
theorem cs_int {op : CmpOp} {g : Int → Int → Bool} (hr : ∀ j, OpR (C.X j) (compareOp op) (rI0 fun i j => .bl (g i j))) : CmS C (opAny C (compareOp op)) (gI g) := fun F m h H H0 x y rx ry k Q R hx hy p q => by
  unfold gI at p
  split at p
  · cases p
    exact ⟨_, hr, _, _, vr_int (rr_v hx), vr_int (rr_v hy), q⟩
  · cases p
def gLt : Cmp2 := gI fun i j => decide (i < j)
def gLe : Cmp2 := gI fun i j => decide (i ≤ j)
def gGt : Cmp2 := gI fun i j => decide (j < i)
def gGe : Cmp2 := gI fun i j => decide (j ≤ i)
theorem cs_lt : CmS C (opAny C (compareOp .Lt)) gLt := cs_int fun _ => op_lt
theorem cs_le : CmS C (opAny C (compareOp .LtE)) gLe := cs_int fun _ => op_le
theorem cs_gt : CmS C (opAny C (compareOp .Gt)) gGt := cs_int fun _ => op_gt
theorem cs_ge : CmS C (opAny C (compareOp .GtE)) gGe := cs_int fun _ => op_ge
end
end Mp

/-! M4: subscripts, slices, displays, tests, builtins. -/
namespace Mp
open PySem PySem.Spec PyProof.Rows L2
/-- no star -/
def NS (e : Expr) : Prop := ∀ (rest : List Expr) (env : Env), starEach (e :: rest) env = (false, eval e env) :: starEach rest env
theorem ns_any : ∀ {es : List Expr} (h : ∀ e ∈ es, NS e) (env : Env) (pos : Pos), (backTo pos (starEach es env)).any (·.1) = false
  | [], _, _, _ => rfl
  | e :: r, h, env, pos => by
    have ih := ns_any (es := r) (fun x hx => h x (List.mem_cons_of_mem _ hx)) env pos
    rw [h e List.mem_cons_self r env]
    show (false || (backTo pos (starEach r env)).any (·.1)) = false
    rw [ih]
    rfl
section
variable {C : Cs} {e a b c : Expr} {f f1 f2 fa fb fc : Fe} {pos p1 p2 pos' : Pos}
/-- where two readings are known -/
theorem SE.pick (h1 : SE C e f1) (h2 : SE C e f2) (hp : ∀ env h, f env h = f1 env h ∨ f env h = f2 env h ∨ f env h = .no) : SE C e f := fun F m h env H σ R E Q p => by
  rcases hp env h with z | z | z
  · rw [z] at p; exact h1 F m h env H σ R E Q p
  · rw [z] at p; exact h2 F m h env H σ R E Q p
  · rw [z] at p; exact p.elim
/-! ### subscripts -/
def mIx : Op2 := fun h x y => match seqOf h x, y with
  | some (_, ds), .v (.int i) => match atI ds i with
    | some d => .ok (.v d) h
    | none => .no
  | _, _ => .no
theorem ixN_some {n : Nat} {i : Int} {j : Nat} (h : ixN n i = some j) : j < n := by
  unfold ixN at h
  split at h
  · split at h
    · cases h; omega
    · cases h
  · split at h
    · cases h; omega
    · cases h
theorem atI_vr {S : Sx} {m : Mm} {H : Hp} {vs : List V} {ds : List MV} {d : MV} {i : Int} (hv : VRs S m H vs ds) (h : atI ds i = some d) : ∃ v, atI vs i = some v ∧ VR S m H v d := by
  unfold atI at h ⊢
  rw [hv.length]
  cases q : ixN ds.length i with
  | none => rw [q] at h; cases h
  | some j =>
    rw [q] at h
    exact hv.get h
theorem os_ix : OpS C (ixAny C) mIx := fun F m h H H0 σ x y rx ry Q R hx hy p => by
  unfold mIx at p
  split at p
  · rename_i b ds i e
    split at p
    · rename_i d e2
      obtain ⟨a, vs, rfl, hv, hs⟩ := seq_of R hx e
      obtain ⟨v, h1, h2⟩ := atI_vr hv e2
      rcases hs with ⟨_, hs⟩ | ⟨_, hs⟩
      · exact ⟨_, fun j => kx (p := fun K => IxR (C.X j) (rIxL K)) j ix_list, a, vs, i, v, rfl, vr_int (rr_v hy), hs, h1, post_v R h2 p⟩
      · exact ⟨_, fun j => kx (p := fun K => IxR (C.X j) (rIxT K)) j ix_tup, a, vs, i, v, rfl, vr_int (rr_v hy), hs, h1, post_v R h2 p⟩
    · exact p.elim
  · exact p.elim
theorem se_ix (ha : SE C a fa) (hb : SE C b fb) (hs : PlainIx b) : SE C (.Subscript a b pos) (eBin mIx fa fb) :=
  se_of (fun j => pe_ix (ixr_any C j) (pe_any C a j) (pe_any C b j) hs) fun F m h env H σ R E Q p => ev_bin os_ix ha hb R E p
/-- a sign of a text -/
def mIxS : Op2 := fun h x y => match x, y with
  | .v (.str z), .v (.int i) => if 0 ≤ i ∧ i < z.length then .ok (.v (.str ⟨#[z.cps.getD i.toNat 0]⟩)) h else .no
  | _, _ => .no
/-! ### slices -/
def cutM (xs : List MV) (lo hi : Option Int) : List MV := (xs.drop (HT.sIx xs.length 0 lo)).take (HT.sIx xs.length xs.length hi - HT.sIx xs.length 0 lo)
theorem vrs_cut {S : Sx} {m : Mm} {H : Hp} {vs : List V} {ds : List MV} {lo hi : Option Int} (h : VRs S m H vs ds) : VRs S m H (cutV vs lo hi) (cutM ds lo hi) := by
  unfold cutV cutM
  rw [h.length]
  exact (h.drop _).take _
def mSl (h : MHp) (x : RV) (lo hi : Option Int) : Out RV := match x with
  | .v (.tup ds) => .ok (.v (.tup (cutM ds lo hi))) h
  | .v (.str z) => if z.length ≤ 1000000 then .ok (.v (.str (cutS z lo hi))) h else .no
  | x => match seqOf h x with
    | some (true, ds) => .ok (.nl (cutM ds lo hi)) h
    | _ => .no
abbrev Fo := Ev → MHp → Out (Option Int)
def oNone : Fo := fun _ h => .ok none h
def oSome (f : Fe) : Fo := fun env h => (f env h).bind fun x h1 => match x with
  | .v (.int i) => .ok (some i) h1
  | _ => .no
def eSl (fa : Fe) (fl fu : Fo) : Fe := fun env h => (fa env h).bind fun x h1 => (fl env h1).bind fun lo h2 => (fu env h2).bind fun hi h3 => mSl h3 x lo hi
theorem so_none : SO C none oNone := fun F m h env H σ R E Q p => ⟨tNoPart, fun _ => po_none, p m _ H .refl R rfl⟩
theorem so_some (ha : SE C e f) : SO C (some e) (oSome f) := fun F m h env H σ R E Q p => ⟨tPart (eAny C e), fun j => po_some (pe_any C e j), ha F m h env H σ R E _ (p.bind fun rx h1 m1 x H1 e1 s1 R1 r1 p1 => by
  split at p1
  · exact ⟨_, vr_int (rr_v r1), p1 m1 _ H1 .refl R1 rfl⟩
  · exact p1.elim)⟩
theorem se_sl {lo hi : Option Expr} {fl fu : Fo} (ha : SE C a fa) (h1 : SO C lo fl) (h2 : SO C hi fu) : SE C (.Subscript a (.Slice lo hi none p2) pos) (eSl fa fl fu) :=
  se_of (fun j => pe_slice (slr_any C j) (pe_any C a j) (po_any C lo j) (po_any C hi j)) fun F m h env H σ R E Q p =>
    ha F m h env H σ R E _ (p.bind fun rx hh1 m1 x H1 e1 s1 R1 r1 p1 => h1 F m1 hh1 env H1 σ R1 (E.step s1) _ (p1.bind fun l hh2 m2 lv H2 e2 s2 R2 r2 p2 => h2 F m2 hh2 env H2 σ R2 ((E.step s1).step s2) _ (p2.bind fun u hh3 m3 uv H3 e3 s3 R3 r3 p3 => by
      cases r2
      cases r3
      have r4 : RR (C.S F) H m3 H3 x rx := kE.step (s2.trans s3) r1
      unfold mSl at p3
      split at p3
      · rename_i ds
        obtain ⟨q, vs, rfl, hs, hv⟩ := rr_tup r4
        refine ⟨_, fun j => kx (p := fun K => SlR (C.X j) (rSlA K)) j sl_tupA, q, vs, rfl, hs, fun z => ?_, fun _ => post_tup R3 (vrs_cut hv) p3⟩
        have e : cutM ds l u = ds := by
          unfold cutM
          rw [hv.length] at z
          rw [z.1, z.2, List.drop_zero, Nat.sub_zero, List.take_length]
        rw [e] at p3
        exact post_v R3 (rr_v r4) p3
      · rename_i z
        split at p3
        · rename_i hl
          exact ⟨_, fun j => sl_str, z, vr_str (rr_v r4), Nat.le_trans hl (by decide), post_v R3 (.str _) p3⟩
        · exact p3.elim
      · split at p3
        · rename_i ds es
          obtain ⟨q, vs, rfl, hv, hs⟩ := seq_of R3 r4 es
          rcases hs with ⟨_, hs⟩ | ⟨z, _⟩
          · exact ⟨_, fun j => kx (p := fun K => SlR (C.X j) (rSlL K)) j sl_list, q, vs, rfl, hs, post_nl R3 (vrs_cut hv) p3⟩
          · cases z
        · exact p3.elim)))
/-! ### arguments, displays -/
abbrev Fa := Ev → MHp → Out (List MV)
def aNil : Fa := fun _ h => .ok [] h
def aCons (f : Fe) (g : Fa) : Fa := fun env h => (f env h).bind fun x h1 => (g env h1).bind fun xs h2 => .ok (x.toV :: xs) h2
theorem sa_nil : SA C [] aNil := fun F m h env H σ R E Q p => ⟨tNil, fun _ => pa_nil, p m _ H .refl R .nil⟩
theorem sa_cons {es : List Expr} {g : Fa} (ha : SE C e f) (hb : SA C es g) (hs : NS e) : SA C (e :: es) (aCons f g) := fun F m h env H σ R E Q p =>
  ⟨tCons (eAny C e) (aAny C es), fun j => pa_cons (pe_any C e j) (pa_any C es j) (hs _ _), ha F m h env H σ R E _ (p.bind fun rx h1 m1 x H1 e1 s1 R1 r1 p1 => hb F m1 h1 env H1 σ R1 (E.step s1) _ (p1.bind fun ys h2 m2 vs H2 e2 s2 R2 r2 p2 =>
    p2 m2 _ H2 .refl R2 (.cons (kE.step s2 r1).toV r2)))⟩
def eTup (g : Fa) : Fe := fun env h => (g env h).bind fun xs h1 => if xs.length ≤ 1000000 then .ok (.v (.tup xs)) h1 else .no
def eLst (g : Fa) : Fe := fun env h => (g env h).bind fun xs h1 => if xs.length ≤ 1000000 then .ok (.nl xs) h1 else .no
theorem se_tup {es : List Expr} {g : Fa} {k : Nat} (ha : SA C es g) : SE C (.Tuple es k pos) (eTup g) :=
  se_of (fun j => pe_tup (pa_any C es j)) fun F m h env H σ R E Q p => ha F m h env H σ R E _ (p.bind fun ds h1 m1 vs H1 e1 s1 R1 r1 p1 => by
    split at p1
    · rename_i hl
      exact ⟨by rw [VRs.length r1]; exact Nat.le_trans hl (by decide), post_tup R1 r1 p1⟩
    · exact p1.elim)
theorem se_lst {es : List Expr} {g : Fa} (ha : SA C es g) : SE C (.List es pos) (eLst g) :=
  se_of (fun j => pe_lst (pa_any C es j)) fun F m h env H σ R E Q p => ha F m h env H σ R E _ (p.bind fun ds h1 m1 vs H1 e1 s1 R1 r1 p1 => by
    split at p1
    · rename_i hl
      exact ⟨by rw [VRs.length r1]; exact Nat.le_trans hl (by decide), post_nl R1 r1 p1⟩
    · exact p1.elim)
/-! ### truth -/
def tru (h : MHp) : RV → Option Bool
  | .v .non => some false
  | .v (.bl b) => some b
  | .v (.int i) => some (i != 0)
  | .v (.str y) => if y.length ≤ 1000000 then some ((y.length : Int) != 0) else none
  | r => (seqOf h r).map fun p => !p.2.isEmpty
def mTru (h : MHp) (r : RV) : Out Bool := match tru h r with
  | some b => .ok b h
  | none => .no
/-- a value's truth -/
def fT (f : Fe) : Ev → MHp → Out Bool := fun env h => (f env h).bind fun x h1 => mTru h1 x
theorem vrs_empty {S : Sx} {m : Mm} {H : Hp} {vs : List V} {ds : List MV} (h : VRs S m H vs ds) : vs.isEmpty = ds.isEmpty := by
  cases h <;> rfl
theorem tru_of {m : Mm} {h : MHp} {H H0 : Hp} {x : V} {r : RV} {k : Bool} (R : Rl (C.S F) m h H) (hr : RR (C.S F) H0 m H x r) (e : tru h r = some k) : TruV C.K x H k := by
  unfold tru at e
  split at e
  · cases e
    rw [vr_non (rr_v hr)]
    exact rfl
  · cases e
    rw [vr_bl (rr_v hr)]
    exact rfl
  · cases e
    rw [vr_int (rr_v hr)]
    exact rfl
  · split at e
    · rename_i hl
      cases e
      rw [vr_str (rr_v hr)]
      exact ⟨Nat.le_trans hl (by decide), rfl⟩
    · cases e
  · obtain ⟨⟨b, ds⟩, e1, e2⟩ := Option.map_eq_some_iff.mp e
    cases e2
    obtain ⟨a, vs, rfl, hv, hs⟩ := seq_of R hr e1
    rcases hs with ⟨_, hs⟩ | ⟨_, hs⟩
    · exact .inl ⟨vs, hs, by rw [vrs_empty hv]⟩
    · exact .inr (.inl ⟨vs, hs, by rw [vrs_empty hv]⟩)
theorem st_of {t : TT} {g : Ev → MHp → Out Bool} (h : ∀ i, PT (C.X i) e t) (ev : ∀ F m h env H σ, Rl (C.S F) m h H → EnvR (C.S F) m H σ env → ∀ Q : Bool → Hp → Prop, Post C F m H σ kT (g env h) Q → t σ H Q) : ST C e g := fun F m hh env H σ R E Q p => ⟨t, h, ev F m hh env H σ R E Q p⟩
/-- what has no test of its own -/
def Plain (e : Expr) : Prop := ∀ (env : Env) (whole : Sem Value), isTrue e env whole = (do let v ← whole; standAt e.pos; holding [v] (truthy v))
def tTruth (K : Fg) (ta : TE) : TT := fun σ H Q => ta σ H fun x H' => ∃ k, TruV K x H' k ∧ Q k H'
theorem st_val (ha : SE C a fa) (he : Plain a) : ST C a (fT fa) :=
  st_of (t := tTruth C.K (eAny C a)) (fun j => kx (p := fun K => PT (C.X j) a (tTruth K (eAny C a))) j (pt_truth (pe_any C a j) (he _))) fun F m h env H σ R E Q p => ha F m h env H σ R E _ (p.bind fun rx h1 m1 x H1 e1 s1 R1 r1 p1 => by
    unfold mTru at p1
    split at p1
    · rename_i k ek
      exact ⟨k, tru_of R1 r1 ek, p1 m1 k H1 .refl R1 rfl⟩
    · exact p1.elim)
theorem st_cmp {op : CmpOp} {g : Cmp2} (hr : CmS C (opAny C (compareOp op)) g) (ha : SE C a fa) (hb : SE C b fb) (hm : behindInMarks op b = false) : ST C (.Compare a [op] [b] pos) (fT (eBin (mB g) fa fb)) :=
  st_of (fun j => pt_cmpR (opr_any C _ j) (pe_any C a j) (pe_any C b j) hm) fun F m h env H σ R E Q p =>
    ha F m h env H σ R E _ (by
      have p' : Post C F m H σ kT ((fa env h).bind fun x h1 => (fb env h1).bind fun y h2 => (mB g h2 x y).bind fun z h3 => mTru h3 z) Q := by
        unfold fT eBin at p
        cases q : fa env h with
        | ok rx h1 =>
          rw [q] at p
          simp only [Out.bind] at p ⊢
          cases q2 : fb env h1 with
          | ok ry h2 => rw [q2] at p; exact p
          | ex c fs h' => rw [q2] at p; exact p
          | no => rw [q2] at p; exact p
        | ex c fs h' => rw [q] at p; exact p
        | no => rw [q] at p; exact p
      exact p'.bind fun rx h1 m1 x H1 e1 s1 R1 r1 p1 => hb F m1 h1 env H1 σ R1 (E.step s1) _ (p1.bind fun ry h2 m2 y H2 e2 s2 R2 r2 p2 => by
        unfold mB at p2
        cases q : g h2 rx ry with
        | some k =>
          rw [q] at p2
          exact hr F m2 h2 H2 H x y rx ry k _ R2 (kE.step s2 r1) (kE.back s1 r2) q ⟨k, rfl, p2 m2 k H2 .refl R2 rfl⟩
        | none => rw [q] at p2; exact p2.elim))
/-! ### and, or, not, if -/
abbrev Ft := Ev → MHp → Out Bool
def tAndM (f g : Ft) : Ft := fun env h => (f env h).bind fun k h1 => if k = true then g env h1 else .ok false h1
def tOrM (f g : Ft) : Ft := fun env h => (f env h).bind fun k h1 => if k = true then .ok true h1 else g env h1
def tNotM (f : Ft) : Ft := fun env h => (f env h).bind fun k h1 => .ok (!k) h1
variable {ga gb gc : Ft} {rest : List Expr}
theorem sw_of {t : TT} {g : Ft} (h : ∀ i, PW (C.X i) e t) (ev : ∀ F m h env H σ, Rl (C.S F) m h H → EnvR (C.S F) m H σ env → ∀ Q : Bool → Hp → Prop, Post C F m H σ kT (g env h) Q → t σ H Q) : SW C e g := fun F m hh env H σ R E Q p => ⟨t, h, ev F m hh env H σ R E Q p⟩
theorem st_w {g : Ft} (h : SW C e g) : ST C e g := st_of (fun j => (pw_any C e j).pt) h
theorem sw_and1 (h : ST C a ga) : SW C (.BoolOp .And [a] pos) ga := sw_of (fun j => pw_and1 (pt_any C a j)) h
theorem sw_or1 (h : ST C a ga) : SW C (.BoolOp .Or [a] pos) ga := sw_of (fun j => pw_or1 (pt_any C a j)) h
theorem sw_and (ha : ST C a ga) (hb : SW C (.BoolOp .And (b :: rest) pos) gb) : SW C (.BoolOp .And (a :: b :: rest) pos) (tAndM ga gb) :=
  sw_of (fun j => pw_and (pt_any C a j) (pw_any C _ j)) fun F m h env H σ R E Q p => ha F m h env H σ R E _ (p.bind fun k h1 m1 x H1 e1 s1 R1 r1 p1 => by
    cases r1
    cases k with
    | true => rw [if_pos rfl] at p1 ⊢; exact hb F m1 h1 env H1 σ R1 (E.step s1) Q p1
    | false => rw [if_neg Bool.false_ne_true] at p1 ⊢; exact p1 m1 _ H1 .refl R1 rfl)
theorem sw_or (ha : ST C a ga) (hb : SW C (.BoolOp .Or (b :: rest) pos) gb) : SW C (.BoolOp .Or (a :: b :: rest) pos) (tOrM ga gb) :=
  sw_of (fun j => pw_or (pt_any C a j) (pw_any C _ j)) fun F m h env H σ R E Q p => ha F m h env H σ R E _ (p.bind fun k h1 m1 x H1 e1 s1 R1 r1 p1 => by
    cases r1
    cases k with
    | true => rw [if_pos rfl] at p1 ⊢; exact p1 m1 _ H1 .refl R1 rfl
    | false => rw [if_neg Bool.false_ne_true] at p1 ⊢; exact hb F m1 h1 env H1 σ R1 (E.step s1) Q p1)
theorem st_not (h : ST C a ga) : ST C (.UnaryOp .Not a pos) (tNotM ga) :=
  st_of (fun j => pt_not (pt_any C a j)) fun F m h' env H σ R E Q p => h F m h' env H σ R E _ (p.bind fun k h1 m1 x H1 e1 s1 R1 r1 p1 => by
    cases r1
    exact p1 m1 _ H1 .refl R1 rfl)
def eOf (g : Ft) : Fe := fun env h => (g env h).bind fun k h1 => .ok (.v (.bl k)) h1
/-- not as a value, of a value that is a truth -/
def eNot (fa : Fe) : Fe := fun env h => (fa env h).bind fun x h1 => match x with
  | .v (.bl k) => .ok (.v (.bl (!k))) h1
  | _ => .no
theorem se_not (ha : SE C a fa) : SE C (.UnaryOp .Not a pos) (eNot fa) :=
  se_of (fun j => pe_not (pe_any C a j)) fun F m h env H σ R E Q p => ha F m h env H σ R E _ (p.bind fun rx h1 m1 x H1 e1 s1 R1 r1 p1 => by
    split at p1
    · exact ⟨_, vr_bl (rr_v r1), post_v R1 (.bl _) p1⟩
    · exact p1.elim)
/-- if as a value -/
def eIte (g : Ft) (fa fb : Fe) : Fe := fun env h => (g env h).bind fun k h1 => if k = true then fa env h1 else fb env h1
theorem rr_back {S : Sx} {m m1 m2 : Mm} {H H1 H2 : Hp} {x : V} {r : RV} (s : Stp S m H m1 H1) (h : RR S H1 m2 H2 x r) : RR S H m2 H2 x r := h.back s
theorem se_ite (hc : ST C c gc) (ha : SE C a fa) (hb : SE C b fb) : SE C (.IfExp c a b pos) (eIte gc fa fb) :=
  se_of (fun j => pe_ifExp (pt_any C c j) (pe_any C a j) (pe_any C b j)) fun F m h env H σ R E Q p => hc F m h env H σ R E _ (p.bind fun k h1 m1 x H1 e1 s1 R1 r1 p1 => by
    cases r1
    cases k with
    | true => rw [if_pos rfl] at p1 ⊢; exact ha F m1 h1 env H1 σ R1 (E.step s1) Q p1
    | false => rw [if_neg Bool.false_ne_true] at p1 ⊢; exact hb F m1 h1 env H1 σ R1 (E.step s1) Q p1)
end
end Mp

/-! M5: and, or as values; chains; equality; builtins. -/
namespace Mp
open PySem PySem.Spec PyProof.Rows L2
/-! ### data as Python compares it -/
mutual
def MV.py : MV → PyData
  | .non => .none
  | .bl b => .bool b
  | .int i => .int i
  | .str x => .str x
  | .lst xs => .list (pyAll xs)
  | .tup xs => .tuple (pyAll xs)
  | .ktup xs => .tuple (pyAll xs)
  | .scr _ => .none
  | .ref _ => .none
  | .fn _ => .none
def pyAll : List MV → List PyData
  | [] => []
  | d :: ds => d.py :: pyAll ds
end
mutual
/-- made of what Python compares by value -/
def MV.plain : MV → Bool
  | .non => true
  | .bl _ => true
  | .int _ => true
  | .str _ => true
  | .lst xs => plainAll xs
  | .tup xs => plainAll xs
  | .ktup xs => plainAll xs
  | .scr _ => false
  | .ref _ => false
  | .fn _ => false
def plainAll : List MV → Bool
  | [] => true
  | d :: ds => d.plain && plainAll ds
end
mutual
theorem dp_of {S : Sx} {m : Mm} {H : Hp} : ∀ {v : V} {d : MV}, VR S m H v d → d.plain = true → Dp S.K H v d.py
  | _, _, .non, _ => .non
  | _, _, .bl b, _ => .bl b
  | _, _, .int i, _ => .int i
  | _, _, .str x, _ => .str x
  | _, _, .lst h _ _ a, p => .lst (SqL.of h) (dpAll_of a (by simpa [MV.plain] using p))
  | _, _, .tup h a, p => .tup (SqT.of h) (dpAll_of a (by simpa [MV.plain] using p))
  | _, _, .ktup h a, p => .tup h (dpAll_of a (by simpa [MV.plain] using p))
  | _, _, .scr _, p => by simp [MV.plain] at p
  | _, _, .ref _, p => by simp [MV.plain] at p
  | _, _, .fn _, p => by simp [MV.plain] at p
theorem dpAll_of {S : Sx} {m : Mm} {H : Hp} : ∀ {vs : List V} {ds : List MV}, VRs S m H vs ds → plainAll ds = true → DpAll S.K H vs (pyAll ds)
  | _, _, .nil, _ => .nil
  | _, _, .cons (d := d) (ds := ds) h a, p => by
    have p' : d.plain = true ∧ plainAll ds = true := by simpa [plainAll] using p
    exact .cons (dp_of h p'.1) (dpAll_of a p'.2)
end
/-- .. a list of the small heap may stand outermost -/
def pyR (h : MHp) (r : RV) : Option PyData := match r with
  | .nl ds => if plainAll ds = true then some (.list (pyAll ds)) else none
  | .v (.ref n) => match lstAt h n with
    | some ds => if plainAll ds = true then some (.list (pyAll ds)) else none
    | none => none
  | .v d => if d.plain = true then some d.py else none
section
variable {C : Cs} {m m1 m' : Mm} {h : MHp} {H H0 H' : Hp} {σ : L2.St} {x y : V} {r : RV}
theorem dp_r {d : PyData} (R : Rl (C.S F) m h H) (hr : RR (C.S F) H0 m H x r) (e : pyR h r = some d) : Dp C.K H x d := by
  unfold pyR at e
  split at e
  · split at e
    · rename_i ds hp
      cases e
      cases hr with
      | nl h1 h2 nf h3 h4 => exact .lst (SqL.of h3) (dpAll_of (h4.less fun _ z => .inl z) hp)
    · cases e
  · split at e
    · rename_i n _ ds e2
      split at e
      · rename_i hp
        cases e
        obtain ⟨a, vs, rfl, h1, h2⟩ := lst_of (r := .v (.ref n)) R hr e2
        exact .lst (SqL.of h1) (dpAll_of h2 hp)
      · cases e
    · cases e
  · split at e
    · rename_i hp
      cases e
      exact dp_of (rr_v hr) hp
    · cases e
end
def gEq (neg : Bool) : Cmp2 := fun h x y => match x, y with
  | .v (.int i), .v (.int j) => some (decide (i = j) != neg)
  | .v (.str i), .v (.str j) => some (decide (i = j) != neg)
  | x, y => match pyR h x, pyR h y with
    | some a, some b => if SeqAt.shaped a = true ∧ SeqAt.shaped b = true then some (PyData.eqv a b != neg) else none
    | _, _ => none
/-- x in a list, a tuple; a text in a text -/
def gIn (neg : Bool) : Cmp2 := fun h x y => match x, y with
  | .v (.str i), .v (.str j) => some ((!(Builtin.Str.occurrences j i 0 j.length 1).isEmpty) != neg)
  | x, y => match pyR h x, pyR h y with
    | some d, some (.list ds) => if SeqAt.shaped d = true ∧ SeqAt.shaped (.list ds) = true then some ((ds.any fun z => PyData.eqv z d) != neg) else none
    | some d, some (.tuple ds) => if SeqAt.shaped d = true ∧ SeqAt.shaped (.tuple ds) = true then some ((ds.any fun z => PyData.eqv z d) != neg) else none
    | _, _ => none
def rInTD (K : Fg) (neg : Bool) : R2 := fun x y H Q => ∃ d ds, Dp K H x d ∧ Dp K H y (.tuple ds) ∧ SeqAt.shaped d = true ∧ SeqAt.shaped (.tuple ds) = true ∧ Q (.bl (if neg then !(ds.any fun z => PyData.eqv z d) else ds.any fun z => PyData.eqv z d)) H
theorem op_inTD {X : Cx} (hu : X.A.units + 65 < cLine) : OpR X (compareOp .In) (rInTD X.K false) := by
  intro pins s σ H x y v u Q I rx ry h
  obtain ⟨d, ds, hd, he, sd, se, q⟩ := h
  obtain ⟨as, r1⟩ := Dp.reads I d x v hd rx
  obtain ⟨bs, r2⟩ := Dp.reads I (.tuple ds) y u he ry
  exact SeqAt.in_tuple_reads r2 r1 (SeqAt.canLay_of_shaped se) (SeqAt.canLay_of_shaped sd) (room_in_shaped sd hu) ⟨.bl _, H, I, rfl, q⟩
theorem op_notInTD {X : Cx} (hu : X.A.units + 65 < cLine) : OpR X (compareOp .NotIn) (rInTD X.K true) := by
  intro pins s σ H x y v u Q I rx ry h
  obtain ⟨d, ds, hd, he, sd, se, q⟩ := h
  obtain ⟨as, r1⟩ := Dp.reads I d x v hd rx
  obtain ⟨bs, r2⟩ := Dp.reads I (.tuple ds) y u he ry
  exact SeqAt.notIn_tuple_reads r2 r1 (SeqAt.canLay_of_shaped se) (SeqAt.canLay_of_shaped sd) (room_in_shaped sd hu) ⟨.bl _, H, I, rfl, q⟩
section
variable {C : Cs} {e a b c : Expr} {f f1 f2 fa fb fc : Fe} {pos p1 p2 pos' : Pos}
theorem dec_int' {i j : Int} : decide (V.int i = V.int j) = decide (i = j) := by
  by_cases h : i = j
  · subst h; simp
  · rw [decide_eq_false h, decide_eq_false fun z => h (V.int.inj z)]
theorem dec_str' {i j : Str} : decide (V.str i = V.str j) = decide (i = j) := by
  by_cases h : i = j
  · subst h; simp
  · rw [decide_eq_false h, decide_eq_false fun z => h (V.str.inj z)]
theorem cs_eq : CmS C (opAny C (compareOp .Eq)) (gEq false) := fun F m h H H0 x y rx ry k Q R hx hy p q => by
  unfold gEq at p
  split at p
  · cases p
    refine ⟨_, fun _ => op_eq, ?_⟩
    rw [vr_int (rr_v hx), vr_int (rr_v hy)]
    exact ⟨rfl, by rw [dec_int']; simpa using q⟩
  · cases p
    refine ⟨_, fun _ => op_eq, ?_⟩
    rw [vr_str (rr_v hx), vr_str (rr_v hy)]
    exact ⟨rfl, by rw [dec_str']; simpa using q⟩
  · split at p
    · rename_i a b ea eb
      split at p
      · rename_i hs
        cases p
        exact ⟨_, fun j => kx (p := fun K => OpR (C.X j) (compareOp .Eq) (rEqD K)) j (op_eqD (by have := C.hu j; omega)), a, b, dp_r R hx ea, dp_r R hy eb, hs.1, hs.2, by simpa using q⟩
      · cases p
    · cases p
theorem cs_ne : CmS C (opAny C (compareOp .NotEq)) (gEq true) := fun F m h H H0 x y rx ry k Q R hx hy p q => by
  unfold gEq at p
  split at p
  · cases p
    refine ⟨_, fun _ => op_ne, ?_⟩
    rw [vr_int (rr_v hx), vr_int (rr_v hy)]
    exact ⟨rfl, by rw [dec_int']; simpa using q⟩
  · cases p
    refine ⟨_, fun _ => op_ne, ?_⟩
    rw [vr_str (rr_v hx), vr_str (rr_v hy)]
    exact ⟨rfl, by rw [dec_str']; simpa using q⟩
  · split at p
    · rename_i a b ea eb
      split at p
      · rename_i hs
        cases p
        exact ⟨_, fun j => kx (p := fun K => OpR (C.X j) (compareOp .NotEq) (rNeD K)) j (op_neD (by have := C.hu j; omega)), a, b, dp_r R hx ea, dp_r R hy eb, hs.1, hs.2, by simpa using q⟩
      · cases p
    · cases p
theorem cs_in : CmS C (opAny C (compareOp .In)) (gIn false) := fun F m h H H0 x y rx ry k Q R hx hy p q => by
  unfold gIn at p
  split at p
  · cases p
    exact ⟨_, fun _ => op_in_str, _, _, vr_str (rr_v hx), vr_str (rr_v hy), by simpa using q⟩
  · split at p
    · rename_i d ds ea eb
      split at p
      · rename_i hs
        cases p
        exact ⟨_, fun j => kx (p := fun K => OpR (C.X j) (compareOp .In) (rInD K)) j (op_inD (C.hu j)), d, ds, dp_r R hx ea, dp_r R hy eb, hs.1, hs.2, by simpa using q⟩
      · cases p
    · rename_i d ds ea eb
      split at p
      · rename_i hs
        cases p
        exact ⟨_, fun j => kx (p := fun K => OpR (C.X j) (compareOp .In) (rInTD K false)) j (op_inTD (C.hu j)), d, ds, dp_r R hx ea, dp_r R hy eb, hs.1, hs.2, by simpa using q⟩
      · cases p
    · cases p
theorem cs_notin : CmS C (opAny C (compareOp .NotIn)) (gIn true) := fun F m h H H0 x y rx ry k Q R hx hy p q => by
  unfold gIn at p
  split at p
  · cases p
    exact ⟨_, fun _ => op_notin_str, _, _, vr_str (rr_v hx), vr_str (rr_v hy), by simpa using q⟩
  · split at p
    · rename_i d ds ea eb
      split at p
      · rename_i hs
        cases p
        exact ⟨_, fun j => kx (p := fun K => OpR (C.X j) (compareOp .NotIn) (rNotInD K)) j (op_notInD (C.hu j)), d, ds, dp_r R hx ea, dp_r R hy eb, hs.1, hs.2, by simpa using q⟩
      · cases p
    · rename_i d ds ea eb
      split at p
      · rename_i hs
        cases p
        exact ⟨_, fun j => kx (p := fun K => OpR (C.X j) (compareOp .NotIn) (rInTD K true)) j (op_notInTD (C.hu j)), d, ds, dp_r R hx ea, dp_r R hy eb, hs.1, hs.2, by simpa using q⟩
      · cases p
    · cases p
/-- is None -/
def isNon : RV → Bool
  | .v .non => true
  | _ => false
theorem is_non {S : Sx} {m : Mm} {H H0 : Hp} {x : V} {r : RV} (h : RR S H0 m H x r) : decide (x = .non) = isNon r := by
  cases h with
  | v h => cases h <;> rfl
  | nl _ _ _ _ _ => rfl
def eIsN (neg : Bool) (fa : Fe) : Fe := fun env h => (fa env h).bind fun x h1 => .ok (.v (.bl (isNon x != neg))) h1
theorem se_isN {k : Nat} (ha : SE C a fa) : SE C (.Compare a [.Is] [.Constant .none k pos'] pos) (eIsN false fa) :=
  se_of (fun j => pe_cmp (pc_isN (pe_any C a j)) rfl) fun F m h env H σ R E Q p => ha F m h env H σ R E _ (p.bind fun rx h1 m1 x H1 e1 s1 R1 r1 p1 => by
    rw [is_non r1]
    simp only [bne, Bool.not_false] at p1
    exact post_v R1 (.bl _) (by simpa using p1))
theorem se_notN {k : Nat} (ha : SE C a fa) : SE C (.Compare a [.IsNot] [.Constant .none k pos'] pos) (eIsN true fa) :=
  se_of (fun j => pe_cmp (pc_notN (pe_any C a j)) rfl) fun F m h env H σ R E Q p => ha F m h env H σ R E _ (p.bind fun rx h1 m1 x H1 e1 s1 R1 r1 p1 => by
    rw [is_non r1]
    exact post_v R1 (.bl _) (by simpa using p1))
/-! and, or as values -/
def eAnd (fa fb : Fe) : Fe := fun env h => (fa env h).bind fun x h1 => (mTru h1 x).bind fun k h2 => if k = true then fb env h2 else .ok x h2
def eOr (fa fb : Fe) : Fe := fun env h => (fa env h).bind fun x h1 => (mTru h1 x).bind fun k h2 => if k = true then .ok x h2 else fb env h2
variable {rest : List Expr}
theorem se_one {op : BoolOp} (h : SE C a fa) : SE C (.BoolOp op [a] pos) fa := se_of (fun j => pe_one (pe_any C a j)) h
theorem se_and (ha : SE C a fa) (hb : SE C (.BoolOp .And (b :: rest) pos) fb) : SE C (.BoolOp .And (a :: b :: rest) pos) (eAnd fa fb) :=
  se_of (fun j => kx (p := fun K => PE (C.X j) _ (tAndT K _ _)) j (pe_andT (pe_any C a j) (pe_any C _ j))) fun F m h env H σ R E Q p => ha F m h env H σ R E _ (p.bindR fun rx h1 m1 x H1 e1 s1 L1 r1 p1 => by
    have R1 := kE.rlOf L1
    unfold mTru at p1
    cases q : tru h1 rx with
    | none => rw [q] at p1; exact p1.elim
    | some k =>
      rw [q] at p1
      refine ⟨k, tru_of R1 r1 q, ?_⟩
      cases k with
      | true => rw [if_pos rfl]; exact hb F m1 h1 env H1 σ R1 (E.step s1) Q (Post.step s1 p1)
      | false => rw [if_neg Bool.false_ne_true]; exact p1 m1 x H1 s1 L1 r1)
theorem se_or (ha : SE C a fa) (hb : SE C (.BoolOp .Or (b :: rest) pos) fb) : SE C (.BoolOp .Or (a :: b :: rest) pos) (eOr fa fb) :=
  se_of (fun j => kx (p := fun K => PE (C.X j) _ (tOrT K _ _)) j (pe_orT (pe_any C a j) (pe_any C _ j))) fun F m h env H σ R E Q p => ha F m h env H σ R E _ (p.bindR fun rx h1 m1 x H1 e1 s1 L1 r1 p1 => by
    have R1 := kE.rlOf L1
    unfold mTru at p1
    cases q : tru h1 rx with
    | none => rw [q] at p1; exact p1.elim
    | some k =>
      rw [q] at p1
      refine ⟨k, tru_of R1 r1 q, ?_⟩
      cases k with
      | false => rw [if_neg Bool.false_ne_true]; exact hb F m1 h1 env H1 σ R1 (E.step s1) Q (Post.step s1 p1)
      | true => rw [if_pos rfl]; exact p1 m1 x H1 s1 L1 r1)
/-! a chain of two comparisons -/
def eChain (g g' : Cmp2) (fa fb fc : Fe) : Fe := fun env h => (fa env h).bind fun x h1 => (fb env h1).bind fun y h2 => match g h2 x y with
  | some true => (fc env h2).bind fun z h3 => match g' h3 y z with
    | some k => .ok (.v (.bl k)) h3
    | none => .no
  | some false => .ok (.v (.bl false)) h2
  | none => .no
variable {op op' : CmpOp} {g g' : Cmp2}
theorem ev_chain (hr : CmS C (opAny C (compareOp op)) g) (hr' : CmS C (opAny C (compareOp op')) g') (ha : SE C a fa) (hb : SE C b fb) (hc : SE C c fc) {F m h env H σ} (R : Rl (C.S F) m h H) (E : EnvR (C.S F) m H σ env) {Q : VK} (p : Post C F m H σ kE (eChain g g' fa fb fc env h) Q) :
    tChain (opAny C (compareOp op)) (opAny C (compareOp op')) (eAny C a) (eAny C b) (eAny C c) σ H Q :=
  ha F m h env H σ R E _ (p.bind fun rx h1 m1 x H1 e1 s1 R1 r1 p1 => hb F m1 h1 env H1 σ R1 (E.step s1) _ (p1.bind fun ry h2 m2 y H2 e2 s2 R2 r2 p2 => by
    split at p2
    · rename_i q
      refine hr F m2 h2 H2 H x y rx ry true _ R2 (kE.step s2 r1) (kE.back s1 r2) q ⟨true, rfl, ?_⟩
      rw [if_pos rfl]
      exact hc F m2 h2 env H2 σ R2 ((E.step s1).step s2) _ (p2.bind fun rz h3 m3 z H3 e3 s3 R3 r3 p3 => by
        split at p3
        · rename_i k q3
          exact hr' F m3 h3 H3 H1 y z ry rz k _ R3 (kE.step s3 r2) (kE.back s2 r3) q3 (post_v R3 (.bl _) p3)
        · exact p3.elim)
    · rename_i q
      refine hr F m2 h2 H2 H x y rx ry false _ R2 (kE.step s2 r1) (kE.back s1 r2) q ⟨false, rfl, ?_⟩
      rw [if_neg Bool.false_ne_true]
      exact post_v R2 (.bl _) p2
    · exact p2.elim))
theorem se_chain (hr : CmS C (opAny C (compareOp op)) g) (hr' : CmS C (opAny C (compareOp op')) g') (ha : SE C a fa) (hb : SE C b fb) (hc : SE C c fc) (hm : lastMarks [op, op'] [b, c] = false) : SE C (.Compare a [op, op'] [b, c] pos) (eChain g g' fa fb fc) :=
  se_of (fun j => pe_chain (opr_any C _ j) (opr_any C _ j) (pe_any C a j) (pe_any C b j) (pe_any C c j) hm) fun F m h env H σ R E Q p => ev_chain hr hr' ha hb hc R E p
/-- .. as tests: their answers are truths -/
def Bool2 (f : Fe) : Prop := ∀ env h r h', f env h = .ok r h' → ∃ k, r = .v (.bl k)
theorem bool_of {f : Fe} (hb : Bool2 f) {m h env H σ} {Q : Bool → Hp → Prop} (p : Post C F m H σ kT (fT f env h) Q) : Post C F m H σ kE (f env h) fun x H' => ∃ k, x = .bl k ∧ Q k H' := by
  unfold fT at p
  exact p.bind fun r h1 m1 x H1 e1 s1 R1 r1 p1 => by
    obtain ⟨k, rfl⟩ := hb _ _ _ _ e1
    exact ⟨k, vr_bl (rr_v r1), p1 m1 k H1 .refl R1 rfl⟩
theorem bool_chain : Bool2 (eChain g g' fa fb fc) := fun env h r h' e => by
  unfold eChain at e
  cases q1 : fa env h with
  | ok x h1 =>
    rw [q1] at e
    simp only [Out.bind] at e
    cases q2 : fb env h1 with
    | ok y h2 =>
      rw [q2] at e
      simp only at e
      split at e
      · cases q3 : fc env h2 with
        | ok z h3 =>
          rw [q3] at e
          simp only at e
          split at e
          · cases e; exact ⟨_, rfl⟩
          · cases e
        | ex => rw [q3] at e; cases e
        | no => rw [q3] at e; cases e
      · cases e; exact ⟨_, rfl⟩
      · cases e
    | ex => rw [q2] at e; cases e
    | no => rw [q2] at e; cases e
  | ex => rw [q1] at e; cases e
  | no => rw [q1] at e; cases e
theorem st_chain (hr : CmS C (opAny C (compareOp op)) g) (hr' : CmS C (opAny C (compareOp op')) g') (ha : SE C a fa) (hb : SE C b fb) (hc : SE C c fc) (hm : lastMarks [op, op'] [b, c] = false) : ST C (.Compare a [op, op'] [b, c] pos) (fT (eChain g g' fa fb fc)) :=
  st_of (fun j => pt_chain (opr_any C _ j) (opr_any C _ j) (pe_any C a j) (pe_any C b j) (pe_any C c j) hm) fun F m h env H σ R E Q p => ev_chain hr hr' ha hb hc R E (bool_of bool_chain p)
theorem bool_isN {neg : Bool} : Bool2 (eIsN neg fa) := fun env h r h' e => by
  unfold eIsN at e
  cases q1 : fa env h with
  | ok x h1 => rw [q1] at e; cases e; exact ⟨_, rfl⟩
  | ex => rw [q1] at e; cases e
  | no => rw [q1] at e; cases e
def tB (te : TE) : TT := fun σ H Q => te σ H fun x H' => ∃ k, x = .bl k ∧ Q k H'
theorem st_isN {k : Nat} (ha : SE C a fa) : ST C (.Compare a [.Is] [.Constant .none k pos'] pos) (fT (eIsN false fa)) :=
  st_of (fun j => pt_cmp (pc_isN (pe_any C a j)) rfl) fun F m h env H σ R E Q p => ha F m h env H σ R E _ ((bool_of bool_isN p).bind fun rx h1 m1 x H1 e1 s1 R1 r1 p1 => by
    rw [is_non r1]
    exact post_v (R := R1) (.bl _) (by rw [Bool.bne_false] at p1; exact p1))
theorem st_notN {k : Nat} (ha : SE C a fa) : ST C (.Compare a [.IsNot] [.Constant .none k pos'] pos) (fT (eIsN true fa)) :=
  st_of (fun j => pt_cmp (pc_notN (pe_any C a j)) rfl) fun F m h env H σ R E Q p => ha F m h env H σ R E _ ((bool_of bool_isN p).bind fun rx h1 m1 x H1 e1 s1 R1 r1 p1 => by
    rw [is_non r1]
    exact post_v (R := R1) (.bl _) (by rw [Bool.bne_true] at p1; exact p1))
end
end Mp

/-! M6: builtins by values. -/
namespace Mp
open PySem PySem.Spec PyProof.Rows L2
def intsOf : List MV → Option (List Int)
  | [] => some []
  | .int i :: r => (intsOf r).map fun l => i :: l
  | _ :: _ => none
theorem intsOf_eq : ∀ {ds : List MV} {ns : List Int}, intsOf ds = some ns → ds = ns.map MV.int
  | [], _, h => by cases h; rfl
  | d :: r, ns, h => by
    cases d with
    | int i =>
      obtain ⟨l, h1, h2⟩ := Option.map_eq_some_iff.mp h
      subst h2
      rw [List.map_cons, ← intsOf_eq h1]
    | _ => cases h
theorem intsOf_map (ns : List Int) : intsOf (ns.map MV.int) = some ns := by
  induction ns with
  | nil => rfl
  | cons n r ih => simp [intsOf, ih]
section
variable {prog : Program} {w : World} {A : Around} {E : Value → Shared → Prop} {s : Shared} {t : Addr} {its : List Value} {ns : List Int} {Q : Value → Shared → Prop}
theorem sum_tup (hh : A.handled = none) (hl : s.heap.IsTuple t its.toArray) (hi : IntsAre its ns) (h : ∀ h' tk t', (∀ b o, s.heap.get? b = some o → h'.get? b = some o) → Q (.int ns.sum t') { s with heap := h', toks := tk }) : wpAny (model prog w) A (call (.builtin "sum") [.ref t]) Q E s := by
  obtain ⟨xs, e⟩ := hi.allInts.items
  have hn : numsOf (intItems xs).toList = ns := by rw [← e]; exact hi.numsOf
  rw [nums_intItems] at hn
  rw [e] at hl
  have lt : t < s.heap.objs.size := by
    obtain ⟨o, z, _⟩ := hl
    exact Heap.lt_size z
  refine call_sum_walkG (wpAny_pyIter_tuple hl ⟨_, _, _, _, _, _, numAt xs, rfl, Walks.tuple (A := A.in1) hh _ t (Nat.ne_of_lt lt) (intItems xs), ⟨⟨_, Heap.get?_push_size _ rfl, rfl, rfl⟩, hl.push _⟩, fun b hb => ?_, fun _ _ => intItems_at, fun h' tk t' hk => ?_⟩)
  · show b < (s.heap.push _).objs.size
    rw [Heap.size_push]
    rcases List.mem_cons.mp hb with rfl | hb
    · exact Nat.lt_succ_self _
    · rw [List.mem_singleton.mp hb]
      exact Nat.lt_succ_of_lt lt
  · have z := h h' tk t' fun b o q => hk b o (fun m => Nat.ne_of_lt (Heap.lt_size q) (List.mem_singleton.mp m)) (Heap.get?_push_of_some _ q)
    have e2 : preSum (numAt xs) (intItems xs).size = ns.sum := by
      rw [show (intItems xs).size = xs.size by simp [intItems], preSum_eq, List.take_of_length_le (by simp), hn]
    rw [e2]
    exact z
end
def rSumT (K : Fg) : List V → Hp → VK → Prop := fun vs H Q => ∃ (a : Addr) (ns : List Int), vs = [V.ref a] ∧ SqT K H a (ns.map V.int) ∧ Q (.int ns.sum) H
theorem cr_sumT {X : Cx} (hc : X.calm = true) : CallR X (.builtin "sum") (rSumT X.K) := by
  intro pins s σ H vs us Q I r h
  obtain ⟨a, ns, rfl, hs, q⟩ := h
  obtain ⟨its, rv, hl, _⟩ := I.tuple hs
  rw [Vals.ref1 r]
  exact sum_tup (I.ok.hd hc) hl rv.ints fun h' tk t' hk => ⟨.int _, H, I.kept hk, ⟨_, rfl⟩, q⟩
/-! the answers -/
abbrev Op1 := MHp → RV → Out RV
def mLen : Op1 := fun h x => match x with
  | .v (.str y) => if y.length ≤ 1000000 then .ok (.v (.int y.length)) h else .no
  | x => match seqOf h x with
    | some (_, ds) => .ok (.v (.int ds.length)) h
    | none => .no
def mInt : Op1 := fun h x => match x with
  | .v (.int i) => .ok (.v (.int i)) h
  | .v (.bl b) => .ok (.v (.int (if b then 1 else 0))) h
  | _ => .no
def mAbs : Op1 := fun h x => match x with
  | .v (.int i) => .ok (.v (.int (i.natAbs : Int))) h
  | _ => .no
def mStr : Op1 := fun h x => match x with
  | .v (.int i) => if i.natAbs.log2 < 1920 then .ok (.v (.str (toString i))) h else .no
  | _ => .no
def mList : Op1 := fun h x => match seqOf h x with
  | some (_, ds) => .ok (.nl ds) h
  | none => .no
def mTuple : Op1 := fun h x => match x with
  | .v (.tup ds) => .ok (.v (.tup ds)) h
  | x => match seqOf h x with
    | some (true, ds) => .ok (.v (.tup ds)) h
    | _ => .no
def mSum : Op1 := fun h x => match seqOf h x with
  | some (_, ds) => match intsOf ds with
    | some ns => .ok (.v (.int ns.sum)) h
    | none => .no
  | none => .no
def lmax : List Int → Int
  | [] => 0
  | [a] => a
  | a :: r => max a (lmax r)
def lmin : List Int → Int
  | [] => 0
  | [a] => a
  | a :: r => min a (lmin r)
theorem lmax_mem : ∀ {l : List Int}, l ≠ [] → lmax l ∈ l ∧ ∀ y ∈ l, y ≤ lmax l
  | [], h => absurd rfl h
  | [a], _ => by simp [lmax]
  | a :: b :: r, _ => by
    obtain ⟨h1, h2⟩ := lmax_mem (l := b :: r) (by simp)
    have e : lmax (a :: b :: r) = max a (lmax (b :: r)) := rfl
    rw [e]
    refine ⟨?_, fun y hy => ?_⟩
    · by_cases z : a ≤ lmax (b :: r)
      · rw [Int.max_eq_right z]; exact List.mem_cons_of_mem _ h1
      · rw [Int.max_eq_left (by omega)]; exact List.mem_cons_self
    · rcases List.mem_cons.mp hy with z | z
      · subst z; omega
      · have := h2 y z; omega
theorem lmin_mem : ∀ {l : List Int}, l ≠ [] → lmin l ∈ l ∧ ∀ y ∈ l, lmin l ≤ y
  | [], h => absurd rfl h
  | [a], _ => by simp [lmin]
  | a :: b :: r, _ => by
    obtain ⟨h1, h2⟩ := lmin_mem (l := b :: r) (by simp)
    have e : lmin (a :: b :: r) = min a (lmin (b :: r)) := rfl
    rw [e]
    refine ⟨?_, fun y hy => ?_⟩
    · by_cases z : a ≤ lmin (b :: r)
      · rw [Int.min_eq_left z]; exact List.mem_cons_self
      · rw [Int.min_eq_right (by omega)]; exact List.mem_cons_of_mem _ h1
    · rcases List.mem_cons.mp hy with z | z
      · subst z; omega
      · have := h2 y z; omega
def mMaxL : Op1 := fun h x => match seqOf h x with
  | some (true, ds) => match intsOf ds with
    | some (n :: ns) => .ok (.v (.int (lmax (n :: ns)))) h
    | _ => .no
  | _ => .no
def mMinL : Op1 := fun h x => match seqOf h x with
  | some (true, ds) => match intsOf ds with
    | some (n :: ns) => .ok (.v (.int (lmin (n :: ns)))) h
    | _ => .no
  | _ => .no
def mMax : Op2 := fun h x y => match x, y with
  | .v (.int i), .v (.int j) => .ok (.v (.int (max i j))) h
  | _, _ => .no
def mMin : Op2 := fun h x y => match x, y with
  | .v (.int i), .v (.int j) => .ok (.v (.int (min i j))) h
  | _, _ => .no
def mDivmod : Op2 := fun h x y => match x, y with
  | .v (.int i), .v (.int j) => if 0 < j ∧ j < 1073741824 then .ok (.v (.tup [.int (i / j), .int (i % j)])) h else .no
  | _, _ => .no
def kindOf (h : MHp) : RV → Option String
  | .v .non => some "NoneType"
  | .v (.bl _) => some "bool"
  | .v (.int _) => some "int"
  | .v (.str _) => some "str"
  | r => match seqOf h r with
    | some (true, _) => some "list"
    | some (false, _) => some "tuple"
    | none => none
def mIsi (U : String) : Op1 := fun h x => match kindOf h x with
  | some k => match kitB k U with
    | some b => .ok (.v (.bl b)) h
    | none => .no
  | none => .no
def eC1 (op : Op1) (fa : Fe) : Fe := fun env h => (fa env h).bind fun x h1 => op h1 x
/-- what a builtin's rule has to say -/
def CaS (C : Cs) (r : List V → Hp → VK → Prop) (op : Op1) : Prop := ∀ F m h H H0 σ x rx Q, Rl (C.S F) m h H → RR (C.S F) H0 m H x rx → Post C F m H σ kE (op h rx) Q → r [x] H Q
def CaS2 (C : Cs) (r : List V → Hp → VK → Prop) (op : Op2) : Prop := ∀ F m h H H0 σ x y rx ry Q, Rl (C.S F) m h H → RR (C.S F) H0 m H x rx → RR (C.S F) H0 m H y ry → Post C F m H σ kE (op h rx ry) Q → r [x, y] H Q
section
variable {C : Cs} {e a b c : Expr} {f f1 f2 fa fb fc : Fe} {pos p pos' : Pos} {x : Str} {id : String} {op : Op1} {op2 : Op2}
abbrev NoG (C : Cs) (x : Str) : Prop := C.mg x = none
theorem noG (h : NoG C x) (j : C.ι) : (C.X j).mg x = none := by rw [C.hmg]; exact h
theorem ev_c1 {r : List V → Hp → VK → Prop} (hr : CaS C r op) (ha : SE C a fa) {F m h env H σ} (R : Rl (C.S F) m h H) (E : EnvR (C.S F) m H σ env) {Q : VK} (q : Post C F m H σ kE (eC1 op fa env h) Q) : tCB r (tCons (eAny C a) tNil) σ H Q :=
  ha F m h env H σ R E _ (q.bind fun rx h1 m1 x H1 e1 s1 R1 r1 p1 => hr F m1 h1 H1 H σ x rx Q R1 r1 p1)
theorem ev_c2 {r : List V → Hp → VK → Prop} (hr : CaS2 C r op2) (ha : SE C a fa) (hb : SE C b fb) {F m h env H σ} (R : Rl (C.S F) m h H) (E : EnvR (C.S F) m H σ env) {Q : VK} (q : Post C F m H σ kE (eBin op2 fa fb env h) Q) : tCB r (tCons (eAny C a) (tCons (eAny C b) tNil)) σ H Q :=
  ha F m h env H σ R E _ (q.bind fun rx h1 m1 x H1 e1 s1 R1 r1 p1 => hb F m1 h1 env H1 σ R1 (E.step s1) _ (p1.bind fun ry h2 m2 y H2 e2 s2 R2 r2 p2 => hr F m2 h2 H2 H σ x y rx ry Q R2 (kE.step s2 r1) (kE.back s1 r2) p2))
theorem se_b1 (hr : CaS C (callAny C (.builtin id)) op) (hv : bootBuiltins x = some (.builtin id)) (hn : x ≠ "__name__") (hdb : (x == ("__debug__" : Str)) = false) (hg : ∀ j, Gl (C.X j) x) (hm : NoG C x) (ha : SE C a fa) (hs : NS a) : SE C (.Call (.Name x p) [a] [] pos) (eC1 op fa) :=
  se_of (fun j => pe_callB (callr_any C _ j) (hg j) (noG hm j) hv (pa_cons (pe_any C a j) pa_nil (hs _ _)) hn hdb (hs _ _) (ns_any (es := []) (fun _ h => (List.not_mem_nil h).elim) _ _)) fun F m h env H σ R E Q q => ev_c1 hr ha R E q
theorem se_t1 (hr : CaS C (callAny C (.type id)) op) (hv : bootBuiltins x = some (.type id)) (hn : x ≠ "__name__") (hdb : (x == ("__debug__" : Str)) = false) (hg : ∀ j, Gl (C.X j) x) (hm : NoG C x) (ha : SE C a fa) (hs : NS a) : SE C (.Call (.Name x p) [a] [] pos) (eC1 op fa) :=
  se_of (fun j => pe_callTy (callr_any C _ j) (hg j) (noG hm j) hv (pa_cons (pe_any C a j) pa_nil (hs _ _)) hn hdb (hs _ _) (ns_any (es := []) (fun _ h => (List.not_mem_nil h).elim) _ _)) fun F m h env H σ R E Q q => ev_c1 hr ha R E q
theorem se_b2 (hr : CaS2 C (callAny C (.builtin id)) op2) (hv : bootBuiltins x = some (.builtin id)) (hn : x ≠ "__name__") (hdb : (x == ("__debug__" : Str)) = false) (hg : ∀ j, Gl (C.X j) x) (hm : NoG C x) (ha : SE C a fa) (hb : SE C b fb) (hs : NS a) (hs2 : NS b) : SE C (.Call (.Name x p) [a, b] [] pos) (eBin op2 fa fb) :=
  se_of (fun j => pe_callB (callr_any C _ j) (hg j) (noG hm j) hv (pa_cons (pe_any C a j) (pa_cons (pe_any C b j) pa_nil (hs2 _ _)) (hs _ _)) hn hdb (hs _ _) (ns_any (fun x h => by obtain rfl := List.mem_singleton.mp h; exact hs2) _ _)) fun F m h env H σ R E Q q => ev_c2 hr ha hb R E q
theorem cs_len : CaS C (callAny C (.builtin "len")) mLen := fun F m h H H0 σ x rx Q R hx q => by
  unfold mLen at q
  split at q
  · split at q
    · rename_i y hl
      exact ⟨_, fun j => kx (p := fun K => CallR (C.X j) (.builtin "len") (fun xs H Q => ∃ x n, xs = [x] ∧ LenV K x H n ∧ Q (.int n) H)) j call_len, x, _, rfl, by rw [vr_str (rr_v hx)]; exact ⟨Nat.le_trans hl (by decide), rfl⟩, post_v R (.int _) q⟩
    · exact q.elim
  · split at q
    · rename_i b ds e
      obtain ⟨a, vs, rfl, hv, hs⟩ := seq_of R hx e
      refine ⟨_, fun j => kx (p := fun K => CallR (C.X j) (.builtin "len") (fun xs H Q => ∃ x n, xs = [x] ∧ LenV K x H n ∧ Q (.int n) H)) j call_len, _, ds.length, rfl, ?_, post_v R (.int _) q⟩
      rcases hs with ⟨_, hs⟩ | ⟨_, hs⟩
      · exact .inl ⟨vs, hs, hv.length.symm⟩
      · exact .inr ⟨vs, hs, hv.length.symm⟩
    · exact q.elim
theorem cs_int1 : CaS C (callAny C (.type "int")) mInt := fun F m h H H0 σ x rx Q R hx q => by
  unfold mInt at q
  split at q
  · exact ⟨_, fun _ => call_int1, .inl ⟨_, by rw [vr_int (rr_v hx)], post_v R (.int _) q⟩⟩
  · exact ⟨_, fun _ => call_int1, .inr ⟨_, by rw [vr_bl (rr_v hx)], post_v R (.int _) q⟩⟩
  · exact q.elim
theorem cs_abs : CaS C (callAny C (.builtin "abs")) mAbs := fun F m h H H0 σ x rx Q R hx q => by
  unfold mAbs at q
  split at q
  · rename_i i
    refine ⟨_, fun _ => call_abs, i, by rw [vr_int (rr_v hx)], ?_⟩
    have e : (if i < 0 then -i else i) = (i.natAbs : Int) := by split <;> omega
    rw [e]
    exact post_v R (.int _) q
  · exact q.elim
theorem cs_str : CaS C (callAny C (.type "str")) mStr := fun F m h H H0 σ x rx Q R hx q => by
  unfold mStr at q
  split at q
  · split at q
    · rename_i hl
      exact ⟨_, fun _ => call_str_int, _, by rw [vr_int (rr_v hx)], hl, post_v R (.str _) q⟩
    · exact q.elim
  · exact q.elim
theorem cs_list : CaS C (callAny C (.type "list")) mList := fun F m h H H0 σ x rx Q R hx q => by
  unfold mList at q
  split at q
  · rename_i b ds e
    obtain ⟨a, vs, rfl, hv, hs⟩ := seq_of R hx e
    exact ⟨_, fun j => kx (p := fun K => CallR (C.X j) (.type "list") (fun xs H Q => ∃ p ys, xs = [.ref p] ∧ (SqL K H p ys ∨ SqT K H p ys) ∧ ∀ l, H l = none → Q (.ref l) (upd H l (.lst ys)))) j call_list_of, a, vs, rfl, hs.imp (·.2) (·.2), post_nl R hv q⟩
  · exact q.elim
theorem cs_tuple : CaS C (callAny C (.type "tuple")) mTuple := fun F m h H H0 σ x rx Q R hx q => by
  unfold mTuple at q
  split at q
  · obtain ⟨a, vs, e, hs, hv⟩ := rr_tup hx
    refine ⟨_, fun j => kx (p := fun K => CallR (C.X j) (.type "tuple") (fun xs H Q => ∃ p ys, xs = [.ref p] ∧ ((SqL K H p ys ∧ ∀ l, H l = none → Q (.ref l) (upd H l (.tup ys))) ∨ (SqT K H p ys ∧ Q (.ref p) H)))) j call_tuple_of, a, vs, by rw [e], .inr ⟨hs, ?_⟩⟩
    rw [← e]
    exact post_v R (rr_v hx) q
  · split at q
    · rename_i ds e
      obtain ⟨a, vs, rfl, hv, hs⟩ := seq_of R hx e
      refine ⟨_, fun j => kx (p := fun K => CallR (C.X j) (.type "tuple") (fun xs H Q => ∃ p ys, xs = [.ref p] ∧ ((SqL K H p ys ∧ ∀ l, H l = none → Q (.ref l) (upd H l (.tup ys))) ∨ (SqT K H p ys ∧ Q (.ref p) H)))) j call_tuple_of, a, vs, rfl, ?_⟩
      rcases hs with ⟨_, hs⟩ | ⟨z, _⟩
      · exact .inl ⟨hs, post_tup R hv q⟩
      · cases z
    · exact q.elim
theorem cs_sum [hc : Cold C] : CaS C (callAny C (.builtin "sum")) mSum := fun F m h H H0 σ x rx Q R hx q => by
  unfold mSum at q
  split at q
  · rename_i b ds e
    split at q
    · rename_i ns e2
      obtain ⟨a, vs, rfl, hv, hs⟩ := seq_of R hx e
      rw [intsOf_eq e2] at hv
      obtain rfl := vrs_ints' hv
      rcases hs with ⟨_, hs⟩ | ⟨_, hs⟩
      · exact ⟨_, fun j => kx (p := fun K => CallR (C.X j) (.builtin "sum") (rSum K)) j (cr_sum (C.calm j hc.h)), a, ns, rfl, hs, post_v R (.int _) q⟩
      · exact ⟨_, fun j => kx (p := fun K => CallR (C.X j) (.builtin "sum") (rSumT K)) j (cr_sumT (C.calm j hc.h)), a, ns, rfl, hs, post_v R (.int _) q⟩
    · exact q.elim
  · exact q.elim
theorem cs_maxL [hc : Cold C] : CaS C (callAny C (.builtin "max")) mMaxL := fun F m h H H0 σ x rx Q R hx q => by
  unfold mMaxL at q
  split at q
  · rename_i ds e
    split at q
    · rename_i n ns e2
      obtain ⟨a, vs, rfl, hv, hs⟩ := seq_of R hx e
      rw [intsOf_eq e2] at hv
      obtain rfl := vrs_ints' hv
      rcases hs with ⟨_, hs⟩ | ⟨z, hs⟩
      · refine ⟨_, fun j => kx (p := fun K => CallR (C.X j) (.builtin "max") (rMax K)) j (cr_max (C.calm j hc.h)), a, n :: ns, rfl, hs, by simp, fun k hk hm => ?_⟩
        obtain ⟨h1, h2⟩ := lmax_mem (l := n :: ns) (by simp)
        have e3 : k = lmax (n :: ns) := Int.le_antisymm (h2 k hk) (hm _ h1)
        rw [e3]
        exact post_v R (.int _) q
      · cases z
    · exact q.elim
  · exact q.elim
theorem cs_minL [hc : Cold C] : CaS C (callAny C (.builtin "min")) mMinL := fun F m h H H0 σ x rx Q R hx q => by
  unfold mMinL at q
  split at q
  · rename_i ds e
    split at q
    · rename_i n ns e2
      obtain ⟨a, vs, rfl, hv, hs⟩ := seq_of R hx e
      rw [intsOf_eq e2] at hv
      obtain rfl := vrs_ints' hv
      rcases hs with ⟨_, hs⟩ | ⟨z, hs⟩
      · refine ⟨_, fun j => kx (p := fun K => CallR (C.X j) (.builtin "min") (rMin K)) j (cr_min (C.calm j hc.h)), a, n :: ns, rfl, hs, by simp, fun k hk hm => ?_⟩
        obtain ⟨h1, h2⟩ := lmin_mem (l := n :: ns) (by simp)
        have e3 : k = lmin (n :: ns) := Int.le_antisymm (hm _ h1) (h2 k hk)
        rw [e3]
        exact post_v R (.int _) q
      · cases z
    · exact q.elim
  · exact q.elim
theorem cs_max2 [hc : Cold C] : CaS2 C (callAny C (.builtin "max")) mMax := fun F m h H H0 σ x y rx ry Q R hx hy q => by
  unfold mMax at q
  split at q
  · rename_i i j
    refine ⟨_, fun j => call_max2 (C.calm j hc.h), i, j, by rw [vr_int (rr_v hx), vr_int (rr_v hy)], ?_⟩
    have e : (if j > i then j else i) = max i j := by split <;> omega
    rw [e]
    exact post_v R (.int _) q
  · exact q.elim
theorem cs_min2 [hc : Cold C] : CaS2 C (callAny C (.builtin "min")) mMin := fun F m h H H0 σ x y rx ry Q R hx hy q => by
  unfold mMin at q
  split at q
  · rename_i i j
    refine ⟨_, fun j => call_min2 (C.calm j hc.h), i, j, by rw [vr_int (rr_v hx), vr_int (rr_v hy)], ?_⟩
    have e : (if j < i then j else i) = min i j := by split <;> omega
    rw [e]
    exact post_v R (.int _) q
  · exact q.elim
theorem cs_divmod : CaS2 C (callAny C (.builtin "divmod")) mDivmod := fun F m h H H0 σ x y rx ry Q R hx hy q => by
  unfold mDivmod at q
  split at q
  · split at q
    · rename_i i j hk
      exact ⟨_, fun _ => call_divmod, i, j, by rw [vr_int (rr_v hx), vr_int (rr_v hy)], hk, post_tup R (.cons (.int _) (.cons (.int _) .nil)) q⟩
    · exact q.elim
  · exact q.elim
/-! isinstance of a built-in class -/
theorem tyx_seqL {K : Fg} {H : Hp} {a : Addr} {vs : List V} (h : SqL K H a vs) : TyX K H (.ref a) (.type "list") := by
  rcases h with h | ⟨o, its, n, hk, hc, _⟩
  · rcases h with h | ⟨o, h⟩
    · exact .base (.lst h)
    · exact .base (.frz h)
  · exact .kList hk hc
theorem tyx_seqT {K : Fg} {H : Hp} {a : Addr} {vs : List V} (h : SqT K H a vs) : TyX K H (.ref a) (.type "tuple") := by
  rcases h with h | ⟨o, its, n, hk, hc, _⟩
  · rcases h with h | ⟨o, h⟩
    · exact .base (.tup h)
    · exact .fTuple h
  · exact .kTuple hk hc
theorem tyx_of {m : Mm} {h : MHp} {H H0 : Hp} {x : V} {r : RV} {k : String} (R : Rl (C.S F) m h H) (hr : RR (C.S F) H0 m H x r) (e : kindOf h r = some k) : TyX C.K H x (.type k) := by
  unfold kindOf at e
  split at e
  · cases e; rw [vr_non (rr_v hr)]; exact .base .non
  · cases e; rw [vr_bl (rr_v hr)]; exact .base (.bl _)
  · cases e; rw [vr_int (rr_v hr)]; exact .base (.int _)
  · cases e; rw [vr_str (rr_v hr)]; exact .base (.str _)
  · split at e
    · rename_i e2
      cases e
      obtain ⟨a, vs, rfl, hv, hs⟩ := seq_of R hr e2
      rcases hs with ⟨_, hs⟩ | ⟨z, _⟩
      · exact tyx_seqL hs
      · cases z
    · rename_i e2
      cases e
      obtain ⟨a, vs, rfl, hv, hs⟩ := seq_of R hr e2
      rcases hs with ⟨z, _⟩ | ⟨_, hs⟩
      · cases z
      · exact tyx_seqT hs
    · cases e
theorem se_isi {T : Str} {U : String} {p2 : Pos} (hT : bootBuiltins T = some (.type U)) (hnT : NoG C T) (hn : NoG C "isinstance") (hg : ∀ j, Gl (C.X j) "isinstance") (hgT : ∀ j, Gl (C.X j) T) (hnn : T ≠ "__name__") (hdb : (T == ("__debug__" : Str)) = false) (ha : SE C a fa) (hs : NS a) :
    SE C (.Call (.Name "isinstance" p) [a, .Name T p2] [] pos) (eC1 (mIsi U) fa) :=
  se_of (fun j => pe_callB (kx (p := fun K => CallR (C.X j) (.builtin "isinstance") (rIsi K)) j call_isi) (hg j) (noG hn j) (by decide +kernel) (pa_cons (pe_any C a j) (pa_cons (pe_bltn (v := .ty U) (hgT j) (noG hnT j) hT rfl hnn hdb) pa_nil rfl) (hs _ _)) (by decide) (by decide) (hs _ _) (ns_any (fun x h => by obtain rfl := List.mem_singleton.mp h; exact fun _ _ => rfl) _ _)) fun F m h env H σ R E Q q =>
    ha F m h env H σ R E _ (q.bind fun rx h1 m1 x H1 e1 s1 R1 r1 p1 => by
      unfold mIsi at p1
      split at p1
      · rename_i k ek
        split at p1
        · rename_i b eb
          exact ⟨x, .ty U, _, _, b, rfl, .ty U, tyx_of R1 r1 ek, kit_ty eb, post_v R1 (.bl _) p1⟩
        · exact p1.elim
      · exact p1.elim)
end
end Mp

/-! M7: targets, what a loop walks, comprehensions. -/
namespace Mp
open PySem PySem.Spec PyProof.Rows L2
/-! ### targets -/
inductive Pat where
  | nm (i : Nat) | tp (ps : List Nat)
def Pat.ix : Pat → List Nat
  | .nm i => [i]
  | .tp ps => ps
def setAll : List Nat → List MV → Ev → Ev
  | i :: is, d :: ds, env => setAll is ds (env.set i (some d))
  | _, _, env => env
def asg (p : Pat) (d : MV) (env : Ev) : Option Ev := match p, d with
  | .nm i, d => some (env.set i (some d))
  | .tp is, .tup ds => if is.length = ds.length then some (setAll is ds env) else none
  | .tp is, .ktup ds => if is.length = ds.length then some (setAll is ds env) else none
  | _, _ => none
/-- two states that differ at vs alone -/
def Off (vs : List Nat) (σ σ' : L2.St) : Prop := σ'.length = σ.length ∧ ∀ i : Nat, i ∉ vs → σ'[i]? = σ[i]?
def SG (C : Cs) (tg : Expr) (p : Pat) : Prop := ∀ F m H env σ x d env', EnvR (C.S F) m H σ env → VR (C.S F) m H x d → asg p d env = some env' → ∀ N : L2.St → Hp → Prop, (∀ σ', EnvR (C.S F) m H σ' env' → Off p.ix σ σ' → N σ' H) → gAny C tg x σ H N
section
variable {C : Cs} {m m1 m' : Mm} {h : MHp} {H H0 H' : Hp} {σ σ' : L2.St} {env : Ev}
theorem off_refl {vs : List Nat} : Off vs σ σ := ⟨rfl, fun _ _ => rfl⟩
theorem off_set {i : Nat} {x : Option V} {vs : List Nat} (hi : i ∈ vs) (o : Off vs σ σ') : Off vs σ (σ'.set i x) := ⟨by rw [List.length_set]; exact o.1, fun j hj => by
  have ne : i ≠ j := fun z => hj (by rw [← z]; exact hi)
  rw [List.getElem?_set_ne ne]
  exact o.2 j hj⟩
theorem sg_name {i : Nat} {x : Str} {pos : Pos} (hi : C.N[i]? = some x) (hx : ∀ j, L2.Loc (C.X j).env.scope x) (hf : ∀ j, (C.X j).fn x = true ∨ (C.X j).env.scope.names.lookup x = some .local) : SG C (.Name x pos) (.nm i) := fun F m H env σ x d env' E hv e N q =>
  ⟨gName i, fun j => pg_name (by rw [C.hN]; exact C.nd) (by rw [C.hN]; exact hi) (hx j) (hf j), by
    cases e
    exact q _ (E.set i hv) (off_set List.mem_cons_self off_refl)⟩
/-- names in a row, each with its slot -/
inductive Nms (C : Cs) : List Expr → List Nat → Prop
  | nil : Nms C [] []
  | cons {i : Nat} {x : Str} {pos : Pos} {es : List Expr} {is : List Nat} : C.N[i]? = some x → (∀ j, L2.Loc (C.X j).env.scope x) → (∀ j, (C.X j).fn x = true ∨ (C.X j).env.scope.names.lookup x = some .local) → Nms C es is → Nms C (.Name x pos :: es) (i :: is)
def gAll : List Nat → TGs
  | [] => gNil
  | i :: is => gCons (gName i) (gAll is)
theorem Nms.pgs {es : List Expr} {is : List Nat} (h : Nms C es is) (j : C.ι) : PGs (C.X j) es (gAll is) ∧ (assignEach es (C.X j).env).length = is.length ∧ (assignEach es (C.X j).env).findIdx? (·.1) = none := by
  induction h with
  | nil => exact ⟨pgs_nil, rfl, rfl⟩
  | cons hi hx hf r ih =>
    obtain ⟨h1, h2, h3⟩ := ih
    refine ⟨pgs_cons (pg_name (by rw [C.hN]; exact C.nd) (by rw [C.hN]; exact hi) (hx j) (hf j)) h1, ?_, ?_⟩
    · show (_ :: assignEach _ _).length = _
      rw [List.length_cons, h2]
      rfl
    · show ((false, _) :: assignEach _ _).findIdx? _ = none
      rw [List.findIdx?_cons, h3]
      rfl
theorem gAll_ok {vs : List Nat} : ∀ {is : List Nat} {xs : List V} {ds : List MV} {env : Ev} {σ : L2.St}, is.length = ds.length → VRs (C.S F) m H xs ds → EnvR (C.S F) m H σ env → (∀ i ∈ is, i ∈ vs) → ∀ N : L2.St → Hp → Prop, (∀ σ', EnvR (C.S F) m H σ' (setAll is ds env) → Off vs σ σ' → N σ' H) → gAll is xs σ H N
  | [], _, _, env, σ, hl, .nil, E, _, N, q => ⟨rfl, q σ E off_refl⟩
  | i :: is, _, _, env, σ, hl, .cons (v := v) hv hr, E, hm, N, q => ⟨v, _, rfl, gAll_ok (vs := vs) (by simpa using hl) hr (E.set i hv) (fun k hk => hm k (List.mem_cons_of_mem _ hk)) N fun σ' E' o => q σ' E' ⟨by rw [o.1, List.length_set], fun k hk => by
      have ne : i ≠ k := fun z => hk (by rw [← z]; exact hm i List.mem_cons_self)
      rw [o.2 k hk, List.getElem?_set_ne ne]⟩⟩
theorem sg_tup [hc : Cold C] {es : List Expr} {is : List Nat} {k : Nat} {pos : Pos} (h : Nms C es is) : SG C (.Tuple es k pos) (.tp is) := fun F m H env σ x d env' E hv e N q =>
  ⟨gTup C.K is.length (gAll is), fun j => kx (p := fun K => PG (C.X j) _ (gTup K is.length (gAll is))) j (pg_tup (C.calm j hc.h) (h.pgs j).1 (h.pgs j).2.1 (h.pgs j).2.2), by
    unfold asg at e
    split at e
    · rename_i he; exact nomatch he
    · rename_i ds hp
      cases hp
      split at e
      · rename_i hl
        cases e
        cases hv with
        | tup h1 h2 => exact ⟨_, _, rfl, SqT.of h1, by rw [h2.length, hl], gAll_ok hl h2 E (fun _ z => z) N q⟩
      · cases e
    · rename_i ds hp
      cases hp
      split at e
      · rename_i hl
        cases e
        cases hv with
        | ktup h1 h2 => exact ⟨_, _, rfl, h1, by rw [h2.length, hl], gAll_ok hl h2 E (fun _ z => z) N q⟩
      · cases e
    · cases e⟩
end
/-! ### what a loop walks -/
inductive Itm where
  | fix (ds : List MV) | lref (n : Nat) | rng (lo st : Int) (n : Nat) | enum (i : Itm) | zip (a b : Itm)
/-- the i-th, or none behind the last; beyond that nothing is said -/
def nth (ds : List MV) (i : Nat) : Option (Option MV) := if i ≤ ds.length then some ds[i]? else none
theorem nth_some {ds : List MV} {i : Nat} {o : Option MV} (h : nth ds i = some o) : ds[i]? = o ∧ (o = none → ds.length = i) := by
  unfold nth at h
  split at h
  · rename_i hl
    cases h
    refine ⟨rfl, fun z => ?_⟩
    have := List.getElem?_eq_none_iff.mp z
    omega
  · cases h
def Itm.at (h : MHp) (i : Nat) : Itm → Option (Option MV)
  | .fix ds => nth ds i
  | .lref n => (lstAt h n).bind fun ds => nth ds i
  | .rng lo st n => some (if i < n then some (.int (lo + st * i)) else none)
  | .enum it => (it.at h i).map fun o => o.map fun d => .tup [.int i, d]
  | .zip a b => match a.at h i, b.at h i with
    | some (some x), some (some y) => some (some (.tup [x, y]))
    | some none, some none => some none
    | _, _ => none
/-- more turns than there can be -/
def Itm.fuel (h : MHp) : Itm → Nat
  | .fix ds => ds.length + 1
  | .lref n => match lstAt h n with
    | some ds => ds.length + 1
    | none => 0
  | .rng _ _ n => n + 1
  | .enum it => it.fuel h
  | .zip a b => min (a.fuel h) (b.fuel h)
def ItR (S : Sx) (m0 : Mm) (H0 : Hp) (J : It) (it : Itm) : Prop := ∀ F' m h H i, (∀ a, F' a → S.F a ∨ H0 a = none) → Stw S.K F' m0 H0 m H → Rl (S.wF F') m h H → match it.at h i with
  | some (some d) => J.go i H ∧ ∀ x H', J.yld i H x H' → Stp S m H m H' ∧ Rl (S.wF F') m h H' ∧ VR (S.wF F') m H' x d
  | some none => J.stop i H
  | none => True
def kI : Kd It Itm := ⟨fun S _ m' H' J it => ItR S m' H' J it, fun S m h H _ _ => Rl S m h H, id, fun _ h => h, fun s h F' m hh H i hF st => h F' m hh H i (fun a fa => (hF a fa).imp id fun z => fresh_back s z) (s.w.trans st)⟩
abbrev Fi := Ev → MHp → Out Itm
def SI (C : Cs) (tg e : Expr) (f : Fi) : Prop := ∀ F m h env H σ, Rl (C.S F) m h H → EnvR (C.S F) m H σ env → ∀ R : It → Hp → Prop, Post C F m H σ kI (f env h) R → iAny C tg e σ H R
/-- a value as what is walked -/
def itOf (h : MHp) : RV → Option Itm
  | .nl ds => some (.fix ds)
  | .v (.lst ds) => some (.fix ds)
  | .v (.tup ds) => some (.fix ds)
  | .v (.ktup ds) => some (.fix ds)
  | .v (.scr ns) => some (.fix (ns.map MV.int))
  | .v (.ref n) => match lstAt h n with
    | some _ => some (.lref n)
    | none => none
  | _ => none
def iSeq (f : Fe) : Fi := fun env h => (f env h).bind fun x h1 => match itOf h1 x with
  | some it => .ok it h1
  | none => .no
/-- the list at a, the tuple at a: what is to be read there at each turn -/
inductive Src (S : Sx) (m0 : Mm) (H0 : Hp) : Bool → Addr → Itm → Prop
  | l {a : Addr} {vs : List V} {ds : List MV} : SqF S.K S.F m0 H0 a vs → VRs S m0 H0 vs ds → Src S m0 H0 true a (.fix ds)
  | t {a : Addr} {vs : List V} {ds : List MV} : SqT S.K H0 a vs → VRs S m0 H0 vs ds → Src S m0 H0 false a (.fix ds)
  | r {a : Addr} {n : Nat} : m0[n]? = some (some a) → Src S m0 H0 true a (.lref n)
def tupK : RV → Bool
  | .v (.tup _) => true
  | .v (.ktup _) => true
  | _ => false
theorem src_of {S : Sx} {m : Mm} {h : MHp} {H H0 : Hp} {x : V} {r : RV} {it : Itm} (R : Rl S m h H) (hr : RR S H0 m H x r) (e : itOf h r = some it) : ∃ a, x = .ref a ∧ Src S m H (!tupK r) a it ∧ ((tupK r = false ∧ ∃ vs, SqL S.K H a vs) ∨ (tupK r = true ∧ ∃ vs, SqT S.K H a vs)) := by
  cases hr with
  | nl h1 h2 nf h3 h4 => cases e; exact ⟨_, rfl, .l (.inl ⟨.inl h3, h2, nf⟩) (h4.less fun _ z => .inl z), .inl ⟨rfl, _, SqL.of h3⟩⟩
  | v hv =>
    cases hv with
    | lst h1 h2 nf h3 => cases e; exact ⟨_, rfl, .l (.inl ⟨.inl h1, h2, nf⟩) h3, .inl ⟨rfl, _, SqL.of h1⟩⟩
    | tup h1 h3 => cases e; exact ⟨_, rfl, .t (SqT.of h1) h3, .inr ⟨rfl, _, SqT.of h1⟩⟩
    | ktup h1 h3 => cases e; exact ⟨_, rfl, .t h1 h3, .inr ⟨rfl, _, h1⟩⟩
    | scr h1 => cases e; exact ⟨_, rfl, .l h1 (vrs_ints _), .inl ⟨rfl, _, h1.l⟩⟩
    | ref hn =>
      unfold itOf at e
      simp only at e
      split at e
      · rename_i ds e1
        cases e
        obtain ⟨a, ea, hm, vs, hl, hv⟩ := R.at (.ref hn) (lstAt_eq.mp e1) (fun z => nomatch z)
        cases ea
        exact ⟨_, rfl, .r hm, .inl ⟨rfl, vs, SqL.of hl⟩⟩
      · cases e
    | _ => cases e
/-- what stands there at turn i -/
theorem src_now {S : Sx} {F' : Addr → Prop} {m0 m : Mm} {h : MHp} {H0 H : Hp} {b : Bool} {a : Addr} {it : Itm} {i : Nat} {o : Option MV} (hs : Src S m0 H0 b a it) (hF : ∀ a, F' a → S.F a ∨ H0 a = none) (st : Stw S.K F' m0 H0 m H) (R : Rl (S.wF F') m h H) (e : it.at h i = some o) :
    ∃ vs, ((b = true ∧ SqL S.K H a vs) ∨ (b = false ∧ SqT S.K H a vs)) ∧ (∀ d, o = some d → ∃ v, vs[i]? = some v ∧ VR (S.wF F') m H v d) ∧ (o = none → vs.length = i) := by
  cases hs with
  | l h1 h2 =>
    obtain ⟨e1, e2⟩ := nth_some e
    have h3 := VRs.stw (S := S.wF F') st (h2.more hF)
    exact ⟨_, .inl ⟨rfl, ((h1.more hF).stw st).l⟩, fun d hd => h3.get (e1.trans hd), fun z => h3.length.trans (e2 z)⟩
  | t h1 h2 =>
    obtain ⟨e1, e2⟩ := nth_some e
    have h3 := VRs.stw (S := S.wF F') st (h2.more hF)
    exact ⟨_, .inr ⟨rfl, sqt_im st.im h1⟩, fun d hd => h3.get (e1.trans hd), fun z => h3.length.trans (e2 z)⟩
  | r h1 =>
    obtain ⟨ds, e1, e2⟩ := Option.bind_eq_some_iff.mp e
    obtain ⟨e5, e6⟩ := nth_some e2
    have hn : _ < m0.length := (List.getElem?_eq_some_iff.mp h1).1
    have e3 := lstAt_eq.mp e1
    obtain ⟨x, e4, ho⟩ := R.ob _ _ e3
    rcases st.old _ hn with q | q
    · rw [q, h1] at e4
      cases e4
      obtain ⟨vs, hv, hr⟩ := ho
      exact ⟨vs, .inl ⟨rfl, SqL.of hv⟩, fun d hd => hr.get (e5.trans hd), fun z => hr.length.trans (e6 z)⟩
    · rw [q] at e4
      cases e4
      exact ho.elim
theorem itr_seq {S : Sx} {m0 : Mm} {H0 : Hp} {b : Bool} {a : Addr} {it : Itm} (hs : Src S m0 H0 b a it) : ItR S m0 H0 (if b = true then Itl S.K a else Itt S.K a) it := fun F' m h H i hF st R => by
  cases e : it.at h i with
  | none => exact True.intro
  | some o =>
    obtain ⟨vs, hv, h1, h2⟩ := src_now hs hF st R e
    cases o with
    | none =>
      have h3 := h2 rfl
      rcases hv with ⟨rfl, hv⟩ | ⟨rfl, hv⟩
      · exact ⟨vs, hv, Nat.le_of_eq h3⟩
      · exact ⟨vs, hv, Nat.le_of_eq h3⟩
    | some d =>
      obtain ⟨v, e1, e2⟩ := h1 d rfl
      rcases hv with ⟨rfl, hv⟩ | ⟨rfl, hv⟩
      · refine ⟨⟨vs, v, hv, e1⟩, fun x H' y => ?_⟩
        obtain ⟨rfl, y⟩ := y
        have e3 := y vs hv
        rw [e1] at e3
        cases e3
        exact ⟨.refl, R, e2⟩
      · refine ⟨⟨vs, v, hv, e1⟩, fun x H' y => ?_⟩
        obtain ⟨rfl, y⟩ := y
        have e3 := y vs hv
        rw [e1] at e3
        cases e3
        exact ⟨.refl, R, e2⟩
section
variable {C : Cs} {e a b tg : Expr} {fa fb fc : Fe} {pos p : Pos}
theorem si_of {t : TI} {f : Fi} (h : ∀ i, PI (C.X i) tg e t) (ev : ∀ F m h env H σ, Rl (C.S F) m h H → EnvR (C.S F) m H σ env → ∀ R : It → Hp → Prop, Post C F m H σ kI (f env h) R → t σ H R) : SI C tg e f := fun F m hh env H σ R E Q p => ⟨t, h, ev F m hh env H σ R E Q p⟩
def tupO : Out RV → Bool
  | .ok r _ => tupK r
  | _ => false
theorem ev_seq (ha : SE C e fa) {F m h env H σ} (R : Rl (C.S F) m h H) (E : EnvR (C.S F) m H σ env) {Q : It → Hp → Prop} (p : Post C F m H σ kI (iSeq fa env h) Q) {R' : V → Hp → Prop}
    (hR : ∀ a H1, (tupO (fa env h) = false → (∃ vs, SqL C.K H1 a vs) ∧ Q (Itl C.K a) H1) → (tupO (fa env h) = true → (∃ vs, SqT C.K H1 a vs) ∧ Q (Itt C.K a) H1) → R' (.ref a) H1) : eAny C e σ H R' :=
  ha F m h env H σ R E _ (p.bind fun rx h1 m1 x H1 e1 s1 R1 r1 p1 => by
    cases q : itOf h1 rx with
    | none => rw [q] at p1; exact p1.elim
    | some it =>
      rw [q] at p1
      obtain ⟨a, rfl, hs, hv⟩ := src_of R1 r1 q
      have hJ := p1 m1 (if (!tupK rx) = true then Itl C.K a else Itt C.K a) H1 .refl R1 (itr_seq hs)
      rw [e1] at hR
      refine hR a H1 (fun z => ?_) fun z => ?_
      · have z : tupK rx = false := z
        rw [z] at hJ
        rcases hv with ⟨_, hv⟩ | ⟨w, _⟩
        · exact ⟨hv, hJ⟩
        · rw [z] at w; cases w
      · have z : tupK rx = true := z
        rw [z] at hJ
        rcases hv with ⟨w, _⟩ | ⟨_, hv⟩
        · rw [z] at w; cases w
        · exact ⟨hv, hJ⟩)
theorem si_seq (ha : SE C e fa) : SI C tg e (iSeq fa) := fun F m h env H σ R E Q p => by
  cases hb : tupO (fa env h) with
  | false => exact ⟨iList C.K (eAny C e), fun j => kx (p := fun K => PI (C.X j) tg e (iList K (eAny C e))) j (pi_list (pe_any C e j)), ev_seq ha R E p fun a H1 h1 _ => ⟨a, rfl, h1 hb⟩⟩
  | true => exact ⟨iTup C.K (eAny C e), fun j => kx (p := fun K => PI (C.X j) tg e (iTup K (eAny C e))) j (pi_tup (pe_any C e j)), ev_seq ha R E p fun a H1 _ h1 => ⟨a, rfl, h1 hb⟩⟩
/-! ranges -/
theorem itr_rng {S : Sx} {m : Mm} {H : Hp} {lo : Int} {n : Nat} : ItR S m H (Itr lo n) (.rng lo 1 n) := fun F' m' h H' i hF st R => by
  show match some (if i < n then some (MV.int (lo + 1 * i)) else none) with
    | some (some d) => _
    | some none => _
    | none => True
  by_cases hi : i < n
  · rw [if_pos hi]
    refine ⟨hi, fun x H2 y => ?_⟩
    obtain ⟨rfl, rfl⟩ := y
    exact ⟨.refl, R, by rw [Int.one_mul]; exact .int _⟩
  · rw [if_neg hi]
    exact Nat.le_of_not_lt hi
def iRng1M (fa : Fe) : Fi := fun env h => (fa env h).bind fun x h1 => match x with
  | .v (.int n) => if -4611686018427387904 ≤ n ∧ n < 4611686018427387904 then .ok (.rng 0 1 n.toNat) h1 else .no
  | _ => .no
def iRng2M (fa fb : Fe) : Fi := fun env h => (fa env h).bind fun x h1 => (fb env h1).bind fun y h2 => match x, y with
  | .v (.int i), .v (.int j) => if -4611686018427387904 ≤ i ∧ i < 4611686018427387904 ∧ -4611686018427387904 ≤ j ∧ j < 4611686018427387904 then .ok (.rng i 1 (j - i).toNat) h2 else .no
  | _, _ => .no
theorem si_rng1 (ha : SE C a fa) (hg : ∀ j, Gl (C.X j) "range") (hm : NoG C "range") (hs : NS a) : SI C tg (.Call (.Name "range" p) [a] [] pos) (iRng1M fa) :=
  si_of (fun j => pi_range1 (hg j) (noG hm j) (pa_cons (pe_any C a j) pa_nil (hs _ _)) (hs _ _)) fun F m h env H σ R E Q q => ha F m h env H σ R E _ (q.bind fun rx h1 m1 x H1 e1 s1 R1 r1 p1 => by
    split at p1
    · rename_i n
      split at p1
      · rename_i hn
        exact ⟨n, by rw [vr_int (rr_v r1)], by omega, by omega, p1 m1 _ H1 .refl R1 itr_rng⟩
      · exact p1.elim
    · exact p1.elim)
theorem si_rng2 (ha : SE C a fa) (hb : SE C b fb) (hg : ∀ j, Gl (C.X j) "range") (hm : NoG C "range") (hs : NS a) (hs2 : NS b) : SI C tg (.Call (.Name "range" p) [a, b] [] pos) (iRng2M fa fb) :=
  si_of (fun j => pi_range2 (hg j) (noG hm j) (pa_cons (pe_any C a j) (pa_cons (pe_any C b j) pa_nil (hs2 _ _)) (hs _ _)) ((hs _ _).trans (congrArg _ (hs2 _ _))) (hs2 _ _)) fun F m h env H σ R E Q q => ha F m h env H σ R E _ (q.bind fun rx h1 m1 x H1 e1 s1 R1 r1 p1 =>
    hb F m1 h1 env H1 σ R1 (E.step s1) _ (p1.bind fun ry h2 m2 y H2 e2 s2 R2 r2 p2 => by
      split at p2
      · rename_i i j
        split at p2
        · rename_i hn
          exact ⟨i, j, by rw [vr_int (rr_v r1), vr_int (rr_v r2)], ⟨by omega, by omega, by omega, by omega⟩, p2 m2 _ H2 .refl R2 itr_rng⟩
        · exact p2.elim
      · exact p2.elim))
/-- reversed(range(n)) -/
theorem itr_rngC {S : Sx} {m : Mm} {H : Hp} {lo c : Int} {n : Nat} : ItR S m H (Itc lo c n) (.rng lo c n) := fun F' m' h H' i hF st R => by
  show match some (if i < n then some (MV.int (lo + c * i)) else none) with
    | some (some d) => _
    | some none => _
    | none => True
  by_cases hi : i < n
  · rw [if_pos hi]
    refine ⟨hi, fun x H2 y => ?_⟩
    obtain ⟨rfl, rfl⟩ := y
    refine ⟨.refl, R, ?_⟩
    have e : lo + (i : Int) * c = lo + c * (i : Int) := by rw [Int.mul_comm]
    rw [← e]
    exact .int _
  · rw [if_neg hi]
    exact Nat.le_of_not_lt hi
def iRevM (fa : Fe) : Fi := fun env h => (fa env h).bind fun x h1 => match x with
  | .v (.int n) => if -4611686018427387904 ≤ n ∧ n < 4611686018427387904 then .ok (.rng ((n.toNat : Int) - 1) (-1) n.toNat) h1 else .no
  | _ => .no
theorem si_rev {p2 p3 : Pos} (ha : SE C a fa) (hg : ∀ j, Gl (C.X j) "range") (hm : NoG C "range") (hg2 : ∀ j, Gl (C.X j) "reversed") (hm2 : NoG C "reversed") (hs : NS a) (hs2 : NS (.Call (.Name "range" p2) [a] [] p3)) : SI C tg (.Call (.Name "reversed" p) [.Call (.Name "range" p2) [a] [] p3] [] pos) (iRevM fa) :=
  si_of (fun j => pi_revR (hg2 j) (noG hm2 j) (prg_1 (hg j) (noG hm j) (pe_any C a j) (hs _ _)) (hs2 _ _)) fun F m h env H σ R E Q q => ha F m h env H σ R E _ (q.bind fun rx h1 m1 x H1 e1 s1 R1 r1 p1 => by
    split at p1
    · rename_i n
      split at p1
      · rename_i hn
        refine ⟨n, vr_int (rr_v r1), by omega, by omega, by omega, by omega, ?_⟩
        have e1 : (0 : Int) + (((n - 0).toNat : Nat) : Int) - 1 = (n.toNat : Int) - 1 := by
          rw [Int.sub_zero, Int.zero_add]
        have e2 : (n - 0).toNat = n.toNat := by rw [Int.sub_zero]
        rw [e1, e2]
        exact p1 m1 _ H1 .refl R1 itr_rngC
      · exact p1.elim
    · exact p1.elim)
end
end Mp

/-! M8: enumerate over a tuple, zip of a tuple and a list. -/
namespace Mp
open PySem PySem.Spec PyProof.Rows L2
/-- enumerate over what begins with one new object -/
theorem enumB_meets {v : Value} {o : Obj} {Hb : Heap → Prop} (B : Begins v o Hb) : Meets (Builtin.«enumerate.__new__» ⟨[.type "enumerate", v], []⟩) (fun _ R s => Hb s.heap ∧
      R (.ok (.ret (.ref (s.heap.push o).objs.size))) { s with heap := (s.heap.push o).push { cls := .type "enumerate", data := .fields #[.none, .bool false, .ref s.heap.objs.size, rawInt 0, .none, .none] } }) := by
  refine .of_wp fun prog w A R s h => ?_
  obtain ⟨hp, gs, dd, tk, os⟩ := s
  obtain ⟨hB, h⟩ := h
  have sb := sub_enumerate
  have it : ∀ {A' : Around} {E : Value → Shared → Prop} {Q : Value → Shared → Prop}, Q (.ref hp.objs.size) ⟨hp.push o, gs, dd, tk, os⟩ → wpAny (model prog w) A' (pyIter v) Q E ⟨hp, gs, dd, tk, os⟩ :=
    fun q => B.iter prog w _ _ ⟨hp, gs, dd, tk, os⟩ _ hB q
  wp_walk using it
  refine wpAny_stack_any fun st => wpAny_pure ?_
  split
  · rename_i c _ _ _ _ _
    cases (c == Value.type "enumerate") <;> (wp_walk using it; exact ⟨_, rfl, h⟩)
  · wp_walk using it
    exact ⟨_, rfl, h⟩
theorem enumB_call {prog : Program} {w : World} {A : Around} {E : Value → Shared → Prop} {s : Shared} {v : Value} {o : Obj} {Hb : Heap → Prop} {Q : Value → Shared → Prop} (B : Begins v o Hb) (hB : Hb s.heap)
    (h : ∀ h', IsEnum h' (s.heap.objs.size + 1) s.heap.objs.size 0 .none → h'.get? s.heap.objs.size = some o → (∀ b u, s.heap.get? b = some u → h'.get? b = some u) → Q (.ref (s.heap.objs.size + 1)) { s with heap := h' }) :
    wpAny (model prog w) A (call (.type "enumerate") [v]) Q E s := by
  refine callType_new F.called_enumerate (by decide) (F.typeCall_enumerate_1 _) (F.newCall_enumerate_1 _) (fun obj => F.args_object_init_2 obj _) F.entry_enumerate_new (enumB_meets B) ⟨hB, ?_⟩
  have z1 : (s.heap.push o).objs.size = s.heap.objs.size + 1 := Heap.size_push ..
  have e1 : IsEnum ((s.heap.push o).push { cls := .type "enumerate", data := .fields #[.none, .bool false, .ref s.heap.objs.size, rawInt 0, .none, .none] }) (s.heap.objs.size + 1) s.heap.objs.size 0 .none := by
    rw [← z1]
    exact Heap.get?_push_size _ rfl
  show _ ∧ _
  rw [z1]
  exact ⟨⟨_, e1, rfl⟩, h _ e1 (Heap.get?_push_of_some _ (Heap.get?_push_size _ B.free)) fun b u x => Heap.get?_push_of_some _ (Heap.get?_push_of_some _ x)⟩
/-- the tuple at a, each item in a new pair -/
def ItnT (K : Fg) (a : Addr) : It :=
  ⟨fun i H => ∃ (xs : List V) (x : V), SqT K H a xs ∧ xs[i]? = some x, fun i H v H' => ∃ T x, v = .ref T ∧ H T = none ∧ H' = upd H T (.tup [.int (i : Nat), x]) ∧ ∀ xs, SqT K H a xs → xs[i]? = some x, fun i H => ∃ xs : List V, SqT K H a xs ∧ xs.length = i⟩
theorem turn_nT {P : Program} {w : World} {K : Fg} {elts : List Expr} {kk : Nat} {tpos : Pos} {a e it : Addr} (hne : e ≠ it) (hia : a ≠ it) (hea : a ≠ e) :
    Turn P w K (.Tuple elts kk tpos) (ItnT K a) [e, it] e (fun i h => (∃ old, IsEnum h e it ((i : Nat) : Int) old) ∧ h.IsTupleIter it a i) where
  mem := by simp
  obj := fun i h st b hb => by
    obtain ⟨⟨old, he⟩, ⟨o, ho, hc, hd⟩⟩ := st
    rcases (show b = e ∨ b = it by simpa using hb) with z | z
    · rw [z]; exact ⟨_, he, fun v q => nomatch q⟩
    · rw [z]; exact ⟨o, ho, fun v q => by rw [hd] at q; cases q⟩
  keep := fun i h h' st k => let ⟨⟨old, he⟩, hi⟩ := st; ⟨⟨old, k e (by simp) _ he⟩, hi.at fun o q => k it (by simp) o q⟩
  item := by
    intro X hP hw hK hc i pins s σ H E I hf st hg
    subst hP hw hK
    obtain ⟨⟨old, he⟩, hit⟩ := st
    obtain ⟨xs, x, hq, hx⟩ := hg
    obtain ⟨its, rv, p, hz⟩ := I.tuple hq
    obtain ⟨u, hu, ru⟩ := rv.get hx
    have hel : e < s.heap.objs.size := Heap.lt_size he
    have hil : it < s.heap.objs.size := by obtain ⟨_, q, _⟩ := hit; exact Heap.lt_size q
    have hlt : i < its.toArray.size := by rw [List.size_toArray]; exact (List.getElem?_eq_some_iff.mp hu).1
    refine wpAny_pyNext_enum_itemD (Draws.tuple (A := X.A.in1) (I.ok.hd hc) it a hia its.toArray) he ⟨hit, p⟩ hlt hne (by simp only [List.mem_cons, List.not_mem_nil, or_false, not_or]; exact ⟨hne, Ne.symm hea⟩) fun v h' tk hv ho hst hT hsz hk => ?_
    have ev : v = u := by
      rw [List.getElem?_toArray, hu] at hv
      exact (Option.some.inj hv).symm
    subst ev
    refine ⟨_, rfl, wpAny_letOwnedTupleGo_enum (s := { s with heap := h', toks := tk + 1 }) ho fun h'' he' sb => ?_⟩
    have hT2 : h''.get? s.heap.objs.size = some { cls := .type "tuple", data := .seq #[.int i tk, v] } := (sb.2 _ (Nat.ne_of_gt hel)).trans hT
    have new : ObjOk X.prog X.w (upd H s.heap.objs.size (.tup [.int (i : Nat), x])) h'' s.heap.objs.size (.tup [.int (i : Nat), x]) :=
      ⟨by show 2 ≤ sizeLine; decide, [.int i tk, v], .cons ⟨_, rfl⟩ (.cons ru .nil), ⟨_, hT2, rfl, _, rfl⟩⟩
    have I1 : Inv X pins σ (upd H s.heap.objs.size (.tup [.int (i : Nat), x])) { s with heap := h'', toks := tk + 1 } :=
      I.turnedNew (ch := [e, it]) (fun b ob hb q => (sb.2 b (fun z => hb (by simp [z]))).trans (hk b ob (fun z => hb (by simp [z])) (fun z => hb (by simp [z])) q)) hf (Nat.le_refl _) new
    refine ⟨.ref s.heap.objs.size, _, I1, rfl, ⟨_, x, rfl, I.hok.fresh (Nat.le_refl _), rfl, fun ys hy => by rw [I.tuple_inj hy hq]; exact hx⟩, ⟨⟨v, ?_⟩, hst.1.at fun o q => (sb.2 it (Ne.symm hne)).trans q⟩, fun b hb => ?_⟩
    · have e1 : ((i + 1 : Nat) : Int) = (i : Int) + 1 := by omega
      rw [e1]; exact he'
    · have hb' : b < s.heap.objs.size := by
        rcases (show b = e ∨ b = it by simpa using hb) with z | z
        · rw [z]; exact hel
        · rw [z]; exact hil
      rw [upd_ne (Nat.ne_of_lt hb')]
      exact (hf b hb).1
  done := by
    intro X hP hw hK hc i pins s σ H E I hf st hg
    subst hP hw hK
    obtain ⟨⟨old, he⟩, hit⟩ := st
    obtain ⟨xs, hq, hx⟩ := hg
    obtain ⟨its, rv, p, hz⟩ := I.tuple hq
    obtain ⟨f0, f1, f2, f3, f4, f5⟩ := hf it (by simp)
    have hl := rv.length
    refine wpAny_pyNext_enum_endD (Draws.tuple (A := X.A.in1) (I.ok.hd hc) it a hia its.toArray) he (by rw [List.size_toArray, show its.length = i by omega]; exact ⟨hit, p⟩) fun h' eb => ⟨rfl, I.turned (t' := s.toks) (fun b o hb q => eb b o hb q) f0 f1 f3 f4 f5⟩
  self := fun A i s Q E st h => let ⟨⟨_, he⟩, _⟩ := st; wpAny_pyIter_enum he h
def iEnT (K : Fg) (ta : TA) : TI := fun σ H R => ta σ H fun vs H1 => ∃ a xs, vs = [.ref a] ∧ SqT K H1 a xs ∧ R (ItnT K a) H1
theorem pi_enT {X : Cx} {e : Expr} {ta : TA} {p pos tpos : Pos} {elts : List Expr} {kk : Nat} (hg : Gl X "enumerate") (hm : X.mg "enumerate" = none) (ha : PA X [e] ta) (hs : starEach [e] X.env = [(false, eval e X.env)] := by rfl) :
    PI X (.Tuple elts kk tpos) (.Call (.Name "enumerate" p) [e] [] pos) (iEnT X.K ta) := by
  refine ⟨fun pins s σ H R I h => ?_⟩
  refine Call_ (ld_blt I hg hm boot_enumerate (PyProof.Rows.callWith_type1 (thn (ha.run pos pins s σ H _ I h) fun us s1 ⟨vs, H1, I1, r1, q1⟩ => ?_) hs rfl))
  obtain ⟨a, xs, ex, hq, q⟩ := q1
  subst ex
  cases r1 with
  | cons r rr =>
    cases rr
    cases r
    obtain ⟨its, rv, p', hz⟩ := I1.tuple hq
    obtain ⟨oa, hoa, _⟩ := id p'
    have la := Heap.lt_size hoa
    refine enumB_call (begins_tuple a its.toArray) p' fun h' he hit hk => wpAny_pyIter_enum he ?_
    have I2 : Inv X pins σ H1 { s1 with heap := h' } := I1.kept (t' := s1.toks) hk
    refine ⟨s1.heap.objs.size + 1, [s1.heap.objs.size + 1, s1.heap.objs.size], _, _, H1, rfl, I2, turn_nT (a := a) (Nat.succ_ne_self _) (Nat.ne_of_lt la) (Nat.ne_of_lt (Nat.lt_succ_of_lt la)), ⟨⟨.none, he⟩, ⟨_, hit, rfl, rfl⟩⟩, fun b hb => ?_, q⟩
    have hle : s1.heap.objs.size ≤ b := by
      rcases (show b = s1.heap.objs.size + 1 ∨ b = s1.heap.objs.size by simpa using hb) with z | z
      · rw [z]; exact Nat.le_succ _
      · rw [z]; exact Nat.le_refl _
    exact I1.fpOk hle (I1.hok.fresh hle)
/-- the tuple at a and the list at b, turn by turn, two items in a new pair -/
def ItzM (K : Fg) (a b : Addr) : It :=
  ⟨fun i H => ∃ (us vs : List V) (u v : V), SqT K H a us ∧ SqL K H b vs ∧ us[i]? = some u ∧ vs[i]? = some v, fun i H p H' => ∃ T u v, p = .ref T ∧ H T = none ∧ H' = upd H T (.tup [u, v]) ∧ (∀ us, SqT K H a us → us[i]? = some u) ∧ ∀ vs, SqL K H b vs → vs[i]? = some v,
    fun i H => ∃ us vs : List V, SqT K H a us ∧ SqL K H b vs ∧ us.length = i ∧ vs.length = i⟩
theorem turn_zipM {P : Program} {w : World} {K : Fg} {elts : List Expr} {kk : Nat} {tpos : Pos} {a b z TI TO i1 i2 : Addr} (S : ZipSep2 z TI TO i1 i2 [i1, a] [i2, b]) (na : a ≠ i1) (nb : b ≠ i2) :
    Turn P w K (.Tuple elts kk tpos) (ItzM K a b) [z, TI, TO, i1, i2] z (fun i h => IsZip h z TI TO .none ∧ IsTupOf2 h TI (.ref i1) (.ref i2) ∧ (∃ p q, IsTupOf2 h TO p q) ∧ h.IsTupleIter i1 a i ∧ h.IsListIter i2 b i) where
  mem := List.mem_cons_self
  obj := fun i h st c hc => by
    obtain ⟨hz, hTI, ⟨p, q, hTO⟩, ⟨o1, e1, _, d1⟩, ⟨o2, e2, _, d2⟩⟩ := st
    simp only [List.mem_cons, List.not_mem_nil, or_false] at hc
    rcases hc with rfl | rfl | rfl | rfl | rfl
    · exact ⟨_, hz, fun v q => nomatch q⟩
    · exact ⟨_, hTI, fun v q => nomatch q⟩
    · exact ⟨_, hTO, fun v q => nomatch q⟩
    · exact ⟨o1, e1, fun v q => by rw [d1] at q; cases q⟩
    · exact ⟨o2, e2, fun v q => by rw [d2] at q; cases q⟩
  keep := fun i h h' st k => ⟨k z (by simp) _ st.1, k TI (by simp) _ st.2.1, let ⟨p, q, e⟩ := st.2.2.1; ⟨p, q, k TO (by simp) _ e⟩, st.2.2.2.1.at fun o q => k i1 (by simp) o q, st.2.2.2.2.at fun o q => k i2 (by simp) o q⟩
  item := by
    intro X hP hw hK hc i pins s σ H E I hf st hg
    subst hP hw hK
    obtain ⟨hz, hTI, ⟨p0, q0, hTO⟩, h1, h2⟩ := st
    obtain ⟨us, vs, u, v, hu, hv, eu, ev⟩ := hg
    obtain ⟨xs, rx, px, _⟩ := I.tuple hu
    obtain ⟨ys, ry, py, _⟩ := I.list hv
    obtain ⟨x, ex, kx'⟩ := rx.get eu
    obtain ⟨y, ey, ky⟩ := ry.get ev
    have lz : z < s.heap.objs.size := Heap.lt_size hz
    have la : i < xs.toArray.size := by rw [List.size_toArray]; exact (List.getElem?_eq_some_iff.mp ex).1
    have lb : i < ys.toArray.size := by rw [List.size_toArray]; exact (List.getElem?_eq_some_iff.mp ey).1
    refine wpAny_pyNext_zipD2_item S (Draws.tuple (A := X.A.in1) (I.ok.hd hc) i1 a na xs.toArray) (Draws.list (A := X.A.in1) (I.ok.hd hc) i2 b nb ys.toArray) hz hTI hTO ⟨h1, px⟩ ⟨h2, py.isList⟩ la lb fun x' y' h' tk gx gy b1 b2 d1 d2 b5 b6 b7 => ?_
    obtain rfl : x' = x := Option.some.inj ((by simpa using gx : xs[i]? = some x').symm.trans ex)
    obtain rfl : y' = y := Option.some.inj ((by simpa using gy : ys[i]? = some y').symm.trans ey)
    refine ⟨_, rfl, wpAny_letOwnedTupleGo_zip (s := { s with heap := h', toks := tk }) b1 fun h'' z'' sb => ?_⟩
    have hT : h''.get? s.heap.objs.size = some { cls := .type "tuple", data := .seq #[x', y'] } := (sb.2 _ (Nat.ne_of_gt lz)).trans b5
    have new : ObjOk X.prog X.w (upd H s.heap.objs.size (.tup [u, v])) h'' s.heap.objs.size (.tup [u, v]) := ⟨by show 2 ≤ sizeLine; decide, [x', y'], .cons kx' (.cons ky .nil), ⟨_, hT, rfl, _, rfl⟩⟩
    have J : Inv X pins σ (upd H s.heap.objs.size (.tup [u, v])) { s with heap := h'', toks := tk } :=
      I.turnedNew (ch := [z, TI, TO, i1, i2]) (fun c o hb q => by
        simp only [List.mem_cons, List.not_mem_nil, or_false, not_or] at hb
        exact (sb.2 c hb.1).trans (b7 c o hb.1 hb.2.2.1 hb.2.2.2.1 hb.2.2.2.2 q)) hf (Nat.le_refl _) new
    refine ⟨.ref s.heap.objs.size, _, J, rfl, ⟨_, u, v, rfl, I.hok.fresh (Nat.le_refl _), rfl, fun l hl => by rw [I.tuple_inj hl hu]; exact eu, fun l hl => by rw [I.list_inj hl hv]; exact ev⟩, ⟨z'', ?_, ⟨x', y', ?_⟩, ?_, ?_⟩, fun c hm => ?_⟩
    · exact (sb.2 _ S.TIz).trans (b7 _ _ S.TIz S.TITO S.TIi1 S.TIi2 hTI)
    · exact (sb.2 _ S.TOz).trans b2
    · exact d1.1.at fun o q => (sb.2 _ (Ne.symm S.zi1)).trans q
    · exact d2.1.at fun o q => (sb.2 _ (Ne.symm S.zi2)).trans q
    · have lt : c < s.heap.objs.size := by
        simp only [List.mem_cons, List.not_mem_nil, or_false] at hm
        rcases hm with rfl | rfl | rfl | rfl | rfl
        · exact lz
        · exact Heap.lt_size hTI
        · exact Heap.lt_size hTO
        · exact let ⟨_, e, _⟩ := h1; Heap.lt_size e
        · exact let ⟨_, e, _⟩ := h2; Heap.lt_size e
      rw [upd_ne (Nat.ne_of_lt lt)]
      exact (hf c hm).1
  done := by
    intro X hP hw hK hc i pins s σ H E I hf st hg
    subst hP hw hK
    obtain ⟨hz, hTI, ⟨p0, q0, hTO⟩, h1, h2⟩ := st
    obtain ⟨us, vs, hu, hv, lu, lv⟩ := hg
    obtain ⟨xs, rx, px, _⟩ := I.tuple hu
    obtain ⟨ys, ry, py, _⟩ := I.list hv
    have l1 := rx.length
    have l2 := ry.length
    have e1 : xs.toArray.size = i := by rw [List.size_toArray]; omega
    have e2 : ys.toArray.size = i := by rw [List.size_toArray]; omega
    refine wpAny_pyNext_zipD2_end S (Draws.tuple (A := X.A.in1) (I.ok.hd hc) i1 a na xs.toArray) (Draws.list (A := X.A.in1) (I.ok.hd hc) i2 b nb ys.toArray) hz hTI hTO ⟨h1, px⟩ ⟨h2, py.isList⟩ (by omega) (by omega) (.inl e1.symm) fun h' tk hk => ⟨rfl, I.turnedL (t' := tk) (ch := [z, TI, TO, i1, i2]) (fun c o hb q => ?_) hf⟩
    simp only [List.mem_cons, List.not_mem_nil, or_false, not_or] at hb
    exact hk c o hb.1 hb.2.2.1 hb.2.2.2.1 hb.2.2.2.2 q
  self := fun A i s Q E st h => wpAny_pyIter_zip st.1 h
def iZipM (K : Fg) (ta : TA) : TI := fun σ H R => ta σ H fun vs H1 => ∃ a b us ws, vs = [.ref a, .ref b] ∧ SqT K H1 a us ∧ SqL K H1 b ws ∧ R (ItzM K a b) H1
theorem pi_zipM {X : Cx} {e e2 : Expr} {ta : TA} {p pos tpos : Pos} {elts : List Expr} {kk : Nat} (hg : Gl X "zip") (hm : X.mg "zip" = none) (ha : PA X [e, e2] ta) (hs : starEach [e, e2] X.env = (false, eval e X.env) :: starEach [e2] X.env := by rfl) (hpl : (backTo pos (starEach [e2] X.env)).any (·.1) = false := by rfl) :
    PI X (.Tuple elts kk tpos) (.Call (.Name "zip" p) [e, e2] [] pos) (iZipM X.K ta) := by
  refine ⟨fun pins s σ H R I h => Call_ (ld_blt I hg hm PyProof.Rows.boot_zip (PyProof.Rows.callWith_type1 (thn (ha.run pos pins s σ H _ I h) fun us s1 ⟨vs, H1, I1, r1, q1⟩ => ?_) hs hpl))⟩
  obtain ⟨a, b, xs, ys, rfl, hu, hv, q⟩ := q1
  obtain _ | ⟨r, rr⟩ := r1
  obtain _ | ⟨r', rr⟩ := rr
  cases rr; cases r; cases r'
  obtain ⟨its, rv, px, _⟩ := I1.tuple hu
  obtain ⟨its2, rv2, py, _⟩ := I1.list hv
  have la : a < s1.heap.objs.size := by obtain ⟨_, e, _⟩ := id px; exact Heap.lt_size e
  have lb : b < s1.heap.objs.size := py.lt
  refine zip_begins2 (begins_tuple a its.toArray) (begins_list b its2.toArray) px py.isList fun h' hz hTI hTO g1 g2 hsz hk => wpAny_pyIter_zip hz ?_
  have J : Inv X pins σ H1 { s1 with heap := h' } := I1.kept (t' := s1.toks) hk
  refine ⟨s1.heap.objs.size + 4, [s1.heap.objs.size + 4, s1.heap.objs.size + 2, s1.heap.objs.size + 3, s1.heap.objs.size, s1.heap.objs.size + 1], _, _, H1, rfl, J, turn_zipM (zip_sep2 (fp1 := [a]) (fp2 := [b]) (fun c hc => by rw [List.mem_singleton.mp hc]; exact la) fun c hc => by rw [List.mem_singleton.mp hc]; exact lb) (Nat.ne_of_lt la) (Nat.ne_of_lt (Nat.lt_succ_of_lt lb)), ⟨hz, hTI, ⟨_, _, hTO⟩, ⟨_, g1, rfl, rfl⟩, ⟨_, g2, rfl, rfl⟩⟩, fun c hm => ?_, q⟩
  have le : s1.heap.objs.size ≤ c := by
    simp only [List.mem_cons, List.not_mem_nil, or_false] at hm
    rcases hm with rfl | rfl | rfl | rfl | rfl <;> first | exact Nat.le_add_right _ _ | exact Nat.le_refl _
  exact I1.fpOk le (I1.hok.fresh le)
/-! ### .. as what a loop walks -/
section
variable {S : Sx} {m0 : Mm} {H0 : Hp} {a b : Addr} {it it2 : Itm}
/-- a new pair -/
theorem pair_made {S0 : Sx} {F' : Addr → Prop} {m : Mm} {h : MHp} {H : Hp} {T : Addr} {x y : V} {d e : MV} (R : Rl (S0.wF F') m h H) (hT : H T = none) (hx : VR (S0.wF F') m H x d) (hy : VR (S0.wF F') m H y e) : Stp S0 m H m (upd H T (.tup [x, y])) ∧ Rl (S0.wF F') m h (upd H T (.tup [x, y])) ∧ VR (S0.wF F') m (upd H T (.tup [x, y])) (.ref T) (.tup [d, e]) :=
  ⟨.made hT, R.made hT, .tup upd_same (.cons (hx.step (.made hT)) (.cons (hy.step (.made hT)) .nil))⟩
theorem itr_enum {bb : Bool} (hs : Src S m0 H0 bb a it) : ItR S m0 H0 (if bb = true then Ite S.K a else ItnT S.K a) (.enum it) := fun F' m h H i hF st R => by
  show match (it.at h i).map fun o => o.map fun d => MV.tup [.int i, d] with
    | some (some d) => _
    | some none => _
    | none => True
  cases e : it.at h i with
  | none => exact True.intro
  | some o =>
    obtain ⟨vs, hv, h1, h2⟩ := src_now hs hF st R e
    cases o with
    | none =>
      have h3 := h2 rfl
      rcases hv with ⟨rfl, hv⟩ | ⟨rfl, hv⟩
      · exact ⟨vs, hv, Nat.le_of_eq h3⟩
      · exact ⟨vs, hv, h3⟩
    | some d =>
      obtain ⟨v, e1, e2⟩ := h1 d rfl
      rcases hv with ⟨rfl, hv⟩ | ⟨rfl, hv⟩
      · refine ⟨⟨vs, v, hv, e1⟩, fun x H' y => ?_⟩
        obtain ⟨T, z, rfl, hT, rfl, hz⟩ := y
        have e3 := hz vs hv
        rw [e1] at e3
        cases e3
        exact pair_made R hT (.int _) e2
      · refine ⟨⟨vs, v, hv, e1⟩, fun x H' y => ?_⟩
        obtain ⟨T, z, rfl, hT, rfl, hz⟩ := y
        have e3 := hz vs hv
        rw [e1] at e3
        cases e3
        exact pair_made R hT (.int _) e2
def itZ (K : Fg) (a b : Addr) : Bool → Bool → It
  | true, true => Itz K a b
  | false, false => RZ.ItzT K a b
  | _, _ => ItzM K a b
theorem itr_zip {b1 b2 : Bool} (hk : ¬ (b1 = true ∧ b2 = false)) (hs : Src S m0 H0 b1 a it) (hs2 : Src S m0 H0 b2 b it2) : ItR S m0 H0 (itZ S.K a b b1 b2) (.zip it it2) := fun F' m h H i hF st R => by
  show match (match it.at h i, it2.at h i with
    | some (some x), some (some y) => some (some (MV.tup [x, y]))
    | some none, some none => some none
    | _, _ => none) with
    | some (some d) => _
    | some none => _
    | none => True
  cases e : it.at h i with
  | none => exact True.intro
  | some o =>
    cases e2 : it2.at h i with
    | none => cases o <;> exact True.intro
    | some o2 =>
      obtain ⟨vs, hv, h1, h2⟩ := src_now hs hF st R e
      obtain ⟨us, hu, k1, k2⟩ := src_now hs2 hF st R e2
      cases o with
      | none =>
        cases o2 with
        | some _ => exact True.intro
        | none =>
          have h3 := h2 rfl
          have k3 := k2 rfl
          rcases hv with ⟨rfl, hv⟩ | ⟨rfl, hv⟩
          · rcases hu with ⟨rfl, hu⟩ | ⟨rfl, hu⟩
            · exact ⟨vs, us, hv, hu, .inl (Nat.le_of_eq h3)⟩
            · exact absurd ⟨rfl, rfl⟩ hk
          · rcases hu with ⟨rfl, hu⟩ | ⟨rfl, hu⟩
            · exact ⟨vs, us, hv, hu, h3, k3⟩
            · exact ⟨vs, us, hv, hu, .inl (Nat.le_of_eq h3)⟩
      | some d =>
        cases o2 with
        | none => exact True.intro
        | some d2 =>
          obtain ⟨v, e3, e4⟩ := h1 d rfl
          obtain ⟨u, f3, f4⟩ := k1 d2 rfl
          rcases hv with ⟨rfl, hv⟩ | ⟨rfl, hv⟩
          · rcases hu with ⟨rfl, hu⟩ | ⟨rfl, hu⟩
            · refine ⟨⟨vs, us, v, u, hv, hu, e3, f3⟩, fun x H' y => ?_⟩
              obtain ⟨T, z, z2, rfl, hT, rfl, hz, hz2⟩ := y
              have e5 := hz vs hv
              have f5 := hz2 us hu
              rw [e3] at e5
              rw [f3] at f5
              cases e5
              cases f5
              exact pair_made R hT e4 f4
            · exact absurd ⟨rfl, rfl⟩ hk
          · rcases hu with ⟨rfl, hu⟩ | ⟨rfl, hu⟩
            · refine ⟨⟨vs, us, v, u, hv, hu, e3, f3⟩, fun x H' y => ?_⟩
              obtain ⟨T, z, z2, rfl, hT, rfl, hz, hz2⟩ := y
              have e5 := hz vs hv
              have f5 := hz2 us hu
              rw [e3] at e5
              rw [f3] at f5
              cases e5
              cases f5
              exact pair_made R hT e4 f4
            · refine ⟨⟨vs, us, v, u, hv, hu, e3, f3⟩, fun x H' y => ?_⟩
              obtain ⟨T, z, z2, rfl, hT, rfl, hz, hz2⟩ := y
              have e5 := hz vs hv
              have f5 := hz2 us hu
              rw [e3] at e5
              rw [f3] at f5
              cases e5
              cases f5
              exact pair_made R hT e4 f4
end
def iEnumM (f : Fe) : Fi := fun env h => (f env h).bind fun x h1 => match itOf h1 x with
  | some it => .ok (.enum it) h1
  | none => .no
def iZipM2 (f g : Fe) : Fi := fun env h => (f env h).bind fun x h1 => (g env h1).bind fun y h2 => match itOf h2 x, itOf h2 y with
  | some i1, some i2 => if tupK x = false ∧ tupK y = true then .no else .ok (.zip i1 i2) h2
  | _, _ => .no
section
variable {C : Cs} {e a b : Expr} {fa fb : Fe} {pos p tpos : Pos} {elts : List Expr} {kk : Nat}
theorem si_enum (ha : SE C e fa) (hg : ∀ j, Gl (C.X j) "enumerate") (hm : NoG C "enumerate") (hs : NS e) : SI C (.Tuple elts kk tpos) (.Call (.Name "enumerate" p) [e] [] pos) (iEnumM fa) := fun F m h env H σ R E Q q => by
  have key : ∀ R' : List V → Hp → Prop, (∀ a H1, (tupO (fa env h) = false → (∃ vs, SqL C.K H1 a vs) ∧ Q (Ite C.K a) H1) → (tupO (fa env h) = true → (∃ vs, SqT C.K H1 a vs) ∧ Q (ItnT C.K a) H1) → R' [.ref a] H1) → tCons (eAny C e) tNil σ H R' := fun R' hR =>
    ha F m h env H σ R E _ (q.bind fun rx h1 m1 x H1 e1 s1 R1 r1 p1 => by
      cases w : itOf h1 rx with
      | none => rw [w] at p1; exact p1.elim
      | some it =>
        rw [w] at p1
        obtain ⟨a, rfl, hs, hv⟩ := src_of R1 r1 w
        have hJ := p1 m1 (if (!tupK rx) = true then Ite C.K a else ItnT C.K a) H1 .refl R1 (itr_enum hs)
        rw [e1] at hR
        refine hR a H1 (fun z => ?_) fun z => ?_
        · have z : tupK rx = false := z
          rw [z] at hJ
          rcases hv with ⟨_, hv⟩ | ⟨w, _⟩
          · exact ⟨hv, hJ⟩
          · rw [z] at w; cases w
        · have z : tupK rx = true := z
          rw [z] at hJ
          rcases hv with ⟨w, _⟩ | ⟨_, hv⟩
          · rw [z] at w; cases w
          · exact ⟨hv, hJ⟩)
  cases hb : tupO (fa env h) with
  | false => exact ⟨iEnum C.K (tCons (eAny C e) tNil), fun j => kx (p := fun K => PI (C.X j) _ _ (iEnum K (tCons (eAny C e) tNil))) j (pi_enum (hg j) (noG hm j) (pa_cons (pe_any C e j) pa_nil (hs _ _)) (hs _ _)), key _ fun a H1 h1 _ => by
      obtain ⟨⟨vs, hv⟩, hq⟩ := h1 hb
      exact ⟨a, vs, rfl, hv, hq⟩⟩
  | true => exact ⟨iEnT C.K (tCons (eAny C e) tNil), fun j => kx (p := fun K => PI (C.X j) _ _ (iEnT K (tCons (eAny C e) tNil))) j (pi_enT (hg j) (noG hm j) (pa_cons (pe_any C e j) pa_nil (hs _ _)) (hs _ _)), key _ fun a H1 _ h1 => by
      obtain ⟨⟨vs, hv⟩, hq⟩ := h1 hb
      exact ⟨a, vs, rfl, hv, hq⟩⟩
/-- what the two are: lists, tuples, a tuple and a list -/
def zipO (fa fb : Fe) (env : Ev) (h : MHp) : Bool × Bool := match fa env h with
  | .ok x h1 => match fb env h1 with
    | .ok y _ => (tupK x, tupK y)
    | _ => (false, false)
  | _ => (false, false)
theorem si_zip (ha : SE C a fa) (hb : SE C b fb) (hg : ∀ j, Gl (C.X j) "zip") (hm : NoG C "zip") (hs : NS a) (hs2 : NS b) : SI C (.Tuple elts kk tpos) (.Call (.Name "zip" p) [a, b] [] pos) (iZipM2 fa fb) := fun F m h env H σ R E Q q => by
  have key : ∀ R' : List V → Hp → Prop, (∀ a b H1, (zipO fa fb env h = (false, false) → (∃ vs, SqL C.K H1 a vs) ∧ (∃ vs, SqL C.K H1 b vs) ∧ Q (Itz C.K a b) H1) → (zipO fa fb env h = (true, true) → (∃ vs, SqT C.K H1 a vs) ∧ (∃ vs, SqT C.K H1 b vs) ∧ Q (RZ.ItzT C.K a b) H1) →
      (zipO fa fb env h = (true, false) → (∃ vs, SqT C.K H1 a vs) ∧ (∃ vs, SqL C.K H1 b vs) ∧ Q (ItzM C.K a b) H1) → zipO fa fb env h ≠ (false, true) → R' [.ref a, .ref b] H1) → tCons (eAny C a) (tCons (eAny C b) tNil) σ H R' := fun R' hR =>
    ha F m h env H σ R E _ (q.bind fun rx h1 m1 x H1 e1 s1 R1 r1 p1 => hb F m1 h1 env H1 σ R1 (E.step s1) _ (p1.bind fun ry h2 m2 y H2 e2 s2 R2 r2 p2 => by
      have r1' : RR (C.S F) H m2 H2 x rx := kE.step s2 r1
      cases w : itOf h2 rx with
      | none => rw [w] at p2; exact p2.elim
      | some it =>
        cases w2 : itOf h2 ry with
        | none => rw [w, w2] at p2; exact p2.elim
        | some it2 =>
          rw [w, w2] at p2
          simp only at p2
          split at p2
          · exact p2.elim
          · rename_i hk
            obtain ⟨a', rfl, hs, hv⟩ := src_of R2 r1' w
            obtain ⟨b', rfl, hs2, hu⟩ := src_of R2 r2 w2
            have hz : zipO fa fb env h = (tupK rx, tupK ry) := by
              unfold zipO
              rw [e1]
              simp only
              rw [e2]
            have hJ := p2 m2 (itZ C.K a' b' (!tupK rx) (!tupK ry)) H2 .refl R2 (itr_zip (fun z => hk ⟨by simpa using z.1, by simpa using z.2⟩) hs hs2)
            rw [hz] at hR
            refine hR a' b' H2 (fun z => ?_) (fun z => ?_) (fun z => ?_) fun z => ?_
            · obtain ⟨z1, z2⟩ := Prod.mk.inj z
              rw [z1, z2] at hJ
              rw [z1] at hv
              rw [z2] at hu
              exact ⟨hv.elim (·.2) (fun z => nomatch z.1), hu.elim (·.2) (fun z => nomatch z.1), hJ⟩
            · obtain ⟨z1, z2⟩ := Prod.mk.inj z
              rw [z1, z2] at hJ
              rw [z1] at hv
              rw [z2] at hu
              exact ⟨hv.elim (fun z => nomatch z.1) (·.2), hu.elim (fun z => nomatch z.1) (·.2), hJ⟩
            · obtain ⟨z1, z2⟩ := Prod.mk.inj z
              rw [z1, z2] at hJ
              rw [z1] at hv
              rw [z2] at hu
              exact ⟨hv.elim (fun z => nomatch z.1) (·.2), hu.elim (·.2) (fun z => nomatch z.1), hJ⟩
            · obtain ⟨z1, z2⟩ := Prod.mk.inj z
              exact hk ⟨z1, z2⟩))
  have pa : ∀ j, PA (C.X j) [a, b] (tCons (eAny C a) (tCons (eAny C b) tNil)) := fun j => pa_cons (pe_any C a j) (pa_cons (pe_any C b j) pa_nil (hs2 _ _)) (hs _ _)
  have st1 : ∀ j, starEach [a, b] (C.X j).env = (false, eval a (C.X j).env) :: starEach [b] (C.X j).env := fun j => hs _ _
  have st2 : ∀ j, (backTo pos (starEach [b] (C.X j).env)).any (·.1) = false := fun j => ns_any (fun x h => by obtain rfl := List.mem_singleton.mp h; exact hs2) _ _
  cases hz : zipO fa fb env h with
  | mk k1 k2 =>
    cases k1 with
    | true =>
      cases k2 with
      | true => exact ⟨RZ.iZipA C.K (tCons (eAny C a) (tCons (eAny C b) tNil)), fun j => kx (p := fun K => PI (C.X j) _ _ (RZ.iZipA K (tCons (eAny C a) (tCons (eAny C b) tNil)))) j (RZ.pi_zipA (hg j) (noG hm j) (pa j) (st1 j) (st2 j)), key _ fun a' b' H1 _ h2 _ _ => by
          obtain ⟨⟨vs, hv⟩, ⟨us, hu⟩, hq⟩ := h2 hz
          exact ⟨a', b', vs, us, rfl, .inr ⟨hv, hu, hq⟩⟩⟩
      | false => exact ⟨iZipM C.K (tCons (eAny C a) (tCons (eAny C b) tNil)), fun j => kx (p := fun K => PI (C.X j) _ _ (iZipM K (tCons (eAny C a) (tCons (eAny C b) tNil)))) j (pi_zipM (hg j) (noG hm j) (pa j) (st1 j) (st2 j)), key _ fun a' b' H1 _ _ h2 _ => by
          obtain ⟨⟨vs, hv⟩, ⟨us, hu⟩, hq⟩ := h2 hz
          exact ⟨a', b', vs, us, rfl, hv, hu, hq⟩⟩
    | false => exact ⟨RZ.iZipA C.K (tCons (eAny C a) (tCons (eAny C b) tNil)), fun j => kx (p := fun K => PI (C.X j) _ _ (RZ.iZipA K (tCons (eAny C a) (tCons (eAny C b) tNil)))) j (RZ.pi_zipA (hg j) (noG hm j) (pa j) (st1 j) (st2 j)), key _ fun a' b' H1 h2 _ _ h4 => by
        cases k2 with
        | true => exact absurd hz h4
        | false =>
          obtain ⟨⟨vs, hv⟩, ⟨us, hu⟩, hq⟩ := h2 hz
          exact ⟨a', b', vs, us, rfl, .inl ⟨hv, hu, hq⟩⟩⟩
end
end Mp

/-! M9: comprehensions. -/
namespace Mp
open PySem PySem.Spec PyProof.Rows L2
def Cs.blk (C : Cs) [hc : Cold C] (scope : Scope) : Cs where
  ι := C.ι × Shared × Hp × Addr × List (Str × Addr) × List Addr
  X := fun q => (C.X q.1).blk q.2.1 q.2.2.1 scope (compEnvC scope q.2.2.2.2.1 q.2.2.2.1 (C.X q.1).env) q.2.2.2.2.2
  P := C.P
  w := C.w
  K := C.K
  mg := C.mg
  base := C.base
  N := C.N
  k := C.k
  hP := fun q => C.hP q.1
  hw := fun q => C.hw q.1
  hK := fun q => C.hK q.1
  hmg := fun q => C.hmg q.1
  hbase := fun q => C.hbase q.1
  hN := fun q => C.hN q.1
  nd := C.nd
  calm := fun q _ => C.calm q.1 hc.h
  cold := fun q _ => C.cold q.1 hc.h
  hotc := fun _ z => Bool.noConfusion z
  W := fun _ _ _ _ => False
  takes := fun _ => takesN
  T := C.T
  xd := C.xd
  owns := fun _ _ => PassesOwn.never
instance {C : Cs} {scope : Scope} [hc : Cold C] : Cold (C.blk scope) := ⟨rfl, hc.x⟩
/-- nothing is raised here -/
def noEx {α : Type} : Out α → Out α
  | .ok a h => .ok a h
  | _ => .no
def wipeE (env : Ev) : List Nat → Ev
  | [] => env
  | v :: vs => (wipeE env vs).set v none
theorem wipe_len (σ : L2.St) : ∀ vs : List Nat, (wipe σ vs).length = σ.length
  | [] => rfl
  | v :: vs => by unfold wipe; rw [List.length_set, wipe_len σ vs]
theorem wipe_in {σ : L2.St} {i : Nat} : ∀ {vs : List Nat}, i ∈ vs → i < σ.length → (wipe σ vs)[i]? = some none
  | [], h, _ => nomatch h
  | v :: vs, h, hl => by
    unfold wipe
    by_cases e : v = i
    · subst e; exact List.getElem?_set_self (by rw [wipe_len]; exact hl)
    · rw [List.getElem?_set_ne e]
      rcases List.mem_cons.mp h with z | z
      · exact absurd z.symm e
      · exact wipe_in z hl
theorem wipe_out {σ : L2.St} {i : Nat} : ∀ {vs : List Nat}, i ∉ vs → (wipe σ vs)[i]? = σ[i]?
  | [], _ => rfl
  | v :: vs, h => by
    unfold wipe
    have e : v ≠ i := fun z => h (by rw [← z]; exact List.mem_cons_self)
    rw [List.getElem?_set_ne e]
    exact wipe_out fun z => h (List.mem_cons_of_mem _ z)
/-- what stays when the block's own slots are forgotten -/
theorem off_wipe {σ σ' : L2.St} {ps vs : List Nat} (o : Off ps (wipe σ vs) σ') (hp : ∀ i ∈ ps, i ∈ vs) : wipe σ' vs = wipe σ vs := by
  have hl : σ'.length = σ.length := by rw [o.1, wipe_len]
  apply List.ext_getElem?
  intro i
  by_cases hi : i < σ.length
  · by_cases hv : i ∈ vs
    · rw [wipe_in hv (by rw [hl]; exact hi), wipe_in hv hi]
    · rw [wipe_out hv, o.2 i (fun z => hv (hp i z))]
  · rw [List.getElem?_eq_none (by rw [wipe_len]; omega), List.getElem?_eq_none (by rw [wipe_len]; omega)]
theorem EnvR.wipe {S : Sx} {m : Mm} {H : Hp} {σ : L2.St} {env : Ev} (e : EnvR S m H σ env) : ∀ vs : List Nat, EnvR S m H (L2.wipe σ vs) (wipeE env vs)
  | [] => e
  | v :: vs => EnvR.none (EnvR.wipe e vs) v Option.none
/-- one after another, the list that is made handed on -/
def lcLoop (it : Itm) (p : Pat) (vs : List Nat) (step : Ev → MHp → List MV → Out (List MV)) : Nat → Nat → Ev → MHp → List MV → Out (List MV)
  | 0, _, _, _, _ => .no
  | n + 1, i, env, h, acc => match it.at h i with
    | some none => .ok acc h
    | some (some d) => match asg p d (wipeE env vs) with
      | some env1 => (step env1 h acc).bind fun acc1 h1 => lcLoop it p vs step n (i + 1) env h1 acc1
      | none => .no
    | none => .no
/-- the tests, then the element put behind -/
def lcPut (gt : Ft) (fe : Fe) : Ev → MHp → List MV → Out (List MV) := fun env h acc => (gt env h).bind fun k h1 => if k = true then (fe env h1).bind fun r h2 => if acc.length < 1000000 then .ok (acc ++ [r.toV]) h2 else .no else .ok acc h1
/-- the tests, then the inner loop -/
def lcIn (gt : Ft) (fi : Fi) (p1 : Pat) (vs1 : List Nat) (step : Ev → MHp → List MV → Out (List MV)) : Ev → MHp → List MV → Out (List MV) := fun env h acc => (gt env h).bind fun k h1 => if k = true then (fi env h1).bind fun it h2 => lcLoop it p1 vs1 step (it.fuel h2) 0 env h2 acc else .ok acc h1
def eLc (fi : Fi) (p : Pat) (vs : List Nat) (step : Ev → MHp → List MV → Out (List MV)) : Fe := fun env h => (fi env h).bind fun it h1 => (noEx (lcLoop it p vs step (it.fuel h1) 0 env h1 [])).bind fun ds h2 => .ok (.nl ds) h2
theorem Stp.putD {S : Sx} {m0 m : Mm} {H0 H : Hp} {D : Addr} {ws vs : List V} (s : Stp S m0 H0 m H) (hD : H0 D = none) (e : H D = some (.lst ws)) : Stp S m0 H0 m (upd H D (.lst vs)) := by
  have t : Stw S.K (fun a => a = D) m H m (upd H D (.lst vs)) := Stw.put rfl e
  refine ⟨s.len, s.old, s.new, fun a o h k => ?_, fun a h => t.pr a (s.pr a h), fun a o h i => t.im a o (s.im a o h i) i⟩
  exact (s.fr a o h k).trans fun u hu => t.fr a u hu (s.keepNot (by rw [h]; simp) k) fun z => by
    rw [z, hD] at h; cases h
/-- back to the lists that were made before -/
theorem rl_less {C : Cs} {F : Addr → Prop} {D : Addr} {m : Mm} {h : MHp} {H : Hp} (r : Rl (C.S (andD F D)) m h H) : Rl (C.S F) m h H := Rl.less (S := C.S F) (F := andD F D) r fun _ fa => .inl fa
theorem vrs_less {C : Cs} {F : Addr → Prop} {D : Addr} {m : Mm} {H : Hp} {vs : List V} {ds : List MV} (r : VRs (C.S (andD F D)) m H vs ds) : VRs (C.S F) m H vs ds := VRs.less (S := C.S F) (F := andD F D) (fun _ fa => .inl fa) r
theorem env_more {C : Cs} {F : Addr → Prop} {D : Addr} {m m2 : Mm} {H H2 : Hp} {σ : L2.St} {env : Ev} (e : EnvR (C.S F) m H σ env) (hD : ∀ a, andD F D a → F a ∨ H a = none) (s : Stw C.K (andD F D) m H m2 H2) : EnvR (C.S (andD F D)) m2 H2 σ env := ⟨e.1, fun i d h => by
  obtain ⟨v, h1, h2⟩ := e.2 i d h
  exact ⟨v, h1, VR.stw (S := C.S (andD F D)) s (VR.more (S := C.S F) hD h2)⟩⟩
/-- the list that is made stands at D -/
structure Mkd (C : Cs) (F : Addr → Prop) (D : Addr) (m0 : Mm) (H0 : Hp) (m : Mm) (h : MHp) (H : Hp) (acc : List MV) : Prop where
  st : Stp (C.S F) m0 H0 m H
  rl : Rl (C.S (andD F D)) m h H
  at' : ∃ vs, H D = some (.lst vs) ∧ VRs (C.S (andD F D)) m H vs acc
section
variable {C : Cs} {F : Addr → Prop} {D : Addr} {m0 m m1 mi : Mm} {h h1 : MHp} {H0 H H1 Hi : Hp} {acc : List MV}
theorem Mkd.step (M : Mkd C F D m0 H0 m h H acc) (s : Stp (C.S (andD F D)) m H m1 H1) (r : Rl (C.S (andD F D)) m1 h1 H1) : Mkd C F D m0 H0 m1 h1 H1 acc := by
  obtain ⟨vs, e, hv⟩ := M.at'
  exact ⟨M.st.trans (Stp.wF (F := F) s), r, vs, s.fr _ _ e (M.rl.fo D (.inr rfl)).2, hv.step s⟩
theorem Mkd.put {vs : List V} {y : V} {d : MV} (M : Mkd C F D m0 H0 m h H acc) (hD : H0 D = none) (e : H D = some (.lst vs)) (hv : VRs (C.S (andD F D)) m H vs acc) (hy : VR (C.S (andD F D)) m H y d) : Mkd C F D m0 H0 m h (upd H D (.lst (vs ++ [y]))) (acc ++ [d]) :=
  ⟨M.st.putD hD e, M.rl.putL (Or.inr rfl : andD F D D) e, _, upd_same, (hv.append (.cons hy .nil)).putL (Or.inr rfl : andD F D D) e⟩
/-- a loop within a comprehension -/
theorem lc_loop {P : Out (List MV) → Prop} {Fin : Hp → Prop} {J : It} {it : Itm} {p : Pat} {vs : List Nat} {step : Ev → MHp → List MV → Out (List MV)} {env : Ev} {B : V → Hp → (Hp → Prop) → Prop} {Fi : Addr → Prop} (hD : H0 D = none)
    (hno : ¬ P .no) (hex : ∀ c fs h, ¬ P (.ex c fs h)) (hfin : ∀ acc h m H, P (.ok acc h) → Mkd C F D m0 H0 m h H acc → Stw C.K (andD F D) mi Hi m H → Fin H) (hIt : ItR (C.S Fi) mi Hi J it) (hFi : ∀ a, andD F D a → Fi a ∨ Hi a = none)
    (hB : ∀ m h H x d env1 acc (Nx : Hp → Prop), Mkd C F D m0 H0 m h H acc → Stw C.K (andD F D) mi Hi m H → VR (C.S (andD F D)) m H x d → asg p d (wipeE env vs) = some env1 → (∀ acc' h' m' H', step env1 h acc = .ok acc' h' → Mkd C F D m0 H0 m' h' H' acc' → Stw C.K (andD F D) mi Hi m' H' → Nx H') → (∃ acc' h', step env1 h acc = .ok acc' h') → B x H Nx) :
    ∀ n m h H acc, Mkd C F D m0 H0 m h H acc → Stw C.K (andD F D) mi Hi m H → P (lcLoop it p vs step n 0 env h acc) →
    ∃ W : Nat → Nat → Hp → Prop, (∃ k, W 0 k H) ∧ ∀ i k H, W i k H → (J.stop i H ∧ Fin H) ∨ (J.go i H ∧ ∃ Nx : Hp → Prop, (∀ H', Nx H' → ∃ k', k' < k ∧ W (i + 1) k' H') ∧ ∀ x H', J.yld i H x H' → B x H' Nx) := by
  intro n m h H acc M s hP
  refine ⟨fun i k H => ∃ m h acc, Mkd C F D m0 H0 m h H acc ∧ Stw C.K (andD F D) mi Hi m H ∧ P (lcLoop it p vs step k i env h acc), ⟨n, m, h, acc, M, s, hP⟩, ?_⟩
  rintro i k H ⟨m, h, acc, M, s, hP⟩
  cases k with
  | zero => exact absurd hP hno
  | succ k =>
    unfold lcLoop at hP
    have q := hIt (andD F D) m h H i hFi s M.rl
    cases e : it.at h i with
    | none => rw [e] at hP; exact absurd hP hno
    | some o =>
      rw [e] at hP q
      cases o with
      | none => exact .inl ⟨q, hfin acc h m H hP M s⟩
      | some d =>
        simp only at hP q
        cases e2 : asg p d (wipeE env vs) with
        | none => rw [e2] at hP; exact absurd hP hno
        | some env1 =>
          rw [e2] at hP
          simp only at hP
          cases e3 : step env1 h acc with
          | no => rw [e3] at hP; exact absurd hP hno
          | ex c fs h' => rw [e3] at hP; exact absurd hP (hex _ _ _)
          | ok acc' h' =>
            rw [e3] at hP
            refine .inr ⟨q.1, fun H' => ∃ m h acc, Mkd C F D m0 H0 m h H' acc ∧ Stw C.K (andD F D) mi Hi m H' ∧ P (lcLoop it p vs step k (i + 1) env h acc), fun H' w => ⟨k, Nat.lt_succ_self _, w⟩, fun x H' y => ?_⟩
            obtain ⟨s1, r1, v1⟩ := q.2 x H' y
            refine hB m h H' x d env1 acc _ (M.step s1.wF r1) (s.trans s1.w) v1 e2 (fun acc2 h2 m2 H2 e4 M2 s2 => ?_) ⟨acc', h', e3⟩
            rw [e3] at e4
            cases e4
            exact ⟨m2, h', acc', M2, s2, hP⟩
end
/-! ### the tests of a comprehension -/
def ifAny (C : Cs) (ifs : List Expr) : TT := fun σ H Q => ∃ t : TT, (∀ i, PTs (C.X i) ifs t) ∧ t σ H Q
theorem pif_any (C : Cs) (ifs : List Expr) (i : C.ι) : PTs (C.X i) ifs (ifAny C ifs) := ⟨fun pins s σ H Q I h => by
  obtain ⟨t, ht, q⟩ := h
  exact (ht i).run pins s σ H Q I q⟩
def SIf (C : Cs) (ifs : List Expr) (g : Ft) : Prop := ∀ F m h env H σ, Rl (C.S F) m h H → EnvR (C.S F) m H σ env → ∀ Q : Bool → Hp → Prop, Post C F m H σ kT (g env h) Q → ifAny C ifs σ H Q
def tYesM : Ft := fun _ h => .ok true h
section
variable {C : Cs} {e elt tg iter tg1 iter1 : Expr} {ifs ifs1 : List Expr} {scope : Scope} {own : List (Str × Nat)} {pos : Pos} {fe : Fe} {g g1 : Ft} {fi fi1 : Fi} {p p1 : Pat} {vs1 : List Nat}
theorem sif_nil : SIf C [] tYesM := fun F m h env H σ R E Q p => ⟨tYes, fun _ => pts_nil, p m true H .refl R rfl⟩
theorem sif_one (h : ST C e g) : SIf C [e] g := fun F m hh env H σ R E Q p => ⟨tAny C e, fun j => pts_one (pt_any C e j), h F m hh env H σ R E Q p⟩
/-- where nothing is raised -/
theorem post_ok {β α : Type} {C' : Cs} {F : Addr → Prop} {m : Mm} {H : Hp} {σ : L2.St} {k : Kd β α} {o : Out α} {Q : β → Hp → Prop} (hok : ∃ a h', o = .ok a h') (hq : ∀ a h' m' x H', o = .ok a h' → Stp (C'.S F) m H m' H' → Rl (C'.S F) m' h' H' → k.rel (C'.S F) H m' H' x a → Q x H') : Post C' F m H σ k o Q := by
  obtain ⟨a, h', e⟩ := hok
  subst e
  exact fun m' x H' s r rel => hq a h' m' x H' rfl s (k.rlOf r) rel
theorem bind_ok {α β : Type} {o : Out α} {f : α → MHp → Out β} (h : ∃ b h', o.bind f = .ok b h') : ∃ a h1, o = .ok a h1 ∧ ∃ b h', f a h1 = .ok b h' := by
  obtain ⟨b, h', e⟩ := h
  cases o with
  | ok a h1 => exact ⟨a, h1, rfl, b, h', e⟩
  | ex c fs h1 => cases e
  | no => cases e
theorem size_ok {n : Nat} (h : n < 1000000) : n < sizeLine := Nat.lt_of_lt_of_le h (by decide)
/-- the tests, the element, put behind -/
theorem put_ok [hc : Cold C] (hg : SIf (C.blk scope) ifs g) (he : SE (C.blk scope) elt fe) {F : Addr → Prop} {D : Addr} {m0 m : Mm} {H0 H : Hp} {h : MHp} {acc : List MV} {σ : L2.St} {env : Ev} {Nx : Hp → Prop} (hD : H0 D = none) (M : Mkd C F D m0 H0 m h H acc) (E : EnvR (C.S (andD F D)) m H σ env)
    (hN : ∀ acc' h' m' H', lcPut g fe env h acc = .ok acc' h' → Mkd C F D m0 H0 m' h' H' acc' → (∀ G mi Hi, Stw C.K G mi Hi m H → G D → Stw C.K G mi Hi m' H') → Nx H') (hok : ∃ acc' h', lcPut g fe env h acc = .ok acc' h') :
    ifAny (C.blk scope) ifs σ H fun b H3 => if b = true then eAny (C.blk scope) elt σ H3 fun y H4 => ∃ l, H4 D = some (.lst l) ∧ l.length < sizeLine ∧ Nx (upd H4 D (.lst (l ++ [y]))) else Nx H3 := by
  obtain ⟨k, h1, e1, hok1⟩ := bind_ok hok
  refine hg (andD F D) m h env H σ M.rl E _ (post_ok ⟨k, h1, e1⟩ fun k' h1' m1 b H1 e1' s1 R1 r1 => ?_)
  rw [e1] at e1'
  cases e1'
  cases r1
  have M1 := M.step s1 R1
  cases k with
  | false =>
    rw [if_neg Bool.false_ne_true] at hok1 ⊢
    exact hN acc h1 m1 H1 (by unfold lcPut; rw [e1]; rfl) M1 fun G mi Hi t hG => t.trans s1.w
  | true =>
    rw [if_pos rfl] at hok1 ⊢
    obtain ⟨r, h2, e2, hok2⟩ := bind_ok hok1
    refine he (andD F D) m1 h1 env H1 σ R1 (E.step s1) _ (post_ok ⟨r, h2, e2⟩ fun r' h2' m2 y H2 e2' s2 R2 r2 => ?_)
    rw [e2] at e2'
    cases e2'
    have M2 := M1.step s2 R2
    obtain ⟨l, e4, hv⟩ := M2.at'
    by_cases hl : acc.length < 1000000
    · refine ⟨l, e4, by rw [hv.length]; exact size_ok hl, ?_⟩
      have r3 : VR (C.S (andD F D)) m2 H2 y r.toV := RR.toV r2
      refine hN _ h2 m2 _ ?_ (M2.put hD e4 hv r3) fun G mi Hi t hG => ((t.trans s1.w).trans s2.w).trans (Stw.put hG e4)
      unfold lcPut
      rw [e1]
      simp only [Out.bind, if_true]
      rw [e2]
      simp only
      rw [if_pos hl]
    · rw [if_neg hl] at hok2
      obtain ⟨_, _, z⟩ := hok2
      cases z
/-- what a block wants of its text -/
structure BlkS (C : Cs) [Cold C] (scope : Scope) (own : List (Str × Nat)) : Prop where
  b : ∀ i, BlkOk C.N (C.X i).env.scope scope own
theorem re_lc1 [hc : Cold C] (B : BlkS C scope own) (hi : SI C tg iter fi) (hp : SG (C.blk scope) tg p) (hpi : ∀ i ∈ p.ix, i ∈ own.map (·.2)) (hg : SIf (C.blk scope) ifs g) (he : SE (C.blk scope) elt fe) :
    RE C (tLc (iAny C tg iter) (gAny (C.blk scope) tg) (ifAny (C.blk scope) ifs) (eAny (C.blk scope) elt) (own.map (·.2))) (eLc fi p (own.map (·.2)) (lcPut g fe)) :=
    fun F m h env H σ R E Q q => hi F m h env H σ R E _ (q.bind0 fun it h1 m1 J H1 e1 s1 R1 r1 p1 D hD => by
      have hD0 : H D = none := fresh_back s1 hD
      have nF : ¬ F D := fun z => (R1.fo D z).1 hD
      have hF : ∀ a, andD F D a → F a ∨ H1 a = none := fun a fa => fa.imp id fun z => by rw [z]; exact hD
      have M0 : Mkd C F D m1 H1 m1 h1 (upd H1 D (.lst [])) [] := ⟨.made hD, R1.begin hD, [], upd_same, .nil⟩
      refine lc_loop (C := C) (F := F) (Fi := F) (D := D) (m0 := m1) (H0 := H1) (mi := m1) (Hi := H1) (P := fun o => Post C F m H σ kE ((noEx o).bind fun ds h2 => .ok (.nl ds) h2) Q) hD (fun z => z) (fun _ _ _ z => z) (fun acc h2 m2 H2 hP M2 s2 => ?_) r1 hF (fun m2 h2 H2 x d env1 acc Nx M2 s2 hv ha hN hok => ?_) _ m1 h1 _ [] M0 (Stp.made (S := C.S F) hD).w p1
      · obtain ⟨vs, e4, hv⟩ := M2.at'
        exact hP m2 (.ref D) H2 (s1.trans M2.st) ⟨D, rfl, M2.rl⟩ (.nl hD0 (M2.rl.fo D (Or.inr rfl)).2 nF e4 hv)
      · have E2 : EnvR (C.S (andD F D)) m2 H2 σ env := env_more (E.step s1) hF s2
        refine hp (andD F D) m2 H2 _ _ x d env1 (EnvR.wipe E2 (own.map (·.2))) hv ha _ fun σ2 E3 of => ?_
        refine ⟨off_wipe of hpi, ?_⟩
        exact put_ok hg he hD M2 E3 (fun acc' h' m' H' e5 M3 hs3 => hN acc' h' m' H' e5 M3 (hs3 _ _ _ s2 (Or.inr rfl))) hok)
theorem se_lc1 [hc : Cold C] (B : BlkS C scope own) (hi : SI C tg iter fi) (hp : SG (C.blk scope) tg p) (hpi : ∀ i ∈ p.ix, i ∈ own.map (·.2)) (hg : SIf (C.blk scope) ifs g) (he : SE (C.blk scope) elt fe) (hs : ∀ env x, foldedSetIterable iter env x = pure x) :
    SE C (.ListComp elt [⟨tg, iter, ifs, 0⟩] scope pos) (eLc fi p (own.map (·.2)) (lcPut g fe)) :=
  se_of (fun j => pe_lc (own := own) (C.calm j hc.h) (by rw [C.hN]; exact C.nd) (pi_any C tg iter j) (by rw [C.hN]; exact B.b j) (fun s H Cc cl fp => pg_any (C.blk scope) tg (j, s, H, Cc, cl, fp)) (fun s H Cc cl fp => pif_any (C.blk scope) ifs (j, s, H, Cc, cl, fp)) (fun s H Cc cl fp => pe_any (C.blk scope) elt (j, s, H, Cc, cl, fp)) (hs _))
    (re_lc1 B hi hp hpi hg he)
/-- two loops, one within the other -/
theorem re_lc2 [hc : Cold C] (B : BlkS C scope own) (hv1 : ∀ i ∈ vs1, i ∈ own.map (·.2)) (hi : SI C tg iter fi) (hp : SG (C.blk scope) tg p) (hpi : ∀ i ∈ p.ix, i ∈ own.map (·.2)) (hg : SIf (C.blk scope) ifs g) (hi1 : SI (C.blk scope) tg1 iter1 fi1) (hp1 : SG (C.blk scope) tg1 p1) (hpi1 : ∀ i ∈ p1.ix, i ∈ vs1) (hg1 : SIf (C.blk scope) ifs1 g1)
    (he : SE (C.blk scope) elt fe) :
    RE C (tLc2 (iAny C tg iter) (gAny (C.blk scope) tg) (ifAny (C.blk scope) ifs) (iAny (C.blk scope) tg1 iter1) (gAny (C.blk scope) tg1) (ifAny (C.blk scope) ifs1) (eAny (C.blk scope) elt) (own.map (·.2)) vs1) (eLc fi p (own.map (·.2)) (lcIn g fi1 p1 vs1 (lcPut g1 fe))) :=
    fun F m h env H σ R E Q q => hi F m h env H σ R E _ (q.bind0 fun it h1 m1 J H1 e1 s1 R1 r1 p1' D hD => by
      have hD0 : H D = none := fresh_back s1 hD
      have nF : ¬ F D := fun z => (R1.fo D z).1 hD
      have hF : ∀ a, andD F D a → F a ∨ H1 a = none := fun a fa => fa.imp id fun z => by rw [z]; exact hD
      have M0 : Mkd C F D m1 H1 m1 h1 (upd H1 D (.lst [])) [] := ⟨.made hD, R1.begin hD, [], upd_same, .nil⟩
      refine lc_loop (C := C) (F := F) (Fi := F) (D := D) (m0 := m1) (H0 := H1) (mi := m1) (Hi := H1) (P := fun o => Post C F m H σ kE ((noEx o).bind fun ds h2 => .ok (.nl ds) h2) Q) hD (fun z => z) (fun _ _ _ z => z) (fun acc h2 m2 H2 hP M2 s2 => ?_) r1 hF (fun m2 h2 H2 x d env1 acc Nx M2 s2 hv ha hN hok => ?_) _ m1 h1 _ [] M0 (Stp.made (S := C.S F) hD).w p1'
      · obtain ⟨vs, e4, hv⟩ := M2.at'
        exact hP m2 (.ref D) H2 (s1.trans M2.st) ⟨D, rfl, M2.rl⟩ (.nl hD0 (M2.rl.fo D (Or.inr rfl)).2 nF e4 hv)
      · have E2 : EnvR (C.S (andD F D)) m2 H2 σ env := env_more (E.step s1) hF s2
        refine hp (andD F D) m2 H2 _ _ x d env1 (EnvR.wipe E2 (own.map (·.2))) hv ha _ fun σ2 E3 of => ?_
        refine ⟨off_wipe of hpi, ?_⟩
        obtain ⟨k, h3, e3, hok3⟩ := bind_ok hok
        refine hg (andD F D) m2 h2 env1 H2 σ2 M2.rl E3 _ (post_ok ⟨k, h3, e3⟩ fun k' h3' m3 b H3 e3' s3 R3 r3 => ?_)
        rw [e3] at e3'
        cases e3'
        cases r3
        have M3 := M2.step s3 R3
        cases k with
        | false =>
          rw [if_neg Bool.false_ne_true] at hok3 ⊢
          exact hN acc h3 m3 H3 (by unfold lcIn; rw [e3]; rfl) M3 (s2.trans s3.w)
        | true =>
          rw [if_pos rfl] at hok3 ⊢
          obtain ⟨it1, h4, e4, hok4⟩ := bind_ok hok3
          refine hi1 (andD F D) m3 h3 env1 H3 σ2 R3 (E3.step s3) _ (post_ok ⟨it1, h4, e4⟩ fun it1' h4' m4 J1 H4 e4' s4 R4 r4 => ?_)
          rw [e4] at e4'
          cases e4'
          have M4 := M3.step s4 R4
          have eqs : lcIn g fi1 p1 vs1 (lcPut g1 fe) env1 h2 acc = lcLoop it1 p1 vs1 (lcPut g1 fe) (it1.fuel h4) 0 env1 h4 acc := by
            unfold lcIn
            rw [e3]
            simp only [Out.bind, if_true]
            rw [e4]
          have r4' : ItR (C.S (andD F D)) m4 H4 J1 it1 := r4
          refine lc_loop (C := C) (F := F) (Fi := andD F D) (D := D) (m0 := m1) (H0 := H1) (mi := m4) (Hi := H4) (p := p1) (vs := vs1) (step := lcPut g1 fe) (env := env1) (P := fun o => ∃ acc' h', o = .ok acc' h' ∧ lcIn g fi1 p1 vs1 (lcPut g1 fe) env1 h2 acc = .ok acc' h') hD (fun z => by obtain ⟨_, _, z, _⟩ := z; cases z) (fun _ _ _ z => by obtain ⟨_, _, z, _⟩ := z; cases z) (fun acc5 h5 m5 H5 hP M5 s5 => ?_) r4' (fun a fa => .inl fa) (fun m5 h5 H5 x1 d1 env2 acc5 Nx1 M5 s5 hv5 ha5 hN5 hok5 => ?_) (it1.fuel h4) m4 h4 H4 acc M4 (Stp.w (S := C.S F) Stp.refl) ?_
          · obtain ⟨acc6, h6, e6, e7⟩ := hP
            cases e6
            exact hN acc5 h5 m5 H5 e7 M5 (((s2.trans s3.w).trans s4.w).trans s5)
          · have E5 : EnvR (C.S (andD F D)) m5 H5 σ2 env1 := ⟨E3.1, fun i d h => by
              obtain ⟨v, z1, z2⟩ := ((E3.step s3).step s4).2 i d h
              exact ⟨v, z1, VR.stw (S := C.S (andD F D)) s5 z2⟩⟩
            refine hp1 (andD F D) m5 H5 _ _ x1 d1 env2 (EnvR.wipe E5 vs1) hv5 ha5 _ fun σ3 E6 of1 => ?_
            refine ⟨off_wipe of1 hpi1, ?_⟩
            exact put_ok hg1 he hD M5 E6 (fun acc' h' m' H' e5 M6 hs6 => hN5 acc' h' m' H' e5 M6 (hs6 _ _ _ s5 (Or.inr rfl))) hok5
          · obtain ⟨acc6, h6, e6⟩ := hok
            exact ⟨acc6, h6, by rw [← eqs]; exact e6, e6⟩)
theorem se_lc2 [hc : Cold C] (B : BlkS C scope own) (hv1 : ∀ i ∈ vs1, i ∈ own.map (·.2)) (hi : SI C tg iter fi) (hp : SG (C.blk scope) tg p) (hpi : ∀ i ∈ p.ix, i ∈ own.map (·.2)) (hg : SIf (C.blk scope) ifs g) (hi1 : SI (C.blk scope) tg1 iter1 fi1) (hp1 : SG (C.blk scope) tg1 p1) (hpi1 : ∀ i ∈ p1.ix, i ∈ vs1) (hg1 : SIf (C.blk scope) ifs1 g1)
    (he : SE (C.blk scope) elt fe) (hs : ∀ env x, foldedSetIterable iter env x = pure x) (hs1 : ∀ env x, foldedSetIterable iter1 env x = pure x) :
    SE C (.ListComp elt [⟨tg, iter, ifs, 0⟩, ⟨tg1, iter1, ifs1, 0⟩] scope pos) (eLc fi p (own.map (·.2)) (lcIn g fi1 p1 vs1 (lcPut g1 fe))) :=
  se_of (fun j => pe_lc2 (own := own) (C.calm j hc.h) (by rw [C.hN]; exact C.nd) (pi_any C tg iter j) (by rw [C.hN]; exact B.b j) hv1 (fun s H Cc cl fp => pg_any (C.blk scope) tg (j, s, H, Cc, cl, fp)) (fun s H Cc cl fp => pif_any (C.blk scope) ifs (j, s, H, Cc, cl, fp)) (fun s H Cc cl fp => pi_any (C.blk scope) tg1 iter1 (j, s, H, Cc, cl, fp)) (fun s H Cc cl fp => pg_any (C.blk scope) tg1 (j, s, H, Cc, cl, fp)) (fun s H Cc cl fp => pif_any (C.blk scope) ifs1 (j, s, H, Cc, cl, fp)) (fun s H Cc cl fp => pe_any (C.blk scope) elt (j, s, H, Cc, cl, fp)) (hs _) hs1)
    (re_lc2 B hv1 hi hp hpi hg hi1 hp1 hpi1 hg1 he)
end
end Mp

/-! M10: lists that are owned, dicts, statements. -/
namespace Mp
open PySem PySem.Spec PyProof.Rows L2
/-! ### a new list becomes an object; an object a value -/
def eOwn (f : Fe) : Fe := fun env h => (f env h).bind fun r h1 => match r with
  | .nl ds => .ok (.v (.ref h1.length)) (h1 ++ [.lst ds])
  | .v _ => .no
/-- a list of the small heap, k levels deep, as a value -/
def frzV : Nat → MV → MHp → Option (MV × MHp)
  | 0, d, h => some (d, h)
  | k + 1, .ref n, h => match lstAt h n with
    | some ds => (frzL (frzV k) ds (h.set n .gone)).map fun p => (.lst p.1, p.2)
    | none => none
  | _ + 1, d, h => some (d, h)
where
  frzL (g : MV → MHp → Option (MV × MHp)) : List MV → MHp → Option (List MV × MHp)
    | [], h => some ([], h)
    | d :: ds, h => (g d h).bind fun p => (frzL g ds p.2).map fun q => (p.1 :: q.1, q.2)
def eFrz (k : Nat) (f : Fe) : Fe := fun env h => (f env h).bind fun r h1 => match r with
  | .v d => match frzV k d h1 with
    | some (d', h2) => .ok (.v d') h2
    | none => .no
  | .nl ds => match frzV.frzL (frzV k) ds h1 with
    | some (ds', h2) => .ok (.nl ds') h2
    | none => .no
theorem snocAt {α : Type} {l : List α} {a x : α} {i : Nat} (h : (l ++ [a])[i]? = some x) : (i < l.length ∧ l[i]? = some x) ∨ (i = l.length ∧ a = x) := by
  by_cases hl : i < l.length
  · rw [List.getElem?_append_left hl] at h
    exact .inl ⟨hl, h⟩
  · rw [List.getElem?_append_right (by omega)] at h
    cases q : i - l.length with
    | zero =>
      rw [q] at h
      simp at h
      exact .inr ⟨by omega, h⟩
    | succ k => rw [q] at h; simp at h
theorem ixMore {α : Type} {l : List α} {a x : α} {i : Nat} (h : l[i]? = some x) : (l ++ [a])[i]? = some x := by
  rw [List.getElem?_append_left (List.getElem?_eq_some_iff.mp h).1]; exact h
theorem notMore {m : Mm} {p a : Addr} (k : ∀ n : Nat, m[n]? ≠ some (some a)) (ne : a ≠ p) : ∀ n : Nat, (m ++ [some p])[n]? ≠ some (some a) := fun n e => by
  rcases snocAt e with ⟨_, z⟩ | ⟨_, z⟩
  · exact k n z
  · cases z; exact ne rfl
section
variable {S : Sx} {m m' : Mm} {h : MHp} {H H' : Hp}
theorem frzL_ok {g : MV → MHp → Option (MV × MHp)} (hg : ∀ {m h x d d' h'}, Rl S m h H → VR S m H x d → g d h = some (d', h') → ∃ m', Stp S m H m' H ∧ Rl S m' h' H ∧ VR S m' H x d') : ∀ {ds : List MV} {m : Mm} {h : MHp} {vs : List V} {ds' : List MV} {h' : MHp}, Rl S m h H → VRs S m H vs ds → frzV.frzL g ds h = some (ds', h') → ∃ m', Stp S m H m' H ∧ Rl S m' h' H ∧ VRs S m' H vs ds'
  | [], m, h, _, _, _, R, .nil, e => by cases e; exact ⟨m, .refl, R, .nil⟩
  | d :: ds, m, h, _, ds', h', R, .cons hv hr, e => by
    obtain ⟨⟨d1, h1⟩, e1, e2⟩ := Option.bind_eq_some_iff.mp e
    obtain ⟨⟨ds1, h2⟩, e3, e4⟩ := Option.map_eq_some_iff.mp e2
    cases e4
    obtain ⟨m1, s1, R1, v1⟩ := hg R hv e1
    obtain ⟨m2, s2, R2, v2⟩ := frzL_ok hg R1 (hr.step s1) e3
    exact ⟨m2, s1.trans s2, R2, .cons (v1.step s2) v2⟩
theorem frzV_ok : ∀ (k : Nat) {m : Mm} {h : MHp} {x : V} {d d' : MV} {h' : MHp}, Rl S m h H → VR S m H x d → frzV k d h = some (d', h') → ∃ m', Stp S m H m' H ∧ Rl S m' h' H ∧ VR S m' H x d'
  | 0, m, h, x, d, d', h', R, hv, e => by cases e; exact ⟨m, .refl, R, hv⟩
  | k + 1, m, h, x, d, d', h', R, hv, e => by
    cases d with
    | ref n =>
      unfold frzV at e
      cases q : lstAt h n with
      | none => rw [q] at e; cases e
      | some ds =>
        rw [q] at e
        simp only at e
        obtain ⟨⟨ds1, h2⟩, e3, e4⟩ := Option.map_eq_some_iff.mp e
        cases e4
        obtain ⟨a, rfl, hm, vs, hl, hr⟩ := R.at hv (lstAt_eq.mp q) (fun z => nomatch z)
        have s1 : Stp S m H (m.set n none) H := .gone
        obtain ⟨m2, s2, R2, v2⟩ := frzL_ok (frzV_ok k) R.gone (hr.step s1) e3
        refine ⟨m2, s1.trans s2, R2, .lst hl ?_ (fun z => (R.fo a z).2 n hm) v2⟩
        exact s2.keepNot (by rw [hl]; simp) (gone_not R hm)
    | _ => cases e; exact ⟨m, .refl, R, hv⟩
end
mutual
/-- what is nobody's becomes the small heap's -/
theorem VR.give {S : Sx} {p : Addr} {m : Mm} {H : Hp} : ∀ {v : V} {d : MV}, VR (S.wF (andD S.F p)) m H v d → VR S (m ++ [some p]) H v d
  | _, _, .non => .non
  | _, _, .bl b => .bl b
  | _, _, .int i => .int i
  | _, _, .str x => .str x
  | _, _, .lst h k nf a => .lst h (notMore k fun z => nf (.inr z)) (fun z => nf (.inl z)) (VRs.give a)
  | _, _, .tup h a => .tup h (VRs.give a)
  | _, _, .ktup h a => .ktup h (VRs.give a)
  | _, _, .scr h => .scr (h.imp (fun z => ⟨z.1, notMore z.2.1 fun w => z.2.2 (.inr w), fun w => z.2.2 (.inl w)⟩) id)
  | _, _, .ref h => .ref (h.imp (fun z => ixMore z) fun z => ixMore z)
  | _, _, .fn h => .fn h
theorem VRs.give {S : Sx} {p : Addr} {m : Mm} {H : Hp} : ∀ {vs : List V} {ds : List MV}, VRs (S.wF (andD S.F p)) m H vs ds → VRs S (m ++ [some p]) H vs ds
  | _, _, .nil => .nil
  | _, _, .cons h a => .cons (VR.give h) (VRs.give a)
end
theorem KR.give {κ : Type} {S : Sx} {p : Addr} {m : Mm} {H : Hp} : ∀ {vs : List (κ × V)} {ds : List (κ × MV)}, KR (S.wF (andD S.F p)) m H vs ds → KR S (m ++ [some p]) H vs ds
  | _, _, .nil => .nil
  | _, _, .cons h a => .cons h.give (KR.give a)
theorem OR.give {S : Sx} {p : Addr} {m : Mm} {H : Hp} {x : Option Addr} {o : MO} (h : OR (S.wF (andD S.F p)) m H x o) : OR S (m ++ [some p]) H x o := by
  cases x with
  | none => cases o <;> first | exact h.elim | exact True.intro
  | some a =>
    cases o with
    | lst ds => obtain ⟨vs, h, r⟩ := h; exact ⟨vs, h, r.give⟩
    | dK ds => obtain ⟨vs, h, r⟩ := h; exact ⟨vs, h, r.give⟩
    | dT ds => obtain ⟨vs, h, r⟩ := h; exact ⟨vs, h, r.give⟩
    | ins c fs => obtain ⟨Ca, dx, ws, hc, h, r⟩ := h; exact ⟨Ca, dx, ws, hc, h, r.give⟩
    | gone => exact h.elim
theorem Rl.give {S : Sx} {p : Addr} {m : Mm} {h : MHp} {H : Hp} {o : MO} (R : Rl (S.wF (andD S.F p)) m h H) (nf : ¬ S.F p) (ho : OR S (m ++ [some p]) H (some p) o) : Rl S (m ++ [some p]) (h ++ [o]) H where
  len := by rw [List.length_append, List.length_append, R.len]; rfl
  inj := fun i j a ei ej => by
    have hp := (R.fo p (.inr rfl)).2
    rcases snocAt ei with ⟨_, e1⟩ | ⟨e1, e2⟩
    · rcases snocAt ej with ⟨_, e3⟩ | ⟨e3, e4⟩
      · exact R.inj i j a e1 e3
      · cases e4; exact absurd e1 (hp i)
    · rcases snocAt ej with ⟨_, e3⟩ | ⟨e3, e4⟩
      · cases e2; exact absurd e3 (hp j)
      · rw [e1, e3]
  ob := fun n u e => by
    rcases snocAt e with ⟨hl, e1⟩ | ⟨e1, e2⟩
    · obtain ⟨x, e3, q⟩ := R.ob n u e1
      exact ⟨x, ixMore e3, q.give⟩
    · cases e2
      refine ⟨some p, ?_, ho⟩
      rw [e1, ← R.len]
      simp
  tb := R.tb
  fo := fun a fa => ⟨(R.fo a (.inl fa)).1, notMore (R.fo a (.inl fa)).2 fun z => nf (z ▸ fa)⟩
  xd := fun q hq => by
    obtain ⟨ws, e1, k⟩ := R.xd q hq
    exact ⟨ws, e1, KR.give k⟩
section
variable {C : Cs} {e a b c : Expr} {f fa fb fc : Fe} {pos pos' p p2 : Pos}
theorem post_obj {F : Addr → Prop} {m0 m : Mm} {h : MHp} {H0 H : Hp} {σ : L2.St} {Q : VK} {q : Addr} {o : MO} (st : Stp (C.S F) m0 H0 m H) (h0 : H0 q = none) (R : Rl (C.S (andD F q)) m h H) (ho : OR (C.S F) (m ++ [some q]) H (some q) o) (p : Post C F m0 H0 σ kE (.ok (.v (.ref h.length)) (h ++ [o])) Q) (hF : F q → H0 q ≠ none) : Q (.ref q) H :=
  p (m ++ [some q]) (.ref q) H (st.push h0) (Rl.give (S := C.S F) R (fun z => hF z h0) ho) (.v (.ref (.inl (by rw [← R.len]; simp))))
theorem re_own {t : TE} (ha : RE C t f) : RE C t (eOwn f) := fun F m h env H σ R E Q q => ha F m h env H σ R E _ (q.bindR fun r h1 m1 x H1 e1 s1 L1 r1 p1 => by
  cases r1 with
  | v _ => exact p1.elim
  | nl k1 k2 nf k3 k4 =>
    obtain ⟨p', ep, R1⟩ := L1
    cases ep
    exact post_obj (o := .lst _) s1 k1 R1 ⟨_, k3, VRs.give (S := C.S F) k4⟩ p1 fun z => absurd z nf)
theorem se_own (ha : SE C e f) : SE C e (eOwn f) := re_own ha
theorem re_frz {t : TE} (k : Nat) (ha : RE C t f) : RE C t (eFrz k f) := fun F m h env H σ R E Q q => ha F m h env H σ R E _ (q.bindR fun r h1 m1 x H1 e1 s1 L1 r1 p1 => by
  cases r1 with
  | v hv =>
    simp only at p1
    split at p1
    · rename_i d' h2 e2
      obtain ⟨m2, s2, R2, v2⟩ := frzV_ok k (show Rl _ _ _ _ from L1) hv e2
      exact p1 m2 x H1 (s1.trans s2) R2 (.v v2)
    · exact p1.elim
  | nl k1 k2 nf k3 k4 =>
    obtain ⟨p', ep, R1⟩ := L1
    cases ep
    simp only at p1
    split at p1
    · rename_i ds' h2 e2
      obtain ⟨m2, s2, R2, v2⟩ := frzL_ok (frzV_ok k) R1 k4 e2
      exact p1 m2 _ H1 (s1.trans (Stp.wF (F := F) s2)) ⟨_, rfl, R2⟩ (.nl k1 (s2.keepNot (by rw [k3]; simp) k2) nf k3 v2)
    · exact p1.elim)
theorem se_frz (k : Nat) (ha : SE C e f) : SE C e (eFrz k f) := re_frz k ha
end
end Mp

/-! M11: methods of lists, dicts, fields. -/
namespace Mp
open PySem PySem.Spec PyProof.Rows L2
/-- what a method's call wants of its text -/
structure MetT (o : Expr) (name : Str) (apos cpos : Pos) : Prop where
  base : ∀ env : Env, attributeBase o name env (eval o env) = eval o env
  line : (apos.endLine == cpos.line) = true
theorem few_of {es : List Expr} {cpos : Pos} {env : Env} (hs : ∀ e ∈ es, NS e) (hl : es.length < 30) : ((backTo cpos (starEach es env)).all (fun x => !x.1) && (backToKw cpos (keywordEach [] env)).all (fun x => x.1.isSome) && decide (es.length + ([] : List Keyword).length + (if ([] : List Keyword).isEmpty then 0 else 1) < 30)) = true := by
  have h1 : ∀ {es : List Expr}, (∀ e ∈ es, NS e) → (backTo cpos (starEach es env)).all (fun x => !x.1) = true := by
    intro es
    induction es with
    | nil => intro _; rfl
    | cons e r ih =>
      intro hs
      rw [hs e List.mem_cons_self]
      show (true && (backTo cpos (starEach r env)).all (fun x => !x.1)) = true
      rw [ih fun x hx => hs x (List.mem_cons_of_mem _ hx)]
      rfl
  rw [h1 hs]
  show (true && true && decide (es.length + 0 + 0 < 30)) = true
  rw [decide_eq_true (by omega)]
  rfl
section
variable {C : Cs} {e a b c o : Expr} {f fa fb fc fo : Fe} {pos pos' apos p p2 : Pos}
/-! lists -/
def mApp (h : MHp) (o x : RV) : Out RV := match o with
  | .v (.ref n) => match lstAt h n with
    | some ds => if ds.length < 1000000 then .ok (.v .non) (h.set n (.lst (ds ++ [x.toV]))) else .no
    | none => .no
  | _ => .no
/-- the object is a list ahead of the arguments, too -/
def eMet1 (g : MHp → RV → Bool) (op : Op2) (fo fa : Fe) : Fe := fun env h => (fo env h).bind fun o h1 => if g h1 o = true then (fa env h1).bind fun x h2 => op h2 o x else .no
def isLst (h : MHp) (o : RV) : Bool := (lstOf h o).isSome
theorem lst_ty {m : Mm} {h : MHp} {H H0 : Hp} {F : Addr → Prop} {x : V} {r : RV} (R : Rl (C.S F) m h H) (hr : RR (C.S F) H0 m H x r) (e : isLst h r = true) : tyV C.K "list" x H := by
  obtain ⟨ds, q⟩ := Option.isSome_iff_exists.mp e
  obtain ⟨a, vs, rfl, h1, h2⟩ := lst_of R hr q
  exact .inl ⟨rfl, vs, SqL.of h1⟩
theorem se_met1 {name : Str} {T id : String} {r : V → List V → Hp → VK → Prop} {g : MHp → RV → Bool} {op : Op2} (pa : PlainAttrs T) (slot : Slot T name id) (hty : typeOf (.builtin id) = pure (.type "method_descriptor")) (hm : ∀ j, MtR (C.X j) id r)
    (hg : ∀ F m h H H0 x rx, Rl (C.S F) m h H → RR (C.S F) H0 m H x rx → g h rx = true → tyV C.K T x H)
    (hop : ∀ F m h H H0 σ x y rx ry Q, Rl (C.S F) m h H → RR (C.S F) H0 m H x rx → RR (C.S F) H0 m H y ry → Post C F m H σ kE (op h rx ry) Q → r x [y] H Q) (M : MetT o name apos pos) (hs : NS a)
    (ho : SE C o fo) (ha : SE C a fa) : SE C (.Call (.Attribute o name apos) [a] [] pos) (eMet1 g op fo fa) :=
  se_of (t := tBM C.K T r (eAny C o) (tCons (eAny C a) tNil)) (fun j => kx (p := fun K => PE (C.X j) _ (tBM K T r (eAny C o) (tCons (eAny C a) tNil))) j (pe_bm pa slot hty (hm j) (pe_any C o j) (pa_cons (pe_any C a j) pa_nil (hs _ _)) (M.base _) (few_of (es := [a]) (fun x h => by obtain rfl := List.mem_singleton.mp h; exact hs) (Nat.le_of_ble_eq_true rfl)) M.line (hs _ _) (ns_any (es := []) (fun _ h => (List.not_mem_nil h).elim) _ _)))
    fun F m h env H σ R E Q q => ho F m h env H σ R E _ (q.bind fun ro h1 m1 x H1 e1 s1 R1 r1 p1 => by
      cases hgq : g h1 ro with
      | false => rw [hgq, if_neg Bool.false_ne_true] at p1; exact p1.elim
      | true =>
        rw [hgq, if_pos rfl] at p1
        exact ⟨hg F m1 h1 H1 H x ro R1 r1 hgq, ha F m1 h1 env H1 σ R1 (E.step s1) _ (p1.bind fun ra h2 m2 y H2 e2 s2 R2 r2 p2 => hop F m2 h2 H2 H σ x y ro ra Q R2 (kE.step s2 r1) (kE.back s1 r2) p2)⟩)
theorem se_append (M : MetT o "append" apos pos) (hs : NS a) (ho : SE C o fo) (ha : SE C a fa) : SE C (.Call (.Attribute o "append" apos) [a] [] pos) (eMet1 isLst mApp fo fa) :=
  se_met1 PySem.F.plainAttrs_list PySem.F.slot_list_append PySem.F.type_list_append (fun _ => mt_append) (fun F m h H H0 x rx R hr e => lst_ty R hr e) (fun F m h H H0 σ x y rx ry Q R hx hy q => by
    unfold mApp at q
    split at q
    · rename_i n
      split at q
      · rename_i ds e1
        split at q
        · rename_i hl
          obtain ⟨a', rfl, hm, vs, h1, h2⟩ := R.at (rr_v hx) (lstAt_eq.mp e1) (fun z => nomatch z)
          refine ⟨a', vs, y, rfl, rfl, h1, by rw [h2.length]; exact size_ok hl, ?_⟩
          have st : Stp (C.S F) m H m (upd H a' (.lst (vs ++ [y]))) := .mut R hm
          exact q m .non _ st (R.mut hm ⟨_, upd_same, (h2.append (.cons (RR.toV hy) .nil)).step st⟩) (.v .non)
        · exact q.elim
      · exact q.elim
    · exact q.elim) M hs ho ha
def mExt (h : MHp) (o x : RV) : Out RV := match o with
  | .v (.ref n) => match lstAt h n, lstOf h x with
    | some ds, some es => if ds.length + es.length ≤ 1000000 then .ok (.v .non) (h.set n (.lst (ds ++ es))) else .no
    | _, _ => .no
  | _ => .no
theorem se_extend (M : MetT o "extend" apos pos) (hs : NS a) (ho : SE C o fo) (ha : SE C a fa) : SE C (.Call (.Attribute o "extend" apos) [a] [] pos) (eMet1 isLst mExt fo fa) :=
  se_met1 PySem.F.plainAttrs_list PySem.F.slot_list_extend PySem.F.type_list_extend (fun _ => mt_extend) (fun F m h H H0 x rx R hr e => lst_ty R hr e) (fun F m h H H0 σ x y rx ry Q R hx hy q => by
    unfold mExt at q
    split at q
    · rename_i n
      split at q
      · rename_i ds es e1 e2
        split at q
        · rename_i hl
          obtain ⟨a', rfl, hm, vs, h1, h2⟩ := R.at (rr_v hx) (lstAt_eq.mp e1) (fun z => nomatch z)
          obtain ⟨b', us, rfl, k1, k2⟩ := lst_of R hy e2
          refine ⟨a', b', vs, us, rfl, rfl, h1, k1, by rw [h2.length, k2.length]; exact Nat.le_trans hl (by decide), ?_⟩
          have st : Stp (C.S F) m H m (upd H a' (.lst (vs ++ us))) := .mut R hm
          exact q m .non _ st (R.mut hm ⟨_, upd_same, (h2.append k2).step st⟩) (.v .non)
        · exact q.elim
      · exact q.elim
    · exact q.elim) M hs ho ha
end
/-! ### dicts -/
section
variable {κ : Type} [DecidableEq κ]
def kvGet (kvs : List (κ × MV)) (k : κ) : Option MV := (kvs.find? fun kv => decide (kv.1 = k)).map (·.2)
def kvPut (kvs : List (κ × MV)) (k : κ) (v : MV) : List (κ × MV) :=
  if (kvs.any fun kv => decide (kv.1 = k)) = true then kvs.map (fun kv => if kv.1 = k then (kv.1, v) else kv) else kvs ++ [(k, v)]
variable {S : Sx} {m : Mm} {H : Hp}
theorem KR.get {k : κ} : ∀ {ws : List (κ × V)} {kvs : List (κ × MV)}, KR S m H ws kvs → (∀ d, kvGet kvs k = some d → ∃ v, valV ws k = some v ∧ VR S m H v d) ∧ (kvGet kvs k = none → valV ws k = none)
  | _, _, .nil => ⟨(fun d e => nomatch e), fun _ => rfl⟩
  | (k1, v) :: ws, (_, d) :: kvs, .cons h r => by
    obtain ⟨h1, h2⟩ := KR.get (k := k) r
    by_cases e : k1 = k
    · unfold kvGet valV
      rw [List.find?_cons_of_pos (by simpa using e), List.find?_cons_of_pos (by simpa using e)]
      exact ⟨fun d' e' => by cases e'; exact ⟨v, rfl, h⟩, (fun z => nomatch z)⟩
    · unfold kvGet valV
      rw [List.find?_cons_of_neg (by simpa using e), List.find?_cons_of_neg (by simpa using e)]
      exact ⟨h1, h2⟩
theorem KR.any {k : κ} : ∀ {ws : List (κ × V)} {kvs : List (κ × MV)}, KR S m H ws kvs → (ws.any fun kv => decide (kv.1 = k)) = (kvs.any fun kv => decide (kv.1 = k))
  | _, _, .nil => rfl
  | _, _, .cons h r => by simp only [List.any_cons, KR.any r]
theorem KR.mapP {k : κ} {v : V} {d : MV} (hv : VR S m H v d) : ∀ {ws : List (κ × V)} {kvs : List (κ × MV)}, KR S m H ws kvs → KR S m H (ws.map fun kv => if kv.1 = k then (kv.1, v) else kv) (kvs.map fun kv => if kv.1 = k then (kv.1, d) else kv)
  | _, _, .nil => .nil
  | (k1, _) :: _, _, .cons h r => by
    simp only [List.map_cons]
    by_cases e : k1 = k
    · simp only [if_pos e]
      exact .cons hv (KR.mapP hv r)
    · simp only [if_neg e]
      exact .cons h (KR.mapP hv r)
theorem KR.app {v : V} {d : MV} {k : κ} (hv : VR S m H v d) : ∀ {ws : List (κ × V)} {kvs : List (κ × MV)}, KR S m H ws kvs → KR S m H (ws ++ [(k, v)]) (kvs ++ [(k, d)])
  | _, _, .nil => .cons hv .nil
  | _, _, .cons h r => .cons h (KR.app hv r)
theorem KR.put {k : κ} {v : V} {d : MV} {ws : List (κ × V)} {kvs : List (κ × MV)} (h : KR S m H ws kvs) (hv : VR S m H v d) : KR S m H (putK ws k v) (kvPut kvs k d) := by
  unfold putK kvPut
  rw [h.any]
  split
  · exact h.mapP hv
  · exact h.app hv
end
def keyOf : MV → Option Key
  | .int i => some (.inl i)
  | .str x => some (.inr x)
  | _ => none
def keysOf : List MV → Option (List Key)
  | [] => some []
  | d :: ds => (keyOf d).bind fun k => (keysOf ds).map fun ks => k :: ks
theorem key_of {S : Sx} {m : Mm} {H : Hp} {v : V} {d : MV} {k : Key} (h : VR S m H v d) (e : keyOf d = some k) : v = kV k := by
  cases d with
  | int i => cases e; exact vr_int h
  | str x => cases e; exact vr_str h
  | _ => cases e
theorem keys_of {S : Sx} {m : Mm} {H : Hp} : ∀ {vs : List V} {ds : List MV} {ks : List Key}, VRs S m H vs ds → keysOf ds = some ks → vs = ks.map kV
  | _, _, _, .nil, e => by cases e; rfl
  | _, _, _, .cons h r, e => by
    obtain ⟨k, e1, e2⟩ := Option.bind_eq_some_iff.mp e
    obtain ⟨ks, e3, e4⟩ := Option.map_eq_some_iff.mp e2
    cases e4
    rw [key_of h e1, keys_of r e3]
    rfl
/-- what the dict holds at the key: no dict, no key; not there; there -/
def dAt (h : MHp) (o k : RV) : Option (Option MV) := match o with
  | .v (.ref n) => match h[n]? with
    | some (.dK kvs) => match k with
      | .v d => (keyOf d).map fun q => kvGet kvs q
      | _ => none
    | some (.dT kvs) => match k with
      | .v (.tup ds) => (keysOf ds).map fun q => kvGet kvs q
      | _ => none
    | _ => none
  | _ => none
def dPut (h : MHp) (o k : RV) (d : MV) : Option MHp := match o with
  | .v (.ref n) => match h[n]? with
    | some (.dK kvs) => match k with
      | .v e => if kvs.length < 1000000 then (keyOf e).map fun q => h.set n (.dK (kvPut kvs q d)) else none
      | _ => none
    | some (.dT kvs) => match k with
      | .v (.tup ds) => if kvs.length < 1000000 then (keysOf ds).map fun q => h.set n (.dT (kvPut kvs q d)) else none
      | _ => none
    | _ => none
  | _ => none
section
variable {C : Cs} {F : Addr → Prop} {m : Mm} {h : MHp} {H H0 : Hp} {x y z : V} {ro rk : RV} {d : MV}
theorem d_at {r : Option MV} (R : Rl (C.S F) m h H) (hx : RR (C.S F) H0 m H x ro) (hy : RR (C.S F) H0 m H y rk) (e : dAt h ro rk = some r) : ∃ a w, x = .ref a ∧ IsD H a ∧ DGet H a y w ∧ (∀ d, r = some d → ∃ v, w = some v ∧ VR (C.S F) m H v d) ∧ (r = none → w = none) := by
  unfold dAt at e
  split at e
  · rename_i n
    split at e
    · rename_i kvs en
      split at e
      · rename_i k
        obtain ⟨q, e1, e2⟩ := Option.map_eq_some_iff.mp e
        obtain ⟨a, rfl, hm, ws, h1, h2⟩ := R.at (rr_v hx) en (fun z => nomatch z)
        obtain ⟨g1, g2⟩ := h2.get (k := q)
        rw [key_of (rr_v hy) e1]
        exact ⟨a, _, rfl, .inl ⟨ws, .inl h1⟩, DGet.k h1, fun d hd => g1 d (e2.trans hd), fun hn => g2 (e2.trans hn)⟩
      · cases e
    · rename_i kvs en
      split at e
      · rename_i ds
        obtain ⟨q, e1, e2⟩ := Option.map_eq_some_iff.mp e
        obtain ⟨a, rfl, hm, ws, h1, h2⟩ := R.at (rr_v hx) en (fun z => nomatch z)
        obtain ⟨g1, g2⟩ := h2.get (k := q)
        cases hy with
        | v hy => cases hy with
          | tup t1 t2 =>
            rw [keys_of t2 e1] at t1
            exact ⟨a, _, rfl, .inr ⟨ws, .inl h1⟩, DGet.t h1 t1, fun d hd => g1 d (e2.trans hd), fun hn => g2 (e2.trans hn)⟩
      · cases e
    · cases e
  · cases e
theorem d_put {h' : MHp} (R : Rl (C.S F) m h H) (hx : RR (C.S F) H0 m H x ro) (hy : RR (C.S F) H0 m H y rk) (hz : VR (C.S F) m H z d) (e : dPut h ro rk d = some h') : ∃ a H', x = .ref a ∧ DPut H a y z H' ∧ Stp (C.S F) m H m H' ∧ Rl (C.S F) m h' H' := by
  unfold dPut at e
  split at e
  · rename_i n
    split at e
    · rename_i kvs en
      split at e
      · rename_i k
        split at e
        · rename_i hl
          obtain ⟨q, e1, e2⟩ := Option.map_eq_some_iff.mp e
          subst e2
          obtain ⟨a, rfl, hm, ws, h1, h2⟩ := R.at (rr_v hx) en (fun z => nomatch z)
          rw [key_of (rr_v hy) e1]
          have st : Stp (C.S F) m H m (upd H a (.dK (putK ws q z))) := .mut R hm
          exact ⟨a, _, rfl, DPut.k h1 (by rw [h2.length]; exact size_ok hl), st, R.mut hm ⟨_, upd_same, (h2.put hz).step st⟩⟩
        · cases e
      · cases e
    · rename_i kvs en
      split at e
      · rename_i ds
        split at e
        · rename_i hl
          obtain ⟨q, e1, e2⟩ := Option.map_eq_some_iff.mp e
          subst e2
          obtain ⟨a, rfl, hm, ws, h1, h2⟩ := R.at (rr_v hx) en (fun z => nomatch z)
          cases hy with
          | v hy => cases hy with
            | tup t1 t2 =>
              rw [keys_of t2 e1] at t1
              have st : Stp (C.S F) m H m (upd H a (.dT (putK ws q z))) := .mut R hm
              exact ⟨a, _, rfl, DPut.t h1 t1 (by rw [h2.length]; exact size_ok hl), st, R.mut hm ⟨_, upd_same, (h2.put hz).step st⟩⟩
        · cases e
      · cases e
    · cases e
  · cases e
end
section
variable {C : Cs} {e a b c o : Expr} {f fa fb fc fo : Fe} {pos pos' apos p p2 : Pos}
def mDGet : Op2 := fun h o k => match dAt h o k with
  | some (some d) => .ok (.v d) h
  | _ => .no
theorem se_dget (hs : NoSl b) (ho : SE C a fa) (hk : SE C b fb) : SE C (.Subscript a b pos) (eBin mDGet fa fb) :=
  se_of (fun j => pe_dget (by have := C.hu j; omega) (pe_any C a j) (pe_any C b j) hs) fun F m h env H σ R E Q q => ho F m h env H σ R E _ (q.bind fun rx h1 m1 x H1 e1 s1 R1 r1 p1 => hk F m1 h1 env H1 σ R1 (E.step s1) _ (p1.bind fun ry h2 m2 y H2 e2 s2 R2 r2 p2 => by
    unfold mDGet at p2
    split at p2
    · rename_i d ed
      obtain ⟨a', w, rfl, _, hg, g1, _⟩ := d_at R2 (kE.step s2 r1) (kE.back s1 r2) ed
      obtain ⟨v, rfl, hv⟩ := g1 d rfl
      exact ⟨a', v, rfl, hg, post_v R2 hv p2⟩
    · exact p2.elim))
/-- {} -/
def eDNew (t : Bool) : Fe := fun _ h => .ok (.v (.ref h.length)) (h ++ [if t = true then .dT [] else .dK []])
theorem se_dnewK : SE C (.Dict [] [] pos) (eDNew false) := se_of (fun _ => pe_dnewK) fun F m h env H σ R E Q q p hp =>
  post_obj (o := .dK []) (.made hp) hp (R.begin hp) ⟨[], upd_same, .nil⟩ q fun z => (R.fo p z).1
theorem se_dnewT : SE C (.Dict [] [] pos) (eDNew true) := se_of (fun _ => pe_dnewT) fun F m h env H σ R E Q q p hp =>
  post_obj (o := .dT []) (.made hp) hp (R.begin hp) ⟨[], upd_same, .nil⟩ q fun z => (R.fo p z).1
/-- d.get(k), d.get(k, x) -/
def isDct (h : MHp) (o : RV) : Bool := match o with
  | .v (.ref n) => match h[n]? with
    | some (.dK _) => true
    | some (.dT _) => true
    | _ => false
  | _ => false
theorem is_d {F : Addr → Prop} {m : Mm} {h : MHp} {H H0 : Hp} {x : V} {r : RV} (R : Rl (C.S F) m h H) (hr : RR (C.S F) H0 m H x r) (e : isDct h r = true) : ∃ a, x = .ref a ∧ IsD H a := by
  unfold isDct at e
  split at e
  · rename_i n
    split at e
    · rename_i kvs en
      obtain ⟨a, rfl, hm, ws, h1, h2⟩ := R.at (rr_v hr) en (fun z => nomatch z)
      exact ⟨a, rfl, .inl ⟨ws, .inl h1⟩⟩
    · rename_i kvs en
      obtain ⟨a, rfl, hm, ws, h1, h2⟩ := R.at (rr_v hr) en (fun z => nomatch z)
      exact ⟨a, rfl, .inr ⟨ws, .inl h1⟩⟩
    · cases e
  · cases e
def eDGet1 (fo fa : Fe) : Fe := fun env h => (fo env h).bind fun o h1 => if isDct h1 o = true then (fa env h1).bind fun k h2 => match dAt h2 o k with
  | some w => .ok (.v (w.getD .non)) h2
  | none => .no else .no
def eDGet2 (fo fa fb : Fe) : Fe := fun env h => (fo env h).bind fun o h1 => if isDct h1 o = true then (fa env h1).bind fun k h2 => (fb env h2).bind fun z h3 => match dAt h3 o k with
  | some w => .ok (.v (w.getD z.toV)) h3
  | none => .no else .no
theorem m1_of {j : C.ι} {name : Str} (M : MetT o name apos pos) (hs : NS a) : M1 (C.X j) o name apos a pos := ⟨M.base _, few_of (es := [a]) (fun x h => by obtain rfl := List.mem_singleton.mp h; exact hs) (Nat.le_of_ble_eq_true rfl), M.line, by rw [hs]; rfl⟩
theorem m2_of {j : C.ι} {name : Str} (M : MetT o name apos pos) (hs : NS a) (hs2 : NS b) : M2 (C.X j) o name apos a b pos := ⟨M.base _, few_of (es := [a, b]) (fun x h => by
  rcases List.mem_cons.mp h with rfl | h
  · exact hs
  · obtain rfl := List.mem_singleton.mp h; exact hs2) (Nat.le_of_ble_eq_true rfl), M.line, by rw [hs, hs2]; rfl⟩
theorem se_dget1 (M : MetT o "get" apos pos) (hs : NS a) (ho : SE C o fo) (ha : SE C a fa) : SE C (.Call (.Attribute o "get" apos) [a] [] pos) (eDGet1 fo fa) :=
  se_of (fun j => pe_dget1 (by have := C.hu j; omega) (pe_any C o j) (pe_any C a j) (m1_of M hs)) fun F m h env H σ R E Q q => ho F m h env H σ R E _ (q.bind fun ro h1 m1 x H1 e1 s1 R1 r1 p1 => by
    cases hd : isDct h1 ro with
    | false => rw [hd, if_neg Bool.false_ne_true] at p1; exact p1.elim
    | true =>
      rw [hd, if_pos rfl] at p1
      obtain ⟨a', rfl, isd⟩ := is_d R1 r1 hd
      refine ⟨a', rfl, isd, ha F m1 h1 env H1 σ R1 (E.step s1) _ (p1.bind fun ra h2 m2 y H2 e2 s2 R2 r2 p2 => ?_)⟩
      split at p2
      · rename_i w ed
        obtain ⟨a2, w2, e4, _, hg, g1, g2⟩ := d_at R2 (kE.step s2 r1) (kE.back s1 r2) ed
        cases e4
        refine ⟨w2, hg, ?_⟩
        cases w with
        | none => rw [g2 rfl]; exact post_v R2 .non p2
        | some d =>
          obtain ⟨v, rfl, hv⟩ := g1 d rfl
          exact post_v R2 hv p2
      · exact p2.elim)
theorem se_dget2 (M : MetT o "get" apos pos) (hs : NS a) (hs2 : NS b) (ho : SE C o fo) (ha : SE C a fa) (hb : SE C b fb) : SE C (.Call (.Attribute o "get" apos) [a, b] [] pos) (eDGet2 fo fa fb) :=
  se_of (fun j => pe_dget2 (by have := C.hu j; omega) (pe_any C o j) (pe_any C a j) (pe_any C b j) (m2_of M hs hs2)) fun F m h env H σ R E Q q => ho F m h env H σ R E _ (q.bind fun ro h1 m1 x H1 e1 s1 R1 r1 p1 => by
    cases hd : isDct h1 ro with
    | false => rw [hd, if_neg Bool.false_ne_true] at p1; exact p1.elim
    | true =>
      rw [hd, if_pos rfl] at p1
      obtain ⟨a', rfl, isd⟩ := is_d R1 r1 hd
      refine ⟨a', rfl, isd, ha F m1 h1 env H1 σ R1 (E.step s1) _ (p1.bind fun ra h2 m2 y H2 e2 s2 R2 r2 p2 => hb F m2 h2 env H2 σ R2 ((E.step s1).step s2) _ (p2.bind fun rb h3 m3 z H3 e3 s3 R3 r3 p3 => ?_))⟩
      split at p3
      · rename_i w ed
        obtain ⟨a2, w2, e4, _, hg, g1, g2⟩ := d_at R3 (kE.step (s2.trans s3) r1) (kE.back s1 (kE.step s3 r2)) ed
        cases e4
        refine ⟨w2, hg, ?_⟩
        cases w with
        | none => rw [g2 rfl]; exact post_v R3 (RR.toV r3) p3
        | some d =>
          obtain ⟨v, rfl, hv⟩ := g1 d rfl
          exact post_v R3 hv p3
      · exact p3.elim)
/-! ### fields -/
/-- which fields of which classes are told -/
abbrev Flds := Str → Str → Bool
def FldOk (C : Cs) (na : Flds) : Prop := ∀ c Ca f, na c f = true → C.mg c = some (.ref Ca) → Cls C.K Ca ∧ NoAttr C.K Ca f
def kvLook : List (Str × MV) → Str → Option MV
  | [], _ => none
  | (g, d) :: r, f => if (f == g) = true then some d else kvLook r f
theorem KR.lookup {S : Sx} {m : Mm} {H : Hp} {f : Str} : ∀ {ws : List (Str × V)} {fs : List (Str × MV)} {d : MV}, KR S m H ws fs → kvLook fs f = some d → ∃ v, ws.lookup f = some v ∧ VR S m H v d
  | _, _, d, .nil, e => nomatch e
  | (g, v) :: ws, (_, d') :: fs, d, .cons h r, e => by
    unfold kvLook at e
    rw [List.lookup_cons]
    cases q : (f == g) with
    | true => rw [q, if_pos rfl] at e; cases e; exact ⟨v, rfl, h⟩
    | false => rw [q, if_neg Bool.false_ne_true] at e; exact KR.lookup r e
def fldAt (na : Flds) (h : MHp) (o : RV) (f : Str) : Option MV := match o with
  | .v (.ref n) => match h[n]? with
    | some (.ins c fs) => if na c f = true then kvLook fs f else none
    | _ => none
  | _ => none
def eFld (na : Flds) (fa : Fe) (f : Str) : Fe := fun env h => (fa env h).bind fun o h1 => match fldAt na h1 o f with
  | some d => .ok (.v d) h1
  | none => .no
theorem se_fld {na : Flds} {fld : Str} (hna : FldOk C na) (hb : ∀ env : Env, attributeBase a fld env (eval a env) = eval a env) (ha : SE C a fa) : SE C (.Attribute a fld pos) (eFld na fa fld) :=
  se_of (t := tFld C.K (eAny C a) fld) (fun j => kx (p := fun K => PE (C.X j) _ (tFld K (eAny C a) fld)) j (pe_fld (pe_any C a j) (hb _))) fun F m h env H σ R E Q q => ha F m h env H σ R E _ (q.bind fun ro h1 m1 x H1 e1 s1 R1 r1 p1 => by
    unfold fldAt at p1
    split at p1
    · rename_i d ed
      split at ed
      · rename_i n
        split at ed
        · rename_i c fs en
          split at ed
          · rename_i hn
            obtain ⟨a', rfl, hm, Ca, dx, ws, hc, h1, h2⟩ := R1.at (rr_v r1) en (fun z => nomatch z)
            obtain ⟨k1, k2⟩ := hna c Ca fld hn hc
            obtain ⟨v, hl, hv⟩ := h2.lookup ed
            exact ⟨a', Ca, dx, ws, v, rfl, h1, k1, k2, hl, post_v R1 hv p1⟩
          · cases ed
        · cases ed
      · cases ed
    · exact p1.elim)
end
end Mp

/-! M12: statements. -/
namespace Mp
open PySem PySem.Spec PyProof.Rows L2
inductive SOut where
  | nx (env : Ev) (h : MHp) | rt (d : MV) (h : MHp) | bk (env : Ev) (h : MHp) | ct (env : Ev) (h : MHp) | ex (c : Str) (fs : List (Str × MV)) (env : Ev) (h : MHp) | no
abbrev Fs := Ev → MHp → SOut
def SPost (C : Cs) (F : Addr → Prop) (m : Mm) (H : Hp) (D : Ends) (o : SOut) : Prop := match o with
  | .nx env' h' => ∀ m' σ' H', Stp (C.S F) m H m' H' → Rl (C.S F) m' h' H' → EnvR (C.S F) m' H' σ' env' → D.nx σ' H'
  | .rt d h' => ∀ m' v H', Stp (C.S F) m H m' H' → Rl (C.S F) m' h' H' → VR (C.S F) m' H' v d → D.rt v H'
  | .bk env' h' => ∀ m' σ' H', Stp (C.S F) m H m' H' → Rl (C.S F) m' h' H' → EnvR (C.S F) m' H' σ' env' → D.bk σ' H'
  | .ct env' h' => ∀ m' σ' H', Stp (C.S F) m H m' H' → Rl (C.S F) m' h' H' → EnvR (C.S F) m' H' σ' env' → D.ct σ' H'
  | .ex c fs env' h' => ∀ m' σ' H' Cl dd ws, Stp (C.S F) m H m' H' → Rl (C.S F) m' h' H' → EnvR (C.S F) m' H' σ' env' → C.mg c = some (.ref Cl) → H' dd = some (.xd ws) → KR (C.S F) m' H' ws fs → C.W (.ref Cl) (some dd) σ' H'
  | .no => False
def SS (C : Cs) (st : Stmt) (f : Fs) : Prop := ∀ F m h env H σ D, Rl (C.S F) m h H → EnvR (C.S F) m H σ env → SPost C F m H D (f env h) → sAny C st D σ H
def SB (C : Cs) (b : List Stmt) (f : Fs) : Prop := ∀ F m h env H σ D, Rl (C.S F) m h H → EnvR (C.S F) m H σ env → SPost C F m H D (f env h) → bAny C b D σ H
/-- an expression's answer, then a statement's -/
def Out.thenS {α : Type} (o : Out α) (env : Ev) (k : α → MHp → SOut) : SOut := match o with
  | .ok a h => k a h
  | .ex c fs h => .ex c fs env h
  | .no => .no
section
variable {C : Cs} {F : Addr → Prop} {m m1 : Mm} {h : MHp} {H H1 : Hp} {σ : L2.St} {env : Ev} {D : Ends}
theorem SPost.step {o : SOut} (s : Stp (C.S F) m H m1 H1) (p : SPost C F m H D o) : SPost C F m1 H1 D o := by
  cases o with
  | nx e h' => exact fun m' σ' H' st => p m' σ' H' (s.trans st)
  | rt d h' => exact fun m' v H' st => p m' v H' (s.trans st)
  | bk e h' => exact fun m' σ' H' st => p m' σ' H' (s.trans st)
  | ct e h' => exact fun m' σ' H' st => p m' σ' H' (s.trans st)
  | ex c fs e h' => exact fun m' σ' H' Cl dd ws st => p m' σ' H' Cl dd ws (s.trans st)
  | no => exact p
/-- an expression first -/
theorem SPost.bind {β α : Type} {k : Kd β α} {o : Out α} {f : α → MHp → SOut} {Q : β → Hp → Prop} (E : EnvR (C.S F) m H σ env) (p : SPost C F m H D (o.thenS env f))
    (hk : ∀ a h1 m1 x H1, o = .ok a h1 → Stp (C.S F) m H m1 H1 → Rl (C.S F) m1 h1 H1 → k.rel (C.S F) H m1 H1 x a → SPost C F m1 H1 D (f a h1) → Q x H1) : Post C F m H σ k o Q := by
  cases o with
  | ok a h' => exact fun m' x H' st rl r => hk a h' m' x H' rfl st (k.rlOf rl) r (SPost.step st p)
  | ex c fs h' => exact fun m' H' Cl dd ws st rl hc hd kr => p m' σ H' Cl dd ws st rl (E.step st) hc hd kr
  | no => exact p
theorem ss_of {st : Stmt} {t : TS} {f : Fs} (h : ∀ i, PS (C.X i) st t) (ev : ∀ F m h env H σ D, Rl (C.S F) m h H → EnvR (C.S F) m H σ env → SPost C F m H D (f env h) → t D σ H) : SS C st f := fun F m hh env H σ D R E p => ⟨t, h, ev F m hh env H σ D R E p⟩
end
/-! ### blocks -/
def sNil : Fs := fun env h => .nx env h
def sSeq (f g : Fs) : Fs := fun env h => match f env h with
  | .nx e h1 => g e h1
  | o => o
section
variable {C : Cs} {st : Stmt} {rest : List Stmt} {e a b o : Expr} {f g : Fs} {fe fa fb fo : Fe} {pos pos' p2 : Pos}
theorem sb_nil : SB C [] sNil := fun F m h env H σ D R E p => ⟨tNext, fun _ => pss_nil, p m σ H .refl R E⟩
theorem sb_cons (h1 : SS C st f) (h2 : SB C rest g) : SB C (st :: rest) (sSeq f g) := fun F m h env H σ D R E p => ⟨tSeq (sAny C st) (bAny C rest), fun j => pss_cons (ps_any C st j) (pb_any C rest j), h1 F m h env H σ _ R E (by
  unfold sSeq at p
  cases q : f env h with
  | nx e h' =>
    rw [q] at p
    exact fun m' σ' H' s R' E' => h2 F m' h' e H' σ' D R' E' (SPost.step s p)
  | rt d h' => rw [q] at p; exact p
  | bk e h' => rw [q] at p; exact p
  | ct e h' => rw [q] at p; exact p
  | ex c fs e h' => rw [q] at p; exact p
  | no => rw [q] at p; exact p)⟩
/-! ### simple statements -/
theorem ss_pass : SS C (.Pass pos) sNil := ss_of (fun _ => ps_pass) fun F m h env H σ D R E p => p m σ H .refl R E
def sBrk : Fs := fun env h => .bk env h
def sCnt : Fs := fun env h => .ct env h
theorem ss_brk : SS C (.Break pos) sBrk := ss_of (fun _ => ps_break) fun F m h env H σ D R E p => p m σ H .refl R E
theorem ss_cnt : SS C (.Continue pos) sCnt := ss_of (fun _ => ps_continue) fun F m h env H σ D R E p => p m σ H .refl R E
def sDo (f : Fe) : Fs := fun env h => (f env h).thenS env fun _ h1 => .nx env h1
theorem ss_do (hs : ∀ (n : Nat) (env : Env), swapsWith e none n env = pure false) (ha : SE C e fe) : SS C (.Expr e pos) (sDo fe) :=
  ss_of (fun j => ps_expr (pe_any C e j) (hs _ _)) fun F m h env H σ D R E p => ha F m h env H σ R E _ (SPost.bind E p fun r h1 m1 x H1 e1 s1 R1 r1 p1 => p1 m1 σ H1 .refl R1 (E.step s1))
def sRet (f : Fe) : Fs := fun env h => (f env h).thenS env fun r h1 => .rt r.toV h1
def sRetN : Fs := fun _ h => .rt .non h
theorem ss_ret (ha : SE C e fe) : SS C (.Return (some e) pos) (sRet fe) :=
  ss_of (fun j => ps_ret (pe_any C e j)) fun F m h env H σ D R E p => ha F m h env H σ R E _ (SPost.bind E p fun r h1 m1 x H1 e1 s1 R1 r1 p1 => p1 m1 x H1 .refl R1 (RR.toV r1))
theorem ss_retN : SS C (.Return none pos) sRetN := ss_of (fun _ => ps_retN) fun F m h env H σ D R E p => p m .non H .refl R .non
/-! ### assignments -/
def sAsg (p : Pat) (f : Fe) : Fs := fun env h => (f env h).thenS env fun r h1 => match asg p r.toV env with
  | some env1 => .nx env1 h1
  | none => .no
theorem ev_asg {p : Pat} {tg : Expr} (hp : SG C tg p) (ha : SE C e fe) {F m h env H σ D} (R : Rl (C.S F) m h H) (E : EnvR (C.S F) m H σ env) (q : SPost C F m H D (sAsg p fe env h)) : tAsg (eAny C e) (gAny C tg) D σ H :=
  ha F m h env H σ R E _ (SPost.bind E q fun r h1 m1 x H1 e1 s1 R1 r1 p1 => by
    split at p1
    · rename_i env1 ea
      exact hp F m1 H1 env σ x r.toV env1 (E.step s1) (RR.toV r1) ea _ fun σ' E' _ => p1 m1 σ' H1 .refl R1 E'
    · exact p1.elim)
theorem ss_asg {p : Pat} {tg : Expr} (hs : ∀ (n : Nat) (j : C.ι), swapsWithSole [tg] e n (C.X j).env = pure false) (hw : ∀ env : Env, swappedStores [tg] e env = pure none) (h1 : ∀ env : Env, (assignEach [tg] env).map (·.2) = [assign tg env]) (hp : SG C tg p) (ha : SE C e fe) : SS C (.Assign [tg] e pos) (sAsg p fe) :=
  ss_of (fun j => ps_asg (pe_any C e j) (pg_any C tg j) (hs _ j) (hw _) (h1 _)) fun F m h env H σ D R E q => ev_asg hp ha R E q
/-- o.f = e -/
def fPut : List (Str × MV) → Str → MV → List (Str × MV)
  | [], f, d => [(f, d)]
  | (g, x) :: r, f, d => if g = f then (g, d) :: r else (g, x) :: fPut r f d
theorem KR.putF {S : Sx} {m : Mm} {H : Hp} {f : Str} {v : V} {d : MV} (hv : VR S m H v d) : ∀ {ws : List (Str × V)} {fs : List (Str × MV)}, KR S m H ws fs → KR S m H (L2.putF f v ws) (fPut fs f d)
  | _, _, .nil => .cons hv .nil
  | (g, _) :: _, _, .cons h r => by
    unfold L2.putF fPut
    by_cases e : g = f
    · rw [if_pos e, if_pos e]; exact .cons hv r
    · rw [if_neg e, if_neg e]; exact .cons h (KR.putF hv r)
def fldPut (na : Flds) (h : MHp) (o : RV) (f : Str) (d : MV) : Option MHp := match o with
  | .v (.ref n) => match h[n]? with
    | some (.ins c fs) => if na c f = true ∧ fs.length < 1000 then some (h.set n (.ins c (fPut fs f d))) else none
    | _ => none
  | _ => none
def sFldM (na : Flds) (fo fe : Fe) (f : Str) : Fs := fun env h => (fe env h).thenS env fun r h1 => (fo env h1).thenS env fun o h2 => match fldPut na h2 o f r.toV with
  | some h3 => .nx env h3
  | none => .no
theorem ss_fld {na : Flds} {fld : Str} (hna : FldOk C na) (hs : ∀ (n : Nat) (env : Env), swapsWith e (some (.Attribute o fld pos')) n env = pure false) (ho : SE C o fo) (he : SE C e fe) : SS C (.Assign [.Attribute o fld pos'] e pos) (sFldM na fo fe fld) :=
  ss_of (t := sFld C.K (eAny C o) (eAny C e) fld) (fun j => kx (p := fun K => PS (C.X j) _ (sFld K (eAny C o) (eAny C e) fld)) j (ps_fld (pe_any C o j) (pe_any C e j) (hs _ _))) fun F m h env H σ D R E q =>
    he F m h env H σ R E _ (SPost.bind E q fun r h1 m1 y H1 e1 s1 R1 r1 p1 => ho F m1 h1 env H1 σ R1 (E.step s1) _ (SPost.bind (E.step s1) p1 fun ro h2 m2 x H2 e2 s2 R2 r2 p2 => by
      split at p2
      · rename_i h3 e3
        unfold fldPut at e3
        split at e3
        · rename_i n
          split at e3
          · rename_i c fs en
            split at e3
            · rename_i hn
              cases e3
              obtain ⟨a', rfl, hm, Ca, dx, ws, hc, k1, k2⟩ := R2.at (rr_v r2) en (fun z => nomatch z)
              obtain ⟨c1, c2⟩ := hna c Ca fld hn.1 hc
              refine ⟨a', Ca, dx, ws, rfl, k1, c1, c2, by rw [k2.length]; exact hn.2, ?_⟩
              have hy : VR (C.S F) m2 H2 y r.toV := RR.toV (kE.step s2 r1)
              have st : Stp (C.S F) m2 H2 m2 (upd H2 a' (.ins Ca dx (putF fld y ws))) := .mut R2 hm
              exact p2 m2 σ _ st (R2.mut hm ⟨Ca, dx, _, hc, upd_same, (k2.putF hy).step st⟩) (((E.step s1).step s2).step st)
            · cases e3
          · cases e3
        · cases e3
      · exact p2.elim))
/-- o[i] = e : of a list, of a dict -/
def ixPut (h : MHp) (o k : RV) (d : MV) : Option MHp := match o, k with
  | .v (.ref n), .v (.int i) => match lstAt h n with
    | some ds => match ixN ds.length i with
      | some j => some (h.set n (.lst (ds.set j d)))
      | none => none
    | none => dPut h o k d
  | _, _ => dPut h o k d
def setAny (C : Cs) : TSet := fun o i v H Q => ∃ t : TSet, (∀ j, PSet (C.X j) t) ∧ t o i v H Q
theorem pset_any (C : Cs) (j : C.ι) : PSet (C.X j) (setAny C) := fun pins s σ H o i v ov iv u Q I ro ri rv h => by
  obtain ⟨t, ht, q⟩ := h
  exact ht j pins s σ H o i v ov iv u Q I ro ri rv q
theorem ix_put {F : Addr → Prop} {m : Mm} {h h' : MHp} {H H0 : Hp} {x y z : V} {ro rk : RV} {d : MV} {Q : Hp → Prop} (R : Rl (C.S F) m h H) (hx : RR (C.S F) H0 m H x ro) (hy : RR (C.S F) H0 m H y rk) (hz : VR (C.S F) m H z d) (e : ixPut h ro rk d = some h') (q : ∀ H', Stp (C.S F) m H m H' → Rl (C.S F) m h' H' → Q H') : setAny C x y z H Q := by
  have dict : dPut h ro rk d = some h' → setAny C x y z H Q := fun e => by
    obtain ⟨a, H', rfl, hp, st, R'⟩ := d_put R hx hy hz e
    exact ⟨_, fun j => set_dict (by have := C.hu j; omega), a, H', rfl, hp, q H' st R'⟩
  unfold ixPut at e
  split at e
  · rename_i n i
    split at e
    · rename_i ds e1
      split at e
      · rename_i j e2
        cases e
        obtain ⟨a, rfl, hm, vs, h1, h2⟩ := R.at (rr_v hx) (lstAt_eq.mp e1) (fun z => nomatch z)
        have st : Stp (C.S F) m H m (upd H a (.lst (vs.set j z))) := .mut R hm
        exact ⟨_, fun _ => set_list, a, vs, i, j, rfl, vr_int (rr_v hy), h1, by rw [h2.length]; exact e2, q _ st (R.mut hm ⟨_, upd_same, (h2.set hz j).step st⟩)⟩
      · cases e
    · exact dict e
  · exact dict e
def sIxM (fo fk fe : Fe) : Fs := fun env h => (fe env h).thenS env fun r h1 => (fo env h1).thenS env fun o h2 => (fk env h2).thenS env fun k h3 => match ixPut h3 o k r.toV with
  | some h4 => .nx env h4
  | none => .no
theorem ss_ix (hb : ∀ env v, assign (.Subscript o b p2) env v = (do
      let ov ← holding [v] (eval o env)
      let iv ← holding [v, ov] (eval b env)
      standAt p2
      holding [v, ov, iv] (setItem ov iv v)
      release [v, ov, iv] [])) (hs : ∀ (n : Nat) (env : Env), swapsWithSole [.Subscript o b p2] e n env = pure false) (hw : ∀ env : Env, swappedStores [.Subscript o b p2] e env = pure none) (ho : SE C o fo) (hk : SE C b fb) (he : SE C e fe) : SS C (.Assign [.Subscript o b p2] e pos) (sIxM fo fb fe) :=
  ss_of (t := tAsg (eAny C e) (gSub (eAny C o) (eAny C b) (setAny C))) (fun j => ps_asg (pe_any C e j) (pg_sub (pe_any C o j) (pe_any C b j) (pset_any C j) (hb _)) (hs _ _) (hw _) rfl) fun F m h env H σ D R E q =>
    he F m h env H σ R E _ (SPost.bind E q fun r h1 m1 z H1 e1 s1 R1 r1 p1 => ho F m1 h1 env H1 σ R1 (E.step s1) _ (SPost.bind (E.step s1) p1 fun ro h2 m2 x H2 e2 s2 R2 r2 p2 => hk F m2 h2 env H2 σ R2 ((E.step s1).step s2) _ (SPost.bind ((E.step s1).step s2) p2 fun rk h3 m3 y H3 e3 s3 R3 r3 p3 => by
      split at p3
      · rename_i h4 e4
        exact ix_put R3 (kE.step s3 (kE.back s1 r2)) (kE.back (s1.trans s2) r3) (RR.toV (kE.step (s2.trans s3) r1)) e4 fun H' st R4 => p3 m3 σ H' st R4 ((((E.step s1).step s2).step s3).step st)
      · exact p3.elim)))
end
end Mp

/-! M13: if, while, for; a comprehension stored on its own line. -/
namespace Mp
open PySem PySem.Spec PyProof.Rows L2
def sIf (g : Ft) (f1 f2 : Fs) : Fs := fun env h => (g env h).thenS env fun k h1 => if k = true then f1 env h1 else f2 env h1
/-- n turns at most -/
def sWh (g : Ft) (f : Fs) : Nat → Fs
  | 0, _, _ => .no
  | n + 1, env, h => (g env h).thenS env fun k h1 => if k = true then match f env h1 with
      | .nx e h2 => sWh g f n e h2
      | .ct e h2 => sWh g f n e h2
      | .bk e h2 => .nx e h2
      | .rt d h2 => .rt d h2
      | .ex c fs e h2 => .ex c fs e h2
      | .no => .no
    else .nx env h1
def sForL (it : Itm) (p : Pat) (f : Fs) : Nat → Nat → Fs
  | 0, _, _, _ => .no
  | n + 1, i, env, h => match it.at h i with
    | some none => .nx env h
    | some (some d) => match asg p d env with
      | some env1 => match f env1 h with
        | .nx e h2 => sForL it p f n (i + 1) e h2
        | .ct e h2 => sForL it p f n (i + 1) e h2
        | .bk e h2 => .nx e h2
        | .rt d h2 => .rt d h2
        | .ex c fs e h2 => .ex c fs e h2
        | .no => .no
      | none => .no
    | none => .no
def sFor (fi : Fi) (p : Pat) (f : Fs) : Fs := fun env h => (fi env h).thenS env fun it h1 => sForL it p f (it.fuel h1) 0 env h1
section
variable {C : Cs} {c e tg iter elt : Expr} {b1 b2 body : List Stmt} {g : Ft} {f f1 f2 : Fs} {fi : Fi} {p : Pat} {pos : Pos}
theorem ss_if (hc : ST C c g) (h1 : SB C b1 f1) (h2 : SB C b2 f2) : SS C (.If c b1 b2 pos) (sIf g f1 f2) :=
  ss_of (fun j => ps_if (pt_any C c j) (pb_any C b1 j) (pb_any C b2 j)) fun F m h env H σ D R E q => hc F m h env H σ R E _ (SPost.bind E q fun k h1' m1 x H1 e1 s1 R1 r1 p1 => by
    cases r1
    cases k with
    | true => rw [if_pos rfl] at p1 ⊢; exact h1 F m1 h1' env H1 σ D R1 (E.step s1) p1
    | false => rw [if_neg Bool.false_ne_true] at p1 ⊢; exact h2 F m1 h1' env H1 σ D R1 (E.step s1) p1)
/-- a turn's end -/
theorem turn_end {C : Cs} {F : Addr → Prop} {m : Mm} {H : Hp} {D : Ends} {N : L2.St → Hp → Prop} {o : SOut} {k : Fs} (p : SPost C F m H D (match o with
      | .nx e h2 => k e h2
      | .ct e h2 => k e h2
      | .bk e h2 => .nx e h2
      | .rt d h2 => .rt d h2
      | .ex c fs e h2 => .ex c fs e h2
      | .no => .no)) (hN : ∀ e h2 m' σ' H', Stp (C.S F) m H m' H' → Rl (C.S F) m' h2 H' → EnvR (C.S F) m' H' σ' e → SPost C F m H D (k e h2) → N σ' H') : SPost C F m H { D with nx := N, ct := N, bk := D.nx } o := by
  cases o with
  | nx e h2 => exact fun m' σ' H' s R E => hN e h2 m' σ' H' s R E p
  | ct e h2 => exact fun m' σ' H' s R E => hN e h2 m' σ' H' s R E p
  | bk e h2 => exact p
  | rt d h2 => exact p
  | ex c fs e h2 => exact p
  | no => exact p
theorem ss_while [hc : Cold C] (n : Nat) (ht : ST C c g) (hb : SB C body f) : SS C (.While c body [] pos) (sWh g f n) :=
  ss_of (fun j => ps_while (C.owns hc.h j) (pt_any C c j) (pb_any C body j)) fun F m h env H σ D R E q => by
    refine ⟨fun k σ' H' => ∃ m' h' env', Rl (C.S F) m' h' H' ∧ EnvR (C.S F) m' H' σ' env' ∧ SPost C F m' H' D (sWh g f k env' h'), ⟨n, m, h, env, R, E, q⟩, ?_⟩
    rintro k σ' H' ⟨m', h', env', R', E', q'⟩
    cases k with
    | zero => exact q'.elim
    | succ k =>
      refine ht F m' h' env' H' σ' R' E' _ (SPost.bind E' q' fun b h1 m1 x H1 e1 s1 R1 r1 p1 => ?_)
      cases r1
      cases b with
      | false =>
        rw [if_neg Bool.false_ne_true] at p1 ⊢
        exact p1 m1 σ' H1 .refl R1 (E'.step s1)
      | true =>
        rw [if_pos rfl] at p1 ⊢
        refine ⟨fun σ2 H2 => ∃ m2 h2 env2, Rl (C.S F) m2 h2 H2 ∧ EnvR (C.S F) m2 H2 σ2 env2 ∧ SPost C F m2 H2 D (sWh g f k env2 h2), fun σ2 H2 w => ⟨k, Nat.lt_succ_self _, w⟩, ?_⟩
        exact hb F m1 h1 env' H1 σ' _ R1 (E'.step s1) (turn_end p1 fun e h2 m2 σ2 H2 s2 R2 E2 p2 => ⟨m2, h2, e, R2, E2, SPost.step s2 p2⟩)
theorem ss_for [hc : Cold C] (hs : ∀ (env : Env) (x : Value), foldedSetIterable iter env x = pure x) (hi : SI C tg iter fi) (hp : SG C tg p) (hb : SB C body f) : SS C (.For tg iter body [] pos) (sFor fi p f) :=
  ss_of (fun j => ps_for (C.owns hc.h j) (C.calm j hc.h) (pi_any C tg iter j) (pg_any C tg j) (pb_any C body j) (hs _)) fun F m h env H σ D R E q =>
    hi F m h env H σ R E _ (SPost.bind E q fun it h1 m1 J H1 e1 s1 R1 r1 p1 => by
      refine ⟨fun i k σ' H' => ∃ m' h' env', Stp (C.S F) m1 H1 m' H' ∧ Rl (C.S F) m' h' H' ∧ EnvR (C.S F) m' H' σ' env' ∧ SPost C F m' H' D (sForL it p f k i env' h'), ⟨_, m1, h1, env, .refl, R1, E.step s1, p1⟩, ?_⟩
      rintro i k σ' H' ⟨m', h', env', s, R', E', q'⟩
      cases k with
      | zero => exact q'.elim
      | succ k =>
        unfold sForL at q'
        have w := r1 F m' h' H' i (fun a fa => .inl fa) s.w R'
        cases ea : it.at h' i with
        | none => rw [ea] at q'; exact q'.elim
        | some o =>
          rw [ea] at q' w
          cases o with
          | none => exact .inl ⟨w, q' m' σ' H' .refl R' E'⟩
          | some d =>
            simp only at q' w
            cases eb : asg p d env' with
            | none => rw [eb] at q'; exact q'.elim
            | some env1 =>
              rw [eb] at q'
              simp only at q'
              refine .inr ⟨w.1, fun σ2 H2 => ∃ m2 h2 env2, Stp (C.S F) m1 H1 m2 H2 ∧ Rl (C.S F) m2 h2 H2 ∧ EnvR (C.S F) m2 H2 σ2 env2 ∧ SPost C F m2 H2 D (sForL it p f k (i + 1) env2 h2), fun σ2 H2 w => ⟨k, Nat.lt_succ_self _, w⟩, fun x H2 y => ?_⟩
              obtain ⟨s2, R2, v2⟩ := w.2 x H2 y
              refine hp F m' H2 env' σ' x d env1 (E'.step s2) v2 eb _ fun σ3 E3 _ => ?_
              exact hb F m' h' env1 H2 σ3 _ R2 E3 (turn_end (SPost.step s2 q') fun e h4 m4 σ4 H4 s4 R4 E4 p4 => ⟨m4, h4, e, (s.trans s2).trans s4, R4, E4, SPost.step s4 p4⟩))
/-- x = [..] on one line, x a local -/
theorem ss_set {t : TE} {fe : Fe} {i : Nat} {y : Str} {py : Pos} (hy : C.N[i]? = some y) (hps : ∀ j, PS (C.X j) (.Assign [.Name y py] e pos) (tAsg t (gName i))) (he : RE C t fe) : SS C (.Assign [.Name y py] e pos) (sAsg (.nm i) fe) :=
  ss_of hps fun F m h env H σ D R E q => he F m h env H σ R E _ (SPost.bind E q fun r h1 m1 x H1 e1 s1 R1 r1 p1 => p1 m1 _ H1 .refl R1 ((E.step s1).set i (RR.toV r1)))
end
end Mp

/-! M14: defs, their calls, methods, new objects. -/
namespace Mp
open PySem PySem.Spec PyProof.Rows L2
abbrev Fn := List MV → MHp → Out MV
/-- what a def that follows φ promises -/
def spM (K : Fg) (mg : Str → Option Value) (T : Addr → Prop) (φ : Fn) : Sp := fun vs H Q E => ∃ F m h ds, Rl ⟨K, mg, T, F, []⟩ m h H ∧ VRs ⟨K, mg, T, F, []⟩ m H vs ds ∧ match φ ds h with
  | .ok d h' => ∀ m' v H', Stp ⟨K, mg, T, F, []⟩ m H m' H' → Rl ⟨K, mg, T, F, []⟩ m' h' H' → VR ⟨K, mg, T, F, []⟩ m' H' v d → Q v H'
  | .ex c fs h' => ∀ m' H' Cl dd ws, Stp ⟨K, mg, T, F, []⟩ m H m' H' → Rl ⟨K, mg, T, F, []⟩ m' h' H' → mg c = some (.ref Cl) → H' dd = some (.xd ws) → KR ⟨K, mg, T, F, []⟩ m' H' ws fs → E (.ref Cl) (some dd) H'
  | .no => False
/-- the context of a def's body -/
def Cs.fn (P : Program) (w : World) (K : Fg) (mg : Str → Option Value) (base : Heap) {N : List Str} (nd : N.Nodup) (qual : Str) (scope : Scope) (f : Addr) (cdv : Value) (A : Around) (outer : List Env) (s : Shared) (H : Hp) (E : XK) {k : Nat}
    (hr : Room k (A.deeper (envOfC qual scope s.heap.objs.size f cdv))) (T : Addr → Prop) : Cs where
  ι := Unit
  X := fun _ => cxOf (L2N.CX P w) P w K mg base N qual scope f cdv A outer s H E
  P := P
  w := w
  K := K
  mg := mg
  base := base
  N := N
  k := k
  hP := fun _ => rfl
  hw := fun _ => rfl
  hK := fun _ => rfl
  hmg := fun _ => rfl
  hbase := fun _ => rfl
  hN := fun _ => rfl
  nd := nd
  calm := fun _ _ => rfl
  cold := fun _ _ => hr
  hotc := fun _ z => Bool.noConfusion z
  W := fun cls d _ H' => E cls d H'
  takes := fun _ => L2N.takes_of rfl rfl rfl rfl
  T := T
  owns := fun _ _ => passes_of rfl
instance {P : Program} {w : World} {K : Fg} {mg : Str → Option Value} {base : Heap} {N : List Str} {nd : N.Nodup} {qual : Str} {scope : Scope} {f : Addr} {cdv : Value} {A : Around} {outer : List Env} {s : Shared} {H : Hp} {E : XK} {k : Nat} {hr : Room k (A.deeper (envOfC qual scope s.heap.objs.size f cdv))} {T : Addr → Prop} :
    Cold (Cs.fn P w K mg base nd qual scope f cdv A outer s H E hr T) := ⟨rfl, rfl⟩
/-- a body's end -/
def bodyOut : SOut → Out MV
  | .nx _ h => .ok .non h
  | .rt d h => .ok d h
  | .ex c fs _ h => .ex c fs h
  | _ => .no
def envOf (n : Nat) (ds : List MV) : Ev := ds.map some ++ List.replicate (n - ds.length) none
/-- the def's function, of its body's -/
def fnOfBody (np n : Nat) (f : Fs) : Fn := fun ds h => if ds.length = np then bodyOut (f (envOf n ds) h) else .no
theorem env_start {S : Sx} {m : Mm} {H : Hp} {vs : List V} {ds : List MV} {N : List Str} (hv : VRs S m H vs ds) : EnvR S m H (L2.start N vs) (envOf N.length ds) := by
  refine ⟨?_, fun i d e => ?_⟩
  · unfold L2.start envOf
    simp [hv.length]
  · unfold envOf at e
    by_cases hi : i < ds.length
    · rw [List.getElem?_append_left (by rw [List.length_map]; exact hi), List.getElem?_map] at e
      obtain ⟨d', e1, e2⟩ := Option.map_eq_some_iff.mp e
      cases e2
      obtain ⟨v, h1, h2⟩ := hv.get e1
      refine ⟨v, ?_, h2⟩
      unfold L2.start
      rw [List.getElem?_append_left (by rw [List.length_map, hv.length]; exact hi), List.getElem?_map, h1]
      rfl
    · rw [List.getElem?_append_right (by rw [List.length_map]; omega), List.getElem?_replicate] at e
      split at e <;> cases e
section
variable {P : Program} {w : World} {K : Fg} {mg : Str → Option Value} {base : Heap}
theorem fn_okM {x qual : Str} {st : Stmt} {f : Addr} {fd : FuncData} {N ps : List Str} {k : Nat} {T : Addr → Prop} {fb : Fs} (Fu : Fun K x qual st f fd) (S : FnScope N ps (defScope st))
    (body : ∀ (cdv : Value) (A : Around) (outer : List Env) (s : Shared) (H : Hp) (E : XK) (hr : Room k (A.deeper (envOfC qual (defScope st) s.heap.objs.size f cdv))), SB (Cs.fn P w K mg base S.nd qual (defScope st) f cdv A outer s H E hr T) (defBody st) fb) :
    FnOk P w K mg base (L2N.CX P w) (k + 1) f fd ps (spM K mg T (fnOfBody ps.length N.length fb)) := by
  obtain ⟨oc, od, kV, doc, pm, an, cdv, ct, osl, rfl, lk, hcd⟩ := Fu.ex
  have len' : ∀ vs H Q E, spM K mg T (fnOfBody ps.length N.length fb) vs H Q E → vs.length = ps.length := fun vs H Q E h => by
    obtain ⟨F, m, h, ds, _, hv, hq⟩ := h
    unfold fnOfBody at hq
    split at hq
    · next hh =>
      by_cases hl : ds.length = ps.length
      · rw [hv.length, hl]
      · rw [if_neg hl] at hh; cases hh
    · next hh =>
      by_cases hl : ds.length = ps.length
      · rw [hv.length, hl]
      · rw [if_neg hl] at hh; cases hh
    · exact hq.elim
  refine fn_of lk hcd S len' fun A outer s H vs Q E hr h => ?_
  have hlen := len' _ _ _ _ h
  obtain ⟨F, m, h, ds, R, hv, hq⟩ := h
  unfold fnOfBody at hq
  rw [if_pos (by rw [← hv.length, hlen])] at hq
  refine ⟨_, pb_any (Cs.fn P w K mg base S.nd qual (defScope st) f cdv A outer s H E hr T) (defBody st) (), ?_⟩
  refine body cdv A outer s H E hr F m h (envOf N.length ds) H (L2.start N vs) _ R (env_start hv) ?_
  cases q : fb (envOf N.length ds) h with
  | nx e h' => rw [q] at hq; exact fun m' σ' H' s R' E' => hq m' .non H' s R' .non
  | rt d h' => rw [q] at hq; exact hq
  | bk e h' => rw [q] at hq; exact hq.elim
  | ct e h' => rw [q] at hq; exact hq.elim
  | ex c fs e h' => rw [q] at hq; exact fun m' σ' H' Cl dd ws s R' _ => hq m' H' Cl dd ws s R'
  | no => rw [q] at hq; exact hq.elim
end
/-- a def as callers see it: it follows φ -/
structure FnM (P : Program) (w : World) (K : Fg) (mg : Str → Option Value) (base : Heap) (T : Addr → Prop) (k : Nat) (f : Addr) (φ : Fn) : Prop where
  ex : ∃ fd ps, FnOk P w K mg base (L2N.CX P w) k f fd ps (spM K mg T φ) ∧ PySem.W.keepIn K (.ref f) = true ∧ Binds K fd ps []
/-- .. nothing is raised -/
theorem fn_cx0 {P : Program} {w : World} {K : Fg} {mg : Str → Option Value} {base : Heap} {T : Addr → Prop} {k : Nat} {f : Addr} {fd : FuncData} {ps : List Str} {φ : Fn} (F : FnOk P w K mg base (L2N.CX P w) k f fd ps (spM K mg T φ)) : FnOk P w K mg base CX0 k f fd ps (spM K mg T fun ds h => noEx (φ ds h)) := by
  have key : ∀ vs H Q E, spM K mg T (fun ds h => noEx (φ ds h)) vs H Q E → spM K mg T φ vs H Q fun _ _ _ => False := fun vs H Q E h => by
    obtain ⟨F', m, h, ds, R, hv, hq⟩ := h
    refine ⟨F', m, h, ds, R, hv, ?_⟩
    dsimp only at hq
    cases q : φ ds h with
    | ok d h' => rw [q] at hq; exact hq
    | ex c fs h' => rw [q] at hq; exact hq.elim
    | no => rw [q] at hq; exact hq.elim
  refine ⟨fun vs H Q E h => F.len vs H Q _ (key vs H Q E h), fun A outer s H args us vs Q E hr e0 hb r h => codeAny_mono (F.run A outer s H args us vs Q _ hr e0 hb r (key vs H Q E h)) fun r' s' hr' => ?_⟩
  cases r' with
  | ok fl => cases fl <;> exact hr'
  | error e =>
    obtain ⟨_, _, _, _, _, _, _, _, _, _, _, _, z⟩ := hr'
    exact z.elim
section
variable {C : Cs} {e a o : Expr} {es : List Expr} {f fo : Fe} {g : Fa} {x : Str} {φ : Fn} {pos p p2 apos : Pos} {k : Nat} {ad : Addr}
def eCall (φ : Fn) (g : Fa) : Fe := fun env h => (g env h).bind fun ds h1 => (φ ds h1).bind fun d h2 => .ok (.v d) h2
theorem fnAt {sp : Sp} {CX : CXT} {fd : FuncData} {ps : List Str} (F : FnOk C.P C.w C.K C.mg C.base CX k ad fd ps sp) (hk : k ≤ C.k) (j : C.ι) : FnOk (C.X j).prog (C.X j).w (C.X j).K (C.X j).mg (C.X j).base CX C.k ad fd ps sp := by
  rw [C.hP, C.hw, C.hK, C.hmg, C.hbase]
  exact F.mono hk
theorem fnAtX {sp : Sp} {fd : FuncData} {ps : List Str} (F : FnOk C.P C.w C.K C.mg C.base (L2N.CX C.P C.w) k ad fd ps sp) (hk : k ≤ C.k) (j : C.ι) : FnOk (C.X j).prog (C.X j).w (C.X j).K (C.X j).mg (C.X j).base (L2N.CX (C.X j).prog (C.X j).w) C.k ad fd ps sp := by
  rw [C.hP, C.hw, C.hK, C.hmg, C.hbase]
  exact F.mono hk
/-- behind the arguments of a call -/
theorem post_call [hc : Cold C] {F : Addr → Prop} {m : Mm} {h : MHp} {H : Hp} {σ : L2.St} {ds : List MV} {vs : List V} {Q : VK} (R : Rl (C.S F) m h H) (hv : VRs (C.S F) m H vs ds) (q : Post C F m H σ kE ((φ ds h).bind fun d h2 => .ok (.v d) h2) Q) : spM C.K C.mg C.T φ vs H Q (WE C.W σ) := by
  refine ⟨F, m, h, ds, ?_⟩
  rw [← cold_S F]
  refine ⟨R, hv, ?_⟩
  cases e : φ ds h with
  | ok d h' => rw [e] at q; exact fun m' v H' s R' hv' => q m' v H' s R' (.v hv')
  | ex c fs h' => rw [e] at q; exact fun m' H' Cl dd ws s R' hc hd kr => q m' H' Cl dd ws s R' hc hd kr
  | no => rw [e] at q; exact q.elim
theorem se_call [hc : Cold C] (F : FnM C.P C.w C.K C.mg C.base C.T k ad φ) (hk : k ≤ C.k) (hm : C.mg x = some (.ref ad)) (hg : ∀ j, Gl (C.X j) x) (hdb : (x == ("__debug__" : Str)) = false) (hs : NS e) (hss : ∀ y ∈ es, NS y) (ha : SA C (e :: es) g) : SE C (.Call (.Name x p) (e :: es) [] pos) (eCall φ g) := by
  obtain ⟨fd, ps, G, kp, hb⟩ := F.ex
  exact se_of (t := tCallS (spM C.K C.mg C.T φ) (WE C.W) (aAny C (e :: es))) (fun j => pe_callS (fnAtX G hk j) (C.cold j hc.h) (hg j) (by rw [C.hmg]; exact hm) (by rw [C.hK]; exact kp) (by rw [C.hK]; exact hb) (fun σ => L2N.passAt (C.takes j) σ) (pa_any C (e :: es) j) hdb (hs _ _) (ns_any hss _ _))
    fun F m h env H σ R E Q q => ha F m h env H σ R E _ (q.bind fun ds h1 m1 vs H1 e1 s1 R1 r1 p1 => post_call R1 r1 p1)
/-! methods -/
/-- what is known of the classes: where their methods stand -/
structure MethC (C : Cs) (c m : Str) (Ca f : Addr) (na : Flds) : Prop where
  g : C.mg c = some (.ref Ca)
  cl : Cls C.K Ca
  me : Meth C.K Ca m f
  nf : na c m = false
/-- an instance of the class c; the method's name is none of its fields -/
def isIns (c m : Str) (h : MHp) (o : RV) : Bool := match o with
  | .v (.ref n) => match h[n]? with
    | some (.ins c' fs) => decide (c' = c) && (kvLook fs m).isNone
    | _ => false
  | _ => false
theorem KR.look_none {S : Sx} {m : Mm} {H : Hp} {f : Str} : ∀ {ws : List (Str × V)} {fs : List (Str × MV)}, KR S m H ws fs → kvLook fs f = none → ws.lookup f = none
  | _, _, .nil, _ => rfl
  | (g, v) :: ws, (_, d') :: fs, .cons h r, e => by
    unfold kvLook at e
    rw [List.lookup_cons]
    cases q : (f == g) with
    | true => rw [q, if_pos rfl] at e; cases e
    | false => rw [q, if_neg Bool.false_ne_true] at e; exact KR.look_none r e
theorem is_ins {F : Addr → Prop} {m : Mm} {h : MHp} {H H0 : Hp} {x : V} {r : RV} {c me : Str} (R : Rl (C.S F) m h H) (hr : RR (C.S F) H0 m H x r) (e : isIns c me h r = true) : ∃ a Ca dx ws, x = .ref a ∧ C.mg c = some (.ref Ca) ∧ H a = some (.ins Ca dx ws) ∧ ws.lookup me = none := by
  unfold isIns at e
  split at e
  · rename_i n
    split at e
    · rename_i c' fs en
      obtain ⟨e1, e2⟩ := Bool.and_eq_true_iff.mp e
      have := of_decide_eq_true e1
      subst this
      obtain ⟨a, rfl, hm, Ca, dx, ws, hc, h1, h2⟩ := R.at (rr_v hr) en (fun z => nomatch z)
      exact ⟨a, Ca, dx, ws, rfl, hc, h1, h2.look_none (Option.isNone_iff_eq_none.mp e2)⟩
    · cases e
  · cases e
def eMeth (c m : Str) (φ : Fn) (fo : Fe) (g : Fa) : Fe := fun env h => (fo env h).bind fun o h1 => if isIns c m h1 o = true then (g env h1).bind fun ds h2 => (noEx (φ (o.toV :: ds) h2)).bind fun d h3 => .ok (.v d) h3 else .no
/-- what the text of a method's call says -/
def MetE (o : Expr) (m : Str) (apos pos : Pos) (es : List Expr) : Prop := ∀ env : Env, ∃ pl : Sem Bool, eval (.Call (.Attribute o m apos) es [] pos) env = (do
      let ov ← eval o env
      standAt apos.atName
      let (f, first) ← holding [ov] (getMethod ov m pl)
      callWith pos f first (backTo pos (starEach es env)) (backToKw pos (keywordEach [] env)))
theorem post_meth [hc : Cold C] {F : Addr → Prop} {m : Mm} {h : MHp} {H : Hp} {σ : L2.St} {ds : List MV} {vs : List V} {Q : VK} (R : Rl (C.S F) m h H) (hv : VRs (C.S F) m H vs ds) (q : Post C F m H σ kE ((noEx (φ ds h)).bind fun d h2 => .ok (.v d) h2) Q) : spM C.K C.mg C.T (fun ds h => noEx (φ ds h)) vs H Q E0 := by
  refine ⟨F, m, h, ds, ?_⟩
  rw [← cold_S F]
  refine ⟨R, hv, ?_⟩
  dsimp only
  cases e : φ ds h with
  | ok d h' => rw [e] at q; exact fun m' v H' s R' hv' => q m' v H' s R' (.v hv')
  | ex c fs h' => rw [e] at q; exact q.elim
  | no => rw [e] at q; exact q.elim
theorem se_meth [hc : Cold C] {c me : Str} {Ca : Addr} {na : Flds} (F : FnM C.P C.w C.K C.mg C.base C.T k ad φ) (hk : k ≤ C.k) (M : MethC C c me Ca ad na) (ht : MetE o me apos pos (e :: es)) (hs : NS e) (hss : ∀ y ∈ es, NS y) (ho : SE C o fo) (ha : SA C (e :: es) g) : SE C (.Call (.Attribute o me apos) (e :: es) [] pos) (eMeth c me φ fo g) := by
  obtain ⟨fd, ps, G, kp, hb⟩ := F.ex
  refine se_of (t := tMeth Ca me (spM C.K C.mg C.T fun ds h => noEx (φ ds h)) [] E0 (eAny C o) (aAny C (e :: es))) (fun j => ?_) fun F m h env H σ R E Q q => ho F m h env H σ R E _ (q.bind fun ro h1 m1 x H1 e1 s1 R1 r1 p1 => ?_)
  · have e1 := C.hK j
    obtain ⟨pl, hpl⟩ := ht (C.X j).env
    exact pe_meth (pl := pl) (pe_any C o j) (by rw [e1]; exact M.cl) (by rw [e1]; exact M.me) (fnAt (fn_cx0 G) hk j) (C.cold j hc.h) (by rw [e1]; exact hb) .nil pass0 (pa_any C (e :: es) j) (hs _ _) (ns_any hss _ _) hpl
  · cases hi : isIns c me h1 ro with
    | false => rw [hi, if_neg Bool.false_ne_true] at p1; exact p1.elim
    | true =>
      rw [hi, if_pos rfl] at p1
      obtain ⟨a, Ca', dx, ws, rfl, hca, h3, h4⟩ := is_ins R1 r1 hi
      obtain rfl : Ca' = Ca := by
        have := hca.symm.trans M.g
        cases this
        rfl
      refine ⟨a, dx, ws, rfl, h3, h4, ha F m1 h1 env H1 σ R1 (E.step s1) _ (p1.bind fun ds h2 m2 vs H2 e2 s2 R2 r2 p2 => ?_)⟩
      rw [List.append_nil]
      exact post_meth R2 (.cons (RR.toV (kE.step s2 r1)) r2) p2
theorem se_meth0 [hc : Cold C] {c me : Str} {Ca : Addr} {na : Flds} (F : FnM C.P C.w C.K C.mg C.base C.T k ad φ) (hk : k ≤ C.k) (M : MethC C c me Ca ad na) (ht : MetE o me apos pos []) (ho : SE C o fo) : SE C (.Call (.Attribute o me apos) [] [] pos) (eMeth c me φ fo aNil) := by
  obtain ⟨fd, ps, G, kp, hb⟩ := F.ex
  refine se_of (t := tMeth Ca me (spM C.K C.mg C.T fun ds h => noEx (φ ds h)) [] E0 (eAny C o) tNil) (fun j => ?_) fun F m h env H σ R E Q q => ho F m h env H σ R E _ (q.bind fun ro h1 m1 x H1 e1 s1 R1 r1 p1 => ?_)
  · have e1 := C.hK j
    obtain ⟨pl, hpl⟩ := ht (C.X j).env
    exact pe_meth0 (pl := pl) (pe_any C o j) (by rw [e1]; exact M.cl) (by rw [e1]; exact M.me) (fnAt (fn_cx0 G) hk j) (C.cold j hc.h) (by rw [e1]; exact hb) .nil pass0 hpl
  · cases hi : isIns c me h1 ro with
    | false => rw [hi, if_neg Bool.false_ne_true] at p1; exact p1.elim
    | true =>
      rw [hi, if_pos rfl] at p1
      obtain ⟨a, Ca', dx, ws, rfl, hca, h3, h4⟩ := is_ins R1 r1 hi
      obtain rfl : Ca' = Ca := by
        have := hca.symm.trans M.g
        cases this
        rfl
      refine ⟨a, dx, ws, rfl, h3, h4, ?_⟩
      exact post_meth (vs := [.ref a]) R1 (.cons (RR.toV r1) .nil) p1
/-! new objects -/
structure MakeC (C : Cs) (c : Str) (Ca f : Addr) : Prop where
  g : C.mg c = some (.ref Ca)
  k : L2.Mk C.K Ca f
def eNew (c : Str) (φ : Fn) (g : Fa) : Fe := fun env h => (g env h).bind fun ds h1 => (noEx (φ (.ref h1.length :: ds) (h1 ++ [.ins c []]))).bind fun d h2 => match d with
  | .non => .ok (.v (.ref h1.length)) h2
  | _ => .no
theorem post_new [hc : Cold C] {F : Addr → Prop} {m : Mm} {h : MHp} {H : Hp} {σ : L2.St} {ds : List MV} {vs : List V} {Q : VK} {c : Str} {Ca : Addr} (hg : C.mg c = some (.ref Ca)) (R : Rl (C.S F) m h H) (hv : VRs (C.S F) m H vs ds)
    (q : Post C F m H σ kE ((noEx (φ (.ref h.length :: ds) (h ++ [.ins c []]))).bind fun d h2 => match d with
  | .non => .ok (.v (.ref h.length)) h2
  | _ => .no) Q) : ∀ x dx, H x = none → H dx = none → dx ≠ x → spM C.K C.mg C.T (fun ds h => noEx (φ ds h)) (.ref x :: (vs ++ [])) (upd (upd H dx (.own x)) x (.ins Ca dx [])) (fun v H2 => v = .non ∧ Q (.ref x) H2) E0 := fun x dx hx hdx hne => by
  rw [List.append_nil]
  have s1 : Stp (C.S F) m H m (upd H dx (.own x)) := .made hdx
  have R1 := R.made (o := .own x) hdx
  have hx1 : upd H dx (.own x) x = none := by rw [upd_ne (fun z => hne z.symm)]; exact hx
  have s2 : Stp (C.S F) m (upd H dx (.own x)) m (upd (upd H dx (.own x)) x (.ins Ca dx [])) := .made hx1
  have nF : ¬ F x := fun z => (R.fo x z).1 hx
  have R2 : Rl (C.S F) (m ++ [some x]) (h ++ [.ins c []]) (upd (upd H dx (.own x)) x (.ins Ca dx [])) := Rl.give (S := C.S F) (R1.begin hx1) nF ⟨Ca, dx, [], hg, upd_same, .nil⟩
  have s3 : Stp (C.S F) m H (m ++ [some x]) (upd (upd H dx (.own x)) x (.ins Ca dx [])) := (s1.trans s2).push hx
  have at' : (m ++ [some x])[h.length]? = some (some x) := by rw [← R.len]; simp
  refine ⟨F, m ++ [some x], h ++ [MO.ins c []], MV.ref h.length :: ds, ?_⟩
  rw [← cold_S F]
  refine ⟨R2, .cons (.ref (.inl at')) (hv.step s3), ?_⟩
  dsimp only
  cases e : φ (.ref h.length :: ds) (h ++ [.ins c []]) with
  | ok d h' =>
    rw [e] at q
    cases d with
    | non => exact fun m' v H' s R' hv' => ⟨vr_non hv', q m' (.ref x) H' (s3.trans s) R' (.v (VR.step s (.ref (.inl at'))))⟩
    | _ => exact q.elim
  | ex c fs h' => rw [e] at q; exact q.elim
  | no => rw [e] at q; exact q.elim
/-- __init__ one level below -/
theorem se_new [hc : Cold C] {c : Str} {Ca : Addr} (F : FnM C.P C.w C.K C.mg C.base C.T k ad φ) (hk : k + 1 ≤ C.k) (M : MakeC C c Ca ad) (hg : ∀ j, Gl (C.X j) c) (hdb : (c == ("__debug__" : Str)) = false) (hs : NS e) (hss : ∀ y ∈ es, NS y) (ha : SA C (e :: es) g) : SE C (.Call (.Name c p) (e :: es) [] pos) (eNew c φ g) := by
  obtain ⟨fd, ps, G, kp, hb⟩ := F.ex
  refine se_of (t := tMake Ca (spM C.K C.mg C.T fun ds h => noEx (φ ds h)) [] E0 (aAny C (e :: es))) (fun j => ?_) fun F m h env H σ R E Q q => ha F m h env H σ R E _ (q.bind fun ds h1 m1 vs H1 e1 s1 R1 r1 p1 => post_new M.g R1 r1 p1)
  have e1 := C.hK j
  have G' : FnOk (C.X j).prog (C.X j).w (C.X j).K (C.X j).mg (C.X j).base CX0 k ad fd ps (spM C.K C.mg C.T fun ds h => noEx (φ ds h)) := by
    rw [C.hP, C.hw, C.hK, C.hmg, C.hbase]
    exact fn_cx0 G
  exact pe_make (by rw [e1]; exact M.k) G' ((C.cold j hc.h).mono hk) (hg j) (by rw [C.hmg]; exact M.g) (by rw [e1]; exact hb) .nil pass0 (pa_any C (e :: es) j) hdb (hs _ _) (ns_any hss _ _)
theorem se_new0 [hc : Cold C] {c : Str} {Ca : Addr} (F : FnM C.P C.w C.K C.mg C.base C.T k ad φ) (hk : k + 1 ≤ C.k) (M : MakeC C c Ca ad) (hg : ∀ j, Gl (C.X j) c) (hdb : (c == ("__debug__" : Str)) = false) : SE C (.Call (.Name c p) [] [] pos) (eNew c φ aNil) := by
  obtain ⟨fd, ps, G, kp, hb⟩ := F.ex
  refine se_of (t := tMake Ca (spM C.K C.mg C.T fun ds h => noEx (φ ds h)) [] E0 tNil) (fun j => ?_) fun F m h env H σ R E Q q => post_new (vs := []) M.g R .nil q
  have e1 := C.hK j
  have G' : FnOk (C.X j).prog (C.X j).w (C.X j).K (C.X j).mg (C.X j).base CX0 k ad fd ps (spM C.K C.mg C.T fun ds h => noEx (φ ds h)) := by
    rw [C.hP, C.hw, C.hK, C.hmg, C.hbase]
    exact fn_cx0 G
  exact pe_make0 (by rw [e1]; exact M.k) G' ((C.cold j hc.h).mono hk) (hg j) (by rw [C.hmg]; exact M.g) (by rw [e1]; exact hb) .nil pass0 hdb
end
end Mp

/-! M15: raise, try. -/
namespace Mp
open PySem PySem.Spec PyProof.Rows L2
/-! ### raise -/
/-- what an own __init__ with the fields fl does: it keeps its arguments -/
def spI (Cl : Addr) (fl : List Str) : Sp := fun vs H Q _ => ∃ ob ys, vs = .ref ob :: ys ∧ ys.length = fl.length ∧ H ob = some (exo ob Cl none) ∧ ∀ dx, H dx = none → dx ≠ ob → Q .non (upd (upd H dx (exd dx (fl.zip ys).reverse)) ob (exo ob Cl (some dx)))
/-- what is known of an own exception class: its class object at Cl, its fields -/
structure ExcT (P : Program) (w : World) (K : Fg) (mg : Str → Option Value) (base : Heap) (x : Str) (Cl : Addr) (fl : List Str) : Prop where
  o : OexC K Cl
  g : mg x = some (.ref Cl)
  ini : ∃ fI fd ps, PySem.W.findIn K (.ref Cl) "__init__" = some (some (.ref fI)) ∧ PySem.W.typeIn K (.ref fI) = some (.type "function") ∧ Binds K fd ps [] ∧ FnOk P w K mg base CX0 1 fI fd ps (spI Cl fl)
section
variable {X : Cx} {x : Str} {Cl fI : Addr} {k : Nat} {fd : FuncData} {ps : List Str} {sp : Sp} {e : Expr} {es : List Expr} {ta : TA} {p pos : Pos}
theorem pmkN (o : OexC X.K Cl) (hi : PySem.W.findIn X.K (.ref Cl) "__init__" = some (some (.ref fI))) (ht : PySem.W.typeIn X.K (.ref fI) = some (.type "function")) (G : FnOk X.prog X.w X.K X.mg X.base CX0 k fI fd ps sp) (rm : Room (k + 1) X.A) (bd : Binds X.K fd ps []) (gl : Gl X x) (hm : X.mg x = some (.ref Cl))
    (pa : PA X (e :: es) ta) (hdb : (x == ("__debug__" : Str)) = false) (st1 : starEach (e :: es) X.env = (false, eval e X.env) :: starEach es X.env) (st2 : (backTo pos (starEach es X.env)).any (·.1) = false) : L2N.PMk X (.Call (.Name x p) (e :: es) [] pos) (tMkO Cl sp [] ta) := fun pins s σ H Q I h => by
  obtain ⟨z1, z2, z3, z4, z5, z6, z7, z8, z9, y1, y2, y3, y4, y5, y6, lk, rv⟩ := o.cls
  refine wpAny_Call_Name_kw (ld_glob I gl hm (PySem.W.callWith_K (h₀ := X.base) I.ok.mod.kin o.kC (thn (pa.run pos pins s σ H _ I h) fun us s1 ⟨vs, H1, I1, r1, len, q1⟩ => ⟨I1.kIn, ?_⟩) st1 st2) hdb)
  show wpAny _ _ (call (.ref Cl) us) _ _ _
  obtain ⟨hp, g, dr, tk, os⟩ := s1
  let ob : Addr := hp.objs.size + 1
  let hp2 : Heap := (hp.push (PySem.W.kdv_tup us)).push (PySem.HandSPX.excO Cl hp.objs.size)
  have lt : hp.objs.size ≤ ob := Nat.le_succ _
  have fresh : H1 ob = none := I1.hok.fresh lt
  have q2 := q1 ob fresh
  have kp : ∀ b o, hp.get? b = some o → hp2.get? b = some o := fun b o e => Heap.get?_push_of_some _ (Heap.get?_push_of_some _ e)
  have at2 : hp2.get? ob = some (PySem.HandSPX.excO Cl hp.objs.size) := by
    show ((hp.push (PySem.W.kdv_tup us)).push (PySem.HandSPX.excO Cl hp.objs.size)).get? (hp.objs.size + 1) = _
    heap_get
  have I2 : Inv X pins σ (upd H1 ob (exo ob Cl none)) ⟨hp2, g, dr, tk, os⟩ := I1.laid (t' := tk) kp lt (exo_ok at2)
  have r2 : Vals (V.ref ob :: (vs ++ [])) (Value.ref ob :: (us ++ [])) := .cons rfl (r1.append .nil)
  have n2 : (Value.ref ob :: us ++ []).length = ps.length := r2.length.symm.trans (G.len _ _ _ _ q2)
  have n3 : us.length ≤ sizeLine := by
    have := Paired.length r1
    rw [sizeLine_eq]
    omega
  have b2 := bd ⟨hp2, g, dr, tk, os⟩ (Value.ref ob :: us) I2.kIn n2
  rw [List.cons_append] at b2
  have run := G.run _ X.stack _ _ ⟨Value.ref ob :: us, []⟩ (Value.ref ob :: (us ++ [])) _ _ (fun _ _ _ => False) (rm.make Cl us []) (I2.env0.make Cl us []) b2 r2 q2
  refine wpAny_call (PySem.HandSPX.call_own F.excBase_ValueError (fun Y => PySem.HandSPX.refsVE_contains Y z5 rv) (I1.kIn _ _ lk) (PySem.W.looks_findIn I1.kIn hi) (fun self => PySem.W.bind_fn I1.kIn self ht) n3 (codeAny_mono run fun r s' hr => ?_))
  cases r with
  | error er => exact hr.elim
  | ok fl =>
    cases fl with
    | next => exact hr.elim
    | brk => exact hr.elim
    | cont => exact hr.elim
    | ret u =>
      obtain ⟨v, H2, os2, bare2, un2, hok2, rv2, rfl, d, fs, ea, ed, hd1, q3⟩ := hr
      obtain ⟨h2, g2, d2, t2, os'⟩ := s'
      obtain ⟨t0, G', J, kG, ge, hoe, na⟩ := mk_end0 (d2 := d2) (t2 := t2) I1 lt kp un2 hok2 os2 bare2 ea ed hd1
      exact ⟨rv2, ob, _, _, ⟨G', g2, d2, t2, os'⟩, _, .ref Cl, some d, rfl, J, kG, ge, hoe, ⟨rfl, rfl, fun vs e => by cases e; rfl⟩, rfl, rfl, na, rfl, bare2, raises_own o.exC o.tyC, q3⟩
end

theorem kr_zip {S : Sx} {m : Mm} {H : Hp} : ∀ {fl : List Str} {vs : List V} {ds : List MV}, VRs S m H vs ds → KR S m H (fl.zip vs) (fl.zip ds)
  | [], _, _, _ => .nil
  | f :: fl, _, _, .nil => by simp only [List.zip_nil_right]; exact .nil
  | f :: fl, _, _, .cons h r => .cons h (kr_zip r)
theorem KR.app2 {κ : Type} {S : Sx} {m : Mm} {H : Hp} : ∀ {vs ws : List (κ × V)} {ds es : List (κ × MV)}, KR S m H vs ds → KR S m H ws es → KR S m H (vs ++ ws) (ds ++ es)
  | _, _, _, _, .nil, b => b
  | _, _, _, _, .cons h r, b => .cons h (KR.app2 r b)
theorem KR.rev {κ : Type} {S : Sx} {m : Mm} {H : Hp} : ∀ {vs : List (κ × V)} {ds : List (κ × MV)}, KR S m H vs ds → KR S m H vs.reverse ds.reverse
  | _, _, .nil => .nil
  | _, _, .cons h r => by
    simp only [List.reverse_cons]
    exact (KR.rev r).app2 (.cons h .nil)
def sRaise (c : Str) (fl : List Str) (g : Fa) : Fs := fun env h => (g env h).thenS env fun ds h1 => if ds.length = fl.length then .ex c (fl.zip ds).reverse env h1 else .no
section
variable {C : Cs} {e : Expr} {es : List Expr} {p pos pos2 : Pos} {x : Str} {Cl : Addr} {fl : List Str} {g : Fa}
theorem ss_raise [hc : Cold C] (X : ExcT C.P C.w C.K C.mg C.base x Cl fl) (ha : SA C (e :: es) g) (hs : NS e) (hss : ∀ y ∈ es, NS y) (hk : 2 ≤ C.k) (hg : ∀ j, Gl (C.X j) x) (hdb : (x == ("__debug__" : Str)) = false) (hsm : fl.length ≤ 1000) : SS C (.Raise (some (.Call (.Name x p) (e :: es) [] pos)) none pos2) (sRaise x fl g) := by
  obtain ⟨fI, fd, ps, h1, h2, h3, h4⟩ := X.ini
  refine ss_of (t := fun _ σ H => tMkO Cl (spI Cl fl) [] (aAny C (e :: es)) σ H fun cls d H' => C.W cls d σ H') (fun j => ?_) fun F m h env H σ D R E q => ha F m h env H σ R E _ (SPost.bind E q fun ds h1 m1 vs H1 e1 s1 R1 r1 p1 => ?_)
  · have hm := X.g
    have ho := X.o
    have e1 := C.hK j
    have e2 := C.hmg j
    rw [← e2] at hm
    rw [← e1] at ho h1 h2 h3
    have h4' : FnOk (C.X j).prog (C.X j).w (C.X j).K (C.X j).mg (C.X j).base CX0 1 fI fd ps (spI Cl fl) := by
      rw [C.hP, C.hw, C.hK, C.hmg, C.hbase]
      exact h4
    exact L2N.ps_raise (C.calm j hc.h) (C.takes j) (pmkN ho h1 h2 h4' ((C.cold j hc.h).mono hk) h3 (hg j) hm (pa_any C (e :: es) j) hdb (hs _ _) (ns_any hss _ _))
  · split at p1
    · rename_i hl'
      have hv : VRs (C.S F) m1 H1 vs ds := r1
      have hl := hv.length
      refine ⟨by omega, fun ob hob => ⟨ob, vs, by rw [List.append_nil], by omega, upd_same, fun dx hdx hne => ?_⟩⟩
      rw [upd_ne hne] at hdx
      refine ⟨rfl, dx, (fl.zip vs).reverse, upd_same, by rw [upd_ne hne, upd_same], hdx, ?_⟩
      have eH : upd (del (upd (upd (upd H1 ob (exo ob Cl none)) dx (exd dx (fl.zip vs).reverse)) ob (exo ob Cl (some dx))) ob) dx (.xd (fl.zip vs).reverse) = upd H1 dx (.xd (fl.zip vs).reverse) := funext fun b => by
        by_cases e1 : b = dx
        · rw [e1, upd_same, upd_same]
        · rw [upd_ne e1, upd_ne e1]
          by_cases e2 : b = ob
          · rw [e2, del_same, hob]
          · rw [del_ne e2, upd_ne e2, upd_ne e1, upd_ne e2]
      rw [eH]
      have st : Stp (C.S F) m1 H1 m1 (upd H1 dx (.xd (fl.zip vs).reverse)) := .made hdx
      exact p1 m1 σ _ Cl dx _ st (R1.made hdx) ((E.step s1).step st) X.g upd_same ((kr_zip hv).rev.step st)
    · exact p1.elim
end
end Mp

/-! M16: module constants; subscripts of any kind. -/
namespace Mp
open PySem PySem.Spec PyProof.Rows L2
/-- a module constant's value -/
structure ConC (C : Cs) (x : Str) (d : MV) : Prop where
  ex : ∃ (u : Value) (v : V), C.mg x = some u ∧ RelV v u ∧ ∀ F m H, VR (C.S F) m H v d
section
variable {C : Cs} {e a b c : Expr} {f f1 f2 fa fb : Fe} {pos : Pos} {x : Str} {d : MV}
theorem se_con (h : ConC C x d) (hg : ∀ j, Gl (C.X j) x) (hd : (x == ("__debug__" : Str)) = false) : SE C (.Name x pos) (eVal d) := by
  obtain ⟨u, v, h1, h2, h3⟩ := h.ex
  exact se_c (v := v) (fun j => pe_glob (hg j) (by rw [C.hmg]; exact h1) h2 hd) h3
theorem se_fnv {a : Addr} (h : C.mg x = some (.ref a)) (hg : ∀ j, Gl (C.X j) x) (hd : (x == ("__debug__" : Str)) = false) : SE C (.Name x pos) (eVal (.fn x)) :=
  se_con ⟨_, .ref a, h, rfl, fun F m H => .fn h⟩ hg hd
/-! texts too -/
def mIxA : Op2 := fun h x y => match x, y with
  | .v (.str z), .v (.int i) => if z.length ≤ 1000000 then match atI z.cps.toList i with
      | some c => .ok (.v (.str ⟨#[c]⟩)) h
      | none => .no else .no
  | x, y => mIx h x y
theorem os_ixA : OpS C (ixAny C) mIxA := fun F m h H H0 σ x y rx ry Q R hx hy p => by
  unfold mIxA at p
  split at p
  · rename_i z i
    split at p
    · rename_i hl
      split at p
      · rename_i c hc
        exact ⟨_, fun _ => ix_str, z, i, c, vr_str (rr_v hx), vr_int (rr_v hy), Nat.le_trans hl (by decide), hc, post_v R (.str _) p⟩
      · exact p.elim
    · exact p.elim
  · exact os_ix F m h H H0 σ x y rx ry Q R hx hy p
theorem se_ixA (ha : SE C a fa) (hb : SE C b fb) (hs : PlainIx b) : SE C (.Subscript a b pos) (eBin mIxA fa fb) :=
  se_of (fun j => pe_ix (ixr_any C j) (pe_any C a j) (pe_any C b j) hs) fun F m h env H σ R E Q p => ev_bin os_ixA ha hb R E p
theorem bin_pick {op op1 op2 : Op2} (h : ∀ h x y, op h x y = op1 h x y ∨ op h x y = op2 h x y ∨ op h x y = .no) (env : Ev) (hp : MHp) : eBin op fa fb env hp = eBin op1 fa fb env hp ∨ eBin op fa fb env hp = eBin op2 fa fb env hp ∨ eBin op fa fb env hp = .no := by
  unfold eBin
  cases fa env hp with
  | ok x h1 =>
    simp only [Out.bind]
    cases fb env h1 with
    | ok y h2 => exact h h2 x y
    | ex c fs h' => exact .inl rfl
    | no => exact .inl rfl
  | ex c fs h' => exact .inl rfl
  | no => exact .inl rfl
/-- of a list, a tuple, a text, a dict -/
def mIxD : Op2 := fun h x y => if isDct h x = true then mDGet h x y else mIxA h x y
theorem se_ixD (ha : SE C a fa) (hb : SE C b fb) (hs : PlainIx b) : SE C (.Subscript a b pos) (eBin mIxD fa fb) :=
  SE.pick (se_ixA ha hb hs) (se_dget hs ha hb) (bin_pick fun h x y => by
    unfold mIxD
    split
    · exact .inr (.inl rfl)
    · exact .inl rfl)
end
end Mp

/-! M17: turned round; index of texts; a try whose body raises nothing. -/
namespace Mp
open PySem PySem.Spec PyProof.Rows L2
section
variable {prog : Program} {w : World} {A : Around} {E : Value → Shared → Prop} {s : Shared}
theorem sliceApplied_rev {sl : Addr} {vs : Value} {n : Nat} {Q : Int × Int × Nat → Shared → Prop} (hs : s.heap.IsSliceOf sl .none .none vs) (ps : IsPart vs (some (-1)))
    (h : Q ((n : Int) - 1, -1, n) s) : wpAny (model prog w) A (Builtin.Slice.sliceApplied (.ref sl) (pure (n : Int))) Q E s := by
  obtain ⟨os, hos, hcs, hds⟩ := id hs
  unfold Builtin.Slice.sliceApplied Builtin.Slice.sliceFields
  refine wpAny_bind (wpAny_bind (wpAny_field hos hds (x := .none) rfl (wpAny_bind (wpAny_field hos hds (x := .none) rfl (wpAny_bind (wpAny_field hos hds (x := vs) rfl (wpAny_pure ?_)))))))
  refine wpAny_bind (HT.slicePart_ ps ?_)
  show wpAny _ _ (if ((-1 : Int) == 0) = true then _ else _) _ _ s
  rw [if_neg (by decide)]
  refine wpAny_bind (HT.slicePart_ .none (wpAny_bind (HT.slicePart_ .none (wpAny_bind (wpAny_pure ?_)))))
  show wpAny _ _ (pure ((n : Int) - 1, (-1 : Int), Builtin.Slice.slicePlaces ((n : Int) - 1) (-1) (-1))) _ _ s
  have e : Builtin.Slice.slicePlaces ((n : Int) - 1) (-1) (-1) = n := by
    unfold Builtin.Slice.slicePlaces
    have h1 : ¬ ((-1 : Int) > 0) := by decide
    have h2 : (-(-1) : Int) = 1 := by decide
    simp only [h1, if_false, h2, Int.ediv_one]
    split <;> omega
  rw [e]
  exact wpAny_pure h
theorem pick_rev (xs : Array Value) : ((List.range xs.size).filterMap fun (m : Nat) => xs[((xs.size : Int) - 1 + (m : Int) * -1).toNat]?).toArray = xs.toList.reverse.toArray := by
  have e : (List.range xs.size).filterMap (fun (m : Nat) => xs[((xs.size : Int) - 1 + (m : Int) * -1).toNat]?) = ((List.range xs.size).map fun k => xs.size - 1 - k).filterMap (xs[·]?) := by
    rw [List.filterMap_map]
    have key : ∀ l : List Nat, (∀ m ∈ l, m < xs.size) → l.filterMap (fun (m : Nat) => xs[((xs.size : Int) - 1 + (m : Int) * -1).toNat]?) = l.filterMap ((fun x => xs[x]?) ∘ fun k => xs.size - 1 - k) := by
      intro l
      induction l with
      | nil => intro _; rfl
      | cons m l ih =>
        intro h
        have hm := h m List.mem_cons_self
        have e1 : xs[((xs.size : Int) - 1 + (m : Int) * -1).toNat]? = ((fun x => xs[x]?) ∘ fun k => xs.size - 1 - k) m := by
          show _ = xs[xs.size - 1 - m]?
          congr 1
          omega
        rw [List.filterMap_cons, List.filterMap_cons, e1, ih fun m hm => h m (List.mem_cons_of_mem _ hm)]
    exact key _ fun m hm => List.mem_range.mp hm
  rw [e, PySem.W.krv_range, List.filterMap_reverse, PySem.W.krv_all]
theorem getItem_tuple_rev {t sl : Addr} {items : Array Value} {vs : Value} {Q : Value → Shared → Prop} (ht : IsTup s.heap t items) (hs : s.heap.IsSliceOf sl .none .none vs) (ps : IsPart vs (some (-1)))
    (h : Q (.ref s.heap.objs.size) { s with heap := s.heap.push { cls := .type "tuple", data := .seq items.toList.reverse.toArray } })
    (hsz : items.size ≤ sizeLine) : wpAny (model prog w) A (getItem (.ref t) (.ref sl)) Q E s := by
  have htake : sizeOk (.seq items.toList.reverse.toArray) := by
    show items.toList.reverse.toArray.size ≤ sizeLine
    rw [List.size_toArray, List.length_reverse, Array.length_toList]
    exact hsz
  obtain ⟨os, hos, hcs, hds⟩ := id hs
  have hTs : s.TypeIs (.ref sl) "slice" := ⟨os, hos, hcs⟩
  unfold getItem
  try with_reducible refine wpAny_holding ?_
  first | refine wpAny_bind (wpAny_pure ?_) | skip
  refine wpAny_bind (wpAny_sequenceKey ht.typeIs (by decide) ?_)
  refine wpAny_bind (wpAny_callSpecial?_slot (name := Str.ofString "__getitem__") ht.typeIs PyProof.Rows.slot_tuple_getitem
    (wpAny_call_entry PyProof.Rows.slot_tuple_getitem ht.typeIs entry_tuple_getitem ?_ (args_tuple_getitem _ _)))
  show wpAny _ _ (Builtin.Tuple.tupleItemsOf (.ref t) >>= _) _ _ s
  refine wpAny_bind (tupleItemsOf_ ht ?_)
  refine wpAny_bind (wpAny_typeOf hTs ?_)
  rw [if_pos (by decide)]
  refine wpAny_bind (sliceApplied_rev hs ps ?_)
  have hno : ¬ ((((items.size : Int) - 1) == 0 && (-1 : Int) == 1 && items.size == items.size) = true) := by
    intro q
    rw [Bool.and_eq_true, Bool.and_eq_true] at q
    exact absurd q.1.2 (by decide)
  show wpAny _ _ (if (((items.size : Int) - 1) == 0 && (-1 : Int) == 1 && items.size == items.size) = true then _ else _) _ _ s
  rw [if_neg hno, pick_rev]
  first
    | exact wpAny_bind (m := Builtin.Tuple.tupleExact _) (wpAny_newObj_type (wpAny_pure ⟨_, rfl, wpAny_pure h⟩) htake)
    | exact wpAny_bind (m := Builtin.Tuple.tupleExact _) (wpAny_newObj_type (wpAny_bind (wpAny_pure (wpAny_pure ⟨_, rfl, wpAny_pure h⟩))) htake)
    | exact wpAny_bind (wpAny_bind (m := Builtin.Tuple.tupleExact _) (wpAny_newObj_type (wpAny_pure (wpAny_pure ⟨_, rfl, wpAny_pure h⟩)) htake))
    | exact wpAny_bind (wpAny_bind (m := Builtin.Tuple.tupleExact _) (wpAny_newObj_type (wpAny_pure ⟨_, rfl, wpAny_pure h⟩) htake))
end
def tRevT (K : Fg) (te : TE) : TE := fun σ H Q => te σ H fun x H1 => ∃ a xs, x = .ref a ∧ SqT K H1 a xs ∧ ∀ p, H1 p = none → Q (.ref p) (upd H1 p (.tup xs.reverse))
theorem pe_revT {X : Cx} {e : Expr} {te : TE} {k : Nat} {p1 p2 p3 pos : Pos} (he : PE X e te) : PE X (.Subscript e (.Slice none none (some (.UnaryOp .USub (.Constant (.int 1) k p1) p2)) p3) pos) (tRevT X.K te) := by
  refine ⟨fun pins s σ H Q I h => ?_⟩
  refine Subscript_ (thn (he.run pins s σ H _ I h) fun v s1 ⟨x, H1, I1, r1, q1⟩ => ?_)
  obtain ⟨a, xs, ex, hx, q⟩ := q1
  subst ex
  cases r1
  have hst : PO X (some (.UnaryOp .USub (.Constant (.int 1) k p1) p2)) (tPart (tUn (rU fun i => .int (-i)) (tC (.int 1)))) := po_some (pe_un un_neg pe_int)
  refine wpAny_Slice (thn (po_none.run pins s1 σ H1 (fun o H2 => (o = none ∧ H2 = H1)) I1 ⟨rfl, rfl⟩) fun vl s2 ⟨l, H2, I2, pl, el, e2⟩ => ?_)
  subst el e2
  refine thn (po_none.run pins s2 σ H2 (fun o H3 => o = none ∧ H3 = H2) I2 ⟨rfl, rfl⟩) fun vu s3 ⟨u, H3, I3, pu, eu, e3⟩ => ?_
  subst eu e3
  refine thn (hst.run pins s3 σ H3 (fun o H4 => o = some (-1) ∧ H4 = H3) I3 ⟨1, rfl, -1, rfl, rfl, rfl⟩) fun vs s4 ⟨o, H4, I4, ps, eo, e4⟩ => ?_
  subst eo e4
  cases pl
  cases pu
  have I5 : Inv X pins σ H4 { s4 with heap := s4.heap.push { cls := .type "slice", data := .fields #[.none, .none, vs] } } := I4.kept (t' := s4.toks) fun b ob q => Heap.get?_push_of_some _ q
  obtain ⟨its, r, ht, hz⟩ := I5.tuple hx
  have hlen := r.length
  show wpAny (model X.prog X.w) X.A (subscriptTail e (.Slice none none (some (.UnaryOp .USub (.Constant (.int 1) k p1) p2)) p3) (.ref a) (.ref s4.heap.objs.size)) (EP X pins σ Q) X.xe { s4 with heap := s4.heap.push { cls := .type "slice", data := .fields #[.none, .none, vs] } }
  refine tail_any (ops := [.ref a, .ref s4.heap.objs.size]) ht.typeIs (PyProof.Rows.slot_tuple_getitem.lookup) ?_ (by with_unfolding_all rfl)
  refine getItem_tuple_rev ht (Heap.IsSliceOf.new _ .none .none vs) ps ?_ (by rw [List.size_toArray]; omega)
  refine ⟨.ref _, _, I5.laid (t' := s4.toks) (o := .tup xs.reverse) (fun b ob q => Heap.get?_push_of_some _ q) (Nat.le_refl _) ?_, rfl, q _ (I5.hok.fresh (Nat.le_refl _))⟩
  exact ⟨by rw [List.length_reverse]; exact hz, _, r.reverse, IsTup.new _ _⟩
def eRev (fa : Fe) : Fe := fun env h => (fa env h).bind fun x h1 => match seqOf h1 x with
  | some (true, ds) => .ok (.nl ds.reverse) h1
  | some (false, ds) => .ok (.v (.tup ds.reverse)) h1
  | none => .no
theorem seq_kind {h : MHp} {x : RV} {b : Bool} {ds : List MV} (e : seqOf h x = some (b, ds)) : b = !tupK x := by
  cases x with
  | nl ds => cases e; rfl
  | v d =>
    cases d <;> first | (cases e; done) | (cases e; rfl) | skip
    obtain ⟨_, _, e2⟩ := Option.map_eq_some_iff.mp e
    cases e2; rfl
section
variable {C : Cs} {e a b o : Expr} {fa fb fo : Fe} {pos p1 p2 p3 apos : Pos} {k : Nat}
theorem se_rev (ha : SE C a fa) : SE C (.Subscript a (.Slice none none (some (.UnaryOp .USub (.Constant (.int 1) k p1) p2)) p3) pos) (eRev fa) := fun F m h env H σ R E Q q => by
  cases hb : tupO (fa env h) with
  | false =>
    refine ⟨tRevL C.K (eAny C a), fun j => kx (p := fun K => PE (C.X j) _ (tRevL K (eAny C a))) j (pe_revL (pe_any C a j)), ha F m h env H σ R E _ (q.bind fun rx h1 m1 x H1 e1 s1 R1 r1 p1 => ?_)⟩
    rw [e1] at hb
    have hb : tupK rx = false := hb
    split at p1
    · rename_i ds e2
      obtain ⟨a', vs, rfl, hv, hs⟩ := seq_of R1 r1 e2
      rcases hs with ⟨_, hs⟩ | ⟨z, _⟩
      · exact ⟨a', vs, rfl, hs, post_nl R1 hv.reverse p1⟩
      · cases z
    · rename_i ds e2
      have := seq_kind e2
      rw [hb] at this
      cases this
    · exact p1.elim
  | true =>
    refine ⟨tRevT C.K (eAny C a), fun j => kx (p := fun K => PE (C.X j) _ (tRevT K (eAny C a))) j (pe_revT (pe_any C a j)), ha F m h env H σ R E _ (q.bind fun rx h1 m1 x H1 e1 s1 R1 r1 p1 => ?_)⟩
    rw [e1] at hb
    have hb : tupK rx = true := hb
    split at p1
    · rename_i ds e2
      have := seq_kind e2
      rw [hb] at this
      cases this
    · rename_i ds e2
      obtain ⟨a', vs, rfl, hv, hs⟩ := seq_of R1 r1 e2
      rcases hs with ⟨z, _⟩ | ⟨_, hs⟩
      · cases z
      · exact ⟨a', vs, rfl, hs, post_tup R1 hv.reverse p1⟩
    · exact p1.elim
/-- text.index(text), found -/
def eSIdx (fo fa : Fe) : Fe := fun env h => (fo env h).bind fun o h1 => match o with
  | .v (.str x) => (fa env h1).bind fun r h2 => match r with
    | .v (.str y) => match Builtin.Str.occurrences x y 0 x.length 1 with
      | i :: _ => .ok (.v (.int (i : Nat))) h2
      | [] => .no
    | _ => .no
  | _ => .no
theorem se_sidx (M : MetT o "index" apos pos) (hs : NS a) (ho : SE C o fo) (ha : SE C a fa) : SE C (.Call (.Attribute o "index" apos) [a] [] pos) (eSIdx fo fa) :=
  se_of (fun j => pe_m1 F.slot_str_index F.type_str_index mt_sindex (pe_any C o j) (pe_any C a j) (hs _ _) (M.base _) M.line) fun F m h env H σ R E Q q => ho F m h env H σ R E _ (q.bind fun ro h1 m1 x H1 e1 s1 R1 r1 p1 => by
    split at p1
    · rename_i z
      have ex := vr_str (rr_v r1)
      refine ⟨⟨z, ex⟩, ha F m1 h1 env H1 σ R1 (E.step s1) _ (p1.bind fun ra h2 m2 y H2 e2 s2 R2 r2 p2 => ?_)⟩
      split at p2
      · rename_i z2
        split at p2
        · rename_i i rest e3
          exact ⟨z, z2, i, rest, ex, by rw [vr_str (rr_v r2)], e3, post_v R2 (.int _) p2⟩
        · exact p2.elim
      · exact p2.elim
    · exact p1.elim)
end
/-! ### nothing is raised here -/
def Cs.nox (C : Cs) [hc : Cold C] : Cs where
  ι := C.ι
  X := fun q => (C.X q).nox
  P := C.P
  w := C.w
  K := C.K
  mg := C.mg
  base := C.base
  N := C.N
  k := C.k
  hP := C.hP
  hw := C.hw
  hK := C.hK
  hmg := C.hmg
  hbase := C.hbase
  hN := C.hN
  nd := C.nd
  calm := fun q _ => C.calm q hc.h
  cold := fun q _ => C.cold q hc.h
  hotc := fun _ z => Bool.noConfusion z
  W := fun _ _ _ _ => False
  takes := fun _ => takesN
  T := C.T
  xd := C.xd
  owns := fun _ _ => PassesOwn.never
instance {C : Cs} [hc : Cold C] : Cold C.nox := ⟨rfl, hc.x⟩
def noExS : SOut → SOut
  | .ex _ _ _ _ => .no
  | o => o
def sTryN (f : Fs) : Fs := fun env h => noExS (f env h)
theorem ss_tryN {C : Cs} [hc : Cold C] {body : List Stmt} {h₀ : ExceptHandler} {hs : List ExceptHandler} {pos : Pos} {f : Fs} (hb : SB C.nox body f) : SS C (.Try body (h₀ :: hs) [] [] pos) (sTryN f) :=
  ss_of (fun j => ps_try_thru0 (pb_any C.nox body j)) fun F m h env H σ D R E p => hb F m h env H σ D R E (by
    unfold sTryN at p
    cases q : f env h with
    | nx e h' => rw [q] at p; exact p
    | rt d h' => rw [q] at p; exact p
    | bk e h' => rw [q] at p; exact p
    | ct e h' => rw [q] at p; exact p
    | ex c fs e h' => rw [q] at p; exact p.elim
    | no => rw [q] at p; exact p.elim)
end Mp

/-! M18: calls by keyword. -/
namespace Mp
open PySem PySem.Spec PyProof.Rows L2
/-- the parameters' values: perm says, for each parameter, which of the handed-in values (the positional ones first) it gets -/
def gPerm (n m : Nat) (perm : List Nat) {α : Type} (us ws : List α) : List α := if us.length = n ∧ ws.length = m then perm.filterMap (fun i => (us ++ ws)[i]?) else []
theorem vals_perm {vs : List V} {us : List Value} (r : Vals vs us) : ∀ perm : List Nat, Vals (perm.filterMap fun i => vs[i]?) (perm.filterMap fun i => us[i]?)
  | [] => .nil
  | i :: p => by
    rw [List.filterMap_cons, List.filterMap_cons]
    cases h : vs[i]? with
    | none => rw [Vals.none_of r h]; exact vals_perm r p
    | some x =>
      obtain ⟨u, e, q⟩ := Vals.get r h
      rw [e]
      exact .cons q (vals_perm r p)
theorem kb_of {K : Fg} {fd : FuncData} {ps ks : List Str} {n : Nat} {perm : List Nat} (hp : ps ≠ []) (h : ∀ us ws : List Value, us.length = n → ws.length = ks.length → bindArgs fd ⟨us, ks.zip ws⟩ = pure (ps.zip (perm.filterMap fun i => (us ++ ws)[i]?))) : KBinds K fd ps ks (gPerm n ks.length perm) (gPerm n ks.length perm) where
  to := fun s us ws _ hl => by
    unfold gPerm at hl ⊢
    by_cases c : us.length = n ∧ ws.length = ks.length
    · rw [if_pos c]
      exact .of_eq (h us ws c.1 c.2)
    · rw [if_neg c] at hl
      exact absurd (List.eq_nil_of_length_eq_zero hl.symm) hp
  rel := fun {vs us zs ws} r q => by
    unfold gPerm
    rw [r.length, q.length]
    by_cases c : us.length = n ∧ ws.length = ks.length
    · rw [if_pos c, if_pos c]
      exact vals_perm (r.append q) perm
    · rw [if_neg c, if_neg c]
      exact .nil
theorem kbn_of {K : Fg} {fd : FuncData} {ps ks : List Str} {n : Nat} {perm : List Nat} (h : ∀ us ws : List Value, us.length = n → ws.length = ks.length → bindArgs fd ⟨us, ks.zip ws⟩ = pure (ps.zip (perm.filterMap fun i => (us ++ ws)[i]?))) (hl : 0 < n) : KBn K fd ps n ks (gPerm n ks.length perm) (gPerm n ks.length perm) where
  to := fun s us ws _ h1 h2 => by
    unfold gPerm
    rw [if_pos ⟨h1, h2⟩]
    exact .of_eq (h us ws h1 h2)
  rel := fun {vs us zs ws} r q => by
    unfold gPerm
    rw [r.length, q.length]
    by_cases c : us.length = n ∧ ws.length = ks.length
    · rw [if_pos c, if_pos c]
      exact vals_perm (r.append q) perm
    · rw [if_neg c, if_neg c]
      exact .nil
/-- keywords' values -/
def kAny (C : Cs) (kws : List Keyword) : TA := fun σ H Q => ∃ t : TA, (∀ i, PK (C.X i) kws t) ∧ t σ H Q
theorem pk_any (C : Cs) (kws : List Keyword) (i : C.ι) : PK (C.X i) kws (kAny C kws) := ⟨fun pos pins s σ H Q I h => by
  obtain ⟨t, ht, q⟩ := h
  exact (ht i).run pos pins s σ H Q I q⟩
theorem kw_some : ∀ (kws : List Keyword) (env : Env) (pos : Pos), (∀ q ∈ kws, q.1.isSome = true) → (backToKw pos (keywordEach kws env)).all (·.1.isSome) = true ∧ (backToKw pos (keywordEach kws env)).any (·.1.isNone) = false ∧ (backToKw pos (keywordEach kws env)).filterMap (·.1) = kws.filterMap (·.1)
  | [], _, _, _ => ⟨rfl, rfl, rfl⟩
  | ⟨nm, v, kp⟩ :: r, env, pos, h => by
    obtain ⟨h1, h2, h3⟩ := kw_some r env pos fun q hq => h q (List.mem_cons_of_mem _ hq)
    have h0 : nm.isSome = true := h ⟨nm, v, kp⟩ List.mem_cons_self
    cases nm with
    | none => cases h0
    | some n =>
      refine ⟨?_, ?_, ?_⟩
      · show (true && (backToKw pos (keywordEach r env)).all (·.1.isSome)) = true
        rw [h1]; rfl
      · show (false || (backToKw pos (keywordEach r env)).any (·.1.isNone)) = false
        rw [h2]; rfl
      · show n :: (backToKw pos (keywordEach r env)).filterMap (·.1) = n :: r.filterMap (·.1)
        rw [h3]
section
variable {X : Cx} {CX : CXT} {k : Nat} {f : Addr} {fd : FuncData} {ps ks : List Str} {sp : Sp} {x : Str} {p pos : Pos} {kws : List Keyword} {tk : TA} {g : List Value → List Value → List Value} {gV : List V → List V → List V}
theorem run_kS {pins : List (Addr × Obj)} {σ : L2.St} {H : Hp} {s : Shared} {Q : VK} {ws : List Value} {zs : List V} {E : XK} (F : FnOk X.prog X.w X.K X.mg X.base CX k f fd ps sp) (hr : Room k X.A) (hb : KBinds X.K fd ps ks g gV) (hx : PassesAt CX X σ E) (I : Inv X pins σ H s) (rz : Vals zs ws) (h : sp (gV [] zs) H Q E) :
    wpAny (model X.prog X.w) X.A (call (.ref f) [] (ks.zip ws)) (EP X pins σ Q) X.xe s := by
  have hv := hb.rel .nil rz
  have hl : (g [] ws).length = ps.length := by rw [← hv.length]; exact F.len _ _ _ _ h
  refine wpAny_call (codeAny_mono (F.run X.A X.stack s H ⟨[], ks.zip ws⟩ (g [] ws) (gV [] zs) Q E hr I.env0 (hb.to s [] ws I.kIn hl) hv h) fun r s' hq => ?_)
  match r with
  | .error e => exact hx pins H s e s' I hq
  | .ok (.ret u) => exact I.after hq
  | .ok .next => exact False.elim hq
  | .ok .brk => exact False.elim hq
  | .ok .cont => exact False.elim hq
def tCallKS (sp : Sp) (gV : List V → List V → List V) (E : L2.St → XK) (tk : TA) : TE := fun σ H Q => tk σ H fun zs H2 => sp (gV [] zs) H2 Q (E σ)
theorem pe_callKS0 {E : L2.St → XK} (F : FnOk X.prog X.w X.K X.mg X.base CX k f fd ps sp) (hr : Room k X.A) (hg : Gl X x) (hm : X.mg x = some (.ref f)) (hk : PySem.W.keepIn X.K (.ref f) = true) (hb : KBinds X.K fd ps ks g gV) (hx : ∀ σ, PassesAt CX X σ (E σ))
    (hkw : PK X kws tk) (hall : (backToKw pos (keywordEach kws X.env)).all (·.1.isSome) = true) (hks : (backToKw pos (keywordEach kws X.env)).filterMap (·.1) = ks) (hpl : (backToKw pos (keywordEach kws X.env)).any (·.1.isNone) = false) (hdb : (x == ("__debug__" : Str)) = false := by decide) :
    PE X (.Call (.Name x p) [] kws pos) (tCallKS sp gV E tk) := by
  refine ⟨fun pins s σ H Q I h => wpAny_Call_Name_kw (ld_glob I hg hm ?_ hdb)⟩
  refine PySem.W.callWith_KW0 (h₀ := X.base) I.ok.mod.kin hk hall (thn (hkw.run pos pins s σ H _ I h) fun ws s2 ⟨zs, H2, I2, rz, q2⟩ => ⟨I2.kIn, ?_⟩) (by show (false || _) = false; rw [hpl]; rfl)
  rw [hks]
  exact run_kS F hr hb (hx σ) I2 rz q2
end

/-! ### the values of the keywords -/
def SK (C : Cs) (kws : List Keyword) (g : Fa) : Prop := ∀ F m h env H σ, Rl (C.S F) m h H → EnvR (C.S F) m H σ env → ∀ Q : List V → Hp → Prop, Post C F m H σ kA (g env h) Q → kAny C kws σ H Q
section
variable {C : Cs} {e o : Expr} {f fo : Fe} {g : Fa} {kws : List Keyword} {nm : Option Str} {kpos p pos apos : Pos} {x : Str} {φ : Fn} {k : Nat} {ad : Addr} {ks : List Str} {perm : List Nat}
theorem sk_nil : SK C [] aNil := fun F m h env H σ R E Q p => ⟨tNil, fun _ => pk_nil, p m _ H .refl R .nil⟩
theorem sk_cons (ha : SE C e f) (hb : SK C kws g) : SK C (⟨nm, e, kpos⟩ :: kws) (aCons f g) := fun F m h env H σ R E Q p =>
  ⟨tCons (eAny C e) (kAny C kws), fun j => pk_cons (pe_any C e j) (pk_any C kws j), ha F m h env H σ R E _ (p.bind fun rx h1 m1 x H1 e1 s1 R1 r1 p1 => hb F m1 h1 env H1 σ R1 (E.step s1) _ (p1.bind fun ys h2 m2 vs H2 e2 s2 R2 r2 p2 =>
    p2 m2 _ H2 .refl R2 (.cons (kE.step s2 r1).toV r2)))⟩
/-- a def as callers by keyword see it -/
structure FnMK (P : Program) (w : World) (K : Fg) (mg : Str → Option Value) (base : Heap) (T : Addr → Prop) (k : Nat) (f : Addr) (φ : Fn) (n : Nat) (ks : List Str) (perm : List Nat) : Prop where
  ex : ∃ fd ps, FnOk P w K mg base (L2N.CX P w) k f fd ps (spM K mg T φ) ∧ PySem.W.keepIn K (.ref f) = true ∧ KBinds K fd ps ks (gPerm n ks.length perm) (gPerm n ks.length perm) ∧ (0 < n → KBn K fd ps n ks (gPerm n ks.length perm) (gPerm n ks.length perm))
def pmt (perm : List Nat) {α : Type} (ds : List α) : List α := perm.filterMap fun i => ds[i]?
theorem VRs.pmt {S : Sx} {m : Mm} {H : Hp} {vs : List V} {ds : List MV} (r : VRs S m H vs ds) : ∀ perm : List Nat, VRs S m H (Mp.pmt perm vs) (Mp.pmt perm ds)
  | [] => .nil
  | i :: p => by
    have ih := r.pmt p
    unfold Mp.pmt at ih ⊢
    rw [List.filterMap_cons, List.filterMap_cons]
    cases h : vs[i]? with
    | none =>
      have hl := List.getElem?_eq_none_iff.mp h
      rw [r.length] at hl
      rw [List.getElem?_eq_none_iff.mpr hl]
      exact ih
    | some x =>
      obtain ⟨d, e, q⟩ := r.get' h
      rw [e]
      exact .cons q ih
def eCallK (φ : Fn) (nk : Nat) (perm : List Nat) (g : Fa) : Fe := fun env h => (g env h).bind fun ds h1 => if ds.length = nk then (φ (pmt perm ds) h1).bind fun d h2 => .ok (.v d) h2 else .no
theorem se_callK [hc : Cold C] (F : FnMK C.P C.w C.K C.mg C.base C.T k ad φ 0 ks perm) (hk : k ≤ C.k) (hm : C.mg x = some (.ref ad)) (hg : ∀ j, Gl (C.X j) x) (hdb : (x == ("__debug__" : Str)) = false) (hns : ∀ q ∈ kws, q.1.isSome = true) (hks : kws.filterMap (·.1) = ks) (ha : SK C kws g) :
    SE C (.Call (.Name x p) [] kws pos) (eCallK φ ks.length perm g) := by
  obtain ⟨fd, ps, G, kp, hb, _⟩ := F.ex
  refine se_of (t := tCallKS (spM C.K C.mg C.T φ) (gPerm 0 ks.length perm) (WE C.W) (kAny C kws)) (fun j => ?_) fun F m h env H σ R E Q q => ha F m h env H σ R E _ (q.bind fun ds h1 m1 vs H1 e1 s1 R1 r1 p1 => ?_)
  · obtain ⟨h1, h2, h3⟩ := kw_some kws (C.X j).env pos hns
    exact pe_callKS0 (fnAtX G hk j) (C.cold j hc.h) (hg j) (by rw [C.hmg]; exact hm) (by rw [C.hK]; exact kp) (by rw [C.hK]; exact hb) (fun σ => L2N.passAt (C.takes j) σ) (pk_any C kws j) h1 (h3.trans hks) h2 hdb
  · split at p1
    · rename_i hl
      have hr : VRs (C.S F) m1 H1 vs ds := r1
      have e2 : gPerm 0 ks.length perm [] vs = pmt perm vs := by
        unfold gPerm
        rw [if_pos ⟨rfl, by rw [hr.length]; exact hl⟩]
        rfl
      rw [e2]
      exact post_call R1 (hr.pmt perm) p1
    · exact p1.elim
/-! methods -/
def MetEK (o : Expr) (m : Str) (apos pos : Pos) (kws : List Keyword) : Prop := ∀ env : Env, ∃ pl : Sem Bool, eval (.Call (.Attribute o m apos) [] kws pos) env = (do
      let ov ← eval o env
      standAt apos.atName
      let (f, first) ← holding [ov] (getMethod ov m pl)
      callWith pos f first (backTo pos (starEach [] env)) (backToKw pos (keywordEach kws env)))
def tMethK (C : Addr) (m : Str) (sp : Sp) (gV : List V → List V → List V) (E : XK) (ta : TE) (tk : TA) : TE := fun σ H Q => ta σ H fun x H1 => ∃ a dx fs, x = .ref a ∧ H1 a = some (.ins C dx fs) ∧ fs.lookup m = none ∧ tk σ H1 fun zs H2 => sp (gV [x] zs) H2 Q E
theorem pe_methK0 {X : Cx} {CX : CXT} {k : Nat} {f Cl : Addr} {fd : FuncData} {ps ks : List Str} {sp : Sp} {E : XK} {m : Str} {pos apos : Pos} {o : Expr} {ta : TE} {kws : List Keyword} {tk : TA} {g : List Value → List Value → List Value} {gV : List V → List V → List V} {pl : Sem Bool} (he : PE X o ta) (c : Cls X.K Cl) (hm : Meth X.K Cl m f) (F : FnOk X.prog X.w X.K X.mg X.base CX k f fd ps sp) (hr : Room k X.A) (hb : KBinds X.K fd ps ks g gV) (hx : Passes CX X E)
    (hkw : PK X kws tk) (hall : (backToKw pos (keywordEach kws X.env)).all (·.1.isSome) = true) (hks : (backToKw pos (keywordEach kws X.env)).filterMap (·.1) = ks) (hpl : (backToKw pos (keywordEach kws X.env)).any (·.1.isNone) = false)
    (ht : eval (.Call (.Attribute o m apos) [] kws pos) X.env = (do
      let ov ← eval o X.env
      standAt apos.atName
      let (f, first) ← holding [ov] (getMethod ov m pl)
      callWith pos f first (backTo pos (starEach [] X.env)) (backToKw pos (keywordEach kws X.env)))) :
    PE X (.Call (.Attribute o m apos) [] kws pos) (tMethK Cl m sp gV E ta tk) := by
  refine ⟨fun pins s σ H Q I h => ?_⟩
  refine PySem.W.methodCall_KW (pl := pl) (thn (he.run pins s σ H _ I h) fun u s1 ⟨x, H1, I1, rx, a, dx, fs, ex, ea, l, q⟩ => ?_) ht
  subst ex
  obtain rfl : u = Value.ref a := rx
  refine getmeth_ok I1 ea c hm l ?_
  refine PySem.W.callWith_KW0 (first := [.ref a]) (h₀ := X.base) I1.ok.mod.kin hm.kp hall (thn (hkw.run pos pins s1 σ H1 _ I1 q) fun ws s2 ⟨zs, H2, I2, rz, q2⟩ => ⟨I2.kIn, ?_⟩) (by show (false || _) = false; rw [hpl]; rfl)
  rw [hks]
  exact run_fnk (us := [.ref a]) (vs := [.ref a]) F hr hb hx I2 (.cons rfl .nil) rz q2
def eMethK (c m : Str) (φ : Fn) (nk : Nat) (perm : List Nat) (fo : Fe) (g : Fa) : Fe := fun env h => (fo env h).bind fun o h1 => if isIns c m h1 o = true then (g env h1).bind fun ds h2 => if ds.length = nk then (noEx (φ (pmt perm (o.toV :: ds)) h2)).bind fun d h3 => .ok (.v d) h3 else .no else .no
theorem se_methK [hc : Cold C] {c me : Str} {Ca : Addr} {na : Flds} (F : FnMK C.P C.w C.K C.mg C.base C.T k ad φ 1 ks perm) (hk : k ≤ C.k) (M : MethC C c me Ca ad na) (ht : MetEK o me apos pos kws) (hns : ∀ q ∈ kws, q.1.isSome = true) (hks : kws.filterMap (·.1) = ks) (ho : SE C o fo) (ha : SK C kws g) :
    SE C (.Call (.Attribute o me apos) [] kws pos) (eMethK c me φ ks.length perm fo g) := by
  obtain ⟨fd, ps, G, kp, hb, _⟩ := F.ex
  refine se_of (t := tMethK Ca me (spM C.K C.mg C.T fun ds h => noEx (φ ds h)) (gPerm 1 ks.length perm) E0 (eAny C o) (kAny C kws)) (fun j => ?_) fun F m h env H σ R E Q q => ho F m h env H σ R E _ (q.bind fun ro h1 m1 x H1 e1 s1 R1 r1 p1 => ?_)
  · have e1 := C.hK j
    obtain ⟨h1, h2, h3⟩ := kw_some kws (C.X j).env pos hns
    obtain ⟨pl, hpl⟩ := ht (C.X j).env
    exact pe_methK0 (pl := pl) (pe_any C o j) (by rw [e1]; exact M.cl) (by rw [e1]; exact M.me) (fnAt (fn_cx0 G) hk j) (C.cold j hc.h) (by rw [e1]; exact hb) pass0 (pk_any C kws j) h1 (h3.trans hks) h2 hpl
  · cases hi : isIns c me h1 ro with
    | false => rw [hi, if_neg Bool.false_ne_true] at p1; exact p1.elim
    | true =>
      rw [hi, if_pos rfl] at p1
      obtain ⟨a, Ca', dx, ws, rfl, hca, h3, h4⟩ := is_ins R1 r1 hi
      obtain rfl : Ca' = Ca := by
        have := hca.symm.trans M.g
        cases this
        rfl
      refine ⟨a, dx, ws, rfl, h3, h4, ha F m1 h1 env H1 σ R1 (E.step s1) _ (p1.bind fun ds h2 m2 vs H2 e2 s2 R2 r2 p2 => ?_)⟩
      split at p2
      · rename_i hl
        have hr : VRs (C.S F) m2 H2 vs ds := r2
        have e3 : gPerm 1 ks.length perm [V.ref a] vs = pmt perm (V.ref a :: vs) := by
          unfold gPerm
          rw [if_pos ⟨rfl, by rw [hr.length]; exact hl⟩]
          rfl
        rw [e3]
        have hc2 : VRs (C.S F) m2 H2 (V.ref a :: vs) (ro.toV :: ds) := .cons (RR.toV (kE.step s2 r1)) hr
        exact post_meth R2 (hc2.pmt perm) p2
      · exact p2.elim
end
end Mp

/-! M19: a tuple taken once, not at all; bit_length; a new instance by keywords. -/
namespace Mp
open PySem PySem.Spec PyProof.Rows L2
/-! ### bit_length -/
def eBits (fo : Fe) : Fe := fun env h => (fo env h).bind fun x h1 => match x with
  | .v (.int i) => .ok (.v (.int (Builtin.Int.intBits i : Nat))) h1
  | _ => .no
section
variable {C : Cs} {e o : Expr} {f fo : Fe} {g : Fa} {kws : List Keyword} {p pos apos : Pos} {φ : Fn} {k : Nat} {ad : Addr} {ks : List Str} {perm : List Nat}
theorem se_bits (M : MetT o "bit_length" apos pos) (ho : SE C o fo) : SE C (.Call (.Attribute o "bit_length" apos) [] [] pos) (eBits fo) :=
  se_of (fun j => pe_bits (pe_any C o j) (M.base _) M.line) fun F m h env H σ R E Q q => ho F m h env H σ R E _ (q.bind fun rx h1 m1 x H1 e1 s1 R1 r1 p1 => by
    split at p1
    · rename_i i
      exact ⟨i, vr_int (rr_v r1), post_v R1 (.int _) p1⟩
    · exact p1.elim)
/-! ### a new instance by keywords -/
def eNewK (c : Str) (φ : Fn) (nk : Nat) (perm : List Nat) (g : Fa) : Fe := fun env h => (g env h).bind fun ds h1 => if ds.length = nk then (noEx (φ (pmt perm (.ref h1.length :: ds)) (h1 ++ [.ins c []]))).bind fun d h2 => match d with
  | .non => .ok (.v (.ref h1.length)) h2
  | _ => .no else .no
theorem post_newK [hc : Cold C] {F : Addr → Prop} {m : Mm} {h : MHp} {H : Hp} {σ : L2.St} {ds : List MV} {vs : List V} {Q : VK} {c : Str} {Ca : Addr} (hg : C.mg c = some (.ref Ca)) (R : Rl (C.S F) m h H) (hv : VRs (C.S F) m H vs ds)
    (q : Post C F m H σ kE ((noEx (φ (pmt perm (.ref h.length :: ds)) (h ++ [.ins c []]))).bind fun d h2 => match d with
  | .non => .ok (.v (.ref h.length)) h2
  | _ => .no) Q) : ∀ x dx, H x = none → H dx = none → dx ≠ x → spM C.K C.mg C.T (fun ds h => noEx (φ ds h)) (pmt perm (V.ref x :: vs)) (upd (upd H dx (.own x)) x (.ins Ca dx [])) (fun v H2 => v = .non ∧ Q (.ref x) H2) E0 := fun x dx hx hdx hne => by
  have s1 : Stp (C.S F) m H m (upd H dx (.own x)) := .made hdx
  have R1 := R.made (o := .own x) hdx
  have hx1 : upd H dx (.own x) x = none := by rw [upd_ne (fun z => hne z.symm)]; exact hx
  have s2 : Stp (C.S F) m (upd H dx (.own x)) m (upd (upd H dx (.own x)) x (.ins Ca dx [])) := .made hx1
  have nF : ¬ F x := fun z => (R.fo x z).1 hx
  have R2 : Rl (C.S F) (m ++ [some x]) (h ++ [.ins c []]) (upd (upd H dx (.own x)) x (.ins Ca dx [])) := Rl.give (S := C.S F) (R1.begin hx1) nF ⟨Ca, dx, [], hg, upd_same, .nil⟩
  have s3 : Stp (C.S F) m H (m ++ [some x]) (upd (upd H dx (.own x)) x (.ins Ca dx [])) := (s1.trans s2).push hx
  have at' : (m ++ [some x])[h.length]? = some (some x) := by rw [← R.len]; simp
  refine ⟨F, m ++ [some x], h ++ [MO.ins c []], pmt perm (MV.ref h.length :: ds), ?_⟩
  rw [← cold_S F]
  have hall : VRs (C.S F) (m ++ [some x]) (upd (upd H dx (.own x)) x (.ins Ca dx [])) (V.ref x :: vs) (MV.ref h.length :: ds) := .cons (.ref (.inl at')) (hv.step s3)
  refine ⟨R2, hall.pmt perm, ?_⟩
  dsimp only
  cases e : φ (pmt perm (MV.ref h.length :: ds)) (h ++ [.ins c []]) with
  | ok d h' =>
    rw [e] at q
    cases d with
    | non => exact fun m' v H' s R' hv' => ⟨vr_non hv', q m' (.ref x) H' (s3.trans s) R' (.v (VR.step s (.ref (.inl at'))))⟩
    | _ => exact q.elim
  | ex c fs h' => rw [e] at q; exact q.elim
  | no => rw [e] at q; exact q.elim
theorem se_newK [hc : Cold C] {c : Str} {Ca : Addr} (F : FnMK C.P C.w C.K C.mg C.base C.T k ad φ 1 ks perm) (hk : k + 1 ≤ C.k) (M : MakeC C c Ca ad) (hg : ∀ j, Gl (C.X j) c) (hdb : (c == ("__debug__" : Str)) = false) (hns : ∀ q ∈ kws, q.1.isSome = true) (hks : kws.filterMap (·.1) = ks) (ha : SK C kws g) : SE C (.Call (.Name c p) [] kws pos) (eNewK c φ ks.length perm g) := by
  obtain ⟨fd, ps, G, kp, _, hb⟩ := F.ex
  refine se_of (t := tMakeK Ca 0 ks.length (spM C.K C.mg C.T fun ds h => noEx (φ ds h)) (gPerm 1 ks.length perm) E0 tNil (kAny C kws)) (fun j => ?_) fun F m h env H σ R E Q q => ha F m h env H σ R E _ (q.bind fun ds h1 m1 vs H1 e1 s1 R1 r1 p1 => ?_)
  · have e1 := C.hK j
    obtain ⟨h1, h2, h3⟩ := kw_some kws (C.X j).env pos hns
    have G' : FnOk (C.X j).prog (C.X j).w (C.X j).K (C.X j).mg (C.X j).base CX0 k ad fd ps (spM C.K C.mg C.T fun ds h => noEx (φ ds h)) := by
      rw [C.hP, C.hw, C.hK, C.hmg, C.hbase]
      exact fn_cx0 G
    exact pe_makeK0 (by rw [e1]; exact M.k) G' ((C.cold j hc.h).mono hk) (hg j) (by rw [C.hmg]; exact M.g) (by rw [e1]; exact hb (by decide)) pass0 (pk_any C kws j) h1 (h3.trans hks) hdb (by show (false || _) = false; rw [h2]; rfl)
  · have hr : VRs (C.S F) m1 H1 vs ds := r1
    split at p1
    · rename_i hl
      refine ⟨rfl, by rw [hr.length]; exact hl, ?_⟩
      have e2 : ∀ x : Addr, gPerm 1 ks.length perm [V.ref x] vs = pmt perm (V.ref x :: vs) := fun x => by
        unfold gPerm
        rw [if_pos ⟨rfl, by rw [hr.length]; exact hl⟩]
        rfl
      intro x dx hx hdx hne
      show spM C.K C.mg C.T _ (gPerm 1 ks.length perm [V.ref x] vs) _ _ _
      rw [e2]
      exact post_newK M.g R1 hr p1 x dx hx hdx hne
    · exact p1.elim
end
end Mp

/-! M20: the inner text, and what it does. -/
namespace Mp
open PySem PySem.Spec PyProof.Rows L2
inductive Bop where
  | add | sub | mul | div | mod | pow | shr | and1
def Bop.o : Bop → Operator
  | .add => .Add | .sub => .Sub | .mul => .Mult | .div => .FloorDiv | .mod => .Mod | .pow => .Pow | .shr => .RShift | .and1 => .BitAnd
def Bop.m : Bop → Op2
  | .add => mAdd | .sub => mSub | .mul => mMul | .div => mDiv | .mod => mMod | .pow => mPow | .shr => mShr | .and1 => mAnd1
inductive Cop where
  | lt | gt | le | ge | eq | ne | isin | notin
def Cop.o : Cop → CmpOp
  | .lt => .Lt | .gt => .Gt | .le => .LtE | .ge => .GtE | .eq => .Eq | .ne => .NotEq | .isin => .In | .notin => .NotIn
def Cop.g : Cop → Cmp2
  | .lt => gLt | .gt => gGt | .le => gLe | .ge => gGe | .eq => gEq false | .ne => gEq true | .isin => gIn false | .notin => gIn true
inductive Fn1 where
  | len | int | abs | str | list | tuple | sum | max | min
def Fn1.x : Fn1 → String
  | .len => "len" | .int => "int" | .abs => "abs" | .str => "str" | .list => "list" | .tuple => "tuple" | .sum => "sum" | .max => "max" | .min => "min"
def Fn1.m : Fn1 → Op1
  | .len => mLen | .int => mInt | .abs => mAbs | .str => mStr | .list => mList | .tuple => mTuple | .sum => mSum | .max => mMaxL | .min => mMinL
inductive Fn2 where
  | max | min | divmod
def Fn2.x : Fn2 → String
  | .max => "max" | .min => "min" | .divmod => "divmod"
def Fn2.m : Fn2 → Op2
  | .max => mMax | .min => mMin | .divmod => mDivmod
inductive Ty where
  | int | bool | str | list | tuple
def Ty.x : Ty → String
  | .int => "int" | .bool => "bool" | .str => "str" | .list => "list" | .tuple => "tuple"
mutual
inductive IE where
  | v (i : Nat) | int (i : Int) | bl (b : Bool) | str (x : Str) | non
  /-- the j-th of the module's constants; a def as a value -/
  | con (j : Nat) | fnv (x : Str)
  | bin (o : Bop) (a b : IE) | neg (a : IE) | not (a : IE)
  | cmp (o : Cop) (a b : IE) | chain (o o' : Cop) (a b c : IE) | isN (neg : Bool) (a : IE)
  | ix (a b : IE) | sl (a : IE) (l u : IO) | rev (a : IE) | sidx (o a : IE)
  | tup (es : IA) | lst (es : IA)
  | c1 (f : Fn1) (a : IE) | c2 (f : Fn2) (a b : IE) | isi (T : Ty) (a : IE)
  | one (a : IE) | and (a b : IE) | or (a b : IE) | ite (t : IT) (a b : IE)
  | lc (l : IL)
  | own (a : IE) | frz (k : Nat) (a : IE)
  | app (o a : IE) | ext (o a : IE) | get1 (o a : IE) | get2 (o a b : IE) | dnew (t : Bool)
  | fld (a : IE) (f : Str)
  | call (i : Nat) (es : IA) | callK (i : Nat) (ks : List Str) (perm : List Nat) (es : IA) | meth (m : Str) (o : IE) (es : IA) | methK (m : Str) (o : IE) (ks : List Str) (es : IA) | new (c : Str) (i : Nat) (es : IA) | newK (c : Str) (i : Nat) (ks : List Str) (perm : List Nat) (es : IA) | bits (a : IE)
/-- a comprehension -/
inductive IL where
  | one (vs : List Nat) (i : II) (p : Pat) (ifs : IT) (e : IE)
  | two (vs : List Nat) (i : II) (p : Pat) (ifs : IT) (i1 : II) (p1 : Pat) (ifs1 : IT) (e : IE)
inductive IO where
  | non | some (a : IE)
inductive IA where
  | nil | cons (a : IE) (es : IA)
/-- a test -/
inductive IT where
  | yes | val (a : IE) | all (w : IW) | any (w : IW) | not (t : IT)
inductive IW where
  | one (t : IT) | cons (t : IT) (w : IW)
inductive II where
  | seq (a : IE) | rng1 (a : IE) | rng2 (a b : IE) | rev (a : IE) | enum (a : IE) | zip (a b : IE)
end
/-- what becomes of a list that is stored -/
inductive Wr where
  | no | own | frz (k : Nat)
def Wr.f : Wr → Fe → Fe
  | .no, f => f
  | .own, f => eOwn f
  | .frz k, f => eFrz k f
mutual
inductive IS where
  | pass | brk | cnt | do (e : IE) | ret (e : IE) | retN
  | asg (p : Pat) (e : IE) | setLc (i : Nat) (w : Wr) (l : IL) | fld (o : IE) (f : Str) (e : IE) | ix (o k e : IE)
  | ite (t : IT) (a b : IB) | wh (n : Nat) (t : IT) (b : IB) | for (i : II) (p : Pat) (b : IB)
  | raise (x : Str) (es : IA) | tryN (b : IB)
inductive IB where
  | nil | cons (s : IS) (b : IB)
end
/-! ### tables -/
def lEq : List Nat → List Nat → Bool
  | [], [] => true
  | a :: as, b :: bs => Nat.beq a b && lEq as bs
  | _, _ => false
theorem lEq_ok : ∀ {a b : List Nat}, lEq a b = true → a = b
  | [], [], _ => rfl
  | a :: as, b :: bs, h => by
    obtain ⟨h1, h2⟩ := Bool.and_eq_true_iff.mp h
    rw [Nat.eq_of_beq_eq_true h1, lEq_ok h2]
  | [], _ :: _, h => nomatch h
  | _ :: _, [], h => nomatch h
theorem lEq_self : ∀ a : List Nat, lEq a a = true
  | [] => rfl
  | a :: as => by
    show (Nat.beq a a && lEq as as) = true
    rw [Nat.beq_refl, lEq_self as]; rfl
def sEq (a b : Str) : Bool := lEq a.cps.toList b.cps.toList
theorem sEq_ok {a b : Str} (h : sEq a b = true) : a = b := by
  have := lEq_ok h
  cases a; cases b
  exact congrArg _ (Array.toList_inj.mp this)
theorem sEq_iff {a b : Str} : sEq a b = decide (a = b) := by
  by_cases h : a = b
  · subst h; rw [decide_eq_true rfl]; exact lEq_self _
  · rw [decide_eq_false h]
    cases q : sEq a b with
    | true => exact absurd (sEq_ok q) h
    | false => rfl
/-- what stands at a name -/
def lkS {α : Type} : List (Str × α) → Str → Option α
  | [], _ => none
  | (y, a) :: r, x => if sEq x y = true then some a else lkS r x
theorem lkS_lookup {α : Type} (x : Str) : ∀ l : List (Str × α), lkS l x = l.lookup x
  | [] => rfl
  | (y, a) :: r => by
    unfold lkS
    rw [List.lookup_cons, lkS_lookup x r, sEq_iff]
    show _ = match decide (x = y) with
      | true => some a
      | false => _
    cases decide (x = y) <;> rfl
theorem lkS_mem {α : Type} {x : Str} {a : α} : ∀ {l : List (Str × α)}, lkS l x = some a → (x, a) ∈ l
  | (y, b) :: r, h => by
    unfold lkS at h
    split at h
    · rename_i e
      cases h
      rw [sEq_ok e]
      exact List.mem_cons_self
    · exact List.mem_cons_of_mem _ (lkS_mem h)
def inS (l : List Str) (x : Str) : Bool := l.any (sEq x)
theorem inS_mem {l : List Str} {x : Str} (h : inS l x = true) : x ∈ l := by
  obtain ⟨y, h1, h2⟩ := List.any_eq_true.mp h
  rw [sEq_ok h2]
  exact h1
theorem inS_not {l : List Str} {x : Str} (h : inS l x = false) : x ∉ l := fun z => by
  have := List.any_eq_false.mp h x z
  rw [sEq_iff, decide_eq_true rfl] at this
  exact this rfl
structure Tab where
  /-- defs by name -/
  fns : List (Str × Nat) := []
  /-- constants -/
  con : List (Str × MV) := []
  /-- class, method, def -/
  mts : List (Str × List (Str × Nat)) := []
  /-- class, its __init__'s def -/
  news : List (Str × Nat) := []
  /-- exception classes, their fields -/
  excs : List (Str × List Str) := []
  /-- class, fields -/
  flds : List (Str × List Str) := []
  /-- def, names of keywords, which of what is handed in each parameter takes -/
  kws : List (Nat × List Str × List Nat) := []
structure Gx where
  t : Tab
  cl : Nat → Fn
  cl1 : Nat → Fn
def Tab.na (t : Tab) : Flds := fun c f => match lkS t.flds c with
  | some fs => inS fs f
  | none => false
def Tab.conV (t : Tab) (j : Nat) : MV := match t.con[j]? with
  | some p => p.2
  | none => .non
def Tab.exF (t : Tab) (x : Str) : List Str := match lkS t.excs x with
  | some fl => fl
  | none => []
def Tab.mt (t : Tab) (c m : Str) : Option Nat := (lkS t.mts c).bind fun l => lkS l m
def lsEq : List Str → List Str → Bool
  | [], [] => true
  | a :: as, b :: bs => sEq a b && lsEq as bs
  | _, _ => false
theorem lsEq_ok : ∀ {a b : List Str}, lsEq a b = true → a = b
  | [], [], _ => rfl
  | a :: as, b :: bs, h => by
    obtain ⟨h1, h2⟩ := Bool.and_eq_true_iff.mp h
    rw [sEq_ok h1, lsEq_ok h2]
  | [], _ :: _, h => nomatch h
  | _ :: _, [], h => nomatch h
def Tab.perm (t : Tab) (i : Nat) (ks : List Str) : Option (List Nat) := (t.kws.find? fun r => Nat.beq r.1 i && lsEq r.2.1 ks).map (·.2.2)
theorem perm_mem {t : Tab} {i : Nat} {ks : List Str} {perm : List Nat} (h : t.perm i ks = some perm) : (i, ks, perm) ∈ t.kws := by
  obtain ⟨r, h1, h2⟩ := Option.map_eq_some_iff.mp h
  have h3 := List.find?_some h1
  obtain ⟨h4, h5⟩ := Bool.and_eq_true_iff.mp h3
  have e : r = (i, ks, perm) := by
    obtain ⟨a, b, c⟩ := r
    have e1 : a = i := Nat.eq_of_beq_eq_true h4
    have e2 : b = ks := lsEq_ok h5
    have e3 : c = perm := h2
    rw [e1, e2, e3]
  rw [← e]
  exact List.mem_of_find?_eq_some h1
/-- the class of an instance -/
def clsAt (h : MHp) (o : RV) : Option Str := match o with
  | .v (.ref n) => match h[n]? with
    | some (.ins c _) => some c
    | _ => none
  | _ => none
/-- a method, whatever the class -/
def eMethD (g : Gx) (m : Str) (fo : Fe) (ga : Fa) : Fe := fun env h => (noEx (fo env h)).bind fun o h1 => match clsAt h1 o with
  | some c => match g.t.mt c m with
    | some i => if isIns c m h1 o = true then (ga env h1).bind fun ds h2 => (noEx (g.cl i (o.toV :: ds) h2)).bind fun d h3 => .ok (.v d) h3 else .no
    | none => .no
  | none => .no
def eMethKD (g : Gx) (m : Str) (ks : List Str) (fo : Fe) (ga : Fa) : Fe := fun env h => (noEx (fo env h)).bind fun o h1 => match clsAt h1 o with
  | some c => match g.t.mt c m with
    | some i => match g.t.perm i ks with
      | some perm => if isIns c m h1 o = true then (ga env h1).bind fun ds h2 => if ds.length = ks.length then (noEx (g.cl i (pmt perm (o.toV :: ds)) h2)).bind fun d h3 => .ok (.v d) h3 else .no else .no
      | none => .no
    | none => .no
  | none => .no
/-! ### what it does -/
mutual
def evE (g : Gx) : IE → Fe
  | .v i => eVar i
  | .int i => eVal (.int i)
  | .bl b => eVal (.bl b)
  | .str x => eVal (.str x)
  | .non => eVal .non
  | .con j => eVal (g.t.conV j)
  | .fnv x => eVal (.fn x)
  | .bin o a b => eBin o.m (evE g a) (evE g b)
  | .neg a => eNeg (evE g a)
  | .not a => eNot (evE g a)
  | .cmp o a b => eBin (mB o.g) (evE g a) (evE g b)
  | .chain o o' a b c => eChain o.g o'.g (evE g a) (evE g b) (evE g c)
  | .isN n a => eIsN n (evE g a)
  | .ix a b => eBin mIxD (evE g a) (evE g b)
  | .sl a l u => eSl (evE g a) (evO g l) (evO g u)
  | .rev a => eRev (evE g a)
  | .sidx o a => eSIdx (evE g o) (evE g a)
  | .tup es => eTup (evA g es)
  | .lst es => eLst (evA g es)
  | .c1 f a => eC1 f.m (evE g a)
  | .c2 f a b => eBin f.m (evE g a) (evE g b)
  | .isi T a => eC1 (mIsi T.x) (evE g a)
  | .one a => evE g a
  | .and a b => eAnd (evE g a) (evE g b)
  | .or a b => eOr (evE g a) (evE g b)
  | .ite t a b => eIte (evT g t) (evE g a) (evE g b)
  | .lc l => evL g l
  | .own a => eOwn (evE g a)
  | .frz k a => eFrz k (evE g a)
  | .app o a => eMet1 isLst mApp (evE g o) (evE g a)
  | .ext o a => eMet1 isLst mExt (evE g o) (evE g a)
  | .get1 o a => eDGet1 (evE g o) (evE g a)
  | .get2 o a b => eDGet2 (evE g o) (evE g a) (evE g b)
  | .dnew t => eDNew t
  | .fld a f => eFld g.t.na (evE g a) f
  | .call i es => eCall (g.cl i) (evA g es)
  | .meth m o es => eMethD g m (evE g o) (evA g es)
  | .callK i ks perm es => eCallK (g.cl i) ks.length perm (evA g es)
  | .methK m o ks es => eMethKD g m ks (evE g o) (evA g es)
  | .new c i es => eNew c (g.cl1 i) (evA g es)
  | .newK c i ks perm es => eNewK c (g.cl1 i) ks.length perm (evA g es)
  | .bits a => eBits (evE g a)
def evL (g : Gx) : IL → Fe
  | .one vs i p ifs e => eLc (evI g i) p vs (lcPut (evT g ifs) (evE g e))
  | .two vs i p ifs i1 p1 ifs1 e => eLc (evI g i) p vs (lcIn (evT g ifs) (evI g i1) p1 p1.ix (lcPut (evT g ifs1) (evE g e)))
def evO (g : Gx) : IO → Fo
  | .non => oNone
  | .some a => oSome (evE g a)
def evA (g : Gx) : IA → Fa
  | .nil => aNil
  | .cons a es => aCons (evE g a) (evA g es)
def evT (g : Gx) : IT → Ft
  | .yes => tYesM
  | .val a => fT (evE g a)
  | .all w => evW g true w
  | .any w => evW g false w
  | .not t => tNotM (evT g t)
def evW (g : Gx) (k : Bool) : IW → Ft
  | .one t => evT g t
  | .cons t w => if k then tAndM (evT g t) (evW g k w) else tOrM (evT g t) (evW g k w)
def evI (g : Gx) : II → Fi
  | .seq a => iSeq (evE g a)
  | .rng1 a => iRng1M (evE g a)
  | .rng2 a b => iRng2M (evE g a) (evE g b)
  | .rev a => iRevM (evE g a)
  | .enum a => iEnumM (evE g a)
  | .zip a b => iZipM2 (evE g a) (evE g b)
end
mutual
def evS (g : Gx) : IS → Fs
  | .pass => sNil
  | .brk => sBrk
  | .cnt => sCnt
  | .do e => sDo (evE g e)
  | .ret e => sRet (evE g e)
  | .retN => sRetN
  | .asg p e => sAsg p (evE g e)
  | .setLc i w l => sAsg (.nm i) (w.f (evL g l))
  | .fld o f e => sFldM g.t.na (evE g o) (evE g e) f
  | .ix o k e => sIxM (evE g o) (evE g k) (evE g e)
  | .ite t a b => sIf (evT g t) (evB g a) (evB g b)
  | .wh n t b => sWh (evT g t) (evB g b) n
  | .for i p b => sFor (evI g i) p (evB g b)
  | .raise x es => sRaise x (g.t.exF x) (evA g es)
  | .tryN b => sTryN (evB g b)
def evB (g : Gx) : IB → Fs
  | .nil => sNil
  | .cons s b => sSeq (evS g s) (evB g b)
end
end Mp

/-! M21: whether the inner text is a program's text. -/
namespace Mp
open PySem PySem.Spec PyProof.Rows L2
/-- where the text stands: the slots' names, the block's scope, the frame's own cells -/
structure Ck where
  N : List Str
  sc : Scope
  fnc : List Str
def nthS : List Str → Nat → Str → Bool
  | [], _, _ => false
  | y :: _, 0, x => sEq y x
  | _ :: r, i + 1, x => nthS r i x
theorem nthS_ok : ∀ {l : List Str} {i : Nat} {x : Str}, nthS l i x = true → l[i]? = some x
  | y :: r, 0, x, h => by rw [sEq_ok (show sEq y x = true from h)]; rfl
  | y :: r, i + 1, x, h => by
    have := nthS_ok (l := r) (i := i) (x := x) h
    simpa using this
def kdIs (sc : Scope) (x : Str) (f : NameKind → Bool) : Bool := match lkS sc.names x with
  | some k => f k
  | none => false
def isLocK : NameKind → Bool
  | .local => true
  | .cell => true
  | _ => false
def isVisK : NameKind → Bool
  | .local => true
  | .cell => true
  | .free => true
  | _ => false
def isGlK : NameKind → Bool
  | .globalImplicit => true
  | _ => false
def isCellK : NameKind → Bool
  | .cell => true
  | _ => false
def isOuterK : NameKind → Bool
  | .cell => true
  | .free => true
  | _ => false
def isLoc1K : NameKind → Bool
  | .local => true
  | _ => false
def sDbg : Str := "__debug__"
def sCd : Str := "__classdict__"
def Ck.vis (c : Ck) (i : Nat) (x : Str) : Bool := nthS c.N i x && kdIs c.sc x isVisK && !sEq x sDbg && !sEq x sCd
def Ck.gl (c : Ck) (x : Str) : Bool := kdIs c.sc x isGlK && !sEq x sDbg
def Ck.tgt (c : Ck) (i : Nat) (x : Str) : Bool := nthS c.N i x && kdIs c.sc x isLocK && (inS c.fnc x || kdIs c.sc x isLoc1K)
def relK (scope sc : Scope) : Scope := { scope with names := scope.names.map fun p => if (isFreeK p.2 && isFunK sc.kind && kdIs sc p.1 isCellK) = true then (p.1, .cell) else p }
where
  isFreeK : NameKind → Bool
    | .free => true
    | _ => false
  isFunK : ScopeKind → Bool
    | .function => true
    | _ => false
def Ck.blk (c : Ck) (scope : Scope) : Ck := ⟨c.N, relK scope c.sc, (scope.names.filter fun p => isCellK p.2).map (·.1)⟩
/-- a block's names -/
def blkB (c : Ck) (scope : Scope) (vs : List Nat) : Bool :=
  relK.isFunK scope.kind && scope.names.all (fun y => decide (lkS scope.names y.1 = some y.2)) && vs.all (fun i => decide (i < c.N.length))
  && scope.names.all (fun y => !relK.isFreeK y.2 || kdIs c.sc y.1 isOuterK)
  && scope.names.all (fun y => !isLocK y.2 || vs.any (fun i => nthS c.N i y.1) || !inS c.N y.1)
def notStar : Expr → Bool
  | .Starred _ _ => false
  | _ => true
def notSlice : Expr → Bool
  | .Slice _ _ _ _ => false
  | _ => true
def notSet : Expr → Bool
  | .Set _ _ _ => false
  | _ => true
def notTest : Expr → Bool
  | .UnaryOp .Not _ _ => false
  | .BoolOp _ _ _ => false
  | .IfExp _ _ _ _ => false
  | .Compare _ _ _ _ => false
  | _ => true
def isCompare : Expr → Bool
  | .Compare _ _ _ _ => true
  | _ => false
def baseB : Expr → Bool
  | .Call (.Name _ _) [] [] _ => false
  | _ => true
def notTup : Expr → Bool
  | .Tuple _ _ _ => false
  | .List _ _ => false
  | _ => true
def notComp : Expr → Bool
  | .ListComp _ _ _ _ => false
  | .SetComp _ _ _ _ => false
  | .DictComp _ _ _ _ _ => false
  | _ => true
theorem ns_of {e : Expr} (h : notStar e = true) : NS e := fun rest env => by cases e <;> first | rfl | cases h
theorem px_of {e : Expr} (h : notSlice e = true) : PlainIx e := fun o i => by cases e <;> first | rfl | cases h
theorem fs_of {e : Expr} (h : notSet e = true) (env : Env) (x : Value) : foldedSetIterable e env x = pure x := by cases e <;> first | rfl | cases h
theorem pl_of {e : Expr} (h : notTest e = true) : Plain e := fun env w => by
  cases e with
  | UnaryOp op a pos => cases op <;> first | rfl | cases h
  | _ => first | rfl | cases h
theorem base_of {e : Expr} (h : baseB e = true) (nm : Str) (env : Env) (w : Sem Value) : attributeBase e nm env w = w := by
  unfold attributeBase
  split
  · cases h
  · rfl
theorem bm_of {o : CmpOp} {e : Expr} (h : notSet e = true) : behindInMarks o e = false := by cases e <;> first | rfl | cases h
theorem sw_none {e : Expr} (h : notComp e = true) (t : Option Expr) (n : Nat) (env : Env) : swapsWith e t n env = pure false := by cases e <;> first | rfl | cases h
theorem metE_of {o : Expr} {m : Str} {apos pos : Pos} {es : List Expr} (hb : baseB o = true) (hl : (apos.endLine == pos.line) = true) (hs : ∀ e ∈ es, NS e) (h30 : es.length < 30) : MetE o m apos pos es := fun env => by
  have hf : methodCallForm (es.length + ([] : List Keyword).length) (backTo pos (starEach es env)) (backToKw pos (keywordEach [] env)) = true := few_of hs h30
  refine ⟨(do return (← importBound o env).getD true), ?_⟩
  rw [eval]
  unfold methodCall
  simp only [List.length_nil] at hf
  simp only [List.length_nil, hf]
  unfold methodCallPos calleeOf
  rw [base_of hb]
  simp only [hl, Bool.not_true, Bool.false_or, if_true]
  rfl
end Mp

/-! M22: the check of an inner text against a program's text. -/
namespace Mp
open PySem PySem.Spec PyProof.Rows L2
def blts : List Str := ["len", "int", "abs", "str", "list", "tuple", "sum", "max", "min", "divmod", "isinstance", "bool", "range", "enumerate", "zip", "reversed", "sorted", "all", "any", "repr", "dict"]
/-- what is known of the module -/
structure GOk (C : Cs) (g : Gx) : Prop where
  blt : ∀ x ∈ blts, C.mg x = none
  fns : ∀ x i, (x, i) ∈ g.t.fns → ∃ ad k, k ≤ C.k ∧ C.mg x = some (.ref ad) ∧ FnM C.P C.w C.K C.mg C.base C.T k ad (g.cl i)
  con : ∀ (j : Nat) x d, g.t.con[j]? = some (x, d) → ConC C x d
  mts : ∀ c m i, g.t.mt c m = some i → ∃ Ca ad k, k ≤ C.k ∧ MethC C c m Ca ad g.t.na ∧ FnM C.P C.w C.K C.mg C.base C.T k ad (g.cl i)
  news : ∀ c i, (c, i) ∈ g.t.news → ∃ Ca ad k, k + 1 ≤ C.k ∧ MakeC C c Ca ad ∧ FnM C.P C.w C.K C.mg C.base C.T k ad (g.cl1 i)
  excs : ∀ c fl, (c, fl) ∈ g.t.excs → fl.length ≤ 1000 ∧ 2 ≤ C.k ∧ ∃ Cl, ExcT C.P C.w C.K C.mg C.base c Cl fl
  flds : FldOk C g.t.na
  kfn : ∀ x i ks perm, (x, i) ∈ g.t.fns → g.t.perm i ks = some perm → ∃ ad k, k ≤ C.k ∧ C.mg x = some (.ref ad) ∧ FnMK C.P C.w C.K C.mg C.base C.T k ad (g.cl i) 0 ks perm
  kmt : ∀ c m i ks perm, g.t.mt c m = some i → g.t.perm i ks = some perm → ∃ Ca ad k, k ≤ C.k ∧ MethC C c m Ca ad g.t.na ∧ FnMK C.P C.w C.K C.mg C.base C.T k ad (g.cl i) 1 ks perm
  knw : ∀ c i ks perm, (c, i) ∈ g.t.news → g.t.perm i ks = some perm → ∃ Ca ad k, k + 1 ≤ C.k ∧ MakeC C c Ca ad ∧ FnMK C.P C.w C.K C.mg C.base C.T k ad (g.cl1 i) 1 ks perm
/-- .. and of the block -/
structure KOk (C : Cs) (c : Ck) : Prop where
  N : C.N = c.N
  sc : ∀ j, (C.X j).env.scope = c.sc
  kf : c.sc.kind = .function
  fn : ∀ j x, x ∈ c.fnc → (C.X j).fn x = true
theorem kdIs_ok {sc : Scope} {x : Str} {f : NameKind → Bool} (h : kdIs sc x f = true) : ∃ k, sc.names.lookup x = some k ∧ f k = true := by
  unfold kdIs at h
  rw [lkS_lookup] at h
  cases q : sc.names.lookup x with
  | none => rw [q] at h; cases h
  | some k => rw [q] at h; exact ⟨k, rfl, h⟩
theorem kd_vis {sc : Scope} {x : Str} (h : kdIs sc x isVisK = true) : Vis sc x := by
  obtain ⟨k, h1, h2⟩ := kdIs_ok h
  cases k <;> first | exact .inl h1 | exact .inr (.inl h1) | exact .inr (.inr h1) | cases h2
theorem kd_loc {sc : Scope} {x : Str} (h : kdIs sc x isLocK = true) : L2.Loc sc x := by
  obtain ⟨k, h1, h2⟩ := kdIs_ok h
  cases k <;> first | exact .inl h1 | exact .inr h1 | cases h2
theorem kd_gl {sc : Scope} {x : Str} (h : kdIs sc x isGlK = true) : sc.names.lookup x = some .globalImplicit := by
  obtain ⟨k, h1, h2⟩ := kdIs_ok h
  cases k <;> first | exact h1 | cases h2
theorem kd_loc1 {sc : Scope} {x : Str} (h : kdIs sc x isLoc1K = true) : sc.names.lookup x = some .local := by
  obtain ⟨k, h1, h2⟩ := kdIs_ok h
  cases k <;> first | exact h1 | cases h2
theorem kd_out {sc : Scope} {x : Str} (h : kdIs sc x isOuterK = true) : sc.names.lookup x = some .cell ∨ sc.names.lookup x = some .free := by
  obtain ⟨k, h1, h2⟩ := kdIs_ok h
  cases k <;> first | exact .inl h1 | exact .inr h1 | cases h2
theorem ne_dbg {x : Str} (h : (!sEq x sDbg) = true) : (x == ("__debug__" : Str)) = false := by
  rw [sEq_iff] at h
  have h' : x ≠ sDbg := by simpa using h
  exact decide_eq_false h'
theorem ne_cd {x : Str} (h : (!sEq x sCd) = true) : (x == ("__classdict__" : Str)) = false := by
  rw [sEq_iff] at h
  have h' : x ≠ sCd := by simpa using h
  exact decide_eq_false h'
section
variable {C : Cs} {c : Ck} {g : Gx} {x : Str}
theorem KOk.gl (k : KOk C c) (h : c.gl x = true) : (∀ j, Gl (C.X j) x) ∧ (x == ("__debug__" : Str)) = false := by
  obtain ⟨h1, h2⟩ := Bool.and_eq_true_iff.mp h
  refine ⟨fun j => ?_, ne_dbg h2⟩
  show (C.X j).env.scope.names.lookup x = _
  rw [k.sc]
  exact kd_gl h1
theorem KOk.vis {i : Nat} (k : KOk C c) (h : c.vis i x = true) : C.N[i]? = some x ∧ (∀ j, Vis (C.X j).env.scope x) ∧ (x == ("__debug__" : Str)) = false ∧ (x == ("__classdict__" : Str)) = false := by
  obtain ⟨h1, h2⟩ := Bool.and_eq_true_iff.mp h
  obtain ⟨h1, h3⟩ := Bool.and_eq_true_iff.mp h1
  obtain ⟨h1, h4⟩ := Bool.and_eq_true_iff.mp h1
  exact ⟨by rw [k.N]; exact nthS_ok h1, fun j => by rw [k.sc]; exact kd_vis h4, ne_dbg h3, ne_cd h2⟩
theorem KOk.tgt {i : Nat} (k : KOk C c) (h : c.tgt i x = true) : C.N[i]? = some x ∧ (∀ j, L2.Loc (C.X j).env.scope x) ∧ (∀ j, (C.X j).fn x = true ∨ (C.X j).env.scope.names.lookup x = some .local) := by
  obtain ⟨h1, h2⟩ := Bool.and_eq_true_iff.mp h
  obtain ⟨h1, h3⟩ := Bool.and_eq_true_iff.mp h1
  refine ⟨by rw [k.N]; exact nthS_ok h1, fun j => by rw [k.sc]; exact kd_loc h3, fun j => ?_⟩
  rcases Bool.or_eq_true_iff.mp h2 with h2 | h2
  · exact .inl (k.fn j x (inS_mem h2))
  · exact .inr (by rw [k.sc]; exact kd_loc1 h2)
theorem relK_eq {scope sc : Scope} : relK scope sc = relS scope sc := by
  unfold relK relS
  have e : ∀ p : Str × NameKind, (if (relK.isFreeK p.2 && relK.isFunK sc.kind && kdIs sc p.1 isCellK) = true then (p.1, .cell) else p) = (match p with | (n, k) => if (k == .free && sc.kind == .function && sc.names.lookup n == some .cell) = true then (n, .cell) else (n, k)) := fun p => by
    obtain ⟨n, k⟩ := p
    have e1 : relK.isFreeK k = (k == .free) := by cases k <;> rfl
    have e2 : relK.isFunK sc.kind = (sc.kind == .function) := by cases sc.kind <;> rfl
    have e3 : kdIs sc n isCellK = (sc.names.lookup n == some .cell) := by
      unfold kdIs
      rw [lkS_lookup]
      cases sc.names.lookup n with
      | none => rfl
      | some k => cases k <;> rfl
    simp only [e1, e2, e3]
  congr 1
  exact List.map_congr_left fun p _ => e p
theorem blk_uniq {scope : Scope} {vs : List Nat} (h : blkB c scope vs = true) : ∀ y ∈ scope.names, scope.names.lookup y.1 = some y.2 := fun y hy => by
  unfold blkB at h
  obtain ⟨h, h5⟩ := Bool.and_eq_true_iff.mp h
  obtain ⟨h, h4⟩ := Bool.and_eq_true_iff.mp h
  obtain ⟨h, h3⟩ := Bool.and_eq_true_iff.mp h
  obtain ⟨h1, h2⟩ := Bool.and_eq_true_iff.mp h
  rw [← lkS_lookup]
  exact of_decide_eq_true (List.all_eq_true.mp h2 y hy)
theorem KOk.blk [hc : Cold C] (k : KOk C c) {scope : Scope} {vs : List Nat} (hb : blkB c scope vs = true) : KOk (C.blk scope) (c.blk scope) where
  N := k.N
  sc := fun q => by
    show relS scope (C.X q.1).env.scope = relK scope c.sc
    rw [k.sc, relK_eq]
  kf := by
    unfold blkB at hb
    obtain ⟨h, h5⟩ := Bool.and_eq_true_iff.mp hb
    obtain ⟨h, h4⟩ := Bool.and_eq_true_iff.mp h
    obtain ⟨h, h3⟩ := Bool.and_eq_true_iff.mp h
    obtain ⟨h1, h2⟩ := Bool.and_eq_true_iff.mp h
    show scope.kind = .function
    revert h1; cases scope.kind <;> intro h1 <;> first | rfl | cases h1
  fn := fun q x h => by
    show (scope.names.lookup x == some .cell) = true
    obtain ⟨y, hy, rfl⟩ := List.mem_map.mp h
    obtain ⟨h1, h2⟩ := List.mem_filter.mp hy
    rw [blk_uniq hb y h1]
    revert h2
    cases y.2 <;> intro h2 <;> first | rfl | cases h2
theorem GOk.blk [hc : Cold C] (G : GOk C g) {scope : Scope} : GOk (C.blk scope) g := ⟨G.blt, G.fns, fun j x d h => ⟨(G.con j x d h).ex⟩, fun c m i h => by
  obtain ⟨Ca, ad, k, h1, h2, h3⟩ := G.mts c m i h
  exact ⟨Ca, ad, k, h1, ⟨h2.g, h2.cl, h2.me, h2.nf⟩, h3⟩, fun c i h => by
  obtain ⟨Ca, ad, k, h1, h2, h3⟩ := G.news c i h
  exact ⟨Ca, ad, k, h1, ⟨h2.g, h2.k⟩, h3⟩, G.excs, G.flds, G.kfn, fun c m i ks perm h1 h2 => by
  obtain ⟨Ca, ad, k, h3, h4, h5⟩ := G.kmt c m i ks perm h1 h2
  exact ⟨Ca, ad, k, h3, ⟨h4.g, h4.cl, h4.me, h4.nf⟩, h5⟩, fun c i ks perm h1 h2 => by
  obtain ⟨Ca, ad, k, h3, h4, h5⟩ := G.knw c i ks perm h1 h2
  exact ⟨Ca, ad, k, h3, ⟨h4.g, h4.k⟩, h5⟩⟩
theorem GOk.nox [hc : Cold C] (G : GOk C g) : GOk C.nox g := ⟨G.blt, G.fns, fun j x d h => ⟨(G.con j x d h).ex⟩, fun c m i h => by
  obtain ⟨Ca, ad, k, h1, h2, h3⟩ := G.mts c m i h
  exact ⟨Ca, ad, k, h1, ⟨h2.g, h2.cl, h2.me, h2.nf⟩, h3⟩, fun c i h => by
  obtain ⟨Ca, ad, k, h1, h2, h3⟩ := G.news c i h
  exact ⟨Ca, ad, k, h1, ⟨h2.g, h2.k⟩, h3⟩, G.excs, G.flds, G.kfn, fun c m i ks perm h1 h2 => by
  obtain ⟨Ca, ad, k, h3, h4, h5⟩ := G.kmt c m i ks perm h1 h2
  exact ⟨Ca, ad, k, h3, ⟨h4.g, h4.cl, h4.me, h4.nf⟩, h5⟩, fun c i ks perm h1 h2 => by
  obtain ⟨Ca, ad, k, h3, h4, h5⟩ := G.knw c i ks perm h1 h2
  exact ⟨Ca, ad, k, h3, ⟨h4.g, h4.k⟩, h5⟩⟩
theorem KOk.nox [hc : Cold C] (k : KOk C c) : KOk C.nox c := ⟨k.N, k.sc, k.kf, k.fn⟩
theorem blk_ok [hc : Cold C] (k : KOk C c) {scope : Scope} {vs : List Nat} (h : blkB c scope vs = true) : BlkS C scope (vs.map fun i => (c.N.getD i "", i)) := by
  unfold blkB at h
  obtain ⟨h, h5⟩ := Bool.and_eq_true_iff.mp h
  obtain ⟨h, h4⟩ := Bool.and_eq_true_iff.mp h
  obtain ⟨h, h3⟩ := Bool.and_eq_true_iff.mp h
  obtain ⟨h1, h2⟩ := Bool.and_eq_true_iff.mp h
  refine ⟨fun i => ⟨?_, fun y hy => ?_, fun p hp => ?_, fun y hy hf => ?_, fun y hy hl => ?_⟩⟩
  · revert h1; cases scope.kind <;> intro h1 <;> first | rfl | cases h1
  · rw [← lkS_lookup]; exact of_decide_eq_true (List.all_eq_true.mp h2 y hy)
  · obtain ⟨i', hi, e⟩ := List.mem_map.mp hp
    have hl := of_decide_eq_true (List.all_eq_true.mp h3 i' hi)
    subst e
    show C.N[i']? = some (c.N.getD i' "")
    rw [k.N, List.getD_eq_getElem?_getD, List.getElem?_eq_getElem hl]
    rfl
  · have := List.all_eq_true.mp h4 y hy
    rw [hf] at this
    rw [k.sc]
    exact kd_out this
  · have := List.all_eq_true.mp h5 y hy
    have e : isLocK y.2 = true := by rcases hl with hl | hl <;> rw [hl] <;> rfl
    rw [e] at this
    rcases Bool.or_eq_true_iff.mp this with z | z
    · obtain ⟨i', hi, e2⟩ := List.any_eq_true.mp (show vs.any (fun i => nthS c.N i y.1) = true from z)
      refine .inl (List.mem_map.mpr ⟨(c.N.getD i' "", i'), List.mem_map.mpr ⟨i', hi, rfl⟩, ?_⟩)
      show c.N.getD i' "" = y.1
      rw [List.getD_eq_getElem?_getD, nthS_ok e2]
      rfl
    · refine .inr ?_
      rw [k.N]
      exact inS_not (by simpa using z)
end
end Mp

/-! M23: the check. -/
namespace Mp
open PySem PySem.Spec PyProof.Rows L2
def bn (x : Str) (s : String) : Bool := sEq x (Str.ofString s)
theorem bn_ok {x : Str} {s : String} (h : bn x s = true) : x = Str.ofString s := sEq_ok h
def chkNs (c : Ck) : List Nat → List Expr → Bool
  | [], es => match es with
    | [] => true
    | _ :: _ => false
  | i :: is, es => match es with
    | .Name x _ :: r => c.tgt i x && chkNs c is r
    | _ => false
def chkP (c : Ck) (p : Pat) (e : Expr) : Bool := match p with
  | .nm i => match e with
    | .Name x _ => c.tgt i x
    | _ => false
  | .tp is => match e with
    | .Tuple es _ _ => chkNs c is es
    | _ => false
def isTup : Expr → Bool
  | .Tuple _ _ _ => true
  | _ => false
def zero : Int → Bool
  | .ofNat 0 => true
  | _ => false
def allIn (is vs : List Nat) : Bool := is.all fun i => vs.any fun j => Nat.beq i j
def swB (c : Ck) (y : Str) (py pos : Pos) (scope : Scope) : Bool :=
  relK.isFunK c.sc.kind && kdIs c.sc y isLoc1K && (py.line == pos.line) && !(scope.names.any fun p => sEq p.1 y && isLocK p.2)
mutual
def chkE (t : Tab) : IE → Ck → Expr → Bool
  | .v i, c, e => match e with
    | .Name x _ => c.vis i x
    | _ => false
  | .int i, _, e => match e with
    | .Constant (.int j) _ _ => decide (i = j)
    | _ => false
  | .bl i, _, e => match e with
    | .Constant (.bool j) _ _ => i == j
    | _ => false
  | .str i, _, e => match e with
    | .Constant (.str j) _ _ => sEq i j
    | _ => false
  | .non, _, e => match e with
    | .Constant .none _ _ => true
    | _ => false
  | .con j, c, e => match e with
    | .Name x _ => c.gl x && (match t.con[j]? with
      | some q => sEq q.1 x
      | none => false)
    | _ => false
  | .fnv y, c, e => match e with
    | .Name x _ => c.gl x && sEq y x && (lkS t.fns x).isSome
    | _ => false
  | .bin o a b, c, e => match e with
    | .BinOp x op y _ => decide (o.o = op) && chkE t a c x && chkE t b c y
    | _ => false
  | .neg a, c, e => match e with
    | .UnaryOp .USub x _ => chkE t a c x
    | _ => false
  | .not a, c, e => match e with
    | .UnaryOp .Not x _ => chkE t a c x
    | _ => false
  | .cmp o a b, c, e => match e with
    | .Compare x [op] [y] _ => decide (o.o = op) && notSet y && chkE t a c x && chkE t b c y
    | _ => false
  | .chain o o' a b d, c, e => match e with
    | .Compare x [op, op'] [y, z] _ => decide (o.o = op) && decide (o'.o = op') && notSet z && chkE t a c x && chkE t b c y && chkE t d c z
    | _ => false
  | .isN n a, c, e => match e with
    | .Compare x [op] [.Constant .none _ _] _ => decide (op = if n then CmpOp.IsNot else CmpOp.Is) && chkE t a c x
    | _ => false
  | .ix a b, c, e => match e with
    | .Subscript x y _ => notSlice y && chkE t a c x && chkE t b c y
    | _ => false
  | .sl a l u, c, e => match e with
    | .Subscript x (.Slice lo hi none _) _ => chkE t a c x && chkO t l c lo && chkO t u c hi
    | _ => false
  | .rev a, c, e => match e with
    | .Subscript x (.Slice none none (some (.UnaryOp .USub (.Constant (.int i) _ _) _)) _) _ => decide (i = 1) && chkE t a c x
    | _ => false
  | .sidx o a, c, e => match e with
    | .Call (.Attribute x m ap) [y] [] p => bn m "index" && baseB x && (ap.endLine == p.line) && notStar y && chkE t o c x && chkE t a c y
    | _ => false
  | .tup es, c, e => match e with
    | .Tuple xs _ _ => chkA t es c xs
    | _ => false
  | .lst es, c, e => match e with
    | .List xs _ => chkA t es c xs
    | _ => false
  | .c1 f a, c, e => match e with
    | .Call (.Name x _) [y] [] _ => bn x f.x && c.gl x && notStar y && chkE t a c y
    | _ => false
  | .c2 f a b, c, e => match e with
    | .Call (.Name x _) [y, z] [] _ => bn x f.x && c.gl x && notStar y && notStar z && chkE t a c y && chkE t b c z
    | _ => false
  | .isi T a, c, e => match e with
    | .Call (.Name x _) [y, .Name T' _] [] _ => bn x "isinstance" && c.gl x && bn T' T.x && c.gl T' && notStar y && chkE t a c y
    | _ => false
  | .one a, c, e => match e with
    | .BoolOp _ [x] _ => chkE t a c x
    | _ => false
  | .and a b, c, e => match e with
    | .BoolOp .And (x :: y :: r) pos => chkE t a c x && chkE t b c (.BoolOp .And (y :: r) pos)
    | _ => false
  | .or a b, c, e => match e with
    | .BoolOp .Or (x :: y :: r) pos => chkE t a c x && chkE t b c (.BoolOp .Or (y :: r) pos)
    | _ => false
  | .ite k a b, c, e => match e with
    | .IfExp z x y _ => chkT t k c z && chkE t a c x && chkE t b c y
    | _ => false
  | .lc l, c, e => chkL t l c e
  | .own a, c, e => !isCompare e && chkE t a c e
  | .frz _ a, c, e => !isCompare e && chkE t a c e
  | .app o a, c, e => match e with
    | .Call (.Attribute x m ap) [y] [] p => bn m "append" && baseB x && (ap.endLine == p.line) && notStar y && chkE t o c x && chkE t a c y
    | _ => false
  | .ext o a, c, e => match e with
    | .Call (.Attribute x m ap) [y] [] p => bn m "extend" && baseB x && (ap.endLine == p.line) && notStar y && chkE t o c x && chkE t a c y
    | _ => false
  | .get1 o a, c, e => match e with
    | .Call (.Attribute x m ap) [y] [] p => bn m "get" && baseB x && (ap.endLine == p.line) && notStar y && chkE t o c x && chkE t a c y
    | _ => false
  | .get2 o a b, c, e => match e with
    | .Call (.Attribute x m ap) [y, z] [] p => bn m "get" && baseB x && (ap.endLine == p.line) && notStar y && notStar z && chkE t o c x && chkE t a c y && chkE t b c z
    | _ => false
  | .dnew _, _, e => match e with
    | .Dict [] [] _ => true
    | _ => false
  | .fld a f, c, e => match e with
    | .Attribute x f' _ => sEq f f' && baseB x && chkE t a c x
    | _ => false
  | .call i es, c, e => match e with
    | .Call (.Name x _) (y :: ys) [] _ => c.gl x && decide (lkS t.fns x = some i) && chkA t es c (y :: ys)
    | _ => false
  | .callK i ks perm es, c, e => match e with
    | .Call (.Name x _) [] kws _ => c.gl x && decide (lkS t.fns x = some i) && decide (t.perm i ks = some perm) && kws.all (fun q => q.1.isSome) && lsEq (kws.filterMap (·.1)) ks && chkK t es c kws
    | _ => false
  | .methK m o ks es, c, e => match e with
    | .Call (.Attribute x m' ap) [] kws p => sEq m m' && baseB x && (ap.endLine == p.line) && Nat.blt kws.length 28 && kws.all (fun q => q.1.isSome) && lsEq (kws.filterMap (·.1)) ks && chkE t o c x && chkK t es c kws
    | _ => false
  | .meth m o es, c, e => match e with
    | .Call (.Attribute x m' ap) ys [] p => sEq m m' && baseB x && (ap.endLine == p.line) && Nat.blt ys.length 30 && chkE t o c x && chkA t es c ys
    | _ => false
  | .new k i es, c, e => match e with
    | .Call (.Name x _) ys [] _ => sEq k x && c.gl x && decide (lkS t.news x = some i) && chkA t es c ys
    | _ => false
  | .newK k i ks perm es, c, e => match e with
    | .Call (.Name x _) [] kws _ => sEq k x && c.gl x && decide (lkS t.news x = some i) && decide (t.perm i ks = some perm) && kws.all (fun q => q.1.isSome) && lsEq (kws.filterMap (·.1)) ks && chkK t es c kws
    | _ => false
  | .bits a, c, e => match e with
    | .Call (.Attribute x m ap) [] [] p => bn m "bit_length" && baseB x && (ap.endLine == p.line) && chkE t a c x
    | _ => false
def chkL (t : Tab) : IL → Ck → Expr → Bool
  | .one vs i p ifs a, c, e => match e with
    | .ListComp elt [⟨tg, iter, is, k⟩] scope _ => zero k && notSet iter && blkB c scope vs && allIn p.ix vs && chkI t i c tg iter && chkP (c.blk scope) p tg && chkF t ifs (c.blk scope) is && chkE t a (c.blk scope) elt
    | _ => false
  | .two vs i p ifs i1 p1 ifs1 a, c, e => match e with
    | .ListComp elt [⟨tg, iter, is, k⟩, ⟨tg1, iter1, is1, k1⟩] scope _ => zero k && zero k1 && notSet iter && notSet iter1 && blkB c scope vs && allIn p.ix vs && allIn p1.ix vs && chkI t i c tg iter && chkP (c.blk scope) p tg && chkF t ifs (c.blk scope) is
        && chkI t i1 (c.blk scope) tg1 iter1 && chkP (c.blk scope) p1 tg1 && chkF t ifs1 (c.blk scope) is1 && chkE t a (c.blk scope) elt
    | _ => false
def chkO (t : Tab) : IO → Ck → Option Expr → Bool
  | .non, _, e => match e with
    | none => true
    | some _ => false
  | .some a, c, e => match e with
    | none => false
    | some x => chkE t a c x
def chkA (t : Tab) : IA → Ck → List Expr → Bool
  | .nil, _, e => match e with
    | [] => true
    | _ :: _ => false
  | .cons a es, c, e => match e with
    | [] => false
    | x :: xs => notStar x && chkE t a c x && chkA t es c xs
def chkK (t : Tab) : IA → Ck → List Keyword → Bool
  | .nil, _, e => match e with
    | [] => true
    | _ :: _ => false
  | .cons a es, c, e => match e with
    | [] => false
    | ⟨_, x, _⟩ :: xs => chkE t a c x && chkK t es c xs
def chkT (t : Tab) : IT → Ck → Expr → Bool
  | .yes, _, _ => false
  | .val a, c, e => (notTest e || isCompare e) && chkE t a c e
  | .all w, c, e => match e with
    | .BoolOp .And xs pos => chkW t w true c xs pos
    | _ => false
  | .any w, c, e => match e with
    | .BoolOp .Or xs pos => chkW t w false c xs pos
    | _ => false
  | .not k, c, e => match e with
    | .UnaryOp .Not x _ => chkT t k c x
    | _ => false
def chkW (t : Tab) : IW → Bool → Ck → List Expr → Pos → Bool
  | .one k, _, c, e, _ => match e with
    | [x] => chkT t k c x
    | _ => false
  | .cons k w, b, c, e, pos => match e with
    | x :: y :: r => chkT t k c x && chkW t w b c (y :: r) pos
    | _ => false
def chkF (t : Tab) : IT → Ck → List Expr → Bool
  | .yes, _, e => match e with
    | [] => true
    | _ :: _ => false
  | .val a, c, e => match e with
    | [x] => (notTest x || isCompare x) && chkE t a c x
    | _ => false
  | .all w, c, e => match e with
    | [.BoolOp .And xs pos] => chkW t w true c xs pos
    | _ => false
  | .any w, c, e => match e with
    | [.BoolOp .Or xs pos] => chkW t w false c xs pos
    | _ => false
  | .not k, c, e => match e with
    | [.UnaryOp .Not x _] => chkT t k c x
    | _ => false
def chkI (t : Tab) : II → Ck → Expr → Expr → Bool
  | .seq a, c, _, e => chkE t a c e
  | .rng1 a, c, _, e => match e with
    | .Call (.Name x _) [y] [] _ => bn x "range" && c.gl x && notStar y && chkE t a c y
    | _ => false
  | .rng2 a b, c, _, e => match e with
    | .Call (.Name x _) [y, z] [] _ => bn x "range" && c.gl x && notStar y && notStar z && chkE t a c y && chkE t b c z
    | _ => false
  | .rev a, c, _, e => match e with
    | .Call (.Name x _) [.Call (.Name x2 _) [y] [] _] [] _ => bn x "reversed" && c.gl x && bn x2 "range" && c.gl x2 && notStar y && chkE t a c y
    | _ => false
  | .enum a, c, tg, e => match e with
    | .Call (.Name x _) [y] [] _ => isTup tg && bn x "enumerate" && c.gl x && notStar y && chkE t a c y
    | _ => false
  | .zip a b, c, tg, e => match e with
    | .Call (.Name x _) [y, z] [] _ => isTup tg && bn x "zip" && c.gl x && notStar y && notStar z && chkE t a c y && chkE t b c z
    | _ => false
end
mutual
def chkS (t : Tab) : IS → Ck → Stmt → Bool
  | .pass, _, s => match s with
    | .Pass _ => true
    | _ => false
  | .brk, _, s => match s with
    | .Break _ => true
    | _ => false
  | .cnt, _, s => match s with
    | .Continue _ => true
    | _ => false
  | .do a, c, s => match s with
    | .Expr e _ => notComp e && chkE t a c e
    | _ => false
  | .ret a, c, s => match s with
    | .Return (some e) _ => chkE t a c e
    | _ => false
  | .retN, _, s => match s with
    | .Return none _ => true
    | _ => false
  | .asg p a, c, s => match s with
    | .Assign [tg] e _ => (notTup tg || notTup e) && (match e with
        | .ListComp _ _ scope pos => (match tg with
          | .Name y py => !swB c y py pos scope
          | _ => true)
        | _ => notComp e) && chkP c p tg && chkE t a c e
    | _ => false
  | .setLc i _ l, c, s => match s with
    | .Assign [.Name y py] (.ListComp elt gens scope pos) _ => swB c y py pos scope && nthS c.N i y && chkL t l c (.ListComp elt gens scope pos)
    | _ => false
  | .fld o f a, c, s => match s with
    | .Assign [.Attribute x f' _] e _ => sEq f f' && notComp e && chkE t o c x && chkE t a c e
    | _ => false
  | .ix o k a, c, s => match s with
    | .Assign [.Subscript x y _] e _ => notSlice y && notComp e && chkE t o c x && chkE t k c y && chkE t a c e
    | _ => false
  | .ite k a b, c, s => match s with
    | .If z x y _ => chkT t k c z && chkB t a c x && chkB t b c y
    | _ => false
  | .wh _ k b, c, s => match s with
    | .While z x [] _ => chkT t k c z && chkB t b c x
    | _ => false
  | .for i p b, c, s => match s with
    | .For tg iter x [] _ => notSet iter && chkI t i c tg iter && chkP c p tg && chkB t b c x
    | _ => false
  | .raise k es, c, s => match s with
    | .Raise (some (.Call (.Name x _) (y :: ys) [] _)) none _ => sEq k x && c.gl x && (lkS t.excs x).isSome && chkA t es c (y :: ys)
    | _ => false
  | .tryN b, c, s => match s with
    | .Try x (_ :: _) [] [] _ => chkB t b c x
    | _ => false
def chkB (t : Tab) : IB → Ck → List Stmt → Bool
  | .nil, _, l => match l with
    | [] => true
    | _ :: _ => false
  | .cons a b, c, l => match l with
    | [] => false
    | x :: xs => chkS t a c x && chkB t b c xs
end
end Mp

/-! M24: what passes the check is followed: the single rules. -/
namespace Mp
open PySem PySem.Spec PyProof.Rows L2
section
variable {C : Cs} {c : Ck} {g : Gx} {e a b : Expr} {fa fb fo : Fe} {p pos apos : Pos} {x : Str}
theorem bop_ok (o : Bop) : OpS C (opAny C (binaryOp o.o)) o.m := match o with
  | .add => os_add | .sub => os_sub | .mul => os_mul | .div => os_div | .mod => os_mod | .pow => os_pow | .shr => os_shr | .and1 => os_and1
theorem cop_ok (o : Cop) : CmS C (opAny C (compareOp o.o)) o.g := match o with
  | .lt => cs_lt | .gt => cs_gt | .le => cs_le | .ge => cs_ge | .eq => cs_eq | .ne => cs_ne | .isin => cs_in | .notin => cs_notin
theorem GOk.no (G : GOk C g) (h : inS blts x = true) : NoG C x := G.blt x (inS_mem h)
theorem se_f1 [hc : Cold C] (G : GOk C g) (f : Fn1) (hg : ∀ j, Gl (C.X j) (Str.ofString f.x)) (ha : SE C a fa) (hs : NS a) : SE C (.Call (.Name (Str.ofString f.x) p) [a] [] pos) (eC1 f.m fa) := by
  cases f
  · exact se_b1 cs_len (by decide +kernel) (by decide) (by decide) hg (G.no (by decide +kernel)) ha hs
  · exact se_t1 cs_int1 (by decide +kernel) (by decide) (by decide) hg (G.no (by decide +kernel)) ha hs
  · exact se_b1 cs_abs (by decide +kernel) (by decide) (by decide) hg (G.no (by decide +kernel)) ha hs
  · exact se_t1 cs_str (by decide +kernel) (by decide) (by decide) hg (G.no (by decide +kernel)) ha hs
  · exact se_t1 cs_list (by decide +kernel) (by decide) (by decide) hg (G.no (by decide +kernel)) ha hs
  · exact se_t1 cs_tuple (by decide +kernel) (by decide) (by decide) hg (G.no (by decide +kernel)) ha hs
  · exact se_b1 cs_sum (by decide +kernel) (by decide) (by decide) hg (G.no (by decide +kernel)) ha hs
  · exact se_b1 cs_maxL (by decide +kernel) (by decide) (by decide) hg (G.no (by decide +kernel)) ha hs
  · exact se_b1 cs_minL (by decide +kernel) (by decide) (by decide) hg (G.no (by decide +kernel)) ha hs
theorem se_f2 [hc : Cold C] (G : GOk C g) (f : Fn2) (hg : ∀ j, Gl (C.X j) (Str.ofString f.x)) (ha : SE C a fa) (hb : SE C b fb) (hs : NS a) (hs2 : NS b) : SE C (.Call (.Name (Str.ofString f.x) p) [a, b] [] pos) (eBin f.m fa fb) := by
  cases f
  · exact se_b2 cs_max2 (by decide +kernel) (by decide) (by decide) hg (G.no (by decide +kernel)) ha hb hs hs2
  · exact se_b2 cs_min2 (by decide +kernel) (by decide) (by decide) hg (G.no (by decide +kernel)) ha hb hs hs2
  · exact se_b2 cs_divmod (by decide +kernel) (by decide) (by decide) hg (G.no (by decide +kernel)) ha hb hs hs2
theorem se_ty {p2 : Pos} (G : GOk C g) (T : Ty) (hg : ∀ j, Gl (C.X j) "isinstance") (hgT : ∀ j, Gl (C.X j) (Str.ofString T.x)) (ha : SE C a fa) (hs : NS a) : SE C (.Call (.Name "isinstance" p) [a, .Name (Str.ofString T.x) p2] [] pos) (eC1 (mIsi T.x) fa) := by
  cases T
  · exact se_isi (by decide +kernel) (G.no (by decide +kernel)) (G.no (by decide +kernel)) hg hgT (by decide) (by decide) ha hs
  · exact se_isi (by decide +kernel) (G.no (by decide +kernel)) (G.no (by decide +kernel)) hg hgT (by decide) (by decide) ha hs
  · exact se_isi (by decide +kernel) (G.no (by decide +kernel)) (G.no (by decide +kernel)) hg hgT (by decide) (by decide) ha hs
  · exact se_isi (by decide +kernel) (G.no (by decide +kernel)) (G.no (by decide +kernel)) hg hgT (by decide) (by decide) ha hs
  · exact se_isi (by decide +kernel) (G.no (by decide +kernel)) (G.no (by decide +kernel)) hg hgT (by decide) (by decide) ha hs
theorem met_of (hb : baseB e = true) (hl : (apos.endLine == pos.line) = true) (nm : Str) : MetT e nm apos pos := ⟨fun env => base_of hb _ _ _, hl⟩
theorem isn_ok (n : Bool) {k : Nat} {p2 : Pos} (ha : SE C a fa) : SE C (.Compare a [if n then CmpOp.IsNot else CmpOp.Is] [.Constant .none k p2] pos) (eIsN n fa) ∧ ST C (.Compare a [if n then CmpOp.IsNot else CmpOp.Is] [.Constant .none k p2] pos) (fT (eIsN n fa)) := by
  cases n
  · exact ⟨se_isN ha, st_isN ha⟩
  · exact ⟨se_notN ha, st_notN ha⟩
/-- picked by what is there -/
theorem SE.pickAll {f : Fe} (h : ∀ env hp, f env hp = .no ∨ ∃ f', SE C e f' ∧ f env hp = f' env hp) : SE C e f := fun F m hp env H σ R E Q q => by
  rcases h env hp with z | ⟨f', h1, z⟩
  · rw [z] at q; exact q.elim
  · rw [z] at q; exact h1 F m hp env H σ R E Q q
theorem methD_pick {m : Str} {ga : Fa} (h : ∀ c i, g.t.mt c m = some i → SE C e (eMeth c m (g.cl i) fo ga)) : SE C e (eMethD g m fo ga) := SE.pickAll fun env hp => by
  unfold eMethD
  cases q : fo env hp with
  | ok o h1 =>
    simp only [noEx, Out.bind]
    cases q1 : clsAt h1 o with
    | none => exact .inl rfl
    | some c =>
      simp only
      cases q2 : g.t.mt c m with
      | none => exact .inl rfl
      | some i =>
        refine .inr ⟨_, h c i q2, ?_⟩
        unfold eMeth
        rw [q]
        rfl
  | ex c fs h' => exact .inl rfl
  | no => exact .inl rfl
theorem methKD_pick {m : Str} {ks : List Str} {ga : Fa} (h : ∀ c i perm, g.t.mt c m = some i → g.t.perm i ks = some perm → SE C e (eMethK c m (g.cl i) ks.length perm fo ga)) : SE C e (eMethKD g m ks fo ga) := SE.pickAll fun env hp => by
  unfold eMethKD
  cases q : fo env hp with
  | ok o h1 =>
    simp only [noEx, Out.bind]
    cases q1 : clsAt h1 o with
    | none => exact .inl rfl
    | some c =>
      simp only
      cases q2 : g.t.mt c m with
      | none => exact .inl rfl
      | some i =>
        simp only
        cases q3 : g.t.perm i ks with
        | none => exact .inl rfl
        | some perm =>
          refine .inr ⟨_, h c i perm q2 q3, ?_⟩
          unfold eMethK
          rw [q]
          rfl
  | ex c fs h' => exact .inl rfl
  | no => exact .inl rfl
theorem metEK_of {o : Expr} {m : Str} {apos pos : Pos} {kws : List Keyword} (hb : baseB o = true) (hl : (apos.endLine == pos.line) = true) (hns : ∀ q ∈ kws, q.1.isSome = true) (h28 : kws.length < 28) : MetEK o m apos pos kws := fun env => by
  obtain ⟨h1, _, _⟩ := kw_some kws env pos hns
  have hf : methodCallForm (([] : List Expr).length + kws.length) (backTo pos (starEach [] env)) (backToKw pos (keywordEach kws env)) = true := by
    unfold methodCallForm
    rw [h1]
    have e : (backTo pos (starEach [] env)).all (fun x => !x.1) = true := rfl
    rw [e]
    have h3 : ∀ b : Bool, (([] : List Expr).length + kws.length + (if b = true then 0 else 1) < 30) := fun b => by
      have e0 : ([] : List Expr).length = 0 := rfl
      rw [e0]
      cases b
      · rw [if_neg Bool.false_ne_true]; omega
      · rw [if_pos rfl]; omega
    simp only [Bool.true_and]
    exact decide_eq_true (h3 _)
  refine ⟨(do return (← importBound o env).getD true), ?_⟩
  rw [eval]
  unfold methodCall
  simp only [List.length_nil] at hf
  simp only [List.length_nil, hf]
  unfold methodCallPos calleeOf
  rw [base_of hb]
  simp only [hl, Bool.not_true, Bool.false_or, if_true]
  rfl
theorem nms_ok (K : KOk C c) : ∀ {is : List Nat} {es : List Expr}, chkNs c is es = true → Nms C es is
  | [], [], _ => .nil
  | [], _ :: _, h => nomatch h
  | i :: is, [], h => nomatch h
  | i :: is, e :: es, h => by
    cases e with
    | Name x p =>
      obtain ⟨h1, h2⟩ := Bool.and_eq_true_iff.mp (show (c.tgt i x && chkNs c is es) = true from h)
      obtain ⟨k1, k2, k3⟩ := K.tgt h1
      exact .cons k1 k2 k3 (nms_ok K h2)
    | _ => exact nomatch h
theorem pat_ok [hc : Cold C] (K : KOk C c) {p : Pat} (h : chkP c p e = true) : SG C e p := by
  unfold chkP at h
  cases p with
  | nm i =>
    cases e with
    | Name x p =>
      obtain ⟨k1, k2, k3⟩ := K.tgt (i := i) (x := x) h
      exact sg_name k1 k2 k3
    | _ => exact nomatch h
  | tp is =>
    cases e with
    | Tuple es k p => exact sg_tup (nms_ok K h)
    | _ => exact nomatch h
theorem pat_as {c : Ck} {p : Pat} (h : chkP c p e = true) (env : Env) : (assignEach [e] env).map (·.2) = [assign e env] := by
  unfold chkP at h
  cases p with
  | nm i => cases e <;> first | rfl | exact nomatch h
  | tp is => cases e <;> first | rfl | exact nomatch h
theorem sw_stores {tg : Expr} (h : (notTup tg || notTup e) = true) (env : Env) : swappedStores [tg] e env = pure none := by
  unfold swappedStores
  rcases Bool.or_eq_true_iff.mp h with h | h
  · cases tg <;> first | rfl | exact nomatch h
  · cases e <;> first | (cases tg <;> rfl) | exact nomatch h
theorem own_snd (N : List Str) (vs : List Nat) : (vs.map fun i => (N.getD i "", i)).map (·.2) = vs := by
  rw [List.map_map]
  exact List.map_id _
theorem allIn_ok {is vs : List Nat} (h : allIn is vs = true) : ∀ i ∈ is, i ∈ vs := fun i hi => by
  obtain ⟨j, h1, h2⟩ := List.any_eq_true.mp (List.all_eq_true.mp h i hi)
  rw [Nat.eq_of_beq_eq_true h2]
  exact h1
theorem zero_ok {k : Int} (h : zero k = true) : k = 0 := by
  unfold zero at h
  split at h
  · rfl
  · cases h
theorem swB_ok (K : KOk C c) {y : Str} {py : Pos} {elt : Expr} {gens : List Comprehension} {scope : Scope} (n : Nat) (j : C.ι) : swapsWith (.ListComp elt gens scope pos) (some (.Name y py)) n (C.X j).env = pure (swB c y py pos scope) := by
  have e0 := K.sc j
  show (pure _ : Sem Bool) = _
  congr 1
  unfold swB Env.blockKind Env.kindOf
  rw [e0]
  rw [K.kf]
  have e2 : kdIs c.sc y isLoc1K = (c.sc.names.lookup y == some NameKind.local) := by
    unfold kdIs
    rw [lkS_lookup]
    cases c.sc.names.lookup y with
    | none => rfl
    | some k => cases k <;> rfl
  have e3 : ∀ p : Str × NameKind, (sEq p.1 y && isLocK p.2) = (p.1 == y && (p.2 == .local || p.2 == .cell)) := fun p => by
    rw [sEq_iff]
    cases p.2 <;> rfl
  rw [e2]
  simp only [e3]
  rfl
end
end Mp

/-! M25: what passes the check is followed. -/
namespace Mp
open PySem PySem.Spec PyProof.Rows L2
/-- an expression, and as a test -/
def OkE (C : Cs) (e : Expr) (f : Fe) : Prop := SE C e f ∧ (isCompare e = true → ST C e (fT f))
theorem OkE.of {C : Cs} {e : Expr} {f : Fe} (h : SE C e f) (n : isCompare e = false) : OkE C e f := ⟨h, fun z => by rw [n] at z; cases z⟩
theorem OkE.t {C : Cs} {e : Expr} {f : Fe} (h : OkE C e f) (hn : (notTest e || isCompare e) = true) : ST C e (fT f) := by
  rcases Bool.or_eq_true_iff.mp hn with z | z
  · exact st_val h.1 (pl_of z)
  · exact h.2 z
/-- a comprehension -/
def OkL (C : Cs) (c : Ck) (e : Expr) (f : Fe) : Prop := isCompare e = false ∧ ∃ t : TE, RE C t f ∧ (∀ j, PE (C.X j) e t) ∧ ∀ elt gens scope pos, e = .ListComp elt gens scope pos → ∀ (i : Nat) y py spos, C.N[i]? = some y → swB c y py pos scope = true → ∀ j, PS (C.X j) (.Assign [.Name y py] e spos) (tAsg t (gName i))
theorem wr_ok {C : Cs} {t : TE} {f : Fe} (w : Wr) (h : RE C t f) : RE C t (w.f f) := by
  cases w with
  | no => exact h
  | own => exact re_own h
  | frz k => exact re_frz k h
theorem swB_loc {c : Ck} {y : Str} {py pos : Pos} {scope : Scope} (h : swB c y py pos scope = true) : c.sc.names.lookup y = some .local := by
  unfold swB at h
  simp only [Bool.and_eq_true] at h
  exact kd_loc1 h.1.1.2
theorem chkA_ns {t : Tab} : ∀ {es : IA} {c : Ck} {l : List Expr}, chkA t es c l = true → ∀ y ∈ l, NS y
  | .nil, c, [], _, y, hy => nomatch hy
  | .nil, c, _ :: _, h, _, _ => by unfold chkA at h; cases h
  | .cons a es, c, [], h, _, _ => by unfold chkA at h; cases h
  | .cons a es, c, x :: xs, h, y, hy => by
    unfold chkA at h
    simp only [Bool.and_eq_true] at h
    rcases List.mem_cons.mp hy with z | z
    · rw [z]; exact ns_of h.1.1
    · exact chkA_ns h.2 y z
mutual
theorem okE (g : Gx) : ∀ (i : IE) (C : Cs) [Cold C] (c : Ck) (e : Expr), GOk C g → KOk C c → chkE g.t i c e = true → OkE C e (evE g i)
  | .v i, C, _, c, e, G, K, h => by
    unfold chkE at h
    split at h
    · obtain ⟨h1, h2, h3, h4⟩ := K.vis h
      exact .of (se_var h1 h2 h3 h4) rfl
    · cases h
  | .int i, C, _, c, e, G, K, h => by
    unfold chkE at h
    split at h
    · rw [← of_decide_eq_true h]; exact .of se_int rfl
    · cases h
  | .bl i, C, _, c, e, G, K, h => by
    unfold chkE at h
    split at h
    · rw [← eq_of_beq h]; exact .of se_bl rfl
    · cases h
  | .str i, C, _, c, e, G, K, h => by
    unfold chkE at h
    split at h
    · rw [← sEq_ok h]; exact .of se_str rfl
    · cases h
  | .non, C, _, c, e, G, K, h => by
    unfold chkE at h
    split at h
    · exact .of se_non rfl
    · cases h
  | .con j, C, _, c, e, G, K, h => by
    unfold chkE at h
    split at h
    · obtain ⟨h1, h2⟩ := Bool.and_eq_true_iff.mp h
      split at h2
      · rename_i q hq
        obtain ⟨y, d⟩ := q
        obtain rfl := sEq_ok h2
        have e1 : evE g (.con j) = eVal d := by
          rw [evE]
          unfold Tab.conV
          rw [hq]
        rw [e1]
        exact .of (se_con (G.con j _ _ hq) (K.gl h1).1 (K.gl h1).2) rfl
      · cases h2
    · cases h
  | .fnv y, C, _, c, e, G, K, h => by
    unfold chkE at h
    split at h
    · simp only [Bool.and_eq_true] at h
      obtain ⟨⟨h1, h2⟩, h3⟩ := h
      obtain rfl := sEq_ok h2
      obtain ⟨i, h3⟩ := Option.isSome_iff_exists.mp h3
      obtain ⟨ad, k, _, hm, _⟩ := G.fns _ _ (lkS_mem h3)
      exact .of (se_fnv hm (K.gl h1).1 (K.gl h1).2) rfl
    · cases h
  | .bin o a b, C, _, c, e, G, K, h => by
    unfold chkE at h
    split at h
    · simp only [Bool.and_eq_true] at h
      obtain ⟨⟨h1, h2⟩, h3⟩ := h
      rw [← of_decide_eq_true h1]
      exact .of (se_op (bop_ok o) (okE g a C c _ G K h2).1 (okE g b C c _ G K h3).1) rfl
    · cases h
  | .neg a, C, _, c, e, G, K, h => by
    unfold chkE at h
    split at h
    · exact .of (se_neg (okE g a C c _ G K h).1) rfl
    · cases h
  | .not a, C, _, c, e, G, K, h => by
    unfold chkE at h
    split at h
    · exact .of (se_not (okE g a C c _ G K h).1) rfl
    · cases h
  | .cmp o a b, C, _, c, e, G, K, h => by
    unfold chkE at h
    split at h
    · simp only [Bool.and_eq_true] at h
      obtain ⟨⟨⟨h1, h2⟩, h3⟩, h4⟩ := h
      rw [← of_decide_eq_true h1]
      exact ⟨se_cmp (cop_ok o).op (okE g a C c _ G K h3).1 (okE g b C c _ G K h4).1 (bm_of h2), fun _ => st_cmp (cop_ok o) (okE g a C c _ G K h3).1 (okE g b C c _ G K h4).1 (bm_of h2)⟩
    · cases h
  | .chain o o' a b d, C, _, c, e, G, K, h => by
    unfold chkE at h
    split at h
    · simp only [Bool.and_eq_true] at h
      obtain ⟨⟨⟨⟨⟨h1, h1'⟩, h2⟩, h3⟩, h4⟩, h5⟩ := h
      rw [← of_decide_eq_true h1, ← of_decide_eq_true h1']
      exact ⟨se_chain (cop_ok o) (cop_ok o') (okE g a C c _ G K h3).1 (okE g b C c _ G K h4).1 (okE g d C c _ G K h5).1 (bm_of h2), fun _ => st_chain (cop_ok o) (cop_ok o') (okE g a C c _ G K h3).1 (okE g b C c _ G K h4).1 (okE g d C c _ G K h5).1 (bm_of h2)⟩
    · cases h
  | .isN n a, C, _, c, e, G, K, h => by
    unfold chkE at h
    split at h
    · obtain ⟨h1, h2⟩ := Bool.and_eq_true_iff.mp h
      rw [of_decide_eq_true h1]
      exact ⟨(isn_ok n (okE g a C c _ G K h2).1).1, fun _ => (isn_ok n (okE g a C c _ G K h2).1).2⟩
    · cases h
  | .ix a b, C, _, c, e, G, K, h => by
    unfold chkE at h
    split at h
    · simp only [Bool.and_eq_true] at h
      obtain ⟨⟨h1, h2⟩, h3⟩ := h
      exact .of (se_ixD (okE g a C c _ G K h2).1 (okE g b C c _ G K h3).1 (px_of h1)) rfl
    · cases h
  | .sl a l u, C, _, c, e, G, K, h => by
    unfold chkE at h
    split at h
    · simp only [Bool.and_eq_true] at h
      obtain ⟨⟨h1, h2⟩, h3⟩ := h
      exact .of (se_sl (okE g a C c _ G K h1).1 (okO g l C c _ G K h2) (okO g u C c _ G K h3)) rfl
    · cases h
  | .rev a, C, _, c, e, G, K, h => by
    unfold chkE at h
    split at h
    · obtain ⟨h1, h2⟩ := Bool.and_eq_true_iff.mp h
      obtain rfl := of_decide_eq_true h1
      exact .of (se_rev (okE g a C c _ G K h2).1) rfl
    · cases h
  | .sidx o a, C, _, c, e, G, K, h => by
    unfold chkE at h
    split at h
    · simp only [Bool.and_eq_true] at h
      obtain ⟨⟨⟨⟨⟨h1, h2⟩, h3⟩, h4⟩, h5⟩, h6⟩ := h
      obtain rfl := bn_ok h1
      exact .of (se_sidx (met_of h2 h3 _) (ns_of h4) (okE g o C c _ G K h5).1 (okE g a C c _ G K h6).1) rfl
    · cases h
  | .tup es, C, _, c, e, G, K, h => by
    unfold chkE at h
    split at h
    · exact .of (se_tup (okA g es C c _ G K h)) rfl
    · cases h
  | .lst es, C, _, c, e, G, K, h => by
    unfold chkE at h
    split at h
    · exact .of (se_lst (okA g es C c _ G K h)) rfl
    · cases h
  | .c1 f a, C, _, c, e, G, K, h => by
    unfold chkE at h
    split at h
    · simp only [Bool.and_eq_true] at h
      obtain ⟨⟨⟨h1, h2⟩, h3⟩, h4⟩ := h
      obtain rfl := bn_ok h1
      exact .of (se_f1 G f (K.gl h2).1 (okE g a C c _ G K h4).1 (ns_of h3)) rfl
    · cases h
  | .c2 f a b, C, _, c, e, G, K, h => by
    unfold chkE at h
    split at h
    · simp only [Bool.and_eq_true] at h
      obtain ⟨⟨⟨⟨⟨h1, h2⟩, h3⟩, h4⟩, h5⟩, h6⟩ := h
      obtain rfl := bn_ok h1
      exact .of (se_f2 G f (K.gl h2).1 (okE g a C c _ G K h5).1 (okE g b C c _ G K h6).1 (ns_of h3) (ns_of h4)) rfl
    · cases h
  | .isi T a, C, _, c, e, G, K, h => by
    unfold chkE at h
    split at h
    · simp only [Bool.and_eq_true] at h
      obtain ⟨⟨⟨⟨⟨h1, h2⟩, h3⟩, h4⟩, h5⟩, h6⟩ := h
      obtain rfl := bn_ok h1
      obtain rfl := bn_ok h3
      exact .of (se_ty G T (K.gl h2).1 (K.gl h4).1 (okE g a C c _ G K h6).1 (ns_of h5)) rfl
    · cases h
  | .one a, C, _, c, e, G, K, h => by
    unfold chkE at h
    split at h
    · exact .of (se_one (okE g a C c _ G K h).1) rfl
    · cases h
  | .and a b, C, _, c, e, G, K, h => by
    unfold chkE at h
    split at h
    · obtain ⟨h1, h2⟩ := Bool.and_eq_true_iff.mp h
      exact .of (se_and (okE g a C c _ G K h1).1 (okE g b C c _ G K h2).1) rfl
    · cases h
  | .or a b, C, _, c, e, G, K, h => by
    unfold chkE at h
    split at h
    · obtain ⟨h1, h2⟩ := Bool.and_eq_true_iff.mp h
      exact .of (se_or (okE g a C c _ G K h1).1 (okE g b C c _ G K h2).1) rfl
    · cases h
  | .ite k a b, C, _, c, e, G, K, h => by
    unfold chkE at h
    split at h
    · simp only [Bool.and_eq_true] at h
      obtain ⟨⟨h1, h2⟩, h3⟩ := h
      exact .of (se_ite (okT g k C c _ G K h1) (okE g a C c _ G K h2).1 (okE g b C c _ G K h3).1) rfl
    · cases h
  | .lc l, C, _, c, e, G, K, h => by
    unfold chkE at h
    obtain ⟨hn, t, h1, h2, _⟩ := okL g l C c e G K h
    exact .of (se_of h2 h1) hn
  | .own a, C, _, c, e, G, K, h => by
    unfold chkE at h
    obtain ⟨h1, h2⟩ := Bool.and_eq_true_iff.mp h
    exact .of (se_own (okE g a C c _ G K h2).1) (by simpa using h1)
  | .frz k a, C, _, c, e, G, K, h => by
    unfold chkE at h
    obtain ⟨h1, h2⟩ := Bool.and_eq_true_iff.mp h
    exact .of (se_frz k (okE g a C c _ G K h2).1) (by simpa using h1)
  | .app o a, C, _, c, e, G, K, h => by
    unfold chkE at h
    split at h
    · simp only [Bool.and_eq_true] at h
      obtain ⟨⟨⟨⟨⟨h1, h2⟩, h3⟩, h4⟩, h5⟩, h6⟩ := h
      obtain rfl := bn_ok h1
      exact .of (se_append (met_of h2 h3 _) (ns_of h4) (okE g o C c _ G K h5).1 (okE g a C c _ G K h6).1) rfl
    · cases h
  | .ext o a, C, _, c, e, G, K, h => by
    unfold chkE at h
    split at h
    · simp only [Bool.and_eq_true] at h
      obtain ⟨⟨⟨⟨⟨h1, h2⟩, h3⟩, h4⟩, h5⟩, h6⟩ := h
      obtain rfl := bn_ok h1
      exact .of (se_extend (met_of h2 h3 _) (ns_of h4) (okE g o C c _ G K h5).1 (okE g a C c _ G K h6).1) rfl
    · cases h
  | .get1 o a, C, _, c, e, G, K, h => by
    unfold chkE at h
    split at h
    · simp only [Bool.and_eq_true] at h
      obtain ⟨⟨⟨⟨⟨h1, h2⟩, h3⟩, h4⟩, h5⟩, h6⟩ := h
      obtain rfl := bn_ok h1
      exact .of (se_dget1 (met_of h2 h3 _) (ns_of h4) (okE g o C c _ G K h5).1 (okE g a C c _ G K h6).1) rfl
    · cases h
  | .get2 o a b, C, _, c, e, G, K, h => by
    unfold chkE at h
    split at h
    · simp only [Bool.and_eq_true] at h
      obtain ⟨⟨⟨⟨⟨⟨⟨h1, h2⟩, h3⟩, h4⟩, h4'⟩, h5⟩, h6⟩, h7⟩ := h
      obtain rfl := bn_ok h1
      exact .of (se_dget2 (met_of h2 h3 _) (ns_of h4) (ns_of h4') (okE g o C c _ G K h5).1 (okE g a C c _ G K h6).1 (okE g b C c _ G K h7).1) rfl
    · cases h
  | .dnew t, C, _, c, e, G, K, h => by
    unfold chkE at h
    split at h
    · cases t
      · exact .of se_dnewK rfl
      · exact .of se_dnewT rfl
    · cases h
  | .fld a f, C, _, c, e, G, K, h => by
    unfold chkE at h
    split at h
    · simp only [Bool.and_eq_true] at h
      obtain ⟨⟨h1, h2⟩, h3⟩ := h
      obtain rfl := sEq_ok h1
      exact .of (se_fld G.flds (fun env => base_of h2 _ _ _) (okE g a C c _ G K h3).1) rfl
    · cases h
  | .call i es, C, _, c, e, G, K, h => by
    unfold chkE at h
    split at h
    · simp only [Bool.and_eq_true] at h
      obtain ⟨⟨h1, h2⟩, h3⟩ := h
      obtain ⟨ad, k, hk, hm, F⟩ := G.fns _ _ (lkS_mem (of_decide_eq_true h2))
      have hn := chkA_ns h3
      exact .of (se_call F hk hm (K.gl h1).1 (K.gl h1).2 (hn _ List.mem_cons_self) (fun y hy => hn y (List.mem_cons_of_mem _ hy)) (okA g es C c _ G K h3)) rfl
    · cases h
  | .callK i ks perm es, C, _, c, e, G, K, h => by
    unfold chkE at h
    split at h
    · simp only [Bool.and_eq_true] at h
      obtain ⟨⟨⟨⟨⟨h1, h2⟩, h3⟩, h4⟩, h5⟩, h6⟩ := h
      obtain ⟨ad, k, hk, hm, F⟩ := G.kfn _ _ _ _ (lkS_mem (of_decide_eq_true h2)) (of_decide_eq_true h3)
      exact .of (se_callK F hk hm (K.gl h1).1 (K.gl h1).2 (List.all_eq_true.mp h4) (lsEq_ok h5) (okK g es C c _ G K h6)) rfl
    · cases h
  | .methK m o ks es, C, _, c, e, G, K, h => by
    unfold chkE at h
    split at h
    · rename_i x m' ap kws p
      simp only [Bool.and_eq_true] at h
      obtain ⟨⟨⟨⟨⟨⟨⟨h1, h2⟩, h3⟩, h4⟩, h5⟩, h6⟩, h7⟩, h8⟩ := h
      obtain rfl := sEq_ok h1
      have ho := (okE g o C c _ G K h7).1
      have ha := okK g es C c _ G K h8
      have hns := List.all_eq_true.mp h5
      refine .of (methKD_pick fun cl i perm hi hp => ?_) rfl
      obtain ⟨Ca, ad, k, hk, M, F⟩ := G.kmt _ _ _ _ _ hi hp
      exact se_methK F hk M (metEK_of h2 h3 hns (by rw [Nat.blt_eq] at h4; exact h4)) hns (lsEq_ok h6) ho ha
    · cases h
  | .meth m o es, C, _, c, e, G, K, h => by
    unfold chkE at h
    split at h
    · rename_i x m' ap ys p
      simp only [Bool.and_eq_true] at h
      obtain ⟨⟨⟨⟨⟨h1, h2⟩, h3⟩, h4⟩, h5⟩, h6⟩ := h
      obtain rfl := sEq_ok h1
      have hn := chkA_ns h6
      have ho := (okE g o C c _ G K h5).1
      have ha := okA g es C c _ G K h6
      refine .of (methD_pick fun cl i hi => ?_) rfl
      obtain ⟨Ca, ad, k, hk, M, F⟩ := G.mts _ _ _ hi
      have hE : MetE x m ap p ys := metE_of h2 h3 hn (by rw [Nat.blt_eq] at h4; exact h4)
      cases ys with
      | nil =>
        cases es with
        | nil => exact se_meth0 F hk M hE ho
        | cons a es => unfold chkA at h6; cases h6
      | cons y ys => exact se_meth F hk M hE (hn _ List.mem_cons_self) (fun z hz => hn z (List.mem_cons_of_mem _ hz)) ho ha
    · cases h
  | .new q i es, C, _, c, e, G, K, h => by
    unfold chkE at h
    split at h
    · rename_i x p ys pos
      simp only [Bool.and_eq_true] at h
      obtain ⟨⟨⟨h1, h2⟩, h3⟩, h4⟩ := h
      obtain rfl := sEq_ok h1
      obtain ⟨Ca, ad, k, hk, M, F⟩ := G.news _ _ (lkS_mem (of_decide_eq_true h3))
      have hn := chkA_ns h4
      have ha := okA g es C c _ G K h4
      cases ys with
      | nil =>
        cases es with
        | nil => exact .of (se_new0 F hk M (K.gl h2).1 (K.gl h2).2) rfl
        | cons a es => unfold chkA at h4; cases h4
      | cons y ys => exact .of (se_new F hk M (K.gl h2).1 (K.gl h2).2 (hn _ List.mem_cons_self) (fun z hz => hn z (List.mem_cons_of_mem _ hz)) ha) rfl
    · cases h
  | .newK q i ks perm es, C, _, c, e, G, K, h => by
    unfold chkE at h
    split at h
    · simp only [Bool.and_eq_true] at h
      obtain ⟨⟨⟨⟨⟨⟨h0, h1⟩, h2⟩, h3⟩, h4⟩, h5⟩, h6⟩ := h
      obtain rfl := sEq_ok h0
      obtain ⟨Ca, ad, k, hk, M, F⟩ := G.knw _ _ _ _ (lkS_mem (of_decide_eq_true h2)) (of_decide_eq_true h3)
      exact .of (se_newK F hk M (K.gl h1).1 (K.gl h1).2 (List.all_eq_true.mp h4) (lsEq_ok h5) (okK g es C c _ G K h6)) rfl
    · cases h
  | .bits a, C, _, c, e, G, K, h => by
    unfold chkE at h
    split at h
    · simp only [Bool.and_eq_true] at h
      obtain ⟨⟨⟨h1, h2⟩, h3⟩, h4⟩ := h
      obtain rfl := bn_ok h1
      exact .of (se_bits (met_of h2 h3 _) (okE g a C c _ G K h4).1) rfl
    · cases h
theorem okL (g : Gx) : ∀ (l : IL) (C : Cs) [Cold C] (c : Ck) (e : Expr), GOk C g → KOk C c → chkL g.t l c e = true → OkL C c e (evL g l)
  | .one vs i p ifs a, C, hc, c, e, G, K, h => by
    unfold chkL at h
    split at h
    · rename_i elt tg iter is k scope pos
      simp only [Bool.and_eq_true] at h
      obtain ⟨⟨⟨⟨⟨⟨⟨h1, h2⟩, h3⟩, h4⟩, h5⟩, h6⟩, h7⟩, h8⟩ := h
      obtain rfl := zero_ok h1
      have B := blk_ok K h3
      have K' := K.blk h3
      have G' := G.blk (scope := scope)
      have es := own_snd c.N vs
      have hi := okI g i C c tg iter G K h5
      have hp := pat_ok K' h6
      have hf := okF g ifs (C.blk scope) (c.blk scope) is G' K' h7
      have he := (okE g a (C.blk scope) (c.blk scope) elt G' K' h8).1
      have R := re_lc1 (C := C) (ifs := is) B hi hp (by rw [es]; exact allIn_ok h4) hf he
      rw [es] at R
      refine ⟨rfl, _, R, fun j => ?_, fun elt' gens' scope' pos' e1 i' y py spos hy hsw j => ?_⟩
      · have := pe_lc (X := C.X j) (own := vs.map fun i => (c.N.getD i "", i)) (pos := pos) (C.calm j hc.h) (by rw [C.hN]; exact C.nd) (pi_any C tg iter j) (by rw [C.hN]; exact B.b j) (fun s H Cc cl fp => pg_any (C.blk scope) tg (j, s, H, Cc, cl, fp)) (fun s H Cc cl fp => pif_any (C.blk scope) is (j, s, H, Cc, cl, fp)) (fun s H Cc cl fp => pe_any (C.blk scope) elt (j, s, H, Cc, cl, fp)) (fs_of h2 _)
        rw [es] at this
        exact this
      · cases e1
        have := ps_setLc (X := C.X j) (i := i') (py := py) (spos := spos) (own := vs.map fun i => (c.N.getD i "", i)) (pos := pos) (C.calm j hc.h) (by rw [C.hN]; exact C.nd) (by rw [C.hN]; exact hy) (by rw [K.sc]; exact swB_loc hsw) ((swB_ok K _ j).trans (by rw [hsw])) (pi_any C tg iter j) (by rw [C.hN]; exact B.b j) (fun s H Cc cl fp => pg_any (C.blk scope) tg (j, s, H, Cc, cl, fp)) (fun s H Cc cl fp => pif_any (C.blk scope) is (j, s, H, Cc, cl, fp)) (fun s H Cc cl fp => pe_any (C.blk scope) elt (j, s, H, Cc, cl, fp)) (fs_of h2 _)
        rw [es] at this
        exact this
    · cases h
  | .two vs i p ifs i1 p1 ifs1 a, C, hc, c, e, G, K, h => by
    unfold chkL at h
    split at h
    · rename_i elt tg iter is k tg1 iter1 is1 k1 scope pos
      simp only [Bool.and_eq_true] at h
      obtain ⟨⟨⟨⟨⟨⟨⟨⟨⟨⟨⟨⟨⟨h1, h1'⟩, h2⟩, h2'⟩, h3⟩, h4⟩, h4'⟩, h5⟩, h6⟩, h7⟩, h8⟩, h9⟩, h10⟩, h11⟩ := h
      obtain rfl := zero_ok h1
      obtain rfl := zero_ok h1'
      have B := blk_ok K h3
      have K' := K.blk h3
      have G' := G.blk (scope := scope)
      have es := own_snd c.N vs
      have hi := okI g i C c tg iter G K h5
      have hp := pat_ok K' h6
      have hf := okF g ifs (C.blk scope) (c.blk scope) is G' K' h7
      have hi1 := okI g i1 (C.blk scope) (c.blk scope) tg1 iter1 G' K' h8
      have hp1 := pat_ok K' h9
      have hf1 := okF g ifs1 (C.blk scope) (c.blk scope) is1 G' K' h10
      have he := (okE g a (C.blk scope) (c.blk scope) elt G' K' h11).1
      have hv1 : ∀ i ∈ p1.ix, i ∈ (vs.map fun i => (c.N.getD i "", i)).map (·.2) := by rw [es]; exact allIn_ok h4'
      have R := re_lc2 (C := C) (ifs := is) (ifs1 := is1) B hv1 hi hp (by rw [es]; exact allIn_ok h4) hf hi1 hp1 (fun _ z => z) hf1 he
      rw [es] at R
      refine ⟨rfl, _, R, fun j => ?_, fun elt' gens' scope' pos' e1 i' y py spos hy hsw j => ?_⟩
      · have := pe_lc2 (X := C.X j) (own := vs.map fun i => (c.N.getD i "", i)) (pos := pos) (C.calm j hc.h) (by rw [C.hN]; exact C.nd) (pi_any C tg iter j) (by rw [C.hN]; exact B.b j) hv1 (fun s H Cc cl fp => pg_any (C.blk scope) tg (j, s, H, Cc, cl, fp)) (fun s H Cc cl fp => pif_any (C.blk scope) is (j, s, H, Cc, cl, fp)) (fun s H Cc cl fp => pi_any (C.blk scope) tg1 iter1 (j, s, H, Cc, cl, fp)) (fun s H Cc cl fp => pg_any (C.blk scope) tg1 (j, s, H, Cc, cl, fp)) (fun s H Cc cl fp => pif_any (C.blk scope) is1 (j, s, H, Cc, cl, fp)) (fun s H Cc cl fp => pe_any (C.blk scope) elt (j, s, H, Cc, cl, fp)) (fs_of h2 _) (fs_of h2')
        rw [es] at this
        exact this
      · cases e1
        have := ps_setLc2 (X := C.X j) (i := i') (py := py) (spos := spos) (own := vs.map fun i => (c.N.getD i "", i)) (pos := pos) (C.calm j hc.h) (by rw [C.hN]; exact C.nd) (by rw [C.hN]; exact hy) (by rw [K.sc]; exact swB_loc hsw) ((swB_ok K _ j).trans (by rw [hsw])) (pi_any C tg iter j) (by rw [C.hN]; exact B.b j) hv1 (fun s H Cc cl fp => pg_any (C.blk scope) tg (j, s, H, Cc, cl, fp)) (fun s H Cc cl fp => pif_any (C.blk scope) is (j, s, H, Cc, cl, fp)) (fun s H Cc cl fp => pi_any (C.blk scope) tg1 iter1 (j, s, H, Cc, cl, fp)) (fun s H Cc cl fp => pg_any (C.blk scope) tg1 (j, s, H, Cc, cl, fp)) (fun s H Cc cl fp => pif_any (C.blk scope) is1 (j, s, H, Cc, cl, fp)) (fun s H Cc cl fp => pe_any (C.blk scope) elt (j, s, H, Cc, cl, fp)) (fs_of h2 _) (fs_of h2')
        rw [es] at this
        exact this
    · cases h
theorem okO (g : Gx) : ∀ (o : IO) (C : Cs) [Cold C] (c : Ck) (e : Option Expr), GOk C g → KOk C c → chkO g.t o c e = true → SO C e (evO g o)
  | .non, C, _, c, e, G, K, h => by
    unfold chkO at h
    split at h
    · exact so_none
    · cases h
  | .some a, C, _, c, e, G, K, h => by
    unfold chkO at h
    split at h
    · cases h
    · exact so_some (okE g a C c _ G K h).1
theorem okA (g : Gx) : ∀ (l : IA) (C : Cs) [Cold C] (c : Ck) (es : List Expr), GOk C g → KOk C c → chkA g.t l c es = true → SA C es (evA g l)
  | .nil, C, _, c, e, G, K, h => by
    unfold chkA at h
    split at h
    · exact sa_nil
    · cases h
  | .cons a es, C, _, c, e, G, K, h => by
    unfold chkA at h
    split at h
    · cases h
    · simp only [Bool.and_eq_true] at h
      obtain ⟨⟨h1, h2⟩, h3⟩ := h
      exact sa_cons (okE g a C c _ G K h2).1 (okA g es C c _ G K h3) (ns_of h1)
theorem okK (g : Gx) : ∀ (l : IA) (C : Cs) [Cold C] (c : Ck) (kws : List Keyword), GOk C g → KOk C c → chkK g.t l c kws = true → SK C kws (evA g l)
  | .nil, C, _, c, e, G, K, h => by
    unfold chkK at h
    split at h
    · exact sk_nil
    · cases h
  | .cons a es, C, _, c, e, G, K, h => by
    unfold chkK at h
    split at h
    · cases h
    · obtain ⟨h1, h2⟩ := Bool.and_eq_true_iff.mp h
      exact sk_cons (okE g a C c _ G K h1).1 (okK g es C c _ G K h2)
theorem okT (g : Gx) : ∀ (k : IT) (C : Cs) [Cold C] (c : Ck) (e : Expr), GOk C g → KOk C c → chkT g.t k c e = true → ST C e (evT g k)
  | .yes, C, _, c, e, G, K, h => by unfold chkT at h; cases h
  | .val a, C, _, c, e, G, K, h => by
    unfold chkT at h
    obtain ⟨h1, h2⟩ := Bool.and_eq_true_iff.mp h
    exact (okE g a C c _ G K h2).t h1
  | .all w, C, _, c, e, G, K, h => by
    unfold chkT at h
    split at h
    · exact st_w (okW g w true C c _ _ G K h)
    · cases h
  | .any w, C, _, c, e, G, K, h => by
    unfold chkT at h
    split at h
    · exact st_w (okW g w false C c _ _ G K h)
    · cases h
  | .not k, C, _, c, e, G, K, h => by
    unfold chkT at h
    split at h
    · exact st_not (okT g k C c _ G K h)
    · cases h
theorem okW (g : Gx) : ∀ (w : IW) (b : Bool) (C : Cs) [Cold C] (c : Ck) (es : List Expr) (pos : Pos), GOk C g → KOk C c → chkW g.t w b c es pos = true → SW C (.BoolOp (if b then .And else .Or) es pos) (evW g b w)
  | .one k, b, C, _, c, es, pos, G, K, h => by
    unfold chkW at h
    split at h
    · have := okT g k C c _ G K h
      cases b
      · exact sw_or1 this
      · exact sw_and1 this
    · cases h
  | .cons k w, b, C, _, c, es, pos, G, K, h => by
    unfold chkW at h
    split at h
    · obtain ⟨h1, h2⟩ := Bool.and_eq_true_iff.mp h
      have k1 := okT g k C c _ G K h1
      have k2 := okW g w b C c _ pos G K h2
      cases b
      · exact sw_or k1 k2
      · exact sw_and k1 k2
    · cases h
theorem okF (g : Gx) : ∀ (k : IT) (C : Cs) [Cold C] (c : Ck) (es : List Expr), GOk C g → KOk C c → chkF g.t k c es = true → SIf C es (evT g k)
  | .yes, C, _, c, e, G, K, h => by
    unfold chkF at h
    split at h
    · exact sif_nil
    · cases h
  | .val a, C, _, c, e, G, K, h => by
    unfold chkF at h
    split at h
    · obtain ⟨h1, h2⟩ := Bool.and_eq_true_iff.mp h
      exact sif_one ((okE g a C c _ G K h2).t h1)
    · cases h
  | .all w, C, _, c, e, G, K, h => by
    unfold chkF at h
    split at h
    · exact sif_one (st_w (okW g w true C c _ _ G K h))
    · cases h
  | .any w, C, _, c, e, G, K, h => by
    unfold chkF at h
    split at h
    · exact sif_one (st_w (okW g w false C c _ _ G K h))
    · cases h
  | .not k, C, _, c, e, G, K, h => by
    unfold chkF at h
    split at h
    · exact sif_one (st_not (okT g k C c _ G K h))
    · cases h
theorem okI (g : Gx) : ∀ (i : II) (C : Cs) [Cold C] (c : Ck) (tg e : Expr), GOk C g → KOk C c → chkI g.t i c tg e = true → SI C tg e (evI g i)
  | .seq a, C, _, c, tg, e, G, K, h => by
    unfold chkI at h
    exact si_seq (okE g a C c _ G K h).1
  | .rng1 a, C, _, c, tg, e, G, K, h => by
    unfold chkI at h
    split at h
    · simp only [Bool.and_eq_true] at h
      obtain ⟨⟨⟨h1, h2⟩, h3⟩, h4⟩ := h
      obtain rfl := bn_ok h1
      exact si_rng1 (okE g a C c _ G K h4).1 (K.gl h2).1 (G.no (by decide +kernel)) (ns_of h3)
    · cases h
  | .rng2 a b, C, _, c, tg, e, G, K, h => by
    unfold chkI at h
    split at h
    · simp only [Bool.and_eq_true] at h
      obtain ⟨⟨⟨⟨⟨h1, h2⟩, h3⟩, h4⟩, h5⟩, h6⟩ := h
      obtain rfl := bn_ok h1
      exact si_rng2 (okE g a C c _ G K h5).1 (okE g b C c _ G K h6).1 (K.gl h2).1 (G.no (by decide +kernel)) (ns_of h3) (ns_of h4)
    · cases h
  | .rev a, C, _, c, tg, e, G, K, h => by
    unfold chkI at h
    split at h
    · simp only [Bool.and_eq_true] at h
      obtain ⟨⟨⟨⟨⟨h1, h2⟩, h3⟩, h4⟩, h5⟩, h6⟩ := h
      obtain rfl := bn_ok h1
      obtain rfl := bn_ok h3
      exact si_rev (okE g a C c _ G K h6).1 (K.gl h4).1 (G.no (by decide +kernel)) (K.gl h2).1 (G.no (by decide +kernel)) (ns_of h5) (ns_of rfl)
    · cases h
  | .enum a, C, _, c, tg, e, G, K, h => by
    unfold chkI at h
    split at h
    · simp only [Bool.and_eq_true] at h
      obtain ⟨⟨⟨⟨h0, h1⟩, h2⟩, h3⟩, h4⟩ := h
      obtain rfl := bn_ok h1
      cases tg with
      | Tuple elts kk tpos => exact si_enum (okE g a C c _ G K h4).1 (K.gl h2).1 (G.no (by decide +kernel)) (ns_of h3)
      | _ => cases h0
    · cases h
  | .zip a b, C, _, c, tg, e, G, K, h => by
    unfold chkI at h
    split at h
    · simp only [Bool.and_eq_true] at h
      obtain ⟨⟨⟨⟨⟨⟨h0, h1⟩, h2⟩, h3⟩, h4⟩, h5⟩, h6⟩ := h
      obtain rfl := bn_ok h1
      cases tg with
      | Tuple elts kk tpos => exact si_zip (okE g a C c _ G K h5).1 (okE g b C c _ G K h6).1 (K.gl h2).1 (G.no (by decide +kernel)) (ns_of h3) (ns_of h4)
      | _ => cases h0
    · cases h
end
mutual
theorem okS (g : Gx) : ∀ (i : IS) (C : Cs) [Cold C] (c : Ck) (s : Stmt), GOk C g → KOk C c → chkS g.t i c s = true → SS C s (evS g i)
  | .pass, C, _, c, s, G, K, h => by
    unfold chkS at h
    split at h
    · exact ss_pass
    · cases h
  | .brk, C, _, c, s, G, K, h => by
    unfold chkS at h
    split at h
    · exact ss_brk
    · cases h
  | .cnt, C, _, c, s, G, K, h => by
    unfold chkS at h
    split at h
    · exact ss_cnt
    · cases h
  | .do a, C, _, c, s, G, K, h => by
    unfold chkS at h
    split at h
    · obtain ⟨h1, h2⟩ := Bool.and_eq_true_iff.mp h
      exact ss_do (fun n env => sw_none h1 _ _ _) (okE g a C c _ G K h2).1
    · cases h
  | .ret a, C, _, c, s, G, K, h => by
    unfold chkS at h
    split at h
    · exact ss_ret (okE g a C c _ G K h).1
    · cases h
  | .retN, C, _, c, s, G, K, h => by
    unfold chkS at h
    split at h
    · exact ss_retN
    · cases h
  | .asg p a, C, _, c, s, G, K, h => by
    unfold chkS at h
    split at h
    · rename_i tg e pos
      simp only [Bool.and_eq_true] at h
      obtain ⟨⟨⟨h1, h2⟩, h3⟩, h4⟩ := h
      refine ss_asg (fun n j => ?_) (sw_stores h1) (pat_as h3) (pat_ok K h3) (okE g a C c _ G K h4).1
      show swapsWith e (some tg) n (C.X j).env = pure false
      split at h2
      · split at h2
        · rw [swB_ok K n j]
          rw [show swB _ _ _ _ _ = false by simpa using h2]
        · rename_i hn
          cases tg <;> first | rfl | exact absurd rfl (hn _ _)
      · exact sw_none h2 _ _ _
    · cases h
  | .setLc i w l, C, _, c, s, G, K, h => by
    unfold chkS at h
    split at h
    · rename_i y py elt gens scope pos spos
      simp only [Bool.and_eq_true] at h
      obtain ⟨⟨h1, h2⟩, h3⟩ := h
      obtain ⟨_, t, k1, k2, k3⟩ := okL g l C c _ G K h3
      have hy : C.N[i]? = some y := by rw [K.N]; exact nthS_ok h2
      exact ss_set (t := t) hy (k3 _ _ _ _ rfl i y py _ hy h1) (wr_ok w k1)
    · cases h
  | .fld o f a, C, _, c, s, G, K, h => by
    unfold chkS at h
    split at h
    · simp only [Bool.and_eq_true] at h
      obtain ⟨⟨⟨h1, h2⟩, h3⟩, h4⟩ := h
      obtain rfl := sEq_ok h1
      exact ss_fld G.flds (fun n env => sw_none h2 _ _ _) (okE g o C c _ G K h3).1 (okE g a C c _ G K h4).1
    · cases h
  | .ix o k a, C, _, c, s, G, K, h => by
    unfold chkS at h
    split at h
    · rename_i x y p2 e pos
      simp only [Bool.and_eq_true] at h
      obtain ⟨⟨⟨⟨h1, h2⟩, h3⟩, h4⟩, h5⟩ := h
      refine ss_ix (fun env v => ?_) (fun n env => (show swapsWith e (some (.Subscript x y p2)) n env = pure false from sw_none h2 _ _ _)) (fun env => sw_stores (by rfl) env) (okE g o C c _ G K h3).1 (okE g k C c _ G K h4).1 (okE g a C c _ G K h5).1
      cases y <;> first | rfl | cases h1
    · cases h
  | .ite k a b, C, _, c, s, G, K, h => by
    unfold chkS at h
    split at h
    · simp only [Bool.and_eq_true] at h
      obtain ⟨⟨h1, h2⟩, h3⟩ := h
      exact ss_if (okT g k C c _ G K h1) (okB g a C c _ G K h2) (okB g b C c _ G K h3)
    · cases h
  | .wh n k b, C, _, c, s, G, K, h => by
    unfold chkS at h
    split at h
    · obtain ⟨h1, h2⟩ := Bool.and_eq_true_iff.mp h
      exact ss_while n (okT g k C c _ G K h1) (okB g b C c _ G K h2)
    · cases h
  | .for i p b, C, _, c, s, G, K, h => by
    unfold chkS at h
    split at h
    · simp only [Bool.and_eq_true] at h
      obtain ⟨⟨⟨h1, h2⟩, h3⟩, h4⟩ := h
      exact ss_for (fun env x => fs_of h1 _ _) (okI g i C c _ _ G K h2) (pat_ok K h3) (okB g b C c _ G K h4)
    · cases h
  | .raise q es, C, _, c, s, G, K, h => by
    unfold chkS at h
    split at h
    · simp only [Bool.and_eq_true] at h
      obtain ⟨⟨⟨h1, h2⟩, h3⟩, h4⟩ := h
      obtain rfl := sEq_ok h1
      obtain ⟨fl, hf⟩ := Option.isSome_iff_exists.mp h3
      obtain ⟨hsm, hk, Cl, hx⟩ := G.excs _ _ (lkS_mem hf)
      have hn := chkA_ns h4
      have e1 : g.t.exF q = fl := by unfold Tab.exF; rw [hf]
      show SS C _ (sRaise q (g.t.exF q) (evA g es))
      rw [e1]
      exact ss_raise hx (okA g es C c _ G K h4) (hn _ List.mem_cons_self) (fun z hz => hn z (List.mem_cons_of_mem _ hz)) hk (K.gl h2).1 (K.gl h2).2 hsm
    · cases h
  | .tryN b, C, _, c, s, G, K, h => by
    unfold chkS at h
    split at h
    · exact ss_tryN (okB g b C.nox c _ G.nox K.nox h)
    · cases h
theorem okB (g : Gx) : ∀ (b : IB) (C : Cs) [Cold C] (c : Ck) (l : List Stmt), GOk C g → KOk C c → chkB g.t b c l = true → SB C l (evB g b)
  | .nil, C, _, c, l, G, K, h => by
    unfold chkB at h
    split at h
    · exact sb_nil
    · cases h
  | .cons a b, C, _, c, l, G, K, h => by
    unfold chkB at h
    split at h
    · cases h
    · obtain ⟨h1, h2⟩ := Bool.and_eq_true_iff.mp h
      exact sb_cons (okS g a C c _ G K h1) (okB g b C c _ G K h2)
end
end Mp

/-! M26: a program's defs, level by level. -/
namespace Mp
open PySem PySem.Spec PyProof.Rows L2
structure Df where
  at_ : Str × Option Str
  name : Str
  qual : Str
  st : Stmt
  N : List Str
  np : Nat
  b : IB
def Df.d (d : Df) : He.DefD := ⟨d.at_, d.name, d.qual, defArgs d.st, defBody d.st, defScope d.st, [], []⟩
def cellsOf (sc : Scope) : List Str := (sc.names.filter fun p => isCellK p.2).map (·.1)
def nodupS : List Str → Bool
  | [] => true
  | x :: r => !inS r x && nodupS r
theorem nodupS_ok : ∀ {l : List Str}, nodupS l = true → l.Nodup
  | [], _ => .nil
  | x :: r, h => by
    obtain ⟨h1, h2⟩ := Bool.and_eq_true_iff.mp h
    exact List.nodup_cons.mpr ⟨inS_not (by simpa using h1), nodupS_ok h2⟩
def scB (N : List Str) (np : Nat) (sc : Scope) : Bool := relK.isFunK sc.kind && !sc.isCoroutine && !sc.isGenerator && nodupS N && Nat.ble np N.length && (N.take np).all (fun x => kdIs sc x isLocK) && sc.names.all (fun y => !relK.isFreeK y.2)
theorem scB_ok {N : List Str} {np : Nat} {sc : Scope} (h : scB N np sc = true) : FnScope N (N.take np) sc ∧ (N.take np).length = np := by
  unfold scB at h
  simp only [Bool.and_eq_true] at h
  obtain ⟨⟨⟨⟨⟨⟨h1, h2⟩, h3⟩, h4⟩, h5⟩, h6⟩, h7⟩ := h
  have hl := Nat.le_of_ble_eq_true h5
  have e : (N.take np).length = np := by rw [List.length_take]; omega
  refine ⟨⟨?_, by simpa using h2, by simpa using h3, nodupS_ok h4, by rw [e], fun x hx => ?_, fun y hy => ?_⟩, e⟩
  · revert h1; cases sc.kind <;> intro h1 <;> first | rfl | cases h1
  · exact kd_loc (List.all_eq_true.mp h6 x hx)
  · intro z
    have := List.all_eq_true.mp h7 y hy
    rw [z] at this
    cases this
def Df.ok (t : Tab) (d : Df) : Bool := scB d.N d.np (defScope d.st) && chkB t d.b ⟨d.N, defScope d.st, cellsOf (defScope d.st)⟩ (defBody d.st)
/-- n levels deep -/
def callN0 (t : Tab) (ds : List Df) : Nat → Nat → Fn
  | k + 3 => fun i => match ds[i]? with
    | some d => fnOfBody d.np d.N.length (evB ⟨t, callN0 t ds (k + 2), callN0 t ds (k + 1)⟩ d.b)
    | none => fun _ _ => .no
  | _ => fun _ _ _ => .no
@[irreducible] def callN (t : Tab) (ds : List Df) (k i : Nat) : Fn := callN0 t ds k i
theorem callN_eq (t : Tab) (ds : List Df) (k : Nat) : callN t ds k = callN0 t ds k := funext fun i => by unfold callN; rfl
theorem callN_suc (t : Tab) (ds : List Df) (k i : Nat) : callN t ds (k + 3) i = (match ds[i]? with
    | some d => fnOfBody d.np d.N.length (evB ⟨t, callN t ds (k + 2), callN t ds (k + 1)⟩ d.b)
    | none => fun _ _ => .no) := by rw [callN_eq, callN_eq, callN_eq]; rfl
theorem callN_lo0 (t : Tab) (ds : List Df) (i : Nat) : callN t ds 0 i = fun _ _ => .no := by rw [callN_eq]; rfl
theorem callN_lo1 (t : Tab) (ds : List Df) (i : Nat) : callN t ds 1 i = fun _ _ => .no := by rw [callN_eq]; rfl
theorem callN_lo2 (t : Tab) (ds : List Df) (i : Nat) : callN t ds 2 i = fun _ _ => .no := by rw [callN_eq]; rfl
theorem fun_of {K : Fg} {d : Df} {f : Addr} {fd : FuncData} (F : FunD K d.name d.qual (defArgs d.st) (defBody d.st) (defScope d.st) [] [] f fd) : Fun K d.name d.qual d.st f fd := by
  obtain ⟨oc, od, dV, kV, doc, pm, an, cdv, ct, osl, e, lk, hcd, hD, _⟩ := F.ex
  rcases hD with ⟨_, rfl⟩ | ⟨z, _⟩
  · exact ⟨⟨oc, od, kV, doc, pm, an, cdv, ct, osl, e, lk, hcd⟩, F.kp⟩
  · exact absurd rfl z
/-- how a def takes its arguments -/
def Df.Bnd (d : Df) : Prop := ∀ (kV doc pm : Value) (an : Option Addr) (cdv ct : Value) (us : List Value), us.length = (d.N.take d.np).length → bindArgs (PySem.W.fnOf d.name d.qual (defArgs d.st) (defBody d.st) (defScope d.st) .none kV doc pm an cdv ct) ⟨us, []⟩ = pure ((d.N.take d.np).zip us)
/-- .. by keyword: a method's self ahead -/
def Df.KBnd (d : Df) (ks : List Str) (perm : List Nat) : Prop := d.N.take d.np ≠ [] ∧ ∀ (kV doc pm : Value) (an : Option Addr) (cdv ct : Value) (us ws : List Value), us.length = (if d.at_.2.isSome = true then 1 else 0) → ws.length = ks.length → bindArgs (PySem.W.fnOf d.name d.qual (defArgs d.st) (defBody d.st) (defScope d.st) .none kV doc pm an cdv ct) ⟨us, ks.zip ws⟩ = pure ((d.N.take d.np).zip (perm.filterMap fun i => (us ++ ws)[i]?))
/-- the program as it stands behind the top -/
structure MdOk (P : Program) (w : World) (K : Fg) (mg : Str → Option Value) (base : Heap) (t : Tab) (ds : List Df) : Prop where
  blt : ∀ x ∈ blts, mg x = none
  fns : ∀ x i, (x, i) ∈ t.fns → ∃ d, ds[i]? = some d ∧ mg x = some (.ref (He.fAd K d.at_))
  con : ∀ (j : Nat) x d, t.con[j]? = some (x, d) → ∃ (u : Value) (v : V), mg x = some u ∧ RelV v u ∧ ∀ T F m H, VR ⟨K, mg, T, F, []⟩ m H v d
  mts : ∀ c m i, t.mt c m = some i → ∃ d Ca, ds[i]? = some d ∧ mg c = some (.ref Ca) ∧ Cls K Ca ∧ Meth K Ca m (He.fAd K d.at_) ∧ t.na c m = false
  news : ∀ c i, (c, i) ∈ t.news → ∃ d Ca, ds[i]? = some d ∧ mg c = some (.ref Ca) ∧ L2.Mk K Ca (He.fAd K d.at_)
  excs : ∀ c fl, (c, fl) ∈ t.excs → fl.length ≤ 1000 ∧ ∃ Cl, ExcT P w K mg base c Cl fl
  flds : ∀ c Ca f, t.na c f = true → mg c = some (.ref Ca) → Cls K Ca ∧ NoAttr K Ca f
  fnk : ∀ x i d, (x, i) ∈ t.fns → ds[i]? = some d → d.at_.2 = none
  mtk : ∀ c m i d, t.mt c m = some i → ds[i]? = some d → d.at_.2.isSome = true
  nwk : ∀ c i d, (c, i) ∈ t.news → ds[i]? = some d → d.at_.2.isSome = true
  kbd : ∀ (i : Nat) d ks perm, ds[i]? = some d → t.perm i ks = some perm → d.KBnd ks perm
  dfs : ∀ (i : Nat) d, ds[i]? = some d → d.ok t = true ∧ d.Bnd ∧ ∃ fd, FunD K d.name d.qual (defArgs d.st) (defBody d.st) (defScope d.st) [] [] (He.fAd K d.at_) fd
theorem fn_none {P : Program} {w : World} {K : Fg} {mg : Str → Option Value} {base : Heap} {T : Addr → Prop} {k : Nat} {f : Addr} {fd : FuncData} {ps : List Str} {φ : Fn} (h : ∀ ds h, φ ds h = .no) : FnOk P w K mg base (L2N.CX P w) k f fd ps (spM K mg T φ) := by
  have no : ∀ vs H Q E, ¬ spM K mg T φ vs H Q E := fun vs H Q E z => by
    obtain ⟨F, m, hp, ds, _, _, hq⟩ := z
    rw [h] at hq
    exact hq
  exact ⟨fun vs H Q E z => absurd z (no vs H Q E), fun A outer s H args us vs Q E hr e0 hb r z => absurd z (no vs H Q E)⟩
theorem fn_step {P : Program} {w : World} {K : Fg} {mg : Str → Option Value} {base : Heap} {t : Tab} {ds : List Df} (M : MdOk P w K mg base t ds) (T : Addr → Prop) (k : Nat) (ih : ∀ k' < k, ∀ (i : Nat) (d : Df), ds[i]? = some d → FnM P w K mg base T k' (He.fAd K d.at_) (callN t ds k' i)) (fk : ∀ k' < k, ∀ (i : Nat) (d : Df) ks perm, ds[i]? = some d → t.perm i ks = some perm → FnMK P w K mg base T k' (He.fAd K d.at_) (callN t ds k' i) (if d.at_.2.isSome = true then 1 else 0) ks perm) (i : Nat) (d : Df) (hd : ds[i]? = some d) (fd : FuncData)
    (F : FunD K d.name d.qual (defArgs d.st) (defBody d.st) (defScope d.st) [] [] (He.fAd K d.at_) fd) : FnOk P w K mg base (L2N.CX P w) k (He.fAd K d.at_) fd (d.N.take d.np) (spM K mg T (callN t ds k i)) := by
    obtain ⟨h1, h2, _⟩ := M.dfs i d hd
    match k, ih, fk with
    | 0, _, _ => exact fn_none fun _ _ => by rw [callN_lo0]
    | 1, _, _ => exact fn_none fun _ _ => by rw [callN_lo1]
    | 2, _, _ => exact fn_none fun _ _ => by rw [callN_lo2]
    | k + 3, ih, fk =>
      unfold Df.ok at h1
      simp only [Bool.and_eq_true] at h1
      obtain ⟨s1, s3⟩ := h1
      obtain ⟨S, sl⟩ := scB_ok s1
      have e : callN t ds (k + 3) i = fnOfBody (d.N.take d.np).length d.N.length (evB ⟨t, callN t ds (k + 2), callN t ds (k + 1)⟩ d.b) := by
        rw [sl]
        rw [callN_suc, hd]
      rw [e]
      refine fn_okM (fun_of F) S fun cdv A outer s H E hr => ?_
      refine okB _ d.b _ ⟨d.N, defScope d.st, cellsOf (defScope d.st)⟩ _ ?_ ?_ s3
      · refine ⟨M.blt, fun x i' hi => ?_, fun j x d' hj => ?_, fun c m i' hi => ?_, fun c i' hi => ?_, fun c fl hi => ?_, M.flds, fun x i' ks perm hi hp => ?_, fun c m i' ks perm hi hp => ?_, fun c i' ks perm hi hp => ?_⟩
        · obtain ⟨d', e1, e2⟩ := M.fns x i' hi
          exact ⟨_, k + 2, Nat.le_refl _, e2, ih (k + 2) (by omega) i' d' e1⟩
        · obtain ⟨u, v, e1, e2, e3⟩ := M.con j x d' hj
          exact ⟨u, v, e1, e2, fun F m H => e3 _ _ _ _⟩
        · obtain ⟨d', Ca, e1, e2, e3, e4, e5⟩ := M.mts c m i' hi
          exact ⟨Ca, _, k + 2, Nat.le_refl _, ⟨e2, e3, e4, e5⟩, ih (k + 2) (by omega) i' d' e1⟩
        · obtain ⟨d', Ca, e1, e2, e3⟩ := M.news c i' hi
          exact ⟨Ca, _, k + 1, Nat.le_refl _, ⟨e2, e3⟩, ih (k + 1) (by omega) i' d' e1⟩
        · obtain ⟨h1, Cl, h2⟩ := M.excs c fl hi
          exact ⟨h1, by show 2 ≤ k + 2; omega, Cl, h2⟩
        · obtain ⟨d', e1, e2⟩ := M.fns x i' hi
          have kb := fk (k + 2) (by omega) i' d' ks perm e1 hp
          rw [M.fnk x i' d' hi e1] at kb
          exact ⟨_, k + 2, Nat.le_refl _, e2, kb⟩
        · obtain ⟨d', Ca, e1, e2, e3, e4, e5⟩ := M.mts c m i' hi
          have kb := fk (k + 2) (by omega) i' d' ks perm e1 hp
          rw [if_pos (M.mtk c m i' d' hi e1)] at kb
          exact ⟨Ca, _, k + 2, Nat.le_refl _, ⟨e2, e3, e4, e5⟩, kb⟩
        · obtain ⟨d', Ca, e1, e2, e3⟩ := M.news c i' hi
          have kb := fk (k + 1) (by omega) i' d' ks perm e1 hp
          rw [if_pos (M.nwk c i' d' hi e1)] at kb
          exact ⟨Ca, _, k + 1, Nat.le_refl _, ⟨e2, e3⟩, kb⟩
      · exact ⟨rfl, fun _ => rfl, S.kind, fun _ _ _ => rfl⟩
theorem all_fn {P : Program} {w : World} {K : Fg} {mg : Str → Option Value} {base : Heap} {t : Tab} {ds : List Df} (M : MdOk P w K mg base t ds) (T : Addr → Prop) : ∀ k : Nat, (∀ (i : Nat) (d : Df), ds[i]? = some d → FnM P w K mg base T k (He.fAd K d.at_) (callN t ds k i)) ∧
    ∀ (i : Nat) (d : Df) ks perm, ds[i]? = some d → t.perm i ks = some perm → FnMK P w K mg base T k (He.fAd K d.at_) (callN t ds k i) (if d.at_.2.isSome = true then 1 else 0) ks perm := by
  intro k
  induction k using Nat.strongRecOn with
  | ind k ih =>
    have key : ∀ (i : Nat) (d : Df) (hd : ds[i]? = some d) (fd : FuncData), FunD K d.name d.qual (defArgs d.st) (defBody d.st) (defScope d.st) [] [] (He.fAd K d.at_) fd → FnOk P w K mg base (L2N.CX P w) k (He.fAd K d.at_) fd (d.N.take d.np) (spM K mg T (callN t ds k i)) :=
      fun i d hd fd F => fn_step M T k (fun k' hk i d hd => (ih k' hk).1 i d hd) (fun k' hk i d ks perm hd hp => (ih k' hk).2 i d ks perm hd hp) i d hd fd F
    refine ⟨fun i d hd => ?_, fun i d ks perm hd hp => ?_⟩
    · obtain ⟨h1, h2, fd, F⟩ := M.dfs i d hd
      exact ⟨fd, _, key i d hd fd F, F.kp, F.bindsN h2⟩
    · obtain ⟨h1, h2, fd, F⟩ := M.dfs i d hd
      obtain ⟨k1, k2⟩ := M.kbd i d ks perm hd hp
      refine ⟨fd, _, key i d hd fd F, F.kp, ?_⟩
      obtain ⟨oc, od, dV, kV, doc, pm, an, cdv, ct, osl, e, lk, hcd, hD, _⟩ := F.ex
      rcases hD with ⟨_, rfl⟩ | ⟨z, _⟩
      · subst e
        exact ⟨kb_of k1 (k2 kV doc pm an cdv ct), kbn_of (k2 kV doc pm an cdv ct)⟩
      · exact absurd rfl z
end Mp

/-! M27: the program from the head's facts; the law's end. -/
namespace Mp
open PySem PySem.Spec PyProof.Rows L2
/-! ### constants -/
def cDv : MV → Option He.Dv
  | .int i => some (.int i)
  | .bl b => some (.bl b)
  | .str x => some (.str x)
  | .non => some .non
  | _ => none
def cDvs : List MV → Option (List He.Dv)
  | [] => some []
  | d :: ds => (cDv d).bind fun v => (cDvs ds).map fun vs => v :: vs
def conB (K : Fg) (q : Str × MV) : Bool := match q.2 with
  | .int i => (He.Fa.int q.1 i).ok K
  | .str z => (He.Fa.str q.1 z).ok K
  | .ktup ds => (He.Fa.glo q.1).ok K && (match cDvs ds with
    | some vs => He.tupB K q.1 vs
    | none => false)
  | _ => false
theorem cDvs_vr {S : Sx} {m : Mm} {H : Hp} : ∀ {ds : List MV} {vs : List He.Dv}, cDvs ds = some vs → VRs S m H (vs.map (He.Dv.v S.K)) ds
  | [], vs, h => by cases h; exact .nil
  | d :: ds, vs, h => by
    obtain ⟨v, h1, h2⟩ := Option.bind_eq_some_iff.mp h
    obtain ⟨r, h3, h4⟩ := Option.map_eq_some_iff.mp h2
    cases h4
    refine .cons ?_ (cDvs_vr h3)
    cases d <;> cases h1
    · exact .non
    · exact .bl _
    · exact .int _
    · exact .str _
theorem con_ok {K : Fg} {h : Heap} {mg : Str → Option Value} (X : K.In h) (G : h.Ns mainGlobals mg) {x : Str} {d : MV} (c : conB K (x, d) = true) : ∃ (u : Value) (v : V), mg x = some u ∧ RelV v u ∧ ∀ T F m H, VR ⟨K, mg, T, F, []⟩ m H v d := by
  unfold conB at c
  cases d with
  | int i =>
    obtain ⟨t, e⟩ := He.int_ok X G c
    exact ⟨_, .int i, e, ⟨t, rfl⟩, fun _ _ _ _ => .int i⟩
  | str z =>
    obtain ⟨t, e⟩ := He.str_ok X G c
    exact ⟨_, .str z, e, ⟨t, rfl⟩, fun _ _ _ _ => .str z⟩
  | ktup ds =>
    obtain ⟨c1, c2⟩ := Bool.and_eq_true_iff.mp c
    cases e : cDvs ds with
    | none => simp only [e] at c2; cases c2
    | some vs =>
      simp only [e] at c2
      exact ⟨_, .ref (He.ga K x), He.glo_ok X G c1, rfl, fun T F m H => .ktup (He.tupB_ok c2 H) (cDvs_vr (S := ⟨K, mg, T, F, []⟩) e)⟩
  | _ => cases c
/-! ### facts -/
def Tab.clss (t : Tab) : List Str := (t.mts.map (·.1) ++ t.news.map (·.1) ++ t.flds.map (·.1)).eraseDups
def faOf (t : Tab) : List He.Fa :=
  blts.map He.Fa.free ++ t.fns.map (fun p => .glo p.1) ++ t.mts.map (fun p => .glo p.1) ++ t.mts.map (fun p => .cls p.1) ++ t.mts.flatMap (fun p => p.2.map fun q => .meth p.1 q.1)
  ++ t.news.map (fun p => .glo p.1) ++ t.news.map (fun p => .mkr p.1) ++ t.flds.map (fun p => .cls p.1) ++ t.flds.flatMap (fun p => p.2.map fun f => .noat p.1 f) ++ t.flds.map (fun p => .glo p.1)
def exB (t : Tab) (K : Fg) : Bool := t.con.all (conB K)
def atB (ds : List Df) (i : Nat) (x : Str) (m : Option Str) : Bool := match ds[i]? with
  | some d => decide (d.at_ = (x, m))
  | none => false
def stB (t : Tab) (ds : List Df) : Bool :=
  t.fns.all (fun p => atB ds p.2 p.1 none) && t.mts.all (fun p => p.2.all fun q => atB ds q.2 p.1 (some q.1) && !t.na p.1 q.1) && t.news.all (fun p => atB ds p.2 p.1 (some "__init__")) && t.excs.isEmpty
theorem atB_ok {ds : List Df} {i : Nat} {x : Str} {m : Option Str} (h : atB ds i x m = true) : ∃ d, ds[i]? = some d ∧ d.at_ = (x, m) := by
  unfold atB at h
  cases q : ds[i]? with
  | none => rw [q] at h; cases h
  | some d => rw [q] at h; exact ⟨d, rfl, of_decide_eq_true h⟩
theorem md_of {P : Program} {w : World} {K : Fg} {h : Heap} {mg : Str → Option Value} {base : Heap} {t : Tab} {ds : List Df} (X : K.In h) (G : h.Ns mainGlobals mg) (c : He.SaysX (faOf t) (ds.map Df.d) [] [] (exB t) w h K) (st : stB t ds = true) (hd : ∀ d ∈ ds, d.ok t = true ∧ d.Bnd) (hk : ∀ r ∈ t.kws, ∀ d, ds[r.1]? = some d → d.KBnd r.2.1 r.2.2) : MdOk P w K mg base t ds := by
  unfold stB at st
  simp only [Bool.and_eq_true] at st
  obtain ⟨⟨⟨s1, s2⟩, s3⟩, s4⟩ := st
  have fact : ∀ {f}, f ∈ faOf t → f.ok K = true := fun hf => He.SaysD.facts (He.SaysT.d c.t) hf
  unfold faOf at fact
  simp only [List.mem_append, List.mem_map, List.mem_flatMap] at fact
  refine ⟨fun x hx => ?_, fun x i hi => ?_, fun j x d hj => ?_, fun c' m i hi => ?_, fun c' i hi => ?_, fun c' fl hi => ?_, fun c' Ca f hn hc => ?_, fun x i d hi hd' => ?_, fun c' m i d hi hd' => ?_, fun c' i d hi hd' => ?_, fun i d ks perm hi hp => hk _ (perm_mem hp) d hi, fun i d hi => ?_⟩
  · exact He.free_ok X G (fact (.inl (.inl (.inl (.inl (.inl (.inl (.inl (.inl (.inl ⟨x, hx, rfl⟩))))))))))
  · obtain ⟨d, e1, e2⟩ := atB_ok (List.all_eq_true.mp s1 (x, i) hi)
    refine ⟨d, e1, ?_⟩
    have := He.glo_ok (x := x) X G (fact (.inl (.inl (.inl (.inl (.inl (.inl (.inl (.inl (.inr ⟨(x, i), hi, rfl⟩))))))))))
    rw [this]
    unfold He.fAd
    rw [e2]
  · exact con_ok X G (List.all_eq_true.mp c.more (x, d) (List.mem_of_getElem? hj))
  · obtain ⟨l, h1, h2⟩ := Option.bind_eq_some_iff.mp hi
    have m1 := lkS_mem h1
    have m2 := lkS_mem h2
    obtain ⟨k1, k2⟩ := Bool.and_eq_true_iff.mp (List.all_eq_true.mp (List.all_eq_true.mp s2 (c', l) m1) (m, i) m2)
    obtain ⟨d, e1, e2⟩ := atB_ok k1
    have g1 := He.glo_ok (x := c') X G (fact (.inl (.inl (.inl (.inl (.inl (.inl (.inl (.inr ⟨(c', l), m1, rfl⟩)))))))))
    have g2 := He.cls_ok (x := c') (fact (.inl (.inl (.inl (.inl (.inl (.inl (.inr ⟨(c', l), m1, rfl⟩))))))))
    have g3 := He.meth_ok (x := c') (m := m) (fact (.inl (.inl (.inl (.inl (.inl (.inr ⟨(c', l), m1, (m, i), m2, rfl⟩)))))))
    refine ⟨d, _, e1, g1, g2, ?_, by simpa using k2⟩
    unfold He.fAd
    rw [e2]
    exact g3
  · obtain ⟨d, e1, e2⟩ := atB_ok (List.all_eq_true.mp s3 (c', i) hi)
    have g1 := He.glo_ok (x := c') X G (fact (.inl (.inl (.inl (.inl (.inr ⟨(c', i), hi, rfl⟩))))))
    have g2 := He.mkr_ok (x := c') (fact (.inl (.inl (.inl (.inr ⟨(c', i), hi, rfl⟩)))))
    refine ⟨d, _, e1, g1, ?_⟩
    unfold He.fAd
    rw [e2]
    exact g2
  · rw [List.isEmpty_iff.mp s4] at hi
    cases hi
  · unfold Tab.na at hn
    cases q : lkS t.flds c' with
    | none => rw [q] at hn; cases hn
    | some fs =>
      rw [q] at hn
      have m1 := lkS_mem q
      have g0 := He.glo_ok (x := c') X G (fact (.inr ⟨(c', fs), m1, rfl⟩))
      have g1 := He.cls_ok (x := c') (fact (.inl (.inl (.inr ⟨(c', fs), m1, rfl⟩))))
      have g2 := He.noat_ok (x := c') (f := f) (fact (.inl (.inr ⟨(c', fs), m1, f, inS_mem hn, rfl⟩)))
      have e := g0.symm.trans hc
      cases e
      exact ⟨g1, g2⟩
  · obtain ⟨d', e1, e2⟩ := atB_ok (List.all_eq_true.mp s1 (x, i) hi)
    rw [hd'] at e1
    cases e1
    rw [e2]
  · obtain ⟨l, h1, h2⟩ := Option.bind_eq_some_iff.mp hi
    obtain ⟨k1, k2⟩ := Bool.and_eq_true_iff.mp (List.all_eq_true.mp (List.all_eq_true.mp s2 (c', l) (lkS_mem h1)) (m, i) (lkS_mem h2))
    obtain ⟨d', e1, e2⟩ := atB_ok k1
    rw [hd'] at e1
    cases e1
    rw [e2]
    rfl
  · obtain ⟨d', e1, e2⟩ := atB_ok (List.all_eq_true.mp s3 (c', i) hi)
    rw [hd'] at e1
    cases e1
    rw [e2]
    rfl
  · obtain ⟨k1, k2⟩ := hd d (List.mem_of_getElem? hi)
    obtain ⟨fd, F⟩ := He.SaysD.defs (He.SaysT.d c.t) (d := d.d) (List.mem_map.mpr ⟨d, List.mem_of_getElem? hi, rfl⟩)
    exact ⟨k1, k2, fd, F⟩
/-! ### the law -/
theorem rl_start {K : Fg} {mg : Str → Option Value} {H : Hp} : Rl ⟨K, mg, fun _ => False, fun _ => False, []⟩ [] [] H := ⟨rfl, fun _ _ _ e => by simp at e, fun _ _ e => by simp at e, fun _ z => z.elim, fun _ z => z.elim, fun _ z => (List.not_mem_nil z).elim⟩
/-- the law's function answers True -/
def LawM (t : Tab) (ds : List Df) (L i : Nat) : Prop := ∀ ns : List Int, ns.length ≤ 63 → ∃ h, callN t ds L i [.scr ns] [] = .ok (.bl true) h
theorem law_say {K : Fg} {mg : Str → Option Value} {φ : Fn} (hφ : ∀ ns : List Int, ns.length ≤ 63 → ∃ h, φ [.scr ns] [] = .ok (.bl true) h) {H : Hp} {a : Addr} {ns : List Int} (hl : ns.length ≤ 63) (hS : SqL K H a (ns.map V.int)) : spM K mg (fun _ => False) (fun ds h => noEx (φ ds h)) [.ref a] H (fun v _ => v = .bl true) fun _ _ _ => False := by
  obtain ⟨h', e⟩ := hφ ns hl
  refine ⟨fun _ => False, [], [], [.scr ns], rl_start, .cons (.scr ?_) .nil, ?_⟩
  · exact hS.imp (fun z => ⟨z, fun n e => by simp at e, fun z => z⟩) id
  · dsimp only
    rw [e]
    exact fun m' v H' _ _ hv => vr_bl hv
theorem law_endM {l : PySem.W.OpenLaw} {w : World} {K : Fg} {h : Heap} {mg : Str → Option Value} {t : Tab} {ds : List Df} {L i : Nat} {d : Df} {f : Addr} (KX : K.In h) (M : ∀ base, MdOk l.prog w K mg base t ds) (hi : ((("law" : Str), i) : Str × Nat) ∈ t.fns) (hd : ds[i]? = some d) (hp : d.N.take d.np = (["script"] : List Str)) (hm : mg "law" = some (.ref f)) (hL : LawM t ds L i) :
    ∃ (K : PySem.W.Frag) (fd : FuncData) (sp : Sp), K.In h ∧ (∀ (s : Shared) (u : Value), BindsTo s fd ⟨[u], []⟩ [("script", u)]) ∧
        (∀ (H : Hp) (a : Addr) (ns : List Int), ns.length ≤ 63 → Only H → SqL K H a (ns.map V.int) → sp [.ref a] H (fun v _ => v = .bl true) fun _ _ _ => False) ∧
        ∀ base : Heap, K.In base → base.Ns mainGlobals mg → FnOk l.prog w K mg base CX0 L f fd ["script"] sp := by
  obtain ⟨d', e1, e2⟩ := (M h).fns _ _ hi
  rw [hd] at e1
  cases e1
  have e := hm.symm.trans e2
  cases e
  obtain ⟨h1, h2, fd, F⟩ := (M h).dfs i d hd
  refine ⟨K, fd, _, KX, fun s u => ?_, fun H a ns hl _ hS => law_say (mg := mg) hL hl hS, fun base _ _ => ?_⟩
  · have := F.bindsA (ps := d.N.take d.np) h2 s [u] (by rw [hp]; rfl)
    rw [hp] at this
    exact this
  · rw [← hp]
    exact fn_cx0 (fn_step (M base) (fun _ => False) L (fun k' _ i d hd => (all_fn (M base) _ k').1 i d hd) (fun k' _ i d ks perm hd hp => (all_fn (M base) _ k').2 i d ks perm hd hp) i d hd fd F)
end Mp

/-! M30: reckoning with the inner text: what is wanted of an answer, and what it asks of the parts. -/
namespace Mp
open PySem PySem.Spec PyProof.Rows L2
def WE {α : Type} (o : Out α) (N : α → MHp → Prop) : Prop := match o with
  | .ok a h => N a h
  | _ => False
structure SP where
  nx : Ev → MHp → Prop
  rt : MV → MHp → Prop
  bk : Ev → MHp → Prop := fun _ _ => False
  ct : Ev → MHp → Prop := fun _ _ => False
def WS (o : SOut) (P : SP) : Prop := match o with
  | .nx e h => P.nx e h
  | .rt d h => P.rt d h
  | .bk e h => P.bk e h
  | .ct e h => P.ct e h
  | _ => False
section
variable {α β : Type} {o : Out α} {N N' : α → MHp → Prop}
theorem ex_some {γ : Type} {o : Option γ} {a : γ} {P : γ → Prop} (e : o = some a) (p : P a) : ∃ k, o = some k ∧ P k := ⟨a, e, p⟩
theorem WE.get (h : WE o N) : ∃ a hp, o = .ok a hp ∧ N a hp := by
  cases o with
  | ok a hp => exact ⟨a, hp, rfl, h⟩
  | ex c fs hp => exact h.elim
  | no => exact h.elim
theorem WE.mono (h : WE o N) (k : ∀ a hp, N a hp → N' a hp) : WE o N' := by
  obtain ⟨a, hp, rfl, n⟩ := h.get
  exact k a hp n
theorem we_eq {a : α} {hp : MHp} (e : o = .ok a hp) (n : N a hp) : WE o N := by rw [e]; exact n
theorem WE.bind {k : α → MHp → Out β} {Q : β → MHp → Prop} (h : WE o fun a hp => WE (k a hp) Q) : WE (o.bind k) Q := by
  obtain ⟨a, hp, rfl, n⟩ := h.get
  exact n
theorem WE.noEx {Q : α → MHp → Prop} (h : WE o Q) : WE (noEx o) Q := by
  obtain ⟨a, hp, rfl, n⟩ := h.get
  exact n
theorem WE.thenS {k : α → MHp → SOut} {env : Ev} {P : SP} (h : WE o fun a hp => WS (k a hp) P) : WS (o.thenS env k) P := by
  obtain ⟨a, hp, rfl, n⟩ := h.get
  exact n
end
section
variable {g : Gx} {env : Ev} {h : MHp} {N : RV → MHp → Prop} {a b c o : IE}
/-! ### expressions -/
theorem e_v {i : Nat} {d : MV} (e : env[i]? = some (some d)) (n : N (.v d) h) : WE (evE g (.v i) env h) N := by
  rw [evE]; unfold eVar; rw [e]; exact n
theorem e_int {i : Int} (n : N (.v (.int i)) h) : WE (evE g (.int i) env h) N := by rw [evE]; exact n
theorem e_bl {i : Bool} (n : N (.v (.bl i)) h) : WE (evE g (.bl i) env h) N := by rw [evE]; exact n
theorem e_str {i : Str} (n : N (.v (.str i)) h) : WE (evE g (.str i) env h) N := by rw [evE]; exact n
theorem e_non (n : N (.v .non) h) : WE (evE g .non env h) N := by rw [evE]; exact n
theorem e_con {j : Nat} (n : N (.v (g.t.conV j)) h) : WE (evE g (.con j) env h) N := by rw [evE]; exact n
theorem e_bin {p : Bop} (n : WE (evE g a env h) fun x h1 => WE (evE g b env h1) fun y h2 => WE (p.m h2 x y) N) : WE (evE g (.bin p a b) env h) N := by
  rw [evE]; exact WE.bind (n.mono fun _ _ z => WE.bind z)
theorem e_neg (n : WE (evE g a env h) fun x h1 => ∃ i, x = .v (.int i) ∧ N (.v (.int (-i))) h1) : WE (evE g (.neg a) env h) N := by
  rw [evE]; exact WE.bind (n.mono fun _ _ ⟨i, e, z⟩ => by subst e; exact z)
theorem e_not (n : WE (evE g a env h) fun x h1 => ∃ i, x = .v (.bl i) ∧ N (.v (.bl (!i))) h1) : WE (evE g (.not a) env h) N := by
  rw [evE]; exact WE.bind (n.mono fun _ _ ⟨i, e, z⟩ => by subst e; exact z)
theorem e_cmp {p : Cop} (n : WE (evE g a env h) fun x h1 => WE (evE g b env h1) fun y h2 => ∃ k, p.g h2 x y = some k ∧ N (.v (.bl k)) h2) : WE (evE g (.cmp p a b) env h) N := by
  rw [evE]; exact WE.bind (n.mono fun _ _ z => WE.bind (z.mono fun _ _ ⟨k, e, z⟩ => by unfold mB; rw [e]; exact z))
theorem e_isN {k : Bool} (n : WE (evE g a env h) fun x h1 => N (.v (.bl (isNon x != k))) h1) : WE (evE g (.isN k a) env h) N := by
  rw [evE]; exact WE.bind n
theorem e_ix (n : WE (evE g a env h) fun x h1 => WE (evE g b env h1) fun y h2 => WE (mIxD h2 x y) N) : WE (evE g (.ix a b) env h) N := by
  rw [evE]; exact WE.bind (n.mono fun _ _ z => WE.bind z)
theorem e_sl {l u : IO} (n : WE (evE g a env h) fun x h1 => WE (evO g l env h1) fun lo h2 => WE (evO g u env h2) fun hi h3 => WE (mSl h3 x lo hi) N) : WE (evE g (.sl a l u) env h) N := by
  rw [evE]; exact WE.bind (n.mono fun _ _ z => WE.bind (z.mono fun _ _ z => WE.bind z))
theorem e_rev (n : WE (evE g a env h) fun x h1 => ∃ k ds, seqOf h1 x = some (k, ds) ∧ N (if k = true then .nl ds.reverse else .v (.tup ds.reverse)) h1) : WE (evE g (.rev a) env h) N := by
  rw [evE]; exact WE.bind (n.mono fun _ _ ⟨k, ds, e, z⟩ => by rw [e]; cases k <;> exact z)
theorem e_tup {es : IA} (n : WE (evA g es env h) fun ds h1 => ds.length ≤ 1000000 ∧ N (.v (.tup ds)) h1) : WE (evE g (.tup es) env h) N := by
  rw [evE]; exact WE.bind (n.mono fun _ _ ⟨e, z⟩ => by rw [if_pos e]; exact z)
theorem e_lst {es : IA} (n : WE (evA g es env h) fun ds h1 => ds.length ≤ 1000000 ∧ N (.nl ds) h1) : WE (evE g (.lst es) env h) N := by
  rw [evE]; exact WE.bind (n.mono fun _ _ ⟨e, z⟩ => by rw [if_pos e]; exact z)
theorem e_c1 {f : Fn1} (n : WE (evE g a env h) fun x h1 => WE (f.m h1 x) N) : WE (evE g (.c1 f a) env h) N := by
  rw [evE]; exact WE.bind n
theorem e_c2 {f : Fn2} (n : WE (evE g a env h) fun x h1 => WE (evE g b env h1) fun y h2 => WE (f.m h2 x y) N) : WE (evE g (.c2 f a b) env h) N := by
  rw [evE]; exact WE.bind (n.mono fun _ _ z => WE.bind z)
theorem e_isi {T : Ty} (n : WE (evE g a env h) fun x h1 => WE (mIsi T.x h1 x) N) : WE (evE g (.isi T a) env h) N := by
  rw [evE]; exact WE.bind n
theorem e_one (n : WE (evE g a env h) N) : WE (evE g (.one a) env h) N := by rw [evE]; exact n
theorem e_and (n : WE (evE g a env h) fun x h1 => ∃ k, tru h1 x = some k ∧ if k = true then WE (evE g b env h1) N else N x h1) : WE (evE g (.and a b) env h) N := by
  rw [evE]; exact WE.bind (n.mono fun _ _ ⟨k, e, z⟩ => WE.bind (by unfold mTru; rw [e]; cases k <;> exact z))
theorem e_or (n : WE (evE g a env h) fun x h1 => ∃ k, tru h1 x = some k ∧ if k = true then N x h1 else WE (evE g b env h1) N) : WE (evE g (.or a b) env h) N := by
  rw [evE]; exact WE.bind (n.mono fun _ _ ⟨k, e, z⟩ => WE.bind (by unfold mTru; rw [e]; cases k <;> exact z))
theorem e_ite {t : IT} (n : WE (evT g t env h) fun k h1 => if k = true then WE (evE g a env h1) N else WE (evE g b env h1) N) : WE (evE g (.ite t a b) env h) N := by
  rw [evE]; exact WE.bind (n.mono fun k _ z => by cases k <;> exact z)
theorem e_own (n : WE (evE g a env h) fun r h1 => ∃ ds, r = .nl ds ∧ N (.v (.ref h1.length)) (h1 ++ [.lst ds])) : WE (evE g (.own a) env h) N := by
  rw [evE]; exact WE.bind (n.mono fun _ _ ⟨ds, e, z⟩ => by subst e; exact z)
theorem e_frz {k : Nat} (n : WE (evE g a env h) fun r h1 => ∃ d d' h2, r = .v d ∧ frzV k d h1 = some (d', h2) ∧ N (.v d') h2) : WE (evE g (.frz k a) env h) N := by
  rw [evE]; exact WE.bind (n.mono fun _ _ ⟨d, d', h2, e, e2, z⟩ => by subst e; simp only [e2]; exact z)
theorem e_app (n : WE (evE g o env h) fun r h1 => ∃ k, r = .v (.ref k) ∧ isLst h1 r = true ∧ WE (evE g a env h1) fun x h2 => ∃ ds, lstAt h2 k = some ds ∧ ds.length < 1000000 ∧ N (.v .non) (h2.set k (.lst (ds ++ [x.toV])))) : WE (evE g (.app o a) env h) N := by
  rw [evE]; exact WE.bind (n.mono fun _ _ ⟨k, e1, e, z⟩ => by
    subst e1
    rw [if_pos e]
    exact WE.bind (z.mono fun _ _ ⟨ds, e2, e3, z⟩ => by unfold mApp; simp only [e2, if_pos e3]; exact z))
theorem e_get2 (n : WE (evE g o env h) fun r h1 => isDct h1 r = true ∧ WE (evE g a env h1) fun x h2 => WE (evE g b env h2) fun y h3 => ∃ w, dAt h3 r x = some w ∧ N (.v (w.getD y.toV)) h3) : WE (evE g (.get2 o a b) env h) N := by
  rw [evE]; exact WE.bind (n.mono fun _ _ ⟨e, z⟩ => by
    rw [if_pos e]
    exact WE.bind (z.mono fun _ _ z => WE.bind (z.mono fun _ _ ⟨w, e1, z⟩ => by simp only [e1]; exact z)))
theorem e_dnew {t : Bool} (n : N (.v (.ref h.length)) (h ++ [if t = true then .dT [] else .dK []])) : WE (evE g (.dnew t) env h) N := by
  rw [evE]; exact n
theorem e_fld {f : Str} (n : WE (evE g a env h) fun r h1 => ∃ d, fldAt g.t.na h1 r f = some d ∧ N (.v d) h1) : WE (evE g (.fld a f) env h) N := by
  rw [evE]; exact WE.bind (n.mono fun _ _ ⟨d, e, z⟩ => by simp only [e]; exact z)
theorem e_call {i : Nat} {es : IA} (n : WE (evA g es env h) fun ds h1 => WE (g.cl i ds h1) fun d h2 => N (.v d) h2) : WE (evE g (.call i es) env h) N := by
  rw [evE]; exact WE.bind (n.mono fun _ _ z => WE.bind z)
theorem e_callK {i : Nat} {ks : List Str} {perm : List Nat} {es : IA} (n : WE (evA g es env h) fun ds h1 => ds.length = ks.length ∧ WE (g.cl i (pmt perm ds) h1) fun d h2 => N (.v d) h2) : WE (evE g (.callK i ks perm es) env h) N := by
  rw [evE]; exact WE.bind (n.mono fun _ _ ⟨e, z⟩ => by rw [if_pos e]; exact WE.bind z)
theorem e_meth {m : Str} {es : IA} (n : WE (evE g o env h) fun r h1 => ∃ cl i, clsAt h1 r = some cl ∧ g.t.mt cl m = some i ∧ isIns cl m h1 r = true ∧ WE (evA g es env h1) fun ds h2 => WE (g.cl i (r.toV :: ds) h2) fun d h3 => N (.v d) h3) : WE (evE g (.meth m o es) env h) N := by
  rw [evE]
  exact WE.bind (n.noEx.mono fun _ _ ⟨cl, i, e1, e2, e3, z⟩ => by
    simp only [e1, e2, if_pos e3]
    exact WE.bind (z.mono fun _ _ z => WE.bind z.noEx))
theorem e_methK {m : Str} {ks : List Str} {es : IA} (n : WE (evE g o env h) fun r h1 => ∃ cl i perm, clsAt h1 r = some cl ∧ g.t.mt cl m = some i ∧ g.t.perm i ks = some perm ∧ isIns cl m h1 r = true ∧ WE (evA g es env h1) fun ds h2 => ds.length = ks.length ∧ WE (g.cl i (pmt perm (r.toV :: ds)) h2) fun d h3 => N (.v d) h3) : WE (evE g (.methK m o ks es) env h) N := by
  rw [evE]
  exact WE.bind (n.noEx.mono fun _ _ ⟨cl, i, perm, e1, e2, e0, e3, z⟩ => by
    simp only [e1, e2, e0, if_pos e3]
    exact WE.bind (z.mono fun _ _ ⟨e4, z⟩ => by rw [if_pos e4]; exact WE.bind z.noEx))
theorem e_new {k : Str} {i : Nat} {es : IA} (n : WE (evA g es env h) fun ds h1 => WE (g.cl1 i (.ref h1.length :: ds) (h1 ++ [.ins k []])) fun d h2 => d = .non ∧ N (.v (.ref h1.length)) h2) : WE (evE g (.new k i es) env h) N := by
  rw [evE]; exact WE.bind (n.mono fun _ _ z => WE.bind (z.noEx.mono fun _ _ ⟨e, z⟩ => by subst e; exact z))
/-! arguments -/
variable {NA : List MV → MHp → Prop} {NO : Option Int → MHp → Prop} {NT : Bool → MHp → Prop} {P : SP}
theorem a_nil (n : NA [] h) : WE (evA g .nil env h) NA := by rw [evA]; exact n
theorem a_cons {es : IA} (n : WE (evE g a env h) fun x h1 => WE (evA g es env h1) fun xs h2 => NA (x.toV :: xs) h2) : WE (evA g (.cons a es) env h) NA := by
  rw [evA]; exact WE.bind (n.mono fun _ _ z => WE.bind z)
theorem o_non (n : NO none h) : WE (evO g .non env h) NO := by rw [evO]; exact n
theorem o_some (n : WE (evE g a env h) fun x h1 => ∃ i, x = .v (.int i) ∧ NO (some i) h1) : WE (evO g (.some a) env h) NO := by
  rw [evO]; exact WE.bind (n.mono fun _ _ ⟨i, e, z⟩ => by subst e; exact z)
/-! tests -/
theorem t_yes (n : NT true h) : WE (evT g .yes env h) NT := by rw [evT]; exact n
theorem t_val (n : WE (evE g a env h) fun x h1 => ∃ k, tru h1 x = some k ∧ NT k h1) : WE (evT g (.val a) env h) NT := by
  rw [evT]; exact WE.bind (n.mono fun _ _ ⟨k, e, z⟩ => by unfold mTru; rw [e]; exact z)
theorem t_not {t : IT} (n : WE (evT g t env h) fun k h1 => NT (!k) h1) : WE (evT g (.not t) env h) NT := by
  rw [evT]; exact WE.bind n
theorem t_all {w : IW} (n : WE (evW g true w env h) NT) : WE (evT g (.all w) env h) NT := by rw [evT]; exact n
theorem t_any {w : IW} (n : WE (evW g false w env h) NT) : WE (evT g (.any w) env h) NT := by rw [evT]; exact n
theorem w_one {k : Bool} {t : IT} (n : WE (evT g t env h) NT) : WE (evW g k (.one t) env h) NT := by rw [evW]; exact n
theorem w_and {t : IT} {w : IW} (n : WE (evT g t env h) fun k h1 => if k = true then WE (evW g true w env h1) NT else NT false h1) : WE (evW g true (.cons t w) env h) NT := by
  rw [evW]; exact WE.bind (n.mono fun k _ z => by cases k <;> exact z)
theorem w_or {t : IT} {w : IW} (n : WE (evT g t env h) fun k h1 => if k = true then NT true h1 else WE (evW g false w env h1) NT) : WE (evW g false (.cons t w) env h) NT := by
  rw [evW]; exact WE.bind (n.mono fun k _ z => by cases k <;> exact z)
/-! ### statements -/
theorem b_nil (n : P.nx env h) : WS (evB g .nil env h) P := by rw [evB]; exact n
theorem b_cons {s : IS} {b : IB} (n : WS (evS g s env h) { P with nx := fun e h1 => WS (evB g b e h1) P }) : WS (evB g (.cons s b) env h) P := by
  rw [evB]
  unfold sSeq
  cases q : evS g s env h with
  | nx e h1 => rw [q] at n; exact n
  | rt d h1 => rw [q] at n; exact n
  | bk e h1 => rw [q] at n; exact n
  | ct e h1 => rw [q] at n; exact n
  | ex c fs e h1 => rw [q] at n; exact n
  | no => rw [q] at n; exact n
theorem s_pass (n : P.nx env h) : WS (evS g .pass env h) P := by rw [evS]; exact n
theorem s_brk (n : P.bk env h) : WS (evS g .brk env h) P := by rw [evS]; exact n
theorem s_cnt (n : P.ct env h) : WS (evS g .cnt env h) P := by rw [evS]; exact n
theorem s_do (n : WE (evE g a env h) fun _ h1 => P.nx env h1) : WS (evS g (.do a) env h) P := by rw [evS]; exact WE.thenS n
theorem s_ret (n : WE (evE g a env h) fun x h1 => P.rt x.toV h1) : WS (evS g (.ret a) env h) P := by rw [evS]; exact WE.thenS n
theorem s_retN (n : P.rt .non h) : WS (evS g .retN env h) P := by rw [evS]; exact n
theorem s_asg {p : Pat} (n : WE (evE g a env h) fun x h1 => ∃ e1, asg p x.toV env = some e1 ∧ P.nx e1 h1) : WS (evS g (.asg p a) env h) P := by
  rw [evS]; exact WE.thenS (n.mono fun _ _ ⟨e1, e, z⟩ => by rw [e]; exact z)
theorem s_fld {f : Str} (n : WE (evE g a env h) fun x h1 => WE (evE g o env h1) fun r h2 => ∃ h3, fldPut g.t.na h2 r f x.toV = some h3 ∧ P.nx env h3) : WS (evS g (.fld o f a) env h) P := by
  rw [evS]; exact WE.thenS (n.mono fun _ _ z => WE.thenS (z.mono fun _ _ ⟨h3, e, z⟩ => by rw [e]; exact z))
theorem s_ix {k : IE} (n : WE (evE g a env h) fun x h1 => WE (evE g o env h1) fun r h2 => WE (evE g k env h2) fun y h3 => ∃ h4, ixPut h3 r y x.toV = some h4 ∧ P.nx env h4) : WS (evS g (.ix o k a) env h) P := by
  rw [evS]; exact WE.thenS (n.mono fun _ _ z => WE.thenS (z.mono fun _ _ z => WE.thenS (z.mono fun _ _ ⟨h3, e, z⟩ => by rw [e]; exact z)))
theorem s_ite {t : IT} {b1 b2 : IB} (n : WE (evT g t env h) fun k h1 => if k = true then WS (evB g b1 env h1) P else WS (evB g b2 env h1) P) : WS (evS g (.ite t b1 b2) env h) P := by
  rw [evS]; exact WE.thenS (n.mono fun k _ z => by cases k <;> exact z)
theorem s_tryN {b : IB} (n : WS (evB g b env h) P) : WS (evS g (.tryN b) env h) P := by
  rw [evS]
  show WS (noExS (evB g b env h)) P
  cases q : evB g b env h with
  | nx e h1 => rw [q] at n; exact n
  | rt d h1 => rw [q] at n; exact n
  | bk e h1 => rw [q] at n; exact n
  | ct e h1 => rw [q] at n; exact n
  | ex c fs e h1 => rw [q] at n; exact n.elim
  | no => rw [q] at n; exact n.elim
/-- n turns; Inv i: before turn i -/
theorem for_loop {it : Itm} {p : Pat} {f : Fs} {Inv : Nat → Ev → MHp → Prop} {m : Nat} (hs : ∀ e h, Inv m e h → it.at h m = some none ∧ P.nx e h)
    (hb : ∀ i e h, i < m → Inv i e h → ∃ d e1, it.at h i = some (some d) ∧ asg p d e = some e1 ∧ WS (f e1 h) { nx := Inv (i + 1), rt := P.rt, bk := P.nx, ct := Inv (i + 1) }) :
    ∀ (n i : Nat) (e : Ev) (h : MHp), i ≤ m → m < n + i → Inv i e h → WS (sForL it p f n i e h) P
  | 0, i, e, h, h1, h2, _ => by omega
  | n + 1, i, e, h, h1, h2, hi => by
    unfold sForL
    by_cases hm : i = m
    · subst hm
      obtain ⟨e1, z⟩ := hs e h hi
      rw [e1]
      exact z
    · obtain ⟨d, e1, q1, q2, q3⟩ := hb i e h (by omega) hi
      rw [q1]
      simp only [q2]
      cases q : f e1 h with
      | nx e2 h2' => rw [q] at q3; exact for_loop hs hb n (i + 1) e2 h2' (by omega) (by omega) q3
      | ct e2 h2' => rw [q] at q3; exact for_loop hs hb n (i + 1) e2 h2' (by omega) (by omega) q3
      | rt d h2' => rw [q] at q3; exact q3
      | bk e2 h2' => rw [q] at q3; exact q3
      | ex c fs e2 h2' => rw [q] at q3; exact q3.elim
      | no => rw [q] at q3; exact q3.elim
theorem s_for {i : II} {p : Pat} {b : IB} (n : WE (evI g i env h) fun it h1 => WS (sForL it p (evB g b) (it.fuel h1) 0 env h1) P) : WS (evS g (.for i p b) env h) P := by
  rw [evS]; exact WE.thenS n
/-- a loop with a measure that falls -/
theorem wh_loop {t : IT} {b : IB} {Inv : Nat → Ev → MHp → Prop} (hb : ∀ k e h, Inv k e h → WE (evT g t e h) fun c h1 => if c = true then 0 < k ∧ WS (evB g b e h1) { nx := Inv (k - 1), rt := P.rt, bk := P.nx, ct := Inv (k - 1) } else P.nx e h1) :
    ∀ (n k : Nat) (e : Ev) (h : MHp), k < n → Inv k e h → WS (sWh (evT g t) (evB g b) n e h) P
  | 0, k, e, h, h1, _ => by omega
  | n + 1, k, e, h, h1, hi => by
    unfold sWh
    refine WE.thenS ((hb k e h hi).mono fun c h2 z => ?_)
    cases c with
    | false => exact z
    | true =>
      rw [if_pos rfl] at z ⊢
      obtain ⟨z0, z⟩ := z
      cases q : evB g b e h2 with
      | nx e2 h2' => rw [q] at z; exact wh_loop hb n (k - 1) e2 h2' (by omega) z
      | ct e2 h2' => rw [q] at z; exact wh_loop hb n (k - 1) e2 h2' (by omega) z
      | rt d h2' => rw [q] at z; exact z
      | bk e2 h2' => rw [q] at z; exact z
      | ex c fs e2 h2' => rw [q] at z; exact z.elim
      | no => rw [q] at z; exact z.elim
theorem s_wh {m : Nat} {t : IT} {b : IB} (n : WS (sWh (evT g t) (evB g b) m env h) P) : WS (evS g (.wh m t b) env h) P := by rw [evS]; exact n
/-! items -/
variable {NI : Itm → MHp → Prop}
theorem i_seq (n : WE (evE g a env h) fun x h1 => ∃ it, itOf h1 x = some it ∧ NI it h1) : WE (evI g (.seq a) env h) NI := by
  rw [evI]; exact WE.bind (n.mono fun _ _ ⟨it, e, z⟩ => by rw [e]; exact z)
theorem i_rng1 (n : WE (evE g a env h) fun x h1 => ∃ i : Int, x = .v (.int i) ∧ (-4611686018427387904 ≤ i ∧ i < 4611686018427387904) ∧ NI (.rng 0 1 i.toNat) h1) : WE (evI g (.rng1 a) env h) NI := by
  rw [evI]; exact WE.bind (n.mono fun _ _ ⟨i, e, hi, z⟩ => by subst e; simp only [if_pos hi]; exact z)
/-- what a def answers -/
theorem call_ok {t : Tab} {ds : List Df} {k i : Nat} {d : Df} {as : List MV} {ND : MV → MHp → Prop} (hd : ds[i]? = some d) (hl : as.length = d.np) (n : WS (evB ⟨t, callN t ds (k + 2), callN t ds (k + 1)⟩ d.b (envOf d.N.length as) h) { nx := fun _ h => ND .non h, rt := ND }) : WE (callN t ds (k + 3) i as h) ND := by
  have e : callN t ds (k + 3) i = fnOfBody d.np d.N.length (evB ⟨t, callN t ds (k + 2), callN t ds (k + 1)⟩ d.b) := by
    rw [callN_suc, hd]
  rw [e]
  unfold fnOfBody
  rw [if_pos hl]
  cases q : evB ⟨t, callN t ds (k + 2), callN t ds (k + 1)⟩ d.b (envOf d.N.length as) h with
  | nx e2 h2' => rw [q] at n; exact n
  | rt d h2' => rw [q] at n; exact n
  | ct e2 h2' => rw [q] at n; exact n.elim
  | bk e2 h2' => rw [q] at n; exact n.elim
  | ex c fs e2 h2' => rw [q] at n; exact n.elim
  | no => rw [q] at n; exact n.elim
end
/-! operators -/
section
variable {h : MHp} {N : RV → MHp → Prop} {i j : Int}
theorem add_i (n : N (.v (.int (i + j))) h) : WE (Bop.add.m h (.v (.int i)) (.v (.int j))) N := n
theorem sub_i (n : N (.v (.int (i - j))) h) : WE (Bop.sub.m h (.v (.int i)) (.v (.int j))) N := n
theorem mul_i (hs : (small i || small j) = true) (n : N (.v (.int (i * j))) h) : WE (Bop.mul.m h (.v (.int i)) (.v (.int j))) N := by
  show WE (if mulB i j = true then _ else _) N
  rw [if_pos (by unfold mulB; rw [hs]; rfl)]; exact n
theorem mul_w (hs : i.natAbs.log2 + j.natAbs.log2 < 1000000) (n : N (.v (.int (i * j))) h) : WE (Bop.mul.m h (.v (.int i)) (.v (.int j))) N := by
  show WE (if mulB i j = true then _ else _) N
  rw [if_pos (by unfold mulB; rw [decide_eq_true hs, Bool.or_true])]; exact n
theorem div_i (hj : 0 < j ∧ j.natAbs.log2 < 9000) (n : N (.v (.int (i / j))) h) : WE (Bop.div.m h (.v (.int i)) (.v (.int j))) N := by
  show WE (if 0 < j ∧ j.natAbs.log2 < 9000 then _ else _) N
  rw [if_pos hj]; exact n
theorem mod_i (hj : 0 < j) (n : N (.v (.int (i % j))) h) : WE (Bop.mod.m h (.v (.int i)) (.v (.int j))) N := by
  show WE (if 0 < j then _ else _) N
  rw [if_pos hj]; exact n
theorem pow_i (hj : 0 ≤ j ∧ j ≤ 1000000 ∧ small i) (n : N (.v (.int (i ^ j.toNat))) h) : WE (Bop.pow.m h (.v (.int i)) (.v (.int j))) N := by
  show WE (if 0 ≤ j ∧ j ≤ 1000000 ∧ small i then _ else _) N
  rw [if_pos hj]; exact n
variable {x : RV} {ds : List MV} {k : Bool}
theorem len_seq (hx : ∀ y, x ≠ .v (.str y)) (e : seqOf h x = some (k, ds)) (n : N (.v (.int ds.length)) h) : WE (Fn1.len.m h x) N := by
  show WE (mLen h x) N
  unfold mLen
  split
  · exact absurd rfl (hx _)
  · rw [e]; exact n
theorem len_scr {ns : List Int} (n : N (.v (.int ns.length)) h) : WE (Fn1.len.m h (.v (.scr ns))) N := len_seq (fun _ z => nomatch z) rfl (by rw [List.length_map]; exact n)
theorem len_tup (n : N (.v (.int ds.length)) h) : WE (Fn1.len.m h (.v (.tup ds))) N := len_seq (fun _ z => nomatch z) rfl n
theorem len_lst (n : N (.v (.int ds.length)) h) : WE (Fn1.len.m h (.v (.lst ds))) N := len_seq (fun _ z => nomatch z) rfl n
theorem len_ref {m : Nat} (e : lstAt h m = some ds) (n : N (.v (.int ds.length)) h) : WE (Fn1.len.m h (.v (.ref m))) N := len_seq (fun _ z => nomatch z) (by show (lstAt h m).map _ = _; rw [e]; rfl) n
theorem ix_seq {d : MV} (hx : ∀ y, x ≠ .v (.str y)) (hd : isDct h x = false) (e : seqOf h x = some (k, ds)) (hi : atI ds i = some d) (n : N (.v d) h) : WE (mIxD h x (.v (.int i))) N := by
  unfold mIxD
  rw [hd, if_neg Bool.false_ne_true]
  unfold mIxA
  split
  · exact absurd rfl (hx _)
  · unfold mIx
    rw [e]
    simp only [hi]
    exact n
theorem ix_scr {ns : List Int} (hi : atI ns i = some j) (n : N (.v (.int j)) h) : WE (mIxD h (.v (.scr ns)) (.v (.int i))) N := ix_seq (d := .int j) (fun _ z => nomatch z) rfl rfl (by
  unfold atI at hi ⊢
  rw [List.length_map]
  cases q : ixN ns.length i with
  | none => rw [q] at hi; cases hi
  | some m =>
    rw [q] at hi
    show (ns.map MV.int)[m]? = _
    rw [List.getElem?_map]
    show ns[m]?.map MV.int = _
    rw [show ns[m]? = some j from hi]
    rfl) n
theorem ix_tup {d : MV} (hi : atI ds i = some d) (n : N (.v d) h) : WE (mIxD h (.v (.tup ds)) (.v (.int i))) N := ix_seq (fun _ z => nomatch z) rfl rfl hi n
theorem ix_lst {d : MV} (hi : atI ds i = some d) (n : N (.v d) h) : WE (mIxD h (.v (.lst ds)) (.v (.int i))) N := ix_seq (fun _ z => nomatch z) rfl rfl hi n
theorem int_i (n : N (.v (.int i)) h) : WE (Fn1.int.m h (.v (.int i))) N := n
end
theorem and_le {n : Nat} {Q : Prop} (h : Nat.ble n 1000000 = true) (q : Q) : n ≤ 1000000 ∧ Q := ⟨Nat.le_of_ble_eq_true h, q⟩
theorem e_lnew {g : Gx} {env : Ev} {h : MHp} {N : RV → MHp → Prop} {es : IA} (n : WE (evA g es env h) fun ds h1 => ds.length ≤ 1000000 ∧ N (.v (.ref h1.length)) (h1 ++ [.lst ds])) : WE (evE g (.own (.lst es)) env h) N := e_own (e_lst (n.mono fun ds h1 ⟨a, b⟩ => ⟨a, ds, rfl, b⟩))
theorem lst_last {h : MHp} {ds : List MV} : lstAt (h ++ [.lst ds]) h.length = some ds := lstAt_eq.mpr (by simp)
theorem set_last {h : MHp} {a b : MO} : (h ++ [a]).set h.length b = h ++ [b] := by simp
theorem for_rng {P : SP} {p : Pat} {f : Fs} {n : Nat} {env : Ev} {h h0 : MHp} (Inv : Nat → Ev → MHp → Prop) (h1 : Inv 0 env h) (hb : ∀ i e h, i < n → Inv i e h → ∃ e1, asg p (.int i) e = some e1 ∧ WS (f e1 h) { nx := Inv (i + 1), rt := P.rt, bk := P.nx, ct := Inv (i + 1) }) (hs : ∀ e h, Inv n e h → P.nx e h) :
    WS (sForL (.rng 0 1 n) p f ((Itm.rng 0 1 n).fuel h0) 0 env h) P := by
  refine for_loop (Inv := Inv) (m := n) (fun e h hi => ⟨?_, hs e h hi⟩) (fun i e h hl hi => ?_) _ 0 env h (Nat.zero_le _) (by show n < n + 1 + 0; omega) h1
  · show some (if n < n then _ else none) = _
    rw [if_neg (Nat.lt_irrefl n)]
  · obtain ⟨e1, k1, k2⟩ := hb i e h hl hi
    refine ⟨.int i, e1, ?_, k1, k2⟩
    show some (if i < n then some (MV.int (0 + 1 * (i : Int))) else none) = _
    rw [if_pos hl, Int.zero_add, Int.one_mul]
theorem mul_r {h : MHp} {N : RV → MHp → Prop} {i j : Int} (hs : small j = true) (n : N (.v (.int (i * j))) h) : WE (Bop.mul.m h (.v (.int i)) (.v (.int j))) N := mul_i (by rw [hs, Bool.or_true]) n
theorem ite_w {c : Bool} {A B : Prop} (h1 : c = true → A) (h2 : c = false → B) : if c = true then A else B := by
  cases c
  · exact h2 rfl
  · exact h1 rfl
theorem ws_cut {o : SOut} {P : SP} (I : Ev → MHp → Prop) (h1 : WS o { P with nx := I }) (h2 : ∀ e h, I e h → P.nx e h) : WS o P := by
  cases o with
  | nx e h => exact h2 e h h1
  | rt d h => exact h1
  | bk e h => exact h1
  | ct e h => exact h1
  | ex c fs e h => exact h1
  | no => exact h1
theorem e_appL {g : Gx} {env : Ev} {h : MHp} {N : RV → MHp → Prop} {o a : IE} (n : WE (evE g o env h) fun r h1 => ∃ k ds0, r = .v (.ref k) ∧ lstAt h1 k = some ds0 ∧ WE (evE g a env h1) fun x h2 => ∃ ds, lstAt h2 k = some ds ∧ ds.length < 1000000 ∧ N (.v .non) (h2.set k (.lst (ds ++ [x.toV])))) : WE (evE g (.app o a) env h) N :=
  e_app (n.mono fun r h1 ⟨k, ds0, e, e2, z⟩ => ⟨k, e, by subst e; show (lstAt h1 k).isSome = true; rw [e2]; rfl, z⟩)
theorem frz_last {h : MHp} {ds : List MV} (hp : ∀ d ∈ ds, ∀ n, d ≠ .ref n) : frzV 1 (.ref h.length) (h ++ [.lst ds]) = some (.lst ds, h ++ [.gone]) := by
  unfold frzV
  rw [lst_last]
  simp only [set_last]
  have key : ∀ (ds : List MV) (h : MHp), frzV.frzL (frzV 0) ds h = some (ds, h) := by
    intro ds
    induction ds with
    | nil => intro h; rfl
    | cons d r ih =>
      intro h
      show ((frzV 0 d h).bind fun p => (frzV.frzL (frzV 0) r p.2).map fun q => (p.1 :: q.1, q.2)) = _
      show ((frzV.frzL (frzV 0) r h).map fun q => (d :: q.1, q.2)) = _
      rw [ih]
      rfl
  rw [key]
  rfl
theorem small_mod {x m : Int} (h1 : 0 < m) (h2 : m < 18446744073709551616) : small (x % m) = true := by
  have a := Int.emod_nonneg x (Int.ne_of_gt h1)
  have b := Int.emod_lt_of_pos x h1
  exact decide_eq_true (by omega)
theorem fld_ok {na : Flds} {h : MHp} {n : Nat} {c : Str} {fs : List (Str × MV)} {f : Str} {d : MV} (e : h[n]? = some (.ins c fs)) (hn : na c f = true) (hk : kvLook fs f = some d) : fldAt na h (.v (.ref n)) f = some d := by
  unfold fldAt
  simp only [e, if_pos hn]
  exact hk
theorem cls_at {h : MHp} {n : Nat} {c : Str} {fs : List (Str × MV)} (e : h[n]? = some (.ins c fs)) : clsAt h (.v (.ref n)) = some c := by
  unfold clsAt
  simp only [e]
theorem is_ok {h : MHp} {n : Nat} {c m : Str} {fs : List (Str × MV)} (e : h[n]? = some (.ins c fs)) (hk : kvLook fs m = none) : isIns c m h (.v (.ref n)) = true := by
  unfold isIns
  simp only [e, hk, decide_true, Option.isNone_none, Bool.and_self]
theorem dct_T {h : MHp} {n : Nat} {kvs : List (List Key × MV)} (e : h[n]? = some (.dT kvs)) : isDct h (.v (.ref n)) = true := by
  unfold isDct
  simp only [e]
theorem dat_T {h : MHp} {n : Nat} {kvs : List (List Key × MV)} {ds : List MV} {ks : List Key} (e : h[n]? = some (.dT kvs)) (hk : keysOf ds = some ks) : dAt h (.v (.ref n)) (.v (.tup ds)) = some (kvGet kvs ks) := by
  unfold dAt
  simp only [e, hk, Option.map_some]
theorem fput_ok {na : Flds} {h : MHp} {n : Nat} {c : Str} {fs : List (Str × MV)} {f : Str} {d : MV} (e : h[n]? = some (.ins c fs)) (hn : na c f = true) (hl : fs.length < 1000) : fldPut na h (.v (.ref n)) f d = some (h.set n (.ins c (fPut fs f d))) := by
  unfold fldPut
  simp only [e, hn, hl, and_self, if_true]
theorem dput_T {h : MHp} {n : Nat} {kvs : List (List Key × MV)} {ds : List MV} {ks : List Key} {d : MV} (e : h[n]? = some (.dT kvs)) (hk : keysOf ds = some ks) (hl : kvs.length < 1000000) : ixPut h (.v (.ref n)) (.v (.tup ds)) d = some (h.set n (.dT (kvPut kvs ks d))) := by
  unfold ixPut dPut
  simp only [e, hk, hl, if_true, Option.map_some]
theorem e_conI {g : Gx} {env : Ev} {h : MHp} {N : RV → MHp → Prop} {j : Nat} {i : Int} (e : g.t.conV j = .int i) (n : N (.v (.int i)) h) : WE (evE g (.con j) env h) N := e_con (by rw [e]; exact n)
end Mp

/-! M31: comprehensions, loops over what stands, what stays of the heap. -/
namespace Mp
open PySem PySem.Spec PyProof.Rows L2
/-- what stands elsewhere, stays -/
def Keep (ns : List Nat) (h h1 : MHp) : Prop := ∀ n o, n ∉ ns → h[n]? = some o → h1[n]? = some o
theorem Keep.refl {ns : List Nat} {h : MHp} : Keep ns h h := fun _ _ _ e => e
theorem Keep.trans {ns : List Nat} {h h1 h2 : MHp} (a : Keep ns h h1) (b : Keep ns h1 h2) : Keep ns h h2 := fun n o hn e => b n o hn (a n o hn e)
theorem Keep.weak {ns ms : List Nat} {h h1 : MHp} (a : Keep ns h h1) (hs : ∀ n ∈ ns, n ∈ ms) : Keep ms h h1 := fun n o hn e => a n o (fun z => hn (hs n z)) e
theorem Keep.app {ns : List Nat} {h t : MHp} : Keep ns h (h ++ t) := fun n o _ e => by
  rw [List.getElem?_append_left (List.getElem?_eq_some_iff.mp e).1]; exact e
theorem Keep.set {ns : List Nat} {h : MHp} {n : Nat} {o : MO} (hn : n ∈ ns) : Keep ns h (h.set n o) := fun m x hm e => by
  rw [List.getElem?_set_ne (fun z => hm (by rw [← z]; exact hn))]; exact e
section
variable {g : Gx} {env : Ev} {h : MHp} {N : RV → MHp → Prop} {NL : List MV → MHp → Prop} {P : SP}
theorem lcw_loop {it : Itm} {p : Pat} {vs : List Nat} {step : Ev → MHp → List MV → Out (List MV)} {m : Nat} {Inv : Nat → MHp → List MV → Prop} (hs : ∀ h acc, Inv m h acc → it.at h m = some none ∧ NL acc h)
    (hb : ∀ i h acc, i < m → Inv i h acc → ∃ d e1, it.at h i = some (some d) ∧ asg p d (wipeE env vs) = some e1 ∧ WE (step e1 h acc) fun acc1 h1 => Inv (i + 1) h1 acc1) :
    ∀ (n i : Nat) (h : MHp) (acc : List MV), i ≤ m → m < n + i → Inv i h acc → WE (lcLoop it p vs step n i env h acc) NL
  | 0, i, h, acc, h1, h2, _ => by omega
  | n + 1, i, h, acc, h1, h2, hi => by
    unfold lcLoop
    by_cases hm : i = m
    · subst hm
      obtain ⟨e1, z⟩ := hs h acc hi
      rw [e1]
      exact z
    · obtain ⟨d, e1, q1, q2, q3⟩ := hb i h acc (by omega) hi
      rw [q1]
      simp only [q2]
      exact WE.bind (q3.mono fun acc1 h3 z => lcw_loop hs hb n (i + 1) h3 acc1 (by omega) (by omega) z)
theorem lcput {gt : Ft} {fe : Fe} {acc : List MV} (n : WE (gt env h) fun k h1 => if k = true then WE (fe env h1) fun r h2 => acc.length < 1000000 ∧ NL (acc ++ [r.toV]) h2 else NL acc h1) : WE (lcPut gt fe env h acc) NL := by
  unfold lcPut
  exact WE.bind (n.mono fun k h1 z => by
    cases k with
    | false => exact z
    | true =>
      rw [if_pos rfl] at z ⊢
      exact WE.bind (z.mono fun r h2 ⟨e, q⟩ => by rw [if_pos e]; exact q))
theorem e_lc1 {vs : List Nat} {i : II} {p : Pat} {t : IT} {e : IE} (n : WE (evI g i env h) fun it h1 => WE (lcLoop it p vs (lcPut (evT g t) (evE g e)) (it.fuel h1) 0 env h1 []) fun ds h2 => N (.nl ds) h2) : WE (evE g (.lc (.one vs i p t e)) env h) N := by
  rw [evE, evL]
  unfold eLc
  exact WE.bind (n.mono fun it h1 z => WE.bind z.noEx)
theorem lc_rng {p : Pat} {vs : List Nat} {step : Ev → MHp → List MV → Out (List MV)} {n : Nat} {h0 : MHp} (Inv : Nat → MHp → List MV → Prop) (h1 : Inv 0 h []) (hb : ∀ i h acc, i < n → Inv i h acc → ∃ e1, asg p (.int i) (wipeE env vs) = some e1 ∧ WE (step e1 h acc) fun acc1 h1 => Inv (i + 1) h1 acc1) (hs : ∀ h acc, Inv n h acc → NL acc h) :
    WE (lcLoop (.rng 0 1 n) p vs step ((Itm.rng 0 1 n).fuel h0) 0 env h []) NL := by
  refine lcw_loop (Inv := Inv) (m := n) (fun h acc hi => ⟨?_, hs h acc hi⟩) (fun i h acc hl hi => ?_) _ 0 h [] (Nat.zero_le _) (by show n < n + 1 + 0; omega) h1
  · show some (if n < n then _ else none) = _
    rw [if_neg (Nat.lt_irrefl n)]
  · obtain ⟨e1, k1, k2⟩ := hb i h acc hl hi
    refine ⟨.int i, e1, ?_, k1, k2⟩
    show some (if i < n then some (MV.int (0 + 1 * (i : Int))) else none) = _
    rw [if_pos hl, Int.zero_add, Int.one_mul]
theorem nth_at {ds : List MV} {i : Nat} {d : MV} (e : ds[i]? = some d) : nth ds i = some (some d) := by
  unfold nth
  rw [if_pos (Nat.le_of_lt (List.getElem?_eq_some_iff.mp e).1), e]
theorem nth_end {ds : List MV} : nth ds ds.length = some none := by
  unfold nth
  rw [if_pos (Nat.le_refl _), List.getElem?_eq_none (Nat.le_refl _)]
theorem lc_fix {p : Pat} {vs : List Nat} {step : Ev → MHp → List MV → Out (List MV)} {ds : List MV} {h0 : MHp} (Inv : Nat → MHp → List MV → Prop) (h1 : Inv 0 h []) (hb : ∀ i h acc d, ds[i]? = some d → Inv i h acc → ∃ e1, asg p d (wipeE env vs) = some e1 ∧ WE (step e1 h acc) fun acc1 h1 => Inv (i + 1) h1 acc1) (hs : ∀ h acc, Inv ds.length h acc → NL acc h) :
    WE (lcLoop (.fix ds) p vs step ((Itm.fix ds).fuel h0) 0 env h []) NL := by
  refine lcw_loop (it := .fix ds) (Inv := Inv) (m := ds.length) (fun h acc hi => ⟨nth_end, hs h acc hi⟩) (fun i h acc hl hi => ?_) _ 0 h [] (Nat.zero_le _) (by show _ < ds.length + 1 + 0; omega) h1
  obtain ⟨e1, k1, k2⟩ := hb i h acc _ (List.getElem?_eq_getElem hl) hi
  exact ⟨_, e1, nth_at (List.getElem?_eq_getElem hl), k1, k2⟩
theorem for_fix {p : Pat} {f : Fs} {ds : List MV} {h0 : MHp} (Inv : Nat → Ev → MHp → Prop) (h1 : Inv 0 env h) (hb : ∀ i e h d, ds[i]? = some d → Inv i e h → ∃ e1, asg p d e = some e1 ∧ WS (f e1 h) { nx := Inv (i + 1), rt := P.rt, bk := P.nx, ct := Inv (i + 1) }) (hs : ∀ e h, Inv ds.length e h → P.nx e h) :
    WS (sForL (.fix ds) p f ((Itm.fix ds).fuel h0) 0 env h) P := by
  refine for_loop (it := .fix ds) (Inv := Inv) (m := ds.length) (fun e h hi => ⟨nth_end, hs e h hi⟩) (fun i e h hl hi => ?_) _ 0 env h (Nat.zero_le _) (by show _ < ds.length + 1 + 0; omega) h1
  obtain ⟨e1, k1, k2⟩ := hb i e h _ (List.getElem?_eq_getElem hl) hi
  exact ⟨_, e1, nth_at (List.getElem?_eq_getElem hl), k1, k2⟩
end
theorem ex_int {P : Int → Prop} {j : Int} (p : P j) : ∃ i : Int, RV.v (.int j) = .v (.int i) ∧ P i := ⟨j, rfl, p⟩
theorem ex_str {P : Str → Prop} {j : Str} (p : P j) : ∃ i : Str, RV.v (.str j) = .v (.str i) ∧ P i := ⟨j, rfl, p⟩
theorem if_tt {A B : Prop} (a : A) : if true = true then A else B := a
theorem if_ff {A B : Prop} (b : B) : if false = true then A else B := b
theorem row_at {row : List Int} {i : Int} (h0 : 0 ≤ i) (h1 : i < row.length) : ∃ v, v ∈ row ∧ atI (row.map MV.int) i = some (.int v) := by
  obtain ⟨n, rfl⟩ := Int.eq_ofNat_of_zero_le h0
  have hn : n < row.length := by omega
  refine ⟨row[n], List.getElem_mem hn, L2.atI_nat ?_⟩
  rw [List.getElem?_map, List.getElem?_eq_getElem hn]; rfl
theorem at_mem {α : Type} {l : List α} {i : Int} (h0 : 0 ≤ i) (h1 : i < l.length) : ∃ v, v ∈ l ∧ atI l i = some v := by
  obtain ⟨n, rfl⟩ := Int.eq_ofNat_of_zero_le h0
  have hn : n < l.length := by omega
  exact ⟨l[n], List.getElem_mem hn, L2.atI_nat (List.getElem?_eq_getElem hn)⟩
/-! texts -/
section
variable {h : MHp} {N : RV → MHp → Prop} {z : Str} {lo hi : Option Int}
theorem sl_s (hl : z.length ≤ 1000000) (n : N (.v (.str (cutS z lo hi))) h) : WE (mSl h (.v (.str z)) lo hi) N := by
  show WE (if z.length ≤ 1000000 then _ else _) N
  rw [if_pos hl]; exact n
theorem sl_t {ds : List MV} (n : N (.v (.tup (cutM ds lo hi))) h) : WE (mSl h (.v (.tup ds)) lo hi) N := n
theorem sl_l {ds : List MV} (n : N (.nl (cutM ds lo hi)) h) : WE (mSl h (.v (.lst ds)) lo hi) N := n
theorem sl_n {ds : List MV} (n : N (.nl (cutM ds lo hi)) h) : WE (mSl h (.nl ds) lo hi) N := n
theorem len_str (hl : z.length ≤ 1000000) (n : N (.v (.int z.length)) h) : WE (Fn1.len.m h (.v (.str z))) N := by
  show WE (if z.length ≤ 1000000 then _ else _) N
  rw [if_pos hl]; exact n
theorem ix_str {i : Int} {c : Nat} (hl : z.length ≤ 1000000) (hi : atI z.cps.toList i = some c) (n : N (.v (.str ⟨#[c]⟩)) h) : WE (mIxD h (.v (.str z)) (.v (.int i))) N := by
  show WE (if z.length ≤ 1000000 then _ else _) N
  rw [if_pos hl]
  simp only [hi]
  exact n
theorem add_s {a b : Str} (hl : a.length + b.length ≤ 1000000) (n : N (.v (.str (a ++ b))) h) : WE (Bop.add.m h (.v (.str a)) (.v (.str b))) N := by
  show WE (if a.length + b.length ≤ 1000000 then _ else _) N
  rw [if_pos hl]; exact n
theorem add_t {a b : List MV} (hl : a.length + b.length ≤ 1000000) (n : N (.v (.tup (a ++ b))) h) : WE (Bop.add.m h (.v (.tup a)) (.v (.tup b))) N := by
  show WE (if a.length + b.length ≤ 1000000 then _ else _) N
  rw [if_pos hl]; exact n
theorem add_n {a b : List MV} (hl : a.length + b.length ≤ 1000000) (n : N (.nl (a ++ b)) h) : WE (Bop.add.m h (.nl a) (.nl b)) N := by
  show WE (if a.length + b.length ≤ 1000000 then _ else _) N
  rw [if_pos hl]; exact n
theorem add_l {a b : List MV} (hl : a.length + b.length ≤ 1000000) (n : N (.nl (a ++ b)) h) : WE (Bop.add.m h (.v (.lst a)) (.nl b)) N := by
  show WE (if a.length + b.length ≤ 1000000 then _ else _) N
  rw [if_pos hl]; exact n
theorem add_nl {a b : List MV} (hl : a.length + b.length ≤ 1000000) (n : N (.nl (a ++ b)) h) : WE (Bop.add.m h (.nl a) (.v (.lst b))) N := by
  show WE (if a.length + b.length ≤ 1000000 then _ else _) N
  rw [if_pos hl]; exact n
theorem add_ll {a b : List MV} (hl : a.length + b.length ≤ 1000000) (n : N (.nl (a ++ b)) h) : WE (Bop.add.m h (.v (.lst a)) (.v (.lst b))) N := by
  show WE (if a.length + b.length ≤ 1000000 then _ else _) N
  rw [if_pos hl]; exact n
theorem tup_l {ds : List MV} (n : N (.v (.tup ds)) h) : WE (Fn1.tuple.m h (.v (.lst ds))) N := n
theorem list_t {ds : List MV} (n : N (.nl ds) h) : WE (Fn1.list.m h (.v (.tup ds))) N := n
theorem list_l {ds : List MV} (n : N (.nl ds) h) : WE (Fn1.list.m h (.v (.lst ds))) N := n
theorem int_b {b : Bool} (n : N (.v (.int (if b then 1 else 0))) h) : WE (Fn1.int.m h (.v (.bl b))) N := n
theorem rep_n {a : List MV} {k : Int} (hk : 0 ≤ k ∧ k ≤ 1000 ∧ a.length ≤ 1000) (n : N (.nl (List.replicate k.toNat a).flatten) h) : WE (Bop.mul.m h (.nl a) (.v (.int k))) N := by
  show WE (if 0 ≤ k ∧ k ≤ 1000 ∧ a.length ≤ 1000 then _ else _) N
  rw [if_pos hk]; exact n
theorem tup_n {ds : List MV} (n : N (.v (.tup ds)) h) : WE (Fn1.tuple.m h (.nl ds)) N := n
theorem tup_t {ds : List MV} (n : N (.v (.tup ds)) h) : WE (Fn1.tuple.m h (.v (.tup ds))) N := n
theorem min_i {i j : Int} (n : N (.v (.int (min i j))) h) : WE (Fn2.min.m h (.v (.int i)) (.v (.int j))) N := n
theorem max_i {i j : Int} (n : N (.v (.int (max i j))) h) : WE (Fn2.max.m h (.v (.int i)) (.v (.int j))) N := n
theorem divmod_i {i j : Int} (hj : 0 < j ∧ j < 1073741824) (n : N (.v (.tup [.int (i / j), .int (i % j)])) h) : WE (Fn2.divmod.m h (.v (.int i)) (.v (.int j))) N := by
  show WE (if 0 < j ∧ j < 1073741824 then _ else _) N
  rw [if_pos hj]; exact n
theorem ix_nl {ds : List MV} {i : Int} {d : MV} (hi : atI ds i = some d) (n : N (.v d) h) : WE (mIxD h (.nl ds) (.v (.int i))) N := ix_seq (fun _ z => nomatch z) rfl rfl hi n
theorem ix_ref {ds : List MV} {i : Int} {d : MV} {m : Nat} (e : lstAt h m = some ds) (hi : atI ds i = some d) (n : N (.v d) h) : WE (mIxD h (.v (.ref m)) (.v (.int i))) N := ix_seq (ds := ds) (fun _ z => nomatch z) (by
  unfold isDct
  simp only [lstAt_eq.mp e]) (by show (lstAt h m).map _ = _; rw [e]; rfl) hi n
end
theorem e_sidx {g : Gx} {env : Ev} {h : MHp} {N : RV → MHp → Prop} {o a : IE} (n : WE (evE g o env h) fun r h1 => ∃ x, r = .v (.str x) ∧ WE (evE g a env h1) fun r2 h2 => ∃ (y : Str) (i : Nat) (l : List Nat), r2 = .v (.str y) ∧ Builtin.Str.occurrences x y 0 x.length 1 = i :: l ∧ N (.v (.int i)) h2) : WE (evE g (.sidx o a) env h) N := by
  rw [evE]
  unfold eSIdx
  exact WE.bind (n.mono fun r h1 ⟨x, e, z⟩ => by
    subst e
    exact WE.bind (z.mono fun r2 h2 ⟨y, i, l, e1, e2, q⟩ => by
      subst e1
      simp only [e2]
      exact q))
theorem in_i2 {h : MHp} {a b c : Int} {P : Bool → Prop} (n : ∀ k, P k) : ∃ k, Cop.notin.g h (.v (.int a)) (.v (.tup [.int b, .int c])) = some k ∧ P k := by
  have s1 : SeqAt.shaped (.int a) = true := by simp [SeqAt.shaped, PyData.canLay0, PyData.depth]
  have s2 : SeqAt.shaped (.tuple [.int b, .int c]) = true := by simp [SeqAt.shaped, PyData.canLay0, PyData.canLayAll0, PyData.depth, PyData.depthAll]
  have e1 : pyR h (.v (.int a)) = some (.int a) := by simp [pyR, MV.plain, MV.py]
  have e2 : pyR h (.v (.tup [.int b, .int c])) = some (.tuple [.int b, .int c]) := by simp [pyR, MV.plain, plainAll, MV.py, pyAll]
  refine ⟨([PyData.int b, PyData.int c].any fun z => PyData.eqv z (.int a)) != true, ?_, n _⟩
  simp only [Cop.g, gIn, e1, e2, s1, s2, and_self, if_true]
def revR : Bool → List MV → RV
  | true, ds => .nl ds.reverse
  | false, ds => .v (.tup ds.reverse)
theorem e_rev2 {g : Gx} {env : Ev} {h : MHp} {N : RV → MHp → Prop} {a : IE} (n : WE (evE g a env h) fun x h1 => ∃ k ds, seqOf h1 x = some (k, ds) ∧ N (revR k ds) h1) : WE (evE g (.rev a) env h) N := e_rev (n.mono fun x h1 ⟨k, ds, e, z⟩ => ⟨k, ds, e, by cases k <;> exact z⟩)
theorem ex_seq {o : Option (Bool × List MV)} {k : Bool} {ds : List MV} {P : Bool → List MV → Prop} (e : o = some (k, ds)) (p : P k ds) : ∃ k ds, o = some (k, ds) ∧ P k ds := ⟨k, ds, e, p⟩
theorem seq_ref {h : MHp} {m : Nat} {ds : List MV} (e : lstAt h m = some ds) : seqOf h (.v (.ref m)) = some (true, ds) := by
  show (lstAt h m).map _ = _
  rw [e]; rfl
theorem e_dnewT {g : Gx} {env : Ev} {h : MHp} {N : RV → MHp → Prop} (n : N (.v (.ref h.length)) (h ++ [.dT []])) : WE (evE g (.dnew true) env h) N := e_dnew n
theorem e_dnewK {g : Gx} {env : Ev} {h : MHp} {N : RV → MHp → Prop} (n : N (.v (.ref h.length)) (h ++ [.dK []])) : WE (evE g (.dnew false) env h) N := e_dnew n
theorem ite_f {c : Bool} {A B : Prop} (e : c = false) (b : B) : if c = true then A else B := by rw [e]; exact b
theorem ite_t {c : Bool} {A B : Prop} (e : c = true) (a : A) : if c = true then A else B := by rw [e]; exact a
theorem lput {h : MHp} {n : Nat} {ds : List MV} {i : Int} {j : Nat} {d : MV} (e : lstAt h n = some ds) (hj : ixN ds.length i = some j) : ixPut h (.v (.ref n)) (.v (.int i)) d = some (h.set n (.lst (ds.set j d))) := by
  unfold ixPut
  simp only [e, hj]
theorem s_setLcN {g : Gx} {env : Ev} {h : MHp} {P : SP} {i : Nat} {l : IL} (n : WE (evE g (.lc l) env h) fun x h1 => ∃ e1, asg (.nm i) x.toV env = some e1 ∧ P.nx e1 h1) : WS (evS g (.setLc i .no l) env h) P := by
  rw [evS]
  rw [evE] at n
  exact WE.thenS (n.mono fun _ _ ⟨e1, e, z⟩ => by rw [e]; exact z)
theorem len_n {h : MHp} {N : RV → MHp → Prop} {ds : List MV} (n : N (.v (.int ds.length)) h) : WE (Fn1.len.m h (.nl ds)) N := len_seq (fun _ z => nomatch z) rfl n
theorem sl_ref {h : MHp} {N : RV → MHp → Prop} {ds : List MV} {m : Nat} {lo hi : Option Int} (e : lstAt h m = some ds) (n : N (.nl (cutM ds lo hi)) h) : WE (mSl h (.v (.ref m)) lo hi) N := by
  show WE (match seqOf h (.v (.ref m)) with
    | some (true, ds) => .ok (.nl (cutM ds lo hi)) h
    | _ => .no) N
  rw [seq_ref e]
  exact n
/-- writing into a list -/
theorem putL {h : MHp} {s : Nat} {ds : List MV} {i : Int} {j : Nat} {v : MV} (e : h[s]? = some (.lst ds)) (hj : ixN ds.length i = some j) : ∃ h', ixPut h (.v (.ref s)) (.v (.int i)) v = some h' ∧ h'[s]? = some (.lst (ds.set j v)) ∧ (∀ n : Nat, n ≠ s → h'[n]? = h[n]?) ∧ Keep [s] h h' :=
  ⟨_, lput (lstAt_eq.mpr e) hj, List.getElem?_set_self (List.getElem?_eq_some_iff.mp e).1, fun n hn => List.getElem?_set_ne (Ne.symm hn), Keep.set (by simp)⟩
theorem cut_map (row : List Int) (lo hi : Option Int) : ∃ r : List Int, cutM (row.map MV.int) lo hi = r.map MV.int ∧ r.length ≤ row.length := by
  unfold cutM
  rw [List.length_map, ← List.map_drop, ← List.map_take]
  exact ⟨_, rfl, by rw [List.length_take, List.length_drop]; omega⟩
theorem rep_map (k : Nat) (i : Int) : (List.replicate k [MV.int i]).flatten = (List.replicate k i).map MV.int := by
  induction k with
  | zero => rfl
  | succ k ih => rw [List.replicate_succ, List.flatten_cons, ih, List.replicate_succ]; rfl
theorem e_newK {g : Gx} {env : Ev} {h : MHp} {N : RV → MHp → Prop} {k : Str} {i : Nat} {ks : List Str} {perm : List Nat} {es : IA} (n : WE (evA g es env h) fun ds h1 => ds.length = ks.length ∧ WE (g.cl1 i (pmt perm (.ref h1.length :: ds)) (h1 ++ [.ins k []])) fun d h2 => d = .non ∧ N (.v (.ref h1.length)) h2) : WE (evE g (.newK k i ks perm es) env h) N := by
  rw [evE]; exact WE.bind (n.mono fun _ _ ⟨e, z⟩ => by rw [if_pos e]; exact WE.bind (z.noEx.mono fun _ _ ⟨e, z⟩ => by subst e; exact z))
theorem e_bits {g : Gx} {env : Ev} {h : MHp} {N : RV → MHp → Prop} {a : IE} (n : WE (evE g a env h) fun x h1 => ∃ i, x = .v (.int i) ∧ N (.v (.int (Builtin.Int.intBits i : Nat))) h1) : WE (evE g (.bits a) env h) N := by
  rw [evE]; exact WE.bind (n.mono fun _ _ ⟨i, e, z⟩ => by subst e; exact z)
theorem rep_t {h : MHp} {N : RV → MHp → Prop} {a : List MV} {k : Int} (hk : a ≠ [] ∧ 0 ≤ k ∧ k ≤ 1000 ∧ a.length ≤ 1000) (n : N (.v (.tup (List.replicate k.toNat a).flatten)) h) : WE (Bop.mul.m h (.v (.tup a)) (.v (.int k))) N := by
  show WE (if a ≠ [] ∧ 0 ≤ k ∧ k ≤ 1000 ∧ a.length ≤ 1000 then _ else _) N
  rw [if_pos hk]; exact n
theorem cut_take {ds : List MV} {k : Nat} (h : k ≤ ds.length) : cutM ds none (some (k : Int)) = ds.take k := by
  unfold cutM
  rw [HT.sIx_nat, HT.sIx_none, Nat.min_eq_left h, Nat.sub_zero, List.drop_zero]
theorem cut_drop {ds : List MV} {k : Nat} (h : k ≤ ds.length) : cutM ds (some (k : Int)) none = ds.drop k := by
  unfold cutM
  rw [HT.sIx_nat, HT.sIx_none, Nat.min_eq_left h]
  exact List.take_of_length_le (by rw [List.length_drop]; exact Nat.le_refl _)
theorem frz_at {h : MHp} {a : Nat} {ds : List MV} (e : lstAt h a = some ds) (hp : ∀ d ∈ ds, ∀ n, d ≠ .ref n) : frzV 1 (.ref a) h = some (.lst ds, h.set a .gone) := by
  unfold frzV
  rw [e]
  have key : ∀ (ds : List MV) (h : MHp), frzV.frzL (frzV 0) ds h = some (ds, h) := by
    intro ds
    induction ds with
    | nil => intro h; rfl
    | cons d r ih =>
      intro h
      show ((frzV.frzL (frzV 0) r h).map fun q => (d :: q.1, q.2)) = _
      rw [ih]
      rfl
  simp only [key, Option.map_some]
/-! equality of tuples of ints -/
theorem plain_ints : ∀ ns : List Int, plainAll (ns.map MV.int) = true
  | [] => rfl
  | n :: r => by
    show (true && plainAll (r.map MV.int)) = true
    rw [plain_ints r]
    rfl
theorem py_ints : ∀ ns : List Int, pyAll (ns.map MV.int) = ns.map PyData.int
  | [] => rfl
  | n :: r => by
    show PyData.int n :: pyAll (r.map MV.int) = PyData.int n :: r.map PyData.int
    rw [py_ints r]
theorem can_intsM : ∀ ns : List Int, PyData.canLayAll0 (ns.map PyData.int) = true
  | [] => by simp [PyData.canLayAll0]
  | n :: r => by
    rw [List.map_cons]
    simp only [PyData.canLayAll0, PyData.canLay0]
    rw [can_intsM r]
    rfl
theorem depth_intsM : ∀ ns : List Int, PyData.depthAll (ns.map PyData.int) ≤ 1
  | [] => by simp [PyData.depthAll]
  | n :: r => by
    rw [List.map_cons]
    simp only [PyData.depthAll, PyData.depth]
    have := depth_intsM r
    omega
theorem eqv_intsM : ∀ ns : List Int, PyData.eqvAll (ns.map PyData.int) (ns.map PyData.int) = true
  | [] => by simp [PyData.eqvAll]
  | n :: r => by
    rw [List.map_cons]
    simp only [PyData.eqvAll, PyData.eqv, beq_self_eq_true, Bool.true_and]
    exact eqv_intsM r
theorem eq_tupI (h : MHp) (ns : List Int) : Cop.eq.g h (.v (.tup (ns.map MV.int))) (.v (.tup (ns.map MV.int))) = some true := by
  have s1 : SeqAt.shaped (.tuple (ns.map PyData.int)) = true := by
    have d := depth_intsM ns
    have e : (PyData.tuple (ns.map PyData.int)).canLay0 = true := by simp only [PyData.canLay0]; exact can_intsM ns
    unfold SeqAt.shaped
    rw [e, Bool.true_and]
    refine decide_eq_true ?_
    have : (PyData.tuple (ns.map PyData.int)).depth ≤ 2 := by
      simp only [PyData.depth]
      omega
    omega
  have e1 : pyR h (.v (.tup (ns.map MV.int))) = some (.tuple (ns.map PyData.int)) := by
    simp only [pyR, MV.plain, MV.py, plain_ints, py_ints, if_true]
  simp only [Cop.g, gEq, e1, s1, and_self, if_true, PyData.eqv, eqv_intsM]
  rfl
theorem shr_i {h : MHp} {N : RV → MHp → Prop} {i j : Int} (hj : 0 ≤ j) (n : N (.v (.int (i / 2 ^ j.toNat))) h) : WE (Bop.shr.m h (.v (.int i)) (.v (.int j))) N := by
  show WE (if 0 ≤ j then _ else _) N
  rw [if_pos hj]; exact n
theorem and1_i {h : MHp} {N : RV → MHp → Prop} {i : Int} (n : N (.v (.int (i % 2))) h) : WE (Bop.and1.m h (.v (.int i)) (.v (.int 1))) N := by
  show WE (if (1 : Int) = 1 then Out.ok (.v (.int (i % 2))) h else .no) N
  rw [if_pos rfl]; exact n
theorem i_rev {g : Gx} {env : Ev} {h : MHp} {NI : Itm → MHp → Prop} {a : IE} (n : WE (evE g a env h) fun x h1 => ∃ i : Int, x = .v (.int i) ∧ (-4611686018427387904 ≤ i ∧ i < 4611686018427387904) ∧ NI (.rng ((i.toNat : Int) - 1) (-1) i.toNat) h1) : WE (evI g (.rev a) env h) NI := by
  rw [evI]; exact WE.bind (n.mono fun _ _ ⟨i, e, hi, z⟩ => by subst e; simp only [if_pos hi]; exact z)
theorem for_rev {P : SP} {p : Pat} {f : Fs} {n : Nat} {env : Ev} {h h0 : MHp} (Inv : Nat → Ev → MHp → Prop) (h1 : Inv 0 env h) (hb : ∀ i e h, i < n → Inv i e h → ∃ e1, asg p (.int ((n - 1 - i : Nat) : Int)) e = some e1 ∧ WS (f e1 h) { nx := Inv (i + 1), rt := P.rt, bk := P.nx, ct := Inv (i + 1) }) (hs : ∀ e h, Inv n e h → P.nx e h) :
    WS (sForL (.rng ((n : Int) - 1) (-1) n) p f ((Itm.rng ((n : Int) - 1) (-1) n).fuel h0) 0 env h) P := by
  refine for_loop (Inv := Inv) (m := n) (fun e h hi => ⟨?_, hs e h hi⟩) (fun i e h hl hi => ?_) _ 0 env h (Nat.zero_le _) (by show n < n + 1 + 0; omega) h1
  · show some (if n < n then _ else none) = _
    rw [if_neg (Nat.lt_irrefl n)]
  · obtain ⟨e1, k1, k2⟩ := hb i e h hl hi
    refine ⟨_, e1, ?_, k1, k2⟩
    show some (if i < n then some (MV.int ((n : Int) - 1 + -1 * (i : Int))) else none) = _
    rw [if_pos hl, show ((n - 1 - i : Nat) : Int) = (n : Int) - 1 + -1 * (i : Int) by omega]
theorem s_setLcO {g : Gx} {env : Ev} {h : MHp} {P : SP} {i : Nat} {l : IL} (n : WE (evE g (.lc l) env h) fun x h1 => ∃ ds, x = .nl ds ∧ ∃ e1, asg (.nm i) (.ref h1.length) env = some e1 ∧ P.nx e1 (h1 ++ [.lst ds])) : WS (evS g (.setLc i .own l) env h) P := by
  rw [evS]
  rw [evE] at n
  refine WE.thenS (o := eOwn (evL g l) env h) ?_
  unfold eOwn
  exact WE.bind (n.mono fun x h1 ⟨ds, e, e1, q, z⟩ => by
    subst e
    show match asg (.nm i) (MV.ref h1.length) env with
      | some e1 => P.nx e1 (h1 ++ [.lst ds])
      | none => False
    rw [q]
    exact z)
theorem ex_nl {ds : List MV} {P : List MV → Prop} (p : P ds) : ∃ ds', RV.nl ds = .nl ds' ∧ P ds' := ⟨ds, rfl, p⟩
theorem add_rl {h : MHp} {N : RV → MHp → Prop} {a b : List MV} {m : Nat} (e : lstAt h m = some a) (hl : a.length + b.length ≤ 1000000) (n : N (.nl (a ++ b)) h) : WE (Bop.add.m h (.v (.ref m)) (.v (.lst b))) N := by
  show WE (match lstAt h m, some b with
    | some a, some b => if a.length + b.length ≤ 1000000 then .ok (.nl (a ++ b)) h else .no
    | _, _ => .no) N
  simp only [e, if_pos hl]
  exact n
theorem cut_mem {ds : List MV} {lo hi : Option Int} {d : MV} (h : d ∈ cutM ds lo hi) : d ∈ ds := List.mem_of_mem_drop (List.mem_of_mem_take h)
theorem cut_len (ds : List MV) (lo hi : Option Int) : (cutM ds lo hi).length ≤ ds.length := by
  unfold cutM
  rw [List.length_take, List.length_drop]
  omega
theorem cutS_len (z : Str) (lo hi : Option Int) : (cutS z lo hi).length ≤ z.length := by
  show (cutS z lo hi).cps.size ≤ z.cps.size
  unfold cutS
  rw [List.size_toArray, List.length_take, List.length_drop, Array.length_toList]
  omega
theorem strApp_len (a b : Str) : (a ++ b).length = a.length + b.length := by
  show (a ++ b).cps.size = a.cps.size + b.cps.size
  rw [Str.cps_append, Array.size_append]
/-- members of a key -/
def AllK (ds : List MV) : Prop := ∀ d ∈ ds, ∃ k, keyOf d = some k
theorem AllK.keys : ∀ {ds : List MV}, AllK ds → ∃ ks, keysOf ds = some ks
  | [], _ => ⟨[], rfl⟩
  | d :: ds, h => by
    obtain ⟨k, e⟩ := h d List.mem_cons_self
    obtain ⟨ks, e2⟩ := AllK.keys (ds := ds) fun x hx => h x (List.mem_cons_of_mem _ hx)
    exact ⟨k :: ks, by unfold keysOf; rw [e, e2]; rfl⟩
theorem AllK.app {a b : List MV} (h : AllK a) (k : AllK b) : AllK (a ++ b) := fun d hd => (List.mem_append.mp hd).elim (h d) (k d)
theorem AllK.cut {a : List MV} {lo hi : Option Int} (h : AllK a) : AllK (cutM a lo hi) := fun d hd => h d (cut_mem hd)
theorem AllK.rev {a : List MV} (h : AllK a) : AllK a.reverse := fun d hd => h d (List.mem_reverse.mp hd)
theorem AllK.nil : AllK [] := fun _ z => nomatch z
theorem AllK.int {i : Int} {a : List MV} (h : AllK a) : AllK (.int i :: a) := fun d hd => by
  rcases List.mem_cons.mp hd with z | z
  · exact ⟨.inl i, by rw [z]; rfl⟩
  · exact h d z
theorem AllK.str {i : Str} {a : List MV} (h : AllK a) : AllK (.str i :: a) := fun d hd => by
  rcases List.mem_cons.mp hd with z | z
  · exact ⟨.inr i, by rw [z]; rfl⟩
  · exact h d z
end Mp

set_option maxHeartbeats 4000000
/-! L11: k11_numbers, printed by genl.py. -/
namespace L11
open PySem PySem.Spec PyProof.Rows L2 Mp
def top (i : Nat) : Stmt := PySem.Challenge.pw_picturetide_k11_numbers.main.body.getD i (.Pass ⟨0, 0, 0, 0⟩)
def inCls (s : Stmt) (i : Nat) : Stmt := match s with
  | .ClassDef _ _ _ b _ _ _ _ _ _ _ => b.getD i (.Pass ⟨0, 0, 0, 0⟩)
  | _ => .Pass ⟨0, 0, 0, 0⟩
def tb : Tab where
  fns := [("put_number", 0), ("get_number", 1), ("folded", 2), ("unfolded", 3), ("put_signed", 4), ("get_signed", 5), ("price_of", 6), ("price_of_signed", 7), ("figures", 8), ("_law_cell", 22), ("_law_row", 23), ("_law_put", 24), ("_law_octets", 25), ("_law_alike", 26), ("_law_is", 27), ("_law_words", 28), ("_law_number", 29), ("_law_things", 30), ("_law_size", 31), ("_law_bits", 32), ("_law_signed", 33), ("_law_put_thing", 34), ("_law_got", 35), ("_law_whole", 36), ("law", 37)]
  con := [("MOST_FIGURES", .int 16), ("OCTET_LIMIT", .int 256), ("EVEN_CHANCE", .int 2048), ("WHOLE_CHANCE", .int 4096), ("SLOWNESS", .int 32), ("FIRST_WIDTH", .int 4294967296), ("LEAST_WIDTH", .int 16777216), ("FIRST_COUNT", .int 4)]
  mts := [("Interval", [("chance", 10), ("cut", 11), ("narrow", 12), ("state", 13)]), ("Coder", [("put", 15), ("octets", 16), ("state", 17)]), ("Decoder", [("take_octets", 19), ("get", 20), ("state", 21)])]
  news := [("Interval", 9), ("Coder", 14), ("Decoder", 18)]
  flds := [("Interval", ["low", "width", "count", "chances"]), ("Coder", ["interval"]), ("Decoder", ["interval", "source", "taken", "number"])]
  kws := [(7, ["v"], [0]), (4, ["v", "word", "coder"], [2, 1, 0]), (6, ["v"], [0]), (0, ["v", "word", "coder"], [2, 1, 0]), (5, ["word", "decoder"], [1, 0]), (1, ["word", "decoder"], [1, 0])]
abbrev i_put_number : Nat := 0
def b_put_number : IB :=
  (.cons (.asg (.nm 3) (.bin .add (.v 2) (.int 1)))
  (.cons (.asg (.nm 4) (.bin .sub (.bits (.v 3)) (.int 1)))
  (.cons (.for (.rng1 (.v 4)) (.nm 5)
   (.cons (.do (.meth "put" (.v 0) (.cons (.tup (.cons (.v 1) (.cons (.int 0) (.cons (.v 5) .nil)))) (.cons (.int 1) .nil))))
   .nil))
  (.cons (.ite (.val (.cmp .lt (.bin .add (.v 4) (.int 1)) (.con 0)))
   (.cons (.do (.meth "put" (.v 0) (.cons (.tup (.cons (.v 1) (.cons (.int 0) (.cons (.v 4) .nil)))) (.cons (.int 0) .nil))))
   .nil)
   .nil)
  (.cons (.for (.rev (.v 4)) (.nm 6)
   (.cons (.do (.meth "put" (.v 0) (.cons (.tup (.cons (.v 1) (.cons (.int 1) (.cons (.v 6) .nil)))) (.cons (.bin .and1 (.bin .shr (.v 3) (.v 6)) (.int 1)) .nil))))
   .nil))
  .nil)))))
def d_put_number : Df := ⟨("put_number", none), "put_number", "put_number", top 2, ["coder", "word", "v", "number", "behind", "i", "j"], 3, b_put_number⟩
abbrev i_get_number : Nat := 1
def b_get_number : IB :=
  (.cons (.asg (.nm 2) (.int 0))
  (.cons (.wh 1000000 (.all (.cons (.val (.cmp .lt (.bin .add (.v 2) (.int 1)) (.con 0))) (.one (.val (.cmp .eq (.meth "get" (.v 0) (.cons (.tup (.cons (.v 1) (.cons (.int 0) (.cons (.v 2) .nil)))) .nil)) (.int 1))))))
   (.cons (.asg (.nm 2) (.bin .add (.v 2) (.int 1)))
   .nil))
  (.cons (.asg (.nm 3) (.int 1))
  (.cons (.for (.rev (.v 2)) (.nm 4)
   (.cons (.asg (.nm 3) (.bin .add (.bin .mul (.int 2) (.v 3)) (.meth "get" (.v 0) (.cons (.tup (.cons (.v 1) (.cons (.int 1) (.cons (.v 4) .nil)))) .nil))))
   .nil))
  (.cons (.ret (.bin .sub (.v 3) (.int 1)))
  .nil)))))
def d_get_number : Df := ⟨("get_number", none), "get_number", "get_number", top 3, ["decoder", "word", "behind", "number", "j"], 2, b_get_number⟩
abbrev i_folded : Nat := 2
def b_folded : IB :=
  (.cons (.ret (.ite (.val (.cmp .gt (.v 0) (.int 0))) (.bin .sub (.bin .mul (.int 2) (.v 0)) (.int 1)) (.bin .mul (.neg (.int 2)) (.v 0))))
  .nil)
def d_folded : Df := ⟨("folded", none), "folded", "folded", top 4, ["v"], 1, b_folded⟩
abbrev i_unfolded : Nat := 3
def b_unfolded : IB :=
  (.cons (.asg (.nm 1) (.bin .div (.bin .add (.v 0) (.int 1)) (.int 2)))
  (.cons (.ret (.ite (.val (.cmp .eq (.bin .and1 (.v 0) (.int 1)) (.int 1))) (.v 1) (.neg (.v 1))))
  .nil))
def d_unfolded : Df := ⟨("unfolded", none), "unfolded", "unfolded", top 5, ["number", "half"], 1, b_unfolded⟩
abbrev i_put_signed : Nat := 4
def b_put_signed : IB :=
  (.cons (.do (.call 0 (.cons (.v 0) (.cons (.v 1) (.cons (.call 2 (.cons (.v 2) .nil)) .nil)))))
  .nil)
def d_put_signed : Df := ⟨("put_signed", none), "put_signed", "put_signed", top 6, ["coder", "word", "v"], 3, b_put_signed⟩
abbrev i_get_signed : Nat := 5
def b_get_signed : IB :=
  (.cons (.ret (.call 3 (.cons (.call 1 (.cons (.v 0) (.cons (.v 1) .nil))) .nil)))
  .nil)
def d_get_signed : Df := ⟨("get_signed", none), "get_signed", "get_signed", top 7, ["decoder", "word"], 2, b_get_signed⟩
abbrev i_price_of : Nat := 6
def b_price_of : IB :=
  (.cons (.ret (.bin .sub (.bin .mul (.int 2) (.bits (.bin .add (.v 0) (.int 1)))) (.int 1)))
  .nil)
def d_price_of : Df := ⟨("price_of", none), "price_of", "price_of", top 8, ["v"], 1, b_price_of⟩
abbrev i_price_of_signed : Nat := 7
def b_price_of_signed : IB :=
  (.cons (.ret (.call 6 (.cons (.call 2 (.cons (.v 0) .nil)) .nil)))
  .nil)
def d_price_of_signed : Df := ⟨("price_of_signed", none), "price_of_signed", "price_of_signed", top 9, ["v"], 1, b_price_of_signed⟩
abbrev i_figures : Nat := 8
def b_figures : IB :=
  (.cons (.asg (.nm 2) (.own (.lst .nil)))
  (.cons (.asg (.nm 3) (.v 0))
  (.cons (.for (.rng1 (.v 1)) (.nm 4)
   (.cons (.asg (.tp [3, 5]) (.c2 .divmod (.v 3) (.con 1)))
   (.cons (.do (.app (.v 2) (.v 5)))
   .nil)))
  (.cons (.ret (.c1 .tuple (.rev (.v 2))))
  .nil))))
def d_figures : Df := ⟨("figures", none), "figures", "figures", top 12, ["number", "count", "found", "rest", "_", "figure"], 2, b_figures⟩
abbrev i_Interval___init__ : Nat := 9
def b_Interval___init__ : IB :=
  (.cons (.fld (.v 0) "low" (.int 0))
  (.cons (.fld (.v 0) "width" (.con 5))
  (.cons (.fld (.v 0) "count" (.con 7))
  (.cons (.fld (.v 0) "chances" (.dnew true))
  .nil))))
def d_Interval___init__ : Df := ⟨("Interval", some "__init__"), "__init__", "Interval.__init__", inCls (top 20) 0, ["self"], 1, b_Interval___init__⟩
abbrev i_Interval_chance : Nat := 10
def b_Interval_chance : IB :=
  (.cons (.ret (.get2 (.fld (.v 0) "chances") (.v 1) (.con 2)))
  .nil)
def d_Interval_chance : Df := ⟨("Interval", some "chance"), "chance", "Interval.chance", inCls (top 20) 1, ["self", "context"], 2, b_Interval_chance⟩
abbrev i_Interval_cut : Nat := 11
def b_Interval_cut : IB :=
  (.cons (.ret (.bin .mul (.bin .div (.fld (.v 0) "width") (.con 3)) (.meth "chance" (.v 0) (.cons (.v 1) .nil))))
  .nil)
def d_Interval_cut : Df := ⟨("Interval", some "cut"), "cut", "Interval.cut", inCls (top 20) 2, ["self", "context"], 2, b_Interval_cut⟩
abbrev i_Interval_narrow : Nat := 12
def b_Interval_narrow : IB :=
  (.cons (.asg (.nm 3) (.meth "chance" (.v 0) (.cons (.v 1) .nil)))
  (.cons (.asg (.nm 4) (.meth "cut" (.v 0) (.cons (.v 1) .nil)))
  (.cons (.ite (.val (.cmp .eq (.v 2) (.int 0)))
   (.cons (.fld (.v 0) "width" (.v 4))
   (.cons (.ix (.fld (.v 0) "chances") (.v 1) (.bin .add (.v 3) (.bin .div (.bin .sub (.con 3) (.v 3)) (.con 4))))
   .nil))
   (.cons (.fld (.v 0) "low" (.bin .add (.fld (.v 0) "low") (.v 4)))
   (.cons (.fld (.v 0) "width" (.bin .sub (.fld (.v 0) "width") (.v 4)))
   (.cons (.ix (.fld (.v 0) "chances") (.v 1) (.bin .sub (.v 3) (.bin .div (.v 3) (.con 4))))
   .nil))))
  (.cons (.wh 1000000 (.val (.cmp .lt (.fld (.v 0) "width") (.con 6)))
   (.cons (.fld (.v 0) "low" (.bin .mul (.fld (.v 0) "low") (.con 1)))
   (.cons (.fld (.v 0) "width" (.bin .mul (.fld (.v 0) "width") (.con 1)))
   (.cons (.fld (.v 0) "count" (.bin .add (.fld (.v 0) "count") (.int 1)))
   .nil))))
  .nil))))
def d_Interval_narrow : Df := ⟨("Interval", some "narrow"), "narrow", "Interval.narrow", inCls (top 20) 3, ["self", "context", "bit", "chance", "cut"], 3, b_Interval_narrow⟩
abbrev i_Interval_state : Nat := 13
def b_Interval_state : IB :=
  (.cons (.ret (.tup (.cons (.fld (.v 0) "low") (.cons (.fld (.v 0) "width") (.cons (.fld (.v 0) "count") .nil)))))
  .nil)
def d_Interval_state : Df := ⟨("Interval", some "state"), "state", "Interval.state", inCls (top 20) 4, ["self"], 1, b_Interval_state⟩
abbrev i_Coder___init__ : Nat := 14
def b_Coder___init__ : IB :=
  (.cons (.fld (.v 0) "interval" (.new "Interval" 9 .nil))
  .nil)
def d_Coder___init__ : Df := ⟨("Coder", some "__init__"), "__init__", "Coder.__init__", inCls (top 21) 0, ["self"], 1, b_Coder___init__⟩
abbrev i_Coder_put : Nat := 15
def b_Coder_put : IB :=
  (.cons (.do (.meth "narrow" (.fld (.v 0) "interval") (.cons (.v 1) (.cons (.v 2) .nil))))
  .nil)
def d_Coder_put : Df := ⟨("Coder", some "put"), "put", "Coder.put", inCls (top 21) 1, ["self", "context", "bit"], 3, b_Coder_put⟩
abbrev i_Coder_octets : Nat := 16
def b_Coder_octets : IB :=
  (.cons (.asg (.tp [3, 4, 5]) (.meth "state" (.fld (.v 0) "interval") .nil))
  (.cons (.asg (.nm 1) (.v 3))
  (.cons (.asg (.nm 2) (.bin .sub (.bin .add (.v 3) (.v 4)) (.int 1)))
  (.cons (.wh 1000000 (.val (.cmp .gt (.v 5) (.int 0)))
   (.cons (.asg (.nm 6) (.bin .div (.bin .sub (.bin .add (.v 1) (.con 1)) (.int 1)) (.con 1)))
   (.cons (.asg (.nm 7) (.bin .div (.v 2) (.con 1)))
   (.cons (.ite (.val (.cmp .gt (.v 6) (.v 7)))
    (.cons .brk
    .nil)
    .nil)
   (.cons (.asg (.nm 1) (.v 6))
   (.cons (.asg (.nm 2) (.v 7))
   (.cons (.asg (.nm 5) (.bin .sub (.v 5) (.int 1)))
   .nil)))))))
  (.cons (.ret (.call 8 (.cons (.v 1) (.cons (.v 5) .nil))))
  .nil)))))
def d_Coder_octets : Df := ⟨("Coder", some "octets"), "octets", "Coder.octets", inCls (top 21) 2, ["self", "least", "greatest", "low", "width", "count", "shorter_least", "shorter_greatest"], 1, b_Coder_octets⟩
abbrev i_Coder_state : Nat := 17
def b_Coder_state : IB :=
  (.cons (.ret (.meth "state" (.fld (.v 0) "interval") .nil))
  .nil)
def d_Coder_state : Df := ⟨("Coder", some "state"), "state", "Coder.state", inCls (top 21) 3, ["self"], 1, b_Coder_state⟩
abbrev i_Decoder___init__ : Nat := 18
def b_Decoder___init__ : IB :=
  (.cons (.fld (.v 0) "interval" (.new "Interval" 9 .nil))
  (.cons (.fld (.v 0) "source" (.c1 .tuple (.v 1)))
  (.cons (.fld (.v 0) "taken" (.int 0))
  (.cons (.fld (.v 0) "number" (.int 0))
  (.cons (.do (.meth "take_octets" (.v 0) .nil))
  .nil)))))
def d_Decoder___init__ : Df := ⟨("Decoder", some "__init__"), "__init__", "Decoder.__init__", inCls (top 22) 0, ["self", "octets"], 2, b_Decoder___init__⟩
abbrev i_Decoder_take_octets : Nat := 19
def b_Decoder_take_octets : IB :=
  (.cons (.wh 1000000 (.val (.cmp .lt (.fld (.v 0) "taken") (.fld (.fld (.v 0) "interval") "count")))
   (.cons (.asg (.nm 1) (.ite (.val (.cmp .lt (.fld (.v 0) "taken") (.c1 .len (.fld (.v 0) "source")))) (.ix (.fld (.v 0) "source") (.fld (.v 0) "taken")) (.int 0)))
   (.cons (.fld (.v 0) "number" (.bin .add (.bin .mul (.fld (.v 0) "number") (.con 1)) (.v 1)))
   (.cons (.fld (.v 0) "taken" (.bin .add (.fld (.v 0) "taken") (.int 1)))
   .nil))))
  .nil)
def d_Decoder_take_octets : Df := ⟨("Decoder", some "take_octets"), "take_octets", "Decoder.take_octets", inCls (top 22) 1, ["self", "octet"], 1, b_Decoder_take_octets⟩
abbrev i_Decoder_get : Nat := 20
def b_Decoder_get : IB :=
  (.cons (.asg (.nm 2) (.ite (.val (.cmp .lt (.bin .sub (.fld (.v 0) "number") (.fld (.fld (.v 0) "interval") "low")) (.meth "cut" (.fld (.v 0) "interval") (.cons (.v 1) .nil)))) (.int 0) (.int 1)))
  (.cons (.do (.meth "narrow" (.fld (.v 0) "interval") (.cons (.v 1) (.cons (.v 2) .nil))))
  (.cons (.do (.meth "take_octets" (.v 0) .nil))
  (.cons (.ret (.v 2))
  .nil))))
def d_Decoder_get : Df := ⟨("Decoder", some "get"), "get", "Decoder.get", inCls (top 22) 2, ["self", "context", "bit"], 2, b_Decoder_get⟩
abbrev i_Decoder_state : Nat := 21
def b_Decoder_state : IB :=
  (.cons (.ret (.meth "state" (.fld (.v 0) "interval") .nil))
  .nil)
def d_Decoder_state : Df := ⟨("Decoder", some "state"), "state", "Decoder.state", inCls (top 22) 3, ["self"], 1, b_Decoder_state⟩
abbrev i__law_cell : Nat := 22
def b__law_cell : IB :=
  (.cons (.ite (.val (.cmp .lt (.v 1) (.c1 .len (.v 0))))
   (.cons (.ret (.ix (.v 0) (.v 1)))
   .nil)
   .nil)
  (.cons (.ret (.int 0))
  .nil))
def d__law_cell : Df := ⟨("_law_cell", none), "_law_cell", "_law_cell", top 26, ["script", "k"], 2, b__law_cell⟩
abbrev i__law_row : Nat := 23
def b__law_row : IB :=
  (.cons (.asg (.nm 4) (.own (.lst .nil)))
  (.cons (.asg (.nm 5) (.int 0))
  (.cons (.ite (.val (.cmp .ge (.v 0) (.bin .pow (.int 10) (.int 18))))
   (.cons (.asg (.nm 5) (.v 0))
   .nil)
   .nil)
  (.cons (.for (.rng1 (.v 1)) (.nm 6)
   (.cons (.ite (.val (.cmp .gt (.v 5) (.int 0)))
    (.cons (.do (.app (.v 4) (.bin .mod (.c1 .int (.v 5)) (.v 2))))
    (.cons (.asg (.nm 5) (.bin .div (.v 5) (.v 2)))
    .nil))
    (.cons (.asg (.nm 7) (.bin .mod (.c1 .int (.bin .add (.bin .add (.bin .mul (.v 0) (.int 48271)) (.bin .mul (.v 6) (.int 69621))) (.v 3))) (.int 2147483647)))
    (.cons (.asg (.nm 8) (.bin .mod (.c1 .int (.bin .add (.bin .add (.bin .mul (.v 7) (.v 7)) (.v 0)) (.bin .mul (.v 6) (.int 40692)))) (.int 2147483629)))
    (.cons (.do (.app (.v 4) (.bin .mod (.c1 .int (.bin .div (.bin .add (.bin .mul (.v 8) (.int 2147483647)) (.v 7)) (.int 16))) (.v 2))))
    .nil))))
   .nil))
  (.cons (.ret (.frz 1 (.v 4)))
  .nil)))))
def d__law_row : Df := ⟨("_law_row", none), "_law_row", "_law_row", top 27, ["cell", "many", "base", "salt", "row", "left", "k", "first", "second"], 4, b__law_row⟩
abbrev i__law_put : Nat := 24
def b__law_put : IB :=
  (.cons (.asg (.nm 4) (.ix (.v 0) (.int 0)))
  (.cons (.asg (.nm 5) (.ix (.v 0) (.int 1)))
  (.cons (.asg (.nm 6) (.ix (.v 0) (.int 2)))
  (.cons (.asg (.nm 7) (.get2 (.v 1) (.v 2) (.int 2048)))
  (.cons (.asg (.nm 8) (.bin .mul (.bin .div (.v 5) (.int 4096)) (.v 7)))
  (.cons (.ite (.val (.cmp .eq (.v 3) (.int 0)))
   (.cons (.asg (.nm 5) (.v 8))
   (.cons (.ix (.v 1) (.v 2) (.bin .add (.v 7) (.bin .div (.bin .sub (.int 4096) (.v 7)) (.int 32))))
   .nil))
   (.cons (.asg (.nm 4) (.bin .add (.v 4) (.v 8)))
   (.cons (.asg (.nm 5) (.bin .sub (.v 5) (.v 8)))
   (.cons (.ix (.v 1) (.v 2) (.bin .sub (.v 7) (.bin .div (.v 7) (.int 32))))
   .nil))))
  (.cons (.for (.rng1 (.int 2)) (.nm 9)
   (.cons (.ite (.val (.cmp .lt (.v 5) (.bin .pow (.int 2) (.int 24))))
    (.cons (.asg (.nm 4) (.bin .mul (.v 4) (.int 256)))
    (.cons (.asg (.nm 5) (.bin .mul (.v 5) (.int 256)))
    (.cons (.asg (.nm 6) (.bin .add (.v 6) (.int 1)))
    .nil)))
    .nil)
   .nil))
  (.cons (.ret (.tup (.cons (.v 4) (.cons (.v 5) (.cons (.v 6) .nil)))))
  .nil))))))))
def d__law_put : Df := ⟨("_law_put", none), "_law_put", "_law_put", top 28, ["state", "chances", "context", "bit", "low", "width", "count", "chance", "part", "turn"], 4, b__law_put⟩
abbrev i__law_octets : Nat := 25
def b__law_octets : IB :=
  (.cons (.asg (.nm 1) (.ix (.v 0) (.int 0)))
  (.cons (.asg (.nm 2) (.int 1))
  (.cons (.asg (.nm 3) (.ix (.v 0) (.int 2)))
  (.cons (.for (.rng1 (.ix (.v 0) (.int 2))) (.nm 4)
   (.cons (.asg (.nm 6) (.bin .mul (.v 2) (.int 256)))
   (.cons (.asg (.nm 7) (.bin .div (.bin .sub (.bin .add (.ix (.v 0) (.int 0)) (.v 6)) (.int 1)) (.v 6)))
   (.cons (.ite (.val (.cmp .ge (.bin .mul (.v 7) (.v 6)) (.bin .add (.ix (.v 0) (.int 0)) (.ix (.v 0) (.int 1)))))
    (.cons .brk
    .nil)
    .nil)
   (.cons (.asg (.nm 1) (.v 7))
   (.cons (.asg (.nm 2) (.v 6))
   (.cons (.asg (.nm 3) (.bin .sub (.v 3) (.int 1)))
   .nil)))))))
  (.cons (.asg (.nm 5) (.lst .nil))
  (.cons (.for (.rng1 (.v 3)) (.nm 4)
   (.cons (.asg (.nm 5) (.bin .add (.lst (.cons (.bin .mod (.c1 .int (.v 1)) (.int 256)) .nil)) (.v 5)))
   (.cons (.asg (.nm 1) (.bin .div (.v 1) (.int 256)))
   .nil)))
  (.cons (.ret (.c1 .tuple (.v 5)))
  .nil)))))))
def d__law_octets : Df := ⟨("_law_octets", none), "_law_octets", "_law_octets", top 29, ["state", "number", "unit", "many", "turn", "figures_v", "greater", "least"], 1, b__law_octets⟩
abbrev i__law_alike : Nat := 26
def b__law_alike : IB :=
  (.cons (.ite (.any (.cons (.not (.val (.isi .tuple (.v 0)))) (.one (.val (.cmp .ne (.c1 .len (.v 0)) (.c1 .len (.v 1)))))))
   (.cons (.ret (.bl false))
   .nil)
   .nil)
  (.cons (.for (.rng1 (.c1 .len (.v 1))) (.nm 2)
   (.cons (.ite (.any (.cons (.not (.val (.isi .int (.ix (.v 0) (.v 2))))) (.cons (.val (.isi .bool (.ix (.v 0) (.v 2)))) (.one (.val (.cmp .ne (.ix (.v 0) (.v 2)) (.ix (.v 1) (.v 2))))))))
    (.cons (.ret (.bl false))
    .nil)
    .nil)
   .nil))
  (.cons (.ret (.bl true))
  .nil)))
def d__law_alike : Df := ⟨("_law_alike", none), "_law_alike", "_law_alike", top 30, ["given", "due", "k"], 2, b__law_alike⟩
abbrev i__law_is : Nat := 27
def b__law_is : IB :=
  (.cons (.ret (.and (.isi .int (.v 0)) (.and (.not (.isi .bool (.v 0))) (.one (.cmp .eq (.v 0) (.v 1))))))
  .nil)
def d__law_is : Df := ⟨("_law_is", none), "_law_is", "_law_is", top 31, ["given", "due"], 2, b__law_is⟩
abbrev i__law_words : Nat := 28
def b__law_words : IB :=
  (.cons (.asg (.nm 2) (.str "abcdefghijklmnopqrstuvwxyza"))
  (.cons (.asg (.nm 3) (.call 23 (.cons (.call 22 (.cons (.v 0) (.cons (.int 1) .nil))) (.cons (.int 8) (.cons (.int 26) (.cons (.int 19) .nil))))))
  (.cons (.asg (.nm 4) (.str ""))
  (.cons (.for (.rng1 (.bin .add (.int 1) (.bin .mod (.c1 .int (.ix (.v 1) (.int 1))) (.int 8)))) (.nm 5)
   (.cons (.asg (.nm 4) (.bin .add (.v 4) (.ix (.v 2) (.ix (.v 3) (.v 5)))))
   .nil))
  (.cons (.asg (.nm 6) (.bin .mod (.c1 .int (.ix (.v 1) (.int 2))) (.c1 .len (.v 4))))
  (.cons (.asg (.nm 7) (.bin .add (.bin .add (.sl (.v 4) .non (.some (.v 6))) (.ix (.v 2) (.bin .add (.sidx (.v 2) (.ix (.v 4) (.v 6))) (.int 1)))) (.sl (.v 4) (.some (.bin .add (.v 6) (.int 1))) .non)))
  (.cons (.asg (.nm 8) (.sl (.v 4) .non (.some (.neg (.int 1)))))
  (.cons (.ite (.val (.cmp .eq (.c1 .len (.v 4)) (.int 1)))
   (.cons (.asg (.nm 8) (.bin .add (.v 4) (.v 4)))
   .nil)
   .nil)
  (.cons (.ret (.lst (.cons (.v 4) (.cons (.v 7) (.cons (.v 8) .nil)))))
  .nil)))))))))
def d__law_words : Df := ⟨("_law_words", none), "_law_words", "_law_words", top 32, ["script", "heads", "letters", "marks", "word", "k", "at", "changed", "shorter"], 2, b__law_words⟩
abbrev i__law_number : Nat := 29
def b__law_number : IB :=
  (.cons (.asg (.nm 1) (.bin .add (.bin .mul (.int 65535) (.ix (.v 0) (.int 2))) (.ix (.v 0) (.int 3))))
  (.cons (.asg (.nm 2) (.int 1))
  (.cons (.for (.rng1 (.bin .add (.int 1) (.bin .mod (.c1 .int (.ix (.v 0) (.int 4))) (.int 15)))) (.nm 3)
   (.cons (.asg (.nm 2) (.bin .mul (.v 2) (.int 2)))
   .nil))
  (.cons (.asg (.nm 4) (.bin .mod (.c1 .int (.ix (.v 0) (.int 5))) (.int 6)))
  (.cons (.ite (.val (.cmp .eq (.v 4) (.int 0)))
   (.cons (.ret (.bin .mod (.c1 .int (.v 1)) (.int 65535)))
   .nil)
   .nil)
  (.cons (.ite (.val (.cmp .lt (.v 4) (.int 3)))
   (.cons (.ret (.bin .sub (.v 2) (.v 4)))
   .nil)
   .nil)
  (.cons (.ite (.val (.cmp .eq (.v 4) (.int 3)))
   (.cons (.ret (.ix (.lst (.cons (.int 0) (.cons (.int 65534) (.cons (.int 65533) (.cons (.int 32767) (.cons (.int 32766) (.cons (.int 1) .nil))))))) (.bin .mod (.c1 .int (.ix (.v 0) (.int 4))) (.int 6))))
   .nil)
   .nil)
  (.cons (.ret (.bin .mod (.c1 .int (.v 1)) (.c2 .min (.int 65535) (.bin .mul (.int 2) (.v 2)))))
  .nil))))))))
def d__law_number : Df := ⟨("_law_number", none), "_law_number", "_law_number", top 33, ["marks", "great", "power", "k", "way"], 1, b__law_number⟩
abbrev i__law_things : Nat := 30
def b__law_things : IB :=
  (.cons (.asg (.nm 2) (.call 28 (.cons (.v 0) (.cons (.v 1) .nil))))
  (.cons (.asg (.nm 3) (.own (.lst .nil)))
  (.cons (.for (.rng1 (.bin .add (.int 1) (.bin .mod (.c1 .int (.ix (.v 1) (.int 0))) (.int 10)))) (.nm 4)
   (.cons (.asg (.nm 5) (.call 23 (.cons (.call 22 (.cons (.v 0) (.cons (.bin .add (.int 2) (.v 4)) .nil))) (.cons (.int 6) (.cons (.int 65535) (.cons (.bin .add (.int 300) (.v 4)) .nil))))))
   (.cons (.asg (.nm 6) (.call 29 (.cons (.v 5) .nil)))
   (.cons (.do (.app (.v 3) (.lst (.cons (.ix (.lst (.cons (.str "number") (.cons (.str "signed") (.cons (.str "number") (.cons (.str "signed") (.cons (.str "single") .nil)))))) (.bin .mod (.c1 .int (.ix (.v 5) (.int 0))) (.int 5))) (.cons (.ix (.v 2) (.bin .mod (.c1 .int (.ix (.v 5) (.int 1))) (.int 3))) (.cons (.v 6) (.cons (.bin .mod (.bin .div (.c1 .int (.ix (.v 5) (.int 0))) (.int 5)) (.int 2)) (.cons (.bin .mod (.c1 .int (.ix (.v 5) (.int 4))) (.int 16)) .nil))))))))
   .nil))))
  (.cons (.ret (.frz 1 (.v 3)))
  .nil))))
def d__law_things : Df := ⟨("_law_things", none), "_law_things", "_law_things", top 34, ["script", "heads", "words", "things", "k", "marks", "number"], 2, b__law_things⟩
abbrev i__law_size : Nat := 31
def b__law_size : IB :=
  (.cons (.asg (.nm 1) (.int 0))
  (.cons (.asg (.nm 2) (.bin .add (.v 0) (.int 1)))
  (.cons (.for (.rng1 (.int 16)) (.nm 3)
   (.cons (.ite (.val (.cmp .gt (.v 2) (.int 0)))
    (.cons (.asg (.nm 1) (.bin .add (.v 1) (.int 1)))
    .nil)
    .nil)
   (.cons (.asg (.nm 2) (.bin .div (.v 2) (.int 2)))
   .nil)))
  (.cons (.ret (.v 1))
  .nil))))
def d__law_size : Df := ⟨("_law_size", none), "_law_size", "_law_size", top 35, ["number", "size", "rest", "turn"], 1, b__law_size⟩
abbrev i__law_bits : Nat := 32
def b__law_bits : IB :=
  (.cons (.asg (.nm 1) (.ix (.v 0) (.int 1)))
  (.cons (.ite (.val (.cmp .eq (.ix (.v 0) (.int 0)) (.str "single")))
   (.cons (.ret (.lst (.cons (.tup (.cons (.tup (.cons (.v 1) (.cons (.ix (.v 0) (.int 3)) (.cons (.ix (.v 0) (.int 4)) .nil)))) (.cons (.bin .mod (.c1 .int (.ix (.v 0) (.int 2))) (.int 2)) .nil))) .nil)))
   .nil)
   .nil)
  (.cons (.asg (.nm 2) (.call 31 (.cons (.ix (.v 0) (.int 2)) .nil)))
  (.cons (.setLc 3 .own (.one [7] (.rng1 (.bin .sub (.v 2) (.int 1))) (.nm 7) .yes (.tup (.cons (.tup (.cons (.v 1) (.cons (.int 0) (.cons (.v 7) .nil)))) (.cons (.int 1) .nil)))))
  (.cons (.ite (.val (.cmp .lt (.v 2) (.int 16)))
   (.cons (.do (.app (.v 3) (.tup (.cons (.tup (.cons (.v 1) (.cons (.int 0) (.cons (.bin .sub (.v 2) (.int 1)) .nil)))) (.cons (.int 0) .nil)))))
   .nil)
   .nil)
  (.cons (.asg (.nm 4) (.lst .nil))
  (.cons (.asg (.nm 5) (.bin .add (.ix (.v 0) (.int 2)) (.int 1)))
  (.cons (.for (.rng1 (.bin .sub (.v 2) (.int 1))) (.nm 6)
   (.cons (.asg (.nm 4) (.bin .add (.lst (.cons (.tup (.cons (.tup (.cons (.v 1) (.cons (.int 1) (.cons (.v 6) .nil)))) (.cons (.bin .mod (.c1 .int (.v 5)) (.int 2)) .nil))) .nil)) (.v 4)))
   (.cons (.asg (.nm 5) (.bin .div (.v 5) (.int 2)))
   .nil)))
  (.cons (.ret (.bin .add (.v 3) (.v 4)))
  .nil)))))))))
def d__law_bits : Df := ⟨("_law_bits", none), "_law_bits", "_law_bits", top 36, ["thing", "word", "size", "bits", "figures_v", "rest", "j", "i"], 1, b__law_bits⟩
abbrev i__law_signed : Nat := 33
def b__law_signed : IB :=
  (.cons (.ite (.val (.cmp .eq (.bin .mod (.c1 .int (.v 0)) (.int 2)) (.int 1)))
   (.cons (.ret (.bin .div (.bin .add (.v 0) (.int 1)) (.int 2)))
   .nil)
   .nil)
  (.cons (.ret (.neg (.bin .div (.v 0) (.int 2))))
  .nil))
def d__law_signed : Df := ⟨("_law_signed", none), "_law_signed", "_law_signed", top 37, ["number"], 1, b__law_signed⟩
abbrev i__law_put_thing : Nat := 34
def b__law_put_thing : IB :=
  (.cons (.asg (.nm 2) (.bin .sub (.bin .mul (.int 2) (.call 31 (.cons (.ix (.v 1) (.int 2)) .nil))) (.int 1)))
  (.cons (.ite (.val (.cmp .eq (.ix (.v 1) (.int 0)) (.str "number")))
   (.cons (.ite (.val (.cmp .eq (.ix (.v 1) (.int 3)) (.int 1)))
    (.cons (.ret (.and (.isN false (.callK 0 ["v", "word", "coder"] [2, 1, 0] (.cons (.ix (.v 1) (.int 2)) (.cons (.ix (.v 1) (.int 1)) (.cons (.v 0) .nil))))) (.one (.call 27 (.cons (.callK 6 ["v"] [0] (.cons (.ix (.v 1) (.int 2)) .nil)) (.cons (.v 2) .nil))))))
    .nil)
    .nil)
   (.cons (.ret (.and (.isN false (.call 0 (.cons (.v 0) (.cons (.ix (.v 1) (.int 1)) (.cons (.ix (.v 1) (.int 2)) .nil))))) (.one (.call 27 (.cons (.call 6 (.cons (.ix (.v 1) (.int 2)) .nil)) (.cons (.v 2) .nil))))))
   .nil))
   .nil)
  (.cons (.ite (.val (.cmp .eq (.ix (.v 1) (.int 0)) (.str "signed")))
   (.cons (.asg (.nm 3) (.call 33 (.cons (.ix (.v 1) (.int 2)) .nil)))
   (.cons (.ite (.val (.cmp .eq (.ix (.v 1) (.int 3)) (.int 1)))
    (.cons (.asg (.nm 4) (.isN false (.callK 4 ["v", "word", "coder"] [2, 1, 0] (.cons (.v 3) (.cons (.ix (.v 1) (.int 1)) (.cons (.v 0) .nil))))))
    (.cons (.ret (.and (.v 4) (.one (.call 27 (.cons (.callK 7 ["v"] [0] (.cons (.v 3) .nil)) (.cons (.v 2) .nil))))))
    .nil))
    .nil)
   (.cons (.ret (.and (.isN false (.call 4 (.cons (.v 0) (.cons (.ix (.v 1) (.int 1)) (.cons (.v 3) .nil))))) (.one (.call 27 (.cons (.call 7 (.cons (.v 3) .nil)) (.cons (.v 2) .nil))))))
   .nil)))
   .nil)
  (.cons (.ret (.isN false (.meth "put" (.v 0) (.cons (.tup (.cons (.ix (.v 1) (.int 1)) (.cons (.ix (.v 1) (.int 3)) (.cons (.ix (.v 1) (.int 4)) .nil)))) (.cons (.bin .mod (.c1 .int (.ix (.v 1) (.int 2))) (.int 2)) .nil)))))
  .nil))))
def d__law_put_thing : Df := ⟨("_law_put_thing", none), "_law_put_thing", "_law_put_thing", top 38, ["coder", "thing", "price", "signed", "done"], 2, b__law_put_thing⟩
abbrev i__law_got : Nat := 35
def b__law_got : IB :=
  (.cons (.ite (.all (.cons (.val (.cmp .eq (.ix (.v 1) (.int 0)) (.str "number"))) (.one (.val (.cmp .eq (.ix (.v 1) (.int 3)) (.int 1))))))
   (.cons (.ret (.call 27 (.cons (.callK 1 ["word", "decoder"] [1, 0] (.cons (.ix (.v 1) (.int 1)) (.cons (.v 0) .nil))) (.cons (.ix (.v 1) (.int 2)) .nil))))
   .nil)
   .nil)
  (.cons (.ite (.val (.cmp .eq (.ix (.v 1) (.int 0)) (.str "number")))
   (.cons (.ret (.call 27 (.cons (.call 1 (.cons (.v 0) (.cons (.ix (.v 1) (.int 1)) .nil))) (.cons (.ix (.v 1) (.int 2)) .nil))))
   .nil)
   .nil)
  (.cons (.ite (.all (.cons (.val (.cmp .eq (.ix (.v 1) (.int 0)) (.str "signed"))) (.one (.val (.cmp .eq (.ix (.v 1) (.int 3)) (.int 1))))))
   (.cons (.ret (.call 27 (.cons (.callK 5 ["word", "decoder"] [1, 0] (.cons (.ix (.v 1) (.int 1)) (.cons (.v 0) .nil))) (.cons (.call 33 (.cons (.ix (.v 1) (.int 2)) .nil)) .nil))))
   .nil)
   .nil)
  (.cons (.ite (.val (.cmp .eq (.ix (.v 1) (.int 0)) (.str "signed")))
   (.cons (.ret (.call 27 (.cons (.call 5 (.cons (.v 0) (.cons (.ix (.v 1) (.int 1)) .nil))) (.cons (.call 33 (.cons (.ix (.v 1) (.int 2)) .nil)) .nil))))
   .nil)
   .nil)
  (.cons (.ret (.call 27 (.cons (.meth "get" (.v 0) (.cons (.tup (.cons (.ix (.v 1) (.int 1)) (.cons (.ix (.v 1) (.int 3)) (.cons (.ix (.v 1) (.int 4)) .nil)))) .nil)) (.cons (.bin .mod (.c1 .int (.ix (.v 1) (.int 2))) (.int 2)) .nil))))
  .nil)))))
def d__law_got : Df := ⟨("_law_got", none), "_law_got", "_law_got", top 39, ["decoder", "thing"], 2, b__law_got⟩
abbrev i__law_whole : Nat := 36
def b__law_whole : IB :=
  (.cons (.asg (.nm 1) (.call 30 (.cons (.v 0) (.cons (.call 23 (.cons (.call 22 (.cons (.v 0) (.cons (.int 0) .nil))) (.cons (.int 3) (.cons (.int 240) (.cons (.int 3) .nil))))) .nil))))
  (.cons (.asg (.nm 2) (.new "Coder" 14 .nil))
  (.cons (.asg (.nm 3) (.tup (.cons (.int 0) (.cons (.bin .pow (.int 2) (.int 32)) (.cons (.int 4) .nil)))))
  (.cons (.asg (.nm 4) (.dnew true))
  (.cons (.for (.seq (.v 1)) (.nm 5)
   (.cons (.ite (.not (.val (.call 34 (.cons (.v 2) (.cons (.v 5) .nil)))))
    (.cons (.ret (.bl false))
    .nil)
    .nil)
   (.cons (.for (.seq (.call 32 (.cons (.v 5) .nil))) (.tp [7, 8])
    (.cons (.asg (.nm 3) (.call 24 (.cons (.v 3) (.cons (.v 4) (.cons (.v 7) (.cons (.v 8) .nil))))))
    .nil))
   (.cons (.ite (.not (.val (.call 26 (.cons (.meth "state" (.v 2) .nil) (.cons (.v 3) .nil)))))
    (.cons (.ret (.bl false))
    .nil)
    .nil)
   .nil))))
  (.cons (.asg (.nm 6) (.new "Decoder" 18 (.cons (.call 25 (.cons (.v 3) .nil)) .nil)))
  (.cons (.for (.seq (.v 1)) (.nm 5)
   (.cons (.ite (.not (.val (.call 35 (.cons (.v 6) (.cons (.v 5) .nil)))))
    (.cons (.ret (.bl false))
    .nil)
    .nil)
   .nil))
  (.cons (.ret (.call 26 (.cons (.meth "state" (.v 6) .nil) (.cons (.v 3) .nil))))
  .nil))))))))
def d__law_whole : Df := ⟨("_law_whole", none), "_law_whole", "_law_whole", top 40, ["script", "things", "coder", "state", "chances", "thing", "decoder", "context", "bit"], 1, b__law_whole⟩
abbrev i_law : Nat := 37
def b_law : IB :=
  (.cons (.tryN
   (.cons (.ret (.call 36 (.cons (.v 0) .nil)))
   .nil))
  .nil)
def d_law : Df := ⟨("law", none), "law", "law", top 41, ["script"], 1, b_law⟩
def ds : List Df := [d_put_number, d_get_number, d_folded, d_unfolded, d_put_signed, d_get_signed, d_price_of, d_price_of_signed, d_figures, d_Interval___init__, d_Interval_chance, d_Interval_cut, d_Interval_narrow, d_Interval_state, d_Coder___init__, d_Coder_put, d_Coder_octets, d_Coder_state, d_Decoder___init__, d_Decoder_take_octets, d_Decoder_get, d_Decoder_state, d__law_cell, d__law_row, d__law_put, d__law_octets, d__law_alike, d__law_is, d__law_words, d__law_number, d__law_things, d__law_size, d__law_bits, d__law_signed, d__law_put_thing, d__law_got, d__law_whole, d_law]
theorem ok0 : d_put_number.ok tb = true := by decide +kernel
theorem bnd0 : d_put_number.Bnd := fun _ _ _ _ _ _ us hl => match us, hl with | [_, _, _], _ => rfl
theorem ok1 : d_get_number.ok tb = true := by decide +kernel
theorem bnd1 : d_get_number.Bnd := fun _ _ _ _ _ _ us hl => match us, hl with | [_, _], _ => rfl
theorem ok2 : d_folded.ok tb = true := by decide +kernel
theorem bnd2 : d_folded.Bnd := fun _ _ _ _ _ _ us hl => match us, hl with | [_], _ => rfl
theorem ok3 : d_unfolded.ok tb = true := by decide +kernel
theorem bnd3 : d_unfolded.Bnd := fun _ _ _ _ _ _ us hl => match us, hl with | [_], _ => rfl
theorem ok4 : d_put_signed.ok tb = true := by decide +kernel
theorem bnd4 : d_put_signed.Bnd := fun _ _ _ _ _ _ us hl => match us, hl with | [_, _, _], _ => rfl
theorem ok5 : d_get_signed.ok tb = true := by decide +kernel
theorem bnd5 : d_get_signed.Bnd := fun _ _ _ _ _ _ us hl => match us, hl with | [_, _], _ => rfl
theorem ok6 : d_price_of.ok tb = true := by decide +kernel
theorem bnd6 : d_price_of.Bnd := fun _ _ _ _ _ _ us hl => match us, hl with | [_], _ => rfl
theorem ok7 : d_price_of_signed.ok tb = true := by decide +kernel
theorem bnd7 : d_price_of_signed.Bnd := fun _ _ _ _ _ _ us hl => match us, hl with | [_], _ => rfl
theorem ok8 : d_figures.ok tb = true := by decide +kernel
theorem bnd8 : d_figures.Bnd := fun _ _ _ _ _ _ us hl => match us, hl with | [_, _], _ => rfl
theorem ok9 : d_Interval___init__.ok tb = true := by decide +kernel
theorem bnd9 : d_Interval___init__.Bnd := fun _ _ _ _ _ _ us hl => match us, hl with | [_], _ => rfl
theorem ok10 : d_Interval_chance.ok tb = true := by decide +kernel
theorem bnd10 : d_Interval_chance.Bnd := fun _ _ _ _ _ _ us hl => match us, hl with | [_, _], _ => rfl
theorem ok11 : d_Interval_cut.ok tb = true := by decide +kernel
theorem bnd11 : d_Interval_cut.Bnd := fun _ _ _ _ _ _ us hl => match us, hl with | [_, _], _ => rfl
theorem ok12 : d_Interval_narrow.ok tb = true := by decide +kernel
theorem bnd12 : d_Interval_narrow.Bnd := fun _ _ _ _ _ _ us hl => match us, hl with | [_, _, _], _ => rfl
theorem ok13 : d_Interval_state.ok tb = true := by decide +kernel
theorem bnd13 : d_Interval_state.Bnd := fun _ _ _ _ _ _ us hl => match us, hl with | [_], _ => rfl
theorem ok14 : d_Coder___init__.ok tb = true := by decide +kernel
theorem bnd14 : d_Coder___init__.Bnd := fun _ _ _ _ _ _ us hl => match us, hl with | [_], _ => rfl
theorem ok15 : d_Coder_put.ok tb = true := by decide +kernel
theorem bnd15 : d_Coder_put.Bnd := fun _ _ _ _ _ _ us hl => match us, hl with | [_, _, _], _ => rfl
theorem ok16 : d_Coder_octets.ok tb = true := by decide +kernel
theorem bnd16 : d_Coder_octets.Bnd := fun _ _ _ _ _ _ us hl => match us, hl with | [_], _ => rfl
theorem ok17 : d_Coder_state.ok tb = true := by decide +kernel
theorem bnd17 : d_Coder_state.Bnd := fun _ _ _ _ _ _ us hl => match us, hl with | [_], _ => rfl
theorem ok18 : d_Decoder___init__.ok tb = true := by decide +kernel
theorem bnd18 : d_Decoder___init__.Bnd := fun _ _ _ _ _ _ us hl => match us, hl with | [_, _], _ => rfl
theorem ok19 : d_Decoder_take_octets.ok tb = true := by decide +kernel
theorem bnd19 : d_Decoder_take_octets.Bnd := fun _ _ _ _ _ _ us hl => match us, hl with | [_], _ => rfl
theorem ok20 : d_Decoder_get.ok tb = true := by decide +kernel
theorem bnd20 : d_Decoder_get.Bnd := fun _ _ _ _ _ _ us hl => match us, hl with | [_, _], _ => rfl
theorem ok21 : d_Decoder_state.ok tb = true := by decide +kernel
theorem bnd21 : d_Decoder_state.Bnd := fun _ _ _ _ _ _ us hl => match us, hl with | [_], _ => rfl
theorem ok22 : d__law_cell.ok tb = true := by decide +kernel
theorem bnd22 : d__law_cell.Bnd := fun _ _ _ _ _ _ us hl => match us, hl with | [_, _], _ => rfl
theorem ok23 : d__law_row.ok tb = true := by decide +kernel
theorem bnd23 : d__law_row.Bnd := fun _ _ _ _ _ _ us hl => match us, hl with | [_, _, _, _], _ => rfl
theorem ok24 : d__law_put.ok tb = true := by decide +kernel
theorem bnd24 : d__law_put.Bnd := fun _ _ _ _ _ _ us hl => match us, hl with | [_, _, _, _], _ => rfl
theorem ok25 : d__law_octets.ok tb = true := by decide +kernel
theorem bnd25 : d__law_octets.Bnd := fun _ _ _ _ _ _ us hl => match us, hl with | [_], _ => rfl
theorem ok26 : d__law_alike.ok tb = true := by decide +kernel
theorem bnd26 : d__law_alike.Bnd := fun _ _ _ _ _ _ us hl => match us, hl with | [_, _], _ => rfl
theorem ok27 : d__law_is.ok tb = true := by decide +kernel
theorem bnd27 : d__law_is.Bnd := fun _ _ _ _ _ _ us hl => match us, hl with | [_, _], _ => rfl
theorem ok28 : d__law_words.ok tb = true := by decide +kernel
theorem bnd28 : d__law_words.Bnd := fun _ _ _ _ _ _ us hl => match us, hl with | [_, _], _ => rfl
theorem ok29 : d__law_number.ok tb = true := by decide +kernel
theorem bnd29 : d__law_number.Bnd := fun _ _ _ _ _ _ us hl => match us, hl with | [_], _ => rfl
theorem ok30 : d__law_things.ok tb = true := by decide +kernel
theorem bnd30 : d__law_things.Bnd := fun _ _ _ _ _ _ us hl => match us, hl with | [_, _], _ => rfl
theorem ok31 : d__law_size.ok tb = true := by decide +kernel
theorem bnd31 : d__law_size.Bnd := fun _ _ _ _ _ _ us hl => match us, hl with | [_], _ => rfl
theorem ok32 : d__law_bits.ok tb = true := by decide +kernel
theorem bnd32 : d__law_bits.Bnd := fun _ _ _ _ _ _ us hl => match us, hl with | [_], _ => rfl
theorem ok33 : d__law_signed.ok tb = true := by decide +kernel
theorem bnd33 : d__law_signed.Bnd := fun _ _ _ _ _ _ us hl => match us, hl with | [_], _ => rfl
theorem ok34 : d__law_put_thing.ok tb = true := by decide +kernel
theorem bnd34 : d__law_put_thing.Bnd := fun _ _ _ _ _ _ us hl => match us, hl with | [_, _], _ => rfl
theorem ok35 : d__law_got.ok tb = true := by decide +kernel
theorem bnd35 : d__law_got.Bnd := fun _ _ _ _ _ _ us hl => match us, hl with | [_, _], _ => rfl
theorem ok36 : d__law_whole.ok tb = true := by decide +kernel
theorem bnd36 : d__law_whole.Bnd := fun _ _ _ _ _ _ us hl => match us, hl with | [_], _ => rfl
theorem ok37 : d_law.ok tb = true := by decide +kernel
theorem bnd37 : d_law.Bnd := fun _ _ _ _ _ _ us hl => match us, hl with | [_], _ => rfl
theorem all_ok : ∀ d ∈ ds, d.ok tb = true ∧ d.Bnd := fun d h => by
  simp only [ds, List.mem_cons, List.not_mem_nil, or_false] at h
  rcases h with rfl | rfl | rfl | rfl | rfl | rfl | rfl | rfl | rfl | rfl | rfl | rfl | rfl | rfl | rfl | rfl | rfl | rfl | rfl | rfl | rfl | rfl | rfl | rfl | rfl | rfl | rfl | rfl | rfl | rfl | rfl | rfl | rfl | rfl | rfl | rfl | rfl | rfl
  · exact ⟨ok0, bnd0⟩
  · exact ⟨ok1, bnd1⟩
  · exact ⟨ok2, bnd2⟩
  · exact ⟨ok3, bnd3⟩
  · exact ⟨ok4, bnd4⟩
  · exact ⟨ok5, bnd5⟩
  · exact ⟨ok6, bnd6⟩
  · exact ⟨ok7, bnd7⟩
  · exact ⟨ok8, bnd8⟩
  · exact ⟨ok9, bnd9⟩
  · exact ⟨ok10, bnd10⟩
  · exact ⟨ok11, bnd11⟩
  · exact ⟨ok12, bnd12⟩
  · exact ⟨ok13, bnd13⟩
  · exact ⟨ok14, bnd14⟩
  · exact ⟨ok15, bnd15⟩
  · exact ⟨ok16, bnd16⟩
  · exact ⟨ok17, bnd17⟩
  · exact ⟨ok18, bnd18⟩
  · exact ⟨ok19, bnd19⟩
  · exact ⟨ok20, bnd20⟩
  · exact ⟨ok21, bnd21⟩
  · exact ⟨ok22, bnd22⟩
  · exact ⟨ok23, bnd23⟩
  · exact ⟨ok24, bnd24⟩
  · exact ⟨ok25, bnd25⟩
  · exact ⟨ok26, bnd26⟩
  · exact ⟨ok27, bnd27⟩
  · exact ⟨ok28, bnd28⟩
  · exact ⟨ok29, bnd29⟩
  · exact ⟨ok30, bnd30⟩
  · exact ⟨ok31, bnd31⟩
  · exact ⟨ok32, bnd32⟩
  · exact ⟨ok33, bnd33⟩
  · exact ⟨ok34, bnd34⟩
  · exact ⟨ok35, bnd35⟩
  · exact ⟨ok36, bnd36⟩
  · exact ⟨ok37, bnd37⟩
theorem all_kb : ∀ r ∈ tb.kws, ∀ d, ds[r.1]? = some d → d.KBnd r.2.1 r.2.2 := fun r h d hd => by
  simp only [tb, List.mem_cons, List.not_mem_nil, or_false] at h
  rcases h with rfl | rfl | rfl | rfl | rfl | rfl
  · obtain rfl : d_price_of_signed = d := Option.some.inj hd
    exact ⟨by decide +kernel, fun _ _ _ _ _ _ us ws h1 h2 => match us, ws, h1, h2 with | [], [_], _, _ => rfl⟩
  · obtain rfl : d_put_signed = d := Option.some.inj hd
    exact ⟨by decide +kernel, fun _ _ _ _ _ _ us ws h1 h2 => match us, ws, h1, h2 with | [], [_, _, _], _, _ => rfl⟩
  · obtain rfl : d_price_of = d := Option.some.inj hd
    exact ⟨by decide +kernel, fun _ _ _ _ _ _ us ws h1 h2 => match us, ws, h1, h2 with | [], [_], _, _ => rfl⟩
  · obtain rfl : d_put_number = d := Option.some.inj hd
    exact ⟨by decide +kernel, fun _ _ _ _ _ _ us ws h1 h2 => match us, ws, h1, h2 with | [], [_, _, _], _, _ => rfl⟩
  · obtain rfl : d_get_signed = d := Option.some.inj hd
    exact ⟨by decide +kernel, fun _ _ _ _ _ _ us ws h1 h2 => match us, ws, h1, h2 with | [], [_, _], _, _ => rfl⟩
  · obtain rfl : d_get_number = d := Option.some.inj hd
    exact ⟨by decide +kernel, fun _ _ _ _ _ _ us ws h1 h2 => match us, ws, h1, h2 with | [], [_, _], _, _ => rfl⟩
theorem st : stB tb ds = true := by decide +kernel
abbrev lawI : Nat := 37
def nm0 : List PySem.Str := ["MOST_FIGURES", "put_number", "get_number", "folded", "unfolded", "put_signed", "get_signed", "price_of", "price_of_signed", "OCTET_LIMIT", "figures", "EVEN_CHANCE", "WHOLE_CHANCE", "SLOWNESS", "FIRST_WIDTH", "LEAST_WIDTH", "FIRST_COUNT", "Interval", "Coder", "Decoder", "TideError", "_law_cell", "_law_row", "_law_put", "_law_octets", "_law_alike", "_law_is", "_law_words", "_law_number", "_law_things"]
def nm1 : List PySem.Str := ["_law_size", "_law_bits", "_law_signed", "_law_put_thing", "_law_got", "_law_whole"]
abbrev loose : List PySem.Str := nm0 ++ nm1
abbrev R : PySem.W.OpenRow := PySem.W.OpenLaw.row PySem.Challenge.rw_picturetide_k11_numbers
abbrev fa : List He.Fa := faOf tb
abbrev fn : List He.DefD := ds.map Df.d
abbrev hk : PySem.W.Hook := He.hookX 6 fa fn [] [] (exB tb)
def ob (s : PySem.W.SharedT) : He.AlX := He.obsX 6 fa fn [] [] (exB tb) (HandSHeadRun.getT s)
theorem ob_eq (s : PySem.W.SharedT) : ob s = hk.obs s.abs := He.obsX_eq (HandSHeadRun.getT_eq s)
theorem run (w : World) : HandSHeadRun.RunEq R (PySem.W.view R.prog [41]) hk ob 20000 loose w := by
  intro os
  kernel_rfl
theorem law_d : ds[lawI]? = some d_law := rfl
end L11
open PySem PySem.W PySem.Calls PyProof.Rows
theorem L11.holds (L : Nat) (hL : L2.Room L callerA) (hM : Mp.LawM L11.tb L11.ds L L11.lawI) : PySem.Challenge.rw_picturetide_k11_numbers.Holds := by
  w_on; o_law
  refine HandSHeadRun.head_any (r := OpenLaw.row PySem.Challenge.rw_picturetide_k11_numbers) (q := view (OpenLaw.row PySem.Challenge.rw_picturetide_k11_numbers).prog [41]) (H := L11.hk) (ob := L11.ob) (M := 20000) (loose := L11.loose) (d := HandSHeadRun.topDef (OpenLaw.row PySem.Challenge.rw_picturetide_k11_numbers).prog 41) (kwd := []) L11.ob_eq
    (by kernel_rfl) (fun s => by kernel_rfl) L11.run (by kernel_rfl) (by kernel_rfl) (by kernel_rfl) (by rfl) (by first | assumption | decide +kernel) (by decide +kernel) ⟨rfl, rfl, rfl, rfl, rfl, by decide +kernel⟩ ?hw ?hc
  case hw => w_witness2
  case hc =>
    refine L2.walk_ofE (l := PySem.Challenge.rw_picturetide_k11_numbers) (n := 63) (k := L) (x := "script") (CX := L2.CX0) rfl (by decide) (by kernel_rfl) hL ?F (fun _ _ _ _ z => z)
    intro w mg fa h Y G hmg0
    obtain ⟨K, KX, c⟩ := Y
    have hmg : mg ("law" : PySem.Str) = some (.ref fa) := by
      have e : (HandSHeadRun.topDef (OpenLaw.row PySem.Challenge.rw_picturetide_k11_numbers).prog 41).name = ("law" : PySem.Str) := by kernel_rfl
      rw [← e]
      exact hmg0
    exact Mp.law_endM (l := PySem.Challenge.rw_picturetide_k11_numbers) KX (fun base => Mp.md_of KX G c L11.st L11.all_ok L11.all_kb) (by decide +kernel) L11.law_d rfl hmg hM

local macro_rules
  | `(tactic| bv_omega) => `(tactic| (repeat (first | ((with_reducible refine Mp.e_v (d := ?_) ?_ ?_); rotate_left; exact rfl) | (with_reducible refine Mp.e_int ?_) | (with_reducible refine Mp.e_bin ?_) | (with_reducible refine Mp.add_i ?_) | (with_reducible refine Mp.sub_i ?_) | ((with_reducible refine Mp.mul_r ?_ ?_); exact rfl) | ((with_reducible refine Mp.pow_i ?_ ?_); exact (by decide)) | ((with_reducible refine Mp.div_i ?_ ?_); exact (by decide)) | ((with_reducible refine Mp.mod_i ?_ ?_); exact (by decide)) | (with_reducible refine Mp.e_cmp ?_) | (with_reducible refine Mp.e_ix ?_) | (with_reducible refine Mp.e_c1 ?_) | (with_reducible refine Mp.e_c2 ?_) | ((with_reducible refine Mp.e_conI (i := ?_) ?_ ?_); rotate_left; exact rfl) | (with_reducible refine Mp.e_con ?_) | (with_reducible refine Mp.e_bl ?_) | (with_reducible refine Mp.e_str ?_) | (with_reducible refine Mp.e_non ?_) | (with_reducible refine Mp.a_nil ?_) | (with_reducible refine Mp.a_cons ?_) | (with_reducible refine Mp.e_call ?_) | (with_reducible refine Mp.e_one ?_) | (with_reducible refine Mp.e_isi ?_) | (with_reducible refine Mp.t_val ?_) | (with_reducible refine Mp.t_not ?_) | (with_reducible refine Mp.t_all ?_) | (with_reducible refine Mp.t_any ?_) | (with_reducible refine Mp.w_one ?_) | (with_reducible refine Mp.w_and ?_) | (with_reducible refine Mp.w_or ?_) | (with_reducible refine Mp.t_yes ?_) | (with_reducible refine Mp.o_non ?_) | (with_reducible refine Mp.b_nil ?_) | (with_reducible refine Mp.b_cons ?_) | (with_reducible refine Mp.s_asg ?_) | (with_reducible refine Mp.s_ret ?_) | (with_reducible refine Mp.s_do ?_) | (with_reducible refine Mp.s_fld ?_) | (with_reducible refine Mp.s_ix ?_) | (with_reducible refine Mp.s_pass ?_) | (with_reducible refine Mp.s_brk ?_) | (with_reducible refine Mp.s_cnt ?_) | (with_reducible refine Mp.s_retN ?_) | (with_reducible refine Mp.i_rng1 ?_) | (with_reducible refine Mp.i_seq ?_) | (with_reducible refine Mp.e_fld ?_) | (with_reducible refine Mp.e_meth ?_) | (with_reducible refine Mp.e_get2 ?_) | (with_reducible refine Mp.e_lnew ?_) | (with_reducible refine Mp.e_own ?_) | ((with_reducible refine Mp.and_le ?_ ?_); exact rfl) | (with_reducible refine Mp.e_lst ?_) | (with_reducible refine Mp.e_tup ?_) | (with_reducible refine Mp.e_appL ?_) | (with_reducible refine Mp.e_frz ?_) | (with_reducible refine Mp.e_sl ?_) | (with_reducible refine Mp.e_rev ?_) | (with_reducible refine Mp.e_ite ?_) | (with_reducible refine Mp.e_new ?_) | (with_reducible refine Mp.e_dnew ?_) | (with_reducible refine Mp.e_not ?_) | (with_reducible refine Mp.e_neg ?_) | (with_reducible refine Mp.e_isN ?_) | (with_reducible refine Mp.e_callK ?_) | (with_reducible refine Mp.e_methK ?_) | (with_reducible refine Mp.s_tryN ?_) | (with_reducible refine Mp.e_or ?_) | (with_reducible refine Mp.e_and ?_) | (with_reducible refine Mp.int_i ?_) | (with_reducible refine Mp.len_scr ?_) | (with_reducible refine Mp.len_tup ?_) | (with_reducible refine Mp.len_lst ?_) | ((with_reducible refine Mp.ex_some (a := ?_) ?_ ?_); rotate_left; exact rfl) | (dsimp only [Mp.RV.toV]))))
namespace L11
open PySem PySem.Spec PyProof.Rows L2 Mp
def loopBody (b : IB) (n : Nat) : IB := match b, n with
  | .cons (.for _ _ x) _, 0 => x
  | .cons _ r, n + 1 => loopBody r n
  | b, _ => b
theorem cell_ok (L : Nat) (ns : List Int) (k : Nat) (h : MHp) : WE (callN tb ds (L + 3) i__law_cell [.scr ns, .int k] h) fun d h1 => d = .int (ns.getD k 0) ∧ h1 = h := by
  refine call_ok (d := d__law_cell) rfl rfl ?_
  show WS (evB _ b__law_cell _ _) _
  unfold b__law_cell
  bv_omega
  with_reducible refine s_ite ?_
  bv_omega
  by_cases hk : k < ns.length
  · rw [if_pos (decide_eq_true (by omega))]
    bv_omega
    refine ix_scr (j := ns.getD k 0) (atI_nat ?_) ?_
    · rw [List.getD_eq_getElem?_getD, List.getElem?_eq_getElem hk]; rfl
    · exact ⟨rfl, rfl⟩
  · rw [if_neg (by simp; omega)]
    bv_omega
    refine ⟨?_, rfl⟩
    rw [List.getD_eq_getElem?_getD, List.getElem?_eq_none (by omega)]
    rfl
theorem row_ok (L : Nat) (cell base salt : Int) (many : Nat) (h : MHp) (hb : 0 < base ∧ base.natAbs.log2 < 9000) (hm : many < 1000) :
    WE (callN tb ds (L + 3) i__law_row [.int cell, .int many, .int base, .int salt] h) fun d h1 => ∃ row : List Int, d = .lst (row.map MV.int) ∧ row.length = many ∧ (∀ v ∈ row, 0 ≤ v ∧ v < base) ∧ ∃ t, h1 = h ++ t := by
  refine call_ok (d := d__law_row) rfl rfl ?_
  show WS (evB _ b__law_row _ _) _
  unfold b__law_row
  bv_omega
  refine ws_cut (fun e h1 => ∃ left : Int, e = [some (.int cell), some (.int many), some (.int base), some (.int salt), some (.ref h.length), some (.int left), none, none, none] ∧ h1 = h ++ [.lst []]) (s_ite ?_) ?_
  · bv_omega
    refine ite_w (fun _ => ?_) fun _ => ?_
    · bv_omega
      exact ⟨cell, by rfl, by rfl⟩
    · bv_omega
      exact ⟨0, by rfl, by rfl⟩
  rintro e h1 ⟨left, rfl, rfl⟩
  bv_omega
  with_reducible refine s_for ?_
  bv_omega
  refine ⟨many, rfl, by constructor <;> omega, ?_⟩
  refine for_rng (fun i e h1 => ∃ (row : List Int) (left : Int) (o6 o7 o8 : Option MV), e = [some (.int cell), some (.int many), some (.int base), some (.int salt), some (.ref h.length), some (.int left), o6, o7, o8] ∧ h1 = h ++ [.lst (row.map MV.int)] ∧ row.length = i ∧ ∀ v ∈ row, 0 ≤ v ∧ v < base) ⟨[], left, _, _, _, rfl, rfl, rfl, fun _ z => nomatch z⟩ (fun i e h1 hi ⟨row, left, o6, o7, o8, e1, e2, hl, hr⟩ => ?_) fun e h1 ⟨row, left, o6, o7, o8, e1, e2, hl, hr⟩ => ?_
  · subst e1 e2
    refine ⟨_, rfl, ?_⟩
    bv_omega
    with_reducible refine s_ite ?_
    bv_omega
    have hb0 := hb.1
    refine ite_w (fun _ => ?_) fun _ => ?_
    · bv_omega
      refine ⟨_, _, rfl, lst_last, ?_⟩
      bv_omega
      refine mod_i hb0 ?_
      refine ⟨_, lst_last, by rw [List.length_map]; omega, ?_⟩
      rw [set_last]
      bv_omega
      refine div_i hb ?_
      bv_omega
      refine ⟨row ++ [left % base], left / base, _, o7, o8, by rfl, by rw [List.map_append]; rfl, by rw [List.length_append, hl]; rfl, fun v hv => ?_⟩
      rcases List.mem_append.mp hv with z | z
      · exact hr v z
      · rw [List.mem_singleton.mp z]
        exact ⟨Int.emod_nonneg _ (by omega), Int.emod_lt_of_pos _ hb0⟩
    · bv_omega
      refine mul_i (by rw [show small _ = true from small_mod (by decide) (by decide)]; rfl) ?_
      bv_omega
      refine ⟨_, _, rfl, lst_last, ?_⟩
      bv_omega
      refine mod_i hb0 ?_
      refine ⟨_, lst_last, by rw [List.length_map]; omega, ?_⟩
      rw [set_last]
      bv_omega
      refine ⟨row ++ [_ % base], left, _, _, _, by rfl, by rw [List.map_append]; rfl, by rw [List.length_append, hl]; rfl, fun v hv => ?_⟩
      rcases List.mem_append.mp hv with z | z
      · exact hr v z
      · rw [List.mem_singleton.mp z]
        exact ⟨Int.emod_nonneg _ (by omega), Int.emod_lt_of_pos _ hb0⟩
  · subst e1 e2
    bv_omega
    refine ⟨_, _, _, rfl, frz_last (fun d hd n => ?_), ?_⟩
    · obtain ⟨v, _, rfl⟩ := List.mem_map.mp hd
      exact fun z => nomatch z
    · exact ⟨row, rfl, by omega, hr, _, rfl⟩

def ivF (l w c : Int) (d : Nat) : List (Str × MV) := [("low", .int l), ("width", .int w), ("count", .int c), ("chances", .ref d)]
/-- the object at i is an interval, its dict at d -/
structure Iv (h : MHp) (i d : Nat) (l w c : Int) (kvs : List (List Key × MV)) : Prop where
  o : h[i]? = some (.ins "Interval" (ivF l w c d))
  k : h[d]? = some (.dT kvs)
/-- the chance of a context -/
def pOf (kvs : List (List Key × MV)) (ks : List Key) : Int := match kvGet kvs ks with
  | some (.int p) => p
  | _ => 2048
def IntsV (kvs : List (List Key × MV)) : Prop := ∀ ks d, kvGet kvs ks = some d → ∃ p, d = .int p
theorem getD_p {kvs : List (List Key × MV)} (hi : IntsV kvs) (ks : List Key) : (kvGet kvs ks).getD (.int 2048) = .int (pOf kvs ks) := by
  unfold pOf
  cases q : kvGet kvs ks with
  | none => rfl
  | some d =>
    obtain ⟨p, rfl⟩ := hi ks d q
    rfl
theorem chance_ok (L : Nat) {h : MHp} {i d : Nat} {l w c : Int} {kvs : List (List Key × MV)} {ds' : List MV} {ks : List Key} (I : Iv h i d l w c kvs) (hi : IntsV kvs) (hk : keysOf ds' = some ks) :
    WE (callN tb ds (L + 3) i_Interval_chance [.ref i, .tup ds'] h) fun r h1 => r = .int (pOf kvs ks) ∧ h1 = h := by
  refine call_ok (d := d_Interval_chance) rfl rfl ?_
  show WS (evB _ b_Interval_chance _ _) _
  unfold b_Interval_chance
  bv_omega
  refine ex_some (fld_ok (d := .ref d) I.o (by decide +kernel) (by kernel_rfl)) ?_
  refine ⟨dct_T I.k, ?_⟩
  bv_omega
  refine ex_some (dat_T I.k hk) ?_
  refine ⟨?_, rfl⟩
  exact getD_p hi ks
theorem cut_ok (L : Nat) {h : MHp} {i d : Nat} {l w c : Int} {kvs : List (List Key × MV)} {ds' : List MV} {ks : List Key} (I : Iv h i d l w c kvs) (hi : IntsV kvs) (hk : keysOf ds' = some ks) (hp : small (pOf kvs ks) = true) :
    WE (callN tb ds (L + 4) i_Interval_cut [.ref i, .tup ds'] h) fun r h1 => r = .int (w / 4096 * pOf kvs ks) ∧ h1 = h := by
  refine call_ok (d := d_Interval_cut) rfl rfl ?_
  show WS (evB _ b_Interval_cut _ _) _
  unfold b_Interval_cut
  bv_omega
  refine ex_some (fld_ok (d := .int w) I.o (by decide +kernel) (by kernel_rfl)) ?_
  bv_omega
  refine ⟨"Interval", i_Interval_chance, cls_at I.o, by decide +kernel, is_ok I.o (by kernel_rfl), ?_⟩
  bv_omega
  refine (chance_ok L I hi hk).mono fun r h1 ⟨e1, e2⟩ => ?_
  subst e1 e2
  refine mul_r hp ?_
  exact ⟨rfl, rfl⟩
theorem ivstate_ok (L : Nat) {h : MHp} {i d : Nat} {l w c : Int} {kvs : List (List Key × MV)} (I : Iv h i d l w c kvs) :
    WE (callN tb ds (L + 3) i_Interval_state [.ref i] h) fun r h1 => r = .tup [.int l, .int w, .int c] ∧ h1 = h := by
  refine call_ok (d := d_Interval_state) rfl rfl ?_
  show WS (evB _ b_Interval_state _ _) _
  unfold b_Interval_state
  bv_omega
  refine ex_some (fld_ok (d := .int l) I.o (by decide +kernel) (by kernel_rfl)) ?_
  bv_omega
  refine ex_some (fld_ok (d := .int w) I.o (by decide +kernel) (by kernel_rfl)) ?_
  bv_omega
  refine ex_some (fld_ok (d := .int c) I.o (by decide +kernel) (by kernel_rfl)) ?_
  bv_omega
  exact ⟨rfl, rfl⟩

/-- nothing else is touched -/
structure Same (i d : Nat) (h h1 : MHp) : Prop where
  l : h1.length = h.length
  o : ∀ n : Nat, n ≠ i → n ≠ d → h1[n]? = h[n]?
theorem Same.refl {i d : Nat} {h : MHp} : Same i d h h := ⟨rfl, fun _ _ _ => rfl⟩
theorem Same.trans {i d : Nat} {h h1 h2 : MHp} (a : Same i d h h1) (b : Same i d h1 h2) : Same i d h h2 := ⟨b.l.trans a.l, fun n x y => (b.o n x y).trans (a.o n x y)⟩
theorem same_set {i d n : Nat} {h : MHp} {o : MO} (e : n = i ∨ n = d) : Same i d h (h.set n o) := ⟨by simp, fun m x y => by
  rw [List.getElem?_set_ne]
  rcases e with e | e <;> subst e <;> omega⟩
section
variable {h : MHp} {i d : Nat} {l w c l' w' c' : Int} {kvs : List (List Key × MV)}
theorem Iv.ne (I : Iv h i d l w c kvs) : i ≠ d := fun z => by
  have a := I.o
  rw [z, I.k] at a
  cases a
theorem Iv.putF (I : Iv h i d l w c kvs) {f : Str} {x : MV} (hn : tb.na "Interval" f = true) (e : fPut (ivF l w c d) f x = ivF l' w' c' d) : ∃ h', fldPut tb.na h (.v (.ref i)) f x = some h' ∧ Iv h' i d l' w' c' kvs ∧ Same i d h h' := by
  refine ⟨_, fput_ok I.o hn (by show 4 < 1000; decide), ⟨?_, ?_⟩, same_set (.inl rfl)⟩
  · rw [e, List.getElem?_set_self (List.getElem?_eq_some_iff.mp I.o).1]
  · rw [List.getElem?_set_ne I.ne]; exact I.k
theorem Iv.putK (I : Iv h i d l w c kvs) {ctx : List MV} {ks : List Key} {x : MV} (hk : keysOf ctx = some ks) (hl : kvs.length < 1000000) : ∃ h', ixPut h (.v (.ref d)) (.v (.tup ctx)) x = some h' ∧ Iv h' i d l w c (kvPut kvs ks x) ∧ Same i d h h' := by
  refine ⟨_, dput_T I.k hk hl, ⟨?_, ?_⟩, same_set (.inr rfl)⟩
  · rw [List.getElem?_set_ne (Ne.symm I.ne)]; exact I.o
  · rw [List.getElem?_set_self (List.getElem?_eq_some_iff.mp I.k).1]
end
/-- a turn of the shifting -/
def shf (s : Int × Int × Int) : Int × Int × Int := if s.2.1 < 16777216 then (s.1 * 256, s.2.1 * 256, s.2.2 + 1) else s
/-- what a bit does -/
def cutI (l w c p : Int) (bit : Int) : Int × Int × Int := if bit = 0 then (l, w / 4096 * p, c) else (l + w / 4096 * p, w - w / 4096 * p, c)
def pNew (p bit : Int) : Int := if bit = 0 then p + (4096 - p) / 32 else p - p / 32
theorem narrow_ok (L : Nat) {h : MHp} {i d : Nat} {l w c : Int} {kvs : List (List Key × MV)} {ctx : List MV} {ks : List Key} {bit : Int} (I : Iv h i d l w c kvs) (hi : IntsV kvs) (hk : keysOf ctx = some ks) (hp : small (pOf kvs ks) = true) (hl : kvs.length < 1000000)
    (hw : 65536 ≤ (cutI l w c (pOf kvs ks) bit).2.1) :
    WE (callN tb ds (L + 5) i_Interval_narrow [.ref i, .tup ctx, .int bit] h) fun r h1 => r = .non ∧ Iv h1 i d (shf (cutI l w c (pOf kvs ks) bit)).1 (shf (cutI l w c (pOf kvs ks) bit)).2.1 (shf (cutI l w c (pOf kvs ks) bit)).2.2 (kvPut kvs ks (.int (pNew (pOf kvs ks) bit))) ∧ Same i d h h1 := by
  refine call_ok (d := d_Interval_narrow) rfl rfl ?_
  show WS (evB _ b_Interval_narrow _ _) _
  unfold b_Interval_narrow
  bv_omega
  refine ⟨"Interval", i_Interval_chance, cls_at I.o, by decide +kernel, is_ok I.o (by kernel_rfl), ?_⟩
  bv_omega
  refine (chance_ok (L + 1) I hi hk).mono fun r h1 ⟨e1, e2⟩ => ?_
  subst e1 e2
  bv_omega
  refine ⟨"Interval", i_Interval_cut, cls_at I.o, by decide +kernel, is_ok I.o (by kernel_rfl), ?_⟩
  bv_omega
  refine (cut_ok L I hi hk hp).mono fun r h1 ⟨e1, e2⟩ => ?_
  subst e1 e2
  bv_omega
  generalize hpp : pOf kvs ks = p at *
  refine ws_cut (fun e h2 => e = [some (.ref i), some (.tup ctx), some (.int bit), some (.int p), some (.int (w / 4096 * p))] ∧ Iv h2 i d (cutI l w c p bit).1 (cutI l w c p bit).2.1 (cutI l w c p bit).2.2 (kvPut kvs ks (.int (pNew p bit))) ∧ Same i d h1 h2) ?_ ?_
  · with_reducible refine s_ite ?_
    bv_omega
    refine ite_w (fun hb => ?_) fun hb => ?_
    · have hb : bit = 0 := by simpa using hb
      subst hb
      bv_omega
      obtain ⟨h3, q1, I3, S3⟩ := I.putF (f := "width") (x := .int (w / 4096 * p)) (l' := l) (w' := w / 4096 * p) (c' := c) (by decide +kernel) (by kernel_rfl)
      refine ex_some q1 ?_
      bv_omega
      refine ex_some (fld_ok (d := .ref d) I3.o (by decide +kernel) (by kernel_rfl)) ?_
      bv_omega
      obtain ⟨h4, q2, I4, S4⟩ := I3.putK (x := .int (p + (4096 - p) / 32)) hk hl
      refine ex_some q2 ?_
      bv_omega
      exact ⟨by rfl, I4, S3.trans S4⟩
    · have hb : bit ≠ 0 := by simpa using hb
      have e1 : cutI l w c p bit = (l + w / 4096 * p, w - w / 4096 * p, c) := if_neg hb
      have e2 : pNew p bit = p - p / 32 := if_neg hb
      bv_omega
      refine ex_some (fld_ok (d := .int l) I.o (by decide +kernel) (by kernel_rfl)) ?_
      bv_omega
      obtain ⟨h3, q1, I3, S3⟩ := I.putF (f := "low") (x := .int (l + w / 4096 * p)) (l' := l + w / 4096 * p) (w' := w) (c' := c) (by decide +kernel) (by kernel_rfl)
      refine ex_some q1 ?_
      bv_omega
      refine ex_some (fld_ok (d := .int w) I3.o (by decide +kernel) (by kernel_rfl)) ?_
      bv_omega
      obtain ⟨h4, q2, I4, S4⟩ := I3.putF (f := "width") (x := .int (w - w / 4096 * p)) (l' := l + w / 4096 * p) (w' := w - w / 4096 * p) (c' := c) (by decide +kernel) (by kernel_rfl)
      refine ex_some q2 ?_
      bv_omega
      refine ex_some (fld_ok (d := .ref d) I4.o (by decide +kernel) (by kernel_rfl)) ?_
      bv_omega
      obtain ⟨h5, q3, I5, S5⟩ := I4.putK (x := .int (p - p / 32)) hk hl
      refine ex_some q3 ?_
      bv_omega
      rw [e1, e2]
      exact ⟨by rfl, I5, (S3.trans S4).trans S5⟩
  · rintro e h2 ⟨rfl, I2, S2⟩
    bv_omega
    with_reducible refine s_wh ?_
    generalize kvPut kvs ks (MV.int (pNew p bit)) = kv at *
    generalize cutI l w c p bit = s0 at *
    obtain ⟨l1, w1, c1⟩ := s0
    refine wh_loop (Inv := fun k e h3 => e = [some (.ref i), some (.tup ctx), some (.int bit), some (.int p), some (.int (w / 4096 * p))] ∧ ∃ l2 w2 c2, Iv h3 i d l2 w2 c2 kv ∧ Same i d h1 h3 ∧ shf (l2, w2, c2) = shf (l1, w1, c1) ∧ (w2 < 16777216 → 0 < k ∧ 65536 ≤ w2)) (fun k e h3 ⟨he, l2, w2, c2, I3, S3, e3, hk3⟩ => ?_) 1000000 1 _ _ (by decide) ⟨rfl, l1, w1, c1, I2, S2, rfl, fun _ => ⟨by decide, hw⟩⟩
    subst he
    bv_omega
    refine ex_some (fld_ok (d := .int w2) I3.o (by decide +kernel) (by kernel_rfl)) ?_
    bv_omega
    refine ite_w (fun hb => ⟨(hk3 (of_decide_eq_true hb)).1, ?_⟩) fun hb => ?_
    · have hb := of_decide_eq_true hb
      have hk4 := (hk3 hb).2
      bv_omega
      refine ex_some (fld_ok (d := .int l2) I3.o (by decide +kernel) (by kernel_rfl)) ?_
      bv_omega
      obtain ⟨h4, q1, I4, S4⟩ := I3.putF (f := "low") (x := .int (l2 * 256)) (l' := l2 * 256) (w' := w2) (c' := c2) (by decide +kernel) (by kernel_rfl)
      refine ex_some q1 ?_
      bv_omega
      refine ex_some (fld_ok (d := .int w2) I4.o (by decide +kernel) (by kernel_rfl)) ?_
      bv_omega
      obtain ⟨h5, q2, I5, S5⟩ := I4.putF (f := "width") (x := .int (w2 * 256)) (l' := l2 * 256) (w' := w2 * 256) (c' := c2) (by decide +kernel) (by kernel_rfl)
      refine ex_some q2 ?_
      bv_omega
      refine ex_some (fld_ok (d := .int c2) I5.o (by decide +kernel) (by kernel_rfl)) ?_
      bv_omega
      obtain ⟨h6, q3, I6, S6⟩ := I5.putF (f := "count") (x := .int (c2 + 1)) (l' := l2 * 256) (w' := w2 * 256) (c' := c2 + 1) (by decide +kernel) (by kernel_rfl)
      refine ex_some q3 ?_
      bv_omega
      refine ⟨rfl, _, _, _, I6, ((S3.trans S4).trans S5).trans S6, ?_, fun z => by omega⟩
      rw [← e3]
      have a : shf (l2 * 256, w2 * 256, c2 + 1) = (l2 * 256, w2 * 256, c2 + 1) := if_neg (by show ¬ w2 * 256 < 16777216; omega)
      have b : shf (l2, w2, c2) = (l2 * 256, w2 * 256, c2 + 1) := if_pos hb
      rw [a, b]
    · have hb := of_decide_eq_false hb
      bv_omega
      have a : shf (l2, w2, c2) = (l2, w2, c2) := if_neg hb
      rw [← e3, a]
      exact ⟨rfl, I3, S3⟩

theorem pNew_rng {p bit : Int} (h1 : 31 ≤ p) (h2 : p ≤ 4065) : 31 ≤ pNew p bit ∧ pNew p bit ≤ 4065 := by
  unfold pNew
  split <;> omega
theorem cut_w {l w c p bit : Int} (hw : 16777216 ≤ w) (h1 : 31 ≤ p) (h2 : p ≤ 4065) : 126976 ≤ (cutI l w c p bit).2.1 := by
  have hq : 4096 ≤ w / 4096 := by omega
  have a : w / 4096 * 31 ≤ w / 4096 * p := Int.mul_le_mul_of_nonneg_left h1 (by omega)
  have b : w / 4096 * p ≤ w / 4096 * 4065 := Int.mul_le_mul_of_nonneg_left h2 (by omega)
  unfold cutI
  split
  · show 126976 ≤ w / 4096 * p
    omega
  · show 126976 ≤ w - w / 4096 * p
    omega
theorem shf_w {s : Int × Int × Int} (h : 126976 ≤ s.2.1) : 16777216 ≤ (shf s).2.1 := by
  unfold shf
  split
  · show 16777216 ≤ s.2.1 * 256
    omega
  · omega
theorem small_p {p : Int} (h1 : 31 ≤ p) (h2 : p ≤ 4065) : small p = true := decide_eq_true (by omega)
/-- every chance kept -/
def RngV (kvs : List (List Key × MV)) : Prop := ∀ ks d, kvGet kvs ks = some d → ∃ p : Int, d = .int p ∧ 31 ≤ p ∧ p ≤ 4065
theorem RngV.ints {kvs : List (List Key × MV)} (h : RngV kvs) : IntsV kvs := fun ks d e => by
  obtain ⟨p, e1, _⟩ := h ks d e
  exact ⟨p, e1⟩
theorem RngV.p {kvs : List (List Key × MV)} (h : RngV kvs) (ks : List Key) : 31 ≤ pOf kvs ks ∧ pOf kvs ks ≤ 4065 := by
  unfold pOf
  cases q : kvGet kvs ks with
  | none => decide
  | some d =>
    obtain ⟨p, rfl, h1, h2⟩ := h ks d q
    exact ⟨h1, h2⟩
theorem RngV.nil : RngV [] := fun _ _ e => nomatch e
theorem kvGet_map {k k' : List Key} {d : MV} : ∀ kvs : List (List Key × MV), kvGet (kvs.map fun kv => if kv.1 = k then (kv.1, d) else kv) k' = if k = k' then (kvGet kvs k').map (fun _ => d) else kvGet kvs k'
  | [] => by unfold kvGet; simp
  | (a, x) :: r => by
    have ih := kvGet_map (k := k) (k' := k') (d := d) r
    unfold kvGet at ih ⊢
    rw [List.map_cons]
    by_cases h1 : a = k'
    · subst h1
      by_cases h2 : a = k
      · subst h2
        rw [if_pos rfl, if_pos rfl, List.find?_cons_of_pos (by simp), List.find?_cons_of_pos (by simp)]
        rfl
      · rw [if_neg h2, if_neg (fun z => h2 z.symm), List.find?_cons_of_pos (by simp), List.find?_cons_of_pos (by simp)]
    · have e : (if (a, x).1 = k then ((a, x).1, d) else (a, x)).1 = a := by split <;> rfl
      rw [List.find?_cons_of_neg (by rw [e]; simpa using h1), List.find?_cons_of_neg (by simpa using h1)]
      exact ih
theorem kvGet_put {kvs : List (List Key × MV)} {k k' : List Key} {d : MV} : kvGet (kvPut kvs k d) k' = if k = k' then some d else kvGet kvs k' := by
  unfold kvPut
  split
  · rename_i h
    rw [kvGet_map]
    by_cases e : k = k'
    · subst e
      rw [if_pos rfl, if_pos rfl]
      obtain ⟨kv, h1, h2⟩ := List.any_eq_true.mp h
      cases q : kvGet kvs k with
      | some x => rfl
      | none =>
        unfold kvGet at q
        have := Option.map_eq_none_iff.mp q
        exact absurd h2 (List.find?_eq_none.mp this kv h1)
    · rw [if_neg e, if_neg e]
  · rename_i h
    unfold kvGet
    rw [List.find?_append]
    by_cases e : k = k'
    · subst e
      rw [if_pos rfl]
      have : kvs.find? (fun kv => decide (kv.1 = k)) = none := List.find?_eq_none.mpr fun kv hk hz => h (List.any_eq_true.mpr ⟨kv, hk, hz⟩)
      rw [this]
      simp
    · rw [if_neg e]
      have : [(k, d)].find? (fun kv => decide (kv.1 = k')) = none := by simp [e]
      rw [this]
      simp
theorem kvPut_len {kvs : List (List Key × MV)} {k : List Key} {d : MV} : (kvPut kvs k d).length ≤ kvs.length + 1 := by
  unfold kvPut
  split
  · rw [List.length_map]; omega
  · rw [List.length_append]; exact Nat.le_refl _
theorem RngV.put {kvs : List (List Key × MV)} (h : RngV kvs) (ks : List Key) (bit : Int) : RngV (kvPut kvs ks (.int (pNew (pOf kvs ks) bit))) := fun ks' d e => by
  rw [kvGet_put] at e
  split at e
  · cases e
    have := pNew_rng (bit := bit) (h.p ks).1 (h.p ks).2
    exact ⟨_, rfl, this.1, this.2⟩
  · exact h ks' d e

/-- the object at o is a coder of the interval at i -/
def Co (h : MHp) (o i : Nat) : Prop := h[o]? = some (.ins "Coder" [("interval", .ref i)])
theorem put_ok (L : Nat) {h : MHp} {o i d : Nat} {l w c : Int} {kvs : List (List Key × MV)} {ctx : List MV} {ks : List Key} {bit : Int} (O : Co h o i) (I : Iv h i d l w c kvs) (hi : IntsV kvs) (hk : keysOf ctx = some ks) (hp : small (pOf kvs ks) = true) (hl : kvs.length < 1000000)
    (hw : 65536 ≤ (cutI l w c (pOf kvs ks) bit).2.1) :
    WE (callN tb ds (L + 6) i_Coder_put [.ref o, .tup ctx, .int bit] h) fun r h1 => r = .non ∧ Iv h1 i d (shf (cutI l w c (pOf kvs ks) bit)).1 (shf (cutI l w c (pOf kvs ks) bit)).2.1 (shf (cutI l w c (pOf kvs ks) bit)).2.2 (kvPut kvs ks (.int (pNew (pOf kvs ks) bit))) ∧ Same i d h h1 := by
  refine call_ok (d := d_Coder_put) rfl rfl ?_
  show WS (evB _ b_Coder_put _ _) _
  unfold b_Coder_put
  bv_omega
  refine ex_some (fld_ok (d := .ref i) O (by decide +kernel) (by kernel_rfl)) ?_
  refine ⟨"Interval", i_Interval_narrow, cls_at I.o, by decide +kernel, is_ok I.o (by kernel_rfl), ?_⟩
  bv_omega
  refine (narrow_ok L I hi hk hp hl hw).mono fun r h1 ⟨e1, e2⟩ => ?_
  bv_omega
  exact ⟨rfl, e2⟩
theorem costate_ok (L : Nat) {h : MHp} {o i d : Nat} {l w c : Int} {kvs : List (List Key × MV)} (O : Co h o i) (I : Iv h i d l w c kvs) :
    WE (callN tb ds (L + 4) i_Coder_state [.ref o] h) fun r h1 => r = .tup [.int l, .int w, .int c] ∧ h1 = h := by
  refine call_ok (d := d_Coder_state) rfl rfl ?_
  show WS (evB _ b_Coder_state _ _) _
  unfold b_Coder_state
  bv_omega
  refine ex_some (fld_ok (d := .ref i) O (by decide +kernel) (by kernel_rfl)) ?_
  refine ⟨"Interval", i_Interval_state, cls_at I.o, by decide +kernel, is_ok I.o (by kernel_rfl), ?_⟩
  bv_omega
  exact ivstate_ok L I

theorem at_last {h : MHp} {a : MO} : (h ++ [a])[h.length]? = some a := by simp
theorem at_last2 {h : MHp} {a b : MO} : (h ++ [a] ++ [b])[h.length]? = some a := by rw [List.append_assoc]; simp
theorem set_last2 {h : MHp} {a b c : MO} : (h ++ [a] ++ [b]).set h.length c = h ++ [c] ++ [b] := by rw [List.append_assoc]; simp
theorem ivinit_ok (L : Nat) (h : MHp) : WE (callN tb ds (L + 3) i_Interval___init__ [.ref h.length] (h ++ [.ins "Interval" []])) fun r h1 => r = .non ∧ h1 = h ++ [.ins "Interval" (ivF 0 4294967296 4 (h.length + 1))] ++ [.dT []] := by
  refine call_ok (d := d_Interval___init__) rfl rfl ?_
  show WS (evB _ b_Interval___init__ _ _) _
  unfold b_Interval___init__
  bv_omega
  refine ex_some (fput_ok at_last (by decide +kernel) (by decide)) ?_
  rw [set_last]
  bv_omega
  refine ex_some (fput_ok at_last (by decide +kernel) (by show 1 < 1000; decide)) ?_
  rw [set_last]
  bv_omega
  refine ex_some (fput_ok at_last (by decide +kernel) (by show 2 < 1000; decide)) ?_
  rw [set_last]
  bv_omega
  refine ex_some (fput_ok at_last2 (by decide +kernel) (by show 3 < 1000; decide)) ?_
  rw [set_last2]
  bv_omega
  refine ⟨rfl, ?_⟩
  congr 2
  rw [List.length_append]
  kernel_rfl
theorem coinit_ok (L : Nat) (h : MHp) : WE (callN tb ds (L + 5) i_Coder___init__ [.ref h.length] (h ++ [.ins "Coder" []])) fun r h1 => r = .non ∧ h1 = h ++ [.ins "Coder" [("interval", .ref (h.length + 1))], .ins "Interval" (ivF 0 4294967296 4 (h.length + 2)), .dT []] := by
  refine call_ok (d := d_Coder___init__) rfl rfl ?_
  show WS (evB _ b_Coder___init__ _ _) _
  unfold b_Coder___init__
  bv_omega
  have e : (h ++ [MO.ins "Coder" []]).length = h.length + 1 := by simp
  refine WE.mono (ivinit_ok L (h ++ [.ins "Coder" []])) (fun r h1 hh => ?_)
  obtain ⟨e1, e2⟩ := hh
  refine ⟨e1, ?_⟩
  rw [e] at e2 ⊢
  bv_omega
  have e3 : h1 = h ++ [.ins "Coder" []] ++ [.ins "Interval" (ivF 0 4294967296 4 (h.length + 1 + 1)), .dT []] := by rw [e2]; simp
  subst e3
  refine ex_some (fput_ok (c := "Coder") (fs := []) (by rw [List.append_assoc]; simp) (by decide +kernel) (by decide)) ?_
  bv_omega
  refine ⟨rfl, ?_⟩
  rw [List.append_assoc]
  simp only [List.cons_append, List.nil_append]
  rw [List.set_append_right _ _ (Nat.le_refl _), Nat.sub_self]
  rfl

theorem lput_ok (L : Nat) {h : MHp} {e : Nat} {l w c : Int} {kvs : List (List Key × MV)} {ctx : List MV} {ks : List Key} {bit : Int} (I : h[e]? = some (.dT kvs)) (hi : IntsV kvs) (hk : keysOf ctx = some ks) (hp : small (pOf kvs ks) = true) (hl : kvs.length < 1000000)
    (hw : 65536 ≤ (cutI l w c (pOf kvs ks) bit).2.1) :
    WE (callN tb ds (L + 3) i__law_put [.tup [.int l, .int w, .int c], .ref e, .tup ctx, .int bit] h) fun r h1 => (∃ l' w' c', shf (cutI l w c (pOf kvs ks) bit) = (l', w', c') ∧ r = .tup [.int l', .int w', .int c']) ∧ h1 = h.set e (.dT (kvPut kvs ks (.int (pNew (pOf kvs ks) bit)))) := by
  refine call_ok (d := d__law_put) rfl rfl ?_
  show WS (evB _ b__law_put _ _) _
  unfold b__law_put
  bv_omega
  refine ix_tup (d := .int l) rfl ?_
  bv_omega
  refine ix_tup (d := .int w) rfl ?_
  bv_omega
  refine ix_tup (d := .int c) rfl ?_
  bv_omega
  refine ⟨dct_T I, ?_⟩
  bv_omega
  refine ex_some (dat_T I hk) ?_
  rw [getD_p hi ks]
  bv_omega
  refine mul_r hp ?_
  bv_omega
  generalize hpp : pOf kvs ks = p at *
  refine ws_cut (fun en h2 => (∃ s0 s1 s2 : Int, cutI l w c p bit = (s0, s1, s2) ∧ ∃ o4, en = [some (.tup [.int l, .int w, .int c]), some (.ref e), some (.tup ctx), some (.int bit), some (.int s0), some (.int s1), some (.int s2), some (.int p), some (.int (w / 4096 * p)), o4]) ∧ h2 = h.set e (.dT (kvPut kvs ks (.int (pNew p bit))))) ?_ ?_
  · with_reducible refine s_ite ?_
    bv_omega
    refine ite_w (fun hb => ?_) fun hb => ?_
    · have hb : bit = 0 := by simpa using hb
      subst hb
      bv_omega
      refine ex_some (dput_T I hk hl) ?_
      bv_omega
      exact ⟨⟨_, _, _, rfl, _, by rfl⟩, rfl⟩
    · have hb : bit ≠ 0 := by simpa using hb
      have e1 : cutI l w c p bit = (l + w / 4096 * p, w - w / 4096 * p, c) := if_neg hb
      have e2 : pNew p bit = p - p / 32 := if_neg hb
      bv_omega
      refine ex_some (dput_T I hk hl) ?_
      bv_omega
      rw [e1, e2]
      exact ⟨⟨_, _, _, rfl, _, by rfl⟩, rfl⟩
  · rintro en h2 ⟨⟨s0, s1, s2, es, o4, rfl⟩, rfl⟩
    rw [es] at hw ⊢
    bv_omega
    with_reducible refine s_for ?_
    bv_omega
    refine ⟨(2 : Nat), rfl, by decide, ?_⟩
    refine for_rng (n := 2) (fun k en h3 => h3 = h.set e (.dT (kvPut kvs ks (.int (pNew p bit)))) ∧ ∃ l2 w2 c2 : Int, ∃ o9 : Option MV, en = [some (.tup [.int l, .int w, .int c]), some (.ref e), some (.tup ctx), some (.int bit), some (.int l2), some (.int w2), some (.int c2), some (.int p), some (.int (w / 4096 * p)), o9] ∧ shf (l2, w2, c2) = shf (s0, s1, s2) ∧ 65536 ≤ w2 ∧ (0 < k → 16777216 ≤ w2)) ⟨rfl, s0, s1, s2, o4, rfl, rfl, hw, fun z => absurd z (by decide)⟩ (fun k en h3 hk3 hh => ?_) fun en h3 hh => ?_
    · obtain ⟨rfl, l2, w2, c2, o9, rfl, e3, e4, e5⟩ := hh
      refine ⟨_, rfl, ?_⟩
      bv_omega
      with_reducible refine s_ite ?_
      bv_omega
      refine ite_w (fun hb => ?_) fun hb => ?_
      · have hb : w2 < 16777216 := of_decide_eq_true hb
        bv_omega
        have b : shf (l2, w2, c2) = (l2 * 256, w2 * 256, c2 + 1) := if_pos hb
        have a : shf (l2 * 256, w2 * 256, c2 + 1) = (l2 * 256, w2 * 256, c2 + 1) := if_neg (by show ¬ w2 * 256 < 16777216; omega)
        exact ⟨rfl, _, _, _, _, by rfl, by rw [a, ← b]; exact e3, by omega, fun _ => by omega⟩
      · have hb : ¬ w2 < 16777216 := of_decide_eq_false hb
        bv_omega
        exact ⟨rfl, _, _, _, _, by rfl, e3, e4, fun _ => by omega⟩
    · obtain ⟨rfl, l2, w2, c2, o9, rfl, e3, e4, e5⟩ := hh
      bv_omega
      have a : shf (l2, w2, c2) = (l2, w2, c2) := if_neg (by have := e5 (by decide); show ¬ w2 < 16777216; omega)
      exact ⟨⟨l2, w2, c2, by rw [← e3, a], rfl⟩, rfl⟩

theorem alike_ok (L : Nat) (h : MHp) (ns : List Int) (hn : ns.length < 1000000) : WE (callN tb ds (L + 3) i__law_alike [.tup (ns.map MV.int), .tup (ns.map MV.int)] h) fun r h1 => r = .bl true ∧ h1 = h := by
  refine call_ok (d := d__law_alike) rfl rfl ?_
  show WS (evB _ b__law_alike _ _) _
  unfold b__law_alike
  bv_omega
  with_reducible refine s_ite ?_
  bv_omega
  refine we_eq (a := .v (.bl true)) (hp := h) rfl ?_
  bv_omega
  rw [if_neg (by decide)]
  bv_omega
  rw [if_neg (by simp)]
  bv_omega
  with_reducible refine s_for ?_
  bv_omega
  refine ⟨(ns.map MV.int).length, rfl, by rw [List.length_map]; constructor <;> omega, ?_⟩
  refine for_rng (n := (ns.map MV.int).length) (fun k en h3 => h3 = h ∧ ∃ o2 : Option MV, en = [some (.tup (ns.map MV.int)), some (.tup (ns.map MV.int)), o2]) ⟨rfl, none, rfl⟩ (fun k en h3 hk hh => ?_) fun en h3 hh => ?_
  · obtain ⟨rfl, o2, rfl⟩ := hh
    refine ⟨_, rfl, ?_⟩
    rw [List.length_map] at hk
    have hx : atI (ns.map MV.int) (k : Int) = some (.int (ns.getD k 0)) := atI_nat (by rw [List.getElem?_map, List.getD_eq_getElem?_getD, List.getElem?_eq_getElem hk]; rfl)
    bv_omega
    with_reducible refine s_ite ?_
    bv_omega
    refine ix_tup hx ?_
    refine we_eq (a := .v (.bl true)) (hp := h3) rfl ?_
    bv_omega
    rw [if_neg (by decide)]
    bv_omega
    refine ix_tup hx ?_
    refine we_eq (a := .v (.bl false)) (hp := h3) rfl ?_
    bv_omega
    rw [if_neg (by decide)]
    bv_omega
    refine ix_tup hx ?_
    bv_omega
    refine ix_tup hx ?_
    bv_omega
    rw [if_neg (by simp)]
    bv_omega
    exact ⟨rfl, _, by rfl⟩
  · obtain ⟨rfl, o2, rfl⟩ := hh
    bv_omega
    exact ⟨rfl, rfl⟩

end L11

local macro_rules
  | `(tactic| symm_saturate) => `(tactic| (repeat (first | ((with_reducible refine Mp.e_v (d := ?_) ?_ ?_); rotate_left; exact rfl) | (with_reducible refine Mp.e_int ?_) | (with_reducible refine Mp.e_bin ?_) | (with_reducible refine Mp.add_i ?_) | (with_reducible refine Mp.sub_i ?_) | ((with_reducible refine Mp.mul_r ?_ ?_); exact rfl) | ((with_reducible refine Mp.pow_i ?_ ?_); exact (by decide)) | ((with_reducible refine Mp.div_i ?_ ?_); exact (by decide)) | ((with_reducible refine Mp.mod_i ?_ ?_); exact (by decide)) | (with_reducible refine Mp.e_cmp ?_) | (with_reducible refine Mp.e_ix ?_) | (with_reducible refine Mp.e_c1 ?_) | (with_reducible refine Mp.e_c2 ?_) | ((with_reducible refine Mp.e_conI (i := ?_) ?_ ?_); rotate_left; exact rfl) | (with_reducible refine Mp.e_con ?_) | (with_reducible refine Mp.e_bl ?_) | (with_reducible refine Mp.e_str ?_) | (with_reducible refine Mp.e_non ?_) | (with_reducible refine Mp.a_nil ?_) | (with_reducible refine Mp.a_cons ?_) | (with_reducible refine Mp.e_call ?_) | (with_reducible refine Mp.e_one ?_) | (with_reducible refine Mp.e_isi ?_) | (with_reducible refine Mp.t_val ?_) | (with_reducible refine Mp.t_not ?_) | (with_reducible refine Mp.t_all ?_) | (with_reducible refine Mp.t_any ?_) | (with_reducible refine Mp.w_one ?_) | (with_reducible refine Mp.w_and ?_) | (with_reducible refine Mp.w_or ?_) | (with_reducible refine Mp.t_yes ?_) | (with_reducible refine Mp.o_non ?_) | (with_reducible refine Mp.b_nil ?_) | (with_reducible refine Mp.b_cons ?_) | (with_reducible refine Mp.s_asg ?_) | (with_reducible refine Mp.s_ret ?_) | (with_reducible refine Mp.s_do ?_) | (with_reducible refine Mp.s_fld ?_) | (with_reducible refine Mp.s_ix ?_) | (with_reducible refine Mp.s_pass ?_) | (with_reducible refine Mp.s_brk ?_) | (with_reducible refine Mp.s_cnt ?_) | (with_reducible refine Mp.s_retN ?_) | (with_reducible refine Mp.i_rng1 ?_) | (with_reducible refine Mp.i_seq ?_) | (with_reducible refine Mp.e_fld ?_) | (with_reducible refine Mp.e_meth ?_) | (with_reducible refine Mp.e_get2 ?_) | (with_reducible refine Mp.e_lnew ?_) | (with_reducible refine Mp.e_own ?_) | ((with_reducible refine Mp.and_le ?_ ?_); exact rfl) | (with_reducible refine Mp.e_lst ?_) | (with_reducible refine Mp.e_tup ?_) | (with_reducible refine Mp.e_appL ?_) | (with_reducible refine Mp.e_frz ?_) | (with_reducible refine Mp.e_sl ?_) | (with_reducible refine Mp.e_rev2 ?_) | (with_reducible refine Mp.e_ite ?_) | (with_reducible refine Mp.e_new ?_) | (with_reducible refine Mp.e_dnewT ?_) | (with_reducible refine Mp.e_dnewK ?_) | (with_reducible refine Mp.e_not ?_) | (with_reducible refine Mp.e_neg ?_) | (with_reducible refine Mp.e_isN ?_) | (with_reducible refine Mp.e_callK ?_) | (with_reducible refine Mp.e_methK ?_) | (with_reducible refine Mp.s_tryN ?_) | (with_reducible refine Mp.e_or ?_) | (with_reducible refine Mp.e_and ?_) | (with_reducible refine Mp.int_i ?_) | (with_reducible refine Mp.len_scr ?_) | (with_reducible refine Mp.len_tup ?_) | (with_reducible refine Mp.len_lst ?_) | ((with_reducible refine Mp.ex_some (a := ?_) ?_ ?_); rotate_left; exact rfl) | (dsimp only [Mp.RV.toV]) | (with_reducible refine Mp.s_ite ?_) | (with_reducible refine Mp.s_for ?_) | (with_reducible refine Mp.o_some ?_) | (with_reducible refine Mp.ex_int ?_) | (with_reducible refine Mp.ex_str ?_) | (with_reducible refine Mp.e_lc1 ?_) | (with_reducible refine Mp.lcput ?_) | (with_reducible refine Mp.sl_t ?_) | (with_reducible refine Mp.sl_l ?_) | (with_reducible refine Mp.sl_n ?_) | (with_reducible refine Mp.tup_n ?_) | (with_reducible refine Mp.tup_t ?_) | (with_reducible refine Mp.tup_l ?_) | (with_reducible refine Mp.list_t ?_) | (with_reducible refine Mp.list_l ?_) | (with_reducible refine Mp.int_b ?_) | (with_reducible refine Mp.min_i ?_) | (with_reducible refine Mp.max_i ?_) | (with_reducible refine Mp.e_sidx ?_) | (with_reducible refine Mp.i_rev ?_) | (with_reducible refine Mp.and1_i ?_) | (with_reducible refine Mp.s_setLcO ?_) | (with_reducible refine Mp.ex_nl ?_) | (with_reducible refine Mp.e_newK ?_) | (with_reducible refine Mp.e_bits ?_) | (with_reducible refine Mp.s_setLcN ?_) | (with_reducible refine Mp.len_n ?_) | (with_reducible refine Mp.if_tt ?_) | (with_reducible refine Mp.if_ff ?_) | ((with_reducible refine Mp.mul_i ?_ ?_); exact rfl) | ((with_reducible refine Mp.ix_nl (d := ?_) ?_ ?_); rotate_left; exact rfl) | ((with_reducible refine Mp.ix_tup (d := ?_) ?_ ?_); rotate_left; exact rfl) | ((with_reducible refine Mp.ix_lst (d := ?_) ?_ ?_); rotate_left; exact rfl) | ((with_reducible refine Mp.divmod_i ?_ ?_); exact (by decide)) | ((with_reducible refine Mp.ex_seq (k := ?_) (ds := ?_) ?_ ?_); rotate_left 2; exact rfl) | ((with_reducible refine Mp.ite_f ?_ ?_); exact rfl) | ((with_reducible refine Mp.ite_t ?_ ?_); exact rfl) | (dsimp only [Bool.not_true, Bool.not_false, Mp.revR]))))
local macro_rules
  | `(tactic| subst_eqs) => `(tactic| (repeat (first | ((with_reducible refine Mp.e_v (d := ?_) ?_ ?_); rotate_left; exact rfl) | (with_reducible refine Mp.e_int ?_) | (with_reducible refine Mp.e_bin ?_) | (with_reducible refine Mp.add_i ?_) | (with_reducible refine Mp.sub_i ?_) | ((with_reducible refine Mp.mul_r ?_ ?_); exact rfl) | ((with_reducible refine Mp.pow_i ?_ ?_); exact (by decide)) | ((with_reducible refine Mp.div_i ?_ ?_); exact (by decide)) | ((with_reducible refine Mp.mod_i ?_ ?_); exact (by decide)) | (with_reducible refine Mp.e_cmp ?_) | (with_reducible refine Mp.e_ix ?_) | (with_reducible refine Mp.e_c1 ?_) | (with_reducible refine Mp.e_c2 ?_) | ((with_reducible refine Mp.e_conI (i := ?_) ?_ ?_); rotate_left; exact rfl) | (with_reducible refine Mp.e_con ?_) | (with_reducible refine Mp.e_bl ?_) | (with_reducible refine Mp.e_str ?_) | (with_reducible refine Mp.e_non ?_) | (with_reducible refine Mp.a_nil ?_) | (with_reducible refine Mp.a_cons ?_) | (with_reducible refine Mp.e_call ?_) | (with_reducible refine Mp.e_one ?_) | (with_reducible refine Mp.e_isi ?_) | (with_reducible refine Mp.t_val ?_) | (with_reducible refine Mp.t_not ?_) | (with_reducible refine Mp.t_all ?_) | (with_reducible refine Mp.t_any ?_) | (with_reducible refine Mp.w_one ?_) | (with_reducible refine Mp.w_and ?_) | (with_reducible refine Mp.w_or ?_) | (with_reducible refine Mp.t_yes ?_) | (with_reducible refine Mp.o_non ?_) | (with_reducible refine Mp.b_nil ?_) | (with_reducible refine Mp.b_cons ?_) | (with_reducible refine Mp.s_asg ?_) | (with_reducible refine Mp.s_ret ?_) | (with_reducible refine Mp.s_do ?_) | (with_reducible refine Mp.s_fld ?_) | (with_reducible refine Mp.s_ix ?_) | (with_reducible refine Mp.s_pass ?_) | (with_reducible refine Mp.s_brk ?_) | (with_reducible refine Mp.s_cnt ?_) | (with_reducible refine Mp.s_retN ?_) | (with_reducible refine Mp.i_rng1 ?_) | (with_reducible refine Mp.i_seq ?_) | (with_reducible refine Mp.e_fld ?_) | (with_reducible refine Mp.e_meth ?_) | (with_reducible refine Mp.e_get2 ?_) | (with_reducible refine Mp.e_lnew ?_) | (with_reducible refine Mp.e_own ?_) | ((with_reducible refine Mp.and_le ?_ ?_); exact rfl) | (with_reducible refine Mp.e_lst ?_) | (with_reducible refine Mp.e_tup ?_) | (with_reducible refine Mp.e_appL ?_) | (with_reducible refine Mp.e_frz ?_) | (with_reducible refine Mp.e_sl ?_) | (with_reducible refine Mp.e_rev2 ?_) | (with_reducible refine Mp.e_ite ?_) | (with_reducible refine Mp.e_new ?_) | (with_reducible refine Mp.e_dnewT ?_) | (with_reducible refine Mp.e_dnewK ?_) | (with_reducible refine Mp.e_not ?_) | (with_reducible refine Mp.e_neg ?_) | (with_reducible refine Mp.e_isN ?_) | (with_reducible refine Mp.e_callK ?_) | (with_reducible refine Mp.e_methK ?_) | (with_reducible refine Mp.s_tryN ?_) | (with_reducible refine Mp.e_or ?_) | (with_reducible refine Mp.e_and ?_) | (with_reducible refine Mp.int_i ?_) | (with_reducible refine Mp.len_scr ?_) | (with_reducible refine Mp.len_tup ?_) | (with_reducible refine Mp.len_lst ?_) | ((with_reducible refine Mp.ex_some (a := ?_) ?_ ?_); rotate_left; exact rfl) | (dsimp only [Mp.RV.toV]) | (with_reducible refine Mp.o_some ?_) | (with_reducible refine Mp.ex_int ?_) | (with_reducible refine Mp.ex_str ?_) | (with_reducible refine Mp.e_lc1 ?_) | (with_reducible refine Mp.lcput ?_) | (with_reducible refine Mp.sl_t ?_) | (with_reducible refine Mp.sl_l ?_) | (with_reducible refine Mp.sl_n ?_) | (with_reducible refine Mp.tup_n ?_) | (with_reducible refine Mp.tup_t ?_) | (with_reducible refine Mp.tup_l ?_) | (with_reducible refine Mp.list_t ?_) | (with_reducible refine Mp.list_l ?_) | (with_reducible refine Mp.int_b ?_) | (with_reducible refine Mp.min_i ?_) | (with_reducible refine Mp.max_i ?_) | (with_reducible refine Mp.e_sidx ?_) | (with_reducible refine Mp.i_rev ?_) | (with_reducible refine Mp.and1_i ?_) | (with_reducible refine Mp.s_setLcO ?_) | (with_reducible refine Mp.ex_nl ?_) | (with_reducible refine Mp.e_newK ?_) | (with_reducible refine Mp.e_bits ?_) | (with_reducible refine Mp.s_setLcN ?_) | (with_reducible refine Mp.len_n ?_) | (with_reducible refine Mp.if_tt ?_) | (with_reducible refine Mp.if_ff ?_) | ((with_reducible refine Mp.mul_i ?_ ?_); exact rfl) | ((with_reducible refine Mp.ix_nl (d := ?_) ?_ ?_); rotate_left; exact rfl) | ((with_reducible refine Mp.ix_tup (d := ?_) ?_ ?_); rotate_left; exact rfl) | ((with_reducible refine Mp.ix_lst (d := ?_) ?_ ?_); rotate_left; exact rfl) | ((with_reducible refine Mp.divmod_i ?_ ?_); exact (by decide)) | ((with_reducible refine Mp.ex_seq (k := ?_) (ds := ?_) ?_ ?_); rotate_left 2; exact rfl) | ((with_reducible refine Mp.ite_f ?_ ?_); exact rfl) | ((with_reducible refine Mp.ite_t ?_ ?_); exact rfl) | (dsimp only [Bool.not_true, Bool.not_false, Mp.revR]))))
namespace L11
open PySem PySem.Spec PyProof.Rows L2 Mp
theorem one_len (c : Nat) : (⟨#[c]⟩ : Str).length = 1 := rfl
theorem occ_ok : ((List.range 26).all fun c => match Builtin.Str.occurrences "abcdefghijklmnopqrstuvwxyza" ⟨#[c + 97]⟩ 0 ("abcdefghijklmnopqrstuvwxyza" : Str).length 1 with
  | i :: _ => Nat.ble i 25
  | [] => false) = true := by decide +kernel
theorem occ_at {c : Nat} (h1 : 97 ≤ c) (h2 : c < 123) : ∃ i l, Builtin.Str.occurrences "abcdefghijklmnopqrstuvwxyza" ⟨#[c]⟩ 0 ("abcdefghijklmnopqrstuvwxyza" : Str).length 1 = i :: l ∧ i ≤ 25 := by
  have h := List.all_eq_true.mp occ_ok (c - 97) (List.mem_range.mpr (by omega))
  rw [show c - 97 + 97 = c by omega] at h
  split at h
  · rename_i i l e
    exact ⟨i, l, e, Nat.le_of_ble_eq_true h⟩
  · cases h
theorem letters2_ok : ("abcdefghijklmnopqrstuvwxyza" : Str).cps.toList.length = 27 ∧ ∀ c ∈ ("abcdefghijklmnopqrstuvwxyza" : Str).cps.toList, 97 ≤ c ∧ c < 123 := by decide +kernel

/-- figures to the base 256, the least first -/
def digs (n : Int) (k : Nat) : List Int := (List.range k).map fun j => n / 256 ^ j % 256
theorem digs_succ (n : Int) (k : Nat) : digs n (k + 1) = digs n k ++ [n / 256 ^ k % 256] := by
  unfold digs
  rw [List.range_succ, List.map_append]
  rfl
theorem digs_len (n : Int) (k : Nat) : (digs n k).length = k := by
  unfold digs
  rw [List.length_map, List.length_range]
theorem div_pow (n : Int) (k : Nat) : n / 256 ^ k / 256 = n / 256 ^ (k + 1) := by
  rw [Int.ediv_ediv_of_nonneg (Int.le_of_lt (Int.pow_pos (by decide))), ← Int.pow_succ]
theorem figures_ok (L : Nat) (n m : Int) (k : Nat) (em : m = k) (hk : k < 100000) (h : MHp) : WE (callN tb ds (L + 3) i_figures [.int n, .int m] h) fun r h1 => r = .tup ((digs n k).reverse.map MV.int) ∧ ∃ t, h1 = h ++ t := by
  refine call_ok (d := d_figures) rfl rfl ?_
  show WS (evB _ b_figures _ _) _
  unfold b_figures
  symm_saturate
  refine ⟨by constructor <;> omega, ?_⟩
  obtain rfl : k = m.toNat := by omega
  generalize hkk : m.toNat = k at *
  refine for_rng (n := k) (fun i en h3 => h3 = h ++ [.lst ((digs n i).map MV.int)] ∧ ∃ o4 o5 : Option MV, en = [some (.int n), some (.int m), some (.ref h.length), some (.int (n / 256 ^ i)), o4, o5]) ⟨rfl, none, none, by simp only [Int.pow_zero, Int.ediv_one]; rfl⟩ (fun i en h3 hi hh => ?_) fun en h3 hh => ?_
  · obtain ⟨rfl, o4, o5, rfl⟩ := hh
    refine ⟨_, rfl, ?_⟩
    symm_saturate
    refine ⟨_, _, rfl, lst_last, ?_⟩
    symm_saturate
    refine ⟨_, lst_last, by rw [List.length_map, digs_len]; omega, ?_⟩
    rw [set_last]
    symm_saturate
    refine ⟨by rw [digs_succ, List.map_append]; rfl, some (.int i), some (.int (n / 256 ^ i % 256)), ?_⟩
    rw [← div_pow]
    rfl
  · obtain ⟨rfl, o4, o5, rfl⟩ := hh
    symm_saturate
    refine ex_seq (k := true) (ds := (digs n k).map MV.int) (seq_ref lst_last) ?_
    symm_saturate
    exact ⟨by rw [List.map_reverse], _, rfl⟩
/-- the fewest octets: the least number, how many -/
def octR (l g : Int) : Nat → Int × Nat
  | 0 => (l, 0)
  | c + 1 => if (l + 256 - 1) / 256 > g / 256 then (l, c + 1) else octR ((l + 256 - 1) / 256) (g / 256) c
theorem octR_le (l g : Int) : ∀ c : Nat, (octR l g c).2 ≤ c
  | 0 => Nat.le_refl _
  | c + 1 => by
    unfold octR
    split
    · exact Nat.le_refl _
    · exact Nat.le_succ_of_le (octR_le _ _ c)
def octs (l w : Int) (c : Nat) : List Int := (digs (octR l (l + w - 1) c).1 (octR l (l + w - 1) c).2).reverse
theorem octets_ok (L : Nat) {h : MHp} {o i d : Nat} {l w : Int} {c : Nat} {kvs : List (List Key × MV)} (O : Co h o i) (I : Iv h i d l w c kvs) (hc : c < 100000) :
    WE (callN tb ds (L + 4) i_Coder_octets [.ref o] h) fun r h1 => r = .tup ((octs l w c).map MV.int) ∧ ∃ t, h1 = h ++ t := by
  refine call_ok (d := d_Coder_octets) rfl rfl ?_
  show WS (evB _ b_Coder_octets _ _) _
  unfold b_Coder_octets
  symm_saturate
  refine ex_some (fld_ok (d := .ref i) O (by decide +kernel) (by kernel_rfl)) ?_
  refine ⟨"Interval", i_Interval_state, cls_at I.o, by decide +kernel, is_ok I.o (by kernel_rfl), ?_⟩
  symm_saturate
  refine (ivstate_ok L I).mono fun r h1 ⟨e1, e2⟩ => ?_
  subst e1 e2
  symm_saturate
  with_reducible refine s_wh ?_
  unfold octs
  refine wh_loop (Inv := fun k e h3 => h3 = h1 ∧ ∃ (a b : Int) (o6 o7 : Option MV), e = [some (.ref o), some (.int a), some (.int b), some (.int l), some (.int w), some (.int k), o6, o7] ∧ k ≤ c ∧ octR a b k = octR l (l + w - 1) c) (fun k e h3 hh => ?_) 1000000 c _ _ (by omega) ⟨rfl, l, l + w - 1, none, none, by rfl, Nat.le_refl _, rfl⟩
  obtain ⟨rfl, a, b, o6, o7, rfl, hk, he⟩ := hh
  symm_saturate
  refine ite_w (fun hb => ?_) fun hb => ?_
  · have hb : (0 : Int) < k := of_decide_eq_true hb
    obtain ⟨k', rfl⟩ : ∃ k', k = k' + 1 := ⟨k - 1, by omega⟩
    refine ⟨Nat.succ_pos _, ?_⟩
    symm_saturate
    refine ite_w (fun hb2 => ?_) fun hb2 => ?_
    · have hb2 : (a + 256 - 1) / 256 > b / 256 := of_decide_eq_true hb2
      symm_saturate
      have e1 : octR a b (k' + 1) = (a, k' + 1) := if_pos hb2
      generalize hkk : ((k' + 1 : Nat) : Int) = m at *
      refine (figures_ok (L) a m (k' + 1) hkk.symm (by omega) _).mono fun r h4 ⟨e3, e4⟩ => ?_
      symm_saturate
      rw [← he, e1]
      exact ⟨e3, e4⟩
    · have hb2 : ¬ (a + 256 - 1) / 256 > b / 256 := of_decide_eq_false hb2
      symm_saturate
      have e1 : octR a b (k' + 1) = octR ((a + 256 - 1) / 256) (b / 256) k' := if_neg hb2
      refine ⟨rfl, (a + 256 - 1) / 256, b / 256, some (.int ((a + 256 - 1) / 256)), some (.int (b / 256)), ?_, by omega, by rw [← he, e1]; rfl⟩
      rw [show ((k' + 1 - 1 : Nat) : Int) = ((k' + 1 : Nat) : Int) - 1 by omega]
      rfl
  · have hb : ¬ (0 : Int) < k := of_decide_eq_false hb
    obtain rfl : k = 0 := by omega
    symm_saturate
    generalize hkk : ((0 : Nat) : Int) = m at *
    refine (figures_ok (L) a m 0 hkk.symm (by omega) _).mono fun r h4 ⟨e3, e4⟩ => ?_
    symm_saturate
    rw [← he]
    exact ⟨e3, e4⟩

theorem set_same {α : Type} {h : List α} {o : Nat} {a : α} (e : h[o]? = some a) : h.set o a = h := by
  apply List.ext_getElem?
  intro n
  by_cases hn : o = n
  · subst hn
    rw [List.getElem?_set_self (List.getElem?_eq_some_iff.mp e).1, e]
  · rw [List.getElem?_set_ne hn]
/-- an octet, 0 behind them all -/
def octA (src : List Int) (k : Nat) : Int := src.getD k 0
def takeN (src : List Int) : Nat → Nat → Int → Int
  | 0, _, x => x
  | n + 1, k, x => takeN src n (k + 1) (x * 256 + octA src k)
def deF (i : Nat) (src : List Int) (k : Nat) (x : Int) : List (Str × MV) := [("interval", .ref i), ("source", .tup (src.map MV.int)), ("taken", .int k), ("number", .int x)]
/-- the object at o is a decoder of these octets, k of them taken -/
def De (h : MHp) (o i : Nat) (src : List Int) (k : Nat) (x : Int) : Prop := h[o]? = some (.ins "Decoder" (deF i src k x))
theorem octA_at {src : List Int} {k : Nat} (h : k < src.length) : atI (src.map MV.int) (k : Int) = some (.int (octA src k)) := atI_nat (by
  rw [List.getElem?_map, List.getElem?_eq_getElem h]
  unfold octA
  rw [List.getD_eq_getElem?_getD, List.getElem?_eq_getElem h]; rfl)
theorem octA_no {src : List Int} {k : Nat} (h : ¬ k < src.length) : octA src k = 0 := by
  unfold octA
  rw [List.getD_eq_getElem?_getD, List.getElem?_eq_none (by omega)]; rfl
theorem take_ok (L : Nat) {h : MHp} {o i d : Nat} {l w : Int} {c k : Nat} {x : Int} {src : List Int} {kvs : List (List Key × MV)} (O : De h o i src k x) (I : Iv h i d l w c kvs) (hk : k ≤ c) (hc : c < 100000) :
    WE (callN tb ds (L + 3) i_Decoder_take_octets [.ref o] h) fun r h1 => r = .non ∧ h1 = h.set o (.ins "Decoder" (deF i src c (takeN src (c - k) k x))) := by
  refine call_ok (d := d_Decoder_take_octets) rfl rfl ?_
  show WS (evB _ b_Decoder_take_octets _ _) _
  unfold b_Decoder_take_octets
  have oi : o ≠ i := fun z => by
    have a := I.o
    unfold De at O
    rw [← z, O] at a
    cases a
  have ol : o < h.length := (List.getElem?_eq_some_iff.mp O).1
  subst_eqs
  with_reducible refine s_wh ?_
  refine wh_loop (Inv := fun n e h3 => ∃ (o1 : Option MV) (k' : Nat) (x' : Int), e = [some (.ref o), o1] ∧ h3 = h.set o (.ins "Decoder" (deF i src k' x')) ∧ k' + n = c ∧ takeN src n k' x' = takeN src (c - k) k x) (fun n e h3 hh => ?_) 1000000 (c - k) _ _ (by omega) ⟨none, k, x, by rfl, (set_same O).symm, by omega, rfl⟩
  obtain ⟨o1, k', x', rfl, rfl, hkn, he⟩ := hh
  have O3 : (h.set o (.ins "Decoder" (deF i src k' x')))[o]? = some (.ins "Decoder" (deF i src k' x')) := List.getElem?_set_self ol
  have I3 : (h.set o (.ins "Decoder" (deF i src k' x')))[i]? = some (.ins "Interval" (ivF l w c d)) := by rw [List.getElem?_set_ne oi]; exact I.o
  subst_eqs
  refine ex_some (fld_ok (d := .int k') O3 (by decide +kernel) (by kernel_rfl)) ?_
  subst_eqs
  refine ex_some (fld_ok (d := .ref i) O3 (by decide +kernel) (by kernel_rfl)) ?_
  refine ex_some (fld_ok (d := .int c) I3 (by decide +kernel) (by kernel_rfl)) ?_
  subst_eqs
  refine ite_w (fun hb => ?_) fun hb => ?_
  · have hb : (k' : Int) < c := of_decide_eq_true hb
    obtain ⟨n', rfl⟩ : ∃ n', n = n' + 1 := ⟨n - 1, by omega⟩
    refine ⟨Nat.succ_pos _, ?_⟩
    subst_eqs
    refine ex_some (fld_ok (d := .int k') O3 (by decide +kernel) (by kernel_rfl)) ?_
    subst_eqs
    refine ex_some (fld_ok (d := .tup (src.map .int)) O3 (by decide +kernel) (by kernel_rfl)) ?_
    subst_eqs
    rw [List.length_map]
    refine ite_w (fun hb2 => ?_) fun hb2 => ?_
    · have hb2 : (k' : Int) < src.length := of_decide_eq_true hb2
      subst_eqs
      refine ex_some (fld_ok (d := .tup (src.map .int)) O3 (by decide +kernel) (by kernel_rfl)) ?_
      subst_eqs
      refine ex_some (fld_ok (d := .int k') O3 (by decide +kernel) (by kernel_rfl)) ?_
      refine ix_tup (octA_at (by omega)) ?_
      subst_eqs
      refine ex_some (fld_ok (d := .int x') O3 (by decide +kernel) (by kernel_rfl)) ?_
      subst_eqs
      refine ex_some (fput_ok O3 (by decide +kernel) (by show 4 < 1000; decide)) ?_
      rw [List.set_set]
      have O4 : (h.set o (.ins "Decoder" (fPut (deF i src k' x') "number" (.int (x' * 256 + octA src k')))))[o]? = some (.ins "Decoder" (deF i src k' (x' * 256 + octA src k'))) := by
        rw [List.getElem?_set_self ol]
        kernel_rfl
      subst_eqs
      refine ex_some (fld_ok (d := .int k') O4 (by decide +kernel) (by kernel_rfl)) ?_
      subst_eqs
      refine ex_some (fput_ok O4 (by decide +kernel) (by show 4 < 1000; decide)) ?_
      rw [List.set_set]
      subst_eqs
      refine ⟨some (.int (octA src k')), k' + 1, x' * 256 + octA src k', by rfl, ?_, by omega, by rw [← he]; rfl⟩
      congr 2
    · have hb2 : ¬ (k' : Int) < src.length := of_decide_eq_false hb2
      have e0 : octA src k' = 0 := octA_no (by omega)
      subst_eqs
      refine ex_some (fld_ok (d := .int x') O3 (by decide +kernel) (by kernel_rfl)) ?_
      subst_eqs
      refine ex_some (fput_ok O3 (by decide +kernel) (by show 4 < 1000; decide)) ?_
      rw [List.set_set]
      have O4 : (h.set o (.ins "Decoder" (fPut (deF i src k' x') "number" (.int (x' * 256 + 0)))))[o]? = some (.ins "Decoder" (deF i src k' (x' * 256 + 0))) := by
        rw [List.getElem?_set_self ol]
        kernel_rfl
      subst_eqs
      refine ex_some (fld_ok (d := .int k') O4 (by decide +kernel) (by kernel_rfl)) ?_
      subst_eqs
      refine ex_some (fput_ok O4 (by decide +kernel) (by show 4 < 1000; decide)) ?_
      rw [List.set_set]
      subst_eqs
      refine ⟨some (.int 0), k' + 1, x' * 256 + octA src k', by rfl, ?_, by omega, by rw [← he]; rfl⟩
      rw [e0]
      congr 2
  · have hb : ¬ (k' : Int) < c := of_decide_eq_false hb
    obtain rfl : n = 0 := by omega
    obtain rfl : k' = c := by omega
    subst_eqs
    refine ⟨rfl, ?_⟩
    rw [← he]
    rfl
theorem deinit_ok (L : Nat) (h : MHp) (src : List Int) : WE (callN tb ds (L + 5) i_Decoder___init__ [.ref h.length, .tup (src.map MV.int)] (h ++ [.ins "Decoder" []])) fun r h1 => r = .non ∧ h1 = h ++ [.ins "Decoder" (deF (h.length + 1) src 4 (takeN src 4 0 0)), .ins "Interval" (ivF 0 4294967296 4 (h.length + 2)), .dT []] := by
  refine call_ok (d := d_Decoder___init__) rfl rfl ?_
  show WS (evB _ b_Decoder___init__ _ _) _
  unfold b_Decoder___init__
  have e : (h ++ [MO.ins "Decoder" []]).length = h.length + 1 := by simp
  subst_eqs
  refine WE.mono (ivinit_ok L (h ++ [.ins "Decoder" []])) (fun r h1 hh => ?_)
  obtain ⟨e1, e2⟩ := hh
  refine ⟨e1, ?_⟩
  rw [e] at e2 ⊢
  have l0 : h.length < h1.length := by rw [e2]; simp
  have O0 : h1[h.length]? = some (.ins "Decoder" []) := by rw [e2]; simp
  have E0 : h1 = h ++ [.ins "Decoder" [], .ins "Interval" (ivF 0 4294967296 4 (h.length + 2)), .dT []] := by rw [e2]; simp
  subst_eqs
  refine ex_some (fput_ok O0 (by decide +kernel) (by decide)) ?_
  have O1 : (h1.set h.length (.ins "Decoder" (fPut [] "interval" (.ref (h.length + 1)))))[h.length]? = some (.ins "Decoder" [("interval", .ref (h.length + 1))]) := by rw [List.getElem?_set_self l0]; rfl
  subst_eqs
  refine ex_some (fput_ok O1 (by decide +kernel) (by show 1 < 1000; decide)) ?_
  rw [List.set_set]
  have O2 : (h1.set h.length (.ins "Decoder" (fPut [("interval", .ref (h.length + 1))] "source" (.tup (src.map .int)))))[h.length]? = some (.ins "Decoder" [("interval", .ref (h.length + 1)), ("source", .tup (src.map .int))]) := by rw [List.getElem?_set_self l0]; kernel_rfl
  subst_eqs
  refine ex_some (fput_ok O2 (by decide +kernel) (by show 2 < 1000; decide)) ?_
  rw [List.set_set]
  have O3 : (h1.set h.length (.ins "Decoder" (fPut [("interval", .ref (h.length + 1)), ("source", .tup (src.map .int))] "taken" (.int 0))))[h.length]? = some (.ins "Decoder" [("interval", .ref (h.length + 1)), ("source", .tup (src.map .int)), ("taken", .int 0)]) := by rw [List.getElem?_set_self l0]; kernel_rfl
  subst_eqs
  refine ex_some (fput_ok O3 (by decide +kernel) (by show 3 < 1000; decide)) ?_
  rw [List.set_set]
  have e5 : fPut [("interval", MV.ref (h.length + 1)), ("source", .tup (src.map .int)), ("taken", .int 0)] "number" (.int 0) = deF (h.length + 1) src 0 0 := by kernel_rfl
  rw [e5]
  have O4 : De (h1.set h.length (.ins "Decoder" (deF (h.length + 1) src 0 0))) h.length (h.length + 1) src 0 0 := by unfold De; rw [List.getElem?_set_self l0]
  have I4 : Iv (h1.set h.length (.ins "Decoder" (deF (h.length + 1) src 0 0))) (h.length + 1) (h.length + 2) 0 4294967296 (4 : Nat) [] := by
    constructor
    · rw [List.getElem?_set_ne (by omega), E0]; simp
    · rw [List.getElem?_set_ne (by omega), E0]; simp
  subst_eqs
  refine ⟨"Decoder", i_Decoder_take_octets, cls_at O4, by decide +kernel, is_ok O4 (by kernel_rfl), ?_⟩
  subst_eqs
  refine (take_ok (L + 1) O4 I4 (by decide) (by decide)).mono fun r h2 ⟨e6, e7⟩ => ?_
  subst_eqs
  refine ⟨rfl, ?_⟩
  rw [e7, List.set_set, E0, List.set_append_right _ _ (Nat.le_refl _), Nat.sub_self]
  rfl
theorem destate_ok (L : Nat) {h : MHp} {o i d : Nat} {l w c : Int} {k : Nat} {x : Int} {src : List Int} {kvs : List (List Key × MV)} (O : De h o i src k x) (I : Iv h i d l w c kvs) :
    WE (callN tb ds (L + 4) i_Decoder_state [.ref o] h) fun r h1 => r = .tup [.int l, .int w, .int c] ∧ h1 = h := by
  refine call_ok (d := d_Decoder_state) rfl rfl ?_
  show WS (evB _ b_Decoder_state _ _) _
  unfold b_Decoder_state
  subst_eqs
  refine ex_some (fld_ok (d := .ref i) O (by decide +kernel) (by kernel_rfl)) ?_
  refine ⟨"Interval", i_Interval_state, cls_at I.o, by decide +kernel, is_ok I.o (by kernel_rfl), ?_⟩
  subst_eqs
  exact ivstate_ok L I
/-- the bit that a number tells -/
def gBit (x l w p : Int) : Int := if x - l < w / 4096 * p then 0 else 1
theorem get_ok (L : Nat) {h : MHp} {o i d : Nat} {l w : Int} {c : Nat} {x : Int} {src : List Int} {kvs : List (List Key × MV)} {ctx : List MV} {ks : List Key} (O : De h o i src c x) (I : Iv h i d l w c kvs) (hi : IntsV kvs) (hk : keysOf ctx = some ks) (hp : small (pOf kvs ks) = true) (hl : kvs.length < 1000000) (hc : c < 90000)
    (hw : 65536 ≤ (cutI l w c (pOf kvs ks) (gBit x l w (pOf kvs ks))).2.1) {l' w' : Int} {c' : Nat} (hs : shf (cutI l w c (pOf kvs ks) (gBit x l w (pOf kvs ks))) = (l', w', (c' : Int))) (hcc : c ≤ c' ∧ c' ≤ c + 1) :
    WE (callN tb ds (L + 6) i_Decoder_get [.ref o, .tup ctx] h) fun r h1 => r = .int (gBit x l w (pOf kvs ks)) ∧ De h1 o i src c' (takeN src (c' - c) c x) ∧ Iv h1 i d l' w' c' (kvPut kvs ks (.int (pNew (pOf kvs ks) (gBit x l w (pOf kvs ks))))) ∧ Keep [o, i, d] h h1 := by
  refine call_ok (d := d_Decoder_get) rfl rfl ?_
  show WS (evB _ b_Decoder_get _ _) _
  unfold b_Decoder_get
  have oi : o ≠ i := fun z => by
    have a := I.o
    unfold De at O
    rw [← z, O] at a
    cases a
  have od : o ≠ d := fun z => by
    have a := I.k
    unfold De at O
    rw [← z, O] at a
    cases a
  generalize hbb : gBit x l w (pOf kvs ks) = bit at *
  with_reducible refine b_cons ?_
  refine ws_cut (fun en h2 => en = [some (.ref o), some (.tup ctx), some (.int bit)] ∧ h2 = h) ?_ ?_
  · skip
    subst_eqs
    refine ex_some (fld_ok (d := .int x) O (by decide +kernel) (by kernel_rfl)) ?_
    subst_eqs
    refine ex_some (fld_ok (d := .ref i) O (by decide +kernel) (by kernel_rfl)) ?_
    refine ex_some (fld_ok (d := .int l) I.o (by decide +kernel) (by kernel_rfl)) ?_
    subst_eqs
    refine ex_some (fld_ok (d := .ref i) O (by decide +kernel) (by kernel_rfl)) ?_
    refine ⟨"Interval", i_Interval_cut, cls_at I.o, by decide +kernel, is_ok I.o (by kernel_rfl), ?_⟩
    subst_eqs
    refine (cut_ok (L + 1) I hi hk hp).mono fun r h1 ⟨e1, e2⟩ => ?_
    subst e1 e2
    subst_eqs
    refine ite_w (fun hb => ?_) fun hb => ?_
    · have hb : x - l < w / 4096 * pOf kvs ks := of_decide_eq_true hb
      have e : bit = 0 := by rw [← hbb]; exact if_pos hb
      subst e
      subst_eqs
      exact ⟨by rfl, rfl⟩
    · have hb : ¬ x - l < w / 4096 * pOf kvs ks := of_decide_eq_false hb
      have e : bit = 1 := by rw [← hbb]; exact if_neg hb
      subst e
      subst_eqs
      exact ⟨by rfl, rfl⟩
  rintro en h1 ⟨rfl, rfl⟩
  subst_eqs
  refine ex_some (fld_ok (d := .ref i) O (by decide +kernel) (by kernel_rfl)) ?_
  refine ⟨"Interval", i_Interval_narrow, cls_at I.o, by decide +kernel, is_ok I.o (by kernel_rfl), ?_⟩
  subst_eqs
  refine (narrow_ok L I hi hk hp hl hw).mono fun r h2 ⟨e1, I2, S2⟩ => ?_
  rw [hs] at I2
  have O2 : De h2 o i src c x := by
    unfold De
    rw [S2.o o oi od]
    exact O
  subst_eqs
  refine ⟨"Decoder", i_Decoder_take_octets, cls_at O2, by decide +kernel, is_ok O2 (by kernel_rfl), ?_⟩
  subst_eqs
  refine (take_ok (L + 2) O2 I2 hcc.1 (by omega)).mono fun r h3 ⟨e3, e4⟩ => ?_
  subst e3
  subst_eqs
  have ol : o < h2.length := (List.getElem?_eq_some_iff.mp O2).1
  refine ⟨rfl, ?_, ⟨?_, ?_⟩, ?_⟩
  · unfold De
    rw [e4, List.getElem?_set_self ol]
  · rw [e4, List.getElem?_set_ne oi]
    exact I2.o
  · rw [e4, List.getElem?_set_ne od]
    exact I2.k
  · rw [e4]
    exact Keep.trans (fun n y hn hy => by
      rw [S2.o n (fun z => hn (by rw [z]; simp)) (fun z => hn (by rw [z]; simp))]
      exact hy) (Keep.set (by simp))

/-- the least number of so many figures less -/
def ceilP (l : Int) (j : Nat) : Int := (l + 256 ^ j - 1) / 256 ^ j
theorem pw_pos (j : Nat) : (0 : Int) < 256 ^ j := Int.pow_pos (by decide)
theorem ceil_step (l : Int) (j : Nat) : (ceilP l j + 256 - 1) / 256 = ceilP l (j + 1) := by
  unfold ceilP
  have hp := pw_pos j
  have e1 : (l + 256 ^ j - 1) / 256 ^ j + 256 - 1 = (l + 256 ^ j - 1 + 255 * 256 ^ j) / 256 ^ j := by
    rw [Int.add_mul_ediv_right _ _ (Int.ne_of_gt hp)]
    omega
  rw [e1, Int.ediv_ediv_of_nonneg (Int.le_of_lt hp), ← Int.pow_succ]
  congr 1
  rw [Int.pow_succ]
  omega
theorem ceil_gt (l w : Int) (j : Nat) : ceilP l j > (l + w - 1) / 256 ^ j ↔ ceilP l j * 256 ^ j ≥ l + w := by
  have h := Int.ediv_lt_iff_lt_mul (a := l + w - 1) (b := ceilP l j) (pw_pos j)
  constructor
  · intro z
    have := h.mp z
    omega
  · intro z
    exact h.mpr (by omega)
theorem octR_stop {l w : Int} {c j : Nat} (h : ceilP l (j + 1) > (l + w - 1) / 256 ^ (j + 1)) : octR (ceilP l j) ((l + w - 1) / 256 ^ j) (c + 1) = (ceilP l j, c + 1) := by
  unfold octR
  rw [ceil_step, div_pow, if_pos h]
theorem octR_go {l w : Int} {c j : Nat} (h : ¬ ceilP l (j + 1) > (l + w - 1) / 256 ^ (j + 1)) : octR (ceilP l j) ((l + w - 1) / 256 ^ j) (c + 1) = octR (ceilP l (j + 1)) ((l + w - 1) / 256 ^ (j + 1)) c := by
  conv => lhs; unfold octR
  rw [ceil_step, div_pow, if_neg h]
theorem ceil_zero (l : Int) : ceilP l 0 = l := by
  unfold ceilP
  rw [Int.pow_zero, Int.ediv_one]
  omega
theorem log_pw (j : Nat) : ((256 : Int) ^ j).natAbs.log2 = 8 * j := by
  rw [Int.natAbs_pow, show Int.natAbs 256 = 2 ^ 8 from rfl, ← Nat.pow_mul, Nat.log2_two_pow]
theorem log_le {a b : Nat} (h : a ≤ b) : a.log2 ≤ b.log2 := by
  by_cases ha : a = 0
  · subst ha
    rw [Nat.log2_zero]
    exact Nat.zero_le _
  · have hb : b ≠ 0 := by omega
    exact (Nat.le_log2 hb).mpr (Nat.le_trans (Nat.log2_self_le ha) h)
theorem ceil_log {l : Int} {c j : Nat} (h0 : 0 ≤ l) (h1 : l ≤ 256 ^ c) : (ceilP l j).natAbs.log2 ≤ 8 * c := by
  have hp := pw_pos j
  have a0 : 0 ≤ ceilP l j := Int.ediv_nonneg (by omega) (by omega)
  have a1 : ceilP l j ≤ 256 ^ c := by
    unfold ceilP
    have q : (l + 256 ^ j - 1) / 256 ^ j < l + 1 ∨ l = 0 := by
      by_cases z : l = 0
      · exact .inr z
      · refine .inl (Int.ediv_lt_of_lt_mul hp ?_)
        have : (l + 1) * 256 ^ j = l * 256 ^ j + 256 ^ j := by rw [Int.add_mul, Int.one_mul]
        have h2 : l ≤ l * 256 ^ j := by
          have := Int.mul_le_mul_of_nonneg_left (show (1 : Int) ≤ 256 ^ j by omega) h0
          omega
        omega
    rcases q with q | q
    · omega
    · subst q
      have : (0 + 256 ^ j - 1 : Int) / 256 ^ j = 0 := Int.ediv_eq_zero_of_lt (by omega) (by omega)
      rw [this]
      exact Int.le_of_lt (pw_pos c)
  have := log_le (a := (ceilP l j).natAbs) (b := ((256 : Int) ^ c).natAbs) (by omega)
  rw [log_pw] at this
  exact this
theorem due_ok (L : Nat) (h : MHp) (l w : Int) (c : Nat) (h0 : 0 ≤ l) (h1 : l ≤ 256 ^ c) (hc : c ≤ 1000) (m : Int) (hm : m = c) : WE (callN tb ds (L + 3) i__law_octets [.tup [.int l, .int w, .int m]] h) fun r h1 => r = .tup ((octs l w c).map MV.int) ∧ h1 = h := by
  refine call_ok (d := d__law_octets) rfl rfl ?_
  show WS (evB _ b__law_octets _ _) _
  unfold b__law_octets
  subst_eqs
  have hoc := octR_le l (l + w - 1) c
  refine ws_cut (fun en h2 => h2 = h ∧ ∃ o2 o4 o6 o7 : Option MV, en = [some (.tup [.int l, .int w, .int m]), some (.int (octR l (l + w - 1) c).1), o2, some (.int (octR l (l + w - 1) c).2), o4, none, o6, o7]) ?_ ?_
  · symm_saturate
    refine ⟨by constructor <;> omega, ?_⟩
    refine for_rng (n := m.toNat) (fun j en h2 => h2 = h ∧ ∃ o4 o6 o7 : Option MV, ∃ k : Int, en = [some (.tup [.int l, .int w, .int m]), some (.int (ceilP l j)), some (.int (256 ^ j)), some (.int k), o4, none, o6, o7] ∧ k = c - j ∧ octR (ceilP l j) ((l + w - 1) / 256 ^ j) (c - j) = octR l (l + w - 1) c) ⟨rfl, none, none, none, m, by rw [ceil_zero]; rfl, by omega, by rw [ceil_zero, Int.pow_zero, Int.ediv_one]; rfl⟩ (fun j en h2 hj hh => ?_) fun en h2 hh => ?_
    · obtain ⟨rfl, o4, o6, o7, k, rfl, hk, he⟩ := hh
      obtain ⟨c', hc'⟩ : ∃ c', c - j = c' + 1 := ⟨c - j - 1, by omega⟩
      rw [hc'] at he
      refine ⟨_, rfl, ?_⟩
      subst_eqs
      rw [← Int.pow_succ]
      refine div_i ⟨pw_pos _, by rw [log_pw]; omega⟩ ?_
      subst_eqs
      refine ws_cut (fun en h3 => h3 = h2 ∧ ∃ o4 : Option MV, ¬ ceilP l (j + 1) > (l + w - 1) / 256 ^ (j + 1) ∧ en = [some (.tup [.int l, .int w, .int m]), some (.int (ceilP l j)), some (.int (256 ^ j)), some (.int k), o4, none, some (.int (256 ^ (j + 1))), some (.int (ceilP l (j + 1)))]) ?_ ?_
      · symm_saturate
        refine mul_w (by
          have := ceil_log (j := j + 1) h0 h1
          rw [log_pw]
          show (ceilP l (j + 1)).natAbs.log2 + _ < _
          omega) ?_
        symm_saturate
        refine ite_w (fun hb => ?_) fun hb => ?_
        · have hb : ceilP l (j + 1) * 256 ^ (j + 1) ≥ l + w := of_decide_eq_true hb
          have hb := (ceil_gt l w (j + 1)).mpr hb
          symm_saturate
          rw [octR_stop hb] at he
          refine ⟨rfl, some (.int (256 ^ j)), some (.int j), some (.int (256 ^ (j + 1))), some (.int (ceilP l (j + 1))), ?_⟩
          rw [← he]
          rw [hk]
          rw [show ((c : Int) - j) = ((c' + 1 : Nat) : Int) by omega]
          rfl
        · have hb : ¬ ceilP l (j + 1) * 256 ^ (j + 1) ≥ l + w := of_decide_eq_false hb
          have hb : ¬ ceilP l (j + 1) > (l + w - 1) / 256 ^ (j + 1) := fun z => hb ((ceil_gt l w (j + 1)).mp z)
          symm_saturate
          exact ⟨rfl, some (.int j), hb, by rfl⟩
      · rintro en h3 ⟨rfl, o4, hb, rfl⟩
        symm_saturate
        rw [octR_go hb] at he
        exact ⟨rfl, o4, some (.int (256 ^ (j + 1))), some (.int (ceilP l (j + 1))), k - 1, by rfl, by omega, by rw [show c - (j + 1) = c' by omega]; exact he⟩
    · obtain ⟨rfl, o4, o6, o7, k, rfl, hk, he⟩ := hh
      rw [show m.toNat = c by omega] at he hk ⊢
      rw [show c - c = 0 by omega] at he
      have e2 : octR l (l + w - 1) c = (ceilP l c, 0) := by rw [← he]; rfl
      refine ⟨rfl, some (.int (256 ^ c)), o4, o6, o7, ?_⟩
      rw [e2, hk, show ((c : Int) - c) = ((0 : Nat) : Int) by omega]
  · rintro en h2 ⟨rfl, o2, o4, o6, o7, rfl⟩
    unfold octs
    generalize (octR l (l + w - 1) c) = nk at *
    obtain ⟨n, k⟩ := nk
    have hoc : k ≤ c := hoc
    dsimp only
    generalize hkz : ((k : Nat) : Int) = kz at *
    symm_saturate
    refine ⟨by constructor <;> omega, ?_⟩
    refine for_rng (n := kz.toNat) (fun j en h3 => h3 = h2 ∧ ∃ o4 : Option MV, en = [some (.tup [.int l, .int w, .int m]), some (.int (n / 256 ^ j)), o2, some (.int kz), o4, some (.lst ((digs n j).reverse.map MV.int)), o6, o7]) ⟨rfl, o4, by rw [Int.pow_zero, Int.ediv_one]; rfl⟩ (fun j en h3 hj hh => ?_) fun en h3 hh => ?_
    · obtain ⟨rfl, o4, rfl⟩ := hh
      refine ⟨_, rfl, ?_⟩
      symm_saturate
      refine add_nl (by show 1 + _ ≤ _; rw [List.length_map, List.length_reverse, digs_len]; omega) ?_
      symm_saturate
      refine ⟨rfl, some (.int j), ?_⟩
      rw [← div_pow, digs_succ, List.reverse_append, List.map_append]
      rfl
    · obtain ⟨rfl, o4, rfl⟩ := hh
      rw [show kz.toNat = k by omega]
      symm_saturate
      exact ⟨rfl, rfl⟩

/-! ### where the interval goes -/
def cw1 (w p bit : Int) : Int := if bit = 0 then w / 4096 * p else w - w / 4096 * p
def cl1 (l w p bit : Int) : Int := if bit = 0 then l else l + w / 4096 * p
def dl (w p bit : Int) : Nat := if cw1 w p bit < 16777216 then 1 else 0
structure Sn where
  l : Int
  w : Int
  c : Nat
  kv : List (List Key × MV)
def Sn.nxt (s : Sn) (ks : List Key) (bit : Int) : Sn := ⟨cl1 s.l s.w (pOf s.kv ks) bit * 256 ^ dl s.w (pOf s.kv ks) bit, cw1 s.w (pOf s.kv ks) bit * 256 ^ dl s.w (pOf s.kv ks) bit, s.c + dl s.w (pOf s.kv ks) bit, kvPut s.kv ks (.int (pNew (pOf s.kv ks) bit))⟩
theorem shf_nxt (s : Sn) (ks : List Key) (bit : Int) : shf (cutI s.l s.w s.c (pOf s.kv ks) bit) = ((s.nxt ks bit).l, (s.nxt ks bit).w, ((s.nxt ks bit).c : Int)) := by
  have e : cutI s.l s.w s.c (pOf s.kv ks) bit = (cl1 s.l s.w (pOf s.kv ks) bit, cw1 s.w (pOf s.kv ks) bit, (s.c : Int)) := by
    unfold cutI cl1 cw1
    by_cases h : bit = 0
    · rw [if_pos h, if_pos h, if_pos h]
    · rw [if_neg h, if_neg h, if_neg h]
  rw [e]
  unfold shf Sn.nxt dl
  by_cases h : cw1 s.w (pOf s.kv ks) bit < 16777216
  · rw [if_pos h, if_pos h]
    simp only [Int.pow_succ, Int.pow_zero, Int.one_mul]
    rfl
  · rw [if_neg h, if_neg h]
    simp only [Int.pow_zero, Int.mul_one]
    rfl
/-- what keeps -/
structure Ok (s : Sn) (K : Nat) : Prop where
  w0 : 16777216 ≤ s.w
  rg : RngV s.kv
  l0 : 0 ≤ s.l
  l1 : s.l + s.w ≤ 256 ^ s.c
  c1 : s.c ≤ 4 + K
  ln : s.kv.length ≤ K
theorem Ok.up {s : Sn} {K K2 : Nat} (h : Ok s K) (hk : K ≤ K2) : Ok s K2 := ⟨h.w0, h.rg, h.l0, h.l1, Nat.le_trans h.c1 (by omega), Nat.le_trans h.ln hk⟩
def Sn.one : Sn := ⟨0, 4294967296, 4, []⟩
theorem ok_one : Ok Sn.one 0 := ⟨by decide, RngV.nil, by decide, by decide, by decide, Nat.le_refl _⟩
theorem dl_le (w p bit : Int) : dl w p bit ≤ 1 := by
  unfold dl
  split <;> omega
theorem parts {s : Sn} {K : Nat} (h : Ok s K) (ks : List Key) (bit : Int) : s.l ≤ cl1 s.l s.w (pOf s.kv ks) bit ∧ cl1 s.l s.w (pOf s.kv ks) bit + cw1 s.w (pOf s.kv ks) bit ≤ s.l + s.w ∧ 126976 ≤ cw1 s.w (pOf s.kv ks) bit := by
  have hp := h.rg.p ks
  have hq : 4096 ≤ s.w / 4096 := by have := h.w0; omega
  have a : s.w / 4096 * 31 ≤ s.w / 4096 * pOf s.kv ks := Int.mul_le_mul_of_nonneg_left hp.1 (by omega)
  have b : s.w / 4096 * pOf s.kv ks ≤ s.w / 4096 * 4065 := Int.mul_le_mul_of_nonneg_left hp.2 (by omega)
  unfold cl1 cw1
  by_cases z : bit = 0
  · rw [if_pos z, if_pos z]
    omega
  · rw [if_neg z, if_neg z]
    omega
theorem Ok.nxt {s : Sn} {K : Nat} (h : Ok s K) (ks : List Key) (bit : Int) : Ok (s.nxt ks bit) (K + 1) := by
  obtain ⟨a, b, c⟩ := parts h ks bit
  have hl0 := h.l0
  have hl1 := h.l1
  have hc1 := h.c1
  have hd := dl_le s.w (pOf s.kv ks) bit
  have hp := pw_pos (dl s.w (pOf s.kv ks) bit)
  refine ⟨?_, h.rg.put ks bit, ?_, ?_, ?_, Nat.le_trans kvPut_len (Nat.succ_le_succ h.ln)⟩
  · show 16777216 ≤ cw1 s.w (pOf s.kv ks) bit * 256 ^ dl s.w (pOf s.kv ks) bit
    unfold dl
    split
    · rw [Int.pow_succ, Int.pow_zero]; omega
    · rw [Int.pow_zero]; omega
  · exact Int.mul_nonneg (by omega) (by omega)
  · show cl1 s.l s.w (pOf s.kv ks) bit * 256 ^ dl s.w (pOf s.kv ks) bit + cw1 s.w (pOf s.kv ks) bit * 256 ^ dl s.w (pOf s.kv ks) bit ≤ 256 ^ (s.c + dl s.w (pOf s.kv ks) bit)
    rw [← Int.add_mul, Int.pow_add]
    exact Int.mul_le_mul_of_nonneg_right (by omega) (by omega)
  · show s.c + dl s.w (pOf s.kv ks) bit ≤ 4 + (K + 1)
    omega
abbrev Sq := List (List Key × Int)
def Sn.run (s : Sn) : Sq → Sn
  | [] => s
  | q :: r => (s.nxt q.1 q.2).run r
theorem run_snoc (s : Sn) (a : Sq) (q : List Key × Int) : s.run (a ++ [q]) = (s.run a).nxt q.1 q.2 := by
  induction a generalizing s with
  | nil => rfl
  | cons x a ih => exact ih _
theorem Ok.run {s : Sn} {K : Nat} (h : Ok s K) (a : Sq) : Ok (s.run a) (K + a.length) := by
  induction a generalizing s K with
  | nil => exact h
  | cons x a ih =>
    have := ih (h.nxt x.1 x.2)
    rw [show K + 1 + a.length = K + (x :: a).length by rw [List.length_cons]; omega] at this
    exact this
/-- t lies within s -/
structure Nest (s t : Sn) : Prop where
  c : s.c ≤ t.c
  lo : s.l * 256 ^ (t.c - s.c) ≤ t.l
  hi : t.l + t.w ≤ (s.l + s.w) * 256 ^ (t.c - s.c)
theorem Nest.refl (s : Sn) : Nest s s := ⟨Nat.le_refl _, by rw [Nat.sub_self, Int.pow_zero, Int.mul_one]; exact Int.le_refl _, by rw [Nat.sub_self, Int.pow_zero, Int.mul_one]; exact Int.le_refl _⟩
theorem Nest.step {s t : Sn} {K : Nat} (h : Ok s K) (ks : List Key) (bit : Int) (n : Nest (s.nxt ks bit) t) : Nest s t ∧ cl1 s.l s.w (pOf s.kv ks) bit * 256 ^ (t.c - s.c) ≤ t.l ∧ t.l + t.w ≤ (cl1 s.l s.w (pOf s.kv ks) bit + cw1 s.w (pOf s.kv ks) bit) * 256 ^ (t.c - s.c) := by
  obtain ⟨a, b, _⟩ := parts h ks bit
  have n1 : s.c + dl s.w (pOf s.kv ks) bit ≤ t.c := n.c
  have n2 : cl1 s.l s.w (pOf s.kv ks) bit * 256 ^ dl s.w (pOf s.kv ks) bit * 256 ^ (t.c - (s.c + dl s.w (pOf s.kv ks) bit)) ≤ t.l := n.lo
  have n3 : t.l + t.w ≤ (cl1 s.l s.w (pOf s.kv ks) bit * 256 ^ dl s.w (pOf s.kv ks) bit + cw1 s.w (pOf s.kv ks) bit * 256 ^ dl s.w (pOf s.kv ks) bit) * 256 ^ (t.c - (s.c + dl s.w (pOf s.kv ks) bit)) := n.hi
  rw [Int.mul_assoc, ← Int.pow_add, show dl s.w (pOf s.kv ks) bit + (t.c - (s.c + dl s.w (pOf s.kv ks) bit)) = t.c - s.c by omega] at n2
  rw [← Int.add_mul, Int.mul_assoc, ← Int.pow_add, show dl s.w (pOf s.kv ks) bit + (t.c - (s.c + dl s.w (pOf s.kv ks) bit)) = t.c - s.c by omega] at n3
  have hp := pw_pos (t.c - s.c)
  refine ⟨⟨by omega, Int.le_trans (Int.mul_le_mul_of_nonneg_right a (by omega)) n2, Int.le_trans n3 (Int.mul_le_mul_of_nonneg_right b (by omega))⟩, n2, n3⟩
theorem nest_run {s : Sn} {K : Nat} (h : Ok s K) (a : Sq) : Nest s (s.run a) := by
  induction a generalizing s K with
  | nil => exact Nest.refl s
  | cons x a ih => exact (Nest.step h x.1 x.2 (ih (h.nxt x.1 x.2))).1
/-! ### the fewest octets tell a number within -/
theorem octR_in {l g : Int} (c : Nat) (h : l ≤ g) : l ≤ (octR l g c).1 * 256 ^ (c - (octR l g c).2) ∧ (octR l g c).1 * 256 ^ (c - (octR l g c).2) ≤ g := by
  induction c generalizing l g with
  | zero =>
    show l ≤ l * 256 ^ (0 - 0) ∧ l * 256 ^ (0 - 0) ≤ g
    rw [Nat.sub_self, Int.pow_zero, Int.mul_one]
    exact ⟨Int.le_refl _, h⟩
  | succ c ih =>
    unfold octR
    split
    · show l ≤ l * 256 ^ (c + 1 - (c + 1)) ∧ l * 256 ^ (c + 1 - (c + 1)) ≤ g
      rw [Nat.sub_self, Int.pow_zero, Int.mul_one]
      exact ⟨Int.le_refl _, h⟩
    · rename_i hc
      have h2 : (l + 256 - 1) / 256 ≤ g / 256 := by omega
      obtain ⟨a, b⟩ := ih h2
      have hk := octR_le ((l + 256 - 1) / 256) (g / 256) c
      generalize octR ((l + 256 - 1) / 256) (g / 256) c = nk at a b hk ⊢
      rw [show c + 1 - nk.2 = (c - nk.2) + 1 by omega, Int.pow_succ, ← Int.mul_assoc]
      omega
/-- the number that a state's octets tell, written with all its figures -/
def Sn.X (s : Sn) : Int := (octR s.l (s.l + s.w - 1) s.c).1 * 256 ^ (s.c - (octR s.l (s.l + s.w - 1) s.c).2)
theorem X_in {s : Sn} {K : Nat} (h : Ok s K) : s.l ≤ s.X ∧ s.X < s.l + s.w := by
  have hw := h.w0
  have := octR_in (l := s.l) (g := s.l + s.w - 1) s.c (by omega)
  unfold Sn.X
  omega
theorem digit_at (n : Int) (k i : Nat) : octA (digs n k).reverse i = if i < k then n / 256 ^ (k - 1 - i) % 256 else 0 := by
  by_cases h : i < k
  · rw [if_pos h]
    unfold octA
    rw [List.getD_eq_getElem?_getD, List.getElem?_reverse (by rw [digs_len]; exact h), digs_len]
    unfold digs
    rw [List.getElem?_map, List.getElem?_range (by omega)]
    rfl
  · rw [if_neg h]
    exact octA_no (by rw [List.length_reverse, digs_len]; exact h)
theorem take_X {s : Sn} {K : Nat} (h : Ok s K) (src : List Int) (hsrc : ∀ i, octA src i = octA (octs s.l s.w s.c) i) (m j : Nat) (hj : j + m ≤ s.c) : takeN src m j (s.X / 256 ^ (s.c - j)) = s.X / 256 ^ (s.c - (j + m)) := by
  induction m generalizing j with
  | zero => rfl
  | succ m ih =>
    show takeN src m (j + 1) (s.X / 256 ^ (s.c - j) * 256 + octA src j) = _
    have e : s.X / 256 ^ (s.c - j) * 256 + octA src j = s.X / 256 ^ (s.c - (j + 1)) := by
      rw [hsrc]
      unfold octs
      rw [digit_at]
      have e1 : s.X / 256 ^ (s.c - j) = s.X / 256 ^ (s.c - (j + 1)) / 256 := by
        rw [div_pow, show s.c - (j + 1) + 1 = s.c - j by omega]
      have e2 : (if j < (octR s.l (s.l + s.w - 1) s.c).2 then (octR s.l (s.l + s.w - 1) s.c).1 / 256 ^ ((octR s.l (s.l + s.w - 1) s.c).2 - 1 - j) % 256 else 0) = s.X / 256 ^ (s.c - (j + 1)) % 256 := by
        have hk := octR_le s.l (s.l + s.w - 1) s.c
        unfold Sn.X
        generalize octR s.l (s.l + s.w - 1) s.c = nk at hk ⊢
        split
        · rename_i hjk
          congr 1
          rw [show s.c - (j + 1) = (s.c - nk.2) + (nk.2 - 1 - j) by omega, Int.pow_add, ← Int.ediv_ediv_of_nonneg (Int.le_of_lt (pw_pos _)), Int.mul_ediv_cancel _ (Int.ne_of_gt (pw_pos _))]
        · rename_i hjk
          rw [show s.c - nk.2 = (s.c - (j + 1)) + 1 + (j - nk.2) by omega, Int.pow_add, Int.pow_succ, Int.mul_comm (256 ^ (s.c - (j + 1))) 256]
          rw [show nk.1 * (256 * 256 ^ (s.c - (j + 1)) * 256 ^ (j - nk.2)) = (nk.1 * 256 ^ (j - nk.2) * 256) * 256 ^ (s.c - (j + 1)) by
            rw [Int.mul_assoc, Int.mul_comm (256 ^ (s.c - (j + 1))), ← Int.mul_assoc 256, ← Int.mul_assoc, Int.mul_comm 256 (256 ^ (j - nk.2)), ← Int.mul_assoc]]
          rw [Int.mul_ediv_cancel _ (Int.ne_of_gt (pw_pos _)), Int.mul_emod_left]
      rw [e2, e1]
      omega
    rw [e, ih (j + 1) (by omega), show j + 1 + m = j + (m + 1) by omega]
theorem take_X0 {s : Sn} {K : Nat} (h : Ok s K) (src : List Int) (hsrc : ∀ i, octA src i = octA (octs s.l s.w s.c) i) (m : Nat) (hm : m ≤ s.c) : takeN src m 0 0 = s.X / 256 ^ (s.c - m) := by
  have hx := X_in h
  have e : s.X / 256 ^ (s.c - 0) = 0 := Int.ediv_eq_zero_of_lt (by have := h.l0; omega) (by have := h.l1; rw [Nat.sub_zero]; omega)
  have := take_X h src hsrc m 0 (by omega)
  rw [e, Nat.zero_add] at this
  exact this
/-- the next bit is got -/
theorem bit_got {s f : Sn} {K Kf : Nat} (h : Ok s K) (hf : Ok f Kf) {ks : List Key} {bit : Int} (hb : bit = 0 ∨ bit = 1) (n : Nest (s.nxt ks bit) f) : gBit (f.X / 256 ^ (f.c - s.c)) s.l s.w (pOf s.kv ks) = bit := by
  obtain ⟨_, a, b⟩ := Nest.step h ks bit n
  obtain ⟨x1, x2⟩ := X_in hf
  have hp := pw_pos (f.c - s.c)
  have y1 : cl1 s.l s.w (pOf s.kv ks) bit ≤ f.X / 256 ^ (f.c - s.c) := (Int.le_ediv_iff_mul_le hp).mpr (by omega)
  have y2 : f.X / 256 ^ (f.c - s.c) < cl1 s.l s.w (pOf s.kv ks) bit + cw1 s.w (pOf s.kv ks) bit := Int.ediv_lt_of_lt_mul hp (by omega)
  unfold gBit
  unfold cl1 at y1 y2
  unfold cw1 at y2
  rcases hb with rfl | rfl
  · rw [if_pos rfl, if_pos rfl] at y2
    rw [if_pos (by omega)]
  · rw [if_neg (by decide)] at y1
    rw [if_neg (by omega)]
theorem octA_app (src : List Int) (k i : Nat) : octA (src ++ List.replicate k 0) i = octA src i := by
  unfold octA
  rw [List.getD_eq_getElem?_getD, List.getD_eq_getElem?_getD]
  by_cases h : i < src.length
  · rw [List.getElem?_append_left h]
  · rw [List.getElem?_append_right (by omega), List.getElem?_eq_none (l := src) (by omega)]
    by_cases h2 : i - src.length < k
    · rw [List.getElem?_eq_getElem (by rw [List.length_replicate]; exact h2), List.getElem_replicate]
      rfl
    · rw [List.getElem?_eq_none (by rw [List.length_replicate]; omega)]

/-! ### coder and decoder along a sequence -/
structure Kc (h : MHp) (o i d : Nat) (s : Sn) : Prop where
  co : Co h o i
  iv : Iv h i d s.l s.w s.c s.kv
theorem ne_of {h : MHp} {a b : Nat} {u v : MO} (h1 : h[a]? = some u) (h2 : h[b]? = some v) (n : u ≠ v) : a ≠ b := fun z => by
  rw [z, h2] at h1
  exact n (Option.some.inj h1).symm
theorem Kc.keep {h h1 : MHp} {o i d : Nat} {s : Sn} {ns : List Nat} (P : Kc h o i d s) (k : Keep ns h h1) (hn : o ∉ ns ∧ i ∉ ns ∧ d ∉ ns) : Kc h1 o i d s := ⟨k _ _ hn.1 P.co, ⟨k _ _ hn.2.1 P.iv.o, k _ _ hn.2.2 P.iv.k⟩⟩
theorem Kc.bd {h : MHp} {o i d : Nat} {s : Sn} (P : Kc h o i d s) : o < h.length ∧ i < h.length ∧ d < h.length := ⟨(List.getElem?_eq_some_iff.mp P.co).1, (List.getElem?_eq_some_iff.mp P.iv.o).1, (List.getElem?_eq_some_iff.mp P.iv.k).1⟩
theorem same_keep {h h1 : MHp} {i d : Nat} (S : Same i d h h1) : Keep [i, d] h h1 := fun n x hn hx => by
  rw [S.o n (fun z => hn (by rw [z]; simp)) (fun z => hn (by rw [z]; simp))]
  exact hx
theorem kput_ok (L : Nat) {h : MHp} {o i d : Nat} {s : Sn} {K : Nat} {ctx : List MV} {ks : List Key} {bit : Int} (P : Kc h o i d s) (A : Ok s K) (hK : K ≤ 100000) (hk : keysOf ctx = some ks) : WE (callN tb ds (L + 6) i_Coder_put [.ref o, .tup ctx, .int bit] h) fun r h1 => r = .non ∧ Kc h1 o i d (s.nxt ks bit) ∧ Keep [i, d] h h1 ∧ h1.length = h.length := by
  have hp := A.rg.p ks
  have hw := cut_w (l := s.l) (c := s.c) (bit := bit) A.w0 hp.1 hp.2
  have hl := A.ln
  refine (put_ok L P.co P.iv A.rg.ints hk (small_p hp.1 hp.2) (by omega) (by omega)).mono fun r h1 ⟨e1, I1, S1⟩ => ?_
  rw [shf_nxt] at I1
  refine ⟨e1, ⟨?_, I1⟩, same_keep S1, S1.l⟩
  have n1 : o ≠ i := ne_of P.co P.iv.o (fun z => nomatch z)
  have n2 : o ≠ d := ne_of P.co P.iv.k (fun z => nomatch z)
  show h1[o]? = _
  rw [S1.o o n1 n2]
  exact P.co
structure Kd (h : MHp) (o i d : Nat) (src : List Int) (s f : Sn) : Prop where
  de : De h o i src s.c (f.X / 256 ^ (f.c - s.c))
  iv : Iv h i d s.l s.w s.c s.kv
theorem Kd.keep {h h1 : MHp} {o i d : Nat} {src : List Int} {s f : Sn} {ns : List Nat} (P : Kd h o i d src s f) (k : Keep ns h h1) (hn : o ∉ ns ∧ i ∉ ns ∧ d ∉ ns) : Kd h1 o i d src s f := ⟨k _ _ hn.1 P.de, ⟨k _ _ hn.2.1 P.iv.o, k _ _ hn.2.2 P.iv.k⟩⟩
theorem kget_ok (L : Nat) {h : MHp} {o i d : Nat} {src : List Int} {s f : Sn} {K Kf : Nat} {ctx : List MV} {ks : List Key} {bit : Int} (P : Kd h o i d src s f) (A : Ok s K) (B : Ok f Kf) (hK : K ≤ 80000) (hk : keysOf ctx = some ks) (hb : bit = 0 ∨ bit = 1) (n : Nest (s.nxt ks bit) f) (hsrc : ∀ i, octA src i = octA (octs f.l f.w f.c) i) :
    WE (callN tb ds (L + 6) i_Decoder_get [.ref o, .tup ctx] h) fun r h1 => r = .int bit ∧ Kd h1 o i d src (s.nxt ks bit) f ∧ Keep [o, i, d] h h1 := by
  have hp := A.rg.p ks
  have hl := A.ln
  have hc := A.c1
  have hg := bit_got A B hb n
  have hw := cut_w (l := s.l) (c := s.c) (bit := bit) A.w0 hp.1 hp.2
  have hd := dl_le s.w (pOf s.kv ks) bit
  have hc2 : (s.nxt ks bit).c = s.c + dl s.w (pOf s.kv ks) bit := rfl
  have hn := n.c
  refine (get_ok L P.de P.iv A.rg.ints hk (small_p hp.1 hp.2) (by omega) (by omega) (l' := (s.nxt ks bit).l) (w' := (s.nxt ks bit).w) (c' := (s.nxt ks bit).c) (by rw [hg]; omega) (by rw [hg]; exact shf_nxt s ks bit) (by omega)).mono fun r h1 ⟨e1, O1, I1, K1⟩ => ?_
  rw [hg] at e1 I1
  refine ⟨e1, ⟨?_, I1⟩, K1⟩
  rw [take_X B src hsrc _ _ (by omega), show s.c + ((s.nxt ks bit).c - s.c) = (s.nxt ks bit).c by omega] at O1
  exact O1
theorem run_append (s : Sn) (a b : Sq) : s.run (a ++ b) = (s.run a).run b := by
  induction a generalizing s with
  | nil => rfl
  | cons x a ih => exact ih _
theorem nest_at (q : Sq) (k : Nat) (s : Sn) {K : Nat} (h : Ok s K) : Nest (s.run (q.take k)) (s.run q) := by
  have e : s.run q = (s.run (q.take k)).run (q.drop k) := by rw [← run_append, List.take_append_drop]
  rw [e]
  exact nest_run (h.run _) _
theorem oct_rng (l w : Int) (c : Nat) : ∀ v ∈ octs l w c, 0 ≤ v ∧ v ≤ 255 := fun v hv => by
  unfold octs digs at hv
  obtain ⟨j, _, rfl⟩ := List.mem_map.mp (List.mem_reverse.mp hv)
  have a := Int.emod_nonneg ((octR l (l + w - 1) c).1 / 256 ^ j) (by decide : (256 : Int) ≠ 0)
  have b := Int.emod_lt_of_pos ((octR l (l + w - 1) c).1 / 256 ^ j) (by decide : (0 : Int) < 256)
  omega
theorem oct_len (l w : Int) (c : Nat) : (octs l w c).length ≤ c := by
  unfold octs
  rw [List.length_reverse, digs_len]
  exact octR_le _ _ _

end L11

local macro_rules
  | `(tactic| symm_saturate) => `(tactic| (repeat (first | ((with_reducible refine Mp.e_v (d := ?_) ?_ ?_); rotate_left; exact rfl) | (with_reducible refine Mp.e_int ?_) | (with_reducible refine Mp.e_bin ?_) | (with_reducible refine Mp.add_i ?_) | (with_reducible refine Mp.sub_i ?_) | ((with_reducible refine Mp.mul_r ?_ ?_); exact rfl) | ((with_reducible refine Mp.pow_i ?_ ?_); exact (by decide)) | ((with_reducible refine Mp.div_i ?_ ?_); exact (by decide)) | ((with_reducible refine Mp.mod_i ?_ ?_); exact (by decide)) | (with_reducible refine Mp.e_cmp ?_) | (with_reducible refine Mp.e_ix ?_) | (with_reducible refine Mp.e_c1 ?_) | (with_reducible refine Mp.e_c2 ?_) | ((with_reducible refine Mp.e_conI (i := ?_) ?_ ?_); rotate_left; exact rfl) | (with_reducible refine Mp.e_con ?_) | (with_reducible refine Mp.e_bl ?_) | (with_reducible refine Mp.e_str ?_) | (with_reducible refine Mp.e_non ?_) | (with_reducible refine Mp.a_nil ?_) | (with_reducible refine Mp.a_cons ?_) | (with_reducible refine Mp.e_call ?_) | (with_reducible refine Mp.e_one ?_) | (with_reducible refine Mp.e_isi ?_) | (with_reducible refine Mp.t_val ?_) | (with_reducible refine Mp.t_not ?_) | (with_reducible refine Mp.t_all ?_) | (with_reducible refine Mp.t_any ?_) | (with_reducible refine Mp.w_one ?_) | (with_reducible refine Mp.w_and ?_) | (with_reducible refine Mp.w_or ?_) | (with_reducible refine Mp.t_yes ?_) | (with_reducible refine Mp.o_non ?_) | (with_reducible refine Mp.b_nil ?_) | (with_reducible refine Mp.b_cons ?_) | (with_reducible refine Mp.s_asg ?_) | (with_reducible refine Mp.s_ret ?_) | (with_reducible refine Mp.s_do ?_) | (with_reducible refine Mp.s_fld ?_) | (with_reducible refine Mp.s_ix ?_) | (with_reducible refine Mp.s_pass ?_) | (with_reducible refine Mp.s_brk ?_) | (with_reducible refine Mp.s_cnt ?_) | (with_reducible refine Mp.s_retN ?_) | (with_reducible refine Mp.i_rng1 ?_) | (with_reducible refine Mp.i_seq ?_) | (with_reducible refine Mp.e_fld ?_) | (with_reducible refine Mp.e_meth ?_) | (with_reducible refine Mp.e_get2 ?_) | (with_reducible refine Mp.e_lnew ?_) | (with_reducible refine Mp.e_own ?_) | ((with_reducible refine Mp.and_le ?_ ?_); exact rfl) | (with_reducible refine Mp.e_lst ?_) | (with_reducible refine Mp.e_tup ?_) | (with_reducible refine Mp.e_appL ?_) | (with_reducible refine Mp.e_frz ?_) | (with_reducible refine Mp.e_sl ?_) | (with_reducible refine Mp.e_rev2 ?_) | (with_reducible refine Mp.e_ite ?_) | (with_reducible refine Mp.e_new ?_) | (with_reducible refine Mp.e_dnewT ?_) | (with_reducible refine Mp.e_dnewK ?_) | (with_reducible refine Mp.e_not ?_) | (with_reducible refine Mp.e_neg ?_) | (with_reducible refine Mp.e_isN ?_) | (with_reducible refine Mp.e_callK ?_) | (with_reducible refine Mp.e_methK ?_) | (with_reducible refine Mp.s_tryN ?_) | (with_reducible refine Mp.e_or ?_) | (with_reducible refine Mp.e_and ?_) | (with_reducible refine Mp.int_i ?_) | (with_reducible refine Mp.len_scr ?_) | (with_reducible refine Mp.len_tup ?_) | (with_reducible refine Mp.len_lst ?_) | ((with_reducible refine Mp.ex_some (a := ?_) ?_ ?_); rotate_left; exact rfl) | (dsimp only [Mp.RV.toV]) | (with_reducible refine Mp.s_ite ?_) | (with_reducible refine Mp.s_for ?_) | (with_reducible refine Mp.o_some ?_) | (with_reducible refine Mp.ex_int ?_) | (with_reducible refine Mp.ex_str ?_) | (with_reducible refine Mp.e_lc1 ?_) | (with_reducible refine Mp.lcput ?_) | (with_reducible refine Mp.sl_t ?_) | (with_reducible refine Mp.sl_l ?_) | (with_reducible refine Mp.sl_n ?_) | (with_reducible refine Mp.tup_n ?_) | (with_reducible refine Mp.tup_t ?_) | (with_reducible refine Mp.tup_l ?_) | (with_reducible refine Mp.list_t ?_) | (with_reducible refine Mp.list_l ?_) | (with_reducible refine Mp.int_b ?_) | (with_reducible refine Mp.min_i ?_) | (with_reducible refine Mp.max_i ?_) | (with_reducible refine Mp.e_sidx ?_) | (with_reducible refine Mp.i_rev ?_) | (with_reducible refine Mp.and1_i ?_) | (with_reducible refine Mp.s_setLcO ?_) | (with_reducible refine Mp.ex_nl ?_) | (with_reducible refine Mp.e_newK ?_) | (with_reducible refine Mp.e_bits ?_) | (with_reducible refine Mp.s_setLcN ?_) | (with_reducible refine Mp.len_n ?_) | (with_reducible refine Mp.if_tt ?_) | (with_reducible refine Mp.if_ff ?_) | ((with_reducible refine Mp.mul_i ?_ ?_); exact rfl) | ((with_reducible refine Mp.ix_nl (d := ?_) ?_ ?_); rotate_left; exact rfl) | ((with_reducible refine Mp.ix_tup (d := ?_) ?_ ?_); rotate_left; exact rfl) | ((with_reducible refine Mp.ix_lst (d := ?_) ?_ ?_); rotate_left; exact rfl) | ((with_reducible refine Mp.divmod_i ?_ ?_); exact (by decide)) | ((with_reducible refine Mp.ex_seq (k := ?_) (ds := ?_) ?_ ?_); rotate_left 2; exact rfl) | ((with_reducible refine Mp.ite_f ?_ ?_); exact rfl) | ((with_reducible refine Mp.ite_t ?_ ?_); exact rfl) | (dsimp only [Bool.not_true, Bool.not_false, Mp.revR]))))
local macro_rules
  | `(tactic| subst_eqs) => `(tactic| (repeat (first | ((with_reducible refine Mp.e_v (d := ?_) ?_ ?_); rotate_left; exact rfl) | (with_reducible refine Mp.e_int ?_) | (with_reducible refine Mp.e_bin ?_) | (with_reducible refine Mp.add_i ?_) | (with_reducible refine Mp.sub_i ?_) | ((with_reducible refine Mp.mul_r ?_ ?_); exact rfl) | ((with_reducible refine Mp.pow_i ?_ ?_); exact (by decide)) | ((with_reducible refine Mp.div_i ?_ ?_); exact (by decide)) | ((with_reducible refine Mp.mod_i ?_ ?_); exact (by decide)) | (with_reducible refine Mp.e_cmp ?_) | (with_reducible refine Mp.e_ix ?_) | (with_reducible refine Mp.e_c1 ?_) | (with_reducible refine Mp.e_c2 ?_) | ((with_reducible refine Mp.e_conI (i := ?_) ?_ ?_); rotate_left; exact rfl) | (with_reducible refine Mp.e_con ?_) | (with_reducible refine Mp.e_bl ?_) | (with_reducible refine Mp.e_str ?_) | (with_reducible refine Mp.e_non ?_) | (with_reducible refine Mp.a_nil ?_) | (with_reducible refine Mp.a_cons ?_) | (with_reducible refine Mp.e_call ?_) | (with_reducible refine Mp.e_one ?_) | (with_reducible refine Mp.e_isi ?_) | (with_reducible refine Mp.t_val ?_) | (with_reducible refine Mp.t_not ?_) | (with_reducible refine Mp.t_all ?_) | (with_reducible refine Mp.t_any ?_) | (with_reducible refine Mp.w_one ?_) | (with_reducible refine Mp.w_and ?_) | (with_reducible refine Mp.w_or ?_) | (with_reducible refine Mp.t_yes ?_) | (with_reducible refine Mp.o_non ?_) | (with_reducible refine Mp.b_nil ?_) | (with_reducible refine Mp.b_cons ?_) | (with_reducible refine Mp.s_asg ?_) | (with_reducible refine Mp.s_ret ?_) | (with_reducible refine Mp.s_do ?_) | (with_reducible refine Mp.s_fld ?_) | (with_reducible refine Mp.s_ix ?_) | (with_reducible refine Mp.s_pass ?_) | (with_reducible refine Mp.s_brk ?_) | (with_reducible refine Mp.s_cnt ?_) | (with_reducible refine Mp.s_retN ?_) | (with_reducible refine Mp.i_rng1 ?_) | (with_reducible refine Mp.i_seq ?_) | (with_reducible refine Mp.e_fld ?_) | (with_reducible refine Mp.e_meth ?_) | (with_reducible refine Mp.e_get2 ?_) | (with_reducible refine Mp.e_lnew ?_) | (with_reducible refine Mp.e_own ?_) | ((with_reducible refine Mp.and_le ?_ ?_); exact rfl) | (with_reducible refine Mp.e_lst ?_) | (with_reducible refine Mp.e_tup ?_) | (with_reducible refine Mp.e_appL ?_) | (with_reducible refine Mp.e_frz ?_) | (with_reducible refine Mp.e_sl ?_) | (with_reducible refine Mp.e_rev2 ?_) | (with_reducible refine Mp.e_ite ?_) | (with_reducible refine Mp.e_new ?_) | (with_reducible refine Mp.e_dnewT ?_) | (with_reducible refine Mp.e_dnewK ?_) | (with_reducible refine Mp.e_not ?_) | (with_reducible refine Mp.e_neg ?_) | (with_reducible refine Mp.e_isN ?_) | (with_reducible refine Mp.e_callK ?_) | (with_reducible refine Mp.e_methK ?_) | (with_reducible refine Mp.s_tryN ?_) | (with_reducible refine Mp.e_or ?_) | (with_reducible refine Mp.e_and ?_) | (with_reducible refine Mp.int_i ?_) | (with_reducible refine Mp.len_scr ?_) | (with_reducible refine Mp.len_tup ?_) | (with_reducible refine Mp.len_lst ?_) | ((with_reducible refine Mp.ex_some (a := ?_) ?_ ?_); rotate_left; exact rfl) | (dsimp only [Mp.RV.toV]) | (with_reducible refine Mp.o_some ?_) | (with_reducible refine Mp.ex_int ?_) | (with_reducible refine Mp.ex_str ?_) | (with_reducible refine Mp.e_lc1 ?_) | (with_reducible refine Mp.lcput ?_) | (with_reducible refine Mp.sl_t ?_) | (with_reducible refine Mp.sl_l ?_) | (with_reducible refine Mp.sl_n ?_) | (with_reducible refine Mp.tup_n ?_) | (with_reducible refine Mp.tup_t ?_) | (with_reducible refine Mp.tup_l ?_) | (with_reducible refine Mp.list_t ?_) | (with_reducible refine Mp.list_l ?_) | (with_reducible refine Mp.int_b ?_) | (with_reducible refine Mp.min_i ?_) | (with_reducible refine Mp.max_i ?_) | (with_reducible refine Mp.e_sidx ?_) | (with_reducible refine Mp.i_rev ?_) | (with_reducible refine Mp.and1_i ?_) | (with_reducible refine Mp.s_setLcO ?_) | (with_reducible refine Mp.ex_nl ?_) | (with_reducible refine Mp.e_newK ?_) | (with_reducible refine Mp.e_bits ?_) | (with_reducible refine Mp.s_setLcN ?_) | (with_reducible refine Mp.len_n ?_) | (with_reducible refine Mp.if_tt ?_) | (with_reducible refine Mp.if_ff ?_) | ((with_reducible refine Mp.mul_i ?_ ?_); exact rfl) | ((with_reducible refine Mp.ix_nl (d := ?_) ?_ ?_); rotate_left; exact rfl) | ((with_reducible refine Mp.ix_tup (d := ?_) ?_ ?_); rotate_left; exact rfl) | ((with_reducible refine Mp.ix_lst (d := ?_) ?_ ?_); rotate_left; exact rfl) | ((with_reducible refine Mp.divmod_i ?_ ?_); exact (by decide)) | ((with_reducible refine Mp.ex_seq (k := ?_) (ds := ?_) ?_ ?_); rotate_left 2; exact rfl) | ((with_reducible refine Mp.ite_f ?_ ?_); exact rfl) | ((with_reducible refine Mp.ite_t ?_ ?_); exact rfl) | (dsimp only [Bool.not_true, Bool.not_false, Mp.revR]))))
namespace L11
open PySem PySem.Spec PyProof.Rows L2 Mp
/-! ### numbers as bits -/
abbrev Pt := List MV × List Key × Int
def pv (q : Pt) : MV := .tup [.tup q.1, .int q.2.2]
def sq (P : List Pt) : Sq := P.map fun q => q.2
theorem Nest.trans {a b c : Sn} (x : Nest a b) (y : Nest b c) : Nest a c := by
  have h1 := x.c
  have h2 := y.c
  have hp := pw_pos (c.c - b.c)
  have e : (256 : Int) ^ (c.c - a.c) = 256 ^ (b.c - a.c) * 256 ^ (c.c - b.c) := by rw [← Int.pow_add]; congr 1; omega
  refine ⟨by omega, ?_, ?_⟩
  · rw [e, ← Int.mul_assoc]
    exact Int.le_trans (Int.mul_le_mul_of_nonneg_right x.lo (by omega)) y.lo
  · rw [e, ← Int.mul_assoc]
    exact Int.le_trans y.hi (Int.mul_le_mul_of_nonneg_right x.hi (by omega))
theorem take_at {q : Sq} {k : Nat} {e : List Key × Int} (h : q[k]? = some e) : q.take (k + 1) = q.take k ++ [e] := by
  rw [List.take_succ, h]
  rfl
/-- a put, a get in the middle of a sequence -/
theorem kput_at (L : Nat) {h : MHp} {o i d : Nat} {s : Sn} {K k : Nat} {q : Sq} {ctx : List MV} {ks : List Key} {bit : Int} (P : Kc h o i d (s.run (q.take k))) (A : Ok s K) (hK : K ≤ 10000) (hq : q[k]? = some (ks, bit)) (hl : q.length ≤ 1000) (hk : keysOf ctx = some ks) : WE (callN tb ds (L + 6) i_Coder_put [.ref o, .tup ctx, .int bit] h) fun r h1 => r = .non ∧ Kc h1 o i d (s.run (q.take (k + 1))) ∧ Keep [i, d] h h1 := by
  have A2 := A.run (q.take k)
  have hlt : (q.take k).length ≤ 1000 := by rw [List.length_take]; omega
  refine (kput_ok L P A2 (by omega) hk (bit := bit)).mono fun r h1 ⟨e1, C, K1, _⟩ => ⟨e1, ?_, K1⟩
  rw [take_at hq, run_snoc]
  exact C
theorem kget_at (L : Nat) {h : MHp} {o i d : Nat} {src : List Int} {s f : Sn} {K Kf k : Nat} {q : Sq} {ctx : List MV} {ks : List Key} {bit : Int} (P : Kd h o i d src (s.run (q.take k)) f) (A : Ok s K) (B : Ok f Kf) (hK : K ≤ 10000) (hq : q[k]? = some (ks, bit)) (hl : q.length ≤ 1000) (hk : keysOf ctx = some ks) (hb : bit = 0 ∨ bit = 1) (n : Nest (s.run q) f) (hsrc : ∀ i, octA src i = octA (octs f.l f.w f.c) i) :
    WE (callN tb ds (L + 6) i_Decoder_get [.ref o, .tup ctx] h) fun r h1 => r = .int bit ∧ Kd h1 o i d src (s.run (q.take (k + 1))) f ∧ Keep [o, i, d] h h1 := by
  have A2 := A.run (q.take k)
  have hlt : (q.take k).length ≤ 1000 := by rw [List.length_take]; omega
  have n1 : Nest ((s.run (q.take k)).nxt ks bit) f := by
    have e : (s.run (q.take k)).nxt ks bit = s.run (q.take (k + 1)) := by rw [take_at hq, run_snoc]
    rw [e]
    exact (nest_at q (k + 1) s A).trans n
  refine (kget_ok L P A2 B (by omega) hk hb n1 hsrc).mono fun r h1 ⟨e1, D, K1⟩ => ⟨e1, ?_, K1⟩
  rw [take_at hq, run_snoc]
  exact D
def cx (w : Str) (t i : Int) : List MV := [.str w, .int t, .int i]
def ck (w : Str) (t i : Int) : List Key := [.inr w, .inl t, .inl i]
theorem cx_keys (w : Str) (t i : Int) : keysOf (cx w t i) = some (ck w t i) := rfl
/-- the figure 2 ^ j of a number -/
def bt (m : Nat) (j : Nat) : Int := (m : Int) / 2 ^ j % 2
theorem bt_01 (m j : Nat) : bt m j = 0 ∨ bt m j = 1 := by
  unfold bt
  omega
def onesP (w : Str) (b : Nat) : List Pt := (List.range b).map fun (i : Nat) => (cx w 0 (i : Int), ck w 0 (i : Int), 1)
def zeroP (w : Str) (b : Nat) : List Pt := if b + 1 < 16 then [(cx w 0 b, ck w 0 b, 0)] else []
def figsP (w : Str) (m b : Nat) : List Pt := (List.range b).reverse.map fun (j : Nat) => (cx w 1 (j : Int), ck w 1 (j : Int), bt m j)
def bo (w : Str) (m b : Nat) : List Pt := onesP w b ++ (zeroP w b ++ figsP w m b)
def zz (b : Nat) : Nat := if b + 1 < 16 then 1 else 0
theorem zero_len (w : Str) (b : Nat) : (zeroP w b).length = zz b := by
  unfold zeroP zz
  split <;> rfl
theorem ones_len (w : Str) (b : Nat) : (onesP w b).length = b := by
  unfold onesP
  rw [List.length_map, List.length_range]
theorem figs_len (w : Str) (m b : Nat) : (figsP w m b).length = b := by
  unfold figsP
  rw [List.length_map, List.length_reverse, List.length_range]
theorem bo_len (w : Str) (m b : Nat) : (sq (bo w m b)).length = b + zz b + b := by
  unfold sq bo
  rw [List.length_map, List.length_append, List.length_append, ones_len, zero_len, figs_len]
  omega
theorem zz_le (b : Nat) : zz b ≤ 1 := by
  unfold zz
  split <;> omega
theorem at_one {w : Str} {m b k : Nat} (h : k < b) : (sq (bo w m b))[k]? = some (ck w 0 k, 1) := by
  unfold sq bo
  rw [List.getElem?_map, List.getElem?_append_left (by rw [ones_len]; exact h)]
  unfold onesP
  rw [List.getElem?_map, List.getElem?_range h]
  rfl
theorem at_zero {w : Str} {m b : Nat} (h : b + 1 < 16) : (sq (bo w m b))[b]? = some (ck w 0 b, 0) := by
  unfold sq bo
  rw [List.getElem?_map, List.getElem?_append_right (by rw [ones_len]; exact Nat.le_refl _), ones_len, Nat.sub_self]
  unfold zeroP
  rw [if_pos h]
  rfl
theorem at_fig {w : Str} {m b t : Nat} (h : t < b) : (sq (bo w m b))[b + zz b + t]? = some (ck w 1 ((b - 1 - t : Nat) : Int), bt m (b - 1 - t)) := by
  unfold sq bo
  rw [List.getElem?_map, List.getElem?_append_right (by rw [ones_len]; omega), ones_len, List.getElem?_append_right (by rw [zero_len]; omega), zero_len, show b + zz b + t - b - zz b = t by omega]
  unfold figsP
  rw [List.getElem?_map, List.getElem?_reverse (by rw [List.length_range]; exact h), List.length_range, List.getElem?_range (by omega)]
  rfl
theorem put_number_ok (L : Nat) {h : MHp} {o i d : Nat} {s : Sn} {K : Nat} {w : Str} {m b : Nat} (v : Int) (C : Kc h o i d s) (A : Ok s K) (hK : K ≤ 10000) (hv : v + 1 = m) (hb : Builtin.Int.intBits (m : Int) = b + 1) (hb2 : b < 16) :
    WE (callN tb ds (L + 7) i_put_number [.ref o, .str w, .int v] h) fun r h1 => r = .non ∧ Kc h1 o i d (s.run (sq (bo w m b))) ∧ Keep [i, d] h h1 := by
  refine call_ok (d := d_put_number) rfl rfl ?_
  show WS (evB _ b_put_number _ _) _
  unfold b_put_number
  have hz := zz_le b
  have hlen := bo_len w m b
  subst_eqs
  rw [hv, hb]
  obtain ⟨bz, hbz⟩ : ∃ bz : Int, bz = ((b + 1 : Nat) : Int) - 1 := ⟨_, rfl⟩
  rw [← hbz]
  have hbz2 : bz = b := by omega
  with_reducible refine ws_cut (fun en h3 => ∃ o5 : Option MV, en = [some (.ref o), some (.str w), some (.int v), some (.int m), some (.int bz), o5, none] ∧ Kc h3 o i d (s.run ((sq (bo w m b)).take b)) ∧ Keep [i, d] h h3) ?_ ?_
  · symm_saturate
    refine ⟨by constructor <;> omega, ?_⟩
    rw [show bz.toNat = b by omega]
    refine for_rng (n := b) (fun k en h3 => ∃ o5 : Option MV, en = [some (.ref o), some (.str w), some (.int v), some (.int m), some (.int bz), o5, none] ∧ Kc h3 o i d (s.run ((sq (bo w m b)).take k)) ∧ Keep [i, d] h h3) ⟨none, by rfl, C, Keep.refl⟩ (fun k en h3 hk hh => ?_) fun en h3 hh => hh
    obtain ⟨o5, rfl, C3, K3⟩ := hh
    refine ⟨_, rfl, ?_⟩
    symm_saturate
    refine ⟨"Coder", i_Coder_put, cls_at C3.co, by decide +kernel, is_ok C3.co (by kernel_rfl), ?_⟩
    symm_saturate
    refine (kput_at L C3 A hK (at_one hk) (by omega) (cx_keys w 0 k)).mono fun r h4 ⟨e1, C4, K4⟩ => ?_
    symm_saturate
    exact ⟨some (.int k), by rfl, C4, K3.trans K4⟩
  rintro en h3 ⟨o5, rfl, C3, K3⟩
  subst_eqs
  refine ws_cut (fun en h4 => en = [some (.ref o), some (.str w), some (.int v), some (.int m), some (.int bz), o5, none] ∧ Kc h4 o i d (s.run ((sq (bo w m b)).take (b + zz b))) ∧ Keep [i, d] h h4) ?_ ?_
  · with_reducible refine s_ite ?_
    subst_eqs
    refine ite_w (fun hq => ?_) fun hq => ?_
    · have hq : bz + 1 < 16 := of_decide_eq_true hq
      have hb3 : b + 1 < 16 := by omega
      have ez : zz b = 1 := if_pos hb3
      subst_eqs
      refine ⟨"Coder", i_Coder_put, cls_at C3.co, by decide +kernel, is_ok C3.co (by kernel_rfl), ?_⟩
      subst_eqs
      rw [hbz2]
      refine (kput_at L C3 A hK (at_zero hb3) (by omega) (cx_keys w 0 b)).mono fun r h4 ⟨e1, C4, K4⟩ => ?_
      subst_eqs
      rw [ez]
      exact ⟨rfl, C4, K3.trans K4⟩
    · have hq : ¬ bz + 1 < 16 := of_decide_eq_false hq
      have ez : zz b = 0 := if_neg (by omega)
      subst_eqs
      rw [ez]
      exact ⟨by rfl, C3, K3⟩
  rintro en h4 ⟨rfl, C4, K4⟩
  symm_saturate
  refine ⟨by constructor <;> omega, ?_⟩
  rw [show bz.toNat = b by omega]
  refine for_rev (n := b) (fun t en h5 => ∃ o6 : Option MV, en = [some (.ref o), some (.str w), some (.int v), some (.int m), some (.int bz), o5, o6] ∧ Kc h5 o i d (s.run ((sq (bo w m b)).take (b + zz b + t))) ∧ Keep [i, d] h h5) ⟨none, by rfl, C4, K4⟩ (fun t en h5 ht hh => ?_) fun en h5 hh => ?_
  · obtain ⟨o6, rfl, C5, K5⟩ := hh
    refine ⟨_, rfl, ?_⟩
    symm_saturate
    refine ⟨"Coder", i_Coder_put, cls_at C5.co, by decide +kernel, is_ok C5.co (by kernel_rfl), ?_⟩
    symm_saturate
    refine shr_i (by omega) ?_
    symm_saturate
    rw [show (((b - 1 - t : Nat) : Int)).toNat = b - 1 - t from rfl]
    refine (kput_at L C5 A hK (at_fig ht) (by omega) (cx_keys w 1 _)).mono fun r h6 ⟨e1, C6, K6⟩ => ?_
    symm_saturate
    exact ⟨_, by rfl, C6, K5.trans K6⟩
  · obtain ⟨o6, rfl, C5, K5⟩ := hh
    symm_saturate
    refine ⟨rfl, ?_, K5⟩
    rw [← hlen, List.take_length] at C5
    exact C5

end L11

local macro_rules
  | `(tactic| symm_saturate) => `(tactic| (repeat (first | ((with_reducible refine Mp.e_v (d := ?_) ?_ ?_); rotate_left; exact rfl) | (with_reducible refine Mp.e_int ?_) | (with_reducible refine Mp.e_bin ?_) | (with_reducible refine Mp.add_i ?_) | (with_reducible refine Mp.sub_i ?_) | ((with_reducible refine Mp.mul_r ?_ ?_); exact rfl) | ((with_reducible refine Mp.pow_i ?_ ?_); exact (by decide)) | ((with_reducible refine Mp.div_i ?_ ?_); exact (by decide)) | ((with_reducible refine Mp.mod_i ?_ ?_); exact (by decide)) | (with_reducible refine Mp.e_cmp ?_) | (with_reducible refine Mp.e_ix ?_) | (with_reducible refine Mp.e_c1 ?_) | (with_reducible refine Mp.e_c2 ?_) | ((with_reducible refine Mp.e_conI (i := ?_) ?_ ?_); rotate_left; exact rfl) | (with_reducible refine Mp.e_con ?_) | (with_reducible refine Mp.e_bl ?_) | (with_reducible refine Mp.e_str ?_) | (with_reducible refine Mp.e_non ?_) | (with_reducible refine Mp.a_nil ?_) | (with_reducible refine Mp.a_cons ?_) | (with_reducible refine Mp.e_call ?_) | (with_reducible refine Mp.e_one ?_) | (with_reducible refine Mp.e_isi ?_) | (with_reducible refine Mp.t_val ?_) | (with_reducible refine Mp.t_not ?_) | (with_reducible refine Mp.t_all ?_) | (with_reducible refine Mp.t_any ?_) | (with_reducible refine Mp.w_one ?_) | (with_reducible refine Mp.w_and ?_) | (with_reducible refine Mp.w_or ?_) | (with_reducible refine Mp.t_yes ?_) | (with_reducible refine Mp.o_non ?_) | (with_reducible refine Mp.b_nil ?_) | (with_reducible refine Mp.b_cons ?_) | (with_reducible refine Mp.s_asg ?_) | (with_reducible refine Mp.s_ret ?_) | (with_reducible refine Mp.s_do ?_) | (with_reducible refine Mp.s_fld ?_) | (with_reducible refine Mp.s_ix ?_) | (with_reducible refine Mp.s_pass ?_) | (with_reducible refine Mp.s_brk ?_) | (with_reducible refine Mp.s_cnt ?_) | (with_reducible refine Mp.s_retN ?_) | (with_reducible refine Mp.i_rng1 ?_) | (with_reducible refine Mp.i_seq ?_) | (with_reducible refine Mp.e_fld ?_) | (with_reducible refine Mp.e_meth ?_) | (with_reducible refine Mp.e_get2 ?_) | (with_reducible refine Mp.e_lnew ?_) | (with_reducible refine Mp.e_own ?_) | ((with_reducible refine Mp.and_le ?_ ?_); exact rfl) | (with_reducible refine Mp.e_lst ?_) | (with_reducible refine Mp.e_tup ?_) | (with_reducible refine Mp.e_appL ?_) | (with_reducible refine Mp.e_frz ?_) | (with_reducible refine Mp.e_sl ?_) | (with_reducible refine Mp.e_rev2 ?_) | (with_reducible refine Mp.e_ite ?_) | (with_reducible refine Mp.e_new ?_) | (with_reducible refine Mp.e_dnewT ?_) | (with_reducible refine Mp.e_dnewK ?_) | (with_reducible refine Mp.e_not ?_) | (with_reducible refine Mp.e_neg ?_) | (with_reducible refine Mp.e_isN ?_) | (with_reducible refine Mp.e_callK ?_) | (with_reducible refine Mp.e_methK ?_) | (with_reducible refine Mp.s_tryN ?_) | (with_reducible refine Mp.e_or ?_) | (with_reducible refine Mp.e_and ?_) | (with_reducible refine Mp.int_i ?_) | (with_reducible refine Mp.len_scr ?_) | (with_reducible refine Mp.len_tup ?_) | (with_reducible refine Mp.len_lst ?_) | ((with_reducible refine Mp.ex_some (a := ?_) ?_ ?_); rotate_left; exact rfl) | (dsimp only [Mp.RV.toV]) | (with_reducible refine Mp.s_ite ?_) | (with_reducible refine Mp.s_for ?_) | (with_reducible refine Mp.o_some ?_) | (with_reducible refine Mp.ex_int ?_) | (with_reducible refine Mp.ex_str ?_) | (with_reducible refine Mp.e_lc1 ?_) | (with_reducible refine Mp.lcput ?_) | (with_reducible refine Mp.sl_t ?_) | (with_reducible refine Mp.sl_l ?_) | (with_reducible refine Mp.sl_n ?_) | (with_reducible refine Mp.tup_n ?_) | (with_reducible refine Mp.tup_t ?_) | (with_reducible refine Mp.tup_l ?_) | (with_reducible refine Mp.list_t ?_) | (with_reducible refine Mp.list_l ?_) | (with_reducible refine Mp.int_b ?_) | (with_reducible refine Mp.min_i ?_) | (with_reducible refine Mp.max_i ?_) | (with_reducible refine Mp.e_sidx ?_) | (with_reducible refine Mp.i_rev ?_) | (with_reducible refine Mp.and1_i ?_) | (with_reducible refine Mp.s_setLcO ?_) | (with_reducible refine Mp.ex_nl ?_) | (with_reducible refine Mp.e_newK ?_) | (with_reducible refine Mp.e_bits ?_) | (with_reducible refine Mp.s_setLcN ?_) | (with_reducible refine Mp.len_n ?_) | (with_reducible refine Mp.if_tt ?_) | (with_reducible refine Mp.if_ff ?_) | ((with_reducible refine Mp.mul_i ?_ ?_); exact rfl) | ((with_reducible refine Mp.ix_nl (d := ?_) ?_ ?_); rotate_left; exact rfl) | ((with_reducible refine Mp.ix_tup (d := ?_) ?_ ?_); rotate_left; exact rfl) | ((with_reducible refine Mp.ix_lst (d := ?_) ?_ ?_); rotate_left; exact rfl) | ((with_reducible refine Mp.divmod_i ?_ ?_); exact (by decide)) | ((with_reducible refine Mp.ex_seq (k := ?_) (ds := ?_) ?_ ?_); rotate_left 2; exact rfl) | ((with_reducible refine Mp.ite_f ?_ ?_); exact rfl) | ((with_reducible refine Mp.ite_t ?_ ?_); exact rfl) | (dsimp only [Bool.not_true, Bool.not_false, Mp.revR]))))
local macro_rules
  | `(tactic| subst_eqs) => `(tactic| (repeat (first | ((with_reducible refine Mp.e_v (d := ?_) ?_ ?_); rotate_left; exact rfl) | (with_reducible refine Mp.e_int ?_) | (with_reducible refine Mp.e_bin ?_) | (with_reducible refine Mp.add_i ?_) | (with_reducible refine Mp.sub_i ?_) | ((with_reducible refine Mp.mul_r ?_ ?_); exact rfl) | ((with_reducible refine Mp.pow_i ?_ ?_); exact (by decide)) | ((with_reducible refine Mp.div_i ?_ ?_); exact (by decide)) | ((with_reducible refine Mp.mod_i ?_ ?_); exact (by decide)) | (with_reducible refine Mp.e_cmp ?_) | (with_reducible refine Mp.e_ix ?_) | (with_reducible refine Mp.e_c1 ?_) | (with_reducible refine Mp.e_c2 ?_) | ((with_reducible refine Mp.e_conI (i := ?_) ?_ ?_); rotate_left; exact rfl) | (with_reducible refine Mp.e_con ?_) | (with_reducible refine Mp.e_bl ?_) | (with_reducible refine Mp.e_str ?_) | (with_reducible refine Mp.e_non ?_) | (with_reducible refine Mp.a_nil ?_) | (with_reducible refine Mp.a_cons ?_) | (with_reducible refine Mp.e_call ?_) | (with_reducible refine Mp.e_one ?_) | (with_reducible refine Mp.e_isi ?_) | (with_reducible refine Mp.t_val ?_) | (with_reducible refine Mp.t_not ?_) | (with_reducible refine Mp.t_all ?_) | (with_reducible refine Mp.t_any ?_) | (with_reducible refine Mp.w_one ?_) | (with_reducible refine Mp.w_and ?_) | (with_reducible refine Mp.w_or ?_) | (with_reducible refine Mp.t_yes ?_) | (with_reducible refine Mp.o_non ?_) | (with_reducible refine Mp.b_nil ?_) | (with_reducible refine Mp.b_cons ?_) | (with_reducible refine Mp.s_asg ?_) | (with_reducible refine Mp.s_ret ?_) | (with_reducible refine Mp.s_do ?_) | (with_reducible refine Mp.s_fld ?_) | (with_reducible refine Mp.s_ix ?_) | (with_reducible refine Mp.s_pass ?_) | (with_reducible refine Mp.s_brk ?_) | (with_reducible refine Mp.s_cnt ?_) | (with_reducible refine Mp.s_retN ?_) | (with_reducible refine Mp.i_rng1 ?_) | (with_reducible refine Mp.i_seq ?_) | (with_reducible refine Mp.e_fld ?_) | (with_reducible refine Mp.e_meth ?_) | (with_reducible refine Mp.e_get2 ?_) | (with_reducible refine Mp.e_lnew ?_) | (with_reducible refine Mp.e_own ?_) | ((with_reducible refine Mp.and_le ?_ ?_); exact rfl) | (with_reducible refine Mp.e_lst ?_) | (with_reducible refine Mp.e_tup ?_) | (with_reducible refine Mp.e_appL ?_) | (with_reducible refine Mp.e_frz ?_) | (with_reducible refine Mp.e_sl ?_) | (with_reducible refine Mp.e_rev2 ?_) | (with_reducible refine Mp.e_ite ?_) | (with_reducible refine Mp.e_new ?_) | (with_reducible refine Mp.e_dnewT ?_) | (with_reducible refine Mp.e_dnewK ?_) | (with_reducible refine Mp.e_not ?_) | (with_reducible refine Mp.e_neg ?_) | (with_reducible refine Mp.e_isN ?_) | (with_reducible refine Mp.e_callK ?_) | (with_reducible refine Mp.e_methK ?_) | (with_reducible refine Mp.s_tryN ?_) | (with_reducible refine Mp.e_or ?_) | (with_reducible refine Mp.e_and ?_) | (with_reducible refine Mp.int_i ?_) | (with_reducible refine Mp.len_scr ?_) | (with_reducible refine Mp.len_tup ?_) | (with_reducible refine Mp.len_lst ?_) | ((with_reducible refine Mp.ex_some (a := ?_) ?_ ?_); rotate_left; exact rfl) | (dsimp only [Mp.RV.toV]) | (with_reducible refine Mp.o_some ?_) | (with_reducible refine Mp.ex_int ?_) | (with_reducible refine Mp.ex_str ?_) | (with_reducible refine Mp.e_lc1 ?_) | (with_reducible refine Mp.lcput ?_) | (with_reducible refine Mp.sl_t ?_) | (with_reducible refine Mp.sl_l ?_) | (with_reducible refine Mp.sl_n ?_) | (with_reducible refine Mp.tup_n ?_) | (with_reducible refine Mp.tup_t ?_) | (with_reducible refine Mp.tup_l ?_) | (with_reducible refine Mp.list_t ?_) | (with_reducible refine Mp.list_l ?_) | (with_reducible refine Mp.int_b ?_) | (with_reducible refine Mp.min_i ?_) | (with_reducible refine Mp.max_i ?_) | (with_reducible refine Mp.e_sidx ?_) | (with_reducible refine Mp.i_rev ?_) | (with_reducible refine Mp.and1_i ?_) | (with_reducible refine Mp.s_setLcO ?_) | (with_reducible refine Mp.ex_nl ?_) | (with_reducible refine Mp.e_newK ?_) | (with_reducible refine Mp.e_bits ?_) | (with_reducible refine Mp.s_setLcN ?_) | (with_reducible refine Mp.len_n ?_) | (with_reducible refine Mp.if_tt ?_) | (with_reducible refine Mp.if_ff ?_) | ((with_reducible refine Mp.mul_i ?_ ?_); exact rfl) | ((with_reducible refine Mp.ix_nl (d := ?_) ?_ ?_); rotate_left; exact rfl) | ((with_reducible refine Mp.ix_tup (d := ?_) ?_ ?_); rotate_left; exact rfl) | ((with_reducible refine Mp.ix_lst (d := ?_) ?_ ?_); rotate_left; exact rfl) | ((with_reducible refine Mp.divmod_i ?_ ?_); exact (by decide)) | ((with_reducible refine Mp.ex_seq (k := ?_) (ds := ?_) ?_ ?_); rotate_left 2; exact rfl) | ((with_reducible refine Mp.ite_f ?_ ?_); exact rfl) | ((with_reducible refine Mp.ite_t ?_ ?_); exact rfl) | (dsimp only [Bool.not_true, Bool.not_false, Mp.revR]))))
namespace L11
open PySem PySem.Spec PyProof.Rows L2 Mp
theorem pw2 (j : Nat) : (0 : Int) < 2 ^ j := Int.pow_pos (by decide)
theorem half_step (m j : Nat) : 2 * ((m : Int) / 2 ^ (j + 1)) + bt m j = (m : Int) / 2 ^ j := by
  unfold bt
  rw [Int.pow_succ, ← Int.ediv_ediv_of_nonneg (Int.le_of_lt (pw2 j))]
  omega
theorem log_bd {m : Nat} (h1 : 1 ≤ m) : (2 : Int) ^ m.log2 ≤ m ∧ (m : Int) < 2 ^ (m.log2 + 1) := by
  have a := Nat.log2_self_le (n := m) (by omega)
  have b := Nat.lt_log2_self (n := m)
  constructor
  · exact_mod_cast a
  · exact_mod_cast b
theorem log_top {m : Nat} (h1 : 1 ≤ m) (h2 : m < 65536) : m.log2 < 16 := (Nat.log2_lt (by omega)).mpr (by omega)
theorem bits_log {m : Nat} (h1 : 1 ≤ m) : Builtin.Int.intBits (m : Int) = m.log2 + 1 := by
  unfold Builtin.Int.intBits
  rw [if_neg (by simp; omega), Int.natAbs_natCast]
theorem div_top {m : Nat} (h1 : 1 ≤ m) : (m : Int) / 2 ^ m.log2 = 1 := by
  obtain ⟨a, b⟩ := log_bd h1
  rw [Int.pow_succ] at b
  have c := (Int.le_ediv_iff_mul_le (pw2 m.log2) (a := 1) (b := (m : Int))).mpr (by omega)
  have d := Int.ediv_lt_of_lt_mul (pw2 m.log2) (a := (m : Int)) (b := 2) (by omega)
  omega
theorem pow_mono {i j : Nat} (h : i ≤ j) : (2 : Int) ^ i ≤ 2 ^ j := by
  have := Nat.pow_le_pow_right (n := 2) (by decide) h
  exact_mod_cast this
theorem div_pos {m i : Nat} (h1 : 1 ≤ m) : (m : Int) / 2 ^ i > 0 ↔ i < m.log2 + 1 := by
  obtain ⟨a, b⟩ := log_bd h1
  have hp := pw2 i
  constructor
  · intro z
    by_cases hi : i < m.log2 + 1
    · exact hi
    · have := pow_mono (show m.log2 + 1 ≤ i by omega)
      rw [Int.ediv_eq_zero_of_lt (by omega) (by omega)] at z
      omega
  · intro z
    have := pow_mono (show i ≤ m.log2 by omega)
    exact (Int.le_ediv_iff_mul_le hp (a := 1)).mpr (by omega)
theorem get_number_ok (L : Nat) {h : MHp} {o i d : Nat} {src : List Int} {s f : Sn} {K Kf : Nat} {w : Str} {m : Nat} (D : Kd h o i d src s f) (A : Ok s K) (B : Ok f Kf) (hK : K ≤ 10000) (h1 : 1 ≤ m) (h2 : m < 65536) (n : Nest (s.run (sq (bo w m m.log2))) f) (hsrc : ∀ i, octA src i = octA (octs f.l f.w f.c) i) :
    WE (callN tb ds (L + 7) i_get_number [.ref o, .str w] h) fun r h1 => r = .int ((m : Int) - 1) ∧ Kd h1 o i d src (s.run (sq (bo w m m.log2))) f ∧ Keep [o, i, d] h h1 := by
  have hb := log_top h1 h2
  have htop := div_top h1
  generalize hbb : m.log2 = b at *
  refine call_ok (d := d_get_number) rfl rfl ?_
  show WS (evB _ b_get_number _ _) _
  unfold b_get_number
  have hz := zz_le b
  have hlen := bo_len w m b
  subst_eqs
  with_reducible refine ws_cut (fun en h3 => en = [some (.ref o), some (.str w), some (.int b), none, none] ∧ Kd h3 o i d src (s.run ((sq (bo w m b)).take (b + zz b))) f ∧ Keep [o, i, d] h h3) ?_ ?_
  · with_reducible refine s_wh ?_
    refine wh_loop (Inv := fun n e h3 => ∃ k : Nat, k ≤ b ∧ n = 16 - k ∧ e = [some (.ref o), some (.str w), some (.int k), none, none] ∧ Kd h3 o i d src (s.run ((sq (bo w m b)).take k)) f ∧ Keep [o, i, d] h h3) (fun nn e h3 hh => ?_) 1000000 16 _ _ (by decide) ⟨0, Nat.zero_le _, rfl, by rfl, D, Keep.refl⟩
    obtain ⟨k, hk, hn, rfl, D3, K3⟩ := hh
    subst_eqs
    refine ite_w (fun hq => ?_) fun hq => ?_
    · have hq : (k : Int) + 1 < 16 := of_decide_eq_true hq
      subst_eqs
      refine ⟨"Decoder", i_Decoder_get, cls_at D3.de, by decide +kernel, is_ok D3.de (by kernel_rfl), ?_⟩
      subst_eqs
      by_cases hkb : k < b
      · refine (kget_at L D3 A B hK (at_one hkb) (by omega) (cx_keys w 0 k) (.inr rfl) n hsrc).mono fun r h4 ⟨e1, D4, K4⟩ => ?_
        subst e1
        subst_eqs
        refine ⟨by omega, ?_⟩
        subst_eqs
        exact ⟨k + 1, by omega, by omega, by rfl, D4, K3.trans K4⟩
      · obtain rfl : k = b := by omega
        have hb3 : k + 1 < 16 := by omega
        have ez : zz k = 1 := if_pos hb3
        refine (kget_at L D3 A B hK (at_zero hb3) (by omega) (cx_keys w 0 k) (.inl rfl) n hsrc).mono fun r h4 ⟨e1, D4, K4⟩ => ?_
        subst e1
        subst_eqs
        rw [ez]
        exact ⟨rfl, D4, K3.trans K4⟩
    · have hq : ¬ (k : Int) + 1 < 16 := of_decide_eq_false hq
      obtain rfl : k = b := by omega
      have ez : zz k = 0 := if_neg (by omega)
      subst_eqs
      rw [ez]
      exact ⟨rfl, D3, K3⟩
  intro en h3 hh
  obtain ⟨he, D3, K3⟩ := hh
  subst he
  symm_saturate
  refine ⟨by constructor <;> omega, ?_⟩
  rw [show ((b : Nat) : Int).toNat = b from rfl]
  refine for_rev (n := b) (fun t en h5 => ∃ o4 : Option MV, en = [some (.ref o), some (.str w), some (.int b), some (.int ((m : Int) / 2 ^ (b - t))), o4] ∧ Kd h5 o i d src (s.run ((sq (bo w m b)).take (b + zz b + t))) f ∧ Keep [o, i, d] h h5) ⟨none, by rw [Nat.sub_zero, htop]; rfl, D3, K3⟩ (fun t en h5 ht hh => ?_) fun en h5 hh => ?_
  · obtain ⟨o4, rfl, D5, K5⟩ := hh
    refine ⟨_, rfl, ?_⟩
    symm_saturate
    refine ⟨"Decoder", i_Decoder_get, cls_at D5.de, by decide +kernel, is_ok D5.de (by kernel_rfl), ?_⟩
    symm_saturate
    refine (kget_at L D5 A B hK (at_fig ht) (by omega) (cx_keys w 1 _) (bt_01 m _) n hsrc).mono fun r h6 ⟨e1, D6, K6⟩ => ?_
    subst e1
    symm_saturate
    refine ⟨some (.int ((b - 1 - t : Nat) : Int)), ?_, D6, K5.trans K6⟩
    have e := half_step m (b - 1 - t)
    rw [show b - 1 - t + 1 = b - t by omega] at e
    rw [show b - (t + 1) = b - 1 - t by omega, ← e]
    rfl
  · obtain ⟨o4, rfl, D5, K5⟩ := hh
    symm_saturate
    rw [Nat.sub_self, Int.pow_zero, Int.ediv_one]
    refine ⟨rfl, ?_, K5⟩
    rw [← hlen, List.take_length] at D5
    exact D5
/-- the signed one of a number -/
def sg (v : Int) : Int := if v % 2 = 1 then (v + 1) / 2 else -(v / 2)
theorem fold_sg {v : Int} (h : 0 ≤ v) : (if sg v > 0 then 2 * sg v - 1 else -2 * sg v) = v := by
  unfold sg
  by_cases z : v % 2 = 1
  · rw [if_pos z]
    split <;> omega
  · rw [if_neg z]
    split <;> omega
theorem folded_ok (L : Nat) (u : Int) (h : MHp) : WE (callN tb ds (L + 3) i_folded [.int u] h) fun r h1 => r = .int (if u > 0 then 2 * u - 1 else -2 * u) ∧ h1 = h := by
  refine call_ok (d := d_folded) rfl rfl ?_
  show WS (evB _ b_folded _ _) _
  unfold b_folded
  symm_saturate
  refine ite_w (fun hq => ?_) fun hq => ?_
  · have hq : u > 0 := of_decide_eq_true hq
    symm_saturate
    rw [if_pos hq]
    exact ⟨rfl, rfl⟩
  · have hq : ¬ u > 0 := of_decide_eq_false hq
    symm_saturate
    rw [if_neg hq]
    exact ⟨rfl, rfl⟩
theorem unfolded_ok (L : Nat) (v : Int) (h : MHp) : WE (callN tb ds (L + 3) i_unfolded [.int v] h) fun r h1 => r = .int (sg v) ∧ h1 = h := by
  refine call_ok (d := d_unfolded) rfl rfl ?_
  show WS (evB _ b_unfolded _ _) _
  unfold b_unfolded
  symm_saturate
  unfold sg
  refine ite_w (fun hq => ?_) fun hq => ?_
  · have hq : v % 2 = 1 := by simpa using hq
    symm_saturate
    rw [if_pos hq]
    exact ⟨rfl, rfl⟩
  · have hq : ¬ v % 2 = 1 := by simpa using hq
    symm_saturate
    rw [if_neg hq, show (v + 1) / 2 = v / 2 by omega]
    exact ⟨rfl, rfl⟩
theorem lsigned_ok (L : Nat) (v : Int) (h : MHp) : WE (callN tb ds (L + 3) i__law_signed [.int v] h) fun r h1 => r = .int (sg v) ∧ h1 = h := by
  refine call_ok (d := d__law_signed) rfl rfl ?_
  show WS (evB _ b__law_signed _ _) _
  unfold b__law_signed
  symm_saturate
  unfold sg
  refine ite_w (fun hq => ?_) fun hq => ?_
  · have hq : v % 2 = 1 := by simpa using hq
    symm_saturate
    rw [if_pos hq]
    exact ⟨rfl, rfl⟩
  · have hq : ¬ v % 2 = 1 := by simpa using hq
    symm_saturate
    rw [if_neg hq]
    exact ⟨rfl, rfl⟩
theorem put_signed_ok (L : Nat) {h : MHp} {o i d : Nat} {s : Sn} {K : Nat} {w : Str} {m : Nat} (C : Kc h o i d s) (A : Ok s K) (hK : K ≤ 10000) (h1 : 1 ≤ m) (h2 : m < 65536) (u : Int) (hu : u = sg ((m : Int) - 1)) :
    WE (callN tb ds (L + 8) i_put_signed [.ref o, .str w, .int u] h) fun r h1 => r = .non ∧ Kc h1 o i d (s.run (sq (bo w m m.log2))) ∧ Keep [i, d] h h1 := by
  refine call_ok (d := d_put_signed) rfl rfl ?_
  show WS (evB _ b_put_signed _ _) _
  unfold b_put_signed
  symm_saturate
  refine (folded_ok (L + 4) u h).mono fun r h3 ⟨e1, e2⟩ => ?_
  rw [hu, fold_sg (by omega)] at e1
  subst e1 e2
  symm_saturate
  refine (put_number_ok L ((m : Int) - 1) C A hK (by omega) (bits_log h1) (log_top h1 h2)).mono fun r h4 ⟨e1, C4, K4⟩ => ?_
  symm_saturate
  exact ⟨rfl, C4, K4⟩
theorem get_signed_ok (L : Nat) {h : MHp} {o i d : Nat} {src : List Int} {s f : Sn} {K Kf : Nat} {w : Str} {m : Nat} (D : Kd h o i d src s f) (A : Ok s K) (B : Ok f Kf) (hK : K ≤ 10000) (h1 : 1 ≤ m) (h2 : m < 65536) (n : Nest (s.run (sq (bo w m m.log2))) f) (hsrc : ∀ i, octA src i = octA (octs f.l f.w f.c) i) :
    WE (callN tb ds (L + 8) i_get_signed [.ref o, .str w] h) fun r h1 => r = .int (sg ((m : Int) - 1)) ∧ Kd h1 o i d src (s.run (sq (bo w m m.log2))) f ∧ Keep [o, i, d] h h1 := by
  refine call_ok (d := d_get_signed) rfl rfl ?_
  show WS (evB _ b_get_signed _ _) _
  unfold b_get_signed
  symm_saturate
  refine (get_number_ok L D A B hK h1 h2 n hsrc).mono fun r h3 ⟨e1, D3, K3⟩ => ?_
  subst e1
  symm_saturate
  refine (unfolded_ok (L + 4) _ h3).mono fun r h4 ⟨e1, e2⟩ => ?_
  subst e1 e2
  exact ⟨rfl, D3, K3⟩
theorem price_ok (L : Nat) {m : Nat} (h1 : 1 ≤ m) (v : Int) (hv : v + 1 = m) (h : MHp) : WE (callN tb ds (L + 3) i_price_of [.int v] h) fun r h1 => r = .int (2 * ((m.log2 : Int) + 1) - 1) ∧ h1 = h := by
  refine call_ok (d := d_price_of) rfl rfl ?_
  show WS (evB _ b_price_of _ _) _
  unfold b_price_of
  symm_saturate
  rw [hv, bits_log h1]
  exact ⟨rfl, rfl⟩
theorem price_signed_ok (L : Nat) {m : Nat} (h1 : 1 ≤ m) (u : Int) (hu : u = sg ((m : Int) - 1)) (h : MHp) : WE (callN tb ds (L + 4) i_price_of_signed [.int u] h) fun r h1 => r = .int (2 * ((m.log2 : Int) + 1) - 1) ∧ h1 = h := by
  refine call_ok (d := d_price_of_signed) rfl rfl ?_
  show WS (evB _ b_price_of_signed _ _) _
  unfold b_price_of_signed
  symm_saturate
  refine (folded_ok L u h).mono fun r h3 ⟨e1, e2⟩ => ?_
  rw [hu, fold_sg (by omega)] at e1
  subst e1 e2
  symm_saturate
  refine (price_ok L h1 ((m : Int) - 1) (by omega) h3).mono fun r h4 e => e
theorem size_ok (L : Nat) {m : Nat} (h1 : 1 ≤ m) (h2 : m < 65536) (v : Int) (hv : v + 1 = m) (h : MHp) : WE (callN tb ds (L + 3) i__law_size [.int v] h) fun r h1 => r = .int ((m.log2 : Int) + 1) ∧ h1 = h := by
  refine call_ok (d := d__law_size) rfl rfl ?_
  show WS (evB _ b__law_size _ _) _
  unfold b__law_size
  have hb := log_top h1 h2
  symm_saturate
  rw [hv]
  refine ⟨by decide, ?_⟩
  refine for_rng (n := 16) (fun k en h3 => h3 = h ∧ ∃ o3 : Option MV, en = [some (.int v), some (.int (min (k : Int) ((m.log2 : Int) + 1))), some (.int ((m : Int) / 2 ^ k)), o3]) ⟨rfl, none, by rw [Int.pow_zero, Int.ediv_one, show min ((0 : Nat) : Int) ((m.log2 : Int) + 1) = 0 by omega]; rfl⟩ (fun k en h3 hk hh => ?_) fun en h3 hh => ?_
  · obtain ⟨rfl, o3, rfl⟩ := hh
    refine ⟨_, rfl, ?_⟩
    have e2 : (m : Int) / 2 ^ k / 2 = (m : Int) / 2 ^ (k + 1) := by rw [Int.ediv_ediv_of_nonneg (Int.le_of_lt (pw2 k)), ← Int.pow_succ]
    have hdp := div_pos (i := k) h1
    symm_saturate
    refine ite_w (fun hq => ?_) fun hq => ?_
    · have hq : (m : Int) / 2 ^ k > 0 := of_decide_eq_true hq
      have hq := hdp.mp hq
      symm_saturate
      rw [e2]
      refine ⟨rfl, some (.int k), ?_⟩
      rw [show min (k : Int) ((m.log2 : Int) + 1) + 1 = min ((k + 1 : Nat) : Int) ((m.log2 : Int) + 1) by omega]
      rfl
    · have hq : ¬ (m : Int) / 2 ^ k > 0 := of_decide_eq_false hq
      have hq := fun z => hq (hdp.mpr z)
      symm_saturate
      rw [e2]
      refine ⟨rfl, some (.int k), ?_⟩
      rw [show min (k : Int) ((m.log2 : Int) + 1) = min ((k + 1 : Nat) : Int) ((m.log2 : Int) + 1) by omega]
      rfl
  · obtain ⟨rfl, o3, rfl⟩ := hh
    symm_saturate
    rw [show min ((16 : Nat) : Int) ((m.log2 : Int) + 1) = (m.log2 : Int) + 1 by omega]
    exact ⟨rfl, rfl⟩
theorem is_eq_ok (L : Nat) (h : MHp) (b : Int) : WE (callN tb ds (L + 3) i__law_is [.int b, .int b] h) fun r h1 => r = .bl true ∧ h1 = h := by
  refine call_ok (d := d__law_is) rfl rfl ?_
  show WS (evB _ b__law_is _ _) _
  unfold b__law_is
  symm_saturate
  refine we_eq (a := .v (.bl true)) (hp := h) rfl ?_
  symm_saturate
  refine we_eq (a := .v (.bl false)) (hp := h) rfl ?_
  refine ⟨false, rfl, ?_⟩
  symm_saturate
  exact ⟨by simp, rfl⟩
theorem bo_keys {w : Str} {m b : Nat} {q : Pt} (h : q ∈ bo w m b) : keysOf q.1 = some q.2.1 := by
  unfold bo at h
  rcases List.mem_append.mp h with z | z
  · obtain ⟨i, _, rfl⟩ := List.mem_map.mp z
    exact cx_keys _ _ _
  · rcases List.mem_append.mp z with z | z
    · unfold zeroP at z
      split at z
      · rw [List.mem_singleton.mp z]; exact cx_keys _ _ _
      · cases z
    · obtain ⟨i, _, rfl⟩ := List.mem_map.mp z
      exact cx_keys _ _ _

end L11

local macro_rules
  | `(tactic| symm_saturate) => `(tactic| (repeat (first | ((with_reducible refine Mp.e_v (d := ?_) ?_ ?_); rotate_left; exact rfl) | (with_reducible refine Mp.e_int ?_) | (with_reducible refine Mp.e_bin ?_) | (with_reducible refine Mp.add_i ?_) | (with_reducible refine Mp.sub_i ?_) | ((with_reducible refine Mp.mul_r ?_ ?_); exact rfl) | ((with_reducible refine Mp.pow_i ?_ ?_); exact (by decide)) | ((with_reducible refine Mp.div_i ?_ ?_); exact (by decide)) | ((with_reducible refine Mp.mod_i ?_ ?_); exact (by decide)) | (with_reducible refine Mp.e_cmp ?_) | (with_reducible refine Mp.e_ix ?_) | (with_reducible refine Mp.e_c1 ?_) | (with_reducible refine Mp.e_c2 ?_) | ((with_reducible refine Mp.e_conI (i := ?_) ?_ ?_); rotate_left; exact rfl) | (with_reducible refine Mp.e_con ?_) | (with_reducible refine Mp.e_bl ?_) | (with_reducible refine Mp.e_str ?_) | (with_reducible refine Mp.e_non ?_) | (with_reducible refine Mp.a_nil ?_) | (with_reducible refine Mp.a_cons ?_) | (with_reducible refine Mp.e_call ?_) | (with_reducible refine Mp.e_one ?_) | (with_reducible refine Mp.e_isi ?_) | (with_reducible refine Mp.t_val ?_) | (with_reducible refine Mp.t_not ?_) | (with_reducible refine Mp.t_all ?_) | (with_reducible refine Mp.t_any ?_) | (with_reducible refine Mp.w_one ?_) | (with_reducible refine Mp.w_and ?_) | (with_reducible refine Mp.w_or ?_) | (with_reducible refine Mp.t_yes ?_) | (with_reducible refine Mp.o_non ?_) | (with_reducible refine Mp.b_nil ?_) | (with_reducible refine Mp.b_cons ?_) | (with_reducible refine Mp.s_asg ?_) | (with_reducible refine Mp.s_ret ?_) | (with_reducible refine Mp.s_do ?_) | (with_reducible refine Mp.s_fld ?_) | (with_reducible refine Mp.s_ix ?_) | (with_reducible refine Mp.s_pass ?_) | (with_reducible refine Mp.s_brk ?_) | (with_reducible refine Mp.s_cnt ?_) | (with_reducible refine Mp.s_retN ?_) | (with_reducible refine Mp.i_rng1 ?_) | (with_reducible refine Mp.i_seq ?_) | (with_reducible refine Mp.e_fld ?_) | (with_reducible refine Mp.e_meth ?_) | (with_reducible refine Mp.e_get2 ?_) | (with_reducible refine Mp.e_lnew ?_) | (with_reducible refine Mp.e_own ?_) | ((with_reducible refine Mp.and_le ?_ ?_); exact rfl) | (with_reducible refine Mp.e_lst ?_) | (with_reducible refine Mp.e_tup ?_) | (with_reducible refine Mp.e_appL ?_) | (with_reducible refine Mp.e_frz ?_) | (with_reducible refine Mp.e_sl ?_) | (with_reducible refine Mp.e_rev2 ?_) | (with_reducible refine Mp.e_ite ?_) | (with_reducible refine Mp.e_new ?_) | (with_reducible refine Mp.e_dnewT ?_) | (with_reducible refine Mp.e_dnewK ?_) | (with_reducible refine Mp.e_not ?_) | (with_reducible refine Mp.e_neg ?_) | (with_reducible refine Mp.e_isN ?_) | (with_reducible refine Mp.e_callK ?_) | (with_reducible refine Mp.e_methK ?_) | (with_reducible refine Mp.s_tryN ?_) | (with_reducible refine Mp.e_or ?_) | (with_reducible refine Mp.e_and ?_) | (with_reducible refine Mp.int_i ?_) | (with_reducible refine Mp.len_scr ?_) | (with_reducible refine Mp.len_tup ?_) | (with_reducible refine Mp.len_lst ?_) | ((with_reducible refine Mp.ex_some (a := ?_) ?_ ?_); rotate_left; exact rfl) | (dsimp only [Mp.RV.toV]) | (with_reducible refine Mp.s_ite ?_) | (with_reducible refine Mp.s_for ?_) | (with_reducible refine Mp.o_some ?_) | (with_reducible refine Mp.ex_int ?_) | (with_reducible refine Mp.ex_str ?_) | (with_reducible refine Mp.e_lc1 ?_) | (with_reducible refine Mp.lcput ?_) | (with_reducible refine Mp.sl_t ?_) | (with_reducible refine Mp.sl_l ?_) | (with_reducible refine Mp.sl_n ?_) | (with_reducible refine Mp.tup_n ?_) | (with_reducible refine Mp.tup_t ?_) | (with_reducible refine Mp.tup_l ?_) | (with_reducible refine Mp.list_t ?_) | (with_reducible refine Mp.list_l ?_) | (with_reducible refine Mp.int_b ?_) | (with_reducible refine Mp.min_i ?_) | (with_reducible refine Mp.max_i ?_) | (with_reducible refine Mp.e_sidx ?_) | (with_reducible refine Mp.i_rev ?_) | (with_reducible refine Mp.and1_i ?_) | (with_reducible refine Mp.s_setLcO ?_) | (with_reducible refine Mp.ex_nl ?_) | (with_reducible refine Mp.e_newK ?_) | (with_reducible refine Mp.e_bits ?_) | (with_reducible refine Mp.s_setLcN ?_) | (with_reducible refine Mp.len_n ?_) | (with_reducible refine Mp.if_tt ?_) | (with_reducible refine Mp.if_ff ?_) | ((with_reducible refine Mp.mul_i ?_ ?_); exact rfl) | ((with_reducible refine Mp.ix_nl (d := ?_) ?_ ?_); rotate_left; exact rfl) | ((with_reducible refine Mp.ix_tup (d := ?_) ?_ ?_); rotate_left; exact rfl) | ((with_reducible refine Mp.ix_lst (d := ?_) ?_ ?_); rotate_left; exact rfl) | ((with_reducible refine Mp.divmod_i ?_ ?_); exact (by decide)) | ((with_reducible refine Mp.ex_seq (k := ?_) (ds := ?_) ?_ ?_); rotate_left 2; exact rfl) | ((with_reducible refine Mp.ite_f ?_ ?_); exact rfl) | ((with_reducible refine Mp.ite_t ?_ ?_); exact rfl) | (dsimp only [Bool.not_true, Bool.not_false, Mp.revR]))))
local macro_rules
  | `(tactic| subst_eqs) => `(tactic| (repeat (first | ((with_reducible refine Mp.e_v (d := ?_) ?_ ?_); rotate_left; exact rfl) | (with_reducible refine Mp.e_int ?_) | (with_reducible refine Mp.e_bin ?_) | (with_reducible refine Mp.add_i ?_) | (with_reducible refine Mp.sub_i ?_) | ((with_reducible refine Mp.mul_r ?_ ?_); exact rfl) | ((with_reducible refine Mp.pow_i ?_ ?_); exact (by decide)) | ((with_reducible refine Mp.div_i ?_ ?_); exact (by decide)) | ((with_reducible refine Mp.mod_i ?_ ?_); exact (by decide)) | (with_reducible refine Mp.e_cmp ?_) | (with_reducible refine Mp.e_ix ?_) | (with_reducible refine Mp.e_c1 ?_) | (with_reducible refine Mp.e_c2 ?_) | ((with_reducible refine Mp.e_conI (i := ?_) ?_ ?_); rotate_left; exact rfl) | (with_reducible refine Mp.e_con ?_) | (with_reducible refine Mp.e_bl ?_) | (with_reducible refine Mp.e_str ?_) | (with_reducible refine Mp.e_non ?_) | (with_reducible refine Mp.a_nil ?_) | (with_reducible refine Mp.a_cons ?_) | (with_reducible refine Mp.e_call ?_) | (with_reducible refine Mp.e_one ?_) | (with_reducible refine Mp.e_isi ?_) | (with_reducible refine Mp.t_val ?_) | (with_reducible refine Mp.t_not ?_) | (with_reducible refine Mp.t_all ?_) | (with_reducible refine Mp.t_any ?_) | (with_reducible refine Mp.w_one ?_) | (with_reducible refine Mp.w_and ?_) | (with_reducible refine Mp.w_or ?_) | (with_reducible refine Mp.t_yes ?_) | (with_reducible refine Mp.o_non ?_) | (with_reducible refine Mp.b_nil ?_) | (with_reducible refine Mp.b_cons ?_) | (with_reducible refine Mp.s_asg ?_) | (with_reducible refine Mp.s_ret ?_) | (with_reducible refine Mp.s_do ?_) | (with_reducible refine Mp.s_fld ?_) | (with_reducible refine Mp.s_ix ?_) | (with_reducible refine Mp.s_pass ?_) | (with_reducible refine Mp.s_brk ?_) | (with_reducible refine Mp.s_cnt ?_) | (with_reducible refine Mp.s_retN ?_) | (with_reducible refine Mp.i_rng1 ?_) | (with_reducible refine Mp.i_seq ?_) | (with_reducible refine Mp.e_fld ?_) | (with_reducible refine Mp.e_meth ?_) | (with_reducible refine Mp.e_get2 ?_) | (with_reducible refine Mp.e_lnew ?_) | (with_reducible refine Mp.e_own ?_) | ((with_reducible refine Mp.and_le ?_ ?_); exact rfl) | (with_reducible refine Mp.e_lst ?_) | (with_reducible refine Mp.e_tup ?_) | (with_reducible refine Mp.e_appL ?_) | (with_reducible refine Mp.e_frz ?_) | (with_reducible refine Mp.e_sl ?_) | (with_reducible refine Mp.e_rev2 ?_) | (with_reducible refine Mp.e_ite ?_) | (with_reducible refine Mp.e_new ?_) | (with_reducible refine Mp.e_dnewT ?_) | (with_reducible refine Mp.e_dnewK ?_) | (with_reducible refine Mp.e_not ?_) | (with_reducible refine Mp.e_neg ?_) | (with_reducible refine Mp.e_isN ?_) | (with_reducible refine Mp.e_callK ?_) | (with_reducible refine Mp.e_methK ?_) | (with_reducible refine Mp.s_tryN ?_) | (with_reducible refine Mp.e_or ?_) | (with_reducible refine Mp.e_and ?_) | (with_reducible refine Mp.int_i ?_) | (with_reducible refine Mp.len_scr ?_) | (with_reducible refine Mp.len_tup ?_) | (with_reducible refine Mp.len_lst ?_) | ((with_reducible refine Mp.ex_some (a := ?_) ?_ ?_); rotate_left; exact rfl) | (dsimp only [Mp.RV.toV]) | (with_reducible refine Mp.o_some ?_) | (with_reducible refine Mp.ex_int ?_) | (with_reducible refine Mp.ex_str ?_) | (with_reducible refine Mp.e_lc1 ?_) | (with_reducible refine Mp.lcput ?_) | (with_reducible refine Mp.sl_t ?_) | (with_reducible refine Mp.sl_l ?_) | (with_reducible refine Mp.sl_n ?_) | (with_reducible refine Mp.tup_n ?_) | (with_reducible refine Mp.tup_t ?_) | (with_reducible refine Mp.tup_l ?_) | (with_reducible refine Mp.list_t ?_) | (with_reducible refine Mp.list_l ?_) | (with_reducible refine Mp.int_b ?_) | (with_reducible refine Mp.min_i ?_) | (with_reducible refine Mp.max_i ?_) | (with_reducible refine Mp.e_sidx ?_) | (with_reducible refine Mp.i_rev ?_) | (with_reducible refine Mp.and1_i ?_) | (with_reducible refine Mp.s_setLcO ?_) | (with_reducible refine Mp.ex_nl ?_) | (with_reducible refine Mp.e_newK ?_) | (with_reducible refine Mp.e_bits ?_) | (with_reducible refine Mp.s_setLcN ?_) | (with_reducible refine Mp.len_n ?_) | (with_reducible refine Mp.if_tt ?_) | (with_reducible refine Mp.if_ff ?_) | ((with_reducible refine Mp.mul_i ?_ ?_); exact rfl) | ((with_reducible refine Mp.ix_nl (d := ?_) ?_ ?_); rotate_left; exact rfl) | ((with_reducible refine Mp.ix_tup (d := ?_) ?_ ?_); rotate_left; exact rfl) | ((with_reducible refine Mp.ix_lst (d := ?_) ?_ ?_); rotate_left; exact rfl) | ((with_reducible refine Mp.divmod_i ?_ ?_); exact (by decide)) | ((with_reducible refine Mp.ex_seq (k := ?_) (ds := ?_) ?_ ?_); rotate_left 2; exact rfl) | ((with_reducible refine Mp.ite_f ?_ ?_); exact rfl) | ((with_reducible refine Mp.ite_t ?_ ?_); exact rfl) | (dsimp only [Bool.not_true, Bool.not_false, Mp.revR]))))
namespace L11
open PySem PySem.Spec PyProof.Rows L2 Mp
inductive Kn where
  | num | sgn | one
def Kn.s : Kn → Str
  | .num => "number"
  | .sgn => "signed"
  | .one => "single"
/-- a thing: number v = m - 1 -/
structure Th where
  k : Kn
  w : Str
  m : Nat
  f : Int
  x : Int
def tv (T : Th) : MV := .lst [.str T.k.s, .str T.w, .int ((T.m : Int) - 1), .int T.f, .int T.x]
def GoodT (T : Th) : Prop := 1 ≤ T.m ∧ T.m < 65536
def bts (T : Th) : List Pt := match T.k with
  | .one => [(cx T.w T.f T.x, ck T.w T.f T.x, ((T.m : Int) - 1) % 2)]
  | _ => bo T.w T.m T.m.log2
theorem bts_len (T : Th) (h : GoodT T) : (sq (bts T)).length ≤ 31 := by
  have hb := log_top h.1 h.2
  have hz := zz_le T.m.log2
  have hz2 : T.m.log2 = 15 → zz T.m.log2 = 0 := fun e => by rw [e]; rfl
  unfold bts
  cases T.k with
  | one => show 1 ≤ 31; decide
  | num => rw [bo_len]; omega
  | sgn => rw [bo_len]; omega
theorem map_one (w : Str) (b : Nat) : (onesP w (b + 1)).map pv = (onesP w b).map pv ++ [.tup [.tup [.str w, .int 0, .int b], .int 1]] := by
  unfold onesP
  rw [List.range_succ, List.map_append, List.map_append]
  rfl
theorem map_fig (w : Str) (m t : Nat) : (figsP w m (t + 1)).map pv = .tup [.tup [.str w, .int 1, .int t], .int (bt m t)] :: (figsP w m t).map pv := by
  unfold figsP
  rw [List.range_succ, List.reverse_append]
  rfl
theorem bits_ok (L : Nat) (kind : Str) (hne : (decide (kind = ("single" : Str)) != false) = false) (w : Str) {m : Nat} (h1 : 1 ≤ m) (h2 : m < 65536) (f x : Int) (h : MHp) :
    WE (callN tb ds (L + 4) i__law_bits [.lst [.str kind, .str w, .int ((m : Int) - 1), .int f, .int x]] h) fun r h1 => r = .lst ((bo w m m.log2).map pv) ∧ ∃ t, h1 = h ++ t := by
  refine call_ok (d := d__law_bits) rfl rfl ?_
  show WS (evB _ b__law_bits _ _) _
  unfold b__law_bits
  have hb := log_top h1 h2
  obtain ⟨v, hv⟩ : ∃ v : Int, v = (m : Int) - 1 := ⟨_, rfl⟩
  rw [← hv]
  symm_saturate
  refine ite_f hne ?_
  subst_eqs
  refine (size_ok L h1 h2 v (by omega) h).mono fun r h3 ⟨e1, e2⟩ => ?_
  subst e1 e2
  generalize hbb : m.log2 = b at *
  obtain ⟨sz, hsz⟩ : ∃ sz : Int, sz = (b : Int) + 1 := ⟨_, rfl⟩
  rw [← hsz]
  subst_eqs
  refine ⟨by constructor <;> omega, ?_⟩
  rw [show (sz - 1).toNat = b by omega]
  refine lc_rng (n := b) (fun i h4 acc => h4 = h3 ∧ acc = (onesP w i).map pv) ⟨rfl, rfl⟩ (fun i h4 acc hi hh => ?_) fun h4 acc hh => ?_
  · obtain ⟨rfl, rfl⟩ := hh
    refine ⟨_, rfl, ?_⟩
    subst_eqs
    refine ⟨by rw [List.length_map, ones_len]; omega, rfl, ?_⟩
    rw [map_one]
  · obtain ⟨rfl, rfl⟩ := hh
    subst_eqs
    refine ws_cut (fun en h5 => en = [some (.lst [.str kind, .str w, .int v, .int f, .int x]), some (.str w), some (.int sz), some (.ref h4.length), none, none, none, none] ∧ h5 = h4 ++ [.lst ((onesP w b ++ zeroP w b).map pv)]) ?_ ?_
    · with_reducible refine s_ite ?_
      subst_eqs
      refine ite_w (fun hq => ?_) fun hq => ?_
      · have hq : sz < 16 := of_decide_eq_true hq
        have ez : zeroP w b = [(cx w 0 b, ck w 0 b, 0)] := if_pos (by omega)
        subst_eqs
        refine ⟨_, _, rfl, lst_last, ?_⟩
        subst_eqs
        refine ⟨_, lst_last, by rw [List.length_map, ones_len]; omega, ?_⟩
        rw [set_last]
        subst_eqs
        rw [ez, List.map_append, show sz - 1 = (b : Int) by omega]
        exact ⟨rfl, rfl⟩
      · have hq : ¬ sz < 16 := of_decide_eq_false hq
        have ez : zeroP w b = [] := if_neg (by omega)
        subst_eqs
        rw [ez, List.append_nil]
        exact ⟨rfl, rfl⟩
    · intro en h5 hh
      obtain ⟨he, e5⟩ := hh
      subst he e5
      subst_eqs
      rw [show v + 1 = (m : Int) by omega]
      with_reducible refine ws_cut (fun en h6 => ∃ (o5 o6 : Option MV), en = [some (.lst [.str kind, .str w, .int v, .int f, .int x]), some (.str w), some (.int sz), some (.ref h4.length), some (.lst ((figsP w m b).map pv)), o5, o6, none] ∧ h6 = h4 ++ [.lst ((onesP w b ++ zeroP w b).map pv)]) ?_ ?_
      · symm_saturate
        refine ⟨by constructor <;> omega, ?_⟩
        rw [show (sz - 1).toNat = b by omega]
        refine for_rng (n := b) (fun t en h6 => ∃ (o6 : Option MV), en = [some (.lst [.str kind, .str w, .int v, .int f, .int x]), some (.str w), some (.int sz), some (.ref h4.length), some (.lst ((figsP w m t).map pv)), some (.int ((m : Int) / 2 ^ t)), o6, none] ∧ h6 = h4 ++ [.lst ((onesP w b ++ zeroP w b).map pv)]) ⟨none, by rw [Int.pow_zero, Int.ediv_one]; rfl, rfl⟩ (fun t en h6 ht hh => ?_) fun en h6 hh => ?_
        · obtain ⟨o6, rfl, rfl⟩ := hh
          refine ⟨_, rfl, ?_⟩
          symm_saturate
          refine add_nl (by rw [List.length_map, figs_len]; show 1 + _ ≤ _; omega) ?_
          symm_saturate
          refine ⟨some (.int t), ?_, rfl⟩
          rw [map_fig, ← show (m : Int) / 2 ^ t / 2 = (m : Int) / 2 ^ (t + 1) by rw [Int.ediv_ediv_of_nonneg (Int.le_of_lt (pw2 t)), ← Int.pow_succ]]
          rfl
        · obtain ⟨o6, rfl, rfl⟩ := hh
          exact ⟨_, o6, rfl, rfl⟩
      · intro en h6 hh
        obtain ⟨o5, o6, he, e6⟩ := hh
        subst he e6
        subst_eqs
        refine add_rl lst_last (by rw [List.length_map, List.length_map, List.length_append, ones_len, zero_len, figs_len]; have := zz_le b; omega) ?_
        subst_eqs
        refine ⟨?_, _, rfl⟩
        unfold bo
        rw [← List.map_append, List.append_assoc]
theorem lbits_ok (L : Nat) (T : Th) (hG : GoodT T) (h : MHp) : WE (callN tb ds (L + 4) i__law_bits [tv T] h) fun r h1 => r = .lst ((bts T).map pv) ∧ ∃ t, h1 = h ++ t := by
  obtain ⟨k, w, m, f, x⟩ := T
  cases k with
  | num => exact bits_ok L "number" (by decide +kernel) w hG.1 hG.2 f x h
  | sgn => exact bits_ok L "signed" (by decide +kernel) w hG.1 hG.2 f x h
  | one =>
    show WE (callN tb ds (L + 4) i__law_bits [.lst [.str "single", .str w, .int ((m : Int) - 1), .int f, .int x]] h) _
    refine call_ok (d := d__law_bits) rfl rfl ?_
    show WS (evB _ b__law_bits _ _) _
    unfold b__law_bits
    obtain ⟨v, hv⟩ : ∃ v : Int, v = (m : Int) - 1 := ⟨_, rfl⟩
    rw [← hv]
    symm_saturate
    symm_saturate
    refine ⟨?_, [], by simp⟩
    rw [hv]
    rfl
theorem put_thing_ok (L : Nat) {h : MHp} {o i d : Nat} {s : Sn} {K : Nat} (T : Th) (hG : GoodT T) (C : Kc h o i d s) (A : Ok s K) (hK : K ≤ 10000) :
    WE (callN tb ds (L + 9) i__law_put_thing [.ref o, tv T] h) fun r h1 => r = .bl true ∧ Kc h1 o i d (s.run (sq (bts T))) ∧ Keep [i, d] h h1 := by
  obtain ⟨k, w, m, f, x⟩ := T
  obtain ⟨h1, h2⟩ : 1 ≤ m ∧ m < 65536 := hG
  obtain ⟨v, hv⟩ : ∃ v : Int, v = (m : Int) - 1 := ⟨_, rfl⟩
  have hs : ∃ ks : Str, ks = k.s := ⟨_, rfl⟩
  obtain ⟨ks, hks⟩ := hs
  show WE (callN tb ds (L + 9) i__law_put_thing [.ref o, .lst [.str k.s, .str w, .int ((m : Int) - 1), .int f, .int x]] h) _
  rw [← hv, ← hks]
  refine call_ok (d := d__law_put_thing) rfl rfl ?_
  show WS (evB _ b__law_put_thing _ _) _
  unfold b__law_put_thing
  subst_eqs
  refine (size_ok (L + 5) h1 h2 v (by omega) h).mono fun r h3 ⟨e1, e2⟩ => ?_
  subst e1 e2
  subst_eqs
  cases k with
  | num =>
    rw [show ks = ("number" : Str) from hks]
    with_reducible refine s_ite ?_
    subst_eqs
    symm_saturate
    refine ite_w (fun _ => ?_) fun _ => ?_
    · subst_eqs
      refine ⟨rfl, ?_⟩
      refine (put_number_ok (L + 1) v C A hK (by omega) (bits_log h1) (log_top h1 h2)).mono fun r h4 ⟨e1, C4, K4⟩ => ?_
      subst e1
      subst_eqs
      refine ⟨rfl, ?_⟩
      refine (price_ok (L + 5) h1 v (by omega) h4).mono fun r h5 ⟨e1, e2⟩ => ?_
      subst e1 e2
      subst_eqs
      refine (is_eq_ok (L + 5) h5 _).mono fun r h6 ⟨e1, e2⟩ => ?_
      subst e1 e2
      exact ⟨rfl, C4, K4⟩
    · subst_eqs
      refine (put_number_ok (L + 1) v C A hK (by omega) (bits_log h1) (log_top h1 h2)).mono fun r h4 ⟨e1, C4, K4⟩ => ?_
      subst e1
      subst_eqs
      refine (price_ok (L + 5) h1 v (by omega) h4).mono fun r h5 ⟨e1, e2⟩ => ?_
      subst e1 e2
      subst_eqs
      refine (is_eq_ok (L + 5) h5 _).mono fun r h6 ⟨e1, e2⟩ => ?_
      subst e1 e2
      exact ⟨rfl, C4, K4⟩
  | sgn =>
    rw [show ks = ("signed" : Str) from hks]
    with_reducible refine s_ite ?_
    subst_eqs
    subst_eqs
    with_reducible refine s_ite ?_
    subst_eqs
    subst_eqs
    refine (lsigned_ok (L + 5) v h3).mono fun r h4 ⟨e1, e2⟩ => ?_
    subst e1 e2
    symm_saturate
    refine ite_w (fun _ => ?_) fun _ => ?_
    · subst_eqs
      refine ⟨rfl, ?_⟩
      refine (put_signed_ok L C A hK h1 h2 (sg v) (by rw [hv])).mono fun r h5 ⟨e1, C4, K4⟩ => ?_
      subst e1
      subst_eqs
      refine ⟨rfl, ?_⟩
      refine (price_signed_ok (L + 4) h1 (sg v) (by rw [hv]) h5).mono fun r h6 ⟨e1, e2⟩ => ?_
      subst e1 e2
      subst_eqs
      refine (is_eq_ok (L + 5) h6 _).mono fun r h7 ⟨e1, e2⟩ => ?_
      subst e1 e2
      exact ⟨rfl, C4, K4⟩
    · subst_eqs
      refine (put_signed_ok L C A hK h1 h2 (sg v) (by rw [hv])).mono fun r h5 ⟨e1, C4, K4⟩ => ?_
      subst e1
      subst_eqs
      refine (price_signed_ok (L + 4) h1 (sg v) (by rw [hv]) h5).mono fun r h6 ⟨e1, e2⟩ => ?_
      subst e1 e2
      subst_eqs
      refine (is_eq_ok (L + 5) h6 _).mono fun r h7 ⟨e1, e2⟩ => ?_
      subst e1 e2
      exact ⟨rfl, C4, K4⟩
  | one =>
    rw [show ks = ("single" : Str) from hks]
    with_reducible refine s_ite ?_
    subst_eqs
    subst_eqs
    with_reducible refine s_ite ?_
    subst_eqs
    subst_eqs
    refine ⟨"Coder", i_Coder_put, cls_at C.co, by decide +kernel, is_ok C.co (by kernel_rfl), ?_⟩
    subst_eqs
    refine (kput_ok (L + 2) C A (by omega) (cx_keys w f x) (bit := v % 2)).mono fun r h4 ⟨e1, C4, K4, _⟩ => ?_
    subst e1
    subst_eqs
    refine ⟨rfl, ?_, K4⟩
    rw [hv] at C4
    exact C4
theorem got_ok (L : Nat) {h : MHp} {o i d : Nat} {src : List Int} {s f' : Sn} {K Kf : Nat} (T : Th) (hG : GoodT T) (D : Kd h o i d src s f') (A : Ok s K) (B : Ok f' Kf) (hK : K ≤ 10000) (N : Nest (s.run (sq (bts T))) f') (hsrc : ∀ i, octA src i = octA (octs f'.l f'.w f'.c) i) :
    WE (callN tb ds (L + 9) i__law_got [.ref o, tv T] h) fun r h1 => r = .bl true ∧ Kd h1 o i d src (s.run (sq (bts T))) f' ∧ Keep [o, i, d] h h1 := by
  obtain ⟨k, w, m, f, x⟩ := T
  obtain ⟨h1, h2⟩ : 1 ≤ m ∧ m < 65536 := hG
  obtain ⟨v, hv⟩ : ∃ v : Int, v = (m : Int) - 1 := ⟨_, rfl⟩
  have hs : ∃ ks : Str, ks = k.s := ⟨_, rfl⟩
  obtain ⟨ks, hks⟩ := hs
  show WE (callN tb ds (L + 9) i__law_got [.ref o, .lst [.str k.s, .str w, .int ((m : Int) - 1), .int f, .int x]] h) _
  rw [← hv, ← hks]
  refine call_ok (d := d__law_got) rfl rfl ?_
  show WS (evB _ b__law_got _ _) _
  unfold b__law_got
  cases k with
  | num =>
    rw [show ks = ("number" : Str) from hks]
    symm_saturate
    symm_saturate
    refine ite_w (fun _ => ?_) fun _ => ?_
    · subst_eqs
      refine ⟨rfl, ?_⟩
      refine (get_number_ok (L + 1) D A B hK h1 h2 N hsrc).mono fun r h4 ⟨e1, D4, K4⟩ => ?_
      rw [← hv] at e1
      subst e1
      subst_eqs
      refine (is_eq_ok (L + 5) h4 _).mono fun r h6 ⟨e1, e2⟩ => ?_
      subst e1 e2
      exact ⟨rfl, D4, K4⟩
    · symm_saturate
      symm_saturate
      refine (get_number_ok (L + 1) D A B hK h1 h2 N hsrc).mono fun r h4 ⟨e1, D4, K4⟩ => ?_
      rw [← hv] at e1
      subst e1
      subst_eqs
      refine (is_eq_ok (L + 5) h4 _).mono fun r h6 ⟨e1, e2⟩ => ?_
      subst e1 e2
      exact ⟨rfl, D4, K4⟩
  | sgn =>
    rw [show ks = ("signed" : Str) from hks]
    symm_saturate
    symm_saturate
    symm_saturate
    symm_saturate
    refine ite_w (fun _ => ?_) fun _ => ?_
    · subst_eqs
      refine ⟨rfl, ?_⟩
      refine (get_signed_ok L D A B hK h1 h2 N hsrc).mono fun r h4 ⟨e1, D4, K4⟩ => ?_
      rw [← hv] at e1
      subst e1
      subst_eqs
      refine (lsigned_ok (L + 5) v h4).mono fun r h5 ⟨e1, e2⟩ => ?_
      subst e1 e2
      subst_eqs
      refine (is_eq_ok (L + 5) h5 _).mono fun r h6 ⟨e1, e2⟩ => ?_
      subst e1 e2
      exact ⟨rfl, D4, K4⟩
    · symm_saturate
      symm_saturate
      refine (get_signed_ok L D A B hK h1 h2 N hsrc).mono fun r h4 ⟨e1, D4, K4⟩ => ?_
      rw [← hv] at e1
      subst e1
      subst_eqs
      refine (lsigned_ok (L + 5) v h4).mono fun r h5 ⟨e1, e2⟩ => ?_
      subst e1 e2
      subst_eqs
      refine (is_eq_ok (L + 5) h5 _).mono fun r h6 ⟨e1, e2⟩ => ?_
      subst e1 e2
      exact ⟨rfl, D4, K4⟩
  | one =>
    rw [show ks = ("single" : Str) from hks]
    symm_saturate
    symm_saturate
    symm_saturate
    symm_saturate
    symm_saturate
    refine ⟨"Decoder", i_Decoder_get, cls_at D.de, by decide +kernel, is_ok D.de (by kernel_rfl), ?_⟩
    subst_eqs
    have hN : Nest (s.nxt (ck w f x) (v % 2)) f' := by rw [hv]; exact N
    refine (kget_ok (L + 2) D A B (by omega) (cx_keys w f x) (bit := v % 2) (by omega) hN hsrc).mono fun r h4 ⟨e1, D4, K4⟩ => ?_
    subst e1
    subst_eqs
    refine (is_eq_ok (L + 5) h4 _).mono fun r h6 ⟨e1, e2⟩ => ?_
    subst e1 e2
    refine ⟨rfl, ?_, K4⟩
    rw [hv] at D4
    exact D4
end L11

local macro_rules
  | `(tactic| symm_saturate) => `(tactic| (repeat (first | ((with_reducible refine Mp.e_v (d := ?_) ?_ ?_); rotate_left; exact rfl) | (with_reducible refine Mp.e_int ?_) | (with_reducible refine Mp.e_bin ?_) | (with_reducible refine Mp.add_i ?_) | (with_reducible refine Mp.sub_i ?_) | ((with_reducible refine Mp.mul_r ?_ ?_); exact rfl) | ((with_reducible refine Mp.pow_i ?_ ?_); exact (by decide)) | ((with_reducible refine Mp.div_i ?_ ?_); exact (by decide)) | ((with_reducible refine Mp.mod_i ?_ ?_); exact (by decide)) | (with_reducible refine Mp.e_cmp ?_) | (with_reducible refine Mp.e_ix ?_) | (with_reducible refine Mp.e_c1 ?_) | (with_reducible refine Mp.e_c2 ?_) | ((with_reducible refine Mp.e_conI (i := ?_) ?_ ?_); rotate_left; exact rfl) | (with_reducible refine Mp.e_con ?_) | (with_reducible refine Mp.e_bl ?_) | (with_reducible refine Mp.e_str ?_) | (with_reducible refine Mp.e_non ?_) | (with_reducible refine Mp.a_nil ?_) | (with_reducible refine Mp.a_cons ?_) | (with_reducible refine Mp.e_call ?_) | (with_reducible refine Mp.e_one ?_) | (with_reducible refine Mp.e_isi ?_) | (with_reducible refine Mp.t_val ?_) | (with_reducible refine Mp.t_not ?_) | (with_reducible refine Mp.t_all ?_) | (with_reducible refine Mp.t_any ?_) | (with_reducible refine Mp.w_one ?_) | (with_reducible refine Mp.w_and ?_) | (with_reducible refine Mp.w_or ?_) | (with_reducible refine Mp.t_yes ?_) | (with_reducible refine Mp.o_non ?_) | (with_reducible refine Mp.b_nil ?_) | (with_reducible refine Mp.b_cons ?_) | (with_reducible refine Mp.s_asg ?_) | (with_reducible refine Mp.s_ret ?_) | (with_reducible refine Mp.s_do ?_) | (with_reducible refine Mp.s_fld ?_) | (with_reducible refine Mp.s_ix ?_) | (with_reducible refine Mp.s_pass ?_) | (with_reducible refine Mp.s_brk ?_) | (with_reducible refine Mp.s_cnt ?_) | (with_reducible refine Mp.s_retN ?_) | (with_reducible refine Mp.i_rng1 ?_) | (with_reducible refine Mp.i_seq ?_) | (with_reducible refine Mp.e_fld ?_) | (with_reducible refine Mp.e_meth ?_) | (with_reducible refine Mp.e_get2 ?_) | (with_reducible refine Mp.e_lnew ?_) | (with_reducible refine Mp.e_own ?_) | ((with_reducible refine Mp.and_le ?_ ?_); exact rfl) | (with_reducible refine Mp.e_lst ?_) | (with_reducible refine Mp.e_tup ?_) | (with_reducible refine Mp.e_appL ?_) | (with_reducible refine Mp.e_frz ?_) | (with_reducible refine Mp.e_sl ?_) | (with_reducible refine Mp.e_rev2 ?_) | (with_reducible refine Mp.e_ite ?_) | (with_reducible refine Mp.e_new ?_) | (with_reducible refine Mp.e_dnewT ?_) | (with_reducible refine Mp.e_dnewK ?_) | (with_reducible refine Mp.e_not ?_) | (with_reducible refine Mp.e_neg ?_) | (with_reducible refine Mp.e_isN ?_) | (with_reducible refine Mp.e_callK ?_) | (with_reducible refine Mp.e_methK ?_) | (with_reducible refine Mp.s_tryN ?_) | (with_reducible refine Mp.e_or ?_) | (with_reducible refine Mp.e_and ?_) | (with_reducible refine Mp.int_i ?_) | (with_reducible refine Mp.len_scr ?_) | (with_reducible refine Mp.len_tup ?_) | (with_reducible refine Mp.len_lst ?_) | ((with_reducible refine Mp.ex_some (a := ?_) ?_ ?_); rotate_left; exact rfl) | (dsimp only [Mp.RV.toV]) | (with_reducible refine Mp.s_ite ?_) | (with_reducible refine Mp.s_for ?_) | (with_reducible refine Mp.o_some ?_) | (with_reducible refine Mp.ex_int ?_) | (with_reducible refine Mp.ex_str ?_) | (with_reducible refine Mp.e_lc1 ?_) | (with_reducible refine Mp.lcput ?_) | (with_reducible refine Mp.sl_t ?_) | (with_reducible refine Mp.sl_l ?_) | (with_reducible refine Mp.sl_n ?_) | (with_reducible refine Mp.tup_n ?_) | (with_reducible refine Mp.tup_t ?_) | (with_reducible refine Mp.tup_l ?_) | (with_reducible refine Mp.list_t ?_) | (with_reducible refine Mp.list_l ?_) | (with_reducible refine Mp.int_b ?_) | (with_reducible refine Mp.min_i ?_) | (with_reducible refine Mp.max_i ?_) | (with_reducible refine Mp.e_sidx ?_) | (with_reducible refine Mp.i_rev ?_) | (with_reducible refine Mp.and1_i ?_) | (with_reducible refine Mp.s_setLcO ?_) | (with_reducible refine Mp.ex_nl ?_) | (with_reducible refine Mp.e_newK ?_) | (with_reducible refine Mp.e_bits ?_) | (with_reducible refine Mp.s_setLcN ?_) | (with_reducible refine Mp.len_n ?_) | (with_reducible refine Mp.if_tt ?_) | (with_reducible refine Mp.if_ff ?_) | ((with_reducible refine Mp.mul_i ?_ ?_); exact rfl) | ((with_reducible refine Mp.ix_nl (d := ?_) ?_ ?_); rotate_left; exact rfl) | ((with_reducible refine Mp.ix_tup (d := ?_) ?_ ?_); rotate_left; exact rfl) | ((with_reducible refine Mp.ix_lst (d := ?_) ?_ ?_); rotate_left; exact rfl) | ((with_reducible refine Mp.divmod_i ?_ ?_); exact (by decide)) | ((with_reducible refine Mp.ex_seq (k := ?_) (ds := ?_) ?_ ?_); rotate_left 2; exact rfl) | ((with_reducible refine Mp.ite_f ?_ ?_); exact rfl) | ((with_reducible refine Mp.ite_t ?_ ?_); exact rfl) | (dsimp only [Bool.not_true, Bool.not_false, Mp.revR]))))
local macro_rules
  | `(tactic| subst_eqs) => `(tactic| (repeat (first | ((with_reducible refine Mp.e_v (d := ?_) ?_ ?_); rotate_left; exact rfl) | (with_reducible refine Mp.e_int ?_) | (with_reducible refine Mp.e_bin ?_) | (with_reducible refine Mp.add_i ?_) | (with_reducible refine Mp.sub_i ?_) | ((with_reducible refine Mp.mul_r ?_ ?_); exact rfl) | ((with_reducible refine Mp.pow_i ?_ ?_); exact (by decide)) | ((with_reducible refine Mp.div_i ?_ ?_); exact (by decide)) | ((with_reducible refine Mp.mod_i ?_ ?_); exact (by decide)) | (with_reducible refine Mp.e_cmp ?_) | (with_reducible refine Mp.e_ix ?_) | (with_reducible refine Mp.e_c1 ?_) | (with_reducible refine Mp.e_c2 ?_) | ((with_reducible refine Mp.e_conI (i := ?_) ?_ ?_); rotate_left; exact rfl) | (with_reducible refine Mp.e_con ?_) | (with_reducible refine Mp.e_bl ?_) | (with_reducible refine Mp.e_str ?_) | (with_reducible refine Mp.e_non ?_) | (with_reducible refine Mp.a_nil ?_) | (with_reducible refine Mp.a_cons ?_) | (with_reducible refine Mp.e_call ?_) | (with_reducible refine Mp.e_one ?_) | (with_reducible refine Mp.e_isi ?_) | (with_reducible refine Mp.t_val ?_) | (with_reducible refine Mp.t_not ?_) | (with_reducible refine Mp.t_all ?_) | (with_reducible refine Mp.t_any ?_) | (with_reducible refine Mp.w_one ?_) | (with_reducible refine Mp.w_and ?_) | (with_reducible refine Mp.w_or ?_) | (with_reducible refine Mp.t_yes ?_) | (with_reducible refine Mp.o_non ?_) | (with_reducible refine Mp.b_nil ?_) | (with_reducible refine Mp.b_cons ?_) | (with_reducible refine Mp.s_asg ?_) | (with_reducible refine Mp.s_ret ?_) | (with_reducible refine Mp.s_do ?_) | (with_reducible refine Mp.s_fld ?_) | (with_reducible refine Mp.s_ix ?_) | (with_reducible refine Mp.s_pass ?_) | (with_reducible refine Mp.s_brk ?_) | (with_reducible refine Mp.s_cnt ?_) | (with_reducible refine Mp.s_retN ?_) | (with_reducible refine Mp.i_rng1 ?_) | (with_reducible refine Mp.i_seq ?_) | (with_reducible refine Mp.e_fld ?_) | (with_reducible refine Mp.e_meth ?_) | (with_reducible refine Mp.e_get2 ?_) | (with_reducible refine Mp.e_lnew ?_) | (with_reducible refine Mp.e_own ?_) | ((with_reducible refine Mp.and_le ?_ ?_); exact rfl) | (with_reducible refine Mp.e_lst ?_) | (with_reducible refine Mp.e_tup ?_) | (with_reducible refine Mp.e_appL ?_) | (with_reducible refine Mp.e_frz ?_) | (with_reducible refine Mp.e_sl ?_) | (with_reducible refine Mp.e_rev2 ?_) | (with_reducible refine Mp.e_ite ?_) | (with_reducible refine Mp.e_new ?_) | (with_reducible refine Mp.e_dnewT ?_) | (with_reducible refine Mp.e_dnewK ?_) | (with_reducible refine Mp.e_not ?_) | (with_reducible refine Mp.e_neg ?_) | (with_reducible refine Mp.e_isN ?_) | (with_reducible refine Mp.e_callK ?_) | (with_reducible refine Mp.e_methK ?_) | (with_reducible refine Mp.s_tryN ?_) | (with_reducible refine Mp.e_or ?_) | (with_reducible refine Mp.e_and ?_) | (with_reducible refine Mp.int_i ?_) | (with_reducible refine Mp.len_scr ?_) | (with_reducible refine Mp.len_tup ?_) | (with_reducible refine Mp.len_lst ?_) | ((with_reducible refine Mp.ex_some (a := ?_) ?_ ?_); rotate_left; exact rfl) | (dsimp only [Mp.RV.toV]) | (with_reducible refine Mp.o_some ?_) | (with_reducible refine Mp.ex_int ?_) | (with_reducible refine Mp.ex_str ?_) | (with_reducible refine Mp.e_lc1 ?_) | (with_reducible refine Mp.lcput ?_) | (with_reducible refine Mp.sl_t ?_) | (with_reducible refine Mp.sl_l ?_) | (with_reducible refine Mp.sl_n ?_) | (with_reducible refine Mp.tup_n ?_) | (with_reducible refine Mp.tup_t ?_) | (with_reducible refine Mp.tup_l ?_) | (with_reducible refine Mp.list_t ?_) | (with_reducible refine Mp.list_l ?_) | (with_reducible refine Mp.int_b ?_) | (with_reducible refine Mp.min_i ?_) | (with_reducible refine Mp.max_i ?_) | (with_reducible refine Mp.e_sidx ?_) | (with_reducible refine Mp.i_rev ?_) | (with_reducible refine Mp.and1_i ?_) | (with_reducible refine Mp.s_setLcO ?_) | (with_reducible refine Mp.ex_nl ?_) | (with_reducible refine Mp.e_newK ?_) | (with_reducible refine Mp.e_bits ?_) | (with_reducible refine Mp.s_setLcN ?_) | (with_reducible refine Mp.len_n ?_) | (with_reducible refine Mp.if_tt ?_) | (with_reducible refine Mp.if_ff ?_) | ((with_reducible refine Mp.mul_i ?_ ?_); exact rfl) | ((with_reducible refine Mp.ix_nl (d := ?_) ?_ ?_); rotate_left; exact rfl) | ((with_reducible refine Mp.ix_tup (d := ?_) ?_ ?_); rotate_left; exact rfl) | ((with_reducible refine Mp.ix_lst (d := ?_) ?_ ?_); rotate_left; exact rfl) | ((with_reducible refine Mp.divmod_i ?_ ?_); exact (by decide)) | ((with_reducible refine Mp.ex_seq (k := ?_) (ds := ?_) ?_ ?_); rotate_left 2; exact rfl) | ((with_reducible refine Mp.ite_f ?_ ?_); exact rfl) | ((with_reducible refine Mp.ite_t ?_ ?_); exact rfl) | (dsimp only [Bool.not_true, Bool.not_false, Mp.revR]))))
namespace L11
open PySem PySem.Spec PyProof.Rows L2 Mp
theorem words_ok (L : Nat) (ns hd : List Int) (h : MHp) (hl : 3 ≤ hd.length) : WE (callN tb ds (L + 4) i__law_words [.scr ns, .lst (hd.map MV.int)] h) fun r h1 => (∃ w0 w1 w2 : Str, r = .lst [.str w0, .str w1, .str w2]) ∧ ∃ t, h1 = h ++ t := by
  refine call_ok (d := d__law_words) rfl rfl ?_
  show WS (evB _ b__law_words _ _) _
  unfold b__law_words
  obtain ⟨v1, _, q1⟩ := row_at (row := hd) (i := 1) (by decide) (by omega)
  obtain ⟨v2, _, q2⟩ := row_at (row := hd) (i := 2) (by decide) (by omega)
  subst_eqs
  refine (cell_ok L ns 1 _).mono fun r h1 ⟨e1, e2⟩ => ?_
  subst e1 e2
  subst_eqs
  refine (row_ok L _ 26 19 8 _ (by decide) (by decide)).mono fun r h2 ⟨mk, e1, mkl, mkr, ht⟩ => ?_
  subst e1
  subst_eqs
  with_reducible refine ws_cut (fun en h3 => h3 = h2 ∧ ∃ (s : Str) (o5 : Option MV), en = [some (.scr ns), some (.lst (hd.map .int)), some (.str "abcdefghijklmnopqrstuvwxyza"), some (.lst (mk.map .int)), some (.str s), o5, none, none, none] ∧ 1 ≤ s.length ∧ s.length ≤ 8 ∧ ∀ c ∈ s.cps.toList, 97 ≤ c ∧ c < 123) ?_ ?_
  · symm_saturate
    refine ix_lst q1 ?_
    symm_saturate
    have m0 := Int.emod_nonneg v1 (by decide : (8:Int) ≠ 0)
    have m1 := Int.emod_lt_of_pos v1 (by decide : (0:Int) < 8)
    refine ⟨by constructor <;> omega, ?_⟩
    refine for_rng (n := (1 + v1 % 8).toNat) (fun i en h3 => h3 = h2 ∧ ∃ (s : Str) (o5 : Option MV), en = [some (.scr ns), some (.lst (hd.map .int)), some (.str "abcdefghijklmnopqrstuvwxyza"), some (.lst (mk.map .int)), some (.str s), o5, none, none, none] ∧ s.length = i ∧ ∀ c ∈ s.cps.toList, 97 ≤ c ∧ c < 123) ⟨rfl, _, none, rfl, by decide +kernel, by decide +kernel⟩ (fun i en h3 hi hh => ?_) fun en h3 hh => ?_
    · obtain ⟨rfl, s, o5, rfl, hs, hc⟩ := hh
      refine ⟨_, rfl, ?_⟩
      obtain ⟨v, hv, q⟩ := row_at (row := mk) (i := (i : Int)) (by omega) (by omega)
      have hv := mkr v hv
      obtain ⟨c, hcm, q3⟩ := at_mem (l := ("abcdefghijklmnopqrstuvwxyza" : Str).cps.toList) hv.1 (by rw [letters2_ok.1]; omega)
      symm_saturate
      refine ix_lst q ?_
      refine ix_str (by decide +kernel) q3 ?_
      symm_saturate
      refine add_s (by rw [one_len]; omega) ?_
      symm_saturate
      refine ⟨rfl, s ++ ⟨#[c]⟩, some (.int i), by rfl, by rw [strApp_len, hs]; rfl, fun x hx => ?_⟩
      rw [Str.cps_append, Array.toList_append] at hx
      rcases List.mem_append.mp hx with z | z
      · exact hc x z
      · rw [List.mem_singleton.mp z]; exact letters2_ok.2 c hcm
    · obtain ⟨rfl, s, o5, rfl, hs, hc⟩ := hh
      exact ⟨rfl, s, o5, rfl, by omega, by omega, hc⟩
  rintro en h3 ⟨rfl, s, o5, rfl, s1, s8, hc⟩
  subst_eqs
  refine ix_lst q2 ?_
  subst_eqs
  refine len_str (by omega) ?_
  refine mod_i (by omega) ?_
  have m0 := Int.emod_nonneg v2 (by omega : (s.length : Int) ≠ 0)
  have m1 := Int.emod_lt_of_pos v2 (by omega : (0 : Int) < s.length)
  generalize v2 % (s.length : Int) = at_ at m0 m1 ⊢
  obtain ⟨c, hcm, q⟩ := at_mem (l := s.cps.toList) m0 (by rw [Array.length_toList]; exact m1)
  have hc := hc c hcm
  obtain ⟨j, l, q5, hj⟩ := occ_at hc.1 hc.2
  obtain ⟨c2, _, q3⟩ := at_mem (l := ("abcdefghijklmnopqrstuvwxyza" : Str).cps.toList) (i := (j : Int) + 1) (by omega) (by rw [letters2_ok.1]; omega)
  subst_eqs
  refine sl_s (by omega) ?_
  subst_eqs
  refine ix_str (by omega) q ?_
  refine ⟨_, j, l, rfl, q5, ?_⟩
  subst_eqs
  refine ix_str (by decide +kernel) q3 ?_
  have c1 := cutS_len s none (some at_)
  have c3 := cutS_len s (some (at_ + 1)) none
  refine add_s (by rw [one_len]; omega) ?_
  subst_eqs
  refine sl_s (by omega) ?_
  refine add_s (by rw [strApp_len, one_len]; omega) ?_
  subst_eqs
  refine sl_s (by omega) ?_
  subst_eqs
  refine ws_cut (fun en h4 => h4 = h3 ∧ ∃ (w1 w2 : Str) (o6 : Option MV), en = [some (.scr ns), some (.lst (hd.map .int)), some (.str "abcdefghijklmnopqrstuvwxyza"), some (.lst (mk.map .int)), some (.str s), o5, o6, some (.str w1), some (.str w2)]) ?_ ?_
  · with_reducible refine s_ite ?_
    subst_eqs
    refine len_str (by omega) ?_
    subst_eqs
    refine ite_w (fun _ => ?_) fun _ => ?_
    · subst_eqs
      refine add_s (by omega) ?_
      subst_eqs
      exact ⟨rfl, _, _, _, by rfl⟩
    · subst_eqs
      exact ⟨rfl, _, _, _, by rfl⟩
  rintro en h4 ⟨rfl, w1, w2, o6, rfl⟩
  subst_eqs
  exact ⟨⟨s, w1, w2, rfl⟩, ht⟩
theorem picks_ok : ∀ d ∈ [MV.int 0, MV.int 65534, MV.int 65533, MV.int 32767, MV.int 32766, MV.int 1], ∃ x : Int, d = .int x ∧ 0 ≤ x ∧ x ≤ 65534 := fun d h => by
  simp only [List.mem_cons, List.not_mem_nil, or_false] at h
  rcases h with e | e | e | e | e | e <;> exact ⟨_, e, by decide, by decide⟩
theorem lnumber_ok (L : Nat) (mk : List Int) (hl : mk.length = 6) (h : MHp) : WE (callN tb ds (L + 3) i__law_number [.lst (mk.map MV.int)] h) fun r h1 => (∃ v : Int, r = .int v ∧ 0 ≤ v ∧ v ≤ 65534) ∧ h1 = h := by
  refine call_ok (d := d__law_number) rfl rfl ?_
  show WS (evB _ b__law_number _ _) _
  unfold b__law_number
  obtain ⟨a2, _, q2⟩ := row_at (row := mk) (i := 2) (by decide) (by omega)
  obtain ⟨a3, _, q3⟩ := row_at (row := mk) (i := 3) (by decide) (by omega)
  obtain ⟨a4, _, q4⟩ := row_at (row := mk) (i := 4) (by decide) (by omega)
  obtain ⟨a5, _, q5⟩ := row_at (row := mk) (i := 5) (by decide) (by omega)
  subst_eqs
  refine ix_lst q2 ?_
  subst_eqs
  refine ix_lst q3 ?_
  subst_eqs
  generalize 65535 * a2 + a3 = great
  have m0 := Int.emod_nonneg a4 (by decide : (15:Int) ≠ 0)
  have m1 := Int.emod_lt_of_pos a4 (by decide : (0:Int) < 15)
  with_reducible refine ws_cut (fun en h3 => h3 = h ∧ ∃ (pw : Int) (o3 : Option MV), en = [some (.lst (mk.map .int)), some (.int great), some (.int pw), o3, none] ∧ 2 ≤ pw ∧ pw ≤ 32768) ?_ ?_
  · symm_saturate
    refine ix_lst q4 ?_
    symm_saturate
    refine ⟨by constructor <;> omega, ?_⟩
    refine for_rng (n := (1 + a4 % 15).toNat) (fun i en h3 => h3 = h ∧ ∃ (o3 : Option MV), en = [some (.lst (mk.map .int)), some (.int great), some (.int (2 ^ i)), o3, none]) ⟨rfl, none, rfl⟩ (fun i en h3 hi hh => ?_) fun en h3 hh => ?_
    · obtain ⟨rfl, o3, rfl⟩ := hh
      refine ⟨_, rfl, ?_⟩
      symm_saturate
      exact ⟨rfl, some (.int i), by rw [Int.pow_succ]; rfl⟩
    · obtain ⟨rfl, o3, rfl⟩ := hh
      refine ⟨rfl, _, o3, rfl, ?_, ?_⟩
      · have := pow_mono (show 1 ≤ (1 + a4 % 15).toNat by omega)
        omega
      · have := pow_mono (show (1 + a4 % 15).toNat ≤ 15 by omega)
        omega
  rintro en h3 ⟨rfl, pw, o3, rfl, p0, p1⟩
  subst_eqs
  refine ix_lst q5 ?_
  subst_eqs
  have w0 := Int.emod_nonneg a5 (by decide : (6:Int) ≠ 0)
  generalize a5 % 6 = way at w0 ⊢
  symm_saturate
  refine ite_w (fun _ => ?_) fun hw => ?_
  · symm_saturate
    have g0 := Int.emod_nonneg great (by decide : (65535:Int) ≠ 0)
    have g1 := Int.emod_lt_of_pos great (by decide : (0:Int) < 65535)
    exact ⟨⟨_, rfl, g0, by omega⟩, rfl⟩
  · have hw : ¬ way = 0 := by simpa using hw
    symm_saturate
    refine ite_w (fun hw3 => ?_) fun _ => ?_
    · have hw3 : way < 3 := of_decide_eq_true hw3
      symm_saturate
      exact ⟨⟨_, rfl, by omega, by omega⟩, rfl⟩
    · symm_saturate
      refine ite_w (fun _ => ?_) fun _ => ?_
      · have n0 := Int.emod_nonneg a4 (by decide : (6:Int) ≠ 0)
        have n1 := Int.emod_lt_of_pos a4 (by decide : (0:Int) < 6)
        obtain ⟨d, hd, qd⟩ := at_mem (l := [MV.int 0, MV.int 65534, MV.int 65533, MV.int 32767, MV.int 32766, MV.int 1]) n0 (by show _ < ((6 : Nat) : Int); exact n1)
        obtain ⟨x, rfl, hx⟩ := picks_ok d hd
        symm_saturate
        refine ix_lst q4 ?_
        symm_saturate
        refine ix_nl qd ?_
        exact ⟨⟨_, rfl, hx.1, hx.2⟩, rfl⟩
      · symm_saturate
        refine mod_i (by omega) ?_
        have g0 := Int.emod_nonneg great (by omega : min 65535 (2 * pw) ≠ 0)
        have g1 := Int.emod_lt_of_pos great (by omega : 0 < min 65535 (2 * pw))
        exact ⟨⟨_, rfl, g0, by omega⟩, rfl⟩
theorem kinds_ok : ∀ d ∈ [MV.str "number", MV.str "signed", MV.str "number", MV.str "signed", MV.str "single"], ∃ k : Kn, d = .str k.s := fun d h => by
  simp only [List.mem_cons, List.not_mem_nil, or_false] at h
  rcases h with e | e | e | e | e
  · exact ⟨.num, e⟩
  · exact ⟨.sgn, e⟩
  · exact ⟨.num, e⟩
  · exact ⟨.sgn, e⟩
  · exact ⟨.one, e⟩
theorem things_ok (L : Nat) (ns hd : List Int) (h : MHp) (hl : 3 ≤ hd.length) : WE (callN tb ds (L + 5) i__law_things [.scr ns, .lst (hd.map MV.int)] h) fun r _ => ∃ T : List Th, r = .lst (T.map tv) ∧ T.length ≤ 10 ∧ ∀ t ∈ T, GoodT t := by
  refine call_ok (d := d__law_things) rfl rfl ?_
  show WS (evB _ b__law_things _ _) _
  unfold b__law_things
  obtain ⟨v0, _, q0⟩ := row_at (row := hd) (i := 0) (by decide) (by omega)
  subst_eqs
  refine (words_ok L ns hd h hl).mono fun r h1 ⟨⟨w0, w1, w2, e1⟩, _⟩ => ?_
  subst e1
  subst_eqs
  have m0 := Int.emod_nonneg v0 (by decide : (10:Int) ≠ 0)
  have m1 := Int.emod_lt_of_pos v0 (by decide : (0:Int) < 10)
  with_reducible refine ws_cut (fun en h3 => ∃ (T : List Th) (o4 o5 o6 : Option MV), en = [some (.scr ns), some (.lst (hd.map .int)), some (.lst [.str w0, .str w1, .str w2]), some (.ref h1.length), o4, o5, o6] ∧ h3[h1.length]? = some (.lst (T.map tv)) ∧ T.length ≤ 10 ∧ ∀ t ∈ T, GoodT t) ?_ ?_
  · symm_saturate
    refine ix_lst q0 ?_
    symm_saturate
    refine ⟨by constructor <;> omega, ?_⟩
    refine for_rng (n := (1 + v0 % 10).toNat) (fun i en h3 => ∃ (T : List Th) (o4 o5 o6 : Option MV), en = [some (.scr ns), some (.lst (hd.map .int)), some (.lst [.str w0, .str w1, .str w2]), some (.ref h1.length), o4, o5, o6] ∧ h3[h1.length]? = some (.lst (T.map tv)) ∧ T.length = i ∧ ∀ t ∈ T, GoodT t) ⟨[], none, none, none, by rfl, by simp, rfl, fun _ z => nomatch z⟩ (fun i en h3 hi hh => ?_) fun en h3 hh => ?_
    · obtain ⟨T, o4, o5, o6, rfl, hT, hTl, hG⟩ := hh
      refine ⟨_, rfl, ?_⟩
      symm_saturate
      refine (cell_ok (L + 1) ns (2 + i) _).mono fun r h4 ⟨e1, e2⟩ => ?_
      subst e1 e2
      symm_saturate
      refine (row_ok (L + 1) _ 65535 (300 + i) 6 _ (by decide) (by decide)).mono fun r h5 ⟨mk, e1, mkl, mkr, t, e2⟩ => ?_
      subst e1
      have hT5 : h5[h1.length]? = some (.lst (T.map tv)) := by rw [e2, List.getElem?_append_left (List.getElem?_eq_some_iff.mp hT).1]; exact hT
      symm_saturate
      refine (lnumber_ok (L + 1) mk mkl _).mono fun r h6 ⟨⟨v, e1, hv0, hv1⟩, e2⟩ => ?_
      subst e1 e2
      obtain ⟨b0, _, p0⟩ := row_at (row := mk) (i := 0) (by decide) (by omega)
      obtain ⟨b1, _, p1⟩ := row_at (row := mk) (i := 1) (by decide) (by omega)
      obtain ⟨b4, _, p4⟩ := row_at (row := mk) (i := 4) (by decide) (by omega)
      have x0 := Int.emod_nonneg b0 (by decide : (5:Int) ≠ 0)
      have x1 := Int.emod_lt_of_pos b0 (by decide : (0:Int) < 5)
      have y0 := Int.emod_nonneg b1 (by decide : (3:Int) ≠ 0)
      have y1 := Int.emod_lt_of_pos b1 (by decide : (0:Int) < 3)
      obtain ⟨d, hd1, qd⟩ := at_mem (l := [MV.str "number", MV.str "signed", MV.str "number", MV.str "signed", MV.str "single"]) x0 (by show _ < ((5 : Nat) : Int); exact x1)
      obtain ⟨kn, rfl⟩ := kinds_ok d hd1
      obtain ⟨dw, hdw, qw⟩ := at_mem (l := [MV.str w0, MV.str w1, MV.str w2]) y0 (by show _ < ((3 : Nat) : Int); exact y1)
      have hw : ∃ w : Str, dw = .str w := by
        simp only [List.mem_cons, List.not_mem_nil, or_false] at hdw
        rcases hdw with e | e | e <;> exact ⟨_, e⟩
      obtain ⟨w, rfl⟩ := hw
      symm_saturate
      refine ⟨_, _, rfl, lstAt_eq.mpr hT5, ?_⟩
      symm_saturate
      refine ix_lst p0 ?_
      symm_saturate
      refine ix_nl qd ?_
      symm_saturate
      refine ix_lst p1 ?_
      symm_saturate
      refine ix_lst qw ?_
      symm_saturate
      refine ix_lst p0 ?_
      symm_saturate
      refine ix_lst p4 ?_
      symm_saturate
      refine ⟨_, lstAt_eq.mpr hT5, by rw [List.length_map]; omega, ?_⟩
      symm_saturate
      refine ⟨T ++ [⟨kn, w, (v + 1).toNat, b0 / 5 % 2, b4 % 16⟩], _, _, _, by rfl, ?_, by rw [List.length_append, hTl]; rfl, fun q hq => ?_⟩
      · rw [List.getElem?_set_self (List.getElem?_eq_some_iff.mp hT5).1, List.map_append]
        unfold tv
        simp only [List.map_cons, List.map_nil]
        rw [show (((v + 1).toNat : Nat) : Int) - 1 = v by omega]
      · rcases List.mem_append.mp hq with z | z
        · exact hG q z
        · rw [List.mem_singleton.mp z]
          exact ⟨by show 1 ≤ (v + 1).toNat; omega, by show (v + 1).toNat < 65536; omega⟩
    · obtain ⟨T, o4, o5, o6, rfl, hT, hTl, hG⟩ := hh
      exact ⟨T, o4, o5, o6, rfl, hT, by omega, hG⟩
  · rintro en h3 ⟨T, o4, o5, o6, rfl, hT, hTl, hG⟩
    subst_eqs
    refine ⟨_, _, _, rfl, frz_at (lstAt_eq.mpr hT) (fun d hd n => ?_), ?_⟩
    · obtain ⟨q, _, rfl⟩ := List.mem_map.mp hd
      exact fun z => nomatch z
    · subst_eqs
      exact ⟨T, rfl, hTl, hG⟩
end L11

local macro_rules
  | `(tactic| symm_saturate) => `(tactic| (repeat (first | ((with_reducible refine Mp.e_v (d := ?_) ?_ ?_); rotate_left; exact rfl) | (with_reducible refine Mp.e_int ?_) | (with_reducible refine Mp.e_bin ?_) | (with_reducible refine Mp.add_i ?_) | (with_reducible refine Mp.sub_i ?_) | ((with_reducible refine Mp.mul_r ?_ ?_); exact rfl) | ((with_reducible refine Mp.pow_i ?_ ?_); exact (by decide)) | ((with_reducible refine Mp.div_i ?_ ?_); exact (by decide)) | ((with_reducible refine Mp.mod_i ?_ ?_); exact (by decide)) | (with_reducible refine Mp.e_cmp ?_) | (with_reducible refine Mp.e_ix ?_) | (with_reducible refine Mp.e_c1 ?_) | (with_reducible refine Mp.e_c2 ?_) | ((with_reducible refine Mp.e_conI (i := ?_) ?_ ?_); rotate_left; exact rfl) | (with_reducible refine Mp.e_con ?_) | (with_reducible refine Mp.e_bl ?_) | (with_reducible refine Mp.e_str ?_) | (with_reducible refine Mp.e_non ?_) | (with_reducible refine Mp.a_nil ?_) | (with_reducible refine Mp.a_cons ?_) | (with_reducible refine Mp.e_call ?_) | (with_reducible refine Mp.e_one ?_) | (with_reducible refine Mp.e_isi ?_) | (with_reducible refine Mp.t_val ?_) | (with_reducible refine Mp.t_not ?_) | (with_reducible refine Mp.t_all ?_) | (with_reducible refine Mp.t_any ?_) | (with_reducible refine Mp.w_one ?_) | (with_reducible refine Mp.w_and ?_) | (with_reducible refine Mp.w_or ?_) | (with_reducible refine Mp.t_yes ?_) | (with_reducible refine Mp.o_non ?_) | (with_reducible refine Mp.b_nil ?_) | (with_reducible refine Mp.b_cons ?_) | (with_reducible refine Mp.s_asg ?_) | (with_reducible refine Mp.s_ret ?_) | (with_reducible refine Mp.s_do ?_) | (with_reducible refine Mp.s_fld ?_) | (with_reducible refine Mp.s_ix ?_) | (with_reducible refine Mp.s_pass ?_) | (with_reducible refine Mp.s_brk ?_) | (with_reducible refine Mp.s_cnt ?_) | (with_reducible refine Mp.s_retN ?_) | (with_reducible refine Mp.i_rng1 ?_) | (with_reducible refine Mp.i_seq ?_) | (with_reducible refine Mp.e_fld ?_) | (with_reducible refine Mp.e_meth ?_) | (with_reducible refine Mp.e_get2 ?_) | (with_reducible refine Mp.e_lnew ?_) | (with_reducible refine Mp.e_own ?_) | ((with_reducible refine Mp.and_le ?_ ?_); exact rfl) | (with_reducible refine Mp.e_lst ?_) | (with_reducible refine Mp.e_tup ?_) | (with_reducible refine Mp.e_appL ?_) | (with_reducible refine Mp.e_frz ?_) | (with_reducible refine Mp.e_sl ?_) | (with_reducible refine Mp.e_rev2 ?_) | (with_reducible refine Mp.e_ite ?_) | (with_reducible refine Mp.e_new ?_) | (with_reducible refine Mp.e_dnewT ?_) | (with_reducible refine Mp.e_dnewK ?_) | (with_reducible refine Mp.e_not ?_) | (with_reducible refine Mp.e_neg ?_) | (with_reducible refine Mp.e_isN ?_) | (with_reducible refine Mp.e_callK ?_) | (with_reducible refine Mp.e_methK ?_) | (with_reducible refine Mp.s_tryN ?_) | (with_reducible refine Mp.e_or ?_) | (with_reducible refine Mp.e_and ?_) | (with_reducible refine Mp.int_i ?_) | (with_reducible refine Mp.len_scr ?_) | (with_reducible refine Mp.len_tup ?_) | (with_reducible refine Mp.len_lst ?_) | ((with_reducible refine Mp.ex_some (a := ?_) ?_ ?_); rotate_left; exact rfl) | (dsimp only [Mp.RV.toV]) | (with_reducible refine Mp.s_ite ?_) | (with_reducible refine Mp.s_for ?_) | (with_reducible refine Mp.o_some ?_) | (with_reducible refine Mp.ex_int ?_) | (with_reducible refine Mp.ex_str ?_) | (with_reducible refine Mp.e_lc1 ?_) | (with_reducible refine Mp.lcput ?_) | (with_reducible refine Mp.sl_t ?_) | (with_reducible refine Mp.sl_l ?_) | (with_reducible refine Mp.sl_n ?_) | (with_reducible refine Mp.tup_n ?_) | (with_reducible refine Mp.tup_t ?_) | (with_reducible refine Mp.tup_l ?_) | (with_reducible refine Mp.list_t ?_) | (with_reducible refine Mp.list_l ?_) | (with_reducible refine Mp.int_b ?_) | (with_reducible refine Mp.min_i ?_) | (with_reducible refine Mp.max_i ?_) | (with_reducible refine Mp.e_sidx ?_) | (with_reducible refine Mp.i_rev ?_) | (with_reducible refine Mp.and1_i ?_) | (with_reducible refine Mp.s_setLcO ?_) | (with_reducible refine Mp.ex_nl ?_) | (with_reducible refine Mp.e_newK ?_) | (with_reducible refine Mp.e_bits ?_) | (with_reducible refine Mp.s_setLcN ?_) | (with_reducible refine Mp.len_n ?_) | (with_reducible refine Mp.if_tt ?_) | (with_reducible refine Mp.if_ff ?_) | ((with_reducible refine Mp.mul_i ?_ ?_); exact rfl) | ((with_reducible refine Mp.ix_nl (d := ?_) ?_ ?_); rotate_left; exact rfl) | ((with_reducible refine Mp.ix_tup (d := ?_) ?_ ?_); rotate_left; exact rfl) | ((with_reducible refine Mp.ix_lst (d := ?_) ?_ ?_); rotate_left; exact rfl) | ((with_reducible refine Mp.divmod_i ?_ ?_); exact (by decide)) | ((with_reducible refine Mp.ex_seq (k := ?_) (ds := ?_) ?_ ?_); rotate_left 2; exact rfl) | ((with_reducible refine Mp.ite_f ?_ ?_); exact rfl) | ((with_reducible refine Mp.ite_t ?_ ?_); exact rfl) | (dsimp only [Bool.not_true, Bool.not_false, Mp.revR]))))
local macro_rules
  | `(tactic| subst_eqs) => `(tactic| (repeat (first | ((with_reducible refine Mp.e_v (d := ?_) ?_ ?_); rotate_left; exact rfl) | (with_reducible refine Mp.e_int ?_) | (with_reducible refine Mp.e_bin ?_) | (with_reducible refine Mp.add_i ?_) | (with_reducible refine Mp.sub_i ?_) | ((with_reducible refine Mp.mul_r ?_ ?_); exact rfl) | ((with_reducible refine Mp.pow_i ?_ ?_); exact (by decide)) | ((with_reducible refine Mp.div_i ?_ ?_); exact (by decide)) | ((with_reducible refine Mp.mod_i ?_ ?_); exact (by decide)) | (with_reducible refine Mp.e_cmp ?_) | (with_reducible refine Mp.e_ix ?_) | (with_reducible refine Mp.e_c1 ?_) | (with_reducible refine Mp.e_c2 ?_) | ((with_reducible refine Mp.e_conI (i := ?_) ?_ ?_); rotate_left; exact rfl) | (with_reducible refine Mp.e_con ?_) | (with_reducible refine Mp.e_bl ?_) | (with_reducible refine Mp.e_str ?_) | (with_reducible refine Mp.e_non ?_) | (with_reducible refine Mp.a_nil ?_) | (with_reducible refine Mp.a_cons ?_) | (with_reducible refine Mp.e_call ?_) | (with_reducible refine Mp.e_one ?_) | (with_reducible refine Mp.e_isi ?_) | (with_reducible refine Mp.t_val ?_) | (with_reducible refine Mp.t_not ?_) | (with_reducible refine Mp.t_all ?_) | (with_reducible refine Mp.t_any ?_) | (with_reducible refine Mp.w_one ?_) | (with_reducible refine Mp.w_and ?_) | (with_reducible refine Mp.w_or ?_) | (with_reducible refine Mp.t_yes ?_) | (with_reducible refine Mp.o_non ?_) | (with_reducible refine Mp.b_nil ?_) | (with_reducible refine Mp.b_cons ?_) | (with_reducible refine Mp.s_asg ?_) | (with_reducible refine Mp.s_ret ?_) | (with_reducible refine Mp.s_do ?_) | (with_reducible refine Mp.s_fld ?_) | (with_reducible refine Mp.s_ix ?_) | (with_reducible refine Mp.s_pass ?_) | (with_reducible refine Mp.s_brk ?_) | (with_reducible refine Mp.s_cnt ?_) | (with_reducible refine Mp.s_retN ?_) | (with_reducible refine Mp.i_rng1 ?_) | (with_reducible refine Mp.i_seq ?_) | (with_reducible refine Mp.e_fld ?_) | (with_reducible refine Mp.e_meth ?_) | (with_reducible refine Mp.e_get2 ?_) | (with_reducible refine Mp.e_lnew ?_) | (with_reducible refine Mp.e_own ?_) | ((with_reducible refine Mp.and_le ?_ ?_); exact rfl) | (with_reducible refine Mp.e_lst ?_) | (with_reducible refine Mp.e_tup ?_) | (with_reducible refine Mp.e_appL ?_) | (with_reducible refine Mp.e_frz ?_) | (with_reducible refine Mp.e_sl ?_) | (with_reducible refine Mp.e_rev2 ?_) | (with_reducible refine Mp.e_ite ?_) | (with_reducible refine Mp.e_new ?_) | (with_reducible refine Mp.e_dnewT ?_) | (with_reducible refine Mp.e_dnewK ?_) | (with_reducible refine Mp.e_not ?_) | (with_reducible refine Mp.e_neg ?_) | (with_reducible refine Mp.e_isN ?_) | (with_reducible refine Mp.e_callK ?_) | (with_reducible refine Mp.e_methK ?_) | (with_reducible refine Mp.s_tryN ?_) | (with_reducible refine Mp.e_or ?_) | (with_reducible refine Mp.e_and ?_) | (with_reducible refine Mp.int_i ?_) | (with_reducible refine Mp.len_scr ?_) | (with_reducible refine Mp.len_tup ?_) | (with_reducible refine Mp.len_lst ?_) | ((with_reducible refine Mp.ex_some (a := ?_) ?_ ?_); rotate_left; exact rfl) | (dsimp only [Mp.RV.toV]) | (with_reducible refine Mp.o_some ?_) | (with_reducible refine Mp.ex_int ?_) | (with_reducible refine Mp.ex_str ?_) | (with_reducible refine Mp.e_lc1 ?_) | (with_reducible refine Mp.lcput ?_) | (with_reducible refine Mp.sl_t ?_) | (with_reducible refine Mp.sl_l ?_) | (with_reducible refine Mp.sl_n ?_) | (with_reducible refine Mp.tup_n ?_) | (with_reducible refine Mp.tup_t ?_) | (with_reducible refine Mp.tup_l ?_) | (with_reducible refine Mp.list_t ?_) | (with_reducible refine Mp.list_l ?_) | (with_reducible refine Mp.int_b ?_) | (with_reducible refine Mp.min_i ?_) | (with_reducible refine Mp.max_i ?_) | (with_reducible refine Mp.e_sidx ?_) | (with_reducible refine Mp.i_rev ?_) | (with_reducible refine Mp.and1_i ?_) | (with_reducible refine Mp.s_setLcO ?_) | (with_reducible refine Mp.ex_nl ?_) | (with_reducible refine Mp.e_newK ?_) | (with_reducible refine Mp.e_bits ?_) | (with_reducible refine Mp.s_setLcN ?_) | (with_reducible refine Mp.len_n ?_) | (with_reducible refine Mp.if_tt ?_) | (with_reducible refine Mp.if_ff ?_) | ((with_reducible refine Mp.mul_i ?_ ?_); exact rfl) | ((with_reducible refine Mp.ix_nl (d := ?_) ?_ ?_); rotate_left; exact rfl) | ((with_reducible refine Mp.ix_tup (d := ?_) ?_ ?_); rotate_left; exact rfl) | ((with_reducible refine Mp.ix_lst (d := ?_) ?_ ?_); rotate_left; exact rfl) | ((with_reducible refine Mp.divmod_i ?_ ?_); exact (by decide)) | ((with_reducible refine Mp.ex_seq (k := ?_) (ds := ?_) ?_ ?_); rotate_left 2; exact rfl) | ((with_reducible refine Mp.ite_f ?_ ?_); exact rfl) | ((with_reducible refine Mp.ite_t ?_ ?_); exact rfl) | (dsimp only [Bool.not_true, Bool.not_false, Mp.revR]))))
namespace L11
open PySem PySem.Spec PyProof.Rows L2 Mp
theorem alike3 (L : Nat) (h : MHp) (a b c : Int) : WE (callN tb ds (L + 3) i__law_alike [.tup [.int a, .int b, .int c], .tup [.int a, .int b, .int c]] h) fun r h1 => r = .bl true ∧ h1 = h := by
  have q := alike_ok L h [a, b, c] (by show 3 < 1000000; omega)
  simp only [List.map_cons, List.map_nil] at q
  exact q
theorem at_app {α : Type} {h t : List α} {j : Nat} {o : α} (e : t[j]? = some o) : (h ++ t)[h.length + j]? = some o := by
  rw [List.getElem?_append_right (by omega), show h.length + j - h.length = j by omega]; exact e
theorem newdec {f : Sn} {Kf : Nat} (B : Ok f Kf) (N : Nest Sn.one f) (h : MHp) (src : List Int) (hsrc : ∀ i, octA src i = octA (octs f.l f.w f.c) i) : Kd (h ++ [.ins "Decoder" (deF (h.length + 1) src 4 (takeN src 4 0 0)), .ins "Interval" (ivF 0 4294967296 4 (h.length + 2)), .dT []]) h.length (h.length + 1) (h.length + 2) src Sn.one f := by
  have hc : 4 ≤ f.c := N.c
  have e : takeN src 4 0 0 = f.X / 256 ^ (f.c - 4) := take_X0 B src hsrc 4 hc
  refine ⟨?_, at_app (j := 1) rfl, at_app (j := 2) rfl⟩
  rw [e]
  exact at_app (j := 0) rfl
def sqT (T : List Th) : Sq := T.flatMap fun t => sq (bts t)
theorem sqT_at {T : List Th} {k : Nat} {t : Th} (h : T[k]? = some t) : sqT (T.take (k + 1)) = sqT (T.take k) ++ sq (bts t) := by
  rw [List.take_succ, h]
  unfold sqT
  rw [List.flatMap_append]
  show _ ++ List.flatMap _ [t] = _
  rw [List.flatMap_singleton]
theorem sqT_len {T : List Th} (h : ∀ t ∈ T, GoodT t) : (sqT T).length ≤ 31 * T.length := by
  induction T with
  | nil => exact Nat.le_refl _
  | cons t T ih =>
    have := ih fun x hx => h x (List.mem_cons_of_mem _ hx)
    have h2 := bts_len t (h t List.mem_cons_self)
    unfold sqT at this ⊢
    rw [List.flatMap_cons, List.length_append, List.length_cons]
    omega
theorem sqT_split (T : List Th) (k : Nat) : sqT T = sqT (T.take k) ++ sqT (T.drop k) := by
  unfold sqT
  rw [← List.flatMap_append, List.take_append_drop]
theorem whole_ok (L : Nat) (ns : List Int) (hns : ns.length ≤ 63) : WE (callN tb ds (L + 10) i__law_whole [.scr ns] []) fun r _ => r = .bl true := by
  refine call_ok (d := d__law_whole) rfl rfl ?_
  show WS (evB _ b__law_whole _ _) _
  unfold b__law_whole
  subst_eqs
  refine (cell_ok (L + 6) ns 0 _).mono fun r h1 ⟨e1, e2⟩ => ?_
  subst e1 e2
  subst_eqs
  refine (row_ok (L + 6) _ 240 3 3 _ (by decide) (by decide)).mono fun r h1 ⟨hd, e1, hdl, hdr, t, e2⟩ => ?_
  subst e1
  clear e2 t
  subst_eqs
  refine (things_ok (L + 4) ns hd h1 (by omega)).mono fun r h2 ⟨T, e1, hTl, hG⟩ => ?_
  subst e1
  subst_eqs
  refine (coinit_ok (L + 3) h2).mono fun r h3 ⟨e1, e3⟩ => ?_
  refine ⟨e1, ?_⟩
  clear e1
  subst_eqs
  have p32 : (2 : Int) ^ Int.toNat 32 = 4294967296 := by decide
  rw [p32]
  have l3 : h3.length = h2.length + 3 := by rw [e3, List.length_append]; rfl
  have C0 : Kc (h3 ++ [.dT []]) h2.length (h2.length + 1) (h2.length + 2) Sn.one := by
    rw [e3, List.append_assoc]
    exact ⟨at_app (j := 0) rfl, at_app (j := 1) rfl, at_app (j := 2) rfl⟩
  have E0 : (h3 ++ [MO.dT []])[h2.length + 3]? = some (.dT Sn.one.kv) := by
    rw [e3, List.append_assoc]
    exact at_app (j := 3) rfl
  rw [l3]
  generalize h3 ++ [MO.dT []] = h4 at C0 E0 ⊢
  generalize h2.length = n at C0 E0 ⊢
  clear e3 l3 p32
  have hlen := sqT_len hG
  obtain ⟨f, hf⟩ : ∃ f, f = Sn.one.run (sqT T) := ⟨_, rfl⟩
  have Of : Ok f 310 := by
    rw [hf]
    exact (ok_one.run _).up (by omega)
  have Nf : Nest Sn.one f := by rw [hf]; exact nest_run ok_one _
  have pre : ∀ k, Ok (Sn.one.run (sqT (T.take k))) 310 := fun k => by
    refine (ok_one.run _).up ?_
    have := sqT_len (T := T.take k) fun t ht => hG t (List.mem_of_mem_take ht)
    rw [List.length_take] at this
    omega
  with_reducible refine ws_cut (fun en h5 => ∃ (o5 o7 o8 : Option MV), en = [some (.scr ns), some (.lst (T.map tv)), some (.ref n), some (.tup [.int f.l, .int f.w, .int f.c]), some (.ref (n + 3)), o5, none, o7, o8]) ?_ ?_
  · symm_saturate
    refine for_fix (fun k en h5 => ∃ (o5 o7 o8 : Option MV), en = [some (.scr ns), some (.lst (T.map tv)), some (.ref n), some (.tup [.int (Sn.one.run (sqT (T.take k))).l, .int (Sn.one.run (sqT (T.take k))).w, .int (Sn.one.run (sqT (T.take k))).c]), some (.ref (n + 3)), o5, none, o7, o8] ∧ Kc h5 n (n + 1) (n + 2) (Sn.one.run (sqT (T.take k))) ∧ h5[n + 3]? = some (.dT (Sn.one.run (sqT (T.take k))).kv)) ⟨none, none, none, by rfl, C0, E0⟩ (fun k en h5 d hd5 hh => ?_) fun en h5 hh => ?_
    · obtain ⟨o5, o7, o8, rfl, C5, E5⟩ := hh
      obtain ⟨t, ht, rfl⟩ : ∃ t, T[k]? = some t ∧ tv t = d := by
        rw [List.getElem?_map] at hd5
        obtain ⟨t, h1, h2⟩ := Option.map_eq_some_iff.mp hd5
        exact ⟨t, h1, h2⟩
      have ht2 := hG t (List.mem_of_getElem? ht)
      refine ⟨_, rfl, ?_⟩
      have A5 := pre k
      have A6 := pre (k + 1)
      have hst : Sn.one.run (sqT (T.take (k + 1))) = (Sn.one.run (sqT (T.take k))).run (sq (bts t)) := by rw [sqT_at ht, run_append]
      rw [hst] at A6
      simp only [hst]
      generalize Sn.one.run (sqT (T.take k)) = s at *
      symm_saturate
      refine (put_thing_ok L t ht2 C5 A5 (by decide)).mono fun r h6 ⟨e1, C6, K6⟩ => ?_
      subst e1
      have E6 := K6 _ _ (by simp only [List.mem_cons, List.not_mem_nil, or_false]; omega) E5
      subst_eqs
      with_reducible refine s_for ?_
      subst_eqs
      refine (lbits_ok (L + 5) t ht2 h6).mono fun r h7 ⟨e1, t7, e2⟩ => ?_
      subst e1
      have C7 : Kc h7 n (n + 1) (n + 2) (s.run (sq (bts t))) := by rw [e2]; exact C6.keep (Keep.app (ns := [])) (by simp)
      have E7 : h7[n + 3]? = some (.dT s.kv) := by rw [e2]; exact Keep.app (ns := []) _ _ (by simp) E6
      subst_eqs
      refine for_fix (fun j en h8 => ∃ (o7 o8 : Option MV), en = [some (.scr ns), some (.lst (T.map tv)), some (.ref n), some (.tup [.int (s.run ((sq (bts t)).take j)).l, .int (s.run ((sq (bts t)).take j)).w, .int (s.run ((sq (bts t)).take j)).c]), some (.ref (n + 3)), some (tv t), none, o7, o8] ∧ Kc h8 n (n + 1) (n + 2) (s.run (sq (bts t))) ∧ h8[n + 3]? = some (.dT (s.run ((sq (bts t)).take j)).kv)) ⟨o7, o8, by rfl, C7, E7⟩ (fun j en h8 d hd8 hh => ?_) fun en h8 hh => ?_
      · obtain ⟨o7, o8, rfl, C8, E8⟩ := hh
        obtain ⟨q, hq, rfl⟩ : ∃ q, (bts t)[j]? = some q ∧ pv q = d := by
          rw [List.getElem?_map] at hd8
          obtain ⟨q, h1, h2⟩ := Option.map_eq_some_iff.mp hd8
          exact ⟨q, h1, h2⟩
        have hqk : keysOf q.1 = some q.2.1 := by
          have hm := List.mem_of_getElem? hq
          unfold bts at hm
          cases hk : t.k with
          | one =>
            rw [hk] at hm
            rw [List.mem_singleton.mp hm]
            exact cx_keys _ _ _
          | num =>
            rw [hk] at hm
            exact bo_keys hm
          | sgn =>
            rw [hk] at hm
            exact bo_keys hm
        have hq2 : (sq (bts t))[j]? = some q.2 := by unfold sq; rw [List.getElem?_map, hq]; rfl
        have hlb := bts_len t ht2
        have A8 := A5.run ((sq (bts t)).take j)
        have hl8 : ((sq (bts t)).take j).length ≤ 31 := by rw [List.length_take]; omega
        have e8 : s.run ((sq (bts t)).take (j + 1)) = (s.run ((sq (bts t)).take j)).nxt q.2.1 q.2.2 := by rw [take_at hq2, run_snoc]
        simp only [e8]
        generalize s.run ((sq (bts t)).take j) = s2 at *
        have hp := A8.rg.p q.2.1
        have hw := cut_w (l := s2.l) (c := s2.c) (bit := q.2.2) A8.w0 hp.1 hp.2
        have hl := A8.ln
        refine ⟨_, rfl, ?_⟩
        subst_eqs
        refine (lput_ok (L + 6) E8 A8.rg.ints hqk (small_p hp.1 hp.2) (by omega) (by omega)).mono fun r h9 ⟨⟨l', w', c', e1, e2⟩, e3⟩ => ?_
        rw [shf_nxt] at e1
        have f1 := Prod.mk.inj e1
        have f2 := Prod.mk.inj f1.2
        subst e2
        rw [← f1.1, ← f2.1, ← f2.2]
        subst_eqs
        refine ⟨_, _, by rfl, ?_, ?_⟩
        · rw [e3]
          exact C8.keep (Keep.set (ns := [n + 3]) (by simp)) (by simp only [List.mem_cons, List.not_mem_nil, or_false]; omega)
        · rw [e3, List.getElem?_set_self (List.getElem?_eq_some_iff.mp E8).1]
          rfl
      · obtain ⟨o7, o8, rfl, C8, E8⟩ := hh
        have e9 : (sq (bts t)).take ((bts t).map pv).length = sq (bts t) := by
          rw [List.length_map, show (bts t).length = (sq (bts t)).length from (List.length_map _).symm, List.take_length]
        rw [e9] at E8 ⊢
        symm_saturate
        refine ⟨"Coder", i_Coder_state, cls_at C8.co, by decide +kernel, is_ok C8.co (by kernel_rfl), ?_⟩
        symm_saturate
        refine (costate_ok (L + 5) C8.co C8.iv).mono fun r h9 ⟨e1, e2⟩ => ?_
        subst e1 e2
        symm_saturate
        generalize s.run (sq (bts t)) = s2 at *
        generalize hcz : ((s2.c : Nat) : Int) = cz
        refine (alike3 (L + 6) _ s2.l s2.w cz).mono fun r h10 ⟨e1, e2⟩ => ?_
        subst e1 e2 hcz
        symm_saturate
        exact ⟨_, _, _, by rfl, C8, E8⟩
    · obtain ⟨o5, o7, o8, rfl, C5, E5⟩ := hh
      have e9 : T.take (T.map tv).length = T := by rw [List.length_map, List.take_length]
      rw [e9, ← hf]
      exact ⟨o5, o7, o8, rfl⟩
  intro en h5 hh
  obtain ⟨o5, o7, o8, he⟩ := hh
  subst he
  have hfl := Of.l1
  have hfw := Of.w0
  have hfc := Of.c1
  subst_eqs
  refine (due_ok (L + 6) _ f.l f.w f.c Of.l0 (by omega) (by omega) _ rfl).mono fun r h6 ⟨e1, e2⟩ => ?_
  subst e1 e2
  subst_eqs
  refine (deinit_ok (L + 3) h6 (octs f.l f.w f.c)).mono fun r h7 ⟨e1, e7⟩ => ?_
  refine ⟨e1, ?_⟩
  clear e1
  have D1 := newdec Of Nf h6 (octs f.l f.w f.c) (fun _ => rfl)
  rw [← e7] at D1
  generalize h6.length = a at D1 ⊢
  clear e7
  subst_eqs
  with_reducible refine ws_cut (fun en h8 => ∃ (o5 : Option MV), en = [some (.scr ns), some (.lst (T.map tv)), some (.ref n), some (.tup [.int f.l, .int f.w, .int f.c]), some (.ref (n + 3)), o5, some (.ref a), o7, o8] ∧ Kd h8 a (a + 1) (a + 2) (octs f.l f.w f.c) f f) ?_ ?_
  · symm_saturate
    refine for_fix (fun k en h8 => ∃ (o5 : Option MV), en = [some (.scr ns), some (.lst (T.map tv)), some (.ref n), some (.tup [.int f.l, .int f.w, .int f.c]), some (.ref (n + 3)), o5, some (.ref a), o7, o8] ∧ Kd h8 a (a + 1) (a + 2) (octs f.l f.w f.c) (Sn.one.run (sqT (T.take k))) f) ⟨o5, by rfl, D1⟩ (fun k en h8 d hd8 hh => ?_) fun en h8 hh => ?_
    · obtain ⟨o5, rfl, D8⟩ := hh
      obtain ⟨t, ht, rfl⟩ : ∃ t, T[k]? = some t ∧ tv t = d := by
        rw [List.getElem?_map] at hd8
        obtain ⟨t, h1, h2⟩ := Option.map_eq_some_iff.mp hd8
        exact ⟨t, h1, h2⟩
      have ht2 := hG t (List.mem_of_getElem? ht)
      refine ⟨_, rfl, ?_⟩
      have hst : Sn.one.run (sqT (T.take (k + 1))) = (Sn.one.run (sqT (T.take k))).run (sq (bts t)) := by rw [sqT_at ht, run_append]
      have hN : Nest ((Sn.one.run (sqT (T.take k))).run (sq (bts t))) f := by
        rw [← hst, hf, sqT_split T (k + 1), run_append]
        exact nest_run (pre (k + 1)) _
      symm_saturate
      refine (got_ok L t ht2 D8 (pre k) Of (by decide) hN (fun _ => rfl)).mono fun r h9 ⟨e1, D9, K9⟩ => ?_
      subst e1
      symm_saturate
      rw [hst]
      exact ⟨_, by rfl, D9⟩
    · obtain ⟨o5, rfl, D8⟩ := hh
      have e9 : T.take (T.map tv).length = T := by rw [List.length_map, List.take_length]
      rw [e9, ← hf] at D8
      exact ⟨o5, rfl, D8⟩
  intro en h8 hh
  obtain ⟨o5, he, D8⟩ := hh
  subst he
  subst_eqs
  refine ⟨"Decoder", i_Decoder_state, cls_at D8.de, by decide +kernel, is_ok D8.de (by kernel_rfl), ?_⟩
  subst_eqs
  refine (destate_ok (L + 5) D8.de D8.iv).mono fun r h9 ⟨e1, e2⟩ => ?_
  subst e1 e2
  subst_eqs
  generalize hcz : ((f.c : Nat) : Int) = cz
  refine (alike3 (L + 6) _ f.l f.w cz).mono fun r h10 ⟨e1, e2⟩ => ?_
  exact e1
theorem law_holds (L : Nat) : LawM tb ds (L + 11) lawI := fun ns hns => by
  have q : WE (callN tb ds (L + 11) lawI [.scr ns] []) fun r _ => r = .bl true := by
    refine call_ok (d := d_law) rfl rfl ?_
    show WS (evB _ b_law _ _) _
    unfold b_law
    symm_saturate
    exact (whole_ok L ns hns).mono fun r h1 e => e
  obtain ⟨a, hp, e1, e2⟩ := q.get
  exact ⟨hp, by rw [e1, e2]⟩
end L11

theorem PySem.Challenge.cw_picturetide_k11_numbers_holds : PySem.Challenge.rw_picturetide_k11_numbers.Holds := by
  exact L11.holds 11 ⟨rfl, by decide, by decide⟩ (L11.law_holds 0)
