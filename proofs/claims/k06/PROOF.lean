import PyProof.Rows.All
import Wide.All
import OpenK.AllK
import Wide.FinOn
import HandS.ForMost
import HandS.ForExc
import HandS.IsInst
import HandS.Wide
import HandS.EndBits
import HandS.HotCalls
import HandS.ExcInit
import HandS.ExcField
import HandS.ExcIs
import PySem.Challenge.RW_picturetide_k06_levels
set_option Elab.async false
set_option linter.all false
set_option maxRecDepth 100000
/-! Q1: what a slot holds, as plain data; expressions and statements judged by data alone. -/
namespace Qp
open PySem PySem.Spec PyProof.Rows L2
abbrev Fg := PySem.W.Frag
/-! ### heaps that grow -/
/-- what stands at an address, behind a growth: a code object's table may have got longer, all else stands -/
def Gr : HO → Option HO → Prop
  | .tbl ps, x => ∃ more, x = some (.tbl (ps ++ more)) ∧ (TriplesOk ps.toList → TriplesOk (ps ++ more).toList)
  | o, x => x = some o
theorem Gr.of {o : HO} {x : Option HO} (h : x = some o) : Gr o x := by
  cases o <;> first | exact h | exact ⟨#[], by rw [h, Array.append_empty], fun z => by rw [Array.append_empty]; exact z⟩
theorem Gr.some {o : HO} {x : Option HO} (h : Gr o x) : ∃ u, x = some u := by
  cases o <;> first | exact ⟨_, h⟩ | (obtain ⟨m, e, _⟩ := h; exact ⟨_, e⟩)
/-- no table -/
def NoTb (o : HO) : Prop := ∀ ps, o ≠ .tbl ps
theorem Gr.at {o : HO} {x : Option HO} (h : Gr o x) (n : NoTb o) : x = Option.some o := by
  cases o <;> first | exact h | exact absurd rfl (n _)
def Ex (H H' : Hp) : Prop := ∀ a o, H a = some o → Gr o (H' a)
theorem Ex.refl (H : Hp) : Ex H H := fun _ _ h => .of h
theorem Ex.trans {H H1 H2 : Hp} (a : Ex H H1) (b : Ex H1 H2) : Ex H H2 := fun x o h => by
  have h1 := a x o h
  cases o <;> first
    | exact b x _ h1
    | (obtain ⟨m, e, t⟩ := h1
       obtain ⟨m2, e2, t2⟩ := b x _ e
       exact ⟨m ++ m2, by rw [e2, Array.append_assoc], fun z => by rw [← Array.append_assoc]; exact t2 (t z)⟩)
theorem Ex.new {H : Hp} {p : Addr} {o : HO} (h : H p = none) : Ex H (upd H p o) := fun a u e => by
  rw [upd_ne (ne_of_none e h)]
  exact .of e
theorem Ex.fresh {H H' : Hp} {p : Addr} (e : Ex H H') (h : H' p = none) : H p = none := by
  cases h1 : H p with
  | none => rfl
  | some o =>
    obtain ⟨u, z⟩ := (e p o h1).some
    rw [h] at z; cases z
theorem Ex.upd2 {G H : Hp} {p : Addr} {o : HO} (e : Ex G H) : Ex (upd G p o) (upd H p o) := fun a u h => by
  by_cases ha : a = p
  · subst ha; rw [upd_same] at h ⊢; exact .of h
  · rw [upd_ne ha] at h ⊢; exact e a u h
theorem Ex.mut {G H : Hp} {p : Addr} {o : HO} (e : Ex G H) (h : G p = none) : Ex G (upd H p o) := fun a u ha => by
  rw [upd_ne (ne_of_none ha h)]
  exact e a u ha
theorem ex_rd {H H' : Hp} {a : Addr} {u : HO} (e : Ex H H') (n : NoTb u) (h : Rd H a u) : Rd H' a u := by
  rcases h with h | ⟨o, h⟩
  · exact Or.inl ((e a _ h).at n)
  · exact Or.inr ⟨o, e a _ h⟩
theorem ex_l {K : Fg} {H H' : Hp} {a : Addr} {xs : List V} (e : Ex H H') (h : SqL K H a xs) : SqL K H' a xs := by
  rcases h with h | h
  · exact Or.inl (ex_rd e (fun _ z => nomatch z) h)
  · exact Or.inr h
theorem ex_t {K : Fg} {H H' : Hp} {a : Addr} {xs : List V} (e : Ex H H') (h : SqT K H a xs) : SqT K H' a xs := by
  rcases h with h | h
  · exact Or.inl (ex_rd e (fun _ z => nomatch z) h)
  · exact Or.inr h
/-! ### data -/
inductive D where
  | non | bl (b : Bool) | int (i : Int) | str (x : Str) | lst (xs : List D) | tup (xs : List D)
  /-- the script: a list that is read alone -/
  | scr (ns : List Int)
  /-- an object, by its address -/
  | ref (a : Addr)
  /-- a built-in class -/
  | ty (n : String)
mutual
inductive Dq (K : Fg) (H : Hp) : V → D → Prop
  | non : Dq K H .non .non
  | bl (b : Bool) : Dq K H (.bl b) (.bl b)
  | int (i : Int) : Dq K H (.int i) (.int i)
  | str (x : Str) : Dq K H (.str x) (.str x)
  | lst {a : Addr} {xs : List V} {ds : List D} : H a = some (.lst xs) → DqAll K H xs ds → Dq K H (.ref a) (.lst ds)
  | tup {a : Addr} {xs : List V} {ds : List D} : SqT K H a xs → DqAll K H xs ds → Dq K H (.ref a) (.tup ds)
  | scr {a : Addr} {ns : List Int} : SqL K H a (ns.map V.int) → Dq K H (.ref a) (.scr ns)
  | ref (a : Addr) : Dq K H (.ref a) (.ref a)
  | ty (n : String) : Dq K H (.ty n) (.ty n)
inductive DqAll (K : Fg) (H : Hp) : List V → List D → Prop
  | nil : DqAll K H [] []
  | cons {v : V} {vs : List V} {d : D} {ds : List D} : Dq K H v d → DqAll K H vs ds → DqAll K H (v :: vs) (d :: ds)
end
mutual
theorem dq_mono {K : Fg} {H H' : Hp} (e : Ex H H') : ∀ {v : V} {d : D}, Dq K H v d → Dq K H' v d
  | _, _, .non => .non
  | _, _, .bl b => .bl b
  | _, _, .int i => .int i
  | _, _, .str x => .str x
  | _, _, .lst h a => .lst (e _ _ h) (dqAll_mono e a)
  | _, _, .tup h a => .tup (ex_t e h) (dqAll_mono e a)
  | _, _, .scr h => .scr (ex_l e h)
  | _, _, .ref a => .ref a
  | _, _, .ty n => .ty n
theorem dqAll_mono {K : Fg} {H H' : Hp} (e : Ex H H') : ∀ {vs : List V} {ds : List D}, DqAll K H vs ds → DqAll K H' vs ds
  | _, _, .nil => .nil
  | _, _, .cons h a => .cons (dq_mono e h) (dqAll_mono e a)
end
section
variable {K : Fg} {G : Hp}
theorem dq_int {v : V} {i : Int} (h : Dq K G v (.int i)) : v = .int i := by cases h; rfl
theorem dq_bl {v : V} {b : Bool} (h : Dq K G v (.bl b)) : v = .bl b := by cases h; rfl
theorem dq_str {v : V} {x : Str} (h : Dq K G v (.str x)) : v = .str x := by cases h; rfl
theorem dq_non {v : V} (h : Dq K G v .non) : v = .non := by cases h; rfl
theorem dq_ref {v : V} {a : Addr} (h : Dq K G v (.ref a)) : v = .ref a := by cases h; rfl
theorem dq_ty {v : V} {n : String} (h : Dq K G v (.ty n)) : v = .ty n := by cases h; rfl
theorem dq_lst {v : V} {ds : List D} (h : Dq K G v (.lst ds)) : ∃ a vs, v = .ref a ∧ G a = some (.lst vs) ∧ DqAll K G vs ds := by
  cases h with
  | lst h a => exact ⟨_, _, rfl, h, a⟩
theorem dq_tup {v : V} {ds : List D} (h : Dq K G v (.tup ds)) : ∃ a vs, v = .ref a ∧ SqT K G a vs ∧ DqAll K G vs ds := by
  cases h with
  | tup h a => exact ⟨_, _, rfl, h, a⟩
theorem dq_scr {v : V} {ns : List Int} (h : Dq K G v (.scr ns)) : ∃ a, v = .ref a ∧ SqL K G a (ns.map V.int) := by
  cases h with
  | scr h => exact ⟨_, rfl, h⟩
theorem DqAll.length : ∀ {vs : List V} {ds : List D}, DqAll K G vs ds → vs.length = ds.length
  | _, _, .nil => rfl
  | _, _, .cons _ a => congrArg (· + 1) (DqAll.length a)
theorem DqAll.get : ∀ {vs : List V} {ds : List D} {i : Nat} {d : D}, DqAll K G vs ds → ds[i]? = some d → ∃ v, vs[i]? = some v ∧ Dq K G v d
  | _, _, _, _, .nil, e => by simp at e
  | _, _, 0, _, .cons h _, e => by
    simp at e; subst e; exact ⟨_, rfl, h⟩
  | _, _, i + 1, d, .cons _ a, e => by
    obtain ⟨v, h1, h2⟩ := DqAll.get (i := i) (d := d) a (by simpa using e)
    exact ⟨v, by simpa using h1, h2⟩
theorem DqAll.get' : ∀ {vs : List V} {ds : List D} {i : Nat} {v : V}, DqAll K G vs ds → vs[i]? = some v → ∃ d, ds[i]? = some d ∧ Dq K G v d
  | _, _, _, _, .nil, e => by simp at e
  | _, _, 0, _, .cons h _, e => by
    simp at e; subst e; exact ⟨_, rfl, h⟩
  | _, _, i + 1, d, .cons _ a, e => by
    obtain ⟨v, h1, h2⟩ := DqAll.get' (i := i) (v := d) a (by simpa using e)
    exact ⟨v, by simpa using h1, h2⟩
theorem DqAll.append : ∀ {vs ws : List V} {ds es : List D}, DqAll K G vs ds → DqAll K G ws es → DqAll K G (vs ++ ws) (ds ++ es)
  | _, _, _, _, .nil, b => b
  | _, _, _, _, .cons h a, b => .cons h (DqAll.append a b)
theorem DqAll.take : ∀ {vs : List V} {ds : List D} (n : Nat), DqAll K G vs ds → DqAll K G (vs.take n) (ds.take n)
  | _, _, 0, _ => .nil
  | _, _, _ + 1, .nil => .nil
  | _, _, n + 1, .cons h a => .cons h (DqAll.take n a)
theorem DqAll.drop : ∀ {vs : List V} {ds : List D} (n : Nat), DqAll K G vs ds → DqAll K G (vs.drop n) (ds.drop n)
  | _, _, 0, h => h
  | _, _, _ + 1, .nil => .nil
  | _, _, n + 1, .cons _ a => DqAll.drop n a
theorem DqAll.set {v : V} {d : D} (r : Dq K G v d) : ∀ {vs : List V} {ds : List D} (i : Nat), DqAll K G vs ds → DqAll K G (vs.set i v) (ds.set i d)
  | _, _, _, .nil => .nil
  | _, _, 0, .cons _ t => .cons r t
  | _, _, i + 1, .cons q t => .cons q (DqAll.set r i t)
theorem dqAll_ints : ∀ (ns : List Int), DqAll K G (ns.map V.int) (ns.map D.int)
  | [] => .nil
  | n :: r => .cons (.int n) (dqAll_ints r)
theorem dqAll_ints' : ∀ {vs : List V} {ns : List Int}, DqAll K G vs (ns.map D.int) → vs = ns.map V.int
  | [], [], _ => rfl
  | _, _ :: _, .cons h a => by rw [dq_int h, dqAll_ints' a]; rfl
end
/-! ### what a slot holds -/
inductive Loc where
  | any
  | val (d : D)
  | own (ds : List D)
  | own2 (dss : List (List D))
def Own2 (K : Fg) (G H : Hp) : List Addr → List (List D) → Prop
  | [], [] => True
  | q :: qs, ds :: dss => (∃ vs, H q = some (.lst vs) ∧ DqAll K G vs ds) ∧ Own2 K G H qs dss
  | _, _ => False
def LocOk (K : Fg) (G H : Hp) (sv : Option V) : Loc → List Addr → Prop
  | .any, ps => ps = []
  | .val d, ps => ps = [] ∧ ∃ v, sv = some v ∧ Dq K G v d
  | .own ds, ps => ∃ p vs, ps = [p] ∧ sv = some (.ref p) ∧ H p = some (.lst vs) ∧ DqAll K G vs ds
  | .own2 dss, ps => ∃ p qs, ps = p :: qs ∧ sv = some (.ref p) ∧ H p = some (.lst (qs.map V.ref)) ∧ Own2 K G H qs dss
/-- something stands there that is no table -/
def NT (H : Hp) (a : Addr) : Prop := ∃ o, H a = some o ∧ NoTb o
theorem NT.ne {H : Hp} {a : Addr} (h : NT H a) : H a ≠ none := by
  obtain ⟨o, e, _⟩ := h
  rw [e]
  simp
theorem nt_lst {H : Hp} {a : Addr} {xs : List V} (h : H a = some (.lst xs)) : NT H a := ⟨_, h, fun _ z => nomatch z⟩
theorem nt_eq {H H' : Hp} {a : Addr} (h : NT H a) (e : H' a = H a) : NT H' a := by
  obtain ⟨o, e1, n⟩ := h
  exact ⟨o, e.trans e1, n⟩
structure Sat (K : Fg) (F : Addr → Prop) (G H : Hp) (σ : L2.St) (ls : List Loc) : Prop where
  ex : Ex G H
  fo : ∀ a, F a → G a = none ∧ NT H a
  len : σ.length = ls.length
  ow : ∃ ow : Nat → List Addr, (∀ i l, ls[i]? = some l → LocOk K G H (σ.getD i none) l (ow i)) ∧ (∀ i p, p ∈ ow i → G p = none ∧ NT H p ∧ ¬ F p) ∧ (∀ i, (ow i).Nodup) ∧ (∀ i j p, p ∈ ow i → p ∈ ow j → i = j)
theorem own2_mono {K : Fg} {G G' H H' : Hp} (eg : Ex G G') : ∀ {qs : List Addr} {dss : List (List D)}, (∀ q ∈ qs, H' q = H q) → Own2 K G H qs dss → Own2 K G' H' qs dss
  | [], [], _, _ => True.intro
  | q :: qs, ds :: dss, e, ⟨⟨vs, h1, h2⟩, h3⟩ => ⟨⟨vs, by rw [e q List.mem_cons_self]; exact h1, dqAll_mono eg h2⟩, own2_mono eg (fun r hr => e r (List.mem_cons_of_mem _ hr)) h3⟩
theorem locOk_mono {K : Fg} {G G' H H' : Hp} {sv : Option V} {l : Loc} {ps : List Addr} (eg : Ex G G') (e : ∀ p ∈ ps, H' p = H p) (h : LocOk K G H sv l ps) : LocOk K G' H' sv l ps := by
  cases l with
  | any => exact h
  | val d => obtain ⟨h1, v, h2, h3⟩ := h; exact ⟨h1, v, h2, dq_mono eg h3⟩
  | own ds =>
    obtain ⟨p, vs, rfl, h2, h3, h4⟩ := h
    exact ⟨p, vs, rfl, h2, by rw [e p List.mem_cons_self]; exact h3, dqAll_mono eg h4⟩
  | own2 dss =>
    obtain ⟨p, qs, rfl, h2, h3, h4⟩ := h
    exact ⟨p, qs, rfl, h2, by rw [e p List.mem_cons_self]; exact h3, own2_mono eg (fun q hq => e q (List.mem_cons_of_mem _ hq)) h4⟩
theorem ex_eq {H H' : Hp} {p : Addr} (e : Ex H H') (h : NT H p) : H' p = H p := by
  obtain ⟨o, q, n⟩ := h
  rw [q]
  exact (e p o q).at n
theorem ex_nt {H H' : Hp} {p : Addr} (e : Ex H H') (h : NT H p) : NT H' p := nt_eq h (ex_eq e h)
section
variable {K : Fg} {F F' : Addr → Prop} {G G' H H' : Hp} {σ : L2.St} {ls : List Loc}
theorem Sat.grow (S : Sat K F G H σ ls) (eg : Ex G G') (eh : Ex H H') (e : Ex G' H') (n : ∀ a, G' a ≠ none → G a ≠ none ∨ ¬ NT H a) : Sat K F G' H' σ ls := by
  obtain ⟨ow, h1, h2, h3, h4⟩ := S.ow
  have nn : ∀ a, G a = none → NT H a → G' a = none := fun a g h => by
    cases q : G' a with
    | none => rfl
    | some o =>
      rcases n a (by rw [q]; simp) with z | z
      · exact absurd g z
      · exact absurd h z
  refine ⟨e, fun a fa => ?_, S.len, ow, fun i l hl => locOk_mono eg (fun p hp => ex_eq eh (h2 i p hp).2.1) (h1 i l hl), fun i p hp => ?_, h3, h4⟩
  · obtain ⟨g, h⟩ := S.fo a fa
    exact ⟨nn a g h, ex_nt eh h⟩
  · obtain ⟨g, h, f⟩ := h2 i p hp
    exact ⟨nn p g h, ex_nt eh h, f⟩
/-- a new object, frozen -/
theorem Sat.made (S : Sat K F G H σ ls) {p : Addr} {o : HO} (h : H p = none) : Sat K F (upd G p o) (upd H p o) σ ls :=
  S.grow (Ex.new (S.ex.fresh h)) (Ex.new h) S.ex.upd2 fun a ha => by
    by_cases hp : a = p
    · subst hp; exact Or.inr fun z => z.ne h
    · rw [upd_ne hp] at ha; exact Or.inl ha
theorem Sat.sub (S : Sat K F G H σ ls) (h : ∀ a, F' a → F a) : Sat K F' G H σ ls := by
  obtain ⟨ow, h1, h2, h3, h4⟩ := S.ow
  exact ⟨S.ex, fun a fa => S.fo a (h a fa), S.len, ow, h1, fun i p hp => ⟨(h2 i p hp).1, (h2 i p hp).2.1, fun z => (h2 i p hp).2.2 (h p z)⟩, h3, h4⟩
/-- a new list, of nobody yet -/
theorem Sat.madeF (S : Sat K F G H σ ls) {p : Addr} {o : HO} (h : H p = none) (nt : NoTb o := by intro _ z; cases z) : Sat K (fun a => F a ∨ a = p) G (upd H p o) σ ls := by
  obtain ⟨ow, h1, h2, h3, h4⟩ := S.ow
  have eh : Ex H (upd H p o) := Ex.new h
  refine ⟨S.ex.trans eh, fun a fa => ?_, S.len, ow, fun i l hl => locOk_mono (Ex.refl G) (fun p hp => ex_eq eh (h2 i p hp).2.1) (h1 i l hl), fun i q hq => ?_, h3, h4⟩
  · rcases fa with fa | fa
    · obtain ⟨g, k⟩ := S.fo a fa
      exact ⟨g, ex_nt eh k⟩
    · subst fa
      exact ⟨S.ex.fresh h, ⟨o, upd_same, nt⟩⟩
  · obtain ⟨g, k, f⟩ := h2 i q hq
    refine ⟨g, ex_nt eh k, fun z => ?_⟩
    rcases z with z | z
    · exact f z
    · subst z; exact k.ne h
/-- a list of nobody, frozen -/
theorem Sat.freeze {p : Addr} (S : Sat K (fun a => F a ∨ a = p) G H σ ls) (nf : ¬ F p) {o : HO} (h : H p = some o) : Sat K F (upd G p o) H σ ls := by
  obtain ⟨ow, h1, h2, h3, h4⟩ := S.ow
  have gp : G p = none := (S.fo p (Or.inr rfl)).1
  have eg : Ex G (upd G p o) := Ex.new gp
  refine ⟨fun a u ha => ?_, fun a fa => ?_, S.len, ow, fun i l hl => locOk_mono eg (fun _ _ => rfl) (h1 i l hl), fun i q hq => ?_, h3, h4⟩
  · by_cases hp : a = p
    · subst hp; rw [upd_same] at ha; exact .of (h.trans ha)
    · rw [upd_ne hp] at ha; exact S.ex a u ha
  · have ne : a ≠ p := fun z => nf (z ▸ fa)
    rw [upd_ne ne]
    exact S.fo a (Or.inl fa)
  · obtain ⟨g, k, f⟩ := h2 i q hq
    have ne : q ≠ p := fun z => f (Or.inr z)
    rw [upd_ne ne]
    exact ⟨g, k, fun z => f (Or.inl z)⟩
theorem getD_set_self {σ : L2.St} {i : Nat} {x : Option V} (h : i < σ.length) : (σ.set i x).getD i none = x := by
  rw [List.getD_eq_getElem?_getD, List.getElem?_set_self h]; rfl
theorem getD_set_ne {σ : L2.St} {i j : Nat} {x : Option V} (h : j ≠ i) : (σ.set i x).getD j none = σ.getD j none := by
  rw [List.getD_eq_getElem?_getD, List.getElem?_set_ne (Ne.symm h), List.getD_eq_getElem?_getD]
end
def owSet (ow : Nat → List Addr) (i : Nat) (ps : List Addr) : Nat → List Addr := fun j => if j = i then ps else ow j
theorem owSet_same {ow : Nat → List Addr} {i : Nat} {ps : List Addr} : owSet ow i ps i = ps := if_pos rfl
theorem owSet_ne {ow : Nat → List Addr} {i j : Nat} {ps : List Addr} (h : j ≠ i) : owSet ow i ps j = ow j := if_neg h
/-- a slot gets another content, the heaps as they are -/
theorem sat_repl {K : Fg} {F F1 : Addr → Prop} {G H : Hp} {σ : L2.St} {ls : List Loc} {i : Nat} {x : Option V} {l : Loc} {ps : List Addr} (S : Sat K F1 G H σ ls) (hF : ∀ a, F a → F1 a) (ok : LocOk K G H x l ps)
    (hp : ∀ p ∈ ps, G p = none ∧ NT H p ∧ ¬ F p) (nd : ps.Nodup) (dj : ∀ p ∈ ps, F1 p) : Sat K F G H (σ.set i x) (ls.set i l) := by
  obtain ⟨ow, h1, h2, h3, h4⟩ := S.ow
  have np : ∀ p ∈ ps, ∀ j, p ∉ ow j := fun p hp' j z => (h2 j p z).2.2 (dj p hp')
  refine ⟨S.ex, fun a fa => S.fo a (hF a fa), by rw [List.length_set, List.length_set]; exact S.len, owSet ow i ps, fun j m hl => ?_, fun j q hq => ?_, fun j => ?_, fun j k q hj hk => ?_⟩
  · by_cases hj : j = i
    · subst hj
      have hlt : j < ls.length := by
        have := (List.getElem?_eq_some_iff.mp hl).1
        rwa [List.length_set] at this
      rw [List.getElem?_set_self hlt] at hl
      cases hl
      rw [owSet_same, getD_set_self (by rw [S.len]; exact hlt)]
      exact ok
    · rw [List.getElem?_set_ne (Ne.symm hj)] at hl
      rw [owSet_ne hj, getD_set_ne hj]
      exact h1 j m hl
  · by_cases hj : j = i
    · subst hj; rw [owSet_same] at hq; exact hp q hq
    · rw [owSet_ne hj] at hq
      exact ⟨(h2 j q hq).1, (h2 j q hq).2.1, fun z => (h2 j q hq).2.2 (hF q z)⟩
  · by_cases hj : j = i
    · subst hj; rw [owSet_same]; exact nd
    · rw [owSet_ne hj]; exact h3 j
  · by_cases ej : j = i
    · by_cases ek : k = i
      · rw [ej, ek]
      · subst ej; rw [owSet_same] at hj; rw [owSet_ne ek] at hk; exact absurd hk (np q hj k)
    · by_cases ek : k = i
      · subst ek; rw [owSet_same] at hk; rw [owSet_ne ej] at hj; exact absurd hj (np q hk j)
      · rw [owSet_ne ej] at hj; rw [owSet_ne ek] at hk; exact h4 j k q hj hk
section
variable {K : Fg} {F F' : Addr → Prop} {G G' H H' : Hp} {σ : L2.St} {ls : List Loc} {p : Addr}
/-- a slot is stored: frozen data -/
theorem Sat.setV (S : Sat K F G H σ ls) {i : Nat} {v : V} {d : D} (hv : Dq K G v d) : Sat K F G H (σ.set i (some v)) (ls.set i (.val d)) :=
  sat_repl (ps := []) S (fun _ h => h) ⟨rfl, v, rfl, hv⟩ (fun _ h => nomatch h) List.nodup_nil (fun _ h => nomatch h)
/-- a slot is stored: a list of nobody becomes its own -/
theorem Sat.setN (S : Sat K (fun a => F a ∨ a = p) G H σ ls) (nf : ¬ F p) {i : Nat} {vs : List V} {ds : List D} (h : H p = some (.lst vs)) (hv : DqAll K G vs ds) : Sat K F G H (σ.set i (some (.ref p))) (ls.set i (.own ds)) :=
  sat_repl (ps := [p]) S (fun _ h => Or.inl h) ⟨p, vs, rfl, rfl, h, hv⟩ (fun q hq => by
    obtain rfl := List.mem_singleton.mp hq
    exact ⟨(S.fo q (Or.inr rfl)).1, nt_lst h, nf⟩) (by simp) (fun q hq => Or.inr (List.mem_singleton.mp hq))
/-- a slot forgotten -/
theorem Sat.forget (S : Sat K F G H σ ls) {i : Nat} (x : Option V) : Sat K F G H (σ.set i x) (ls.set i .any) :=
  sat_repl (ps := []) S (fun _ h => h) rfl (fun _ h => nomatch h) List.nodup_nil (fun _ h => nomatch h)
theorem Sat.var (S : Sat K F G H σ ls) {i : Nat} {d : D} (h : ls[i]? = some (.val d)) : ∃ v, σ[i]? = some (some v) ∧ Dq K G v d := by
  obtain ⟨ow, h1, _⟩ := S.ow
  obtain ⟨_, v, e, hv⟩ := h1 i _ h
  refine ⟨v, ?_, hv⟩
  rw [List.getD_eq_getElem?_getD] at e
  cases q : σ[i]? with
  | none => rw [q] at e; cases e
  | some x => rw [q] at e; exact congrArg some e
theorem Sat.ownAt (S : Sat K F G H σ ls) {i : Nat} {ds : List D} (h : ls[i]? = some (.own ds)) : ∃ p vs, σ[i]? = some (some (V.ref p)) ∧ H p = some (.lst vs) ∧ DqAll K G vs ds ∧ G p = none ∧ ¬ F p := by
  obtain ⟨ow, h1, h2, _⟩ := S.ow
  obtain ⟨p, vs, e0, e, h3, hv⟩ := h1 i _ h
  refine ⟨p, vs, ?_, h3, hv, (h2 i p (by rw [e0]; exact List.mem_cons_self)).1, (h2 i p (by rw [e0]; exact List.mem_cons_self)).2.2⟩
  rw [List.getD_eq_getElem?_getD] at e
  cases q : σ[i]? with
  | none => rw [q] at e; cases e
  | some x => rw [q] at e; exact congrArg some e
/-- an own list changes -/
theorem Sat.mut (S : Sat K F G H σ ls) {i : Nat} {ds : List D} {ws : List V} {es : List D} (h : ls[i]? = some (.own ds)) (hp : σ[i]? = some (some (V.ref p))) (hw : DqAll K G ws es) :
    Sat K F G (upd H p (.lst ws)) σ (ls.set i (.own es)) := by
  obtain ⟨ow, h1, h2, h3, h4⟩ := S.ow
  have hi := h1 i _ h
  obtain ⟨p', vs, e0, e, hh, hv⟩ := hi
  have ep : p' = p := by
    rw [List.getD_eq_getElem?_getD, hp] at e
    cases e; rfl
  subst ep
  have pi : p' ∈ ow i := by rw [e0]; exact List.mem_cons_self
  obtain ⟨gp, hn, nf⟩ := h2 i p' pi
  refine ⟨S.ex.mut gp, fun a fa => ?_, by rw [List.length_set]; exact S.len, ow, fun j l hl => ?_, fun j q hq => ?_, h3, h4⟩
  · have ne : a ≠ p' := fun z => nf (z ▸ fa)
    exact ⟨(S.fo a fa).1, nt_eq (S.fo a fa).2 (upd_ne ne)⟩
  · by_cases hj : j = i
    · subst hj
      have hlt : j < ls.length := (List.getElem?_eq_some_iff.mp h).1
      rw [List.getElem?_set_self hlt] at hl
      cases hl
      exact ⟨p', ws, e0, e, upd_same, hw⟩
    · rw [List.getElem?_set_ne (Ne.symm hj)] at hl
      refine locOk_mono (Ex.refl G) (fun q hq => upd_ne fun z => hj (h4 j i p' (z ▸ hq) pi)) (h1 j l hl)
  · obtain ⟨a, b, c⟩ := h2 j q hq
    refine ⟨a, ?_, c⟩
    by_cases hz : q = p'
    · rw [hz]; exact nt_lst upd_same
    · exact nt_eq b (upd_ne hz)
/-- an own list becomes frozen -/
theorem Sat.thaw (S : Sat K F G H σ ls) {i : Nat} {ds : List D} (h : ls[i]? = some (.own ds)) : ∃ G', Ex G G' ∧ (∀ a, F a → G' a = none) ∧ Sat K F G' H σ (ls.set i (.val (.lst ds))) := by
  obtain ⟨p, vs, e1, e2, e3, e4, e5⟩ := S.ownAt h
  obtain ⟨ow, h1, h2, h3, h4⟩ := S.ow
  obtain ⟨p', vs', e0, e, hh, hv⟩ := h1 i _ h
  have ep : p' = p := by
    rw [List.getD_eq_getElem?_getD, e1] at e
    cases e; rfl
  subst ep
  have pi : p' ∈ ow i := by rw [e0]; exact List.mem_cons_self
  have eg : Ex G (upd G p' (.lst vs)) := Ex.new e4
  have fg : ∀ a, F a → upd G p' (.lst vs) a = none := fun a fa => by
    have ne : a ≠ p' := fun z => e5 (z ▸ fa)
    rw [upd_ne ne]; exact (S.fo a fa).1
  refine ⟨upd G p' (.lst vs), eg, fg, fun a u ha => ?_, fun a fa => ⟨fg a fa, (S.fo a fa).2⟩, by rw [List.length_set]; exact S.len, owSet ow i [], fun j l hl => ?_, fun j q hq => ?_, fun j => ?_, fun j k q hj hk => ?_⟩
  · by_cases hp : a = p'
    · subst hp; rw [upd_same] at ha; exact .of (e2.trans ha)
    · rw [upd_ne hp] at ha; exact S.ex a u ha
  · by_cases hj : j = i
    · subst hj
      have hlt : j < ls.length := (List.getElem?_eq_some_iff.mp h).1
      rw [List.getElem?_set_self hlt] at hl
      cases hl
      rw [owSet_same]
      exact ⟨rfl, .ref p', e, .lst upd_same (dqAll_mono eg e3)⟩
    · rw [List.getElem?_set_ne (Ne.symm hj)] at hl
      rw [owSet_ne hj]
      exact locOk_mono eg (fun _ _ => rfl) (h1 j l hl)
  · by_cases hj : j = i
    · subst hj; rw [owSet_same] at hq; cases hq
    · rw [owSet_ne hj] at hq
      obtain ⟨a, b, c⟩ := h2 j q hq
      have ne : q ≠ p' := fun z => hj (h4 j i p' (z ▸ hq) pi)
      rw [upd_ne ne]
      exact ⟨a, b, c⟩
  · by_cases hj : j = i
    · subst hj; rw [owSet_same]; exact List.nodup_nil
    · rw [owSet_ne hj]; exact h3 j
  · by_cases ej : j = i
    · subst ej; rw [owSet_same] at hj; cases hj
    · by_cases ek : k = i
      · subst ek; rw [owSet_same] at hk; cases hk
      · rw [owSet_ne ej] at hj; rw [owSet_ne ek] at hk; exact h4 j k q hj hk
end
/-! ### exceptions -/
/-- an exception's fields as data -/
inductive FsOk (K : Fg) (G : Hp) : List (Str × V) → List (Str × D) → Prop
  | nil : FsOk K G [] []
  | cons {f : Str} {v : V} {d : D} {fs : List (Str × V)} {gs : List (Str × D)} : Dq K G v d → FsOk K G fs gs → FsOk K G ((f, v) :: fs) ((f, d) :: gs)
theorem fs_mono {K : Fg} {G G' : Hp} (e : Ex G G') : ∀ {fs : List (Str × V)} {gs : List (Str × D)}, FsOk K G fs gs → FsOk K G' fs gs
  | _, _, .nil => .nil
  | _, _, .cons h r => .cons (dq_mono e h) (fs_mono e r)
theorem fs_get {K : Fg} {G : Hp} {f : Str} {d : D} : ∀ {fs : List (Str × V)} {gs : List (Str × D)}, FsOk K G fs gs → gs.lookup f = some d → ∃ v, fs.lookup f = some v ∧ Dq K G v d
  | _, _, .nil, h => by cases h
  | _, _, .cons (f := f') (v := v) (d := d') h r, e => by
    rw [List.lookup_cons] at e ⊢
    cases q : f == f' with
    | true => rw [q] at e; cases e; exact ⟨v, rfl, h⟩
    | false => rw [q] at e; exact fs_get r e
/-- what is wanted of an exception: W at the slots, where xp lets it -/
structure Xw where
  W : WX
  xp : List Loc → Addr → List (Str × D) → Prop
  /-- the code objects' tables that may grow -/
  T : Addr → Prop
  /-- exceptions' dicts that are known, their fields as data -/
  dx : List (Addr × List (Str × D))
/-- a code object's table stands at P -/
def TabAt (G : Hp) (P : Addr) : Prop := ∃ ps, G P = some (.tbl ps) ∧ TriplesOk ps.toList
theorem TabAt.mono {G H : Hp} {P : Addr} (e : Ex G H) (h : TabAt G P) : TabAt H P := by
  obtain ⟨ps, h1, h2⟩ := h
  obtain ⟨m, h3, h4⟩ := e P _ h1
  exact ⟨_, h3, h4 h2⟩
/-- an exception's dict stands at a -/
def XdAt (K : Fg) (G : Hp) (a : Addr) (gs : List (Str × D)) : Prop := ∃ fs, G a = some (.xd fs) ∧ FsOk K G fs gs
theorem XdAt.mono {K : Fg} {G H : Hp} {a : Addr} {gs : List (Str × D)} (e : Ex G H) (h : XdAt K G a gs) : XdAt K H a gs := by
  obtain ⟨fs, h1, h2⟩ := h
  exact ⟨fs, e a _ h1, fs_mono e h2⟩
structure Xok (K : Fg) (E : Xw) (F : Addr → Prop) (G H : Hp) (σ : L2.St) (ls : List Loc) : Prop where
  tb : ∀ P, E.T P → TabAt G P
  dx : ∀ p ∈ E.dx, XdAt K G p.1 p.2
  ex : ∀ G' H' C dd fs gs, Ex G G' → Ex H H' → Sat K F G' H' σ ls → G' dd = some (.xd fs) → FsOk K G' fs gs → E.xp ls C gs → E.W (.ref C) (some dd) σ H'
theorem Xok.step {K : Fg} {E : Xw} {F : Addr → Prop} {G H G1 H1 : Hp} {σ : L2.St} {ls : List Loc} (x : Xok K E F G H σ ls) (eg : Ex G G1) (eh : Ex H H1) : Xok K E F G1 H1 σ ls := ⟨fun P h => (x.tb P h).mono eg, fun p h => (x.dx p h).mono eg, fun G' H' C dd fs gs e1 e2 => x.ex G' H' C dd fs gs (eg.trans e1) (eh.trans e2)⟩
/-- nothing is raised -/
def noX (T : Addr → Prop := fun _ => False) : Xw := ⟨fun _ _ _ _ => False, fun _ _ _ => False, T, []⟩
theorem xok_no {K : Fg} {T : Addr → Prop} {F : Addr → Prop} {G H : Hp} {σ : L2.St} {ls : List Loc} (h : ∀ P, T P → TabAt G P) : Xok K (noX T) F G H σ ls := ⟨h, fun _ z => (List.not_mem_nil z).elim, fun _ _ _ _ _ _ _ _ _ _ _ z => z.elim⟩
end Qp

/-! Q2: the judgements over data. -/
namespace Qp
open PySem PySem.Spec PyProof.Rows L2
theorem takesN {X : Cx} : L2N.Takes X (fun _ _ _ _ => False) := fun _ _ x => by
  obtain ⟨_, _, _, _, _, _, _, _, _, _, _, _, _, _, _, _, z⟩ := x
  exact z.elim
/-- a family of contexts of one text (a def's body; a comprehension's blocks) -/
structure Cs where
  ι : Type
  X : ι → Cx
  P : Program
  w : World
  K : Fg
  mg : Str → Option Value
  base : Heap
  N : List Str
  k : Nat
  hP : ∀ i, (X i).prog = P
  hw : ∀ i, (X i).w = w
  hK : ∀ i, (X i).K = K
  hmg : ∀ i, (X i).mg = mg
  hbase : ∀ i, (X i).base = base
  hN : ∀ i, (X i).N = N
  nd : N.Nodup
  /-- within the suite of an except -/
  hot : Bool := false
  calm : ∀ i, hot = false → (X i).calm = true
  cold : ∀ i, hot = false → Room k (X i).A
  hotc : ∀ i, hot = true → L2H.HotC (X i) ∧ L2H.RoomH k (X i).A
  E : Xw
  takes : ∀ i, L2N.Takes (X i) E.W
/-- not within the suite of an except -/
class Cold (C : Cs) : Prop where
  h : C.hot = false
theorem Cs.hu (C : Cs) (i : C.ι) : (C.X i).A.units + 64 < cLine := by
  cases h : C.hot with
  | false => exact (C.cold i h).units
  | true =>
    have := (C.hotc i h).2.un
    omega
/-! ### what evaluates to what -/
def Ev (K : Fg) (E : Xw) (te : TE) (ls : List Loc) (d : D) : Prop := ∀ F G H σ, Sat K F G H σ ls → Xok K E F G H σ ls → ∀ Q : VK, (∀ v G' H', Ex G G' → Ex H H' → Sat K F G' H' σ ls → Dq K G' v d → Q v H') → te σ H Q
/-- a new list of nobody -/
def EvN (K : Fg) (E : Xw) (te : TE) (ls : List Loc) (ds : List D) : Prop := ∀ F G H σ, Sat K F G H σ ls → Xok K E F G H σ ls → ∀ Q : VK, (∀ p vs G' H', Ex G G' → Ex H H' → ¬ F p → Sat K (fun a => F a ∨ a = p) G' H' σ ls → H' p = some (.lst vs) → DqAll K G' vs ds → Q (.ref p) H') → te σ H Q
/-- a list as it stands -/
def EvC (K : Fg) (E : Xw) (te : TE) (ls : List Loc) (ds : List D) : Prop := ∀ F G H σ, Sat K F G H σ ls → Xok K E F G H σ ls → ∀ Q : VK, (∀ p vs G' H', Ex G G' → Ex H H' → Sat K F G' H' σ ls → H' p = some (.lst vs) → DqAll K G' vs ds → Q (.ref p) H') → te σ H Q
def EvT (K : Fg) (E : Xw) (tt : TT) (ls : List Loc) (b : Bool) : Prop := ∀ F G H σ, Sat K F G H σ ls → Xok K E F G H σ ls → ∀ Q : Bool → Hp → Prop, (∀ G' H', Ex G G' → Ex H H' → Sat K F G' H' σ ls → Q b H') → tt σ H Q
def EvA (K : Fg) (E : Xw) (ta : TA) (ls : List Loc) (ds : List D) : Prop := ∀ F G H σ, Sat K F G H σ ls → Xok K E F G H σ ls → ∀ Q : List V → Hp → Prop, (∀ vs G' H', Ex G G' → Ex H H' → Sat K F G' H' σ ls → DqAll K G' vs ds → Q vs H') → ta σ H Q
section
variable {K : Fg} {E : Xw} {ls : List Loc} {ta tb te : TE} {d d1 d2 : D} {ds es : List D}
theorem ev_of_new (h : EvN K E te ls ds) : Ev K E te ls (.lst ds) := fun F G H σ S xx Q q => h F G H σ S xx Q fun p vs G' H' eg eh nf S' hp hv => by
  have gp : G' p = none := (S'.fo p (Or.inr rfl)).1
  exact q _ (upd G' p (.lst vs)) H' (eg.trans (Ex.new gp)) eh (S'.freeze nf hp) (.lst upd_same (dqAll_mono (Ex.new gp) hv))
theorem evC_of_new (h : EvN K E te ls ds) : EvC K E te ls ds := fun F G H σ S xx Q q => h F G H σ S xx Q fun p vs G' H' eg eh nf S' hp hv => q p vs G' H' eg eh (S'.sub fun a fa => Or.inl fa) hp hv
theorem evC_of (h : Ev K E te ls (.lst ds)) : EvC K E te ls ds := fun F G H σ S xx Q q => h F G H σ S xx Q fun v G' H' eg eh S' hv => by
  obtain ⟨a, vs, rfl, ha, hd⟩ := dq_lst hv
  exact q a vs G' H' eg eh S' (S'.ex a _ ha) hd
theorem ev_var {i : Nat} (h : ls[i]? = some (.val d)) : Ev K E (tVar i) ls d := fun F G H σ S xx Q q => by
  obtain ⟨v, e, hv⟩ := S.var h
  exact ⟨v, e, q v G H (Ex.refl G) (Ex.refl H) S hv⟩
theorem evC_own {i : Nat} (h : ls[i]? = some (.own ds)) : EvC K E (tVar i) ls ds := fun F G H σ S xx Q q => by
  obtain ⟨p, vs, e, hp, hv, _, _⟩ := S.ownAt h
  exact ⟨_, e, q p vs G H (Ex.refl G) (Ex.refl H) S hp hv⟩
theorem ev_c {v : V} (h : ∀ G, Dq K G v d) : Ev K E (tC v) ls d := fun F G H σ S xx Q q => q v G H (Ex.refl G) (Ex.refl H) S (h G)
/-- a two-place operation on data that lays nothing -/
theorem ev_op {r : R2} (ha : Ev K E ta ls d1) (hb : Ev K E tb ls d2) (hr : ∀ G H x y Q, Ex G H → Dq K G x d1 → Dq K G y d2 → (∀ z, Dq K G z d → Q z H) → r x y H Q) : Ev K E (tOp r ta tb) ls d := fun F G H σ S xx Q q =>
  ha F G H σ S xx _ fun x G1 H1 eg1 eh1 S1 hx => hb F G1 H1 σ S1 (xx.step eg1 eh1) _ fun y G2 H2 eg2 eh2 S2 hy => hr G2 H2 x y Q S2.ex (dq_mono eg2 hx) hy fun z hz => q z G2 H2 (eg1.trans eg2) (eh1.trans eh2) S2 hz
theorem ev_un {r : V → Hp → VK → Prop} (ha : Ev K E ta ls d1) (hr : ∀ G H x Q, Ex G H → Dq K G x d1 → (∀ z, Dq K G z d → Q z H) → r x H Q) : Ev K E (tUn r ta) ls d := fun F G H σ S xx Q q =>
  ha F G H σ S xx _ fun x G1 H1 eg1 eh1 S1 hx => hr G1 H1 x Q S1.ex hx fun z hz => q z G1 H1 eg1 eh1 S1 hz
theorem evA_nil : EvA K E tNil ls [] := fun F G H σ S xx Q q => q [] G H (Ex.refl G) (Ex.refl H) S .nil
theorem evA_cons {t : TA} (ha : Ev K E te ls d) (ht : EvA K E t ls ds) : EvA K E (tCons te t) ls (d :: ds) := fun F G H σ S xx Q q =>
  ha F G H σ S xx _ fun x G1 H1 eg1 eh1 S1 hx => ht F G1 H1 σ S1 (xx.step eg1 eh1) _ fun vs G2 H2 eg2 eh2 S2 hv => q (x :: vs) G2 H2 (eg1.trans eg2) (eh1.trans eh2) S2 (.cons (dq_mono eg2 hx) hv)
/-- a built-in's call on data that lays nothing -/
theorem ev_cb {r : List V → Hp → VK → Prop} {t : TA} (ha : EvA K E t ls ds) (hr : ∀ G H vs Q, Ex G H → DqAll K G vs ds → (∀ z, Dq K G z d → Q z H) → r vs H Q) : Ev K E (tCB r t) ls d := fun F G H σ S xx Q q =>
  ha F G H σ S xx _ fun vs G1 H1 eg1 eh1 S1 hv => hr G1 H1 vs Q S1.ex hv fun z hz => q z G1 H1 eg1 eh1 S1 hz
theorem ev_is {d' : D} (h : Ev K E te ls d) (e : d = d') : Ev K E te ls d' := e ▸ h
/-- a new list is laid -/
theorem evN_lay {F : Addr → Prop} {G H : Hp} {σ : L2.St} {Q : VK} {vs : List V} (S : Sat K F G H σ ls) (hv : DqAll K G vs ds) (q : ∀ p vs G' H', Ex G G' → Ex H H' → ¬ F p → Sat K (fun a => F a ∨ a = p) G' H' σ ls → H' p = some (.lst vs) → DqAll K G' vs ds → Q (.ref p) H') :
    ∀ p, H p = none → Q (.ref p) (upd H p (.lst vs)) := fun p hp =>
  q p vs G (upd H p (.lst vs)) (Ex.refl G) (Ex.new hp) (fun z => (S.fo p z).2.ne hp) (S.madeF hp) upd_same hv
theorem ev_lay {F : Addr → Prop} {G H : Hp} {σ : L2.St} {Q : VK} {vs : List V} (S : Sat K F G H σ ls) (hv : DqAll K G vs ds) (q : ∀ v G' H', Ex G G' → Ex H H' → Sat K F G' H' σ ls → Dq K G' v (.tup ds) → Q v H') :
    ∀ p, H p = none → Q (.ref p) (upd H p (.tup vs)) := fun p hp => by
  have g := S.ex.fresh hp
  exact q _ (upd G p (.tup vs)) _ (Ex.new g) (Ex.new hp) (S.made hp) (.tup (SqT.of upd_same) (dqAll_mono (Ex.new g) hv))
end
/-! ### expressions -/
def eAny (C : Cs) (e : Expr) : TE := fun σ H Q => ∃ t : TE, (∀ i, PE (C.X i) e t) ∧ t σ H Q
theorem pe_any (C : Cs) (e : Expr) (i : C.ι) : PE (C.X i) e (eAny C e) := ⟨fun pins s σ H Q I h => by
  obtain ⟨t, ht, q⟩ := h
  exact (ht i).run pins s σ H Q I q⟩
def tAny (C : Cs) (e : Expr) : TT := fun σ H Q => ∃ t : TT, (∀ i, PT (C.X i) e t) ∧ t σ H Q
theorem pt_any (C : Cs) (e : Expr) (i : C.ι) : PT (C.X i) e (tAny C e) := ⟨fun pins s σ H Q I h => by
  obtain ⟨t, ht, q⟩ := h
  exact (ht i).run pins s σ H Q I q⟩
def aAny (C : Cs) (es : List Expr) : TA := fun σ H Q => ∃ t : TA, (∀ i, PA (C.X i) es t) ∧ t σ H Q
theorem pa_any (C : Cs) (es : List Expr) (i : C.ι) : PA (C.X i) es (aAny C es) := ⟨fun pos pins s σ H Q I h => by
  obtain ⟨t, ht, q⟩ := h
  exact (ht i).run pos pins s σ H Q I q⟩
def JE (C : Cs) (ls : List Loc) (e : Expr) (d : D) : Prop := Ev C.K C.E (eAny C e) ls d
def JN (C : Cs) (ls : List Loc) (e : Expr) (ds : List D) : Prop := EvN C.K C.E (eAny C e) ls ds
def JC (C : Cs) (ls : List Loc) (e : Expr) (ds : List D) : Prop := EvC C.K C.E (eAny C e) ls ds
def JT (C : Cs) (ls : List Loc) (e : Expr) (b : Bool) : Prop := EvT C.K C.E (tAny C e) ls b
/-- no star -/
def NS (e : Expr) : Prop := ∀ (rest : List Expr) (env : Env), starEach (e :: rest) env = (false, eval e env) :: starEach rest env
theorem ns_any : ∀ {es : List Expr} (h : ∀ e ∈ es, NS e) (env : Env) (pos : Pos), (backTo pos (starEach es env)).any (·.1) = false
  | [], _, _, _ => rfl
  | e :: r, h, env, pos => by
    have ih := ns_any (es := r) (fun x hx => h x (List.mem_cons_of_mem _ hx)) env pos
    rw [h e List.mem_cons_self r env]
    show (false || (backTo pos (starEach r env)).any (·.1)) = false
    rw [ih]
    rfl
structure JA (C : Cs) (ls : List Loc) (es : List Expr) (ds : List D) : Prop where
  ns : ∀ e ∈ es, NS e
  ev : EvA C.K C.E (aAny C es) ls ds
section
variable {C : Cs} {ls : List Loc} {e a b c : Expr} {d d1 d2 : D} {ds es : List D} {t : TE} {pos pos' : Pos}
theorem je_of (h : ∀ i, PE (C.X i) e t) (ev : Ev C.K C.E t ls d) : JE C ls e d := fun F G H σ S xx Q q => ⟨t, h, ev F G H σ S xx Q q⟩
theorem jn_of (h : ∀ i, PE (C.X i) e t) (ev : EvN C.K C.E t ls ds) : JN C ls e ds := fun F G H σ S xx Q q => ⟨t, h, ev F G H σ S xx Q q⟩
theorem jc_of (h : ∀ i, PE (C.X i) e t) (ev : EvC C.K C.E t ls ds) : JC C ls e ds := fun F G H σ S xx Q q => ⟨t, h, ev F G H σ S xx Q q⟩
theorem jt_of {t : TT} {k : Bool} (h : ∀ i, PT (C.X i) e t) (ev : EvT C.K C.E t ls k) : JT C ls e k := fun F G H σ S xx Q q => ⟨t, h, ev F G H σ S xx Q q⟩
theorem ja_of {t : TA} {xs : List Expr} (ns : ∀ e ∈ xs, NS e) (h : ∀ i, PA (C.X i) xs t) (ev : EvA C.K C.E t ls ds) : JA C ls xs ds := ⟨ns, fun F G H σ S xx Q q => ⟨t, h, ev F G H σ S xx Q q⟩⟩
theorem JE.new (h : JN C ls e ds) : JE C ls e (.lst ds) := ev_of_new h
theorem JC.new (h : JN C ls e ds) : JC C ls e ds := evC_of_new h
theorem JC.je (h : JE C ls e (.lst ds)) : JC C ls e ds := evC_of h
theorem JE.is {d' : D} (h : JE C ls e d) (e' : d = d') : JE C ls e d' := e' ▸ h
theorem JT.is {k k' : Bool} (h : JT C ls e k) (e' : k = k') : JT C ls e k' := e' ▸ h
theorem JN.is {ds' : List D} (h : JN C ls e ds) (e' : ds = ds') : JN C ls e ds' := e' ▸ h
/-! names, constants -/
theorem je_v (i : Nat) {x : Str} (hl : ls[i]? = some (.val d) := by rfl) (hi : C.N[i]? = some x := by rfl) (hv : ∀ j, Vis (C.X j).env.scope x := by intro _; first | exact Or.inl rfl | exact Or.inr (Or.inl rfl) | exact Or.inr (Or.inr rfl)) (hd : (x == ("__debug__" : Str)) = false := by decide)
    (hcd : (x == ("__classdict__" : Str)) = false := by decide) : JE C ls (.Name x pos) d := je_of (fun j => pe_var (by rw [C.hN]; exact hi) (hv j) hd hcd) (ev_var hl)
theorem jc_v (i : Nat) {x : Str} (hl : ls[i]? = some (.own ds) := by rfl) (hi : C.N[i]? = some x := by rfl) (hv : ∀ j, Vis (C.X j).env.scope x := by intro _; first | exact Or.inl rfl | exact Or.inr (Or.inl rfl) | exact Or.inr (Or.inr rfl)) (hd : (x == ("__debug__" : Str)) = false := by decide)
    (hcd : (x == ("__classdict__" : Str)) = false := by decide) : JC C ls (.Name x pos) ds := jc_of (fun j => pe_var (by rw [C.hN]; exact hi) (hv j) hd hcd) (evC_own hl)
theorem je_int {i : Int} {k : Nat} : JE C ls (.Constant (.int i) k pos) (.int i) := je_of (fun _ => pe_int) (ev_c fun _ => .int i)
theorem je_bl {i : Bool} {k : Nat} : JE C ls (.Constant (.bool i) k pos) (.bl i) := je_of (fun _ => pe_bl) (ev_c fun _ => .bl i)
theorem je_str {i : Str} {k : Nat} : JE C ls (.Constant (.str i) k pos) (.str i) := je_of (fun _ => pe_str) (ev_c fun _ => .str i)
theorem je_non {k : Nat} : JE C ls (.Constant .none k pos) .non := je_of (fun _ => pe_non) (ev_c fun _ => .non)
/-! ints -/
theorem ev_I {ta tb : TE} {i j : Int} {Cd : Int → Int → Prop} {g : Int → Int → V} (ha : Ev C.K C.E ta ls (.int i)) (hb : Ev C.K C.E tb ls (.int j)) (hc : Cd i j) (hd : ∀ G, Dq C.K G (g i j) d) : Ev C.K C.E (tOp (rI Cd g) ta tb) ls d :=
  ev_op ha hb fun G H x y Q eg hx hy q => ⟨i, j, dq_int hx, dq_int hy, hc, q _ (hd G)⟩
theorem ev_I0 {ta tb : TE} {i j : Int} {g : Int → Int → V} (ha : Ev C.K C.E ta ls (.int i)) (hb : Ev C.K C.E tb ls (.int j)) (hd : ∀ G, Dq C.K G (g i j) d) : Ev C.K C.E (tOp (rI0 g) ta tb) ls d :=
  ev_op ha hb fun G H x y Q eg hx hy q => ⟨i, j, dq_int hx, dq_int hy, q _ (hd G)⟩
theorem op_mulA {X : Cx} : OpR X (binaryOp .Mult) (rI IntMulOk fun i j => .int (i * j)) := opI fun _ _ _ _ _ _ _ hc q => mul_int q hc
theorem je_add {i j : Int} (ha : JE C ls a (.int i)) (hb : JE C ls b (.int j)) : JE C ls (.BinOp a .Add b pos) (.int (i + j)) := je_of (fun k => pe_op op_add (pe_any C a k) (pe_any C b k)) (ev_I0 ha hb fun _ => .int _)
theorem je_sub {i j : Int} (ha : JE C ls a (.int i)) (hb : JE C ls b (.int j)) : JE C ls (.BinOp a .Sub b pos) (.int (i - j)) := je_of (fun k => pe_op op_sub (pe_any C a k) (pe_any C b k)) (ev_I0 ha hb fun _ => .int _)
theorem mulL {i j : Int} (h : -(2 ^ 64) < i ∧ i < 2 ^ 64) : IntMulOk i j := .of_left (intBits_le_64 h.1 h.2)
theorem mulR {i j : Int} (h : -(2 ^ 64) < j ∧ j < 2 ^ 64) : IntMulOk i j := .of_right (intBits_le_64 h.1 h.2)
theorem je_mul {i j : Int} (ha : JE C ls a (.int i)) (hb : JE C ls b (.int j)) (hc : IntMulOk i j := by first | exact mulR (by decide) | exact mulL (by decide) | exact mulL (by omega) | exact mulR (by omega)) : JE C ls (.BinOp a .Mult b pos) (.int (i * j)) := je_of (fun k => pe_op op_mulA (pe_any C a k) (pe_any C b k)) (ev_I ha hb hc fun _ => .int _)
theorem je_mod {i j : Int} (ha : JE C ls a (.int i)) (hb : JE C ls b (.int j)) (hc : 0 < j := by first | decide | omega) : JE C ls (.BinOp a .Mod b pos) (.int (i % j)) := je_of (fun k => pe_op op_mod (pe_any C a k) (pe_any C b k)) (ev_I ha hb hc fun _ => .int _)
theorem je_fdiv {i j : Int} (ha : JE C ls a (.int i)) (hb : JE C ls b (.int j)) (hc : CDivW i j := by first | exact ⟨by decide, by decide⟩ | assumption) : JE C ls (.BinOp a .FloorDiv b pos) (.int (i / j)) := je_of (fun k => pe_op op_fdivW (pe_any C a k) (pe_any C b k)) (ev_I ha hb hc fun _ => .int _)
theorem je_pow {i j : Int} (ha : JE C ls a (.int i)) (hb : JE C ls b (.int j)) (hc : CPow i j) : JE C ls (.BinOp a .Pow b pos) (.int (i ^ j.toNat)) := je_of (fun k => pe_op op_pow (pe_any C a k) (pe_any C b k)) (ev_I ha hb hc fun _ => .int _)
theorem je_powL (r : Int) {i j : Int} (ha : JE C ls a (.int i)) (hb : JE C ls b (.int j)) (hc : CPow i j := by exact ⟨by decide, by decide, by decide⟩) (hr : i ^ j.toNat = r := by decide) : JE C ls (.BinOp a .Pow b pos) (.int r) := hr ▸ je_pow ha hb hc
theorem je_neg {i : Int} (ha : JE C ls a (.int i)) : JE C ls (.UnaryOp .USub a pos) (.int (-i)) := je_of (fun k => pe_un un_neg (pe_any C a k)) (ev_un ha fun G H x Q eg hx q => ⟨i, dq_int hx, q _ (.int _)⟩)
/-! comparisons of ints, as values and as tests -/
theorem ev_cmp {ta tb : TE} {i j : Int} {k : Bool} {g : Int → Int → V} (ha : Ev C.K C.E ta ls (.int i)) (hb : Ev C.K C.E tb ls (.int j)) (hd : g i j = .bl k) : Ev C.K C.E (tOp (rI0 g) ta tb) ls (.bl k) :=
  ev_op ha hb fun G H x y Q eg hx hy q => ⟨i, j, dq_int hx, dq_int hy, q _ (by rw [hd]; exact .bl k)⟩
theorem je_lt {i j : Int} (ha : JE C ls a (.int i)) (hb : JE C ls b (.int j)) : JE C ls (.Compare a [.Lt] [b] pos) (.bl (decide (i < j))) := je_of (fun k => pe_cmpR op_lt (pe_any C a k) (pe_any C b k) (nomark _)) (ev_cmp ha hb rfl)
theorem je_le {i j : Int} (ha : JE C ls a (.int i)) (hb : JE C ls b (.int j)) : JE C ls (.Compare a [.LtE] [b] pos) (.bl (decide (i ≤ j))) := je_of (fun k => pe_cmpR op_le (pe_any C a k) (pe_any C b k) (nomark _)) (ev_cmp ha hb rfl)
theorem je_gt {i j : Int} (ha : JE C ls a (.int i)) (hb : JE C ls b (.int j)) : JE C ls (.Compare a [.Gt] [b] pos) (.bl (decide (j < i))) := je_of (fun k => pe_cmpR op_gt (pe_any C a k) (pe_any C b k) (nomark _)) (ev_cmp ha hb rfl)
theorem je_ge {i j : Int} (ha : JE C ls a (.int i)) (hb : JE C ls b (.int j)) : JE C ls (.Compare a [.GtE] [b] pos) (.bl (decide (j ≤ i))) := je_of (fun k => pe_cmpR op_ge (pe_any C a k) (pe_any C b k) (nomark _)) (ev_cmp ha hb rfl)
theorem ev_eqI {ta tb : TE} {i j : Int} (ha : Ev C.K C.E ta ls (.int i)) (hb : Ev C.K C.E tb ls (.int j)) : Ev C.K C.E (tOp rEq ta tb) ls (.bl (decide (i = j))) :=
  ev_op ha hb fun G H x y Q eg hx hy q => by
    rw [dq_int hx, dq_int hy]
    refine ⟨rfl, ?_⟩
    have e : decide (V.int i = V.int j) = decide (i = j) := by
      by_cases h : i = j
      · subst h; simp
      · rw [decide_eq_false h, decide_eq_false fun z => h (V.int.inj z)]
    rw [e]
    exact q _ (.bl _)
theorem ev_neI {ta tb : TE} {i j : Int} (ha : Ev C.K C.E ta ls (.int i)) (hb : Ev C.K C.E tb ls (.int j)) : Ev C.K C.E (tOp rNe ta tb) ls (.bl (!decide (i = j))) :=
  ev_op ha hb fun G H x y Q eg hx hy q => by
    rw [dq_int hx, dq_int hy]
    refine ⟨rfl, ?_⟩
    have e : decide (V.int i = V.int j) = decide (i = j) := by
      by_cases h : i = j
      · subst h; simp
      · rw [decide_eq_false h, decide_eq_false fun z => h (V.int.inj z)]
    rw [e]
    exact q _ (.bl _)
theorem je_eq {i j : Int} (ha : JE C ls a (.int i)) (hb : JE C ls b (.int j)) : JE C ls (.Compare a [.Eq] [b] pos) (.bl (decide (i = j))) := je_of (fun k => pe_cmpR op_eq (pe_any C a k) (pe_any C b k) (nomark _)) (ev_eqI ha hb)
theorem je_ne {i j : Int} (ha : JE C ls a (.int i)) (hb : JE C ls b (.int j)) : JE C ls (.Compare a [.NotEq] [b] pos) (.bl (!decide (i = j))) := je_of (fun k => pe_cmpR op_ne (pe_any C a k) (pe_any C b k) (nomark _)) (ev_neI ha hb)
theorem evT_test {te : TE} {k : Bool} (h : Ev C.K C.E te ls (.bl k)) : EvT C.K C.E (tTest te) ls k := fun F G H σ S xx Q q => h F G H σ S xx _ fun v G' H' eg eh S' hv => ⟨k, dq_bl hv, q G' H' eg eh S'⟩
theorem evT_B {te : TE} {k : Bool} (h : Ev C.K C.E te ls (.bl k)) : EvT C.K C.E (tB te) ls k := fun F G H σ S xx Q q => h F G H σ S xx _ fun v G' H' eg eh S' hv => ⟨k, dq_bl hv, q G' H' eg eh S'⟩
theorem jt_lt {i j : Int} (ha : JE C ls a (.int i)) (hb : JE C ls b (.int j)) : JT C ls (.Compare a [.Lt] [b] pos) (decide (i < j)) := jt_of (fun k => pt_cmpR op_lt (pe_any C a k) (pe_any C b k) (nomark _)) (evT_test (ev_cmp ha hb rfl))
theorem jt_le {i j : Int} (ha : JE C ls a (.int i)) (hb : JE C ls b (.int j)) : JT C ls (.Compare a [.LtE] [b] pos) (decide (i ≤ j)) := jt_of (fun k => pt_cmpR op_le (pe_any C a k) (pe_any C b k) (nomark _)) (evT_test (ev_cmp ha hb rfl))
theorem jt_gt {i j : Int} (ha : JE C ls a (.int i)) (hb : JE C ls b (.int j)) : JT C ls (.Compare a [.Gt] [b] pos) (decide (j < i)) := jt_of (fun k => pt_cmpR op_gt (pe_any C a k) (pe_any C b k) (nomark _)) (evT_test (ev_cmp ha hb rfl))
theorem jt_ge {i j : Int} (ha : JE C ls a (.int i)) (hb : JE C ls b (.int j)) : JT C ls (.Compare a [.GtE] [b] pos) (decide (j ≤ i)) := jt_of (fun k => pt_cmpR op_ge (pe_any C a k) (pe_any C b k) (nomark _)) (evT_test (ev_cmp ha hb rfl))
theorem jt_eq {i j : Int} (ha : JE C ls a (.int i)) (hb : JE C ls b (.int j)) : JT C ls (.Compare a [.Eq] [b] pos) (decide (i = j)) := jt_of (fun k => pt_cmpR op_eq (pe_any C a k) (pe_any C b k) (nomark _)) (evT_test (ev_eqI ha hb))
theorem jt_ne {i j : Int} (ha : JE C ls a (.int i)) (hb : JE C ls b (.int j)) : JT C ls (.Compare a [.NotEq] [b] pos) (!decide (i = j)) := jt_of (fun k => pt_cmpR op_ne (pe_any C a k) (pe_any C b k) (nomark _)) (evT_test (ev_neI ha hb))
/-- any expression of a truth value, as a test -/
theorem jt_val {k : Bool} (h : JE C ls e (.bl k)) (he : ∀ j whole, isTrue e (C.X j).env whole = (do let v ← whole; standAt e.pos; holding [v] (truthy v)) := by intro _ _; rfl) : JT C ls e k := jt_of (fun j => pt_val (pe_any C e j) (he j)) (evT_B h)
theorem jt_not {k : Bool} (h : JT C ls e k) : JT C ls (.UnaryOp .Not e pos) (!k) := jt_of (fun j => pt_not (pt_any C e j)) fun F G H σ S xx Q q => h F G H σ S xx _ fun G' H' eg eh S' => q G' H' eg eh S'
/-- and, or as tests: a chain -/
def wAny (C : Cs) (e : Expr) : TT := fun σ H Q => ∃ t : TT, (∀ i, PW (C.X i) e t) ∧ t σ H Q
theorem pw_any (C : Cs) (e : Expr) (i : C.ι) : PW (C.X i) e (wAny C e) := ⟨fun wh pins s σ H Q I h => by
  obtain ⟨t, ht, q⟩ := h
  exact (ht i).run wh pins s σ H Q I q⟩
def JW (C : Cs) (ls : List Loc) (e : Expr) (k : Bool) : Prop := EvT C.K C.E (wAny C e) ls k
theorem jt_w {k : Bool} (h : JW C ls e k) : JT C ls e k := jt_of (fun j => (pw_any C e j).pt) h
theorem evT_and {t u : TT} {k l : Bool} (h1 : EvT C.K C.E t ls k) (h2 : k = true → EvT C.K C.E u ls l) : EvT C.K C.E (tAnd t u) ls (k && l) := fun F G H σ S xx Q q => h1 F G H σ S xx _ fun G' H' eg eh S' => by
  cases k with
  | true =>
    rw [if_pos rfl]
    exact h2 rfl F G' H' σ S' (xx.step eg eh) Q fun G2 H2 eg2 eh2 S2 => q G2 H2 (eg.trans eg2) (eh.trans eh2) S2
  | false =>
    rw [if_neg Bool.false_ne_true]
    exact q G' H' eg eh S'
theorem evT_or {t u : TT} {k l : Bool} (h1 : EvT C.K C.E t ls k) (h2 : k = false → EvT C.K C.E u ls l) : EvT C.K C.E (tOr t u) ls (k || l) := fun F G H σ S xx Q q => h1 F G H σ S xx _ fun G' H' eg eh S' => by
  cases k with
  | false =>
    rw [if_neg Bool.false_ne_true]
    exact h2 rfl F G' H' σ S' (xx.step eg eh) Q fun G2 H2 eg2 eh2 S2 => q G2 H2 (eg.trans eg2) (eh.trans eh2) S2
  | true =>
    rw [if_pos rfl]
    exact q G' H' eg eh S'
theorem jw_of {t : TT} {k : Bool} (h : ∀ i, PW (C.X i) e t) (ev : EvT C.K C.E t ls k) : JW C ls e k := fun F G H σ S xx Q q => ⟨t, h, ev F G H σ S xx Q q⟩
theorem jw_and1 {k : Bool} (h : JT C ls a k) : JW C ls (.BoolOp .And [a] pos) k := jw_of (fun j => pw_and1 (pt_any C a j)) h
theorem jw_or1 {k : Bool} (h : JT C ls a k) : JW C ls (.BoolOp .Or [a] pos) k := jw_of (fun j => pw_or1 (pt_any C a j)) h
theorem jw_and {k l : Bool} {rest : List Expr} (h1 : JT C ls a k) (h2 : k = true → JW C ls (.BoolOp .And (b :: rest) pos) l) : JW C ls (.BoolOp .And (a :: b :: rest) pos) (k && l) := jw_of (fun j => pw_and (pt_any C a j) (pw_any C _ j)) (evT_and h1 h2)
theorem jw_or {k l : Bool} {rest : List Expr} (h1 : JT C ls a k) (h2 : k = false → JW C ls (.BoolOp .Or (b :: rest) pos) l) : JW C ls (.BoolOp .Or (a :: b :: rest) pos) (k || l) := jw_of (fun j => pw_or (pt_any C a j) (pw_any C _ j)) (evT_or h1 h2)
/-- .. as values -/
theorem je_one {op : BoolOp} (h : JE C ls a d) : JE C ls (.BoolOp op [a] pos) d := je_of (fun j => pe_one (pe_any C a j)) h
theorem je_and {k l : Bool} {rest : List Expr} (h1 : JE C ls a (.bl k)) (h2 : k = true → JE C ls (.BoolOp .And (b :: rest) pos) (.bl l)) : JE C ls (.BoolOp .And (a :: b :: rest) pos) (.bl (k && l)) :=
  je_of (fun j => pe_and (pe_any C a j) (pe_any C _ j)) fun F G H σ S xx Q q => h1 F G H σ S xx _ fun v G' H' eg eh S' hv => ⟨k, dq_bl hv, by
    cases k with
    | true =>
      rw [if_pos rfl]
      exact h2 rfl F G' H' σ S' (xx.step eg eh) Q fun v2 G2 H2 eg2 eh2 S2 hv2 => q v2 G2 H2 (eg.trans eg2) (eh.trans eh2) S2 hv2
    | false =>
      rw [if_neg Bool.false_ne_true]
      exact q _ G' H' eg eh S' (.bl _)⟩
theorem je_or {k l : Bool} {rest : List Expr} (h1 : JE C ls a (.bl k)) (h2 : k = false → JE C ls (.BoolOp .Or (b :: rest) pos) (.bl l)) : JE C ls (.BoolOp .Or (a :: b :: rest) pos) (.bl (k || l)) :=
  je_of (fun j => pe_or (pe_any C a j) (pe_any C _ j)) fun F G H σ S xx Q q => h1 F G H σ S xx _ fun v G' H' eg eh S' hv => ⟨k, dq_bl hv, by
    cases k with
    | false =>
      rw [if_neg Bool.false_ne_true]
      exact h2 rfl F G' H' σ S' (xx.step eg eh) Q fun v2 G2 H2 eg2 eh2 S2 hv2 => q v2 G2 H2 (eg.trans eg2) (eh.trans eh2) S2 hv2
    | true =>
      rw [if_pos rfl]
      exact q _ G' H' eg eh S' (.bl _)⟩
theorem je_not {k : Bool} (h1 : JE C ls a (.bl k)) : JE C ls (.UnaryOp .Not a pos) (.bl (!k)) := je_of (fun j => pe_not (pe_any C a j)) fun F G H σ S xx Q q => h1 F G H σ S xx _ fun v G' H' eg eh S' hv => ⟨k, dq_bl hv, q _ G' H' eg eh S' (.bl _)⟩
theorem je_ifExp {k : Bool} (hc : JT C ls c k) (ha : k = true → JE C ls a d) (hb : k = false → JE C ls b d) : JE C ls (.IfExp c a b pos) d :=
  je_of (fun j => pe_ifExp (pt_any C c j) (pe_any C a j) (pe_any C b j)) fun F G H σ S xx Q q => hc F G H σ S xx _ fun G' H' eg eh S' => by
    cases k with
    | true =>
      rw [if_pos rfl]
      exact ha rfl F G' H' σ S' (xx.step eg eh) Q fun v2 G2 H2 eg2 eh2 S2 hv2 => q v2 G2 H2 (eg.trans eg2) (eh.trans eh2) S2 hv2
    | false =>
      rw [if_neg Bool.false_ne_true]
      exact hb rfl F G' H' σ S' (xx.step eg eh) Q fun v2 G2 H2 eg2 eh2 S2 hv2 => q v2 G2 H2 (eg.trans eg2) (eh.trans eh2) S2 hv2
/-- is None -/
def D.isNon : D → Bool
  | .non => true
  | _ => false
theorem dq_isNon {K : Fg} {G : Hp} {v : V} (h : Dq K G v d) : decide (v = .non) = d.isNon := by
  cases h <;> rfl
theorem je_isN {k : Nat} (h : JE C ls a d) : JE C ls (.Compare a [.Is] [.Constant .none k pos'] pos) (.bl d.isNon) := je_of (fun j => pe_cmp (pc_isN (pe_any C a j)) rfl) fun F G H σ S xx Q q => h F G H σ S xx _ fun v G' H' eg eh S' hv => q _ G' H' eg eh S' (by rw [dq_isNon hv]; exact .bl _)
theorem je_notN {k : Nat} (h : JE C ls a d) : JE C ls (.Compare a [.IsNot] [.Constant .none k pos'] pos) (.bl (!d.isNon)) := je_of (fun j => pe_cmp (pc_notN (pe_any C a j)) rfl) fun F G H σ S xx Q q => h F G H σ S xx _ fun v G' H' eg eh S' hv => q _ G' H' eg eh S' (by rw [dq_isNon hv]; exact .bl _)
end
end Qp

/-! Q3: lists, tuples, built-ins. -/
namespace Qp
open PySem PySem.Spec PyProof.Rows L2
/-! the rules that speak of K -/
theorem kx {C : Cs} (j : C.ι) {p : Fg → Prop} (h : p (C.X j).K) : p C.K := C.hK j ▸ h
theorem ix_list' (C : Cs) (j : C.ι) : IxR (C.X j) (rIxL C.K) := kx (p := fun K => IxR (C.X j) (rIxL K)) j ix_list
theorem ix_tup' (C : Cs) (j : C.ι) : IxR (C.X j) (rIxT C.K) := kx (p := fun K => IxR (C.X j) (rIxT K)) j ix_tup
def rLen (K : Fg) : List V → Hp → VK → Prop := fun xs H Q => ∃ p ys, xs = [.ref p] ∧ (SqL K H p ys ∨ SqT K H p ys) ∧ Q (.int ys.length) H
def rListOf (K : Fg) : List V → Hp → VK → Prop := fun xs H Q => ∃ p ys, xs = [.ref p] ∧ (SqL K H p ys ∨ SqT K H p ys) ∧ ∀ l, H l = none → Q (.ref l) (upd H l (.lst ys))
def rTupleOf (K : Fg) : List V → Hp → VK → Prop := fun xs H Q => ∃ p ys, xs = [.ref p] ∧ ((SqL K H p ys ∧ ∀ l, H l = none → Q (.ref l) (upd H l (.tup ys))) ∨ (SqT K H p ys ∧ Q (.ref p) H))
theorem len' (C : Cs) (j : C.ι) : CallR (C.X j) (.builtin "len") (rLen C.K) := kx (p := fun K => CallR (C.X j) (.builtin "len") (rLen K)) j call_len_seq
theorem list' (C : Cs) (j : C.ι) : CallR (C.X j) (.type "list") (rListOf C.K) := kx (p := fun K => CallR (C.X j) (.type "list") (rListOf K)) j call_list_of
theorem tuple' (C : Cs) (j : C.ι) : CallR (C.X j) (.type "tuple") (rTupleOf C.K) := kx (p := fun K => CallR (C.X j) (.type "tuple") (rTupleOf K)) j call_tuple_of
theorem isi' (C : Cs) (j : C.ι) : CallR (C.X j) (.builtin "isinstance") (rIsi C.K) := kx (p := fun K => CallR (C.X j) (.builtin "isinstance") (rIsi K)) j call_isi
theorem sl_list' (C : Cs) (j : C.ι) : SlR (C.X j) (rSlL C.K) := kx (p := fun K => SlR (C.X j) (rSlL K)) j sl_list
theorem sl_tup' (C : Cs) (j : C.ι) : SlR (C.X j) (rSlT C.K) := kx (p := fun K => SlR (C.X j) (rSlT K)) j sl_tup
theorem op_catT' (C : Cs) (j : C.ι) : OpR (C.X j) (binaryOp .Add) (rCatT C.K) := kx (p := fun K => OpR (C.X j) (binaryOp .Add) (rCatT K)) j op_catT
abbrev NoG (C : Cs) (x : Str) : Prop := C.mg x = none
theorem noG {C : Cs} {x : Str} (h : NoG C x) (j : C.ι) : (C.X j).mg x = none := by rw [C.hmg]; exact h
section
variable {C : Cs} {ls : List Loc} {a b : Expr} {d d1 d2 : D} {ds : List D} {p pos : Pos} {x : Str} {id : String} {r : List V → Hp → VK → Prop}
theorem pe_cb1 (j : C.ι) (hc : CallR (C.X j) (.builtin id) r) (hg : Gl (C.X j) x) (hm : NoG C x) (hv : bootBuiltins x = some (.builtin id)) (hs : NS a) (hn : x ≠ "__name__" := by decide) (hdb : (x == ("__debug__" : Str)) = false := by decide) : PE (C.X j) (.Call (.Name x p) [a] [] pos) (tCB r (tCons (eAny C a) tNil)) :=
  pe_callB hc hg (noG hm j) hv (pa_cons (pe_any C a j) pa_nil (hs _ _)) hn hdb (hs _ _) (ns_any (es := []) (fun _ h => (List.not_mem_nil h).elim) _ _)
theorem pe_ct1 (j : C.ι) (hc : CallR (C.X j) (.type id) r) (hg : Gl (C.X j) x) (hm : NoG C x) (hv : bootBuiltins x = some (.type id)) (hs : NS a) (hn : x ≠ "__name__" := by decide) (hdb : (x == ("__debug__" : Str)) = false := by decide) : PE (C.X j) (.Call (.Name x p) [a] [] pos) (tCB r (tCons (eAny C a) tNil)) :=
  pe_callTy hc hg (noG hm j) hv (pa_cons (pe_any C a j) pa_nil (hs _ _)) hn hdb (hs _ _) (ns_any (es := []) (fun _ h => (List.not_mem_nil h).elim) _ _)
theorem pe_cb2 (j : C.ι) (hc : CallR (C.X j) (.builtin id) r) (hg : Gl (C.X j) x) (hm : NoG C x) (hv : bootBuiltins x = some (.builtin id)) (hs : NS a) (hs2 : NS b) {tb : TE} (hb : PE (C.X j) b tb) (hn : x ≠ "__name__" := by decide) (hdb : (x == ("__debug__" : Str)) = false := by decide) : PE (C.X j) (.Call (.Name x p) [a, b] [] pos) (tCB r (tCons (eAny C a) (tCons tb tNil))) :=
  pe_callB hc hg (noG hm j) hv (pa_cons (pe_any C a j) (pa_cons hb pa_nil (hs2 _ _)) (hs _ _)) hn hdb (hs _ _) (ns_any (fun x h => by obtain rfl := List.mem_singleton.mp h; exact hs2) _ _)
end
section
variable {C : Cs} {ls : List Loc} {e a b c : Expr} {d d1 d2 : D} {ds es : List D} {t : TE} {pos pos' p1 p2 : Pos}
/-! arguments, displays -/
theorem ja_nil : JA C ls [] [] := ja_of (fun _ h => nomatch h) (fun _ => pa_nil) evA_nil
theorem ja_cons {xs : List Expr} (h : JE C ls e d) (r : JA C ls xs ds) (hs : NS e := by intro _ _; rfl) : JA C ls (e :: xs) (d :: ds) :=
  ja_of (fun x hx => (List.mem_cons.mp hx).elim (fun z => z ▸ hs) (r.ns x)) (fun j => pa_cons (pe_any C e j) (pa_any C xs j) (hs _ _)) (evA_cons h r.ev)
theorem je_tup {k : Nat} {xs : List Expr} (h : JA C ls xs ds) (hl : ds.length ≤ 1000000 := by first | exact Nat.le_of_ble_eq_true rfl | omega) : JE C ls (.Tuple xs k pos) (.tup ds) :=
  je_of (fun j => pe_tup (pa_any C xs j)) fun F G H σ S xx Q q => h.ev F G H σ S xx _ fun vs G' H' eg eh S' hv => ⟨by rw [hv.length]; exact Nat.le_trans hl (by decide), ev_lay S' hv fun v G2 H2 eg2 eh2 S2 hv2 => q v G2 H2 (eg.trans eg2) (eh.trans eh2) S2 hv2⟩
theorem jn_lst {xs : List Expr} (h : JA C ls xs ds) (hl : ds.length ≤ 1000000 := by first | exact Nat.le_of_ble_eq_true rfl | omega) : JN C ls (.List xs pos) ds :=
  jn_of (fun j => pe_lst (pa_any C xs j)) fun F G H σ S xx Q q => h.ev F G H σ S xx _ fun vs G' H' eg eh S' hv => ⟨by rw [hv.length]; exact Nat.le_trans hl (by decide), evN_lay S' hv fun p vs G2 H2 eg2 eh2 nf S2 hp hv2 => q p vs G2 H2 (eg.trans eg2) (eh.trans eh2) nf S2 hp hv2⟩
/-! a subscript -/
theorem ixN_some {n : Nat} {i : Int} {j : Nat} (h : ixN n i = some j) : j < n := by
  unfold ixN at h
  split at h
  · split at h
    · cases h; omega
    · cases h
  · split at h
    · cases h; omega
    · cases h
theorem atI_dq {K : Fg} {G : Hp} {vs : List V} {i : Int} (hv : DqAll K G vs ds) (h : atI ds i = some d) : ∃ v, atI vs i = some v ∧ Dq K G v d := by
  unfold atI at h ⊢
  rw [hv.length]
  cases q : ixN ds.length i with
  | none => rw [q] at h; cases h
  | some j =>
    rw [q] at h
    obtain ⟨v, e1, e2⟩ := hv.get (show ds[j]? = some d from h)
    exact ⟨v, e1, e2⟩
theorem je_ixL {i : Int} (ha : JC C ls a ds) (hb : JE C ls b (.int i)) (h : atI ds i = some d) (hs : PlainIx b := by intro _ _; rfl) : JE C ls (.Subscript a b pos) d :=
  je_of (fun j => pe_ix (ix_list' C j) (pe_any C a j) (pe_any C b j) hs) fun F G H σ S xx Q q => ha F G H σ S xx _ fun p vs G1 H1 eg1 eh1 S1 hp hv => hb F G1 H1 σ S1 (xx.step eg1 eh1) _ fun y G2 H2 eg2 eh2 S2 hy => by
    obtain ⟨v, e1, e2⟩ := atI_dq (dqAll_mono eg2 hv) h
    exact ⟨p, vs, i, v, rfl, dq_int hy, SqL.of (eh2 _ _ hp), e1, q v G2 H2 (eg1.trans eg2) (eh1.trans eh2) S2 e2⟩
theorem je_ixT {i : Int} (ha : JE C ls a (.tup ds)) (hb : JE C ls b (.int i)) (h : atI ds i = some d) (hs : PlainIx b := by intro _ _; rfl) : JE C ls (.Subscript a b pos) d :=
  je_of (fun j => pe_ix (ix_tup' C j) (pe_any C a j) (pe_any C b j) hs) fun F G H σ S xx Q q => ha F G H σ S xx _ fun x G1 H1 eg1 eh1 S1 hx => hb F G1 H1 σ S1 (xx.step eg1 eh1) _ fun y G2 H2 eg2 eh2 S2 hy => by
    obtain ⟨p, vs, e0, ht, hv⟩ := dq_tup (dq_mono eg2 hx)
    obtain ⟨v, e1, e2⟩ := atI_dq hv h
    exact ⟨p, vs, i, v, e0, dq_int hy, ex_t S2.ex ht, e1, q v G2 H2 (eg1.trans eg2) (eh1.trans eh2) S2 e2⟩
theorem je_ixScr {i n : Int} {ns : List Int} (ha : JE C ls a (.scr ns)) (hb : JE C ls b (.int i)) (h : atI ns i = some n) (hs : PlainIx b := by intro _ _; rfl) : JE C ls (.Subscript a b pos) (.int n) :=
  je_of (fun j => pe_ix (ix_list' C j) (pe_any C a j) (pe_any C b j) hs) fun F G H σ S xx Q q => ha F G H σ S xx _ fun x G1 H1 eg1 eh1 S1 hx => hb F G1 H1 σ S1 (xx.step eg1 eh1) _ fun y G2 H2 eg2 eh2 S2 hy => by
    obtain ⟨p, e0, hl⟩ := dq_scr (dq_mono eg2 hx)
    refine ⟨p, ns.map V.int, i, .int n, e0, dq_int hy, ?_, ?_, q _ G2 H2 (eg1.trans eg2) (eh1.trans eh2) S2 (.int n)⟩
    · exact ex_l S2.ex hl
    · unfold atI at h ⊢
      rw [List.length_map]
      cases q : ixN ns.length i with
      | none => rw [q] at h; cases h
      | some j =>
        rw [q] at h
        show (ns.map V.int)[j]? = _
        rw [List.getElem?_map, show ns[j]? = some n from h]
        rfl
/-! len -/
theorem je_lenL (ha : JC C ls a ds) (hn : NoG C "len" := by assumption) (hg : ∀ j, Gl (C.X j) "len" := by intro _; rfl) (hs : NS a := by intro _ _; rfl) : JE C ls (.Call (.Name "len" p1) [a] [] pos) (.int (ds.length : Int)) :=
  je_of (fun j => pe_cb1 j (len' C j) (hg j) hn PySem.boot_len hs) fun F G H σ S xx Q q => ha F G H σ S xx _ fun p vs G1 H1 eg1 eh1 S1 hp hv => ⟨p, vs, rfl, Or.inl (SqL.of hp), by rw [hv.length]; exact q _ G1 H1 eg1 eh1 S1 (.int _)⟩
theorem je_lenT (ha : JE C ls a (.tup ds)) (hn : NoG C "len" := by assumption) (hg : ∀ j, Gl (C.X j) "len" := by intro _; rfl) (hs : NS a := by intro _ _; rfl) : JE C ls (.Call (.Name "len" p1) [a] [] pos) (.int (ds.length : Int)) :=
  je_of (fun j => pe_cb1 j (len' C j) (hg j) hn PySem.boot_len hs) fun F G H σ S xx Q q => ha F G H σ S xx _ fun x G1 H1 eg1 eh1 S1 hx => by
    obtain ⟨p, vs, e0, ht, hv⟩ := dq_tup hx
    refine ⟨p, vs, by rw [e0], Or.inr ?_, by rw [hv.length]; exact q _ G1 H1 eg1 eh1 S1 (.int _)⟩
    exact ex_t S1.ex ht
theorem je_lenScr {ns : List Int} (ha : JE C ls a (.scr ns)) (hn : NoG C "len" := by assumption) (hg : ∀ j, Gl (C.X j) "len" := by intro _; rfl) (hs : NS a := by intro _ _; rfl) : JE C ls (.Call (.Name "len" p1) [a] [] pos) (.int (ns.length : Int)) :=
  je_of (fun j => pe_cb1 j (len' C j) (hg j) hn PySem.boot_len hs) fun F G H σ S xx Q q => ha F G H σ S xx _ fun x G1 H1 eg1 eh1 S1 hx => by
    obtain ⟨p, e0, hl⟩ := dq_scr hx
    refine ⟨p, ns.map V.int, by rw [e0], Or.inl ?_, by rw [List.length_map]; exact q _ G1 H1 eg1 eh1 S1 (.int _)⟩
    exact ex_l S1.ex hl
/-! a list or a tuple -/
inductive IsSeq : D → List D → Prop
  | lst (ds : List D) : IsSeq (.lst ds) ds
  | tup (ds : List D) : IsSeq (.tup ds) ds
theorem je_ixS {i : Int} (ha : JE C ls a d1) (hq : IsSeq d1 ds) (hb : JE C ls b (.int i)) (h : atI ds i = some d) (hs : PlainIx b := by intro _ _; rfl) : JE C ls (.Subscript a b pos) d := by
  cases hq with
  | lst => exact je_ixL (JC.je ha) hb h hs
  | tup => exact je_ixT ha hb h hs
theorem je_lenS (ha : JE C ls a d1) (hq : IsSeq d1 ds) (hn : NoG C "len" := by assumption) (hg : ∀ j, Gl (C.X j) "len" := by intro _; rfl) (hs : NS a := by intro _ _; rfl) : JE C ls (.Call (.Name "len" p1) [a] [] pos) (.int (ds.length : Int)) := by
  cases hq with
  | lst => exact je_lenL (JC.je ha) hn hg hs
  | tup => exact je_lenT ha hn hg hs
/-! int(..), abs(..) -/
theorem je_intI {i : Int} (ha : JE C ls a (.int i)) (hn : NoG C "int" := by assumption) (hg : ∀ j, Gl (C.X j) "int" := by intro _; rfl) (hs : NS a := by intro _ _; rfl) : JE C ls (.Call (.Name "int" p1) [a] [] pos) (.int i) :=
  je_of (fun j => pe_ct1 j call_int1 (hg j) hn boot_int hs) fun F G H σ S xx Q q => ha F G H σ S xx _ fun x G1 H1 eg1 eh1 S1 hx => Or.inl ⟨i, by rw [dq_int hx], q _ G1 H1 eg1 eh1 S1 (.int _)⟩
theorem je_intB {k : Bool} (ha : JE C ls a (.bl k)) (hn : NoG C "int" := by assumption) (hg : ∀ j, Gl (C.X j) "int" := by intro _; rfl) (hs : NS a := by intro _ _; rfl) : JE C ls (.Call (.Name "int" p1) [a] [] pos) (.int (if k then 1 else 0)) :=
  je_of (fun j => pe_ct1 j call_int1 (hg j) hn boot_int hs) fun F G H σ S xx Q q => ha F G H σ S xx _ fun x G1 H1 eg1 eh1 S1 hx => Or.inr ⟨k, by rw [dq_bl hx], q _ G1 H1 eg1 eh1 S1 (.int _)⟩
theorem je_abs {i : Int} (ha : JE C ls a (.int i)) (hn : NoG C "abs" := by assumption) (hg : ∀ j, Gl (C.X j) "abs" := by intro _; rfl) (hs : NS a := by intro _ _; rfl) : JE C ls (.Call (.Name "abs" p1) [a] [] pos) (.int (i.natAbs : Int)) :=
  je_of (fun j => pe_cb1 j call_abs (hg j) hn (by decide +kernel) hs) fun F G H σ S xx Q q => ha F G H σ S xx _ fun x G1 H1 eg1 eh1 S1 hx => ⟨i, by rw [dq_int hx], by
    have e : (if i < 0 then -i else i) = (i.natAbs : Int) := by split <;> omega
    rw [e]
    exact q _ G1 H1 eg1 eh1 S1 (.int _)⟩
theorem je_max2 [Cold C] {i l : Int} (ha : JE C ls a (.int i)) (hb : JE C ls b (.int l)) (hn : NoG C "max" := by assumption) (hg : ∀ j, Gl (C.X j) "max" := by intro _; rfl) (hs : NS a := by intro _ _; rfl) (hs2 : NS b := by intro _ _; rfl) : JE C ls (.Call (.Name "max" p1) [a, b] [] pos) (.int (max i l)) :=
  je_of (fun j => pe_cb2 j (call_max2 (C.calm j Cold.h)) (hg j) hn (by decide +kernel) hs hs2 (pe_any C b j)) fun F G H σ S xx Q q => ha F G H σ S xx _ fun x G1 H1 eg1 eh1 S1 hx => hb F G1 H1 σ S1 (xx.step eg1 eh1) _ fun y G2 H2 eg2 eh2 S2 hy => ⟨i, l, by rw [dq_int hx, dq_int hy], by
    have e : (if l > i then l else i) = max i l := by split <;> omega
    rw [e]
    exact q _ G2 H2 (eg1.trans eg2) (eh1.trans eh2) S2 (.int _)⟩
theorem je_min2 [Cold C] {i l : Int} (ha : JE C ls a (.int i)) (hb : JE C ls b (.int l)) (hn : NoG C "min" := by assumption) (hg : ∀ j, Gl (C.X j) "min" := by intro _; rfl) (hs : NS a := by intro _ _; rfl) (hs2 : NS b := by intro _ _; rfl) : JE C ls (.Call (.Name "min" p1) [a, b] [] pos) (.int (min i l)) :=
  je_of (fun j => pe_cb2 j (call_min2 (C.calm j Cold.h)) (hg j) hn (by decide +kernel) hs hs2 (pe_any C b j)) fun F G H σ S xx Q q => ha F G H σ S xx _ fun x G1 H1 eg1 eh1 S1 hx => hb F G1 H1 σ S1 (xx.step eg1 eh1) _ fun y G2 H2 eg2 eh2 S2 hy => ⟨i, l, by rw [dq_int hx, dq_int hy], by
    have e : (if l < i then l else i) = min i l := by split <;> omega
    rw [e]
    exact q _ G2 H2 (eg1.trans eg2) (eh1.trans eh2) S2 (.int _)⟩
/-! list(..), tuple(..) -/
theorem jn_listL (ha : JC C ls a ds) (hn : NoG C "list" := by assumption) (hg : ∀ j, Gl (C.X j) "list" := by intro _; rfl) (hs : NS a := by intro _ _; rfl) : JN C ls (.Call (.Name "list" p1) [a] [] pos) ds :=
  jn_of (fun j => pe_ct1 j (list' C j) (hg j) hn boot_list hs) fun F G H σ S xx Q q => ha F G H σ S xx _ fun p vs G1 H1 eg1 eh1 S1 hp hv => ⟨p, vs, rfl, Or.inl (SqL.of hp), evN_lay S1 hv fun p vs G2 H2 eg2 eh2 nf S2 hp hv2 => q p vs G2 H2 (eg1.trans eg2) (eh1.trans eh2) nf S2 hp hv2⟩
theorem jn_listT (ha : JE C ls a (.tup ds)) (hn : NoG C "list" := by assumption) (hg : ∀ j, Gl (C.X j) "list" := by intro _; rfl) (hs : NS a := by intro _ _; rfl) : JN C ls (.Call (.Name "list" p1) [a] [] pos) ds :=
  jn_of (fun j => pe_ct1 j (list' C j) (hg j) hn boot_list hs) fun F G H σ S xx Q q => ha F G H σ S xx _ fun x G1 H1 eg1 eh1 S1 hx => by
    obtain ⟨p, vs, e0, ht, hv⟩ := dq_tup hx
    refine ⟨p, vs, by rw [e0], Or.inr ?_, evN_lay S1 hv fun p vs G2 H2 eg2 eh2 nf S2 hp hv2 => q p vs G2 H2 (eg1.trans eg2) (eh1.trans eh2) nf S2 hp hv2⟩
    exact ex_t S1.ex ht
theorem je_tupleL (ha : JC C ls a ds) (hn : NoG C "tuple" := by assumption) (hg : ∀ j, Gl (C.X j) "tuple" := by intro _; rfl) (hs : NS a := by intro _ _; rfl) : JE C ls (.Call (.Name "tuple" p1) [a] [] pos) (.tup ds) :=
  je_of (fun j => pe_ct1 j (tuple' C j) (hg j) hn boot_tuple hs) fun F G H σ S xx Q q => ha F G H σ S xx _ fun p vs G1 H1 eg1 eh1 S1 hp hv => ⟨p, vs, rfl, Or.inl ⟨SqL.of hp, ev_lay S1 hv fun v G2 H2 eg2 eh2 S2 hv2 => q v G2 H2 (eg1.trans eg2) (eh1.trans eh2) S2 hv2⟩⟩
theorem je_tupleT (ha : JE C ls a (.tup ds)) (hn : NoG C "tuple" := by assumption) (hg : ∀ j, Gl (C.X j) "tuple" := by intro _; rfl) (hs : NS a := by intro _ _; rfl) : JE C ls (.Call (.Name "tuple" p1) [a] [] pos) (.tup ds) :=
  je_of (fun j => pe_ct1 j (tuple' C j) (hg j) hn boot_tuple hs) fun F G H σ S xx Q q => ha F G H σ S xx _ fun x G1 H1 eg1 eh1 S1 hx => by
    obtain ⟨p, vs, e0, ht, hv⟩ := dq_tup hx
    subst e0
    refine ⟨p, vs, rfl, Or.inr ⟨?_, q _ G1 H1 eg1 eh1 S1 hx⟩⟩
    exact ex_t S1.ex ht
/-! slices -/
def oAny (C : Cs) (o : Option Expr) : TO := fun σ H Q => ∃ t : TO, (∀ i, PO (C.X i) o t) ∧ t σ H Q
theorem po_any (C : Cs) (o : Option Expr) (i : C.ι) : PO (C.X i) o (oAny C o) := ⟨fun pins s σ H Q I h => by
  obtain ⟨t, ht, q⟩ := h
  exact (ht i).run pins s σ H Q I q⟩
def JO (C : Cs) (ls : List Loc) (o : Option Expr) (n : Option Int) : Prop := ∀ F G H σ, Sat C.K F G H σ ls → Xok C.K C.E F G H σ ls → ∀ Q : Option Int → Hp → Prop, (∀ G' H', Ex G G' → Ex H H' → Sat C.K F G' H' σ ls → Q n H') → oAny C o σ H Q
theorem jo_none : JO C ls none none := fun F G H σ S xx Q q => ⟨tNoPart, fun _ => po_none, q G H (Ex.refl G) (Ex.refl H) S⟩
theorem jo_some {i : Int} (h : JE C ls e (.int i)) : JO C ls (some e) (some i) := fun F G H σ S xx Q q => ⟨tPart (eAny C e), fun j => po_some (pe_any C e j), h F G H σ S xx _ fun v G' H' eg eh S' hv => ⟨i, dq_int hv, q G' H' eg eh S'⟩⟩
/-- the items of ds[lo:hi] -/
def cutD (ds : List D) (lo hi : Option Int) : List D := (ds.drop (HT.sIx ds.length 0 lo)).take (HT.sIx ds.length ds.length hi - HT.sIx ds.length 0 lo)
theorem dqAll_cut {K : Fg} {G : Hp} {vs : List V} {lo hi : Option Int} (h : DqAll K G vs ds) : DqAll K G (cutV vs lo hi) (cutD ds lo hi) := by
  unfold cutV cutD
  rw [h.length]
  exact (h.drop _).take _
theorem jn_slice {lo hi : Option Expr} {l u : Option Int} (ha : JC C ls a ds) (h1 : JO C ls lo l) (h2 : JO C ls hi u) : JN C ls (.Subscript a (.Slice lo hi none p2) pos) (cutD ds l u) :=
  jn_of (fun j => pe_slice (sl_list' C j) (pe_any C a j) (po_any C lo j) (po_any C hi j)) fun F G H σ S xx Q q => ha F G H σ S xx _ fun p vs G1 H1 eg1 eh1 S1 hp hv => h1 F G1 H1 σ S1 (xx.step eg1 eh1) _ fun G2 H2 eg2 eh2 S2 => h2 F G2 H2 σ S2 (xx.step (eg1.trans eg2) (eh1.trans eh2)) _ fun G3 H3 eg3 eh3 S3 =>
    ⟨p, vs, rfl, SqL.of (eh3 _ _ (eh2 _ _ hp)), evN_lay S3 (dqAll_cut (dqAll_mono (eg2.trans eg3) hv)) fun p vs G4 H4 eg4 eh4 nf S4 hp hv2 => q p vs G4 H4 (((eg1.trans eg2).trans eg3).trans eg4) (((eh1.trans eh2).trans eh3).trans eh4) nf S4 hp hv2⟩
/-- a tuple's slice (the whole of it is the tuple itself) -/
theorem je_sliceT {lo hi : Option Expr} {l u : Option Int} (ha : JE C ls a (.tup ds)) (h1 : JO C ls lo l) (h2 : JO C ls hi u) (hw : ¬ (HT.sIx ds.length 0 l = 0 ∧ HT.sIx ds.length ds.length u = ds.length)) : JE C ls (.Subscript a (.Slice lo hi none p2) pos) (.tup (cutD ds l u)) :=
  je_of (fun j => pe_slice (sl_tup' C j) (pe_any C a j) (po_any C lo j) (po_any C hi j)) fun F G H σ S xx Q q => ha F G H σ S xx _ fun x G1 H1 eg1 eh1 S1 hx => h1 F G1 H1 σ S1 (xx.step eg1 eh1) _ fun G2 H2 eg2 eh2 S2 => h2 F G2 H2 σ S2 (xx.step (eg1.trans eg2) (eh1.trans eh2)) _ fun G3 H3 eg3 eh3 S3 => by
    obtain ⟨p, vs, e0, ht, hv⟩ := dq_tup (dq_mono (eg2.trans eg3) hx)
    refine ⟨p, vs, e0, ?_, by rw [hv.length]; exact hw, ev_lay S3 (dqAll_cut hv) fun v G4 H4 eg4 eh4 S4 hv2 => q v G4 H4 (((eg1.trans eg2).trans eg3).trans eg4) (((eh1.trans eh2).trans eh3).trans eh4) S4 hv2⟩
    exact ex_t S3.ex ht
/-! sums -/
theorem jn_cat (ha : JC C ls a ds) (hb : JC C ls b es) (hl : ds.length + es.length ≤ 1000000) : JN C ls (.BinOp a .Add b pos) (ds ++ es) :=
  jn_of (fun j => pe_op op_cat (pe_any C a j) (pe_any C b j)) fun F G H σ S xx Q q => ha F G H σ S xx _ fun p vs G1 H1 eg1 eh1 S1 hp hv => hb F G1 H1 σ S1 (xx.step eg1 eh1) _ fun p2 vs2 G2 H2 eg2 eh2 S2 hp2 hv2 =>
    ⟨p, p2, vs, vs2, rfl, rfl, eh2 _ _ hp, hp2, by rw [hv.length, hv2.length]; exact Nat.le_trans hl (by decide), evN_lay S2 ((dqAll_mono eg2 hv).append hv2) fun p vs G4 H4 eg4 eh4 nf S4 hp hv2 => q p vs G4 H4 ((eg1.trans eg2).trans eg4) ((eh1.trans eh2).trans eh4) nf S4 hp hv2⟩
theorem je_catT (ha : JE C ls a (.tup ds)) (hb : JE C ls b (.tup es)) (h0 : ds ≠ []) (hl : ds.length + es.length ≤ 1000000) : JE C ls (.BinOp a .Add b pos) (.tup (ds ++ es)) :=
  je_of (fun j => pe_op (op_catT' C j) (pe_any C a j) (pe_any C b j)) fun F G H σ S xx Q q => ha F G H σ S xx _ fun x G1 H1 eg1 eh1 S1 hx => hb F G1 H1 σ S1 (xx.step eg1 eh1) _ fun y G2 H2 eg2 eh2 S2 hy => by
    obtain ⟨p, vs, e0, ht, hv⟩ := dq_tup (dq_mono eg2 hx)
    obtain ⟨p2, vs2, e2, ht2, hv2⟩ := dq_tup hy
    refine ⟨p, p2, vs, vs2, e0, e2, ?_, ?_, fun z => ?_, by rw [hv.length, hv2.length]; exact Nat.le_trans hl (by decide), fun z => ?_, fun _ => ev_lay S2 (hv.append hv2) fun v G4 H4 eg4 eh4 S4 hv2 => q v G4 H4 ((eg1.trans eg2).trans eg4) ((eh1.trans eh2).trans eh4) S4 hv2⟩
    · exact ex_t S2.ex ht
    · exact ex_t S2.ex ht2
    · subst z
      have := hv.length
      cases ds with
      | nil => exact h0 rfl
      | cons _ _ => simp at this
    · subst z
      have := hv2.length
      have e3 : es = [] := by
        cases es with
        | nil => rfl
        | cons _ _ => simp at this
      rw [e3, List.append_nil] at q
      exact q _ G2 H2 (eg1.trans eg2) (eh1.trans eh2) S2 (.tup ht hv)
/-! isinstance -/
def D.kind : D → String
  | .non => "NoneType"
  | .bl _ => "bool"
  | .int _ => "int"
  | .str _ => "str"
  | .lst _ => "list"
  | .tup _ => "tuple"
  | .scr _ => "list"
  | .ref _ => "object"
  | .ty _ => "type"
def D.flatK : D → Bool
  | .ref _ => false
  | .ty _ => false
  | _ => true
theorem tyx_of {K : Fg} {G H : Hp} {v : V} (e : Ex G H) (h : Dq K G v d) (hf : d.flatK = true) : TyX K H v (.type d.kind) := by
  cases h with
  | non => exact .base .non
  | bl b => exact .base (.bl b)
  | int i => exact .base (.int i)
  | str x => exact .base (.str x)
  | lst h _ => exact .base (.lst (e _ _ h))
  | tup h _ =>
    rcases h with h | ⟨o, its, n, hk, hc, _⟩
    · rcases h with h | ⟨o, h⟩
      · exact .base (.tup (e _ _ h))
      · exact .fTuple (e _ _ h)
    · exact .kTuple hk hc
  | scr h =>
    rcases h with h | ⟨o, its, n, hk, hc, _⟩
    · rcases h with h | ⟨o, h⟩
      · exact .base (.lst (e _ _ h))
      · exact .base (.frz (e _ _ h))
    · exact .kList hk hc
  | ref a => cases hf
  | ty n => cases hf
/-- whether a value of that kind is of the class T -/
theorem je_isi {T : Str} {U : String} {k : Bool} (ha : JE C ls a d) (hf : d.flatK = true) (hk : kitB d.kind U = some k) (hT : bootBuiltins T = some (.type U)) (hnT : NoG C T := by assumption) (hn : NoG C "isinstance" := by assumption) (hg : ∀ j, Gl (C.X j) "isinstance" := by intro _; rfl) (hgT : ∀ j, Gl (C.X j) T := by intro _; rfl)
    (hs : NS a := by intro _ _; rfl) (hnn : T ≠ "__name__" := by decide) (hdb : (T == ("__debug__" : Str)) = false := by decide) :
    JE C ls (.Call (.Name "isinstance" p1) [a, .Name T p2] [] pos) (.bl k) :=
  je_of (fun j => pe_cb2 j (isi' C j) (hg j) hn (by decide +kernel) hs (fun _ _ => rfl) (pe_bltn (v := .ty U) (pos := p2) (hgT j) (noG hnT j) hT rfl hnn hdb)) fun F G H σ S xx Q q => ha F G H σ S xx _ fun x G1 H1 eg1 eh1 S1 hx => ⟨x, .ty U, _, _, k, rfl, .ty U, tyx_of S1.ex hx hf, kit_ty hk, q _ G1 H1 eg1 eh1 S1 (.bl k)⟩
def D.isTup : D → Bool
  | .tup _ => true
  | _ => false
def D.isInt : D → Bool
  | .int _ => true
  | .bl _ => true
  | _ => false
def D.isBool : D → Bool
  | .bl _ => true
  | _ => false
def D.isLst : D → Bool
  | .lst _ => true
  | .scr _ => true
  | _ => false
def D.isStr : D → Bool
  | .str _ => true
  | _ => false
theorem kit0_tup : kitB "NoneType" "tuple" = some false ∧ kitB "bool" "tuple" = some false ∧ kitB "int" "tuple" = some false ∧ kitB "str" "tuple" = some false ∧ kitB "list" "tuple" = some false ∧ kitB "tuple" "tuple" = some true ∧ kitB "list" "tuple" = some false := by decide +kernel
theorem kit_tup (d : D) (h : d.flatK = true) : kitB d.kind "tuple" = some d.isTup := by
  obtain ⟨h1, h2, h3, h4, h5, h6, h7⟩ := kit0_tup
  cases d with
  | non => exact h1
  | bl _ => exact h2
  | int _ => exact h3
  | str _ => exact h4
  | lst _ => exact h5
  | tup _ => exact h6
  | scr _ => exact h7
  | ref _ => cases h
  | ty _ => cases h
theorem kit0_int : kitB "NoneType" "int" = some false ∧ kitB "bool" "int" = some true ∧ kitB "int" "int" = some true ∧ kitB "str" "int" = some false ∧ kitB "list" "int" = some false ∧ kitB "tuple" "int" = some false ∧ kitB "list" "int" = some false := by decide +kernel
theorem kit_int (d : D) (h : d.flatK = true) : kitB d.kind "int" = some d.isInt := by
  obtain ⟨h1, h2, h3, h4, h5, h6, h7⟩ := kit0_int
  cases d with
  | non => exact h1
  | bl _ => exact h2
  | int _ => exact h3
  | str _ => exact h4
  | lst _ => exact h5
  | tup _ => exact h6
  | scr _ => exact h7
  | ref _ => cases h
  | ty _ => cases h
theorem kit0_bool : kitB "NoneType" "bool" = some false ∧ kitB "bool" "bool" = some true ∧ kitB "int" "bool" = some false ∧ kitB "str" "bool" = some false ∧ kitB "list" "bool" = some false ∧ kitB "tuple" "bool" = some false ∧ kitB "list" "bool" = some false := by decide +kernel
theorem kit_bool (d : D) (h : d.flatK = true) : kitB d.kind "bool" = some d.isBool := by
  obtain ⟨h1, h2, h3, h4, h5, h6, h7⟩ := kit0_bool
  cases d with
  | non => exact h1
  | bl _ => exact h2
  | int _ => exact h3
  | str _ => exact h4
  | lst _ => exact h5
  | tup _ => exact h6
  | scr _ => exact h7
  | ref _ => cases h
  | ty _ => cases h
theorem kit0_lst : kitB "NoneType" "list" = some false ∧ kitB "bool" "list" = some false ∧ kitB "int" "list" = some false ∧ kitB "str" "list" = some false ∧ kitB "list" "list" = some true ∧ kitB "tuple" "list" = some false ∧ kitB "list" "list" = some true := by decide +kernel
theorem kit_lst (d : D) (h : d.flatK = true) : kitB d.kind "list" = some d.isLst := by
  obtain ⟨h1, h2, h3, h4, h5, h6, h7⟩ := kit0_lst
  cases d with
  | non => exact h1
  | bl _ => exact h2
  | int _ => exact h3
  | str _ => exact h4
  | lst _ => exact h5
  | tup _ => exact h6
  | scr _ => exact h7
  | ref _ => cases h
  | ty _ => cases h
theorem kit0_str : kitB "NoneType" "str" = some false ∧ kitB "bool" "str" = some false ∧ kitB "int" "str" = some false ∧ kitB "str" "str" = some true ∧ kitB "list" "str" = some false ∧ kitB "tuple" "str" = some false ∧ kitB "list" "str" = some false := by decide +kernel
theorem kit_str (d : D) (h : d.flatK = true) : kitB d.kind "str" = some d.isStr := by
  obtain ⟨h1, h2, h3, h4, h5, h6, h7⟩ := kit0_str
  cases d with
  | non => exact h1
  | bl _ => exact h2
  | int _ => exact h3
  | str _ => exact h4
  | lst _ => exact h5
  | tup _ => exact h6
  | scr _ => exact h7
  | ref _ => cases h
  | ty _ => cases h
theorem boot_boolT : bootBuiltins "bool" = some (.type "bool") := by decide +kernel
theorem boot_strT : bootBuiltins "str" = some (.type "str") := by decide +kernel
variable {T : Str} {U : String} {k : Bool}
theorem je_isTup (ha : JE C ls a d) (hf : d.flatK = true := by rfl) (hnT : NoG C "tuple" := by assumption) (hn : NoG C "isinstance" := by assumption) (hg : ∀ j, Gl (C.X j) "isinstance" := by intro _; rfl) (hgT : ∀ j, Gl (C.X j) "tuple" := by intro _; rfl) (hs : NS a := by intro _ _; rfl) :
    JE C ls (.Call (.Name "isinstance" p1) [a, .Name "tuple" p2] [] pos) (.bl d.isTup) := je_isi ha hf (kit_tup d hf) boot_tuple hnT hn hg hgT hs
theorem je_isInt (ha : JE C ls a d) (hf : d.flatK = true := by rfl) (hnT : NoG C "int" := by assumption) (hn : NoG C "isinstance" := by assumption) (hg : ∀ j, Gl (C.X j) "isinstance" := by intro _; rfl) (hgT : ∀ j, Gl (C.X j) "int" := by intro _; rfl) (hs : NS a := by intro _ _; rfl) :
    JE C ls (.Call (.Name "isinstance" p1) [a, .Name "int" p2] [] pos) (.bl d.isInt) := je_isi ha hf (kit_int d hf) boot_int hnT hn hg hgT hs
theorem je_isBool (ha : JE C ls a d) (hf : d.flatK = true := by rfl) (hnT : NoG C "bool" := by assumption) (hn : NoG C "isinstance" := by assumption) (hg : ∀ j, Gl (C.X j) "isinstance" := by intro _; rfl) (hgT : ∀ j, Gl (C.X j) "bool" := by intro _; rfl) (hs : NS a := by intro _ _; rfl) :
    JE C ls (.Call (.Name "isinstance" p1) [a, .Name "bool" p2] [] pos) (.bl d.isBool) := je_isi ha hf (kit_bool d hf) boot_boolT hnT hn hg hgT hs
theorem je_isLst (ha : JE C ls a d) (hf : d.flatK = true := by rfl) (hnT : NoG C "list" := by assumption) (hn : NoG C "isinstance" := by assumption) (hg : ∀ j, Gl (C.X j) "isinstance" := by intro _; rfl) (hgT : ∀ j, Gl (C.X j) "list" := by intro _; rfl) (hs : NS a := by intro _ _; rfl) :
    JE C ls (.Call (.Name "isinstance" p1) [a, .Name "list" p2] [] pos) (.bl d.isLst) := je_isi ha hf (kit_lst d hf) boot_list hnT hn hg hgT hs
theorem je_isStr (ha : JE C ls a d) (hf : d.flatK = true := by rfl) (hnT : NoG C "str" := by assumption) (hn : NoG C "isinstance" := by assumption) (hg : ∀ j, Gl (C.X j) "isinstance" := by intro _; rfl) (hgT : ∀ j, Gl (C.X j) "str" := by intro _; rfl) (hs : NS a := by intro _ _; rfl) :
    JE C ls (.Call (.Name "isinstance" p1) [a, .Name "str" p2] [] pos) (.bl d.isStr) := je_isi ha hf (kit_str d hf) boot_strT hnT hn hg hgT hs
end
end Qp

/-! Q4: statements, loops. -/
namespace Qp
open PySem PySem.Spec PyProof.Rows L2
structure Post where
  nx : List Loc → Prop
  rt : D → Prop
  bk : List Loc → Prop := fun _ => False
  ct : List Loc → Prop := fun _ => False
/-- what stands ahead of all is kept -/
def Kp (F : Addr → Prop) (H H' : Hp) : Prop := (∀ a, F a → H' a = H a) ∧ ∀ a ps, H a = some (.tbl ps) → Gr (.tbl ps) (H' a)
theorem Kp.refl {F : Addr → Prop} {H : Hp} : Kp F H H := ⟨fun _ _ => rfl, fun _ _ h => .of h⟩
theorem Kp.trans {F : Addr → Prop} {H H1 H2 : Hp} (a : Kp F H H1) (b : Kp F H1 H2) : Kp F H H2 := ⟨fun x h => (b.1 x h).trans (a.1 x h), fun x ps h => by
  obtain ⟨m1, e1, t1⟩ := a.2 x ps h
  obtain ⟨m2, e2, t2⟩ := b.2 x _ e1
  exact ⟨m1 ++ m2, by rw [e2, Array.append_assoc], fun z => by rw [← Array.append_assoc]; exact t2 (t1 z)⟩⟩
/-- a thing that is no table, and not among F, is put -/
theorem Kp.put {F : Addr → Prop} {H H' : Hp} {p : Addr} {o : HO} (k : Kp F H H') (nt : NT H' p) (nf : ¬ F p) : Kp F H (upd H' p o) := ⟨fun a fa => by
  have ne : a ≠ p := fun z => nf (z ▸ fa)
  rw [upd_ne ne]
  exact k.1 a fa, fun a ps h => by
  obtain ⟨m, e, t⟩ := k.2 a ps h
  have ne : a ≠ p := fun z => by
    obtain ⟨u, e1, n⟩ := nt
    rw [z, e1] at e
    exact n _ (Option.some.inj e)
  exact ⟨m, by rw [upd_ne ne]; exact e, t⟩⟩
theorem Sat.kp {K : Fg} {F : Addr → Prop} {G H H' : Hp} {σ : L2.St} {ls : List Loc} (S : Sat K F G H σ ls) (e : Ex H H') : Kp F H H' := ⟨fun a fa => ex_eq e (S.fo a fa).2, fun a _ h => e a _ h⟩
structure Fol (K : Fg) (E : Xw) (F : Addr → Prop) (G H : Hp) (D' : Ends) (P : Post) : Prop where
  nx : ∀ G' H' σ' ls', Ex G G' → Kp F H H' → Sat K F G' H' σ' ls' → P.nx ls' → D'.nx σ' H'
  rt : ∀ G' H' v d, Ex G G' → Kp F H H' → (∀ a, F a → G' a = none) → Ex G' H' → Dq K G' v d → P.rt d → D'.rt v H'
  bk : ∀ G' H' σ' ls', Ex G G' → Kp F H H' → Sat K F G' H' σ' ls' → P.bk ls' → D'.bk σ' H'
  ct : ∀ G' H' σ' ls', Ex G G' → Kp F H H' → Sat K F G' H' σ' ls' → P.ct ls' → D'.ct σ' H'
  tb : ∀ P, E.T P → TabAt G P
  dx : ∀ p ∈ E.dx, XdAt K G p.1 p.2
  ex : ∀ G' H' σ' ls' C dd fs gs, Ex G G' → Kp F H H' → Sat K F G' H' σ' ls' → G' dd = some (.xd fs) → FsOk K G' fs gs → E.xp ls' C gs → E.W (.ref C) (some dd) σ' H'
theorem Fol.step {K : Fg} {E : Xw} {F : Addr → Prop} {G H G1 H1 : Hp} {D' : Ends} {P : Post} (f : Fol K E F G H D' P) (eg : Ex G G1) (k : Kp F H H1) : Fol K E F G1 H1 D' P :=
  ⟨fun G' H' σ' ls' e k' => f.nx G' H' σ' ls' (eg.trans e) (k.trans k'), fun G' H' v d e k' => f.rt G' H' v d (eg.trans e) (k.trans k'), fun G' H' σ' ls' e k' => f.bk G' H' σ' ls' (eg.trans e) (k.trans k'), fun G' H' σ' ls' e k' => f.ct G' H' σ' ls' (eg.trans e) (k.trans k'), fun P h => (f.tb P h).mono eg, fun p h => (f.dx p h).mono eg, fun G' H' σ' ls' C dd fs gs e k' => f.ex G' H' σ' ls' C dd fs gs (eg.trans e) (k.trans k')⟩
theorem Fol.xok {K : Fg} {E : Xw} {F : Addr → Prop} {G H : Hp} {σ : L2.St} {ls : List Loc} {D' : Ends} {P : Post} (f : Fol K E F G H D' P) (S : Sat K F G H σ ls) : Xok K E F G H σ ls := ⟨f.tb, f.dx, fun G' H' C dd fs gs eg eh S' => f.ex G' H' σ ls C dd fs gs eg (S.kp eh) S'⟩
def Hs (K : Fg) (E : Xw) (t : TS) (ls : List Loc) (P : Post) : Prop := ∀ F G H σ D', Sat K F G H σ ls → Fol K E F G H D' P → t D' σ H
def sAny (C : Cs) (s : Stmt) : TS := fun D' σ H => ∃ t : TS, (∀ i, PS (C.X i) s t) ∧ t D' σ H
theorem ps_any (C : Cs) (s : Stmt) (i : C.ι) : PS (C.X i) s (sAny C s) := ⟨fun pins st σ H D' I h => by
  obtain ⟨t, ht, q⟩ := h
  exact (ht i).run pins st σ H D' I q⟩
def bAny (C : Cs) (s : List Stmt) : TS := fun D' σ H => ∃ t : TS, (∀ i, PSs (C.X i) s t) ∧ t D' σ H
theorem pb_any (C : Cs) (s : List Stmt) (i : C.ι) : PSs (C.X i) s (bAny C s) := ⟨fun pins st σ H D' I h => by
  obtain ⟨t, ht, q⟩ := h
  exact (ht i).run pins st σ H D' I q⟩
def JS (C : Cs) (ls : List Loc) (s : Stmt) (P : Post) : Prop := Hs C.K C.E (sAny C s) ls P
def JB (C : Cs) (ls : List Loc) (s : List Stmt) (P : Post) : Prop := Hs C.K C.E (bAny C s) ls P
section
variable {C : Cs} {ls : List Loc} {s : Stmt} {rest b1 b2 body : List Stmt} {P : Post} {e a c : Expr} {d : D} {ds : List D} {pos pos' : Pos}
theorem js_of {t : TS} (h : ∀ i, PS (C.X i) s t) (ev : Hs C.K C.E t ls P) : JS C ls s P := fun F G H σ D' S f => ⟨t, h, ev F G H σ D' S f⟩
theorem jb_of {t : TS} (h : ∀ i, PSs (C.X i) body t) (ev : Hs C.K C.E t ls P) : JB C ls body P := fun F G H σ D' S f => ⟨t, h, ev F G H σ D' S f⟩
theorem jb_nil (h : P.nx ls) : JB C ls [] P := jb_of (fun _ => pss_nil) fun F G H σ D' S f => f.nx G H σ ls (Ex.refl G) Kp.refl S h
theorem jb_cons (R : List Loc → Prop) (h : JS C ls s { P with nx := R }) (k : ∀ ls', R ls' → JB C ls' rest P) : JB C ls (s :: rest) P :=
  jb_of (fun j => pss_cons (ps_any C s j) (pb_any C rest j)) fun F G H σ D' S f => h F G H σ _ S ⟨fun G' H' σ' ls' eg kp S' r => k ls' r F G' H' σ' D' S' (f.step eg kp), f.rt, f.bk, f.ct, f.tb, f.dx, f.ex⟩
theorem jb_one (h : JS C ls s P) : JB C ls [s] P := jb_of (fun j => pss_one (ps_any C s j)) h
/-- forget, weaken -/
theorem jb_post {P' : Post} (h : JB C ls body P') (h1 : ∀ l, P'.nx l → P.nx l) (h2 : ∀ d, P'.rt d → P.rt d) (h3 : ∀ l, P'.bk l → P.bk l) (h4 : ∀ l, P'.ct l → P.ct l) : JB C ls body P := fun F G H σ D' S f =>
  h F G H σ D' S ⟨fun G' H' σ' ls' eg kp S' r => f.nx G' H' σ' ls' eg kp S' (h1 _ r), fun G' H' v d eg kp fg e hv r => f.rt G' H' v d eg kp fg e hv (h2 _ r), fun G' H' σ' ls' eg kp S' r => f.bk G' H' σ' ls' eg kp S' (h3 _ r), fun G' H' σ' ls' eg kp S' r => f.ct G' H' σ' ls' eg kp S' (h4 _ r), f.tb, f.dx, f.ex⟩
/-! stores -/
abbrev StoreOk (C : Cs) (i : Nat) (x : Str) : Prop := C.N[i]? = some x ∧ ∀ j, L2.Loc (C.X j).env.scope x ∧ ((C.X j).fn x = true ∨ (C.X j).env.scope.names.lookup x = some .local)
theorem js_set (i : Nat) {x : Str} (he : JE C ls e d) (hn : P.nx (ls.set i (.val d))) (hi : C.N[i]? = some x := by rfl) (hx : ∀ j, L2.Loc (C.X j).env.scope x := by intro _; first | exact .inl rfl | exact .inr rfl)
    (hs : ∀ j, swapsWith e (some (.Name x pos')) pos.line (C.X j).env = pure false := by intro _; rfl) (hf : ∀ j, (C.X j).fn x = true ∨ (C.X j).env.scope.names.lookup x = some .local := by intro _; first | exact .inl rfl | exact .inr rfl) : JS C ls (.Assign [.Name x pos'] e pos) P :=
  js_of (fun j => ps_set (i := i) (by rw [C.hN]; exact C.nd) (by rw [C.hN]; exact hi) (hx j) (pe_any C e j) (hs j) (hf j)) fun F G H σ D' S f => he F G H σ S (f.xok S) _ fun v G' H' eg eh S' hv => f.nx G' H' _ _ eg (S.kp eh) (S'.setV hv) hn
theorem jb_set (i : Nat) {x : Str} (he : JE C ls e d) (k : JB C (ls.set i (.val d)) rest P) (hi : C.N[i]? = some x := by rfl) (hx : ∀ j, L2.Loc (C.X j).env.scope x := by intro _; first | exact .inl rfl | exact .inr rfl)
    (hs : ∀ j, swapsWith e (some (.Name x pos')) pos.line (C.X j).env = pure false := by intro _; rfl) (hf : ∀ j, (C.X j).fn x = true ∨ (C.X j).env.scope.names.lookup x = some .local := by intro _; first | exact .inl rfl | exact .inr rfl) : JB C ls (.Assign [.Name x pos'] e pos :: rest) P :=
  jb_cons (fun l => l = ls.set i (.val d)) (js_set i he rfl hi hx hs hf) fun _ h => h ▸ k
theorem js_setN (i : Nat) {x : Str} (he : JN C ls e ds) (hn : P.nx (ls.set i (.own ds))) (hi : C.N[i]? = some x := by rfl) (hx : ∀ j, L2.Loc (C.X j).env.scope x := by intro _; first | exact .inl rfl | exact .inr rfl)
    (hs : ∀ j, swapsWith e (some (.Name x pos')) pos.line (C.X j).env = pure false := by intro _; rfl) (hf : ∀ j, (C.X j).fn x = true ∨ (C.X j).env.scope.names.lookup x = some .local := by intro _; first | exact .inl rfl | exact .inr rfl) : JS C ls (.Assign [.Name x pos'] e pos) P :=
  js_of (fun j => ps_set (i := i) (by rw [C.hN]; exact C.nd) (by rw [C.hN]; exact hi) (hx j) (pe_any C e j) (hs j) (hf j)) fun F G H σ D' S f => he F G H σ S (f.xok S) _ fun p vs G' H' eg eh nf S' hp hv => f.nx G' H' _ _ eg (S.kp eh) (S'.setN nf hp hv) hn
theorem jb_setN (i : Nat) {x : Str} (he : JN C ls e ds) (k : JB C (ls.set i (.own ds)) rest P) (hi : C.N[i]? = some x := by rfl) (hx : ∀ j, L2.Loc (C.X j).env.scope x := by intro _; first | exact .inl rfl | exact .inr rfl)
    (hs : ∀ j, swapsWith e (some (.Name x pos')) pos.line (C.X j).env = pure false := by intro _; rfl) (hf : ∀ j, (C.X j).fn x = true ∨ (C.X j).env.scope.names.lookup x = some .local := by intro _; first | exact .inl rfl | exact .inr rfl) : JB C ls (.Assign [.Name x pos'] e pos :: rest) P :=
  jb_cons (fun l => l = ls.set i (.own ds)) (js_setN i he rfl hi hx hs hf) fun _ h => h ▸ k
/-! return -/
theorem js_ret (he : JE C ls e d) (h : P.rt d) : JS C ls (.Return (some e) pos) P := js_of (fun j => ps_ret (pe_any C e j)) fun F G H σ D' S f => he F G H σ S (f.xok S) _ fun v G' H' eg eh S' hv => f.rt G' H' v d eg (S.kp eh) (fun a fa => (S'.fo a fa).1) S'.ex hv h
theorem jb_ret (he : JE C ls e d) (h : P.rt d) : JB C ls (.Return (some e) pos :: rest) P := jb_cons (fun _ => False) (js_ret he h) fun _ h => h.elim
theorem js_retN (h : P.rt .non) : JS C ls (.Return none pos) P := js_of (fun j => ps_retN) fun F G H σ D' S f => f.rt G H _ _ (Ex.refl G) Kp.refl (fun a fa => (S.fo a fa).1) S.ex .non h
/-- an own list from here on as frozen -/
theorem jb_thaw (i : Nat) (hl : ls[i]? = some (.own ds)) (k : JB C (ls.set i (.val (.lst ds))) body P) : JB C ls body P := fun F G H σ D' S f => by
  obtain ⟨G', eg, fg, S'⟩ := S.thaw hl
  exact k F G' H σ D' S' (f.step eg Kp.refl)
theorem jb_forget (i : Nat) (k : JB C (ls.set i .any) body P) : JB C ls body P := fun F G H σ D' S f => by
  have S' := S.forget (i := i) (σ.getD i none)
  have e : σ.set i (σ.getD i none) = σ := by
    apply List.ext_getElem?
    intro j
    by_cases hj : i = j
    · subst hj
      by_cases hi : i < σ.length
      · rw [List.getElem?_set_self hi, List.getD_eq_getElem?_getD, List.getElem?_eq_getElem hi]; rfl
      · rw [List.getElem?_eq_none (by simpa using hi), List.getElem?_eq_none (by omega)]
    · rw [List.getElem?_set_ne hj]
  rw [e] at S'
  exact k F G H σ D' S' f
/-- a block's end, some slots forgotten -/
def anys (ls : List Loc) (fs : List Nat) : List Loc := fs.foldl (fun l i => l.set i .any) ls
theorem jb_end (fs : List Nat) (h : P.nx (anys ls fs)) : JB C ls [] P := by
  induction fs generalizing ls with
  | nil => exact jb_nil h
  | cons i r ih => exact jb_forget i (ih h)
/-! if -/
theorem js_if {k : Bool} (hc : JT C ls c k) (h1 : k = true → JB C ls b1 P) (h2 : k = false → JB C ls b2 P) : JS C ls (.If c b1 b2 pos) P :=
  js_of (fun j => ps_if (pt_any C c j) (pb_any C b1 j) (pb_any C b2 j)) fun F G H σ D' S f => hc F G H σ S (f.xok S) _ fun G' H' eg eh S' => by
    cases k with
    | true => rw [if_pos rfl]; exact h1 rfl F G' H' σ D' S' (f.step eg (S.kp eh))
    | false => rw [if_neg Bool.false_ne_true]; exact h2 rfl F G' H' σ D' S' (f.step eg (S.kp eh))
/-- if c: .. (leaves by a return), then the rest -/
theorem jb_if {k : Bool} (R : List Loc → Prop) (hc : JT C ls c k) (h1 : k = true → JB C ls b1 { P with nx := R }) (h2 : k = false → JB C ls b2 { P with nx := R }) (h : ∀ ls', R ls' → JB C ls' rest P) : JB C ls (.If c b1 b2 pos :: rest) P :=
  jb_cons R (js_if hc h1 h2) h
/-- if c: .. that never goes on, then the rest with ¬ c -/
theorem jb_ifx {k : Bool} (hc : JT C ls c k) (h1 : k = true → JB C ls b1 { P with nx := fun _ => False }) (h : k = false → JB C ls rest P) : JB C ls (.If c b1 [] pos :: rest) P :=
  jb_cons (fun l => k = false ∧ l = ls) (js_if hc (fun hk => jb_post (h1 hk) (fun _ z => False.elim z) (fun _ z => z) (fun _ z => z) (fun _ z => z)) fun hk => jb_nil ⟨hk, rfl⟩) fun l hl => by
    obtain ⟨hk, rfl⟩ := hl
    exact h hk
/-! append -/
theorem js_app (i : Nat) {x : Str} (he : JE C ls e d) (hl : ls[i]? = some (.own ds)) (hn : P.nx (ls.set i (.own (ds ++ [d])))) (hz : ds.length < 1000000 := by first | decide | omega | assumption) (hi : C.N[i]? = some x := by rfl)
    (hv : ∀ j, Vis (C.X j).env.scope x := by intro _; first | exact Or.inl rfl | exact Or.inr (Or.inl rfl) | exact Or.inr (Or.inr rfl)) (hs : NS e := by intro _ _; rfl) {p1 p2 p3 : Pos}
    (hd : (x == ("__debug__" : Str)) = false := by decide) (hcd : (x == ("__classdict__" : Str)) = false := by decide) (hsw : ∀ j, swapsWith (.Call (.Attribute (.Name x p1) "append" p2) [e] [] p3) none pos.line (C.X j).env = pure false := by intro _; rfl)
    (hb : ∀ j, PE (C.X j) (.Call (.Attribute (.Name x p1) "append" p2) [e] [] p3) (tBM C.K "list" rAppend (tVar i) (tCons (eAny C e) tNil)) := by intro j; exact pe_bm PySem.F.plainAttrs_list PySem.F.slot_list_append PySem.F.type_list_append mt_append (pv _) (pa_cons (pe_any _ _ j) pa_nil)) :
    JS C ls (.Expr (.Call (.Attribute (.Name x p1) "append" p2) [e] [] p3) pos) P :=
  js_of (fun j => ps_expr (hb j) (hsw j)) fun F G H σ D' S f => by
    obtain ⟨p, vs, ep, hp, hv, gp, nf⟩ := S.ownAt hl
    refine ⟨.ref p, ep, Or.inl ⟨rfl, vs, SqL.of hp⟩, he F G H σ S (f.xok S) _ fun v G' H' eg eh S' hv' => ?_⟩
    have hp' := eh _ _ hp
    refine ⟨p, vs, v, rfl, rfl, hp', ?_, ?_⟩
    · rw [hv.length]
      exact Nat.lt_of_lt_of_le hz (by decide)
    · exact f.nx G' _ σ _ eg ((S.kp eh).put (nt_lst hp') nf) (S'.mut hl ep ((dqAll_mono eg hv).append (.cons hv' .nil))) hn
theorem jb_app (i : Nat) {x : Str} (he : JE C ls e d) (hl : ls[i]? = some (.own ds)) (k : JB C (ls.set i (.own (ds ++ [d]))) rest P) (hz : ds.length < 1000000 := by first | decide | omega | assumption) (hi : C.N[i]? = some x := by rfl)
    (hv : ∀ j, Vis (C.X j).env.scope x := by intro _; first | exact Or.inl rfl | exact Or.inr (Or.inl rfl) | exact Or.inr (Or.inr rfl)) (hs : NS e := by intro _ _; rfl) {p1 p2 p3 : Pos}
    (hd : (x == ("__debug__" : Str)) = false := by decide) (hcd : (x == ("__classdict__" : Str)) = false := by decide) (hsw : ∀ j, swapsWith (.Call (.Attribute (.Name x p1) "append" p2) [e] [] p3) none pos.line (C.X j).env = pure false := by intro _; rfl)
    (hb : ∀ j, PE (C.X j) (.Call (.Attribute (.Name x p1) "append" p2) [e] [] p3) (tBM C.K "list" rAppend (tVar i) (tCons (eAny C e) tNil)) := by intro j; exact pe_bm PySem.F.plainAttrs_list PySem.F.slot_list_append PySem.F.type_list_append mt_append (pv _) (pa_cons (pe_any _ _ j) pa_nil)) :
    JB C ls (.Expr (.Call (.Attribute (.Name x p1) "append" p2) [e] [] p3) pos :: rest) P :=
  jb_cons (fun l => l = ls.set i (.own (ds ++ [d]))) (js_app i he hl rfl hz hi hv hs hd hcd hsw hb) fun _ h => h ▸ k
theorem js_ifx {k : Bool} (hc : JT C ls c k) (h1 : k = true → JB C ls b1 P) (h2 : k = false → P.nx ls) : JS C ls (.If c b1 [] pos) P := js_if hc h1 fun h => jb_nil (h2 h)
/-! loops -/
/-- a for over anything: Pv by the turn and the slots; c: what the iterable turned out to be -/
theorem hs_forX {κ : Type} {wi : TI} {g : TG} {tb : TS} (Pv : κ → Nat → List Loc → Prop) (n : κ → Nat) (J : κ → Hp → It → Prop)
    (hw : ∀ F G H σ, Sat C.K F G H σ ls → Xok C.K C.E F G H σ ls → ∀ R : It → Hp → Prop, (∀ c Jt G' H', Ex G G' → Ex H H' → Sat C.K F G' H' σ ls → J c G' Jt → R Jt H') → wi σ H R) (h0 : ∀ c G Jt, J c G Jt → Pv c 0 ls)
    (hstop : ∀ c G Jt H, J c G Jt → Ex G H → Jt.stop (n c) H) (hgo : ∀ c G Jt H i, J c G Jt → Ex G H → i < n c → Jt.go i H)
    (hs : ∀ c F G G0 H σ ls' i x Jt H1, J c G0 Jt → Ex G0 G → i < n c → Sat C.K F G H σ ls' → Pv c i ls' → Jt.yld i H x H1 → ∀ D' : Ends, Fol C.K C.E F G H D' { nx := Pv c (i + 1), rt := P.rt, bk := P.nx, ct := Pv c (i + 1) } → g x σ H1 fun σ2 H2 => tb D' σ2 H2)
    (hd : ∀ c G Jt ls', J c G Jt → Pv c (n c) ls' → P.nx ls') : Hs C.K C.E (tFor wi g tb) ls P := fun F G H σ D' S f => hw F G H σ S (f.xok S) _ fun c Jt G1 H1 eg1 eh1 S1 hJ => by
  have f1 := f.step eg1 (S.kp eh1)
  refine ⟨fun i m σ' H' => m = n c - i ∧ i ≤ n c ∧ ∃ G' ls', Ex G1 G' ∧ Kp F H1 H' ∧ Sat C.K F G' H' σ' ls' ∧ Pv c i ls', ⟨n c, by simp, Nat.zero_le _, G1, ls, Ex.refl _, Kp.refl, S1, h0 c G1 Jt hJ⟩, ?_⟩
  rintro i m σ' H' ⟨rfl, hi, G', ls', eg', kp', S', p⟩
  by_cases hlt : i < n c
  · refine .inr ⟨hgo c G1 Jt H' i hJ (eg'.trans S'.ex) hlt, fun σ2 H2 => ∃ G2 ls2, Ex G1 G2 ∧ Kp F H1 H2 ∧ Sat C.K F G2 H2 σ2 ls2 ∧ Pv c (i + 1) ls2, fun σ2 H2 h => ⟨n c - (i + 1), by omega, rfl, hlt, h⟩, fun x H2 y => ?_⟩
    refine hs c F G' G1 H' σ' ls' i x Jt H2 hJ eg' hlt S' p y _ ⟨fun G3 H3 σ3 ls3 eg3 kp3 S3 r => ⟨G3, ls3, eg'.trans eg3, kp'.trans kp3, S3, r⟩, fun G3 H3 v d eg3 kp3 fg e3 hv r => f1.rt G3 H3 v d (eg'.trans eg3) (kp'.trans kp3) fg e3 hv r, fun G3 H3 σ3 ls3 eg3 kp3 S3 r => f1.nx G3 H3 σ3 ls3 (eg'.trans eg3) (kp'.trans kp3) S3 r, fun G3 H3 σ3 ls3 eg3 kp3 S3 r => ⟨G3, ls3, eg'.trans eg3, kp'.trans kp3, S3, r⟩, fun P h => (f1.tb P h).mono eg', fun p h => (f1.dx p h).mono eg', fun G3 H3 σ3 ls3 C dd fs gs eg3 kp3 => f1.ex G3 H3 σ3 ls3 C dd fs gs (eg'.trans eg3) (kp'.trans kp3)⟩
  · have e : i = n c := by omega
    subst e
    exact .inl ⟨hstop c G1 Jt H' hJ (eg'.trans S'.ex), f1.nx G' H' σ' ls' eg' kp' S' (hd c G1 Jt ls' hJ p)⟩
theorem hs_for {wi : TI} {g : TG} {tb : TS} (Pv : Nat → List Loc → Prop) (n : Nat) (J : Hp → It → Prop)
    (hw : ∀ F G H σ, Sat C.K F G H σ ls → Xok C.K C.E F G H σ ls → ∀ R : It → Hp → Prop, (∀ Jt G' H', Ex G G' → Ex H H' → Sat C.K F G' H' σ ls → J G' Jt → R Jt H') → wi σ H R) (h0 : Pv 0 ls)
    (hstop : ∀ G Jt H, J G Jt → Ex G H → Jt.stop n H) (hgo : ∀ G Jt H i, J G Jt → Ex G H → i < n → Jt.go i H)
    (hs : ∀ F G G0 H σ ls' i x Jt H1, J G0 Jt → Ex G0 G → i < n → Sat C.K F G H σ ls' → Pv i ls' → Jt.yld i H x H1 → ∀ D' : Ends, Fol C.K C.E F G H D' { nx := Pv (i + 1), rt := P.rt, bk := P.nx, ct := Pv (i + 1) } → g x σ H1 fun σ2 H2 => tb D' σ2 H2)
    (hd : ∀ ls', Pv n ls' → P.nx ls') : Hs C.K C.E (tFor wi g tb) ls P :=
  hs_forX (κ := Unit) (fun _ => Pv) (fun _ => n) (fun _ => J) (fun F G H σ S xx R q => hw F G H σ S xx R fun Jt G' H' => q () Jt G' H') (fun _ _ _ _ => h0) (fun _ => hstop) (fun _ => hgo) (fun _ => hs) fun _ _ _ ls' _ => hd ls'
theorem range' {C : Cs} (j : C.ι) {tg a : Expr} {p pos : Pos} (hg : Gl (C.X j) "range") (hm : NoG C "range") (hs : NS a) : PI (C.X j) tg (.Call (.Name "range" p) [a] [] pos) (iRng1 (tCons (eAny C a) tNil)) := pi_range1 hg (noG hm j) (pa_cons (pe_any C a j) pa_nil (hs _ _)) (hs _ _)
/-- for x in range(e) -/
theorem js_forR [Cold C] {n : Int} {x : Str} {p1 p2 p3 : Pos} (j : Nat) (Pv : Nat → List Loc → Prop) (he : JE C ls e (.int n)) (hn : n < 2 ^ 61) (h0 : Pv 0 ls) (hb : ∀ (i : Nat) ls', i < n.toNat → Pv i ls' → JB C (ls'.set j (.val (.int i))) body { nx := Pv (i + 1), rt := P.rt, bk := P.nx, ct := Pv (i + 1) })
    (hd : ∀ ls', Pv n.toNat ls' → P.nx ls') (hm : NoG C "range" := by assumption) (hg : ∀ j, Gl (C.X j) "range" := by intro _; rfl) (hs : NS e := by intro _ _; rfl) (hi : C.N[j]? = some x := by rfl) (hx : ∀ i, L2.Loc (C.X i).env.scope x := by intro _; first | exact .inl rfl | exact .inr rfl)
    (hf : ∀ i, (C.X i).fn x = true ∨ (C.X i).env.scope.names.lookup x = some .local := by intro _; first | exact .inl rfl | exact .inr rfl) (hp : ∀ i, PassesOwn (model (C.X i).prog (C.X i).w) (C.X i).A (C.X i).env (C.X i).xe := by intro q; first | exact PassesOwn.never | exact passes_of rfl | exact q.owns) (hfs : ∀ i x, foldedSetIterable (.Call (.Name "range" p1) [e] [] p2) (C.X i).env x = pure x := by intro _ _; rfl)
    (h62 : -(2 ^ 62) ≤ n := by omega) : JS C ls (.For (.Name x p3) (.Call (.Name "range" p1) [e] [] p2) body [] pos) P :=
  js_of (fun i => ps_for (hp i) (C.calm i Cold.h) (range' i (hg i) hm hs) (pg_name (i := j) (by rw [C.hN]; exact C.nd) (by rw [C.hN]; exact hi) (hx i) (hf i)) (pb_any C body i) (hfs i))
    (hs_for Pv n.toNat (fun _ Jt => Jt = Itr 0 n.toNat)
      (fun F G H σ S xx R q => he F G H σ S xx _ fun v G' H' eg eh S' hv => ⟨n, by rw [dq_int hv], h62, by omega, q _ G' H' eg eh S' rfl⟩) h0
      (fun G Jt H hJ e => by subst hJ; exact Nat.le_refl _) (fun G Jt H i hJ e hi => by subst hJ; exact hi)
      (fun F G G0 H σ ls' i x Jt H1 hJ eg hi S p y D' f => by
        subst hJ
        obtain ⟨rfl, rfl⟩ := y
        have e0 : (0 : Int) + (i : Int) = (i : Int) := Int.zero_add _
        rw [e0]
        exact hb i ls' hi p F G H1 _ D' (S.setV (.int _)) f) hd)
/-- for x in a frozen list; in a tuple -/
theorem js_forL [Cold C] {x : Str} {p3 : Pos} (j : Nat) (Pv : Nat → List Loc → Prop) (he : JE C ls e (.lst ds)) (h0 : Pv 0 ls) (hb : ∀ (i : Nat) d ls', ds[i]? = some d → Pv i ls' → JB C (ls'.set j (.val d)) body { nx := Pv (i + 1), rt := P.rt, bk := P.nx, ct := Pv (i + 1) })
    (hd : ∀ ls', Pv ds.length ls' → P.nx ls') (hi : C.N[j]? = some x := by rfl) (hx : ∀ i, L2.Loc (C.X i).env.scope x := by intro _; first | exact .inl rfl | exact .inr rfl)
    (hf : ∀ i, (C.X i).fn x = true ∨ (C.X i).env.scope.names.lookup x = some .local := by intro _; first | exact .inl rfl | exact .inr rfl) (hp : ∀ i, PassesOwn (model (C.X i).prog (C.X i).w) (C.X i).A (C.X i).env (C.X i).xe := by intro q; first | exact PassesOwn.never | exact passes_of rfl | exact q.owns) (hfs : ∀ i x, foldedSetIterable e (C.X i).env x = pure x := by intro _ _; rfl) : JS C ls (.For (.Name x p3) e body [] pos) P :=
  js_of (t := tFor (iList C.K (eAny C e)) (gName j) (bAny C body)) (fun i => ps_for (hp i) (C.calm i Cold.h) (kx (p := fun K => PI (C.X i) _ e (iList K (eAny C e))) i (pi_list (pe_any C e i))) (pg_name (i := j) (by rw [C.hN]; exact C.nd) (by rw [C.hN]; exact hi) (hx i) (hf i)) (pb_any C body i) (hfs i))
    (hs_for Pv ds.length (fun G Jt => ∃ a vs, Jt = Itl C.K a ∧ G a = some (.lst vs) ∧ DqAll C.K G vs ds)
      (fun F G H σ S xx R q => he F G H σ S xx _ fun v G' H' eg eh S' hv => by
        obtain ⟨a, vs, rfl, ha, hd⟩ := dq_lst hv
        exact ⟨a, rfl, ⟨vs, SqL.of (S'.ex _ _ ha)⟩, q _ G' H' eg eh S' ⟨a, vs, rfl, ha, hd⟩⟩) h0
      (fun G Jt H hJ e => by
        obtain ⟨a, vs, rfl, ha, hd⟩ := hJ
        exact ⟨vs, SqL.of (e _ _ ha), by rw [hd.length]; exact Nat.le_refl _⟩)
      (fun G Jt H i hJ e hi => by
        obtain ⟨a, vs, rfl, ha, hd⟩ := hJ
        exact ⟨vs, vs[i]'(by rw [hd.length]; exact hi), SqL.of (e _ _ ha), List.getElem?_eq_getElem _⟩)
      (fun F G G0 H σ ls' i x Jt H1 hJ eg hi S p y D' f => by
        obtain ⟨a, vs, rfl, ha, hd⟩ := hJ
        obtain ⟨rfl, y⟩ := y
        have hx := y vs (SqL.of ((eg.trans S.ex) _ _ ha))
        obtain ⟨d, e1, e2⟩ := hd.get' hx
        exact hb i d ls' e1 p F G H1 _ D' (S.setV (dq_mono eg e2)) f) hd)
theorem js_forT [Cold C] {x : Str} {p3 : Pos} (j : Nat) (Pv : Nat → List Loc → Prop) (he : JE C ls e (.tup ds)) (h0 : Pv 0 ls) (hb : ∀ (i : Nat) d ls', ds[i]? = some d → Pv i ls' → JB C (ls'.set j (.val d)) body { nx := Pv (i + 1), rt := P.rt, bk := P.nx, ct := Pv (i + 1) })
    (hd : ∀ ls', Pv ds.length ls' → P.nx ls') (hi : C.N[j]? = some x := by rfl) (hx : ∀ i, L2.Loc (C.X i).env.scope x := by intro _; first | exact .inl rfl | exact .inr rfl)
    (hf : ∀ i, (C.X i).fn x = true ∨ (C.X i).env.scope.names.lookup x = some .local := by intro _; first | exact .inl rfl | exact .inr rfl) (hp : ∀ i, PassesOwn (model (C.X i).prog (C.X i).w) (C.X i).A (C.X i).env (C.X i).xe := by intro q; first | exact PassesOwn.never | exact passes_of rfl | exact q.owns) (hfs : ∀ i x, foldedSetIterable e (C.X i).env x = pure x := by intro _ _; rfl) : JS C ls (.For (.Name x p3) e body [] pos) P :=
  js_of (t := tFor (iTup C.K (eAny C e)) (gName j) (bAny C body)) (fun i => ps_for (hp i) (C.calm i Cold.h) (kx (p := fun K => PI (C.X i) _ e (iTup K (eAny C e))) i (pi_tup (pe_any C e i))) (pg_name (i := j) (by rw [C.hN]; exact C.nd) (by rw [C.hN]; exact hi) (hx i) (hf i)) (pb_any C body i) (hfs i))
    (hs_for Pv ds.length (fun G Jt => ∃ a vs, Jt = Itt C.K a ∧ SqT C.K G a vs ∧ DqAll C.K G vs ds)
      (fun F G H σ S xx R q => he F G H σ S xx _ fun v G' H' eg eh S' hv => by
        obtain ⟨a, vs, rfl, ha, hd⟩ := dq_tup hv
        exact ⟨a, rfl, ⟨vs, ex_t S'.ex ha⟩, q _ G' H' eg eh S' ⟨a, vs, rfl, ha, hd⟩⟩) h0
      (fun G Jt H hJ e => by
        obtain ⟨a, vs, rfl, ha, hd⟩ := hJ
        exact ⟨vs, ex_t e ha, by rw [hd.length]; exact Nat.le_refl _⟩)
      (fun G Jt H i hJ e hi => by
        obtain ⟨a, vs, rfl, ha, hd⟩ := hJ
        exact ⟨vs, vs[i]'(by rw [hd.length]; exact hi), ex_t e ha, List.getElem?_eq_getElem _⟩)
      (fun F G G0 H σ ls' i x Jt H1 hJ eg hi S p y D' f => by
        obtain ⟨a, vs, rfl, ha, hd⟩ := hJ
        obtain ⟨rfl, y⟩ := y
        have hx := y vs (ex_t (eg.trans S.ex) ha)
        obtain ⟨d, e1, e2⟩ := hd.get' hx
        exact hb i d ls' e1 p F G H1 _ D' (S.setV (dq_mono eg e2)) f) hd)
/-- while: Pv by a measure and the slots -/
theorem js_while (Pv : Nat → List Loc → Prop) (m : Nat) (h0 : Pv m ls) (hb : ∀ m ls', Pv m ls' → ∃ k, JT C ls' c k ∧ (k = true → JB C ls' body { nx := fun l => ∃ m', m' < m ∧ Pv m' l, rt := P.rt, bk := P.nx, ct := fun l => ∃ m', m' < m ∧ Pv m' l }) ∧ (k = false → P.nx ls'))
    (hp : ∀ i, PassesOwn (model (C.X i).prog (C.X i).w) (C.X i).A (C.X i).env (C.X i).xe := by intro q; first | exact PassesOwn.never | exact passes_of rfl | exact q.owns) : JS C ls (.While c body [] pos) P :=
  js_of (fun i => ps_while (hp i) (pt_any C c i) (pb_any C body i)) fun F G H σ D' S f => by
    refine ⟨fun m σ' H' => ∃ G' ls', Ex G G' ∧ Kp F H H' ∧ Sat C.K F G' H' σ' ls' ∧ Pv m ls', ⟨m, G, ls, Ex.refl _, Kp.refl, S, h0⟩, ?_⟩
    rintro m σ' H' ⟨G', ls', eg', kp', S', p⟩
    obtain ⟨k, ht, h1, h2⟩ := hb m ls' p
    refine ht F G' H' σ' S' ((f.step eg' kp').xok S') _ fun G2 H2 eg2 eh2 S2 => ?_
    have f2 := f.step (eg'.trans eg2) (kp'.trans (S'.kp eh2))
    cases k with
    | true =>
      rw [if_pos rfl]
      refine ⟨fun σ3 H3 => ∃ m', m' < m ∧ ∃ G3 ls3, Ex G G3 ∧ Kp F H H3 ∧ Sat C.K F G3 H3 σ3 ls3 ∧ Pv m' ls3, fun σ3 H3 h => h, h1 rfl F G2 H2 σ' _ S2 ⟨?_, f2.rt, f2.nx, ?_, f2.tb, f2.dx, f2.ex⟩⟩
      · rintro G3 H3 σ3 ls3 eg3 kp3 S3 ⟨m', hm, r⟩
        exact ⟨m', hm, G3, ls3, (eg'.trans eg2).trans eg3, (kp'.trans (S'.kp eh2)).trans kp3, S3, r⟩
      · rintro G3 H3 σ3 ls3 eg3 kp3 S3 ⟨m', hm, r⟩
        exact ⟨m', hm, G3, ls3, (eg'.trans eg2).trans eg3, (kp'.trans (S'.kp eh2)).trans kp3, S3, r⟩
    | false =>
      rw [if_neg Bool.false_ne_true]
      exact f2.nx G2 H2 σ' ls' (Ex.refl _) Kp.refl S2 (h2 rfl)
end
end Qp

/-! Q5: defs, calls, comprehensions, a try that runs through. -/
namespace Qp
open PySem PySem.Spec PyProof.Rows L2
/-! ### a def's promise over data -/
abbrev Rel := List D → (D → Prop) → Prop
def spD (K : Fg) (R : Rel) (T : Addr → Prop := fun _ => False) : Sp := fun vs H Q _ => ∃ G ds Po, Ex G H ∧ (∀ P, T P → TabAt G P) ∧ DqAll K G vs ds ∧ R ds Po ∧ ∀ d, Po d → ∀ G' H' v, Ex G G' → Ex G' H' → Ex H H' → (∀ a, NT H a → G a = none → G' a = none) → Dq K G' v d → Q v H'
/-- the one answer d -/
def det (r : List D → D → Prop) : Rel := fun ds Po => ∃ d, r ds d ∧ Po = fun d' => d' = d
/-- the context of a def's body -/
def Cs.of (P : Program) (w : World) (K : Fg) (mg : Str → Option Value) (base : Heap) {N : List Str} (nd : N.Nodup) (qual : Str) (scope : Scope) (f : Addr) (cdv : Value) (A : Around) (outer : List Env) (s : Shared) (H : Hp) (E : XK) {k : Nat}
    (hr : Room k (A.deeper (envOfC qual scope s.heap.objs.size f cdv))) (T : Addr → Prop := fun _ => False) : Cs where
  ι := Unit
  X := fun _ => (cxOf CX0 P w K mg base N qual scope f cdv A outer s H E).nox
  P := P
  w := w
  K := K
  mg := mg
  base := base
  N := N
  k := k
  hP := fun _ => rfl
  hw := fun _ => rfl
  hK := fun _ => rfl
  hmg := fun _ => rfl
  hbase := fun _ => rfl
  hN := fun _ => rfl
  nd := nd
  calm := fun _ _ => rfl
  cold := fun _ _ => hr
  hotc := fun _ z => Bool.noConfusion z
  E := noX T
  takes := fun _ => takesN
instance {P : Program} {w : World} {K : Fg} {mg : Str → Option Value} {base : Heap} {N : List Str} {nd : N.Nodup} {qual : Str} {scope : Scope} {f : Addr} {cdv : Value} {A : Around} {outer : List Env} {s : Shared} {H : Hp} {E : XK} {k : Nat} {hr : Room k (A.deeper (envOfC qual scope s.heap.objs.size f cdv))} {T : Addr → Prop} :
    Cold (Cs.of P w K mg base nd qual scope f cdv A outer s H E hr T) := ⟨rfl⟩
abbrev locs (n : Nat) (ds : List D) : List Loc := ds.map Loc.val ++ List.replicate (n - ds.length) Loc.any
abbrev Ret (d : D) : Post := { nx := fun _ => d = .non, rt := fun d' => d' = d }
abbrev RetX (Po : D → Prop) : Post := { nx := fun _ => Po .non, rt := Po }
theorem sat_start {K : Fg} {G H : Hp} {vs : List V} {ds : List D} {N : List Str} (eg : Ex G H) (hv : DqAll K G vs ds) : Sat K (fun a => NT H a ∧ G a = none) G H (L2.start N vs) (locs N.length ds) := by
  refine ⟨eg, fun a h => ⟨h.2, h.1⟩, ?_, fun _ => [], fun i l hl => ?_, fun _ _ h => (List.not_mem_nil h).elim, fun _ => List.nodup_nil, fun _ _ _ h => (List.not_mem_nil h).elim⟩
  · unfold L2.start locs
    simp [hv.length]
  · unfold locs at hl
    by_cases hi : i < ds.length
    · rw [List.getElem?_append_left (by rw [List.length_map]; exact hi), List.getElem?_map, List.getElem?_eq_getElem hi] at hl
      cases hl
      obtain ⟨v, e1, e2⟩ := hv.get (List.getElem?_eq_getElem hi)
      refine ⟨rfl, v, ?_, e2⟩
      unfold L2.start
      rw [List.getD_eq_getElem?_getD, List.getElem?_append_left (by rw [List.length_map, hv.length]; exact hi), List.getElem?_map, e1]
      rfl
    · rw [List.getElem?_append_right (by rw [List.length_map]; omega)] at hl
      rw [List.getElem?_replicate] at hl
      split at hl
      · cases hl; rfl
      · cases hl
section
variable {P : Program} {w : World} {K : Fg} {mg : Str → Option Value} {base : Heap}
theorem fn_ok {x qual : Str} {st : Stmt} {f : Addr} {fd : FuncData} {N ps : List Str} {k : Nat} {R : Rel} {T : Addr → Prop} (F : Fun K x qual st f fd) (S : FnScope N ps (defScope st)) (len : ∀ ds d, R ds d → ds.length = ps.length)
    (body : ∀ (cdv : Value) (A : Around) (outer : List Env) (s : Shared) (H : Hp) (E : XK) (hr : Room k (A.deeper (envOfC qual (defScope st) s.heap.objs.size f cdv))) (ds : List D) (Po : D → Prop), R ds Po →
      JB (Cs.of P w K mg base S.nd qual (defScope st) f cdv A outer s H E hr T) (locs N.length ds) (defBody st) (RetX Po)) : FnOk P w K mg base CX0 (k + 1) f fd ps (spD K R T) := by
  refine F.ok S (fun vs H Q E h => ?_) (fun cdv A outer s H vs Q E hr h => ?_)
  · obtain ⟨G, ds, d, _, _, hv, hR, _⟩ := h
    rw [hv.length]
    exact len ds d hR
  · obtain ⟨G, ds, Po, eg, tb, hv, hR, q⟩ := h
    refine ⟨_, pb_any (Cs.of P w K mg base S.nd qual (defScope st) f cdv A outer s H E hr T) (defBody st) (), ?_⟩
    have fin : ∀ G' H' v d', Ex G G' → Kp (fun a => NT H a ∧ G a = none) H H' → (∀ a, (NT H a ∧ G a = none) → G' a = none) → Ex G' H' → Dq K G' v d' → Po d' → Q v H' := by
      intro G' H' v d' eg' kp fg e hv' hd
      refine q d' hd G' H' v eg' e (fun a o ha => ?_) (fun a h1 h2 => fg a ⟨h1, h2⟩) hv'
      by_cases nt : NoTb o
      · refine .of ?_
        cases hg : G a with
        | none => rw [kp.1 a ⟨⟨o, ha, nt⟩, hg⟩]; exact ha
        | some u =>
          have h2 := eg a u hg
          rw [ha] at h2
          have nu : NoTb u := fun ps z => by
            subst z
            obtain ⟨m, z, _⟩ := h2
            exact nt _ (Option.some.inj z)
          obtain rfl : o = u := Option.some.inj (h2.at nu)
          exact (e a _ ((eg' a _ hg).at nt)).at nt
      · cases o <;> first | exact kp.2 a _ ha | exact absurd (fun _ z => nomatch z) nt
    refine body cdv A outer s H E hr ds Po hR (fun a => NT H a ∧ G a = none) G H (L2.start N vs) _ (sat_start eg hv) ⟨fun G' H' σ' ls' eg' kp S' r => ?_, fun G' H' v d' eg' kp fg e hv' r => fin G' H' v d' eg' kp fg e hv' r, fun _ _ _ _ _ _ _ z => False.elim z, fun _ _ _ _ _ _ _ z => False.elim z, tb, fun _ z => (List.not_mem_nil z).elim, fun _ _ _ _ _ _ _ _ _ _ _ _ _ z => False.elim z⟩
    exact fin G' H' .non .non eg' kp (fun a fa => (S'.fo a fa).1) S'.ex .non r
/-- a def of one answer -/
theorem fn_okd {x qual : Str} {st : Stmt} {f : Addr} {fd : FuncData} {N ps : List Str} {k : Nat} {r : List D → D → Prop} {T : Addr → Prop} (F : Fun K x qual st f fd) (S : FnScope N ps (defScope st)) (len : ∀ ds d, r ds d → ds.length = ps.length)
    (body : ∀ (cdv : Value) (A : Around) (outer : List Env) (s : Shared) (H : Hp) (E : XK) (hr : Room k (A.deeper (envOfC qual (defScope st) s.heap.objs.size f cdv))) (ds : List D) (d : D), r ds d →
      JB (Cs.of P w K mg base S.nd qual (defScope st) f cdv A outer s H E hr T) (locs N.length ds) (defBody st) (Ret d)) : FnOk P w K mg base CX0 (k + 1) f fd ps (spD K (det r) T) :=
  fn_ok F S (fun ds Po ⟨d, h, _⟩ => len ds d h) fun cdv A outer s H E hr ds Po ⟨d, h, e⟩ => by
    subst e
    exact jb_post (body cdv A outer s H E hr ds d h) (fun _ z => Eq.symm z) (fun _ z => z) (fun _ z => z) (fun _ z => z)
end
section
variable {C : Cs} {ls : List Loc} {e a b : Expr} {d d1 : D} {ds : List D} {p pos : Pos} {x : Str} {f : Addr} {fd : FuncData} {ps : List Str} {k : Nat} {R : Rel} {r : List D → D → Prop} {Po : D → Prop}
theorem fnAt {sp : Sp} {CX : CXT} (F : FnOk C.P C.w C.K C.mg C.base CX k f fd ps sp) (hk : k ≤ C.k) (j : C.ι) : FnOk (C.X j).prog (C.X j).w (C.X j).K (C.X j).mg (C.X j).base CX C.k f fd ps sp := by
  rw [C.hP, C.hw, C.hK, C.hmg, C.hbase]
  exact F.mono hk
/-- a def of the text as callers see it -/
structure Fn (P : Program) (w : World) (K : Fg) (mg : Str → Option Value) (base : Heap) (k : Nat) (x : Str) (R : Rel) (T : Addr → Prop := fun _ => False) : Prop where
  ex : ∃ f fd ps, FnOk P w K mg base CX0 k f fd ps (spD K R T) ∧ mg x = some (.ref f) ∧ PySem.W.keepIn K (.ref f) = true ∧ Binds K fd ps []
/-- to some answer for which Po holds -/
def JX (C : Cs) (ls : List Loc) (e : Expr) (Po : D → Prop) : Prop := ∀ F G H σ, Sat C.K F G H σ ls → Xok C.K C.E F G H σ ls → ∀ Q : VK, (∀ d v G' H', Po d → Ex G G' → Ex H H' → Sat C.K F G' H' σ ls → Dq C.K G' v d → Q v H') → eAny C e σ H Q
structure JXA (C : Cs) (ls : List Loc) (es : List Expr) (Po : List D → Prop) : Prop where
  ns : ∀ e ∈ es, NS e
  ev : ∀ F G H σ, Sat C.K F G H σ ls → Xok C.K C.E F G H σ ls → ∀ Q : List V → Hp → Prop, (∀ ds vs G' H', Po ds → Ex G G' → Ex H H' → Sat C.K F G' H' σ ls → DqAll C.K G' vs ds → Q vs H') → aAny C es σ H Q
theorem JX.of (h : JE C ls e d) (hp : Po d) : JX C ls e Po := fun F G H σ S xx Q q => h F G H σ S xx Q fun v G' H' eg eh S' hv => q d v G' H' hp eg eh S' hv
theorem JX.je (h : JX C ls e fun d' => d' = d) : JE C ls e d := fun F G H σ S xx Q q => h F G H σ S xx Q fun d' v G' H' hd eg eh S' hv => q v G' H' eg eh S' (hd ▸ hv)
theorem JX.mono {Po' : D → Prop} (h : JX C ls e Po) (hp : ∀ d, Po d → Po' d) : JX C ls e Po' := fun F G H σ S xx Q q => h F G H σ S xx Q fun d v G' H' hd => q d v G' H' (hp d hd)
theorem jxa_nil {Pa : List D → Prop} (h : Pa []) : JXA C ls [] Pa := ⟨fun _ h => (List.not_mem_nil h).elim, fun F G H σ S xx Q q => ⟨tNil, fun _ => pa_nil, q [] [] G H h (Ex.refl G) (Ex.refl H) S .nil⟩⟩
theorem jxa_cons {Pa : List D → Prop} {es : List Expr} (h : JX C ls e Po) (r : ∀ d, Po d → JXA C ls es fun ds => Pa (d :: ds)) (hne : ∃ d, Po d) (hs : NS e := by intro _ _; rfl) : JXA C ls (e :: es) Pa := by
  obtain ⟨d0, h0⟩ := hne
  refine ⟨fun x hx => (List.mem_cons.mp hx).elim (fun z => z ▸ hs) ((r d0 h0).ns x), fun F G H σ S xx Q q => ⟨tCons (eAny C e) (aAny C es), fun j => pa_cons (pe_any C e j) (pa_any C es j) (hs _ _), h F G H σ S xx _ fun d v G1 H1 hd eg1 eh1 S1 hv => (r d hd).ev F G1 H1 σ S1 (xx.step eg1 eh1) _ fun ds vs G2 H2 hp eg2 eh2 S2 hvs => q (d :: ds) (v :: vs) G2 H2 hp (eg1.trans eg2) (eh1.trans eh2) S2 (.cons (dq_mono eg2 hv) hvs)⟩⟩
theorem JXA.of {es : List Expr} (h : JA C ls es ds) : JXA C ls es fun ds' => ds' = ds := ⟨h.ns, fun F G H σ S xx Q q => h.ev F G H σ S xx Q fun vs G' H' eg eh S' hv => q ds vs G' H' rfl eg eh S' hv⟩
theorem jx_call [Cold C] (F : Fn C.P C.w C.K C.mg C.base k x R C.E.T) {es : List Expr} {Pa : List D → Prop} (ha : JXA C ls (e :: es) Pa) (hR : ∀ ds, Pa ds → R ds Po) (hk : k ≤ C.k := by exact Nat.le_of_ble_eq_true rfl) (hg : ∀ j, Gl (C.X j) x := by intro _; rfl) (hdb : (x == ("__debug__" : Str)) = false := by decide) :
    JX C ls (.Call (.Name x p) (e :: es) [] pos) Po := by
  obtain ⟨f, fd, ps, G, hm, kp, hb⟩ := F.ex
  refine fun F' G1 H1 σ S xx Q q => ⟨tCall (spD C.K R C.E.T) [] E0 (aAny C (e :: es)), fun j => ?_, ha.ev F' G1 H1 σ S xx _ fun ds vs G2 H2 hp eg2 eh2 S2 hv => ?_⟩
  · refine pe_call (fnAt G hk j) (C.cold j Cold.h) (hg j) (by rw [C.hmg]; exact hm) (by rw [C.hK]; exact kp) (by rw [C.hK]; exact hb) .nil pass0 (pa_any C (e :: es) j) hdb (ha.ns e List.mem_cons_self _ _) (ns_any (fun y hy => ha.ns y (List.mem_cons_of_mem _ hy)) _ _)
  · rw [List.append_nil]
    refine ⟨G2, ds, Po, S2.ex, (xx.step eg2 eh2).tb, hv, hR ds hp, fun d hd G3 H3 v eg3 e3 eh3 n3 hv3 => q d v G3 H3 hd (eg2.trans eg3) (eh2.trans eh3) (S2.grow eg3 eh3 e3 fun a ha => ?_) hv3⟩
    by_cases h2 : NT H2 a
    · exact Or.inl fun g => ha (n3 a h2 g)
    · exact Or.inr h2
theorem je_call [Cold C] (F : Fn C.P C.w C.K C.mg C.base k x (det r) C.E.T) {es : List Expr} (ha : JA C ls (e :: es) ds) (hR : r ds d) (hk : k ≤ C.k := by exact Nat.le_of_ble_eq_true rfl) (hg : ∀ j, Gl (C.X j) x := by intro _; rfl) (hdb : (x == ("__debug__" : Str)) = false := by decide) :
    JE C ls (.Call (.Name x p) (e :: es) [] pos) d := JX.je (jx_call F (.of ha) (fun _ z => by rw [z]; exact ⟨d, hR, rfl⟩) hk hg hdb)
theorem jx_call1 [Cold C] (F : Fn C.P C.w C.K C.mg C.base k x R C.E.T) {es : List Expr} (ha : JA C ls (e :: es) ds) (hR : R ds Po) (hk : k ≤ C.k := by exact Nat.le_of_ble_eq_true rfl) (hg : ∀ j, Gl (C.X j) x := by intro _; rfl) (hdb : (x == ("__debug__" : Str)) = false := by decide) :
    JX C ls (.Call (.Name x p) (e :: es) [] pos) Po := jx_call F (.of ha) (fun _ z => by rw [z]; exact hR) hk hg hdb
end
section
variable {C : Cs} {ls : List Loc} {rest : List Stmt} {P : Post} {e : Expr} {pos pos' : Pos} {Po : D → Prop}
theorem js_setX (i : Nat) {x : Str} (he : JX C ls e Po) (hn : ∀ d, Po d → P.nx (ls.set i (.val d))) (hi : C.N[i]? = some x := by rfl) (hx : ∀ j, L2.Loc (C.X j).env.scope x := by intro _; first | exact .inl rfl | exact .inr rfl)
    (hs : ∀ j, swapsWith e (some (.Name x pos')) pos.line (C.X j).env = pure false := by intro _; rfl) (hf : ∀ j, (C.X j).fn x = true ∨ (C.X j).env.scope.names.lookup x = some .local := by intro _; first | exact .inl rfl | exact .inr rfl) : JS C ls (.Assign [.Name x pos'] e pos) P :=
  js_of (fun j => ps_set (i := i) (by rw [C.hN]; exact C.nd) (by rw [C.hN]; exact hi) (hx j) (pe_any C e j) (hs j) (hf j)) fun F G H σ D' S f => he F G H σ S (f.xok S) _ fun d v G' H' hd eg eh S' hv => f.nx G' H' _ _ eg (S.kp eh) (S'.setV hv) (hn d hd)
theorem jb_setX (i : Nat) {x : Str} (he : JX C ls e Po) (k : ∀ d, Po d → JB C (ls.set i (.val d)) rest P) (hi : C.N[i]? = some x := by rfl) (hx : ∀ j, L2.Loc (C.X j).env.scope x := by intro _; first | exact .inl rfl | exact .inr rfl)
    (hs : ∀ j, swapsWith e (some (.Name x pos')) pos.line (C.X j).env = pure false := by intro _; rfl) (hf : ∀ j, (C.X j).fn x = true ∨ (C.X j).env.scope.names.lookup x = some .local := by intro _; first | exact .inl rfl | exact .inr rfl) : JB C ls (.Assign [.Name x pos'] e pos :: rest) P :=
  jb_cons (fun l => ∃ d, Po d ∧ l = ls.set i (.val d)) (js_setX i he (fun d hd => ⟨d, hd, rfl⟩) hi hx hs hf) fun _ ⟨d, hd, h⟩ => h ▸ k d hd
theorem jb_retX (he : JX C ls e Po) (h : ∀ d, Po d → P.rt d) : JB C ls (.Return (some e) pos :: rest) P :=
  jb_cons (fun _ => False) (js_of (fun j => ps_ret (pe_any C e j)) fun F G H σ D' S f => he F G H σ S (f.xok S) _ fun d v G' H' hd eg eh S' hv => f.rt G' H' v d eg (S.kp eh) (fun a fa => (S'.fo a fa).1) S'.ex hv (h d hd)) fun _ h => h.elim
end
/-- for x in a list of which Po holds -/
theorem js_forLX {C : Cs} [Cold C] {ls : List Loc} {P : Post} {e : Expr} {body : List Stmt} {pos : Pos} {x : Str} {p3 : Pos} {Po : List D → Prop} (j : Nat) (Pv : List D → Nat → List Loc → Prop) (he : JX C ls e fun d => ∃ ds, d = .lst ds ∧ Po ds) (h0 : ∀ ds, Po ds → Pv ds 0 ls) (hb : ∀ ds, Po ds → ∀ (i : Nat) d ls', ds[i]? = some d → Pv ds i ls' → JB C (ls'.set j (.val d)) body { nx := Pv ds (i + 1), rt := P.rt, bk := P.nx, ct := Pv ds (i + 1) })
    (hd : ∀ ds, Po ds → ∀ ls', Pv ds ds.length ls' → P.nx ls') (hi : C.N[j]? = some x := by rfl) (hx : ∀ i, L2.Loc (C.X i).env.scope x := by intro _; first | exact .inl rfl | exact .inr rfl)
    (hf : ∀ i, (C.X i).fn x = true ∨ (C.X i).env.scope.names.lookup x = some .local := by intro _; first | exact .inl rfl | exact .inr rfl) (hp : ∀ i, PassesOwn (model (C.X i).prog (C.X i).w) (C.X i).A (C.X i).env (C.X i).xe := by intro q; first | exact PassesOwn.never | exact passes_of rfl | exact q.owns) (hfs : ∀ i x, foldedSetIterable e (C.X i).env x = pure x := by intro _ _; rfl) : JS C ls (.For (.Name x p3) e body [] pos) P :=
  js_of (t := tFor (iList C.K (eAny C e)) (gName j) (bAny C body)) (fun i => ps_for (hp i) (C.calm i Cold.h) (kx (p := fun K => PI (C.X i) _ e (iList K (eAny C e))) i (pi_list (pe_any C e i))) (pg_name (i := j) (by rw [C.hN]; exact C.nd) (by rw [C.hN]; exact hi) (hx i) (hf i)) (pb_any C body i) (hfs i))
    (hs_forX Pv (fun ds => ds.length) (fun ds G Jt => Po ds ∧ ∃ a vs, Jt = Itl C.K a ∧ G a = some (.lst vs) ∧ DqAll C.K G vs ds)
      (fun F G H σ S xx R q => he F G H σ S xx _ fun d v G' H' hd eg eh S' hv => by
        obtain ⟨ds, rfl, hp⟩ := hd
        obtain ⟨a, vs, rfl, ha, hd⟩ := dq_lst hv
        exact ⟨a, rfl, ⟨vs, SqL.of (S'.ex _ _ ha)⟩, q ds _ G' H' eg eh S' ⟨hp, a, vs, rfl, ha, hd⟩⟩) (fun ds _ _ hJ => h0 ds hJ.1)
      (fun ds G Jt H hJ e => by
        obtain ⟨_, a, vs, rfl, ha, hd⟩ := hJ
        exact ⟨vs, SqL.of (e _ _ ha), by rw [hd.length]; exact Nat.le_refl _⟩)
      (fun ds G Jt H i hJ e hi => by
        obtain ⟨_, a, vs, rfl, ha, hd⟩ := hJ
        exact ⟨vs, vs[i]'(by rw [hd.length]; exact hi), SqL.of (e _ _ ha), List.getElem?_eq_getElem _⟩)
      (fun ds F G G0 H σ ls' i x Jt H1 hJ eg hi S p y D' f => by
        obtain ⟨hp, a, vs, rfl, ha, hd⟩ := hJ
        obtain ⟨rfl, y⟩ := y
        have hx := y vs (SqL.of ((eg.trans S.ex) _ _ ha))
        obtain ⟨d, e1, e2⟩ := hd.get' hx
        exact hb ds hp i d ls' e1 p F G H1 _ D' (S.setV (dq_mono eg e2)) f) fun ds _ _ ls' hJ => hd ds hJ.1 ls')
/-! ### a try that nothing leaves -/
theorem js_try {C : Cs} {ls : List Loc} {body : List Stmt} {h₀ : ExceptHandler} {hs : List ExceptHandler} {pos : Pos} {P : Post} (h : JB C ls body P) (hn : ∀ j e s, ¬ (C.X j).xe e s := by intro _ _ _ z; exact z) : JS C ls (.Try body (h₀ :: hs) [] [] pos) P :=
  js_of (fun j => ps_try_never (hn j) (pb_any C body j) pss_nil) fun F G H σ D' S f => h F G H σ D' S f
/-! ### comprehensions -/
def Cs.blk (C : Cs) [hc : Cold C] (scope : Scope) : Cs where
  ι := C.ι × Shared × Hp × Addr × List (Str × Addr) × List Addr
  X := fun q => (C.X q.1).blk q.2.1 q.2.2.1 scope (compEnvC scope q.2.2.2.2.1 q.2.2.2.1 (C.X q.1).env) q.2.2.2.2.2
  P := C.P
  w := C.w
  K := C.K
  mg := C.mg
  base := C.base
  N := C.N
  k := C.k
  hP := fun q => C.hP q.1
  hw := fun q => C.hw q.1
  hK := fun q => C.hK q.1
  hmg := fun q => C.hmg q.1
  hbase := fun q => C.hbase q.1
  hN := fun q => C.hN q.1
  nd := C.nd
  calm := fun q _ => C.calm q.1 hc.h
  cold := fun q _ => C.cold q.1 hc.h
  hotc := fun _ z => Bool.noConfusion z
  E := noX C.E.T
  takes := fun _ => takesN
instance {C : Cs} {scope : Scope} [Cold C] : Cold (C.blk scope) := ⟨rfl⟩
def Loc.keeps : Loc → Bool
  | .own _ => false
  | .own2 _ => false
  | _ => true
theorem refs_inj : ∀ {qs rs : List Addr}, qs.map V.ref = rs.map V.ref → qs = rs
  | [], [], _ => rfl
  | q :: qs, r :: rs, h => by
    rw [List.map_cons, List.map_cons] at h
    injection h with h1 h2
    injection h1 with h1
    rw [h1, refs_inj h2]
  | [], _ :: _, h => by cases h
  | _ :: _, [], h => by cases h
/-- behind a block: the slots as they were -/
theorem Sat.restore {K : Fg} {F : Addr → Prop} {G G2 H H2 : Hp} {σ : L2.St} {ls : List Loc} {j : Nat} {x : Option V} {l2 : Loc} (S : Sat K F G H σ ls) (S2 : Sat K F G2 H2 (σ.set j x) (ls.set j l2)) (eg : Ex G G2) (eh : Ex H H2) (hj : ∀ l, ls[j]? = some l → l.keeps = true) : Sat K F G2 H2 σ ls := by
  obtain ⟨ow, h1, h2, h3, h4⟩ := S.ow
  obtain ⟨ow2, k1, k2, k3, k4⟩ := S2.ow
  have key : ∀ i l p, ls[i]? = some l → p ∈ ow i → p ∈ ow2 i := by
    intro i l p hl hp
    have hi := h1 i l hl
    by_cases hij : i = j
    · subst hij
      have := hj l hl
      cases l with
      | any => rw [show ow i = [] from hi] at hp; cases hp
      | val d => rw [hi.1] at hp; cases hp
      | own ds => cases this
      | own2 dss => cases this
    · have hl2 : (ls.set j l2)[i]? = some l := by rw [List.getElem?_set_ne (fun z => hij z.symm)]; exact hl
      have h5 := k1 i l hl2
      rw [getD_set_ne hij] at h5
      cases l with
      | any => rw [show ow i = [] from hi] at hp; cases hp
      | val d => rw [hi.1] at hp; cases hp
      | own ds =>
        obtain ⟨p1, vs, e1, e2, e3, e4⟩ := hi
        obtain ⟨p2, vs2, f1, f2, f3, f4⟩ := h5
        rw [e2] at f2
        cases f2
        rw [f1]
        rw [e1] at hp
        exact hp
      | own2 dss =>
        obtain ⟨p1, qs, e1, e2, e3, e4⟩ := hi
        obtain ⟨p2, qs2, f1, f2, f3, f4⟩ := h5
        rw [e2] at f2
        cases f2
        have h6 := eh _ _ e3
        rw [f3] at h6
        have e7 : qs2 = qs := refs_inj (HO.lst.inj (Option.some.inj h6))
        rw [f1, e7]
        rw [e1] at hp
        exact hp
  have inr : ∀ i p, p ∈ ow i → (∃ l, ls[i]? = some l) ∨ ls[i]? = none := fun i p _ => by cases ls[i]? <;> simp
  refine ⟨S2.ex, S2.fo, S.len, fun i => if i < ls.length then ow i else [], fun i l hl => ?_, fun i p hp => ?_, fun i => ?_, fun i k p hi hk => ?_⟩
  · have hlt := (List.getElem?_eq_some_iff.mp hl).1
    simp only [if_pos hlt]
    exact locOk_mono eg (fun p hp => ex_eq eh (h2 i p hp).2.1) (h1 i l hl)
  · simp only at hp
    split at hp
    · next hlt =>
      have := k2 i p (key i _ p (List.getElem?_eq_getElem hlt) hp)
      exact this
    · cases hp
  · simp only
    split
    · exact h3 i
    · exact List.nodup_nil
  · simp only at hi hk
    split at hi
    · split at hk
      · exact h4 i k p hi hk
      · cases hk
    · cases hi
def outs (n : Nat) (b : Nat → Bool) (f : Nat → D) : List D := ((List.range n).filter b).map f
theorem outs_yes {n : Nat} {b : Nat → Bool} {f : Nat → D} (h : b n = true) : outs (n + 1) b f = outs n b f ++ [f n] := by
  unfold outs
  rw [List.range_succ, List.filter_append, List.map_append, List.filter_cons, if_pos h] <;> rfl
theorem outs_no {n : Nat} {b : Nat → Bool} {f : Nat → D} (h : b n = false) : outs (n + 1) b f = outs n b f := by
  unfold outs
  rw [List.range_succ, List.filter_append, List.map_append, List.filter_cons, if_neg (by rw [h]; decide)]
  show _ ++ [] = _
  rw [List.append_nil]
theorem outs_len (n : Nat) (b : Nat → Bool) (f : Nat → D) : (outs n b f).length ≤ n := by
  unfold outs
  rw [List.length_map]
  have h := List.length_filter_le b (List.range n)
  rw [List.length_range] at h
  exact h
theorem outs_all (n : Nat) (f : Nat → D) : outs n (fun _ => true) f = (List.range n).map f := by
  unfold outs
  rw [List.filter_eq_self.mpr fun _ _ => rfl]
theorem outs_list {α : Type} (xs : List α) (z : α) (g : α → D) : outs xs.length (fun _ => true) (fun i => g (xs.getD i z)) = xs.map g := by
  rw [outs_all]
  apply List.ext_getElem?
  intro i
  by_cases hi : i < xs.length
  · rw [List.getElem?_map, List.getElem?_range hi, List.getElem?_map, List.getElem?_eq_getElem hi]
    show some (g (xs.getD i z)) = some (g xs[i])
    rw [List.getD_eq_getElem?_getD, List.getElem?_eq_getElem hi]; rfl
  · rw [List.getElem?_map, List.getElem?_map, List.getElem?_eq_none (by rw [List.length_range]; omega), List.getElem?_eq_none (by omega)]; rfl
section
variable {K : Fg} {E : Xw} {ls : List Loc}
theorem evN_lc {wi : TI} {tt : TT} {te : TE} (j n : Nat) (xs : Nat → D) (b : Nat → Bool) (f : Nat → D) (J : Hp → It → Prop) (hn : n < 1000000) (hj : ∀ l, ls[j]? = some l → l.keeps = true)
    (hw : ∀ F G H σ, Sat K F G H σ ls → Xok K E F G H σ ls → ∀ R : It → Hp → Prop, (∀ Jt G' H', Ex G G' → Ex H H' → Sat K F G' H' σ ls → J G' Jt → R Jt H') → wi σ H R)
    (hstop : ∀ G Jt H, J G Jt → Ex G H → Jt.stop n H) (hgo : ∀ G Jt H i, J G Jt → Ex G H → i < n → Jt.go i H) (hy : ∀ G Jt H i x H1, J G Jt → Ex G H → i < n → Jt.yld i H x H1 → H1 = H ∧ Dq K G x (xs i))
    (ht : ∀ i, i < n → EvT K (noX E.T) tt (ls.set j (.val (xs i))) (b i)) (he : ∀ i, i < n → b i = true → Ev K (noX E.T) te (ls.set j (.val (xs i))) (f i)) : EvN K E (tLc wi (gName j) tt te [j]) ls (outs n b f) := fun F G H σ S xx Q q => hw F G H σ S xx _ fun Jt G1 H1 eg1 eh1 S1 hJ Dl hD => by
  refine ⟨fun i m H' => m = n - i ∧ i ≤ n ∧ ∃ G' vs, Ex G1 G' ∧ Ex H1 H' ∧ Sat K (fun a => F a ∨ a = Dl) G' H' σ ls ∧ H' Dl = some (.lst vs) ∧ DqAll K G' vs (outs i b f), ⟨n, by simp, Nat.zero_le _, G1, [], Ex.refl _, Ex.new hD, S1.madeF hD, upd_same, .nil⟩, ?_⟩
  have nf : ¬ F Dl := fun z => (S1.fo Dl z).2.ne hD
  rintro i m H' ⟨rfl, hi, G', vs, eg', eh', S', hp, hv⟩
  by_cases hlt : i < n
  · refine .inr ⟨hgo G1 Jt H' i hJ (eg'.trans S'.ex) hlt, fun H2 => ∃ G2 vs2, Ex G1 G2 ∧ Ex H1 H2 ∧ Sat K (fun a => F a ∨ a = Dl) G2 H2 σ ls ∧ H2 Dl = some (.lst vs2) ∧ DqAll K G2 vs2 (outs (i + 1) b f), fun H2 h => ⟨n - (i + 1), by omega, rfl, hlt, h⟩, fun x H2 y => ?_⟩
    obtain ⟨rfl, hx⟩ := hy G1 Jt H' i x H2 hJ (eg'.trans S'.ex) hlt y
    have e0 : (wipe σ [j]).set j (some x) = σ.set j (some x) := by
      show (σ.set j none).set j (some x) = _
      rw [List.set_set]
    have e1 : wipe (σ.set j (some x)) [j] = wipe σ [j] := by
      show (σ.set j (some x)).set j none = σ.set j none
      rw [List.set_set]
    show wipe ((wipe σ [j]).set j (some x)) [j] = wipe σ [j] ∧ _
    rw [e0]
    refine ⟨e1, ?_⟩
    have Sx : Sat K (fun a => F a ∨ a = Dl) G' H2 (σ.set j (some x)) (ls.set j (.val (xs i))) := S'.setV (dq_mono eg' hx)
    refine ht i hlt _ G' H2 _ Sx (xok_no fun P h => ((xx.tb P h).mono eg1).mono eg') _ fun G3 H3 eg3 eh3 S3 => ?_
    cases hb : b i with
    | true =>
      rw [if_pos rfl]
      refine he i hlt hb _ G3 H3 _ S3 (xok_no fun P h => (((xx.tb P h).mono eg1).mono eg').mono eg3) _ fun y G4 H4 eg4 eh4 S4 hy4 => ?_
      have S5 := S'.restore S4 (eg3.trans eg4) (eh3.trans eh4) hj
      have hp5 := eh4 _ _ (eh3 _ _ hp)
      refine ⟨vs, hp5, ?_, G4, vs ++ [y], eg'.trans (eg3.trans eg4), ?_, ?_, upd_same, ?_⟩
      · rw [hv.length]
        exact Nat.lt_of_le_of_lt (Nat.le_trans (outs_len i b f) hi) (Nat.lt_of_lt_of_le hn (by decide))
      · exact (eh'.trans (eh3.trans eh4)).mut hD
      · obtain ⟨ow, h1, h2, h3, h4⟩ := S5.ow
        refine ⟨S5.ex.mut (S5.fo Dl (Or.inr rfl)).1, fun a fa => ⟨(S5.fo a fa).1, ?_⟩, S5.len, ow, fun i l hl => locOk_mono (Ex.refl _) (fun p hp => upd_ne fun z => (h2 i p hp).2.2 (Or.inr z)) (h1 i l hl), fun i p hp => ⟨(h2 i p hp).1, ?_, (h2 i p hp).2.2⟩, h3, h4⟩
        · by_cases hz : a = Dl
          · rw [hz]; exact nt_lst upd_same
          · exact nt_eq (S5.fo a fa).2 (upd_ne hz)
        · exact nt_eq (h2 i p hp).2.1 (upd_ne fun z => (h2 i p hp).2.2 (Or.inr z))
      · rw [outs_yes hb]
        exact (dqAll_mono (eg3.trans eg4) hv).append (.cons hy4 .nil)
    | false =>
      rw [if_neg Bool.false_ne_true]
      refine ⟨G3, vs, eg'.trans eg3, eh'.trans eh3, S'.restore S3 eg3 eh3 hj, eh3 _ _ hp, ?_⟩
      rw [outs_no hb]
      exact dqAll_mono eg3 hv
  · have e : i = n := by omega
    subst e
    exact .inl ⟨hstop G1 Jt H' hJ (eg'.trans S'.ex), q Dl vs G' H' (eg1.trans eg') (eh1.trans eh') nf S' hp hv⟩
end
section
variable {C : Cs} {ls : List Loc} {e elt a : Expr} {d : D} {ds : List D} {pos p1 p2 p3 : Pos} {x : Str} {scope : Scope} {ifs : List Expr}
/-- what a comprehension's block wants -/
structure BOk (C : Cs) [Cold C] (scope : Scope) (x : Str) (j : Nat) (p : Pos) : Prop where
  b : ∀ i, BlkOk C.N (C.X i).env.scope scope [(x, j)]
  g : ∀ i, PG ((C.blk scope).X i) (.Name x p) (gName j)
theorem bok [Cold C] {j : Nat} (h : ∀ i, blkC C.N (C.X i).env.scope scope [(x, j)] = true := by intro _; kernel_rfl) (hi : C.N[j]? = some x := by rfl)
    (hl : ∀ i, L2.Loc ((C.blk scope).X i).env.scope x := by intro _; first | exact .inl rfl | exact .inr rfl) (hf : ∀ i, ((C.blk scope).X i).fn x = true ∨ ((C.blk scope).X i).env.scope.names.lookup x = some .local := by intro _; first | exact .inr rfl | exact .inl rfl) : BOk C scope x j p1 :=
  ⟨fun i => blkOk_by (h i), fun i => pg_name (by rw [(C.blk scope).hN]; exact C.nd) (by rw [(C.blk scope).hN]; exact hi) (hl i) (hf i)⟩
def ifAny (C : Cs) (ifs : List Expr) : TT := fun σ H Q => ∃ t : TT, (∀ i, PTs (C.X i) ifs t) ∧ t σ H Q
theorem pif_any (C : Cs) (ifs : List Expr) (i : C.ι) : PTs (C.X i) ifs (ifAny C ifs) := ⟨fun pins s σ H Q I h => by
  obtain ⟨t, ht, q⟩ := h
  exact (ht i).run pins s σ H Q I q⟩
def JI (C : Cs) (ls : List Loc) (ifs : List Expr) (b : Bool) : Prop := EvT C.K C.E (ifAny C ifs) ls b
theorem ji_nil : JI C ls [] true := fun F G H σ S xx Q q => ⟨tYes, fun _ => pts_nil, q G H (Ex.refl G) (Ex.refl H) S⟩
theorem ji_one {k : Bool} (h : JT C ls e k) : JI C ls [e] k := fun F G H σ S xx Q q => ⟨tAny C e, fun j => pts_one (pt_any C e j), h F G H σ S xx Q q⟩
theorem pe_lcA [Cold C] {tg iter : Expr} {wi : TI} {j : Nat} (B : BOk C scope x j p1) (hi : ∀ i, PI (C.X i) (.Name x p1) iter wi) (hs : ∀ i y, foldedSetIterable iter (C.X i).env y = pure y) (i : C.ι) :
    PE (C.X i) (.ListComp elt [⟨.Name x p1, iter, ifs, 0⟩] scope pos) (tLc wi (gName j) (ifAny (C.blk scope) ifs) (eAny (C.blk scope) elt) [j]) :=
  pe_lc (own := [(x, j)]) (C.calm i Cold.h) (by rw [C.hN]; exact C.nd) (hi i) (by rw [C.hN]; exact B.b i) (fun s H Cc cl fp => B.g (i, s, H, Cc, cl, fp)) (fun s H Cc cl fp => pif_any (C.blk scope) ifs (i, s, H, Cc, cl, fp)) (fun s H Cc cl fp => pe_any (C.blk scope) elt (i, s, H, Cc, cl, fp)) (hs i)
/-- [elt for x in range(e) if ..] -/
theorem jn_lcR [Cold C] {n : Int} (j : Nat) (b : Nat → Bool) (f : Nat → D) (he : JE C ls e (.int n)) (hn : n < 1000000) (ht : ∀ i : Nat, i < n.toNat → JI (C.blk scope) (ls.set j (.val (.int i))) ifs (b i)) (hb : ∀ i : Nat, i < n.toNat → b i = true → JE (C.blk scope) (ls.set j (.val (.int i))) elt (f i)) (B : BOk C scope x j p1)
    (hj : ∀ l, ls[j]? = some l → l.keeps = true := by intro _ h; cases h; rfl) (hm : NoG C "range" := by assumption) (hg : ∀ j, Gl (C.X j) "range" := by intro _; rfl) (hs : NS e := by intro _ _; rfl) (hfs : ∀ i x, foldedSetIterable (.Call (.Name "range" p2) [e] [] p3) (C.X i).env x = pure x := by intro _ _; rfl) (h62 : -(2 ^ 62) ≤ n := by omega) :
    JN C ls (.ListComp elt [⟨.Name x p1, .Call (.Name "range" p2) [e] [] p3, ifs, 0⟩] scope pos) (outs n.toNat b f) :=
  jn_of (pe_lcA (tg := e) B (fun i => range' i (hg i) hm hs) hfs) (evN_lc j n.toNat (fun i => .int i) b f (fun _ Jt => Jt = Itr 0 n.toNat) (by omega) hj
    (fun F G H σ S xx R q => he F G H σ S xx _ fun v G' H' eg eh S' hv => ⟨n, by rw [dq_int hv], h62, by omega, q _ G' H' eg eh S' rfl⟩)
    (fun G Jt H hJ e => by subst hJ; exact Nat.le_refl _) (fun G Jt H i hJ e hi => by subst hJ; exact hi)
    (fun G Jt H i x H1 hJ e hi y => by
      subst hJ
      obtain ⟨rfl, rfl⟩ := y
      have e0 : (0 : Int) + (i : Int) = (i : Int) := Int.zero_add _
      exact ⟨rfl, by rw [e0]; exact .int _⟩) ht hb)
/-- over a frozen list; over a tuple -/
theorem jn_lcL [Cold C] {α : Type} {xs : List α} (g : α → D) (z : α) (j : Nat) (b : Nat → Bool) (f : Nat → D) (he : JE C ls e (.lst (xs.map g))) (hn : xs.length < 1000000) (ht : ∀ i, i < xs.length → JI (C.blk scope) (ls.set j (.val (g (xs.getD i z)))) ifs (b i)) (hb : ∀ i, i < xs.length → b i = true → JE (C.blk scope) (ls.set j (.val (g (xs.getD i z)))) elt (f i)) (B : BOk C scope x j p1)
    (hj : ∀ l, ls[j]? = some l → l.keeps = true := by intro _ h; cases h; rfl) (hfs : ∀ i x, foldedSetIterable e (C.X i).env x = pure x := by intro _ _; rfl) :
    JN C ls (.ListComp elt [⟨.Name x p1, e, ifs, 0⟩] scope pos) (outs xs.length b f) :=
  jn_of (pe_lcA (tg := e) (wi := iList C.K (eAny C e)) B (fun i => kx (p := fun K => PI (C.X i) _ e (iList K (eAny C e))) i (pi_list (pe_any C e i))) hfs) (evN_lc j xs.length (fun i => g (xs.getD i z)) b f (fun G Jt => ∃ a vs, Jt = Itl C.K a ∧ G a = some (.lst vs) ∧ DqAll C.K G vs (xs.map g)) hn hj
    (fun F G H σ S xx R q => he F G H σ S xx _ fun v G' H' eg eh S' hv => by
      obtain ⟨a, vs, rfl, ha, hd⟩ := dq_lst hv
      exact ⟨a, rfl, ⟨vs, SqL.of (S'.ex _ _ ha)⟩, q _ G' H' eg eh S' ⟨a, vs, rfl, ha, hd⟩⟩)
    (fun G Jt H hJ e => by
      obtain ⟨a, vs, rfl, ha, hd⟩ := hJ
      exact ⟨vs, SqL.of (e _ _ ha), by rw [hd.length, List.length_map]; exact Nat.le_refl _⟩)
    (fun G Jt H i hJ e hi => by
      obtain ⟨a, vs, rfl, ha, hd⟩ := hJ
      exact ⟨vs, vs[i]'(by rw [hd.length, List.length_map]; exact hi), SqL.of (e _ _ ha), List.getElem?_eq_getElem _⟩)
    (fun G Jt H i x H1 hJ e hi y => by
      obtain ⟨a, vs, rfl, ha, hd⟩ := hJ
      obtain ⟨rfl, y⟩ := y
      have hx := y vs (SqL.of (e _ _ ha))
      obtain ⟨d, e1, e2⟩ := hd.get' hx
      refine ⟨rfl, ?_⟩
      rw [List.getElem?_map, List.getElem?_eq_getElem hi] at e1
      cases e1
      rw [List.getD_eq_getElem?_getD, List.getElem?_eq_getElem hi]
      exact e2) ht hb)
theorem jn_lcT [Cold C] {α : Type} {xs : List α} (g : α → D) (z : α) (j : Nat) (b : Nat → Bool) (f : Nat → D) (he : JE C ls e (.tup (xs.map g))) (hn : xs.length < 1000000) (ht : ∀ i, i < xs.length → JI (C.blk scope) (ls.set j (.val (g (xs.getD i z)))) ifs (b i)) (hb : ∀ i, i < xs.length → b i = true → JE (C.blk scope) (ls.set j (.val (g (xs.getD i z)))) elt (f i)) (B : BOk C scope x j p1)
    (hj : ∀ l, ls[j]? = some l → l.keeps = true := by intro _ h; cases h; rfl) (hfs : ∀ i x, foldedSetIterable e (C.X i).env x = pure x := by intro _ _; rfl) :
    JN C ls (.ListComp elt [⟨.Name x p1, e, ifs, 0⟩] scope pos) (outs xs.length b f) :=
  jn_of (pe_lcA (tg := e) (wi := iTup C.K (eAny C e)) B (fun i => kx (p := fun K => PI (C.X i) _ e (iTup K (eAny C e))) i (pi_tup (pe_any C e i))) hfs) (evN_lc j xs.length (fun i => g (xs.getD i z)) b f (fun G Jt => ∃ a vs, Jt = Itt C.K a ∧ SqT C.K G a vs ∧ DqAll C.K G vs (xs.map g)) hn hj
    (fun F G H σ S xx R q => he F G H σ S xx _ fun v G' H' eg eh S' hv => by
      obtain ⟨a, vs, rfl, ha, hd⟩ := dq_tup hv
      exact ⟨a, rfl, ⟨vs, ex_t S'.ex ha⟩, q _ G' H' eg eh S' ⟨a, vs, rfl, ha, hd⟩⟩)
    (fun G Jt H hJ e => by
      obtain ⟨a, vs, rfl, ha, hd⟩ := hJ
      exact ⟨vs, ex_t e ha, by rw [hd.length, List.length_map]; exact Nat.le_refl _⟩)
    (fun G Jt H i hJ e hi => by
      obtain ⟨a, vs, rfl, ha, hd⟩ := hJ
      exact ⟨vs, vs[i]'(by rw [hd.length, List.length_map]; exact hi), ex_t e ha, List.getElem?_eq_getElem _⟩)
    (fun G Jt H i x H1 hJ e hi y => by
      obtain ⟨a, vs, rfl, ha, hd⟩ := hJ
      obtain ⟨rfl, y⟩ := y
      have hx := y vs (ex_t e ha)
      obtain ⟨d, e1, e2⟩ := hd.get' hx
      refine ⟨rfl, ?_⟩
      rw [List.getElem?_map, List.getElem?_eq_getElem hi] at e1
      cases e1
      rw [List.getD_eq_getElem?_getD, List.getElem?_eq_getElem hi]
      exact e2) ht hb)
end
end Qp

/-! Q6: calls with keywords, the law's end. -/
namespace Qp
open PySem PySem.Spec PyProof.Rows L2
/-- the parameters' values: perm says, for each parameter, which of the handed-in values (the positional ones first) it gets -/
def gPerm (n m : Nat) (perm : List Nat) {α : Type} (us ws : List α) : List α := if us.length = n ∧ ws.length = m then perm.filterMap (fun i => (us ++ ws)[i]?) else []
theorem vals_perm {vs : List V} {us : List Value} (r : Vals vs us) : ∀ perm : List Nat, Vals (perm.filterMap fun i => vs[i]?) (perm.filterMap fun i => us[i]?)
  | [] => .nil
  | i :: p => by
    rw [List.filterMap_cons, List.filterMap_cons]
    cases h : vs[i]? with
    | none => rw [Vals.none_of r h]; exact vals_perm r p
    | some x =>
      obtain ⟨u, e, q⟩ := Vals.get r h
      rw [e]
      exact .cons q (vals_perm r p)
theorem kb_of {K : Fg} {fd : FuncData} {ps ks : List Str} {n : Nat} {perm : List Nat} (hp : ps ≠ []) (h : ∀ us ws : List Value, us.length = n → ws.length = ks.length → bindArgs fd ⟨us, ks.zip ws⟩ = pure (ps.zip (perm.filterMap fun i => (us ++ ws)[i]?))) : KBinds K fd ps ks (gPerm n ks.length perm) (gPerm n ks.length perm) where
  to := fun s us ws _ hl => by
    unfold gPerm at hl ⊢
    by_cases c : us.length = n ∧ ws.length = ks.length
    · rw [if_pos c]
      exact .of_eq (h us ws c.1 c.2)
    · rw [if_neg c] at hl
      exact absurd (List.eq_nil_of_length_eq_zero hl.symm) hp
  rel := fun {vs us zs ws} r q => by
    unfold gPerm
    rw [r.length, q.length]
    by_cases c : us.length = n ∧ ws.length = ks.length
    · rw [if_pos c, if_pos c]
      exact vals_perm (r.append q) perm
    · rw [if_neg c, if_neg c]
      exact .nil
/-- a def called with keywords ks behind n positional values -/
structure Fk (P : Program) (w : World) (K : Fg) (mg : Str → Option Value) (base : Heap) (k : Nat) (x : Str) (n : Nat) (ks : List Str) (perm : List Nat) (R : Rel) (T : Addr → Prop := fun _ => False) : Prop where
  ex : ∃ f fd ps, FnOk P w K mg base CX0 k f fd ps (spD K R T) ∧ mg x = some (.ref f) ∧ PySem.W.keepIn K (.ref f) = true ∧ KBinds K fd ps ks (gPerm n ks.length perm) (gPerm n ks.length perm)
section
variable {X : Cx} {CX : CXT} {k : Nat} {f : Addr} {fd : FuncData} {ps ks : List Str} {sp : Sp} {E : XK} {x : Str} {p pos : Pos} {kws : List Keyword} {tk : TA} {g : List Value → List Value → List Value} {gV : List V → List V → List V}
theorem pe_callK0 (F : FnOk X.prog X.w X.K X.mg X.base CX k f fd ps sp) (hr : Room k X.A) (hg : Gl X x) (hm : X.mg x = some (.ref f)) (hk : PySem.W.keepIn X.K (.ref f) = true) (hb : KBinds X.K fd ps ks g gV) (hx : Passes CX X E)
    (hkw : PK X kws tk) (hall : (backToKw pos (keywordEach kws X.env)).all (·.1.isSome) = true) (hks : (backToKw pos (keywordEach kws X.env)).filterMap (·.1) = ks)
    (hpl : (backToKw pos (keywordEach kws X.env)).any (·.1.isNone) = false) (hdb : (x == ("__debug__" : Str)) = false := by decide) :
    PE X (.Call (.Name x p) [] kws pos) (tCallK sp gV E tNil tk) := by
  refine ⟨fun pins s σ H Q I h => ?_⟩
  refine wpAny_Call_Name_kw (ld_glob I hg hm ?_ hdb)
  refine PySem.W.callWith_KW0 (h₀ := X.base) I.ok.mod.kin hk hall ?_ (by show (false || _) = false; rw [hpl]; rfl)
  refine thn (hkw.run pos pins s σ H _ I h) fun ws s2 ⟨zs, H2, I2, rz, q2⟩ => ⟨I2.kIn, ?_⟩
  rw [hks]
  exact run_fnk (us := []) F hr hb hx I2 .nil rz q2
end
/-- keywords' values -/
def kAny (C : Cs) (kws : List Keyword) : TA := fun σ H Q => ∃ t : TA, (∀ i, PK (C.X i) kws t) ∧ t σ H Q
theorem pk_any (C : Cs) (kws : List Keyword) (i : C.ι) : PK (C.X i) kws (kAny C kws) := ⟨fun pos pins s σ H Q I h => by
  obtain ⟨t, ht, q⟩ := h
  exact (ht i).run pos pins s σ H Q I q⟩
def JK (C : Cs) (ls : List Loc) (kws : List Keyword) (ds : List D) : Prop := EvA C.K C.E (kAny C kws) ls ds
theorem kw_some : ∀ (kws : List Keyword) (env : Env) (pos : Pos), (∀ q ∈ kws, q.1.isSome = true) → (backToKw pos (keywordEach kws env)).all (·.1.isSome) = true ∧ (backToKw pos (keywordEach kws env)).any (·.1.isNone) = false ∧ (backToKw pos (keywordEach kws env)).filterMap (·.1) = kws.filterMap (·.1)
  | [], _, _, _ => ⟨rfl, rfl, rfl⟩
  | ⟨nm, v, kp⟩ :: r, env, pos, h => by
    obtain ⟨h1, h2, h3⟩ := kw_some r env pos fun q hq => h q (List.mem_cons_of_mem _ hq)
    have h0 : nm.isSome = true := h ⟨nm, v, kp⟩ List.mem_cons_self
    cases nm with
    | none => cases h0
    | some n =>
      refine ⟨?_, ?_, ?_⟩
      · show (true && (backToKw pos (keywordEach r env)).all (·.1.isSome)) = true
        rw [h1]; rfl
      · show (false || (backToKw pos (keywordEach r env)).any (·.1.isNone)) = false
        rw [h2]; rfl
      · show n :: (backToKw pos (keywordEach r env)).filterMap (·.1) = n :: r.filterMap (·.1)
        rw [h3]
section
variable {C : Cs} {ls : List Loc} {e : Expr} {d : D} {ds zs : List D} {p pos kpos : Pos} {x : Str} {k n : Nat} {ks : List Str} {perm : List Nat} {R : Rel} {r : List D → D → Prop} {Po : D → Prop} {kws : List Keyword} {nm : Option Str}
theorem jk_nil : JK C ls [] [] := fun F G H σ S xx Q q => ⟨tNil, fun _ => pk_nil, q [] G H (Ex.refl G) (Ex.refl H) S .nil⟩
theorem jk_cons (h : JE C ls e d) (r : JK C ls kws ds) : JK C ls (⟨nm, e, kpos⟩ :: kws) (d :: ds) := fun F G H σ S xx Q q => ⟨tCons (eAny C e) (kAny C kws), fun j => pk_cons (pe_any C e j) (pk_any C kws j), evA_cons (K := C.K) h r F G H σ S xx Q q⟩
theorem filt_map {α β : Type} (f : α → β) (l : List α) : ∀ perm : List Nat, (perm.filterMap fun i => (l.map f)[i]?) = (perm.filterMap fun i => l[i]?).map f
  | [] => rfl
  | i :: p => by
    rw [List.filterMap_cons, List.filterMap_cons, List.getElem?_map]
    cases l[i]? with
    | none => exact filt_map f l p
    | some x => show _ :: _ = _ :: _; rw [filt_map f l p]
theorem dqAll_perm {K : Fg} {G : Hp} {vs : List V} {ds : List D} (r : DqAll K G vs ds) : ∀ perm : List Nat, DqAll K G (perm.filterMap fun i => vs[i]?) (perm.filterMap fun i => ds[i]?)
  | [] => .nil
  | i :: p => by
    rw [List.filterMap_cons, List.filterMap_cons]
    cases h : ds[i]? with
    | none =>
      have h2 : vs[i]? = none := by
        rw [List.getElem?_eq_none_iff] at h ⊢
        rw [r.length]; exact h
      rw [h2]
      exact dqAll_perm r p
    | some x =>
      obtain ⟨u, e, q⟩ := r.get h
      rw [e]
      exact .cons q (dqAll_perm r p)
theorem jx_callK0 [Cold C] (F : Fk C.P C.w C.K C.mg C.base k x 0 ks perm R C.E.T) (ha : JK C ls kws ds) (hl : ds.length = ks.length) (hR : R (perm.filterMap fun i => ds[i]?) Po) (hns : ∀ q ∈ kws, q.1.isSome = true) (hks : kws.filterMap (·.1) = ks) (hk : k ≤ C.k := by exact Nat.le_of_ble_eq_true rfl) (hg : ∀ j, Gl (C.X j) x := by intro _; rfl) (hdb : (x == ("__debug__" : Str)) = false := by decide) :
    JX C ls (.Call (.Name x p) [] kws pos) Po := by
  obtain ⟨f, fd, ps, G, hm, kp, hb⟩ := F.ex
  refine fun F' G1 H1 σ S xx Q q => ⟨tCallK (spD C.K R C.E.T) (gPerm 0 ks.length perm) E0 tNil (kAny C kws), fun j => ?_, ha F' G1 H1 σ S xx _ fun vs G2 H2 eg2 eh2 S2 hv => ?_⟩
  · obtain ⟨h1, h2, h3⟩ := kw_some kws (C.X j).env pos hns
    exact pe_callK0 (fnAt G hk j) (C.cold j Cold.h) (hg j) (by rw [C.hmg]; exact hm) (by rw [C.hK]; exact kp) (by rw [C.hK]; exact hb) pass0 (pk_any C kws j) h1 (h3.trans hks) h2 hdb
  · have e1 : gPerm 0 ks.length perm [] vs = perm.filterMap fun i => vs[i]? := by
      unfold gPerm
      rw [if_pos ⟨rfl, by rw [hv.length]; exact hl⟩]
      rfl
    rw [e1]
    refine ⟨G2, _, Po, S2.ex, (xx.step eg2 eh2).tb, dqAll_perm hv perm, hR, fun d hd G3 H3 v eg3 e3 eh3 n3 hv3 => q d v G3 H3 hd (eg2.trans eg3) (eh2.trans eh3) (S2.grow eg3 eh3 e3 fun a ha => ?_) hv3⟩
    by_cases h2 : NT H2 a
    · exact Or.inl fun g => ha (n3 a h2 g)
    · exact Or.inr h2
theorem je_callK0 [Cold C] (F : Fk C.P C.w C.K C.mg C.base k x 0 ks perm (det r) C.E.T) (ha : JK C ls kws ds) (hl : ds.length = ks.length) (hR : r (perm.filterMap fun i => ds[i]?) d) (hns : ∀ q ∈ kws, q.1.isSome = true := by decide) (hks : kws.filterMap (·.1) = ks := by rfl) (hk : k ≤ C.k := by exact Nat.le_of_ble_eq_true rfl) (hg : ∀ j, Gl (C.X j) x := by intro _; rfl) (hdb : (x == ("__debug__" : Str)) = false := by decide) :
    JE C ls (.Call (.Name x p) [] kws pos) d := JX.je (jx_callK0 F ha hl ⟨d, hR, rfl⟩ hns hks hk hg hdb)
end
/-! ### the law's end -/
def rLaw : Rel := fun ds Po => ∃ ns : List Int, ns.length ≤ 63 ∧ ds = [.scr ns] ∧ Po = fun d => d = .bl true
theorem law_end {l : PySem.W.OpenLaw} {k : Nat} {q : Program} {loose : List Str} {XP : (Str → Option Value) → Heap → Prop} {YP : World → Heap → Prop} {d : DefRec} {K : Params → PySem.W.Frag} {x : Str}
    (hn : l.most = some 63) (hdf : d.params.defaults = []) (hr : Room k callerA) (hY : ∀ (w : World) (h : Heap), YP w h → (K w.params).In h)
    (F : ∀ (w : World) (mg : Str → Option Value) (fa : Addr) (h : Heap), (K w.params).In h → h.Ns mainGlobals mg → mg d.name = some (.ref fa) →
      ∃ fd : FuncData, (∀ (s : Shared) (u : Value), BindsTo s fd ⟨[u], []⟩ [(x, u)]) ∧
        ∀ base : Heap, (K w.params).In base → base.Ns mainGlobals mg → FnOk l.prog w (K w.params) mg base CX0 k fa fd [x] (spD (K w.params) rLaw)) :
    PySem.W.WalkO q loose XP YP l.row.toRowW d [] (fun f vs => PySem.call f vs) :=
  L2.walk_of (n := 63) (CX := fun _ => CX0) (sp := fun w => spD (K w.params) rLaw) hn (by decide) hdf hr hY F
    (fun w H a ns hl _ hS => ⟨H, [.scr ns], _, Ex.refl H, fun _ z => z.elim, .cons (.scr hS) .nil, ⟨ns, hl, rfl, rfl⟩, fun d hd G' H' v _ _ _ _ hv => by subst hd; exact dq_bl hv⟩) fun _ _ _ _ _ z => z
/-- a def of the text, and how it is called, from what the head's facts say -/
theorem fn_mk {P : Program} {w : World} {K : Fg} {mg : Str → Option Value} {base : Heap} {k : Nat} {x qual : Str} {st : Stmt} {f : Addr} {fd : FuncData} {ps : List Str} {R : Rel} {T : Addr → Prop} (F : Fun K x qual st f fd) (G : FnOk P w K mg base CX0 k f fd ps (spD K R T)) (hm : mg x = some (.ref f)) (hb : Binds K fd ps []) : Fn P w K mg base k x R T := ⟨f, fd, ps, G, hm, F.kp, hb⟩
theorem fk_mk {P : Program} {w : World} {K : Fg} {mg : Str → Option Value} {base : Heap} {k : Nat} {x qual : Str} {st : Stmt} {f : Addr} {fd : FuncData} {ps ks : List Str} {n : Nat} {perm : List Nat} {R : Rel} {T : Addr → Prop} (F : Fun K x qual st f fd) (G : FnOk P w K mg base CX0 k f fd ps (spD K R T)) (hm : mg x = some (.ref f)) (hp : ps ≠ [])
    (h : ∀ (kV doc pm : Value) (an : Option Addr) (cdv ct : Value) (us ws : List Value), us.length = n → ws.length = ks.length → bindArgs (PySem.W.fnOf x qual (defArgs st) (defBody st) (defScope st) .none kV doc pm an cdv ct) ⟨us, ks.zip ws⟩ = pure (ps.zip (perm.filterMap fun i => (us ++ ws)[i]?))) : Fk P w K mg base k x n ks perm R T := by
  obtain ⟨oc, od, kV, doc, pm, an, cdv, ct, osl, rfl, lk, hcd⟩ := F.ex
  exact ⟨f, _, ps, G, hm, F.kp, kb_of hp (h kV doc pm an cdv ct)⟩
/-- a def as it stands behind the top -/
structure FT (K : Fg) (mg : Str → Option Value) (x : Str) (st : Stmt) : Prop where
  ex : ∃ f fd, Fun K x x st f fd ∧ mg x = some (.ref f)
theorem ft_mk {K : Fg} {h : Heap} {mg : Str → Option Value} {x : Str} {st : Stmt} {f : Addr} (X : K.In h) (G : h.Ns mainGlobals mg) {od an : Option Addr} {sl : Array (Option Value)} {oc kV dc pm cd ct : Value}
    (a : PySem.W.nsIn K mainGlobals x = some (some (.ref f))) (l : K.lookup f = some ⟨oc, od, .func (PySem.W.fnOf x x (defArgs st) (defBody st) (defScope st) .none kV dc pm an cd ct), sl⟩) (c : PySem.W.codeIn K cd x = true) (k : PySem.W.keepIn K (.ref f) = true) : FT K mg x st :=
  ⟨f, _, fun_mk (st := st) l c k, PySem.W.mg_of X G a⟩
section
variable {P : Program} {w : World} {K : Fg} {mg : Str → Option Value} {base : Heap} {k : Nat} {x : Str} {st : Stmt} {ps ks : List Str} {R : Rel} {T : Addr → Prop} {n : Nat} {perm : List Nat}
theorem FT.fn (Y : FT K mg x st) (G : ∀ {f fd}, Fun K x x st f fd → FnOk P w K mg base CX0 k f fd ps (spD K R T)) (h : ∀ (kV doc pm : Value) (an : Option Addr) (cdv ct : Value) (us : List Value), us.length = ps.length → bindArgs (PySem.W.fnOf x x (defArgs st) (defBody st) (defScope st) .none kV doc pm an cdv ct) ⟨us, []⟩ = pure (ps.zip us)) : Fn P w K mg base k x R T := by
  obtain ⟨f, fd, F, hm⟩ := Y.ex
  exact fn_mk F (G F) hm (F.binds h)
theorem FT.fk (Y : FT K mg x st) (G : ∀ {f fd}, Fun K x x st f fd → FnOk P w K mg base CX0 k f fd ps (spD K R T)) (hp : ps ≠ [])
    (h : ∀ (kV doc pm : Value) (an : Option Addr) (cdv ct : Value) (us ws : List Value), us.length = n → ws.length = ks.length → bindArgs (PySem.W.fnOf x x (defArgs st) (defBody st) (defScope st) .none kV doc pm an cdv ct) ⟨us, ks.zip ws⟩ = pure (ps.zip (perm.filterMap fun i => (us ++ ws)[i]?))) : Fk P w K mg base k x n ks perm R T := by
  obtain ⟨f, fd, F, hm⟩ := Y.ex
  exact fk_mk F (G F) hm hp h
theorem FT.law {lp : Program} (Y : FT K mg "law" st) {fa : Addr} (hfa : mg "law" = some (.ref fa)) (G : ∀ (base : Heap) {f fd}, Fun K "law" "law" st f fd → FnOk lp w K mg base CX0 k f fd ["script"] (spD K R T))
    (h : ∀ (kV doc pm : Value) (an : Option Addr) (cdv ct : Value) (v : Value), bindArgs (PySem.W.fnOf "law" "law" (defArgs st) (defBody st) (defScope st) .none kV doc pm an cdv ct) ⟨[v], []⟩ = pure [(("script" : Str), v)]) :
    ∃ fd : FuncData, (∀ (s : Shared) (u : Value), BindsTo s fd ⟨[u], []⟩ [("script", u)]) ∧ ∀ base : Heap, K.In base → base.Ns mainGlobals mg → FnOk lp w K mg base CX0 k fa fd ["script"] (spD K R T) := by
  obtain ⟨f, fd, F, hm⟩ := Y.ex
  have e := hfa.symm.trans hm
  cases e
  refine ⟨fd, fun s u => ?_, fun base _ _ => G base F⟩
  obtain ⟨oc, od, kV, doc, pm, an, cdv, ct, osl, rfl, lk, hcd⟩ := F.ex
  exact .of_eq (h kV doc pm an cdv ct u)
end
end Qp

/-! Q7: lists of ints, squares, as data. -/
namespace Qp
open PySem PySem.Spec PyProof.Rows L2
def iL (ns : List Int) : List D := ns.map D.int
theorem iL_app (xs : List Int) (x : Int) : iL xs ++ [D.int x] = iL (xs ++ [x]) := by
  unfold iL; rw [List.map_append]; rfl
theorem iL_cat (xs ys : List Int) : iL xs ++ iL ys = iL (xs ++ ys) := by
  unfold iL; rw [List.map_append]
theorem iL_len (xs : List Int) : (iL xs).length = xs.length := by unfold iL; rw [List.length_map]
theorem iL_get (xs : List Int) (i : Nat) : (iL xs)[i]? = xs[i]?.map D.int := by unfold iL; rw [List.getElem?_map]
theorem iL_getD {xs : List Int} {i : Nat} (h : i < xs.length) : (iL xs)[i]? = some (.int (xs.getD i 0)) := by
  rw [iL_get, List.getElem?_eq_getElem h, List.getD_eq_getElem?_getD, List.getElem?_eq_getElem h]; rfl
theorem atI_iL {xs : List Int} {i : Nat} (h : i < xs.length) : atI (iL xs) (i : Int) = some (.int (xs.getD i 0)) := atI_nat (iL_getD h)
/-- an int as a place -/
theorem atI_int {xs : List Int} {i : Int} (h0 : 0 ≤ i) (h : i < xs.length) : atI (iL xs) i = some (.int (xs.getD i.toNat 0)) := by
  have e : i = (i.toNat : Int) := by omega
  rw [e, Int.toNat_natCast]
  exact atI_iL (by omega)
theorem atI_map {α : Type} {xs : List α} (g : α → D) (z : α) {i : Int} (h0 : 0 ≤ i) (h : i < xs.length) : atI (xs.map g) i = some (g (xs.getD i.toNat z)) := by
  have e : i = (i.toNat : Int) := by omega
  rw [e, Int.toNat_natCast]
  have h2 : i.toNat < xs.length := by omega
  refine atI_nat ?_
  rw [List.getElem?_map, List.getElem?_eq_getElem h2, List.getD_eq_getElem?_getD, List.getElem?_eq_getElem h2]; rfl
theorem getD_mem {α : Type} {xs : List α} {i : Nat} (z : α) (h : i < xs.length) : xs.getD i z ∈ xs := by
  rw [List.getD_eq_getElem?_getD, List.getElem?_eq_getElem h]; exact List.getElem_mem h
/-- rows of ints as tuples; as lists -/
def tR (rows : List (List Int)) : D := .tup (rows.map fun r => .tup (iL r))
def lR (rows : List (List Int)) : D := .lst (rows.map fun r => .lst (iL r))
theorem outs_listD {α : Type} (xs : List α) (z : α) (g : α → D) {n : Nat} {b : Nat → Bool} {f : Nat → D} (hn : n = xs.length) (hb : b = fun _ => true) (hf : f = fun i => g (xs.getD i z)) : outs n b f = xs.map g := by
  subst hn hb hf
  exact outs_list xs z g
theorem outs_iL {n : Nat} {b : Nat → Bool} {f : Nat → D} (xs : List Int) (hn : n = xs.length) (hb : b = fun _ => true) (hf : ∀ i, i < n → f i = .int (xs.getD i 0)) : outs n b f = iL xs := by
  subst hn hb
  rw [outs_all]
  apply List.ext_getElem?
  intro i
  by_cases hi : i < xs.length
  · rw [List.getElem?_map, List.getElem?_range hi, iL_getD hi]
    show some (f i) = _
    rw [hf i hi]
  · rw [List.getElem?_map, List.getElem?_eq_none (by rw [List.length_range]; omega), List.getElem?_eq_none (by rw [iL_len]; omega)]; rfl
theorem outs_map {α : Type} {n : Nat} {b : Nat → Bool} {f : Nat → D} (xs : List α) (z : α) (g : α → D) (hn : n = xs.length) (hb : b = fun _ => true) (hf : ∀ i, i < n → f i = g (xs.getD i z)) : outs n b f = xs.map g := by
  subst hn hb
  rw [outs_all]
  apply List.ext_getElem?
  intro i
  by_cases hi : i < xs.length
  · rw [List.getElem?_map, List.getElem?_range hi, List.getElem?_map, List.getElem?_eq_getElem hi]
    show some (f i) = _
    rw [hf i hi, List.getD_eq_getElem?_getD, List.getElem?_eq_getElem hi]; rfl
  · rw [List.getElem?_map, List.getElem?_eq_none (by rw [List.length_range]; omega), List.getElem?_map, List.getElem?_eq_none (by omega)]; rfl
/-- a written part of a list of ints -/
def cutL {α : Type} (xs : List α) (lo hi : Option Int) : List α := (xs.drop (HT.sIx xs.length 0 lo)).take (HT.sIx xs.length xs.length hi - HT.sIx xs.length 0 lo)
theorem cutD_map {α : Type} (xs : List α) (g : α → D) (lo hi : Option Int) : cutD (xs.map g) lo hi = (cutL xs lo hi).map g := by
  unfold cutD cutL
  rw [List.length_map, List.map_take, List.map_drop]
theorem cutD_iL (xs : List Int) (lo hi : Option Int) : cutD (iL xs) lo hi = iL (cutL xs lo hi) := cutD_map xs D.int lo hi
theorem cutL_nat {α : Type} {xs : List α} {a b : Nat} (hab : a ≤ b) (hb : b ≤ xs.length) : cutL xs (some (a : Int)) (some (b : Int)) = (xs.drop a).take (b - a) := by
  unfold cutL
  rw [HT.sIx_nat, HT.sIx_nat, Nat.min_eq_left hb, Nat.min_eq_left (Nat.le_trans hab hb)]
theorem cutL_lo {α : Type} {xs : List α} {a : Nat} (h : a ≤ xs.length) : cutL xs (some (a : Int)) none = xs.drop a := by
  unfold cutL
  rw [HT.sIx_nat, HT.sIx_none, Nat.min_eq_left h]
  exact List.take_of_length_le (by rw [List.length_drop]; exact Nat.le_refl _)
theorem cutL_hi {α : Type} {xs : List α} {b : Nat} (h : b ≤ xs.length) : cutL xs none (some (b : Int)) = xs.take b := by
  unfold cutL
  rw [HT.sIx_nat, HT.sIx_none, Nat.min_eq_left h, Nat.sub_zero, List.drop_zero]
section
variable {C : Cs} {ls : List Loc} {e a b : Expr} {d d1 : D} {ds : List D} {pos : Pos}
/-- a list of ints at an open place: some int of which p holds -/
theorem jx_ixI {xs : List Int} {i : Int} (p : Int → Prop) (ha : JC C ls a (iL xs)) (hb : JE C ls b (.int i)) (h0 : 0 ≤ i ∧ i < xs.length) (hp : ∀ x ∈ xs, p x) (hs : PlainIx b := by intro _ _; rfl) : JX C ls (.Subscript a b pos) fun d => ∃ x, d = .int x ∧ p x :=
  .of (je_ixL ha hb (atI_int h0.1 h0.2) hs) ⟨_, rfl, hp _ (getD_mem 0 (by omega))⟩
theorem all_nil {p : Int → Prop} : ∀ x ∈ ([] : List Int), p x := fun _ h => (List.not_mem_nil h).elim
theorem all_cons {p : Int → Prop} {x : Int} {xs : List Int} (h : p x) (r : ∀ y ∈ xs, p y) : ∀ y ∈ x :: xs, p y := fun y hy => (List.mem_cons.mp hy).elim (fun e => e ▸ h) (r y)
end
/-! kinds -/
section
variable {xs : List D} {i : Int} {b : Bool} {x : Str} {ns : List Int}
@[simp] theorem isTup_tup : (D.tup xs).isTup = true := rfl
@[simp] theorem isTup_lst : (D.lst xs).isTup = false := rfl
@[simp] theorem isTup_int : (D.int i).isTup = false := rfl
@[simp] theorem isLst_lst : (D.lst xs).isLst = true := rfl
@[simp] theorem isLst_tup : (D.tup xs).isLst = false := rfl
@[simp] theorem isLst_int : (D.int i).isLst = false := rfl
@[simp] theorem isInt_int : (D.int i).isInt = true := rfl
@[simp] theorem isInt_bl : (D.bl b).isInt = true := rfl
@[simp] theorem isBool_int : (D.int i).isBool = false := rfl
@[simp] theorem isBool_bl : (D.bl b).isBool = true := rfl
@[simp] theorem isStr_str : (D.str x).isStr = true := rfl
@[simp] theorem isTup_tR {rows : List (List Int)} : (tR rows).isTup = true := rfl
end
/-! numbers -/
theorem mulW {i j : Int} {a b : Nat} (ha : i.natAbs < 2 ^ a) (hb : j.natAbs < 2 ^ b) (h0 : 0 < a) (h1 : 0 < b) (h : a + b ≤ 1000000) : IntMulOk i j := (wide_mul ha hb h0 h1 h).ok
theorem divW {i j : Int} {b : Nat} (h : 0 < j) (hb : j < 2 ^ b) (h0 : 0 < b) (h9 : b ≤ 9000) : CDivW i j := wide_div h (by
  have e : ((j.natAbs : Nat) : Int) = j := by omega
  have e2 : ((2 ^ b : Nat) : Int) = (2 : Int) ^ b := by rw [Int.natCast_pow]; rfl
  omega) h0 h9
theorem log2_of {j : Int} {b : Nat} (h : 0 ≤ j) (hb : j < 2 ^ b) (h0 : 0 < b) : j.natAbs.log2 < b := PySem.Flt.log2_lt_of h0 (by
  have e : ((j.natAbs : Nat) : Int) = j := by omega
  have e2 : ((2 ^ b : Nat) : Int) = (2 : Int) ^ b := by rw [Int.natCast_pow]; rfl
  omega)
/-! the laws' draws -/
def mCell (ns : List Int) (k : Nat) : Int := ((ns.getD k 0).natAbs : Int)
def mix (cell k : Int) : Int :=
  let first := (cell * 48271 + (k + 1) * 69621) % 2147483647
  let second := (first * first + (k + 1) * 40692) % 2147483399
  (second * second + first) % 2147483647
def drawsFrom (cell most : Int) : Nat → Nat → Int → List Int
  | 0, _, _ => []
  | n + 1, k, left => if most ≤ left then left % most :: drawsFrom cell most n (k + 1) (left / most) else mix cell k % most :: drawsFrom cell most n (k + 1) left
def draws (cell : Int) (many : Nat) (most : Int) : List Int := drawsFrom cell most many 0 (if 1000000000000000000 ≤ cell then cell else 0)
theorem drawsFrom_len (cell most : Int) : ∀ (n k : Nat) (left : Int), (drawsFrom cell most n k left).length = n
  | 0, _, _ => rfl
  | n + 1, k, left => by
    unfold drawsFrom
    split <;> rw [List.length_cons, drawsFrom_len]
theorem draws_len (cell : Int) (many : Nat) (most : Int) : (draws cell many most).length = many := drawsFrom_len _ _ _ _ _
theorem drawsFrom_mem {cell most : Int} (h : 0 < most) : ∀ (n k : Nat) (left : Int), ∀ x ∈ drawsFrom cell most n k left, 0 ≤ x ∧ x < most
  | 0, _, _, x, hx => by cases hx
  | n + 1, k, left, x, hx => by
    unfold drawsFrom at hx
    split at hx
    · rcases List.mem_cons.mp hx with e | e
      · subst e; exact ⟨Int.emod_nonneg _ (by omega), Int.emod_lt_of_pos _ h⟩
      · exact drawsFrom_mem h n (k + 1) _ x e
    · rcases List.mem_cons.mp hx with e | e
      · subst e; exact ⟨Int.emod_nonneg _ (by omega), Int.emod_lt_of_pos _ h⟩
      · exact drawsFrom_mem h n (k + 1) _ x e
theorem draws_mem {cell : Int} {many : Nat} {most : Int} (h : 0 < most) {i : Nat} (hi : i < many) : 0 ≤ (draws cell many most).getD i 0 ∧ (draws cell many most).getD i 0 < most :=
  drawsFrom_mem h _ _ _ _ (getD_mem 0 (by have := draws_len cell many most; unfold draws at this; rw [this]; exact hi))
def rCell : List D → D → Prop := fun ds d => ∃ (ns : List Int) (k : Nat), ds = [.scr ns, .int k] ∧ d = .int (mCell ns k)
def rDraws : List D → D → Prop := fun ds d => ∃ (cell : Int) (many : Nat) (most : Int), ds = [.int cell, .int many, .int most] ∧ many < 100000 ∧ 0 < most ∧ most.natAbs.log2 < 9000 ∧ d = .lst (iL (draws cell many most))
end Qp

set_option maxHeartbeats 4000000
namespace T6
open PySem PySem.Spec PyProof.Rows L2 Qp
def top (i : Nat) : Stmt := PySem.Challenge.pw_picturetide_k06_levels.main.body.getD i (.Pass ⟨0, 0, 0, 0⟩)
abbrev sPLevel : Stmt := top 1
abbrev sPLevels : Stmt := top 2
abbrev sPUn : Stmt := top 3
abbrev sCell : Stmt := top 7
abbrev sDraws : Stmt := top 8
abbrev sSame : Stmt := top 9
abbrev sStep : Stmt := top 10
abbrev sInts : Stmt := top 11
abbrev sLevel : Stmt := top 12
abbrev sAsked : Stmt := top 13
abbrev sLaw : Stmt := top 14
/-! ### the mathematics -/
def mLevel (w s : Int) : Int := if w < 0 then -(((w.natAbs : Int) + s / 2) / s) else ((w.natAbs : Int) + s / 2) / s
/-! ### scopes -/
theorem scLevel : FnScope ["worth", "step", "size"] ["worth", "step"] (defScope sLevel) := ⟨rfl, rfl, rfl, by decide +kernel, rfl, by decide +kernel, by decide +kernel⟩
theorem scCell : FnScope ["script", "k"] ["script", "k"] (defScope sCell) := ⟨rfl, rfl, rfl, by decide +kernel, rfl, by decide +kernel, by decide +kernel⟩
theorem scDraws : FnScope ["cell", "many", "most", "left", "row", "k", "first", "second", "third"] ["cell", "many", "most"] (defScope sDraws) := ⟨rfl, rfl, rfl, by decide +kernel, rfl, by decide +kernel, by decide +kernel⟩
theorem scPLevel : FnScope ["c", "q", "size"] ["c", "q"] (defScope sPLevel) := ⟨rfl, rfl, rfl, by decide +kernel, rfl, by decide +kernel, by decide +kernel⟩
theorem scPLevels : FnScope ["square", "q", "row", "member"] ["square", "q"] (defScope sPLevels) := ⟨rfl, rfl, rfl, by decide +kernel, rfl, by decide +kernel, by decide +kernel⟩
theorem scPUn : FnScope ["square", "q", "row", "member"] ["square", "q"] (defScope sPUn) := ⟨rfl, rfl, rfl, by decide +kernel, rfl, by decide +kernel, by decide +kernel⟩
theorem scSame : FnScope ["told", "due", "y", "x", "value"] ["told", "due"] (defScope sSame) := ⟨rfl, rfl, rfl, by decide +kernel, rfl, by decide +kernel, by decide +kernel⟩
theorem scStep : FnScope ["script", "draws"] ["script"] (defScope sStep) := ⟨rfl, rfl, rfl, by decide +kernel, rfl, by decide +kernel, by decide +kernel⟩
theorem scInts : FnScope ["cell", "many", "step", "draws", "made", "k", "draw", "far", "times", "half", "rest", "worth"] ["cell", "many", "step"] (defScope sInts) := ⟨rfl, rfl, rfl, by decide +kernel, rfl, by decide +kernel, by decide +kernel⟩
/-! ### what each def promises -/
def rLevel : List D → D → Prop := fun ds d => ∃ w s : Int, ds = [.int w, .int s] ∧ 0 < s ∧ s.natAbs.log2 < 9000 ∧ d = .int (mLevel w s)
def rLevels : List D → D → Prop := fun ds d => ∃ (rows : List (List Int)) (s : Int), ds = [tR rows, .int s] ∧ rows.length < 100 ∧ (∀ r ∈ rows, r.length < 100) ∧ 0 < s ∧ s.natAbs.log2 < 9000 ∧ d = tR (rows.map fun r => r.map fun w => mLevel w s)
def rSame : List D → D → Prop := fun ds d => ∃ (rows : List (List Int)) (due : D), ds = [tR rows, due] ∧ (due = tR rows ∨ due = lR rows) ∧ rows.length < 100 ∧ (∀ r ∈ rows, r.length = rows.length) ∧ d = .bl true
def pStep (d : D) : Prop := ∃ s, d = .int s ∧ 0 < s ∧ s ≤ 100000000000000000000
def rStep : Rel := fun ds Po => ∃ ns, ds = [.scr ns] ∧ Po = pStep
def rInts : Rel := fun ds Po => ∃ (cell : Int) (many : Nat) (step : Int), ds = [.int cell, .int many, .int step] ∧ many < 1000 ∧ 0 < step ∧ step ≤ 100000000000000000000 ∧ Po = fun d => ∃ vs : List Int, d = .lst (iL vs) ∧ vs.length = many ∧ ∀ v ∈ vs, v.natAbs < 2 ^ 100
section
variable {P : Program} {w : World} {K : Fg} {mg : Str → Option Value} {base : Heap}
theorem ok_level {f : Addr} {fd : FuncData} {k : Nat} (F : Fun K "_law_level" "_law_level" sLevel f fd) (mabs : mg "abs" = none) : FnOk P w K mg base CX0 (k + 1) f fd ["worth", "step"] (spD K (det rLevel)) := by
  refine fn_okd F scLevel (fun ds d h => ?_) (fun cdv A outer s H E hr ds d h => ?_)
  · obtain ⟨_, _, rfl, _⟩ := h
    rfl
  · obtain ⟨w, s, rfl, h1, h2, rfl⟩ := h
    refine jb_set 2 (je_fdiv (je_add (je_abs (je_v 0) mabs) (je_fdiv (je_v 1) je_int)) (je_v 1) ⟨h1, h2⟩) ?_
    refine jb_ifx (jt_lt (je_v 0) je_int) (fun hk => jb_ret (je_neg (je_v 2)) ?_) fun hk => jb_ret (je_v 2) ?_
    · show D.int _ = D.int (mLevel w s)
      unfold mLevel
      rw [if_pos (of_decide_eq_true hk)]
    · show D.int _ = D.int (mLevel w s)
      unfold mLevel
      rw [if_neg (of_decide_eq_false hk)]
theorem ok_cell {f : Addr} {fd : FuncData} {k : Nat} (F : Fun K "_law_cell" "_law_cell" sCell f fd) (mabs : mg "abs" = none) (mlen : mg "len" = none) (mint : mg "int" = none) : FnOk P w K mg base CX0 (k + 1) f fd ["script", "k"] (spD K (det rCell)) := by
  refine fn_okd F scCell (fun ds d h => ?_) (fun cdv A outer s H E hr ds d h => ?_)
  · obtain ⟨_, _, rfl, _⟩ := h
    rfl
  · obtain ⟨ns, i, rfl, rfl⟩ := h
    refine jb_ifx (jt_lt (je_v 1) (je_lenScr (je_v 0) mlen)) (fun hk => jb_ret (je_abs (je_intI (je_ixScr (n := ns.getD i 0) (je_v 0) (je_v 1) ?_) mint) mabs) rfl) fun hk => jb_ret je_int ?_
    · have h := of_decide_eq_true hk
      have h2 : i < ns.length := by omega
      rw [List.getD_eq_getElem?_getD, List.getElem?_eq_getElem h2]
      exact atI_nat (List.getElem?_eq_getElem h2)
    · have h := of_decide_eq_false hk
      have h2 : ¬ i < ns.length := by omega
      show D.int 0 = D.int (mCell ns i)
      unfold mCell
      rw [List.getD_eq_getElem?_getD, List.getElem?_eq_none (by omega)]
      rfl
theorem ok_draws {f : Addr} {fd : FuncData} {k : Nat} (F : Fun K "_law_draws" "_law_draws" sDraws f fd) (mrange : mg "range" = none) (mint : mg "int" = none) : FnOk P w K mg base CX0 (k + 1) f fd ["cell", "many", "most"] (spD K (det rDraws)) := by
  refine fn_okd F scDraws (fun ds d h => ?_) (fun cdv A outer s H E hr ds d h => ?_)
  · obtain ⟨_, _, _, rfl, _⟩ := h
    rfl
  · obtain ⟨cell, many, most, rfl, hm, h0, h1, rfl⟩ := h
    refine jb_set 3 je_int ?_
    refine jb_if (fun l => l = [.val (.int cell), .val (.int many), .val (.int most), .val (.int (if 1000000000000000000 ≤ cell then cell else 0)), .any, .any, .any, .any, .any]) (jt_ge (je_v 0) (je_powL 1000000000000000000 je_int je_int)) (fun hk => jb_one (js_set 3 (je_v 0) ?_)) (fun hk => jb_nil ?_) ?_
    · show [Loc.val (.int cell), .val (.int many), .val (.int most), .val (.int cell), .any, .any, .any, .any, .any] = _
      rw [if_pos (of_decide_eq_true hk)]
    · show [Loc.val (.int cell), .val (.int many), .val (.int most), .val (.int 0), .any, .any, .any, .any, .any] = _
      rw [if_neg (of_decide_eq_false hk)]
    rintro _ rfl
    refine jb_setN 4 (jn_lst ja_nil) ?_
    refine jb_cons _ (js_forR 5 (fun i l => ∃ left pre, l = [.val (.int cell), .val (.int many), .val (.int most), .val (.int left), .own (iL pre), .any, .any, .any, .any] ∧ draws cell many most = pre ++ drawsFrom cell most (many - i) i left ∧ pre.length = i) (je_v 1) (by omega) ⟨_, [], rfl, rfl, rfl⟩ ?_ fun l h => h) ?_
    · rintro i _ hi ⟨left, pre, rfl, hd, hle⟩
      have hi' : i < many := by omega
      have hn : many - i = (many - (i + 1)) + 1 := by omega
      have hz : (iL pre).length < 1000000 := by rw [iL_len]; omega
      rw [hn] at hd
      unfold drawsFrom at hd
      refine jb_one (js_if (jt_ge (je_v 3) (je_v 2)) (fun hk => ?_) (fun hk => ?_))
      · rw [if_pos (of_decide_eq_true hk)] at hd
        refine jb_app 4 (je_mod (je_intI (je_v 3) mint) (je_v 2)) rfl ?_ hz
        refine jb_set 3 (je_fdiv (je_v 3) (je_v 2) ⟨h0, h1⟩) (jb_end [5] ⟨_, _, by rw [iL_app]; rfl, by rw [hd, List.append_cons], by rw [List.length_append, hle]; rfl⟩)
      · rw [if_neg (of_decide_eq_false hk)] at hd
        refine jb_set 6 (je_mod (je_intI (je_add (je_mul (je_v 0) je_int) (je_mul (je_add (je_v 5) je_int) je_int)) mint) je_int) ?_
        refine jb_set 7 (je_mod (je_intI (je_add (je_mul (je_v 6) (je_v 6)) (je_mul (je_add (je_v 5) je_int) je_int)) mint) je_int) ?_
        refine jb_set 8 (je_mod (je_intI (je_add (je_mul (je_v 7) (je_v 7)) (je_v 6)) mint) je_int) ?_
        refine jb_app 4 (je_mod (je_v 8) (je_v 2)) rfl ?_ hz
        exact jb_end [5, 6, 7, 8] ⟨_, _, by rw [iL_app]; rfl, by rw [hd, List.append_cons]; rfl, by rw [List.length_append, hle]; rfl⟩
    · rintro _ ⟨left, pre, rfl, hd, hle⟩
      refine jb_thaw 4 rfl (jb_ret (je_v 4) ?_)
      show D.lst _ = D.lst _
      rw [show many - ((many : Int)).toNat = 0 by omega] at hd
      rw [show drawsFrom cell most 0 _ left = [] from rfl, List.append_nil] at hd
      rw [← hd]
theorem ok_step {f : Addr} {fd : FuncData} (F : Fun K "_law_step" "_law_step" sStep f fd) (mint : mg "int" = none) (GC : Fn P w K mg base 1 "_law_cell" (det rCell)) (GD : Fn P w K mg base 1 "_law_draws" (det rDraws)) : FnOk P w K mg base CX0 2 f fd ["script"] (spD K rStep) := by
  refine fn_ok F scStep (fun ds d h => ?_) (fun cdv A outer s H E hr ds Po h => ?_)
  · obtain ⟨_, rfl, _⟩ := h
    rfl
  · obtain ⟨ns, rfl, rfl⟩ := h
    refine jb_set 1 (je_call GD (ja_cons (je_call GC (ja_cons (je_v 0) (ja_cons je_int ja_nil)) ⟨ns, 0, rfl, rfl⟩) (ja_cons je_int (ja_cons (je_powL 100000000000000000000 je_int je_int) ja_nil))) ⟨_, 3, _, rfl, by decide, by decide, by decide, rfl⟩) ?_
    have dm : ∀ i, i < 3 → _ := fun i hi => draws_mem (cell := mCell ns 0) (many := 3) (most := 100000000000000000000) (by decide) hi
    have dl : (draws (mCell ns 0) 3 100000000000000000000).length = 3 := draws_len _ _ _
    have ix : ∀ i : Nat, i < 3 → atI (iL (draws (mCell ns 0) 3 100000000000000000000)) (i : Int) = some (.int ((draws (mCell ns 0) 3 100000000000000000000).getD i 0)) := fun i hi => atI_iL (by omega)
    refine jb_ifx (jt_eq (je_mod (je_intI (je_ixL (JC.je (je_v 1)) je_int (ix 0 (by decide))) mint) je_int) je_int) (fun hk => ?_) fun hk => ?_
    · refine jb_retX (jx_ixI (xs := [1, 2, 4, 8, 16, 32, 64]) (fun x => 0 < x ∧ x ≤ 100000000000000000000) (JC.new (jn_lst (ja_cons je_int (ja_cons je_int (ja_cons je_int (ja_cons je_int (ja_cons je_int (ja_cons je_int (ja_cons je_int ja_nil))))))) )) (je_mod (je_intI (je_ixL (JC.je (je_v 1)) je_int (ix 1 (by decide))) mint) je_int) ?_ ?_) fun d hd => hd
      · show 0 ≤ _ ∧ _ < (7 : Int)
        omega
      · exact all_cons (by decide) (all_cons (by decide) (all_cons (by decide) (all_cons (by decide) (all_cons (by decide) (all_cons (by decide) (all_cons (by decide) all_nil))))))
    · refine jb_ifx (jt_eq (je_mod (je_intI (je_ixL (JC.je (je_v 1)) je_int (ix 0 (by decide))) mint) je_int) je_int) (fun hk => ?_) fun hk => ?_
      · refine jb_ret (je_add je_int (je_mod (je_intI (je_ixL (JC.je (je_v 1)) je_int (ix 1 (by decide))) mint) je_int)) ⟨_, rfl, ?_⟩
        omega
      · refine jb_ret (je_add je_int (je_ixL (JC.je (je_v 1)) je_int (ix 2 (by decide)))) ⟨_, rfl, ?_⟩
        have := dm 2 (by decide)
        omega
theorem ok_ints {f : Addr} {fd : FuncData} (F : Fun K "_law_integers" "_law_integers" sInts f fd) (mint : mg "int" = none) (mrange : mg "range" = none) (GD : Fn P w K mg base 1 "_law_draws" (det rDraws)) : FnOk P w K mg base CX0 2 f fd ["cell", "many", "step"] (spD K rInts) := by
  refine fn_ok F scInts (fun ds d h => ?_) (fun cdv A outer s H E hr ds Po h => ?_)
  · obtain ⟨_, _, _, rfl, _⟩ := h
    rfl
  · obtain ⟨cell, many, step, rfl, hm, h0, h1, rfl⟩ := h
    have hstep : CDivW step 2 := ⟨by decide, by decide⟩
    refine jb_set 3 (je_call GD (ja_cons (je_v 0) (ja_cons (je_mul je_int (je_v 1)) (ja_cons (je_powL 100000000000000000000 je_int je_int) ja_nil))) ⟨_, 2 * many, _, by rw [Int.natCast_mul]; rfl, by omega, by decide, by decide, rfl⟩) ?_
    refine jb_setN 4 (jn_lst ja_nil) ?_
    have dl : (draws cell (2 * many) 100000000000000000000).length = 2 * many := draws_len _ _ _
    refine jb_cons _ (js_forR 5 (fun i l => ∃ pre, l = [.val (.int cell), .val (.int many), .val (.int step), .val (.lst (iL (draws cell (2 * many) 100000000000000000000))), .own (iL pre), .any, .any, .any, .any, .any, .any, .any] ∧ pre.length = i ∧ ∀ v ∈ pre, v.natAbs < 2 ^ 100) (je_v 1) (by omega) ⟨[], rfl, rfl, fun _ h => (List.not_mem_nil h).elim⟩ ?_ fun l h => h) ?_
    · rintro i _ hi ⟨pre, rfl, hle, hpre⟩
      have hi' : i < many := by omega
      have hz : (iL pre).length < 1000000 := by rw [iL_len]; omega
      have d0 := draws_mem (cell := cell) (many := 2 * many) (most := 100000000000000000000) (by decide) (i := 2 * i) (by omega)
      have d1 := draws_mem (cell := cell) (many := 2 * many) (most := 100000000000000000000) (by decide) (i := 2 * i + 1) (by omega)
      refine jb_set 6 (je_ixL (JC.je (je_v 3)) (je_mul je_int (je_v 5)) (by rw [show (2 : Int) * (i : Int) = ((2 * i : Nat) : Int) by omega]; exact atI_iL (by omega))) ?_
      generalize (draws cell (2 * many) 100000000000000000000).getD (2 * i) 0 = draw at *
      refine jb_set 7 (je_fdiv (je_v 6) je_int) ?_
      refine jb_setX 8 (jx_ixI (xs := [0, 1, _, _, _]) (fun x => 0 ≤ x ∧ x ≤ 1000000000) (JC.new (jn_lst (ja_cons je_int (ja_cons je_int (ja_cons (je_mod (je_intI (je_v 7) mint) je_int) (ja_cons (je_mod (je_intI (je_v 7) mint) je_int) (ja_cons (je_mod (je_intI (je_v 7) mint) (je_add (je_powL 1000000000 je_int je_int) je_int)) ja_nil))))) )) (je_mod (je_intI (je_v 6) mint) je_int) ?_ ?_) ?_
      · show 0 ≤ _ ∧ _ < (5 : Int)
        omega
      · exact all_cons (by decide) (all_cons (by decide) (all_cons (by omega) (all_cons (by omega) (all_cons (by omega) all_nil))))
      rintro _ ⟨times, rfl, ht⟩
      refine jb_set 9 (je_fdiv (je_v 2) je_int) ?_
      refine jb_setX 10 (jx_ixI (xs := [0, 1, _, _, _, _]) (fun x => True) (JC.new (jn_lst (ja_cons je_int (ja_cons je_int (ja_cons (je_v 9) (ja_cons (je_add (je_v 9) je_int) (ja_cons (je_sub (je_sub (je_v 2) je_int) (je_v 9)) (ja_cons (je_ixL (JC.je (je_v 3)) (je_add (je_mul je_int (je_v 5)) je_int) (by rw [show (2 : Int) * (i : Int) + 1 = ((2 * i + 1 : Nat) : Int) by omega]; exact atI_iL (by omega))) ja_nil)))))) )) (je_mod (je_intI (je_fdiv (je_v 6) je_int) mint) je_int) ?_ (fun _ _ => trivial)) ?_
      · show 0 ≤ _ ∧ _ < (6 : Int)
        omega
      rintro _ ⟨rest, rfl, -⟩
      refine jb_set 11 (je_add (je_mul (je_v 8) (je_v 2)) (je_mod (je_intI (je_v 10) mint) (je_v 2))) ?_
      have hb : 0 ≤ times * step + rest % step ∧ times * step + rest % step < 1000000001 * 100000000000000000000 := by
        have e1 : 0 ≤ rest % step := Int.emod_nonneg _ (by omega)
        have e2 : rest % step < step := Int.emod_lt_of_pos _ h0
        have e3 : 0 ≤ times * step := Int.mul_nonneg ht.1 (by omega)
        have e4 : times * step ≤ 1000000000 * 100000000000000000000 := Int.mul_le_mul ht.2 h1 (by omega) (by decide)
        omega
      generalize times * step + rest % step = worth at *
      refine jb_if (fun l => ∃ v : Int, v.natAbs < 2 ^ 100 ∧ l = [.val (.int cell), .val (.int many), .val (.int step), .val (.lst (iL (draws cell (2 * many) 100000000000000000000))), .own (iL pre), .val (.int i), .any, .any, .any, .any, .any, .val (.int v)]) (jt_eq (je_mod (je_intI (je_fdiv (je_v 6) je_int) mint) je_int) je_int) (fun hk => jb_set 11 (je_neg (je_v 11)) (jb_end [6, 7, 8, 9, 10] ⟨_, ?_, rfl⟩)) (fun hk => jb_end [6, 7, 8, 9, 10] ⟨_, ?_, rfl⟩) ?_
      · omega
      · omega
      rintro _ ⟨v, hv, rfl⟩
      refine jb_app 4 (je_v 11) rfl ?_ hz
      exact jb_end [5, 11] ⟨pre ++ [v], by rw [← iL_app]; rfl, by rw [List.length_append, hle]; rfl, fun u hu => (List.mem_append.mp hu).elim (hpre u) fun z => by rw [List.mem_singleton.mp z]; exact hv⟩
    · rintro _ ⟨pre, rfl, hle, hpre⟩
      exact jb_thaw 4 rfl (jb_ret (je_v 4) ⟨pre, rfl, by omega, hpre⟩)
theorem ok_same {f : Addr} {fd : FuncData} (F : Fun K "_law_same" "_law_same" sSame f fd) (mlen : mg "len" = none) (mrange : mg "range" = none) (misi : mg "isinstance" = none) (mtuple : mg "tuple" = none) (mint : mg "int" = none) (mbool : mg "bool" = none) : FnOk P w K mg base CX0 1 f fd ["told", "due"] (spD K (det rSame)) := by
  refine fn_okd F scSame (fun ds d h => ?_) (fun cdv A outer s H E hr ds d h => ?_)
  · obtain ⟨_, _, rfl, _⟩ := h
    rfl
  · obtain ⟨rows, due, rfl, hdue, hn, hsq, rfl⟩ := h
    obtain ⟨g, hg⟩ : ∃ g : List Int → D, (∀ r, IsSeq (g r) (iL r)) ∧ IsSeq due (rows.map g) := by
      rcases hdue with e | e
      · exact ⟨fun r => .tup (iL r), fun r => .tup _, by rw [e]; exact .tup _⟩
      · exact ⟨fun r => .lst (iL r), fun r => .lst _, by rw [e]; exact .lst _⟩
    obtain ⟨hg, hd⟩ := hg
    have F1 : ∀ {b : Bool}, b = true → b = false → False := fun a b => by rw [a] at b; cases b
    refine jb_ifx (jt_w (jw_or (jt_not (jt_val (je_isTup (je_v 0)))) fun _ => jw_or1 (jt_ne (je_lenT (je_v 0)) (je_lenS (je_v 1) hd)))) (fun hk => ?_) fun hk => ?_
    · simp at hk
    refine jb_cons _ (js_forR 2 (fun i l => l = [.val (tR rows), .val due, .any, .any, .any]) (je_lenS (je_v 1) hd) (by rw [List.length_map]; omega) rfl ?_ fun l h => h) ?_
    · rintro y _ hy rfl
      have hy' : y < rows.length := by rw [List.length_map] at hy; omega
      have hrow := hsq _ (getD_mem [] hy')
      have i1 : atI (rows.map fun r => D.tup (iL r)) (y : Int) = some (.tup (iL (rows.getD y []))) := atI_map (fun r => D.tup (iL r)) [] (by omega) (by omega)
      have i2 : atI (rows.map g) (y : Int) = some (g (rows.getD y [])) := atI_map g [] (by omega) (by omega)
      refine jb_ifx (jt_w (jw_or (jt_not (jt_val (je_isTup (je_ixT (je_v 0) (je_v 2) i1)))) fun _ => jw_or1 (jt_ne (je_lenT (je_ixT (je_v 0) (je_v 2) i1)) (je_lenS (je_v 1) hd)))) (fun hk => ?_) fun hk => ?_
      · rw [iL_len, List.length_map, hrow] at hk
        simp at hk
      refine jb_cons _ (js_forR 3 (fun i l => l = [.val (tR rows), .val due, .val (.int y), .any, .any]) (je_lenS (je_v 1) hd) (by rw [List.length_map]; omega) rfl ?_ fun l h => h) ?_
      · rintro x _ hx rfl
        have hx' : x < rows.length := by rw [List.length_map] at hx; omega
        refine jb_set 4 (je_ixT (je_ixT (je_v 0) (je_v 2) i1) (je_v 3) (atI_iL (by omega))) ?_
        refine jb_ifx (jt_w (jw_or (jt_not (jt_val (je_isInt (je_v 4)))) fun _ => jw_or (jt_val (je_isBool (je_v 4))) fun _ => jw_or1 (jt_ne (je_v 4) (je_ixS (je_ixS (je_v 1) hd (je_v 2) i2) (hg _) (je_v 3) (atI_iL (by omega)))))) (fun hk => ?_) fun hk => ?_
        · simp at hk
        · exact jb_end [3, 4] rfl
      · rintro _ rfl
        exact jb_end [2] rfl
    · rintro _ rfl
      exact jb_ret je_bl rfl
theorem ok_plevel {f : Addr} {fd : FuncData} {k : Nat} (F : Fun K "level_of" "level_of" sPLevel f fd) (mabs : mg "abs" = none) : FnOk P w K mg base CX0 (k + 1) f fd ["c", "q"] (spD K (det rLevel)) := by
  refine fn_okd F scPLevel (fun ds d h => ?_) (fun cdv A outer s H E hr ds d h => ?_)
  · obtain ⟨_, _, rfl, _⟩ := h
    rfl
  · obtain ⟨w, s, rfl, h1, h2, rfl⟩ := h
    refine jb_set 2 (je_fdiv (je_add (je_abs (je_v 0) mabs) (je_fdiv (je_v 1) je_int)) (je_v 1) ⟨h1, h2⟩) ?_
    refine jb_ret (je_ifExp (jt_ge (je_v 0) je_int) (fun hk => (je_v 2).is ?_) fun hk => (je_neg (je_v 2)).is ?_) rfl
    · show D.int _ = D.int (mLevel w s)
      unfold mLevel
      rw [if_neg (by have := of_decide_eq_true hk; omega)]
    · show D.int _ = D.int (mLevel w s)
      unfold mLevel
      rw [if_pos (by have := of_decide_eq_false hk; omega)]
theorem ok_plevels {f : Addr} {fd : FuncData} (F : Fun K "levels" "levels" sPLevels f fd) (mtuple : mg "tuple" = none) (GL : Fn P w K mg base 1 "level_of" (det rLevel)) : FnOk P w K mg base CX0 2 f fd ["square", "q"] (spD K (det rLevels)) := by
  refine fn_okd F scPLevels (fun ds d h => ?_) (fun cdv A outer s H E hr ds d h => ?_)
  · obtain ⟨_, _, rfl, _⟩ := h
    rfl
  · obtain ⟨rows, s, rfl, h1, h2, h3, h4, rfl⟩ := h
    refine jb_ret (je_tupleL (JC.new (jn_lcT (xs := rows) (fun r => .tup (iL r)) [] 2 (fun _ => true) (fun i => .tup (iL ((rows.getD i []).map fun w => mLevel w s))) (je_v 0) (by omega) (fun i _ => ji_nil) (fun i hi _ => ?_) bok)) mtuple) ?_
    · have hr2 : (rows.getD i []).length < 100 := h2 _ (getD_mem [] hi)
      refine je_tupleL (JC.new ((jn_lcT (xs := rows.getD i []) D.int 0 3 (fun _ => true) (fun l => .int (mLevel ((rows.getD i []).getD l 0) s)) (je_v 2) (by omega) (fun i _ => ji_nil) (fun l hl _ => ?_) bok).is ?_)) mtuple
      · exact je_call GL (ja_cons (je_v 3) (ja_cons (je_v 1) ja_nil)) ⟨_, _, rfl, h3, h4, rfl⟩
      · rw [outs_listD (rows.getD i []) 0 (fun w => .int (mLevel w s)) rfl rfl rfl]
        unfold iL
        rw [List.map_map]
        rfl
    · show D.tup _ = _
      rw [outs_listD rows [] (fun r => .tup (iL (r.map fun w => mLevel w s))) rfl rfl rfl]
      unfold tR
      rw [List.map_map]
      rfl
def rUn : List D → D → Prop := fun ds d => ∃ (rows : List (List Int)) (s : Int), ds = [tR rows, .int s] ∧ rows.length < 100 ∧ (∀ r ∈ rows, r.length < 100 ∧ ∀ v ∈ r, v.natAbs < 2 ^ 200) ∧ s.natAbs < 2 ^ 100 ∧ d = tR (rows.map fun r => r.map fun w => w * s)
theorem ok_pun {f : Addr} {fd : FuncData} (F : Fun K "unlevelled" "unlevelled" sPUn f fd) (mtuple : mg "tuple" = none) : FnOk P w K mg base CX0 2 f fd ["square", "q"] (spD K (det rUn)) := by
  refine fn_okd F scPUn (fun ds d h => ?_) (fun cdv A outer s H E hr ds d h => ?_)
  · obtain ⟨_, _, rfl, _⟩ := h
    rfl
  · obtain ⟨rows, s, rfl, h1, h2, h3, rfl⟩ := h
    refine jb_ret (je_tupleL (JC.new (jn_lcT (xs := rows) (fun r => .tup (iL r)) [] 2 (fun _ => true) (fun i => .tup (iL ((rows.getD i []).map fun w => w * s))) (je_v 0) (by omega) (fun i _ => ji_nil) (fun i hi _ => ?_) bok)) mtuple) ?_
    · obtain ⟨hr2, hr3⟩ := h2 _ (getD_mem [] hi)
      refine je_tupleL (JC.new ((jn_lcT (xs := rows.getD i []) D.int 0 3 (fun _ => true) (fun l => .int ((rows.getD i []).getD l 0 * s)) (je_v 2) (by omega) (fun i _ => ji_nil) (fun l hl _ => ?_) bok).is ?_)) mtuple
      · exact je_mul (je_v 3) (je_v 1) (mulW (hr3 _ (getD_mem 0 hl)) h3 (by decide) (by decide) (by decide))
      · rw [outs_listD (rows.getD i []) 0 (fun w => .int (w * s)) rfl rfl rfl]
        unfold iL
        rw [List.map_map]
        rfl
    · show D.tup _ = _
      rw [outs_listD rows [] (fun r => .tup (iL (r.map fun w => w * s))) rfl rfl rfl]
      unfold tR
      rw [List.map_map]
      rfl

/-! ### the law -/
theorem half_div {s : Int} (h : 0 < s) : s / 2 / s = 0 := Int.ediv_eq_zero_of_lt (by omega) (by omega)
theorem mLevel_neg (w s : Int) (hs : 0 < s) : mLevel (-w) s = -mLevel w s := by
  unfold mLevel
  rw [Int.natAbs_neg]
  by_cases h : w < 0
  · rw [if_pos h, if_neg (by omega)]
    omega
  · rw [if_neg h]
    by_cases h0 : w = 0
    · subst h0
      rw [if_neg (by omega)]
      have e : ((Int.natAbs 0 : Nat) : Int) + s / 2 = s / 2 := by simp
      rw [e, half_div hs]
      rfl
    · rw [if_pos (by omega)]
theorem near_pos (a s : Int) (h : 0 < s) : (a + s / 2) / s * s - a ≤ s / 2 ∧ a - (a + s / 2) / s * s ≤ s / 2 := by
  have e1 : (a + s / 2) / s * s + (a + s / 2) % s = a + s / 2 := Int.ediv_mul_add_emod _ _
  have e2 : 0 ≤ (a + s / 2) % s := Int.emod_nonneg _ (by omega)
  have e3 : (a + s / 2) % s < s := Int.emod_lt_of_pos _ h
  generalize (a + s / 2) / s * s = x at *
  generalize (a + s / 2) % s = y at *
  omega
theorem mLevel_near (w s : Int) (h : 0 < s) : ((mLevel w s * s - w).natAbs : Int) ≤ s / 2 := by
  have k := near_pos (w.natAbs : Int) s h
  unfold mLevel
  by_cases h1 : w < 0
  · rw [if_pos h1, Int.neg_mul]
    generalize ((w.natAbs : Int) + s / 2) / s * s = x at *
    omega
  · rw [if_neg h1]
    generalize ((w.natAbs : Int) + s / 2) / s * s = x at *
    omega
theorem mLevel_size (w s : Int) (h : 0 < s) (hw : w.natAbs < 2 ^ 100) : (mLevel w s).natAbs < 2 ^ 101 := by
  have e1 : ((w.natAbs : Int) + s / 2) / s ≤ (w.natAbs : Int) + 1 := by
    refine Int.le_of_lt_add_one ((Int.ediv_lt_iff_lt_mul h).mpr ?_)
    have : (w.natAbs : Int) * 1 ≤ (w.natAbs : Int) * s := Int.mul_le_mul_of_nonneg_left (by omega) (by omega)
    rw [Int.add_mul, Int.add_mul]
    omega
  have e2 : 0 ≤ ((w.natAbs : Int) + s / 2) / s := Int.ediv_nonneg (by omega) (by omega)
  unfold mLevel
  generalize ((w.natAbs : Int) + s / 2) / s = x at *
  split <;> omega
theorem scAsked : FnScope ["script", "step", "worth", "told", "turned", "n", "values", "one", "due", "y", "row"] ["script"] (defScope sAsked) := ⟨rfl, rfl, rfl, by decide +kernel, rfl, by decide +kernel, by decide +kernel⟩
def rAsked : Rel := rLaw
theorem ok_asked {f : Addr} {fd : FuncData} (F : Fun K "_law_asked" "_law_asked" sAsked f fd) (mint : mg "int" = none) (misi : mg "isinstance" = none) (mbool : mg "bool" = none) (mabs : mg "abs" = none) (mtuple : mg "tuple" = none) (mrange : mg "range" = none)
    (GC : Fn P w K mg base 1 "_law_cell" (det rCell)) (GD : Fn P w K mg base 1 "_law_draws" (det rDraws)) (GStep : Fn P w K mg base 2 "_law_step" rStep) (GInts : Fn P w K mg base 2 "_law_integers" rInts) (GLev : Fn P w K mg base 1 "_law_level" (det rLevel)) (GSame : Fn P w K mg base 1 "_law_same" (det rSame))
    (PLev : Fn P w K mg base 1 "level_of" (det rLevel)) (PLevK : Fk P w K mg base 1 "level_of" 0 ["q", "c"] [1, 0] (det rLevel)) (PLevs : Fn P w K mg base 2 "levels" (det rLevels)) (PLevsK : Fk P w K mg base 2 "levels" 0 ["q", "square"] [1, 0] (det rLevels)) (PUn : Fn P w K mg base 2 "unlevelled" (det rUn)) (PUnK : Fk P w K mg base 2 "unlevelled" 0 ["q", "square"] [1, 0] (det rUn)) :
    FnOk P w K mg base CX0 3 f fd ["script"] (spD K rAsked) := by
  refine fn_ok F scAsked (fun ds d h => ?_) (fun cdv A outer s H E hr ds Po h => ?_)
  · obtain ⟨_, _, rfl, _⟩ := h
    rfl
  · obtain ⟨ns, hns, rfl, rfl⟩ := h
    refine jb_setX 1 (jx_call1 GStep (ja_cons (je_v 0) ja_nil) ⟨ns, rfl, rfl⟩) ?_
    rintro _ ⟨step, rfl, h0, h1⟩
    have hl2 : step.natAbs.log2 < 9000 := Nat.lt_trans (log2_of (b := 100) (by omega) (by omega) (by decide)) (by decide)
    have hs100 : step.natAbs < 2 ^ 100 := by omega
    refine jb_cons _ (js_forLX (Po := fun ds => ∃ vs : List Int, ds = iL vs ∧ ∀ v ∈ vs, v.natAbs < 2 ^ 100) 2 (fun _ i l => l = [.val (.scr ns), .val (.int step), .any, .any, .any, .any, .any, .any, .any, .any, .any])
      ((jx_call1 GInts (ja_cons (je_call GC (ja_cons (je_v 0) (ja_cons je_int ja_nil)) ⟨ns, 1, rfl, rfl⟩) (ja_cons je_int (ja_cons (je_v 1) ja_nil))) ⟨_, 8, _, rfl, by decide, h0, h1, rfl⟩).mono fun d ⟨vs, e, _, h⟩ => ⟨_, e, vs, rfl, h⟩) (fun _ _ => rfl) ?_ fun ds _ l h => h) ?_
    · rintro _ ⟨vs, rfl, hvs⟩ i d _ hd rfl
      rw [iL_get] at hd
      obtain ⟨v, hv, rfl⟩ := Option.map_eq_some_iff.mp hd
      have hvb := hvs v (List.mem_of_getElem? hv)
      have hsz := mLevel_size v step h0 hvb
      refine jb_set 3 (je_call PLev (ja_cons (je_v 2) (ja_cons (je_v 1) ja_nil)) ⟨_, _, rfl, h0, hl2, rfl⟩) ?_
      refine jb_ifx (jt_w (jw_or (jt_not (jt_val (je_isInt (je_v 3)))) fun _ => jw_or (jt_val (je_isBool (je_v 3))) fun _ => jw_or1 (jt_ne (je_v 3) (je_call GLev (ja_cons (je_v 2) (ja_cons (je_v 1) ja_nil)) ⟨_, _, rfl, h0, hl2, rfl⟩)))) (fun hk => ?_) fun hk => ?_
      · simp at hk
      refine jb_set 4 (je_callK0 PLevK (jk_cons (je_v 1) (jk_cons (je_neg (je_v 2)) jk_nil)) rfl ⟨_, _, rfl, h0, hl2, rfl⟩) ?_
      refine jb_ifx (jt_w (jw_or (jt_not (jt_val (je_isInt (je_v 4)))) fun _ => jw_or (jt_val (je_isBool (je_v 4))) fun _ => jw_or1 (jt_ne (je_v 4) (je_neg (je_v 3))))) (fun hk => ?_) fun hk => ?_
      · rw [mLevel_neg _ _ h0] at hk
        simp at hk
      refine jb_ifx (jt_gt (je_abs (je_sub (je_mul (je_v 3) (je_v 1) (mulW hsz hs100 (by decide) (by decide) (by decide))) (je_v 2))) (je_fdiv (je_v 1) je_int)) (fun hk => ?_) fun hk => ?_
      · have h3 := of_decide_eq_true hk
        have h4 := mLevel_near v step h0
        omega
      exact jb_end [2, 3, 4] rfl
    rintro _ ⟨rfl⟩
    have dm : 0 ≤ (draws (mCell ns 2) 1 3).getD 0 0 ∧ (draws (mCell ns 2) 1 3).getD 0 0 < 3 := draws_mem (by decide) (by decide)
    refine jb_setX 5 (jx_ixI (xs := [2, 4, 8]) (fun x => ∃ n : Nat, x = n ∧ 0 < n ∧ n ≤ 8) (JC.new (jn_lst (ja_cons je_int (ja_cons je_int (ja_cons je_int ja_nil))))) (je_ixL (JC.je (je_call GD (ja_cons (je_call GC (ja_cons (je_v 0) (ja_cons je_int ja_nil)) ⟨ns, 2, rfl, rfl⟩) (ja_cons je_int (ja_cons je_int ja_nil))) ⟨_, 1, _, rfl, by decide, by decide, by decide, rfl⟩)) je_int (atI_iL (i := 0) (by rw [draws_len]; decide))) ⟨dm.1, dm.2⟩ (all_cons ⟨2, by decide⟩ (all_cons ⟨4, by decide⟩ (all_cons ⟨8, by decide⟩ all_nil)))) ?_
    rintro _ ⟨_, rfl, n, rfl, hn0, hn8⟩
    have hnn : n * n ≤ 64 := Nat.mul_le_mul hn8 hn8
    refine jb_setX 6 (jx_call1 GInts (ja_cons (je_call GC (ja_cons (je_v 0) (ja_cons je_int ja_nil)) ⟨ns, 3, rfl, rfl⟩) (ja_cons (je_mul (je_v 5) (je_v 5)) (ja_cons (je_v 1) ja_nil))) ⟨_, n * n, _, by rw [Int.natCast_mul], by omega, h0, h1, rfl⟩) ?_
    rintro _ ⟨vs, rfl, hvl, hvs⟩
    refine jb_set 7 (je_tupleL (JC.new ((jn_lcR 9 (fun _ => true) (fun y => .tup (iL ((vs.drop (y * n)).take n))) (je_v 5) (by omega) (fun i _ => ji_nil) (fun y hy _ => ?_) bok).is (outs_all _ _))) mtuple) ?_
    · have hy' : y < n := by omega
      have h2 : (y + 1) * n ≤ n * n := Nat.mul_le_mul_right n hy'
      have h3 : (y + 1) * n = y * n + n := by rw [Nat.succ_mul]
      refine (je_tupleL (JC.new (jn_slice (JC.je (je_v 6)) (jo_some (je_mul (je_v 9) (je_v 5))) (jo_some (je_mul (je_add (je_v 9) je_int) (je_v 5))))) mtuple).is ?_
      rw [cutD_iL, show (y : Int) * (n : Int) = ((y * n : Nat) : Int) by rw [Int.natCast_mul], show ((y : Int) + 1) * (n : Int) = (((y + 1) * n : Nat) : Int) by rw [Int.natCast_mul]; rfl, cutL_nat (by omega) (by omega)]
      rw [show (y + 1) * n - y * n = n by omega]
    obtain ⟨rows, hrows⟩ : ∃ rows, rows = (List.range n).map fun y => (vs.drop (y * n)).take n := ⟨_, rfl⟩
    have hrl : rows.length = n := by rw [hrows, List.length_map, List.length_range]
    have hrr : ∀ r ∈ rows, r.length = rows.length := by
      intro r hr
      rw [hrl]
      rw [hrows] at hr
      obtain ⟨y, hy, rfl⟩ := List.mem_map.mp hr
      have hy' := List.mem_range.mp hy
      have h2 : (y + 1) * n ≤ n * n := Nat.mul_le_mul_right n hy'
      have h3 : (y + 1) * n = y * n + n := by rw [Nat.succ_mul]
      rw [List.length_take, List.length_drop]
      omega
    have hrv : ∀ r ∈ rows, ∀ v ∈ r, v.natAbs < 2 ^ 100 := by
      intro r hr v hv
      rw [hrows] at hr
      obtain ⟨y, hy, rfl⟩ := List.mem_map.mp hr
      exact hvs v (List.mem_of_mem_drop (List.mem_of_mem_take hv))
    have e7 : D.tup (List.map (fun y => D.tup (iL ((vs.drop (y * n)).take n))) (List.range (n : Int).toNat)) = tR rows := by
      rw [hrows, Int.toNat_natCast]
      unfold tR
      rw [List.map_map]
      rfl
    rw [e7]
    clear e7
    have hr100 : ∀ r ∈ rows, r.length < 100 := fun r hr => by rw [hrr r hr, hrl]; omega
    -- due
    have lev : ∀ (rs : List (List Int)), rs.length < 100 → (∀ r ∈ rs, r.length < 100) → True := fun _ _ _ => trivial
    refine jb_set 8 (d := tR (rows.map fun r => r.map fun w => mLevel w step)) ((je_tupleL (JC.new (jn_lcT (xs := rows) (fun r => .tup (iL r)) [] 10 (fun _ => true) (fun i => .tup (iL ((rows.getD i []).map fun w => mLevel w step))) (je_v 7) (by omega) (fun i _ => ji_nil) (fun i hi _ => ?_) bok)) mtuple).is ?_) ?_
    · have hr2 := hr100 _ (getD_mem [] hi)
      refine je_tupleL (JC.new ((jn_lcT (xs := rows.getD i []) D.int 0 2 (fun _ => true) (fun l => .int (mLevel ((rows.getD i []).getD l 0) step)) (je_v 10) (by omega) (fun i _ => ji_nil) (fun l hl _ => ?_) bok).is ?_)) mtuple
      · exact je_call GLev (ja_cons (je_v 2) (ja_cons (je_v 1) ja_nil)) ⟨_, _, rfl, h0, hl2, rfl⟩
      · rw [outs_listD (rows.getD i []) 0 (fun w => .int (mLevel w step)) rfl rfl rfl]
        unfold iL
        rw [List.map_map]
        rfl
    · show D.tup _ = _
      rw [outs_listD rows [] (fun r => .tup (iL (r.map fun w => mLevel w step))) rfl rfl rfl]
      unfold tR
      rw [List.map_map]
      rfl
    obtain ⟨lrows, hlr⟩ : ∃ lrows, lrows = rows.map fun r => r.map fun w => mLevel w step := ⟨_, rfl⟩
    have hll : lrows.length = rows.length := by rw [hlr, List.length_map]
    have hlq : ∀ r ∈ lrows, r.length = lrows.length := by
      intro r hr
      rw [hlr] at hr
      obtain ⟨r0, h1, rfl⟩ := List.mem_map.mp hr
      rw [List.length_map, hll, hrr r0 h1]
    have hlv : ∀ r ∈ lrows, r.length < 100 ∧ ∀ v ∈ r, v.natAbs < 2 ^ 200 := by
      intro r hr
      refine ⟨by rw [hlq r hr, hll, hrl]; omega, fun v hv => ?_⟩
      rw [hlr] at hr
      obtain ⟨r0, h1, rfl⟩ := List.mem_map.mp hr
      obtain ⟨w0, h2, rfl⟩ := List.mem_map.mp hv
      exact Nat.lt_of_lt_of_le (mLevel_size w0 step h0 (hrv r0 h1 w0 h2)) (Nat.pow_le_pow_right (by decide) (by decide))
    rw [← hlr]
    have hRL : rLevels [tR rows, .int step] (tR lrows) := ⟨rows, step, rfl, by omega, hr100, h0, hl2, by rw [hlr]⟩
    have hS1 : rSame [tR lrows, tR lrows] (.bl true) := ⟨lrows, _, rfl, .inl rfl, by omega, hlq, rfl⟩
    -- two squares of products
    have key : ∀ (rs : List (List Int)) (i : Nat), rs.length = n → (∀ r ∈ rs, r.length = rs.length) → (∀ r ∈ rs, r.length < 100 ∧ ∀ v ∈ r, v.natAbs < 2 ^ 200) → rSame [tR (rs.map fun r => r.map fun w => w * step), lR (rs.map fun r => r.map fun w => w * step)] (.bl true) ∧ rUn [tR rs, .int step] (tR (rs.map fun r => r.map fun w => w * step)) := by
      intro rs i h1 h2 h3
      refine ⟨⟨_, _, rfl, .inr rfl, by rw [List.length_map]; omega, fun r hr => ?_, rfl⟩, ⟨rs, step, rfl, by omega, h3, hs100, rfl⟩⟩
      obtain ⟨r0, h4, rfl⟩ := List.mem_map.mp hr
      rw [List.length_map, List.length_map, h2 r0 h4]
    have kl := key lrows 0 (by omega) hlq hlv
    have kr := key rows 0 hrl hrr fun r hr => ⟨hr100 r hr, fun v hv => Nat.lt_of_lt_of_le (hrv r hr v hv) (Nat.pow_le_pow_right (by decide) (by decide))⟩
    have N1 : ∀ {k : Bool}, k = true → (!k) = true → False := fun a b => by rw [a] at b; cases b
    refine jb_ifx (jt_not (jt_val (je_call GSame (ja_cons (je_call PLevs (ja_cons (je_v 7) (ja_cons (je_v 1) ja_nil)) hRL) (ja_cons (je_v 8) ja_nil)) hS1))) (fun hk => (N1 rfl hk).elim) fun hk => ?_
    refine jb_ifx (jt_not (jt_val (je_call GSame (ja_cons (je_callK0 PUnK (jk_cons (je_v 1) (jk_cons (je_v 8) jk_nil)) rfl kl.2) (ja_cons (JE.is (d' := lR (lrows.map fun r => r.map fun w => w * step)) (JE.new (jn_lcT (xs := lrows) (fun r => .tup (iL r)) [] 10 (fun _ => true) (fun i => .lst (iL ((lrows.getD i []).map fun w => w * step))) (je_v 8) (by omega) (fun i _ => ji_nil) (fun i hi _ => ?_) bok)) ?_) ja_nil)) kl.1))) (fun hk => (N1 rfl hk).elim) fun hk => ?_
    · obtain ⟨hr2, hr3⟩ := hlv _ (getD_mem [] hi)
      refine JE.new ((jn_lcT (xs := lrows.getD i []) D.int 0 2 (fun _ => true) (fun l => .int ((lrows.getD i []).getD l 0 * step)) (je_v 10) (by omega) (fun i _ => ji_nil) (fun l hl _ => je_mul (je_v 2) (je_v 1) (mulW (hr3 _ (getD_mem 0 hl)) hs100 (by decide) (by decide) (by decide))) bok).is ?_)
      rw [outs_listD (lrows.getD i []) 0 (fun w => .int (w * step)) rfl rfl rfl]
      unfold iL
      rw [List.map_map]
      rfl
    · show D.lst _ = _
      rw [outs_listD lrows [] (fun r => .lst (iL (r.map fun w => w * step))) rfl rfl rfl]
      unfold lR
      rw [List.map_map]
      rfl
    refine jb_ifx (jt_not (jt_val (je_call GSame (ja_cons (je_call PUn (ja_cons (je_v 7) (ja_cons (je_v 1) ja_nil)) kr.2) (ja_cons (JE.is (d' := lR (rows.map fun r => r.map fun w => w * step)) (JE.new (jn_lcT (xs := rows) (fun r => .tup (iL r)) [] 10 (fun _ => true) (fun i => .lst (iL ((rows.getD i []).map fun w => w * step))) (je_v 7) (by omega) (fun i _ => ji_nil) (fun i hi _ => ?_) bok)) ?_) ja_nil)) kr.1))) (fun hk => (N1 rfl hk).elim) fun hk => ?_
    · have hr2 := hr100 _ (getD_mem [] hi)
      have hr3 := hrv _ (getD_mem [] hi)
      refine JE.new ((jn_lcT (xs := rows.getD i []) D.int 0 2 (fun _ => true) (fun l => .int ((rows.getD i []).getD l 0 * step)) (je_v 10) (by omega) (fun i _ => ji_nil) (fun l hl _ => je_mul (je_v 2) (je_v 1) (mulW (hr3 _ (getD_mem 0 hl)) hs100 (by decide) (by decide) (by decide))) bok).is ?_)
      rw [outs_listD (rows.getD i []) 0 (fun w => .int (w * step)) rfl rfl rfl]
      unfold iL
      rw [List.map_map]
      rfl
    · show D.lst _ = _
      rw [outs_listD rows [] (fun r => .lst (iL (r.map fun w => w * step))) rfl rfl rfl]
      unfold lR
      rw [List.map_map]
      rfl
    exact jb_ret (je_call GSame (ja_cons (je_callK0 PLevsK (jk_cons (je_v 1) (jk_cons (je_v 7) jk_nil)) rfl hRL) (ja_cons (je_v 8) ja_nil)) hS1) rfl
theorem scLaw : FnScope ["script"] ["script"] (defScope sLaw) := ⟨rfl, rfl, rfl, by decide +kernel, rfl, by decide +kernel, by decide +kernel⟩
theorem ok_law {f : Addr} {fd : FuncData} (F : Fun K "law" "law" sLaw f fd) (GA : Fn P w K mg base 3 "_law_asked" rAsked) : FnOk P w K mg base CX0 4 f fd ["script"] (spD K rLaw) := by
  refine fn_ok F scLaw (fun ds d h => ?_) (fun cdv A outer s H E hr ds Po h => ?_)
  · obtain ⟨_, _, rfl, _⟩ := h
    rfl
  · obtain ⟨ns, hns, rfl, rfl⟩ := h
    exact jb_one (js_try (jb_retX (jx_call1 GA (ja_cons (je_v 0) ja_nil) ⟨ns, hns, rfl, rfl⟩) fun d hd => hd))
end
theorem all_ok {lp : Program} {w : World} {K : Fg} {mg : Str → Option Value} {fa : Addr} (hfa : mg "law" = some (.ref fa)) (t1 : FT K mg "level_of" sPLevel) (t2 : FT K mg "levels" sPLevels) (t3 : FT K mg "unlevelled" sPUn) (t7 : FT K mg "_law_cell" sCell) (t8 : FT K mg "_law_draws" sDraws) (t9 : FT K mg "_law_same" sSame) (t10 : FT K mg "_law_step" sStep) (t11 : FT K mg "_law_integers" sInts) (t12 : FT K mg "_law_level" sLevel) (t13 : FT K mg "_law_asked" sAsked) (t14 : FT K mg "law" sLaw)
    (zabs : mg "abs" = none) (zint : mg "int" = none) (zlen : mg "len" = none) (zrange : mg "range" = none) (zisi : mg "isinstance" = none) (ztuple : mg "tuple" = none) (zbool : mg "bool" = none) :
    ∃ fd : FuncData, (∀ (s : Shared) (u : Value), BindsTo s fd ⟨[u], []⟩ [("script", u)]) ∧ ∀ base : Heap, K.In base → base.Ns mainGlobals mg → FnOk lp w K mg base CX0 4 fa fd ["script"] (spD K rLaw) := by
  refine t14.law hfa (fun base {f fd} F => ?_) fun _ _ _ _ _ _ _ => rfl
  have b1 : ∀ {x : Str} {st : Stmt}, True := trivial
  have GC : Fn lp w K mg base 1 "_law_cell" (det rCell) := t7.fn (fun F => ok_cell F zabs zlen zint) fun _ _ _ _ _ _ us hl => match us, hl with | [_, _], _ => rfl
  have GD : Fn lp w K mg base 1 "_law_draws" (det rDraws) := t8.fn (fun F => ok_draws F zrange zint) fun _ _ _ _ _ _ us hl => match us, hl with | [_, _, _], _ => rfl
  have GSame : Fn lp w K mg base 1 "_law_same" (det rSame) := t9.fn (fun F => ok_same F zlen zrange zisi ztuple zint zbool) fun _ _ _ _ _ _ us hl => match us, hl with | [_, _], _ => rfl
  have GStep : Fn lp w K mg base 2 "_law_step" rStep := t10.fn (fun F => ok_step F zint GC GD) fun _ _ _ _ _ _ us hl => match us, hl with | [_], _ => rfl
  have GInts : Fn lp w K mg base 2 "_law_integers" rInts := t11.fn (fun F => ok_ints F zint zrange GD) fun _ _ _ _ _ _ us hl => match us, hl with | [_, _, _], _ => rfl
  have GLev : Fn lp w K mg base 1 "_law_level" (det rLevel) := t12.fn (fun F => ok_level F zabs) fun _ _ _ _ _ _ us hl => match us, hl with | [_, _], _ => rfl
  have PLev : Fn lp w K mg base 1 "level_of" (det rLevel) := t1.fn (fun F => ok_plevel F zabs) fun _ _ _ _ _ _ us hl => match us, hl with | [_, _], _ => rfl
  have PLevK : Fk lp w K mg base 1 "level_of" 0 ["q", "c"] [1, 0] (det rLevel) := t1.fk (ps := ["c", "q"]) (fun F => ok_plevel F zabs) (by decide) fun _ _ _ _ _ _ us ws h1 h2 => match us, ws, h1, h2 with | [], [_, _], _, _ => rfl
  have PLevs : Fn lp w K mg base 2 "levels" (det rLevels) := t2.fn (fun F => ok_plevels F ztuple PLev) fun _ _ _ _ _ _ us hl => match us, hl with | [_, _], _ => rfl
  have PLevsK : Fk lp w K mg base 2 "levels" 0 ["q", "square"] [1, 0] (det rLevels) := t2.fk (ps := ["square", "q"]) (fun F => ok_plevels F ztuple PLev) (by decide) fun _ _ _ _ _ _ us ws h1 h2 => match us, ws, h1, h2 with | [], [_, _], _, _ => rfl
  have PUn : Fn lp w K mg base 2 "unlevelled" (det rUn) := t3.fn (fun F => ok_pun F ztuple) fun _ _ _ _ _ _ us hl => match us, hl with | [_, _], _ => rfl
  have PUnK : Fk lp w K mg base 2 "unlevelled" 0 ["q", "square"] [1, 0] (det rUn) := t3.fk (ps := ["square", "q"]) (fun F => ok_pun F ztuple) (by decide) fun _ _ _ _ _ _ us ws h1 h2 => match us, ws, h1, h2 with | [], [_, _], _, _ => rfl
  have GA : Fn lp w K mg base 3 "_law_asked" rAsked := t13.fn (fun F => ok_asked F zint zisi zbool zabs ztuple zrange GC GD GStep GInts GLev GSame PLev PLevK PLevs PLevsK PUn PUnK) fun _ _ _ _ _ _ us hl => match us, hl with | [_], _ => rfl
  exact ok_law F GA
end T6
open PySem PySem.W PyProof.Rows
set_option maxHeartbeats 0 in
theorem PySem.Challenge.cw_picturetide_k06_levels_holds : PySem.Challenge.rw_picturetide_k06_levels.Holds := by
  w_on; o_law; k_head; (case hw => w_witness2)
  k_fill
  refine Qp.law_end (l := PySem.Challenge.rw_picturetide_k06_levels) (k := 4) (x := "script") rfl rfl ⟨rfl, by decide, by decide⟩ (fun w h Y => PySem.W.kIn_of Y) ?F
  case F =>
    intro w mg fa h KX G hmg
    refine T6.all_ok hmg ?_ ?_ ?_ ?_ ?_ ?_ ?_ ?_ ?_ ?_ ?_ ?_ ?_ ?_ ?_ ?_ ?_ ?_
    iterate 11 (refine' Qp.ft_mk KX G ?a ?l ?c ?k; (case a => k_is); (case l => k_is); (case c => k_is); (case k => k_is))
    all_goals (refine PySem.W.mg_none_of KX G ?_; k_is)
