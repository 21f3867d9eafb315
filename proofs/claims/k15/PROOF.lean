import PyProof.Rows.All
import Wide.All
import OpenK.AllK
import Wide.FinOn
import HandS.ForMost
import HandS.ForExc
import HandS.IsInst
import HandS.Wide
import HandS.EndBits
import HandS.HotCalls
import HandS.ExcInit
import HandS.ExcField
import HandS.ExcIs
import HandS.AnyAll
import HandS.EndTab
import HandS.GenOver
import HandS.TupMul
import HandS.TupAny
import HandS.Zip
import HandS.Iter
import PyProof.Rows.ChunkEnd
import KE.GoesMore
import HandS.MapObj
import HandS.Star
import KE.KDictZip
import HandS.CallLocal
import KE.KExcIs
import HandS.TupLe
import PyProof.StrBlock2
import HandS.Text
import HandS.WideBits
import HandS.Flow
import HandS.Style
import HandS.Deep
import PySem.Challenge.RW_picturetide_k15_band_trees
set_option Elab.async false
set_option linter.all false
set_option maxRecDepth 100000
/-! Q1: what a slot holds, as plain data; expressions and statements judged by data alone. -/
namespace Qp
open PySem PySem.Spec PyProof.Rows L2
abbrev Fg := PySem.W.Frag
/-! ### heaps that grow -/
/-- what stands at an address, behind a growth: a code object's table may have got longer, all else stands -/
def Gr : HO → Option HO → Prop
  | .tbl ps, x => ∃ more, x = some (.tbl (ps ++ more)) ∧ (TriplesOk ps.toList → TriplesOk (ps ++ more).toList)
  | o, x => x = some o
theorem Gr.of {o : HO} {x : Option HO} (h : x = some o) : Gr o x := by
  cases o <;> first | exact h | exact ⟨#[], by rw [h, Array.append_empty], fun z => by rw [Array.append_empty]; exact z⟩
theorem Gr.some {o : HO} {x : Option HO} (h : Gr o x) : ∃ u, x = some u := by
  cases o <;> first | exact ⟨_, h⟩ | (obtain ⟨m, e, _⟩ := h; exact ⟨_, e⟩)
/-- no table -/
def NoTb (o : HO) : Prop := ∀ ps, o ≠ .tbl ps
theorem Gr.at {o : HO} {x : Option HO} (h : Gr o x) (n : NoTb o) : x = Option.some o := by
  cases o <;> first | exact h | exact absurd rfl (n _)
def Ex (H H' : Hp) : Prop := ∀ a o, H a = some o → Gr o (H' a)
theorem Ex.refl (H : Hp) : Ex H H := fun _ _ h => .of h
theorem Ex.trans {H H1 H2 : Hp} (a : Ex H H1) (b : Ex H1 H2) : Ex H H2 := fun x o h => by
  have h1 := a x o h
  cases o <;> first
    | exact b x _ h1
    | (obtain ⟨m, e, t⟩ := h1
       obtain ⟨m2, e2, t2⟩ := b x _ e
       exact ⟨m ++ m2, by rw [e2, Array.append_assoc], fun z => by rw [← Array.append_assoc]; exact t2 (t z)⟩)
theorem Ex.new {H : Hp} {p : Addr} {o : HO} (h : H p = none) : Ex H (upd H p o) := fun a u e => by
  rw [upd_ne (ne_of_none e h)]
  exact .of e
theorem Ex.fresh {H H' : Hp} {p : Addr} (e : Ex H H') (h : H' p = none) : H p = none := by
  cases h1 : H p with
  | none => rfl
  | some o =>
    obtain ⟨u, z⟩ := (e p o h1).some
    rw [h] at z; cases z
theorem Ex.upd2 {G H : Hp} {p : Addr} {o : HO} (e : Ex G H) : Ex (upd G p o) (upd H p o) := fun a u h => by
  by_cases ha : a = p
  · subst ha; rw [upd_same] at h ⊢; exact .of h
  · rw [upd_ne ha] at h ⊢; exact e a u h
theorem Ex.mut {G H : Hp} {p : Addr} {o : HO} (e : Ex G H) (h : G p = none) : Ex G (upd H p o) := fun a u ha => by
  rw [upd_ne (ne_of_none ha h)]
  exact e a u ha
theorem ex_rd {H H' : Hp} {a : Addr} {u : HO} (e : Ex H H') (n : NoTb u) (h : Rd H a u) : Rd H' a u := by
  rcases h with h | ⟨o, h⟩
  · exact Or.inl ((e a _ h).at n)
  · exact Or.inr ⟨o, e a _ h⟩
theorem ex_l {K : Fg} {H H' : Hp} {a : Addr} {xs : List V} (e : Ex H H') (h : SqL K H a xs) : SqL K H' a xs := by
  rcases h with h | h
  · exact Or.inl (ex_rd e (fun _ z => nomatch z) h)
  · exact Or.inr h
theorem ex_t {K : Fg} {H H' : Hp} {a : Addr} {xs : List V} (e : Ex H H') (h : SqT K H a xs) : SqT K H' a xs := by
  rcases h with h | h
  · exact Or.inl (ex_rd e (fun _ z => nomatch z) h)
  · exact Or.inr h
/-! ### data -/
inductive D where
  | non | bl (b : Bool) | int (i : Int) | str (x : Str) | lst (xs : List D) | tup (xs : List D)
  /-- the script: a list that is read alone -/
  | scr (ns : List Int)
  /-- an object, by its address -/
  | ref (a : Addr)
  /-- a built-in class -/
  | ty (n : String)
  /-- an exception of an own class: its class object, its fields and what they hold -/
  | exc (Cl : Addr) (fl : List Str) (ds : List D)
  /-- a list that callees change: a list of data, a number, and n more integers; what the integers are is not told -/
  | hand (ds : List D) (n : Nat)
  /-- a list of n integers, none greater than B in size, that is changed by other names too; which integers is not told -/
  | loose (n B : Nat)
/-- the integers behind a hand's list -/
def handV (dr : Addr) (i : Nat) (js : List Int) : List V := .ref dr :: .int (i : Int) :: js.map V.int
def HandO (p dr : Addr) (n : Nat) : HO := .ext fun h => ∃ (i : Nat) (js : List Int) (its : List Value) (m : Nat), js.length = n ∧ (handV dr i js).length ≤ sizeLine ∧ Vals (handV dr i js) its ∧ h.get? p = some { cls := .type "list", data := .seq its.toArray m }
def LooseO (p : Addr) (n B : Nat) : HO := .ext fun h => ∃ (js : List Int) (its : List Value) (m : Nat), js.length = n ∧ (∀ j ∈ js, j.natAbs ≤ B) ∧ js.length ≤ sizeLine ∧ Vals (js.map V.int) its ∧ h.get? p = some { cls := .type "list", data := .seq its.toArray m }
mutual
inductive Dq (K : Fg) (H : Hp) : V → D → Prop
  | non : Dq K H .non .non
  | bl (b : Bool) : Dq K H (.bl b) (.bl b)
  | int (i : Int) : Dq K H (.int i) (.int i)
  | str (x : Str) : Dq K H (.str x) (.str x)
  | lst {a : Addr} {xs : List V} {ds : List D} : H a = some (.lst xs) → DqAll K H xs ds → Dq K H (.ref a) (.lst ds)
  | tup {a : Addr} {xs : List V} {ds : List D} : SqT K H a xs → DqAll K H xs ds → Dq K H (.ref a) (.tup ds)
  | scr {a : Addr} {ns : List Int} : SqL K H a (ns.map V.int) → Dq K H (.ref a) (.scr ns)
  | ref (a : Addr) : Dq K H (.ref a) (.ref a)
  | ty (n : String) : Dq K H (.ty n) (.ty n)
  | exc {a dd Cl : Addr} {fl : List Str} {vs : List V} {ds : List D} : H a = some (exo a Cl (some dd)) → H dd = some (exd dd (fl.zip vs).reverse) → DqAll K H vs ds → Dq K H (.ref a) (.exc Cl fl ds)
  | hand {a dr : Addr} {xs : List V} {ds : List D} {n : Nat} : H a = some (HandO a dr n) → H dr = some (.lst xs) → DqAll K H xs ds → Dq K H (.ref a) (.hand ds n)
  | loose {a : Addr} {n B : Nat} : H a = some (LooseO a n B) → Dq K H (.ref a) (.loose n B)
inductive DqAll (K : Fg) (H : Hp) : List V → List D → Prop
  | nil : DqAll K H [] []
  | cons {v : V} {vs : List V} {d : D} {ds : List D} : Dq K H v d → DqAll K H vs ds → DqAll K H (v :: vs) (d :: ds)
end
mutual
theorem dq_mono {K : Fg} {H H' : Hp} (e : Ex H H') : ∀ {v : V} {d : D}, Dq K H v d → Dq K H' v d
  | _, _, .non => .non
  | _, _, .bl b => .bl b
  | _, _, .int i => .int i
  | _, _, .str x => .str x
  | _, _, .lst h a => .lst (e _ _ h) (dqAll_mono e a)
  | _, _, .tup h a => .tup (ex_t e h) (dqAll_mono e a)
  | _, _, .scr h => .scr (ex_l e h)
  | _, _, .ref a => .ref a
  | _, _, .ty n => .ty n
  | _, _, .exc h1 h2 a => .exc (e _ _ h1) (e _ _ h2) (dqAll_mono e a)
  | _, _, .hand h1 h2 a => .hand (e _ _ h1) (e _ _ h2) (dqAll_mono e a)
  | _, _, .loose h => .loose (e _ _ h)
theorem dqAll_mono {K : Fg} {H H' : Hp} (e : Ex H H') : ∀ {vs : List V} {ds : List D}, DqAll K H vs ds → DqAll K H' vs ds
  | _, _, .nil => .nil
  | _, _, .cons h a => .cons (dq_mono e h) (dqAll_mono e a)
end
section
variable {K : Fg} {G : Hp}
theorem dq_int {v : V} {i : Int} (h : Dq K G v (.int i)) : v = .int i := by cases h; rfl
theorem dq_bl {v : V} {b : Bool} (h : Dq K G v (.bl b)) : v = .bl b := by cases h; rfl
theorem dq_str {v : V} {x : Str} (h : Dq K G v (.str x)) : v = .str x := by cases h; rfl
theorem dq_non {v : V} (h : Dq K G v .non) : v = .non := by cases h; rfl
theorem dq_ref {v : V} {a : Addr} (h : Dq K G v (.ref a)) : v = .ref a := by cases h; rfl
theorem dq_ty {v : V} {n : String} (h : Dq K G v (.ty n)) : v = .ty n := by cases h; rfl
theorem dq_lst {v : V} {ds : List D} (h : Dq K G v (.lst ds)) : ∃ a vs, v = .ref a ∧ G a = some (.lst vs) ∧ DqAll K G vs ds := by
  cases h with
  | lst h a => exact ⟨_, _, rfl, h, a⟩
theorem dq_tup {v : V} {ds : List D} (h : Dq K G v (.tup ds)) : ∃ a vs, v = .ref a ∧ SqT K G a vs ∧ DqAll K G vs ds := by
  cases h with
  | tup h a => exact ⟨_, _, rfl, h, a⟩
theorem dq_scr {v : V} {ns : List Int} (h : Dq K G v (.scr ns)) : ∃ a, v = .ref a ∧ SqL K G a (ns.map V.int) := by
  cases h with
  | scr h => exact ⟨_, rfl, h⟩
theorem DqAll.length : ∀ {vs : List V} {ds : List D}, DqAll K G vs ds → vs.length = ds.length
  | _, _, .nil => rfl
  | _, _, .cons _ a => congrArg (· + 1) (DqAll.length a)
theorem DqAll.get : ∀ {vs : List V} {ds : List D} {i : Nat} {d : D}, DqAll K G vs ds → ds[i]? = some d → ∃ v, vs[i]? = some v ∧ Dq K G v d
  | _, _, _, _, .nil, e => by simp at e
  | _, _, 0, _, .cons h _, e => by
    simp at e; subst e; exact ⟨_, rfl, h⟩
  | _, _, i + 1, d, .cons _ a, e => by
    obtain ⟨v, h1, h2⟩ := DqAll.get (i := i) (d := d) a (by simpa using e)
    exact ⟨v, by simpa using h1, h2⟩
theorem DqAll.get' : ∀ {vs : List V} {ds : List D} {i : Nat} {v : V}, DqAll K G vs ds → vs[i]? = some v → ∃ d, ds[i]? = some d ∧ Dq K G v d
  | _, _, _, _, .nil, e => by simp at e
  | _, _, 0, _, .cons h _, e => by
    simp at e; subst e; exact ⟨_, rfl, h⟩
  | _, _, i + 1, d, .cons _ a, e => by
    obtain ⟨v, h1, h2⟩ := DqAll.get' (i := i) (v := d) a (by simpa using e)
    exact ⟨v, by simpa using h1, h2⟩
theorem DqAll.append : ∀ {vs ws : List V} {ds es : List D}, DqAll K G vs ds → DqAll K G ws es → DqAll K G (vs ++ ws) (ds ++ es)
  | _, _, _, _, .nil, b => b
  | _, _, _, _, .cons h a, b => .cons h (DqAll.append a b)
theorem DqAll.take : ∀ {vs : List V} {ds : List D} (n : Nat), DqAll K G vs ds → DqAll K G (vs.take n) (ds.take n)
  | _, _, 0, _ => .nil
  | _, _, _ + 1, .nil => .nil
  | _, _, n + 1, .cons h a => .cons h (DqAll.take n a)
theorem DqAll.drop : ∀ {vs : List V} {ds : List D} (n : Nat), DqAll K G vs ds → DqAll K G (vs.drop n) (ds.drop n)
  | _, _, 0, h => h
  | _, _, _ + 1, .nil => .nil
  | _, _, n + 1, .cons _ a => DqAll.drop n a
theorem DqAll.set {v : V} {d : D} (r : Dq K G v d) : ∀ {vs : List V} {ds : List D} (i : Nat), DqAll K G vs ds → DqAll K G (vs.set i v) (ds.set i d)
  | _, _, _, .nil => .nil
  | _, _, 0, .cons _ t => .cons r t
  | _, _, i + 1, .cons q t => .cons q (DqAll.set r i t)
theorem dqAll_ints : ∀ (ns : List Int), DqAll K G (ns.map V.int) (ns.map D.int)
  | [] => .nil
  | n :: r => .cons (.int n) (dqAll_ints r)
theorem dqAll_ints' : ∀ {vs : List V} {ns : List Int}, DqAll K G vs (ns.map D.int) → vs = ns.map V.int
  | [], [], _ => rfl
  | _, _ :: _, .cons h a => by rw [dq_int h, dqAll_ints' a]; rfl
end
/-! ### what a slot holds -/
inductive Loc where
  | any
  | val (d : D)
  | own (ds : List D)
  | own2 (dss : List (List D))
def Own2 (K : Fg) (G H : Hp) : List Addr → List (List D) → Prop
  | [], [] => True
  | q :: qs, ds :: dss => (∃ vs, H q = some (.lst vs) ∧ DqAll K G vs ds) ∧ Own2 K G H qs dss
  | _, _ => False
def LocOk (K : Fg) (G H : Hp) (sv : Option V) : Loc → List Addr → Prop
  | .any, ps => ps = []
  | .val d, ps => ps = [] ∧ ∃ v, sv = some v ∧ Dq K G v d
  | .own ds, ps => ∃ p vs, ps = [p] ∧ sv = some (.ref p) ∧ H p = some (.lst vs) ∧ DqAll K G vs ds
  | .own2 dss, ps => ∃ p qs, ps = p :: qs ∧ sv = some (.ref p) ∧ H p = some (.lst (qs.map V.ref)) ∧ Own2 K G H qs dss
/-- something stands there that is no table -/
def NT (H : Hp) (a : Addr) : Prop := ∃ o, H a = some o ∧ NoTb o
theorem NT.ne {H : Hp} {a : Addr} (h : NT H a) : H a ≠ none := by
  obtain ⟨o, e, _⟩ := h
  rw [e]
  simp
theorem nt_lst {H : Hp} {a : Addr} {xs : List V} (h : H a = some (.lst xs)) : NT H a := ⟨_, h, fun _ z => nomatch z⟩
theorem nt_eq {H H' : Hp} {a : Addr} (h : NT H a) (e : H' a = H a) : NT H' a := by
  obtain ⟨o, e1, n⟩ := h
  exact ⟨o, e.trans e1, n⟩
structure Sat (K : Fg) (F : Addr → Prop) (G H : Hp) (σ : L2.St) (ls : List Loc) : Prop where
  ex : Ex G H
  fo : ∀ a, F a → G a = none ∧ NT H a
  len : σ.length = ls.length
  ow : ∃ ow : Nat → List Addr, (∀ i l, ls[i]? = some l → LocOk K G H (σ.getD i none) l (ow i)) ∧ (∀ i p, p ∈ ow i → G p = none ∧ NT H p ∧ ¬ F p) ∧ (∀ i, (ow i).Nodup) ∧ (∀ i j p, p ∈ ow i → p ∈ ow j → i = j)
theorem own2_mono {K : Fg} {G G' H H' : Hp} (eg : Ex G G') : ∀ {qs : List Addr} {dss : List (List D)}, (∀ q ∈ qs, H' q = H q) → Own2 K G H qs dss → Own2 K G' H' qs dss
  | [], [], _, _ => True.intro
  | q :: qs, ds :: dss, e, ⟨⟨vs, h1, h2⟩, h3⟩ => ⟨⟨vs, by rw [e q List.mem_cons_self]; exact h1, dqAll_mono eg h2⟩, own2_mono eg (fun r hr => e r (List.mem_cons_of_mem _ hr)) h3⟩
theorem locOk_mono {K : Fg} {G G' H H' : Hp} {sv : Option V} {l : Loc} {ps : List Addr} (eg : Ex G G') (e : ∀ p ∈ ps, H' p = H p) (h : LocOk K G H sv l ps) : LocOk K G' H' sv l ps := by
  cases l with
  | any => exact h
  | val d => obtain ⟨h1, v, h2, h3⟩ := h; exact ⟨h1, v, h2, dq_mono eg h3⟩
  | own ds =>
    obtain ⟨p, vs, rfl, h2, h3, h4⟩ := h
    exact ⟨p, vs, rfl, h2, by rw [e p List.mem_cons_self]; exact h3, dqAll_mono eg h4⟩
  | own2 dss =>
    obtain ⟨p, qs, rfl, h2, h3, h4⟩ := h
    exact ⟨p, qs, rfl, h2, by rw [e p List.mem_cons_self]; exact h3, own2_mono eg (fun q hq => e q (List.mem_cons_of_mem _ hq)) h4⟩
theorem ex_eq {H H' : Hp} {p : Addr} (e : Ex H H') (h : NT H p) : H' p = H p := by
  obtain ⟨o, q, n⟩ := h
  rw [q]
  exact (e p o q).at n
theorem ex_nt {H H' : Hp} {p : Addr} (e : Ex H H') (h : NT H p) : NT H' p := nt_eq h (ex_eq e h)
section
variable {K : Fg} {F F' : Addr → Prop} {G G' H H' : Hp} {σ : L2.St} {ls : List Loc}
theorem Sat.grow (S : Sat K F G H σ ls) (eg : Ex G G') (eh : Ex H H') (e : Ex G' H') (n : ∀ a, G' a ≠ none → G a ≠ none ∨ ¬ NT H a) : Sat K F G' H' σ ls := by
  obtain ⟨ow, h1, h2, h3, h4⟩ := S.ow
  have nn : ∀ a, G a = none → NT H a → G' a = none := fun a g h => by
    cases q : G' a with
    | none => rfl
    | some o =>
      rcases n a (by rw [q]; simp) with z | z
      · exact absurd g z
      · exact absurd h z
  refine ⟨e, fun a fa => ?_, S.len, ow, fun i l hl => locOk_mono eg (fun p hp => ex_eq eh (h2 i p hp).2.1) (h1 i l hl), fun i p hp => ?_, h3, h4⟩
  · obtain ⟨g, h⟩ := S.fo a fa
    exact ⟨nn a g h, ex_nt eh h⟩
  · obtain ⟨g, h, f⟩ := h2 i p hp
    exact ⟨nn p g h, ex_nt eh h, f⟩
/-- a new object, frozen -/
theorem Sat.made (S : Sat K F G H σ ls) {p : Addr} {o : HO} (h : H p = none) : Sat K F (upd G p o) (upd H p o) σ ls :=
  S.grow (Ex.new (S.ex.fresh h)) (Ex.new h) S.ex.upd2 fun a ha => by
    by_cases hp : a = p
    · subst hp; exact Or.inr fun z => z.ne h
    · rw [upd_ne hp] at ha; exact Or.inl ha
theorem Sat.sub (S : Sat K F G H σ ls) (h : ∀ a, F' a → F a) : Sat K F' G H σ ls := by
  obtain ⟨ow, h1, h2, h3, h4⟩ := S.ow
  exact ⟨S.ex, fun a fa => S.fo a (h a fa), S.len, ow, h1, fun i p hp => ⟨(h2 i p hp).1, (h2 i p hp).2.1, fun z => (h2 i p hp).2.2 (h p z)⟩, h3, h4⟩
/-- a new list, of nobody yet -/
theorem Sat.madeF (S : Sat K F G H σ ls) {p : Addr} {o : HO} (h : H p = none) (nt : NoTb o := by intro _ z; cases z) : Sat K (fun a => F a ∨ a = p) G (upd H p o) σ ls := by
  obtain ⟨ow, h1, h2, h3, h4⟩ := S.ow
  have eh : Ex H (upd H p o) := Ex.new h
  refine ⟨S.ex.trans eh, fun a fa => ?_, S.len, ow, fun i l hl => locOk_mono (Ex.refl G) (fun p hp => ex_eq eh (h2 i p hp).2.1) (h1 i l hl), fun i q hq => ?_, h3, h4⟩
  · rcases fa with fa | fa
    · obtain ⟨g, k⟩ := S.fo a fa
      exact ⟨g, ex_nt eh k⟩
    · subst fa
      exact ⟨S.ex.fresh h, ⟨o, upd_same, nt⟩⟩
  · obtain ⟨g, k, f⟩ := h2 i q hq
    refine ⟨g, ex_nt eh k, fun z => ?_⟩
    rcases z with z | z
    · exact f z
    · subst z; exact k.ne h
/-- a list of nobody, frozen -/
theorem Sat.freeze {p : Addr} (S : Sat K (fun a => F a ∨ a = p) G H σ ls) (nf : ¬ F p) {o : HO} (h : H p = some o) : Sat K F (upd G p o) H σ ls := by
  obtain ⟨ow, h1, h2, h3, h4⟩ := S.ow
  have gp : G p = none := (S.fo p (Or.inr rfl)).1
  have eg : Ex G (upd G p o) := Ex.new gp
  refine ⟨fun a u ha => ?_, fun a fa => ?_, S.len, ow, fun i l hl => locOk_mono eg (fun _ _ => rfl) (h1 i l hl), fun i q hq => ?_, h3, h4⟩
  · by_cases hp : a = p
    · subst hp; rw [upd_same] at ha; exact .of (h.trans ha)
    · rw [upd_ne hp] at ha; exact S.ex a u ha
  · have ne : a ≠ p := fun z => nf (z ▸ fa)
    rw [upd_ne ne]
    exact S.fo a (Or.inl fa)
  · obtain ⟨g, k, f⟩ := h2 i q hq
    have ne : q ≠ p := fun z => f (Or.inr z)
    rw [upd_ne ne]
    exact ⟨g, k, fun z => f (Or.inl z)⟩
theorem getD_set_self {σ : L2.St} {i : Nat} {x : Option V} (h : i < σ.length) : (σ.set i x).getD i none = x := by
  rw [List.getD_eq_getElem?_getD, List.getElem?_set_self h]; rfl
theorem getD_set_ne {σ : L2.St} {i j : Nat} {x : Option V} (h : j ≠ i) : (σ.set i x).getD j none = σ.getD j none := by
  rw [List.getD_eq_getElem?_getD, List.getElem?_set_ne (Ne.symm h), List.getD_eq_getElem?_getD]
end
def owSet (ow : Nat → List Addr) (i : Nat) (ps : List Addr) : Nat → List Addr := fun j => if j = i then ps else ow j
theorem owSet_same {ow : Nat → List Addr} {i : Nat} {ps : List Addr} : owSet ow i ps i = ps := if_pos rfl
theorem owSet_ne {ow : Nat → List Addr} {i j : Nat} {ps : List Addr} (h : j ≠ i) : owSet ow i ps j = ow j := if_neg h
/-- a slot gets another content, the heaps as they are -/
theorem sat_repl {K : Fg} {F F1 : Addr → Prop} {G H : Hp} {σ : L2.St} {ls : List Loc} {i : Nat} {x : Option V} {l : Loc} {ps : List Addr} (S : Sat K F1 G H σ ls) (hF : ∀ a, F a → F1 a) (ok : LocOk K G H x l ps)
    (hp : ∀ p ∈ ps, G p = none ∧ NT H p ∧ ¬ F p) (nd : ps.Nodup) (dj : ∀ p ∈ ps, F1 p) : Sat K F G H (σ.set i x) (ls.set i l) := by
  obtain ⟨ow, h1, h2, h3, h4⟩ := S.ow
  have np : ∀ p ∈ ps, ∀ j, p ∉ ow j := fun p hp' j z => (h2 j p z).2.2 (dj p hp')
  refine ⟨S.ex, fun a fa => S.fo a (hF a fa), by rw [List.length_set, List.length_set]; exact S.len, owSet ow i ps, fun j m hl => ?_, fun j q hq => ?_, fun j => ?_, fun j k q hj hk => ?_⟩
  · by_cases hj : j = i
    · subst hj
      have hlt : j < ls.length := by
        have := (List.getElem?_eq_some_iff.mp hl).1
        rwa [List.length_set] at this
      rw [List.getElem?_set_self hlt] at hl
      cases hl
      rw [owSet_same, getD_set_self (by rw [S.len]; exact hlt)]
      exact ok
    · rw [List.getElem?_set_ne (Ne.symm hj)] at hl
      rw [owSet_ne hj, getD_set_ne hj]
      exact h1 j m hl
  · by_cases hj : j = i
    · subst hj; rw [owSet_same] at hq; exact hp q hq
    · rw [owSet_ne hj] at hq
      exact ⟨(h2 j q hq).1, (h2 j q hq).2.1, fun z => (h2 j q hq).2.2 (hF q z)⟩
  · by_cases hj : j = i
    · subst hj; rw [owSet_same]; exact nd
    · rw [owSet_ne hj]; exact h3 j
  · by_cases ej : j = i
    · by_cases ek : k = i
      · rw [ej, ek]
      · subst ej; rw [owSet_same] at hj; rw [owSet_ne ek] at hk; exact absurd hk (np q hj k)
    · by_cases ek : k = i
      · subst ek; rw [owSet_same] at hk; rw [owSet_ne ej] at hj; exact absurd hj (np q hk j)
      · rw [owSet_ne ej] at hj; rw [owSet_ne ek] at hk; exact h4 j k q hj hk
section
variable {K : Fg} {F F' : Addr → Prop} {G G' H H' : Hp} {σ : L2.St} {ls : List Loc} {p : Addr}
/-- a slot is stored: frozen data -/
theorem Sat.setV (S : Sat K F G H σ ls) {i : Nat} {v : V} {d : D} (hv : Dq K G v d) : Sat K F G H (σ.set i (some v)) (ls.set i (.val d)) :=
  sat_repl (ps := []) S (fun _ h => h) ⟨rfl, v, rfl, hv⟩ (fun _ h => nomatch h) List.nodup_nil (fun _ h => nomatch h)
/-- a slot is stored: a list of nobody becomes its own -/
theorem Sat.setN (S : Sat K (fun a => F a ∨ a = p) G H σ ls) (nf : ¬ F p) {i : Nat} {vs : List V} {ds : List D} (h : H p = some (.lst vs)) (hv : DqAll K G vs ds) : Sat K F G H (σ.set i (some (.ref p))) (ls.set i (.own ds)) :=
  sat_repl (ps := [p]) S (fun _ h => Or.inl h) ⟨p, vs, rfl, rfl, h, hv⟩ (fun q hq => by
    obtain rfl := List.mem_singleton.mp hq
    exact ⟨(S.fo q (Or.inr rfl)).1, nt_lst h, nf⟩) (by simp) (fun q hq => Or.inr (List.mem_singleton.mp hq))
/-- a slot forgotten -/
theorem Sat.forget (S : Sat K F G H σ ls) {i : Nat} (x : Option V) : Sat K F G H (σ.set i x) (ls.set i .any) :=
  sat_repl (ps := []) S (fun _ h => h) rfl (fun _ h => nomatch h) List.nodup_nil (fun _ h => nomatch h)
theorem Sat.var (S : Sat K F G H σ ls) {i : Nat} {d : D} (h : ls[i]? = some (.val d)) : ∃ v, σ[i]? = some (some v) ∧ Dq K G v d := by
  obtain ⟨ow, h1, _⟩ := S.ow
  obtain ⟨_, v, e, hv⟩ := h1 i _ h
  refine ⟨v, ?_, hv⟩
  rw [List.getD_eq_getElem?_getD] at e
  cases q : σ[i]? with
  | none => rw [q] at e; cases e
  | some x => rw [q] at e; exact congrArg some e
theorem Sat.ownAt (S : Sat K F G H σ ls) {i : Nat} {ds : List D} (h : ls[i]? = some (.own ds)) : ∃ p vs, σ[i]? = some (some (V.ref p)) ∧ H p = some (.lst vs) ∧ DqAll K G vs ds ∧ G p = none ∧ ¬ F p := by
  obtain ⟨ow, h1, h2, _⟩ := S.ow
  obtain ⟨p, vs, e0, e, h3, hv⟩ := h1 i _ h
  refine ⟨p, vs, ?_, h3, hv, (h2 i p (by rw [e0]; exact List.mem_cons_self)).1, (h2 i p (by rw [e0]; exact List.mem_cons_self)).2.2⟩
  rw [List.getD_eq_getElem?_getD] at e
  cases q : σ[i]? with
  | none => rw [q] at e; cases e
  | some x => rw [q] at e; exact congrArg some e
/-- an own list changes -/
theorem Sat.mut (S : Sat K F G H σ ls) {i : Nat} {ds : List D} {ws : List V} {es : List D} (h : ls[i]? = some (.own ds)) (hp : σ[i]? = some (some (V.ref p))) (hw : DqAll K G ws es) :
    Sat K F G (upd H p (.lst ws)) σ (ls.set i (.own es)) := by
  obtain ⟨ow, h1, h2, h3, h4⟩ := S.ow
  have hi := h1 i _ h
  obtain ⟨p', vs, e0, e, hh, hv⟩ := hi
  have ep : p' = p := by
    rw [List.getD_eq_getElem?_getD, hp] at e
    cases e; rfl
  subst ep
  have pi : p' ∈ ow i := by rw [e0]; exact List.mem_cons_self
  obtain ⟨gp, hn, nf⟩ := h2 i p' pi
  refine ⟨S.ex.mut gp, fun a fa => ?_, by rw [List.length_set]; exact S.len, ow, fun j l hl => ?_, fun j q hq => ?_, h3, h4⟩
  · have ne : a ≠ p' := fun z => nf (z ▸ fa)
    exact ⟨(S.fo a fa).1, nt_eq (S.fo a fa).2 (upd_ne ne)⟩
  · by_cases hj : j = i
    · subst hj
      have hlt : j < ls.length := (List.getElem?_eq_some_iff.mp h).1
      rw [List.getElem?_set_self hlt] at hl
      cases hl
      exact ⟨p', ws, e0, e, upd_same, hw⟩
    · rw [List.getElem?_set_ne (Ne.symm hj)] at hl
      refine locOk_mono (Ex.refl G) (fun q hq => upd_ne fun z => hj (h4 j i p' (z ▸ hq) pi)) (h1 j l hl)
  · obtain ⟨a, b, c⟩ := h2 j q hq
    refine ⟨a, ?_, c⟩
    by_cases hz : q = p'
    · rw [hz]; exact nt_lst upd_same
    · exact nt_eq b (upd_ne hz)
/-- an own list becomes frozen -/
theorem Sat.thaw (S : Sat K F G H σ ls) {i : Nat} {ds : List D} (h : ls[i]? = some (.own ds)) : ∃ G', Ex G G' ∧ (∀ a, F a → G' a = none) ∧ Sat K F G' H σ (ls.set i (.val (.lst ds))) := by
  obtain ⟨p, vs, e1, e2, e3, e4, e5⟩ := S.ownAt h
  obtain ⟨ow, h1, h2, h3, h4⟩ := S.ow
  obtain ⟨p', vs', e0, e, hh, hv⟩ := h1 i _ h
  have ep : p' = p := by
    rw [List.getD_eq_getElem?_getD, e1] at e
    cases e; rfl
  subst ep
  have pi : p' ∈ ow i := by rw [e0]; exact List.mem_cons_self
  have eg : Ex G (upd G p' (.lst vs)) := Ex.new e4
  have fg : ∀ a, F a → upd G p' (.lst vs) a = none := fun a fa => by
    have ne : a ≠ p' := fun z => e5 (z ▸ fa)
    rw [upd_ne ne]; exact (S.fo a fa).1
  refine ⟨upd G p' (.lst vs), eg, fg, fun a u ha => ?_, fun a fa => ⟨fg a fa, (S.fo a fa).2⟩, by rw [List.length_set]; exact S.len, owSet ow i [], fun j l hl => ?_, fun j q hq => ?_, fun j => ?_, fun j k q hj hk => ?_⟩
  · by_cases hp : a = p'
    · subst hp; rw [upd_same] at ha; exact .of (e2.trans ha)
    · rw [upd_ne hp] at ha; exact S.ex a u ha
  · by_cases hj : j = i
    · subst hj
      have hlt : j < ls.length := (List.getElem?_eq_some_iff.mp h).1
      rw [List.getElem?_set_self hlt] at hl
      cases hl
      rw [owSet_same]
      exact ⟨rfl, .ref p', e, .lst upd_same (dqAll_mono eg e3)⟩
    · rw [List.getElem?_set_ne (Ne.symm hj)] at hl
      rw [owSet_ne hj]
      exact locOk_mono eg (fun _ _ => rfl) (h1 j l hl)
  · by_cases hj : j = i
    · subst hj; rw [owSet_same] at hq; cases hq
    · rw [owSet_ne hj] at hq
      obtain ⟨a, b, c⟩ := h2 j q hq
      have ne : q ≠ p' := fun z => hj (h4 j i p' (z ▸ hq) pi)
      rw [upd_ne ne]
      exact ⟨a, b, c⟩
  · by_cases hj : j = i
    · subst hj; rw [owSet_same]; exact List.nodup_nil
    · rw [owSet_ne hj]; exact h3 j
  · by_cases ej : j = i
    · subst ej; rw [owSet_same] at hj; cases hj
    · by_cases ek : k = i
      · subst ek; rw [owSet_same] at hk; cases hk
      · rw [owSet_ne ej] at hj; rw [owSet_ne ek] at hk; exact h4 j k q hj hk
end
/-! ### exceptions -/
/-- an exception's fields as data -/
inductive FsOk (K : Fg) (G : Hp) : List (Str × V) → List (Str × D) → Prop
  | nil : FsOk K G [] []
  | cons {f : Str} {v : V} {d : D} {fs : List (Str × V)} {gs : List (Str × D)} : Dq K G v d → FsOk K G fs gs → FsOk K G ((f, v) :: fs) ((f, d) :: gs)
theorem fs_mono {K : Fg} {G G' : Hp} (e : Ex G G') : ∀ {fs : List (Str × V)} {gs : List (Str × D)}, FsOk K G fs gs → FsOk K G' fs gs
  | _, _, .nil => .nil
  | _, _, .cons h r => .cons (dq_mono e h) (fs_mono e r)
theorem fs_get {K : Fg} {G : Hp} {f : Str} {d : D} : ∀ {fs : List (Str × V)} {gs : List (Str × D)}, FsOk K G fs gs → gs.lookup f = some d → ∃ v, fs.lookup f = some v ∧ Dq K G v d
  | _, _, .nil, h => by cases h
  | _, _, .cons (f := f') (v := v) (d := d') h r, e => by
    rw [List.lookup_cons] at e ⊢
    cases q : f == f' with
    | true => rw [q] at e; cases e; exact ⟨v, rfl, h⟩
    | false => rw [q] at e; exact fs_get r e
/-- what is wanted of an exception: W at the slots, where xp lets it -/
structure Xw where
  W : WX
  xp : List Loc → Addr → List (Str × D) → Prop
  /-- the code objects' tables that may grow -/
  T : Addr → Prop
  /-- exceptions' dicts that are known, their fields as data -/
  dx : List (Addr × List (Str × D))
/-- a code object's table stands at P -/
def TabAt (G : Hp) (P : Addr) : Prop := ∃ ps, G P = some (.tbl ps) ∧ TriplesOk ps.toList
theorem TabAt.mono {G H : Hp} {P : Addr} (e : Ex G H) (h : TabAt G P) : TabAt H P := by
  obtain ⟨ps, h1, h2⟩ := h
  obtain ⟨m, h3, h4⟩ := e P _ h1
  exact ⟨_, h3, h4 h2⟩
/-- an exception's dict stands at a -/
def XdAt (K : Fg) (G : Hp) (a : Addr) (gs : List (Str × D)) : Prop := ∃ fs, G a = some (.xd fs) ∧ FsOk K G fs gs
theorem XdAt.mono {K : Fg} {G H : Hp} {a : Addr} {gs : List (Str × D)} (e : Ex G H) (h : XdAt K G a gs) : XdAt K H a gs := by
  obtain ⟨fs, h1, h2⟩ := h
  exact ⟨fs, e a _ h1, fs_mono e h2⟩
structure Xok (K : Fg) (E : Xw) (F : Addr → Prop) (G H : Hp) (σ : L2.St) (ls : List Loc) : Prop where
  tb : ∀ P, E.T P → TabAt G P
  dx : ∀ p ∈ E.dx, XdAt K G p.1 p.2
  ex : ∀ G' H' C dd fs gs, Ex G G' → Ex H H' → Sat K F G' H' σ ls → G' dd = some (.xd fs) → FsOk K G' fs gs → E.xp ls C gs → E.W (.ref C) (some dd) σ H'
theorem Xok.step {K : Fg} {E : Xw} {F : Addr → Prop} {G H G1 H1 : Hp} {σ : L2.St} {ls : List Loc} (x : Xok K E F G H σ ls) (eg : Ex G G1) (eh : Ex H H1) : Xok K E F G1 H1 σ ls := ⟨fun P h => (x.tb P h).mono eg, fun p h => (x.dx p h).mono eg, fun G' H' C dd fs gs e1 e2 => x.ex G' H' C dd fs gs (eg.trans e1) (eh.trans e2)⟩
/-- nothing is raised -/
def noX (T : Addr → Prop := fun _ => False) : Xw := ⟨fun _ _ _ _ => False, fun _ _ _ => False, T, []⟩
theorem xok_no {K : Fg} {T : Addr → Prop} {F : Addr → Prop} {G H : Hp} {σ : L2.St} {ls : List Loc} (h : ∀ P, T P → TabAt G P) : Xok K (noX T) F G H σ ls := ⟨h, fun _ z => (List.not_mem_nil z).elim, fun _ _ _ _ _ _ _ _ _ _ _ z => z.elim⟩
end Qp

/-! Q2: the judgements over data. -/
namespace Qp
open PySem PySem.Spec PyProof.Rows L2
theorem takesN {X : Cx} : L2N.Takes X (fun _ _ _ _ => False) := fun _ _ x => by
  obtain ⟨_, _, _, _, _, _, _, _, _, _, _, _, _, _, _, _, z⟩ := x
  exact z.elim
/-- a family of contexts of one text (a def's body; a comprehension's blocks) -/
structure Cs where
  ι : Type
  X : ι → Cx
  P : Program
  w : World
  K : Fg
  mg : Str → Option Value
  base : Heap
  N : List Str
  k : Nat
  hP : ∀ i, (X i).prog = P
  hw : ∀ i, (X i).w = w
  hK : ∀ i, (X i).K = K
  hmg : ∀ i, (X i).mg = mg
  hbase : ∀ i, (X i).base = base
  hN : ∀ i, (X i).N = N
  nd : N.Nodup
  /-- within the suite of an except -/
  hot : Bool := false
  calm : ∀ i, hot = false → (X i).calm = true
  cold : ∀ i, hot = false → Room k (X i).A
  hotc : ∀ i, hot = true → L2H.HotC (X i) ∧ L2H.RoomH k (X i).A
  E : Xw
  takes : ∀ i, L2N.Takes (X i) E.W
/-- not within the suite of an except -/
class Cold (C : Cs) : Prop where
  h : C.hot = false
theorem Cs.hu (C : Cs) (i : C.ι) : (C.X i).A.units + 64 < cLine := by
  cases h : C.hot with
  | false => exact (C.cold i h).units
  | true =>
    have := (C.hotc i h).2.un
    omega
/-! ### what evaluates to what -/
def Ev (K : Fg) (E : Xw) (te : TE) (ls : List Loc) (d : D) : Prop := ∀ F G H σ, Sat K F G H σ ls → Xok K E F G H σ ls → ∀ Q : VK, (∀ v G' H', Ex G G' → Ex H H' → Sat K F G' H' σ ls → Dq K G' v d → Q v H') → te σ H Q
/-- a new list of nobody -/
def EvN (K : Fg) (E : Xw) (te : TE) (ls : List Loc) (ds : List D) : Prop := ∀ F G H σ, Sat K F G H σ ls → Xok K E F G H σ ls → ∀ Q : VK, (∀ p vs G' H', Ex G G' → Ex H H' → ¬ F p → Sat K (fun a => F a ∨ a = p) G' H' σ ls → H' p = some (.lst vs) → DqAll K G' vs ds → Q (.ref p) H') → te σ H Q
/-- a list as it stands -/
def EvC (K : Fg) (E : Xw) (te : TE) (ls : List Loc) (ds : List D) : Prop := ∀ F G H σ, Sat K F G H σ ls → Xok K E F G H σ ls → ∀ Q : VK, (∀ p vs G' H', Ex G G' → Ex H H' → Sat K F G' H' σ ls → H' p = some (.lst vs) → DqAll K G' vs ds → Q (.ref p) H') → te σ H Q
def EvT (K : Fg) (E : Xw) (tt : TT) (ls : List Loc) (b : Bool) : Prop := ∀ F G H σ, Sat K F G H σ ls → Xok K E F G H σ ls → ∀ Q : Bool → Hp → Prop, (∀ G' H', Ex G G' → Ex H H' → Sat K F G' H' σ ls → Q b H') → tt σ H Q
def EvA (K : Fg) (E : Xw) (ta : TA) (ls : List Loc) (ds : List D) : Prop := ∀ F G H σ, Sat K F G H σ ls → Xok K E F G H σ ls → ∀ Q : List V → Hp → Prop, (∀ vs G' H', Ex G G' → Ex H H' → Sat K F G' H' σ ls → DqAll K G' vs ds → Q vs H') → ta σ H Q
section
variable {K : Fg} {E : Xw} {ls : List Loc} {ta tb te : TE} {d d1 d2 : D} {ds es : List D}
theorem ev_of_new (h : EvN K E te ls ds) : Ev K E te ls (.lst ds) := fun F G H σ S xx Q q => h F G H σ S xx Q fun p vs G' H' eg eh nf S' hp hv => by
  have gp : G' p = none := (S'.fo p (Or.inr rfl)).1
  exact q _ (upd G' p (.lst vs)) H' (eg.trans (Ex.new gp)) eh (S'.freeze nf hp) (.lst upd_same (dqAll_mono (Ex.new gp) hv))
theorem evC_of_new (h : EvN K E te ls ds) : EvC K E te ls ds := fun F G H σ S xx Q q => h F G H σ S xx Q fun p vs G' H' eg eh nf S' hp hv => q p vs G' H' eg eh (S'.sub fun a fa => Or.inl fa) hp hv
theorem evC_of (h : Ev K E te ls (.lst ds)) : EvC K E te ls ds := fun F G H σ S xx Q q => h F G H σ S xx Q fun v G' H' eg eh S' hv => by
  obtain ⟨a, vs, rfl, ha, hd⟩ := dq_lst hv
  exact q a vs G' H' eg eh S' (S'.ex a _ ha) hd
theorem ev_var {i : Nat} (h : ls[i]? = some (.val d)) : Ev K E (tVar i) ls d := fun F G H σ S xx Q q => by
  obtain ⟨v, e, hv⟩ := S.var h
  exact ⟨v, e, q v G H (Ex.refl G) (Ex.refl H) S hv⟩
theorem evC_own {i : Nat} (h : ls[i]? = some (.own ds)) : EvC K E (tVar i) ls ds := fun F G H σ S xx Q q => by
  obtain ⟨p, vs, e, hp, hv, _, _⟩ := S.ownAt h
  exact ⟨_, e, q p vs G H (Ex.refl G) (Ex.refl H) S hp hv⟩
theorem ev_c {v : V} (h : ∀ G, Dq K G v d) : Ev K E (tC v) ls d := fun F G H σ S xx Q q => q v G H (Ex.refl G) (Ex.refl H) S (h G)
/-- a two-place operation on data that lays nothing -/
theorem ev_op {r : R2} (ha : Ev K E ta ls d1) (hb : Ev K E tb ls d2) (hr : ∀ G H x y Q, Ex G H → Dq K G x d1 → Dq K G y d2 → (∀ z, Dq K G z d → Q z H) → r x y H Q) : Ev K E (tOp r ta tb) ls d := fun F G H σ S xx Q q =>
  ha F G H σ S xx _ fun x G1 H1 eg1 eh1 S1 hx => hb F G1 H1 σ S1 (xx.step eg1 eh1) _ fun y G2 H2 eg2 eh2 S2 hy => hr G2 H2 x y Q S2.ex (dq_mono eg2 hx) hy fun z hz => q z G2 H2 (eg1.trans eg2) (eh1.trans eh2) S2 hz
theorem ev_un {r : V → Hp → VK → Prop} (ha : Ev K E ta ls d1) (hr : ∀ G H x Q, Ex G H → Dq K G x d1 → (∀ z, Dq K G z d → Q z H) → r x H Q) : Ev K E (tUn r ta) ls d := fun F G H σ S xx Q q =>
  ha F G H σ S xx _ fun x G1 H1 eg1 eh1 S1 hx => hr G1 H1 x Q S1.ex hx fun z hz => q z G1 H1 eg1 eh1 S1 hz
theorem evA_nil : EvA K E tNil ls [] := fun F G H σ S xx Q q => q [] G H (Ex.refl G) (Ex.refl H) S .nil
theorem evA_cons {t : TA} (ha : Ev K E te ls d) (ht : EvA K E t ls ds) : EvA K E (tCons te t) ls (d :: ds) := fun F G H σ S xx Q q =>
  ha F G H σ S xx _ fun x G1 H1 eg1 eh1 S1 hx => ht F G1 H1 σ S1 (xx.step eg1 eh1) _ fun vs G2 H2 eg2 eh2 S2 hv => q (x :: vs) G2 H2 (eg1.trans eg2) (eh1.trans eh2) S2 (.cons (dq_mono eg2 hx) hv)
/-- a built-in's call on data that lays nothing -/
theorem ev_cb {r : List V → Hp → VK → Prop} {t : TA} (ha : EvA K E t ls ds) (hr : ∀ G H vs Q, Ex G H → DqAll K G vs ds → (∀ z, Dq K G z d → Q z H) → r vs H Q) : Ev K E (tCB r t) ls d := fun F G H σ S xx Q q =>
  ha F G H σ S xx _ fun vs G1 H1 eg1 eh1 S1 hv => hr G1 H1 vs Q S1.ex hv fun z hz => q z G1 H1 eg1 eh1 S1 hz
theorem ev_is {d' : D} (h : Ev K E te ls d) (e : d = d') : Ev K E te ls d' := e ▸ h
/-- a new list is laid -/
theorem evN_lay {F : Addr → Prop} {G H : Hp} {σ : L2.St} {Q : VK} {vs : List V} (S : Sat K F G H σ ls) (hv : DqAll K G vs ds) (q : ∀ p vs G' H', Ex G G' → Ex H H' → ¬ F p → Sat K (fun a => F a ∨ a = p) G' H' σ ls → H' p = some (.lst vs) → DqAll K G' vs ds → Q (.ref p) H') :
    ∀ p, H p = none → Q (.ref p) (upd H p (.lst vs)) := fun p hp =>
  q p vs G (upd H p (.lst vs)) (Ex.refl G) (Ex.new hp) (fun z => (S.fo p z).2.ne hp) (S.madeF hp) upd_same hv
theorem ev_lay {F : Addr → Prop} {G H : Hp} {σ : L2.St} {Q : VK} {vs : List V} (S : Sat K F G H σ ls) (hv : DqAll K G vs ds) (q : ∀ v G' H', Ex G G' → Ex H H' → Sat K F G' H' σ ls → Dq K G' v (.tup ds) → Q v H') :
    ∀ p, H p = none → Q (.ref p) (upd H p (.tup vs)) := fun p hp => by
  have g := S.ex.fresh hp
  exact q _ (upd G p (.tup vs)) _ (Ex.new g) (Ex.new hp) (S.made hp) (.tup (SqT.of upd_same) (dqAll_mono (Ex.new g) hv))
end
/-! ### expressions -/
def eAny (C : Cs) (e : Expr) : TE := fun σ H Q => ∃ t : TE, (∀ i, PE (C.X i) e t) ∧ t σ H Q
theorem pe_any (C : Cs) (e : Expr) (i : C.ι) : PE (C.X i) e (eAny C e) := ⟨fun pins s σ H Q I h => by
  obtain ⟨t, ht, q⟩ := h
  exact (ht i).run pins s σ H Q I q⟩
def tAny (C : Cs) (e : Expr) : TT := fun σ H Q => ∃ t : TT, (∀ i, PT (C.X i) e t) ∧ t σ H Q
theorem pt_any (C : Cs) (e : Expr) (i : C.ι) : PT (C.X i) e (tAny C e) := ⟨fun pins s σ H Q I h => by
  obtain ⟨t, ht, q⟩ := h
  exact (ht i).run pins s σ H Q I q⟩
def aAny (C : Cs) (es : List Expr) : TA := fun σ H Q => ∃ t : TA, (∀ i, PA (C.X i) es t) ∧ t σ H Q
theorem pa_any (C : Cs) (es : List Expr) (i : C.ι) : PA (C.X i) es (aAny C es) := ⟨fun pos pins s σ H Q I h => by
  obtain ⟨t, ht, q⟩ := h
  exact (ht i).run pos pins s σ H Q I q⟩
def JE (C : Cs) (ls : List Loc) (e : Expr) (d : D) : Prop := Ev C.K C.E (eAny C e) ls d
def JN (C : Cs) (ls : List Loc) (e : Expr) (ds : List D) : Prop := EvN C.K C.E (eAny C e) ls ds
def JC (C : Cs) (ls : List Loc) (e : Expr) (ds : List D) : Prop := EvC C.K C.E (eAny C e) ls ds
def JT (C : Cs) (ls : List Loc) (e : Expr) (b : Bool) : Prop := EvT C.K C.E (tAny C e) ls b
/-- no star -/
def NS (e : Expr) : Prop := ∀ (rest : List Expr) (env : Env), starEach (e :: rest) env = (false, eval e env) :: starEach rest env
theorem ns_any : ∀ {es : List Expr} (h : ∀ e ∈ es, NS e) (env : Env) (pos : Pos), (backTo pos (starEach es env)).any (·.1) = false
  | [], _, _, _ => rfl
  | e :: r, h, env, pos => by
    have ih := ns_any (es := r) (fun x hx => h x (List.mem_cons_of_mem _ hx)) env pos
    rw [h e List.mem_cons_self r env]
    show (false || (backTo pos (starEach r env)).any (·.1)) = false
    rw [ih]
    rfl
structure JA (C : Cs) (ls : List Loc) (es : List Expr) (ds : List D) : Prop where
  ns : ∀ e ∈ es, NS e
  ev : EvA C.K C.E (aAny C es) ls ds
section
variable {C : Cs} {ls : List Loc} {e a b c : Expr} {d d1 d2 : D} {ds es : List D} {t : TE} {pos pos' : Pos}
theorem je_of (h : ∀ i, PE (C.X i) e t) (ev : Ev C.K C.E t ls d) : JE C ls e d := fun F G H σ S xx Q q => ⟨t, h, ev F G H σ S xx Q q⟩
theorem jn_of (h : ∀ i, PE (C.X i) e t) (ev : EvN C.K C.E t ls ds) : JN C ls e ds := fun F G H σ S xx Q q => ⟨t, h, ev F G H σ S xx Q q⟩
theorem jc_of (h : ∀ i, PE (C.X i) e t) (ev : EvC C.K C.E t ls ds) : JC C ls e ds := fun F G H σ S xx Q q => ⟨t, h, ev F G H σ S xx Q q⟩
theorem jt_of {t : TT} {k : Bool} (h : ∀ i, PT (C.X i) e t) (ev : EvT C.K C.E t ls k) : JT C ls e k := fun F G H σ S xx Q q => ⟨t, h, ev F G H σ S xx Q q⟩
theorem ja_of {t : TA} {xs : List Expr} (ns : ∀ e ∈ xs, NS e) (h : ∀ i, PA (C.X i) xs t) (ev : EvA C.K C.E t ls ds) : JA C ls xs ds := ⟨ns, fun F G H σ S xx Q q => ⟨t, h, ev F G H σ S xx Q q⟩⟩
theorem JE.new (h : JN C ls e ds) : JE C ls e (.lst ds) := ev_of_new h
theorem JC.new (h : JN C ls e ds) : JC C ls e ds := evC_of_new h
theorem JC.je (h : JE C ls e (.lst ds)) : JC C ls e ds := evC_of h
theorem JE.is {d' : D} (h : JE C ls e d) (e' : d = d') : JE C ls e d' := e' ▸ h
theorem JT.is {k k' : Bool} (h : JT C ls e k) (e' : k = k') : JT C ls e k' := e' ▸ h
theorem JN.is {ds' : List D} (h : JN C ls e ds) (e' : ds = ds') : JN C ls e ds' := e' ▸ h
/-! names, constants -/
theorem je_v (i : Nat) {x : Str} (hl : ls[i]? = some (.val d) := by rfl) (hi : C.N[i]? = some x := by rfl) (hv : ∀ j, Vis (C.X j).env.scope x := by intro _; first | exact Or.inl rfl | exact Or.inr (Or.inl rfl) | exact Or.inr (Or.inr rfl)) (hd : (x == ("__debug__" : Str)) = false := by decide)
    (hcd : (x == ("__classdict__" : Str)) = false := by decide) : JE C ls (.Name x pos) d := je_of (fun j => pe_var (by rw [C.hN]; exact hi) (hv j) hd hcd) (ev_var hl)
theorem jc_v (i : Nat) {x : Str} (hl : ls[i]? = some (.own ds) := by rfl) (hi : C.N[i]? = some x := by rfl) (hv : ∀ j, Vis (C.X j).env.scope x := by intro _; first | exact Or.inl rfl | exact Or.inr (Or.inl rfl) | exact Or.inr (Or.inr rfl)) (hd : (x == ("__debug__" : Str)) = false := by decide)
    (hcd : (x == ("__classdict__" : Str)) = false := by decide) : JC C ls (.Name x pos) ds := jc_of (fun j => pe_var (by rw [C.hN]; exact hi) (hv j) hd hcd) (evC_own hl)
theorem je_int {i : Int} {k : Nat} : JE C ls (.Constant (.int i) k pos) (.int i) := je_of (fun _ => pe_int) (ev_c fun _ => .int i)
theorem je_bl {i : Bool} {k : Nat} : JE C ls (.Constant (.bool i) k pos) (.bl i) := je_of (fun _ => pe_bl) (ev_c fun _ => .bl i)
theorem je_str {i : Str} {k : Nat} : JE C ls (.Constant (.str i) k pos) (.str i) := je_of (fun _ => pe_str) (ev_c fun _ => .str i)
theorem je_non {k : Nat} : JE C ls (.Constant .none k pos) .non := je_of (fun _ => pe_non) (ev_c fun _ => .non)
/-! ints -/
theorem ev_I {ta tb : TE} {i j : Int} {Cd : Int → Int → Prop} {g : Int → Int → V} (ha : Ev C.K C.E ta ls (.int i)) (hb : Ev C.K C.E tb ls (.int j)) (hc : Cd i j) (hd : ∀ G, Dq C.K G (g i j) d) : Ev C.K C.E (tOp (rI Cd g) ta tb) ls d :=
  ev_op ha hb fun G H x y Q eg hx hy q => ⟨i, j, dq_int hx, dq_int hy, hc, q _ (hd G)⟩
theorem ev_I0 {ta tb : TE} {i j : Int} {g : Int → Int → V} (ha : Ev C.K C.E ta ls (.int i)) (hb : Ev C.K C.E tb ls (.int j)) (hd : ∀ G, Dq C.K G (g i j) d) : Ev C.K C.E (tOp (rI0 g) ta tb) ls d :=
  ev_op ha hb fun G H x y Q eg hx hy q => ⟨i, j, dq_int hx, dq_int hy, q _ (hd G)⟩
theorem op_mulA {X : Cx} : OpR X (binaryOp .Mult) (rI IntMulOk fun i j => .int (i * j)) := opI fun _ _ _ _ _ _ _ hc q => mul_int q hc
theorem je_add {i j : Int} (ha : JE C ls a (.int i)) (hb : JE C ls b (.int j)) : JE C ls (.BinOp a .Add b pos) (.int (i + j)) := je_of (fun k => pe_op op_add (pe_any C a k) (pe_any C b k)) (ev_I0 ha hb fun _ => .int _)
theorem je_sub {i j : Int} (ha : JE C ls a (.int i)) (hb : JE C ls b (.int j)) : JE C ls (.BinOp a .Sub b pos) (.int (i - j)) := je_of (fun k => pe_op op_sub (pe_any C a k) (pe_any C b k)) (ev_I0 ha hb fun _ => .int _)
theorem mulL {i j : Int} (h : -(2 ^ 64) < i ∧ i < 2 ^ 64) : IntMulOk i j := .of_left (intBits_le_64 h.1 h.2)
theorem mulR {i j : Int} (h : -(2 ^ 64) < j ∧ j < 2 ^ 64) : IntMulOk i j := .of_right (intBits_le_64 h.1 h.2)
theorem je_mul {i j : Int} (ha : JE C ls a (.int i)) (hb : JE C ls b (.int j)) (hc : IntMulOk i j := by first | exact mulR (by decide) | exact mulL (by decide) | exact mulL (by omega) | exact mulR (by omega)) : JE C ls (.BinOp a .Mult b pos) (.int (i * j)) := je_of (fun k => pe_op op_mulA (pe_any C a k) (pe_any C b k)) (ev_I ha hb hc fun _ => .int _)
theorem je_mod {i j : Int} (ha : JE C ls a (.int i)) (hb : JE C ls b (.int j)) (hc : 0 < j := by first | decide | omega) : JE C ls (.BinOp a .Mod b pos) (.int (i % j)) := je_of (fun k => pe_op op_mod (pe_any C a k) (pe_any C b k)) (ev_I ha hb hc fun _ => .int _)
theorem je_fdiv {i j : Int} (ha : JE C ls a (.int i)) (hb : JE C ls b (.int j)) (hc : CDivW i j := by first | exact ⟨by decide, by decide⟩ | assumption) : JE C ls (.BinOp a .FloorDiv b pos) (.int (i / j)) := je_of (fun k => pe_op op_fdivW (pe_any C a k) (pe_any C b k)) (ev_I ha hb hc fun _ => .int _)
theorem je_pow {i j : Int} (ha : JE C ls a (.int i)) (hb : JE C ls b (.int j)) (hc : CPow i j) : JE C ls (.BinOp a .Pow b pos) (.int (i ^ j.toNat)) := je_of (fun k => pe_op op_pow (pe_any C a k) (pe_any C b k)) (ev_I ha hb hc fun _ => .int _)
theorem je_powL (r : Int) {i j : Int} (ha : JE C ls a (.int i)) (hb : JE C ls b (.int j)) (hc : CPow i j := by exact ⟨by decide, by decide, by decide⟩) (hr : i ^ j.toNat = r := by decide) : JE C ls (.BinOp a .Pow b pos) (.int r) := hr ▸ je_pow ha hb hc
theorem je_neg {i : Int} (ha : JE C ls a (.int i)) : JE C ls (.UnaryOp .USub a pos) (.int (-i)) := je_of (fun k => pe_un un_neg (pe_any C a k)) (ev_un ha fun G H x Q eg hx q => ⟨i, dq_int hx, q _ (.int _)⟩)
/-! comparisons of ints, as values and as tests -/
theorem ev_cmp {ta tb : TE} {i j : Int} {k : Bool} {g : Int → Int → V} (ha : Ev C.K C.E ta ls (.int i)) (hb : Ev C.K C.E tb ls (.int j)) (hd : g i j = .bl k) : Ev C.K C.E (tOp (rI0 g) ta tb) ls (.bl k) :=
  ev_op ha hb fun G H x y Q eg hx hy q => ⟨i, j, dq_int hx, dq_int hy, q _ (by rw [hd]; exact .bl k)⟩
theorem je_lt {i j : Int} (ha : JE C ls a (.int i)) (hb : JE C ls b (.int j)) : JE C ls (.Compare a [.Lt] [b] pos) (.bl (decide (i < j))) := je_of (fun k => pe_cmpR op_lt (pe_any C a k) (pe_any C b k) (nomark _)) (ev_cmp ha hb rfl)
theorem je_le {i j : Int} (ha : JE C ls a (.int i)) (hb : JE C ls b (.int j)) : JE C ls (.Compare a [.LtE] [b] pos) (.bl (decide (i ≤ j))) := je_of (fun k => pe_cmpR op_le (pe_any C a k) (pe_any C b k) (nomark _)) (ev_cmp ha hb rfl)
theorem je_gt {i j : Int} (ha : JE C ls a (.int i)) (hb : JE C ls b (.int j)) : JE C ls (.Compare a [.Gt] [b] pos) (.bl (decide (j < i))) := je_of (fun k => pe_cmpR op_gt (pe_any C a k) (pe_any C b k) (nomark _)) (ev_cmp ha hb rfl)
theorem je_ge {i j : Int} (ha : JE C ls a (.int i)) (hb : JE C ls b (.int j)) : JE C ls (.Compare a [.GtE] [b] pos) (.bl (decide (j ≤ i))) := je_of (fun k => pe_cmpR op_ge (pe_any C a k) (pe_any C b k) (nomark _)) (ev_cmp ha hb rfl)
theorem ev_eqI {ta tb : TE} {i j : Int} (ha : Ev C.K C.E ta ls (.int i)) (hb : Ev C.K C.E tb ls (.int j)) : Ev C.K C.E (tOp rEq ta tb) ls (.bl (decide (i = j))) :=
  ev_op ha hb fun G H x y Q eg hx hy q => by
    rw [dq_int hx, dq_int hy]
    refine ⟨rfl, ?_⟩
    have e : decide (V.int i = V.int j) = decide (i = j) := by
      by_cases h : i = j
      · subst h; simp
      · rw [decide_eq_false h, decide_eq_false fun z => h (V.int.inj z)]
    rw [e]
    exact q _ (.bl _)
theorem ev_neI {ta tb : TE} {i j : Int} (ha : Ev C.K C.E ta ls (.int i)) (hb : Ev C.K C.E tb ls (.int j)) : Ev C.K C.E (tOp rNe ta tb) ls (.bl (!decide (i = j))) :=
  ev_op ha hb fun G H x y Q eg hx hy q => by
    rw [dq_int hx, dq_int hy]
    refine ⟨rfl, ?_⟩
    have e : decide (V.int i = V.int j) = decide (i = j) := by
      by_cases h : i = j
      · subst h; simp
      · rw [decide_eq_false h, decide_eq_false fun z => h (V.int.inj z)]
    rw [e]
    exact q _ (.bl _)
theorem je_eq {i j : Int} (ha : JE C ls a (.int i)) (hb : JE C ls b (.int j)) : JE C ls (.Compare a [.Eq] [b] pos) (.bl (decide (i = j))) := je_of (fun k => pe_cmpR op_eq (pe_any C a k) (pe_any C b k) (nomark _)) (ev_eqI ha hb)
theorem je_ne {i j : Int} (ha : JE C ls a (.int i)) (hb : JE C ls b (.int j)) : JE C ls (.Compare a [.NotEq] [b] pos) (.bl (!decide (i = j))) := je_of (fun k => pe_cmpR op_ne (pe_any C a k) (pe_any C b k) (nomark _)) (ev_neI ha hb)
theorem evT_test {te : TE} {k : Bool} (h : Ev C.K C.E te ls (.bl k)) : EvT C.K C.E (tTest te) ls k := fun F G H σ S xx Q q => h F G H σ S xx _ fun v G' H' eg eh S' hv => ⟨k, dq_bl hv, q G' H' eg eh S'⟩
theorem evT_B {te : TE} {k : Bool} (h : Ev C.K C.E te ls (.bl k)) : EvT C.K C.E (tB te) ls k := fun F G H σ S xx Q q => h F G H σ S xx _ fun v G' H' eg eh S' hv => ⟨k, dq_bl hv, q G' H' eg eh S'⟩
theorem jt_lt {i j : Int} (ha : JE C ls a (.int i)) (hb : JE C ls b (.int j)) : JT C ls (.Compare a [.Lt] [b] pos) (decide (i < j)) := jt_of (fun k => pt_cmpR op_lt (pe_any C a k) (pe_any C b k) (nomark _)) (evT_test (ev_cmp ha hb rfl))
theorem jt_le {i j : Int} (ha : JE C ls a (.int i)) (hb : JE C ls b (.int j)) : JT C ls (.Compare a [.LtE] [b] pos) (decide (i ≤ j)) := jt_of (fun k => pt_cmpR op_le (pe_any C a k) (pe_any C b k) (nomark _)) (evT_test (ev_cmp ha hb rfl))
theorem jt_gt {i j : Int} (ha : JE C ls a (.int i)) (hb : JE C ls b (.int j)) : JT C ls (.Compare a [.Gt] [b] pos) (decide (j < i)) := jt_of (fun k => pt_cmpR op_gt (pe_any C a k) (pe_any C b k) (nomark _)) (evT_test (ev_cmp ha hb rfl))
theorem jt_ge {i j : Int} (ha : JE C ls a (.int i)) (hb : JE C ls b (.int j)) : JT C ls (.Compare a [.GtE] [b] pos) (decide (j ≤ i)) := jt_of (fun k => pt_cmpR op_ge (pe_any C a k) (pe_any C b k) (nomark _)) (evT_test (ev_cmp ha hb rfl))
theorem jt_eq {i j : Int} (ha : JE C ls a (.int i)) (hb : JE C ls b (.int j)) : JT C ls (.Compare a [.Eq] [b] pos) (decide (i = j)) := jt_of (fun k => pt_cmpR op_eq (pe_any C a k) (pe_any C b k) (nomark _)) (evT_test (ev_eqI ha hb))
theorem jt_ne {i j : Int} (ha : JE C ls a (.int i)) (hb : JE C ls b (.int j)) : JT C ls (.Compare a [.NotEq] [b] pos) (!decide (i = j)) := jt_of (fun k => pt_cmpR op_ne (pe_any C a k) (pe_any C b k) (nomark _)) (evT_test (ev_neI ha hb))
/-- any expression of a truth value, as a test -/
theorem jt_val {k : Bool} (h : JE C ls e (.bl k)) (he : ∀ j whole, isTrue e (C.X j).env whole = (do let v ← whole; standAt e.pos; holding [v] (truthy v)) := by intro _ _; rfl) : JT C ls e k := jt_of (fun j => pt_val (pe_any C e j) (he j)) (evT_B h)
theorem jt_not {k : Bool} (h : JT C ls e k) : JT C ls (.UnaryOp .Not e pos) (!k) := jt_of (fun j => pt_not (pt_any C e j)) fun F G H σ S xx Q q => h F G H σ S xx _ fun G' H' eg eh S' => q G' H' eg eh S'
/-- and, or as tests: a chain -/
def wAny (C : Cs) (e : Expr) : TT := fun σ H Q => ∃ t : TT, (∀ i, PW (C.X i) e t) ∧ t σ H Q
theorem pw_any (C : Cs) (e : Expr) (i : C.ι) : PW (C.X i) e (wAny C e) := ⟨fun wh pins s σ H Q I h => by
  obtain ⟨t, ht, q⟩ := h
  exact (ht i).run wh pins s σ H Q I q⟩
def JW (C : Cs) (ls : List Loc) (e : Expr) (k : Bool) : Prop := EvT C.K C.E (wAny C e) ls k
theorem jt_w {k : Bool} (h : JW C ls e k) : JT C ls e k := jt_of (fun j => (pw_any C e j).pt) h
theorem evT_and {t u : TT} {k l : Bool} (h1 : EvT C.K C.E t ls k) (h2 : k = true → EvT C.K C.E u ls l) : EvT C.K C.E (tAnd t u) ls (k && l) := fun F G H σ S xx Q q => h1 F G H σ S xx _ fun G' H' eg eh S' => by
  cases k with
  | true =>
    rw [if_pos rfl]
    exact h2 rfl F G' H' σ S' (xx.step eg eh) Q fun G2 H2 eg2 eh2 S2 => q G2 H2 (eg.trans eg2) (eh.trans eh2) S2
  | false =>
    rw [if_neg Bool.false_ne_true]
    exact q G' H' eg eh S'
theorem evT_or {t u : TT} {k l : Bool} (h1 : EvT C.K C.E t ls k) (h2 : k = false → EvT C.K C.E u ls l) : EvT C.K C.E (tOr t u) ls (k || l) := fun F G H σ S xx Q q => h1 F G H σ S xx _ fun G' H' eg eh S' => by
  cases k with
  | false =>
    rw [if_neg Bool.false_ne_true]
    exact h2 rfl F G' H' σ S' (xx.step eg eh) Q fun G2 H2 eg2 eh2 S2 => q G2 H2 (eg.trans eg2) (eh.trans eh2) S2
  | true =>
    rw [if_pos rfl]
    exact q G' H' eg eh S'
theorem jw_of {t : TT} {k : Bool} (h : ∀ i, PW (C.X i) e t) (ev : EvT C.K C.E t ls k) : JW C ls e k := fun F G H σ S xx Q q => ⟨t, h, ev F G H σ S xx Q q⟩
theorem jw_and1 {k : Bool} (h : JT C ls a k) : JW C ls (.BoolOp .And [a] pos) k := jw_of (fun j => pw_and1 (pt_any C a j)) h
theorem jw_or1 {k : Bool} (h : JT C ls a k) : JW C ls (.BoolOp .Or [a] pos) k := jw_of (fun j => pw_or1 (pt_any C a j)) h
theorem jw_and {k l : Bool} {rest : List Expr} (h1 : JT C ls a k) (h2 : k = true → JW C ls (.BoolOp .And (b :: rest) pos) l) : JW C ls (.BoolOp .And (a :: b :: rest) pos) (k && l) := jw_of (fun j => pw_and (pt_any C a j) (pw_any C _ j)) (evT_and h1 h2)
theorem jw_or {k l : Bool} {rest : List Expr} (h1 : JT C ls a k) (h2 : k = false → JW C ls (.BoolOp .Or (b :: rest) pos) l) : JW C ls (.BoolOp .Or (a :: b :: rest) pos) (k || l) := jw_of (fun j => pw_or (pt_any C a j) (pw_any C _ j)) (evT_or h1 h2)
/-- .. as values -/
theorem je_one {op : BoolOp} (h : JE C ls a d) : JE C ls (.BoolOp op [a] pos) d := je_of (fun j => pe_one (pe_any C a j)) h
theorem je_and {k l : Bool} {rest : List Expr} (h1 : JE C ls a (.bl k)) (h2 : k = true → JE C ls (.BoolOp .And (b :: rest) pos) (.bl l)) : JE C ls (.BoolOp .And (a :: b :: rest) pos) (.bl (k && l)) :=
  je_of (fun j => pe_and (pe_any C a j) (pe_any C _ j)) fun F G H σ S xx Q q => h1 F G H σ S xx _ fun v G' H' eg eh S' hv => ⟨k, dq_bl hv, by
    cases k with
    | true =>
      rw [if_pos rfl]
      exact h2 rfl F G' H' σ S' (xx.step eg eh) Q fun v2 G2 H2 eg2 eh2 S2 hv2 => q v2 G2 H2 (eg.trans eg2) (eh.trans eh2) S2 hv2
    | false =>
      rw [if_neg Bool.false_ne_true]
      exact q _ G' H' eg eh S' (.bl _)⟩
theorem je_or {k l : Bool} {rest : List Expr} (h1 : JE C ls a (.bl k)) (h2 : k = false → JE C ls (.BoolOp .Or (b :: rest) pos) (.bl l)) : JE C ls (.BoolOp .Or (a :: b :: rest) pos) (.bl (k || l)) :=
  je_of (fun j => pe_or (pe_any C a j) (pe_any C _ j)) fun F G H σ S xx Q q => h1 F G H σ S xx _ fun v G' H' eg eh S' hv => ⟨k, dq_bl hv, by
    cases k with
    | false =>
      rw [if_neg Bool.false_ne_true]
      exact h2 rfl F G' H' σ S' (xx.step eg eh) Q fun v2 G2 H2 eg2 eh2 S2 hv2 => q v2 G2 H2 (eg.trans eg2) (eh.trans eh2) S2 hv2
    | true =>
      rw [if_pos rfl]
      exact q _ G' H' eg eh S' (.bl _)⟩
theorem je_not {k : Bool} (h1 : JE C ls a (.bl k)) : JE C ls (.UnaryOp .Not a pos) (.bl (!k)) := je_of (fun j => pe_not (pe_any C a j)) fun F G H σ S xx Q q => h1 F G H σ S xx _ fun v G' H' eg eh S' hv => ⟨k, dq_bl hv, q _ G' H' eg eh S' (.bl _)⟩
theorem je_ifExp {k : Bool} (hc : JT C ls c k) (ha : k = true → JE C ls a d) (hb : k = false → JE C ls b d) : JE C ls (.IfExp c a b pos) d :=
  je_of (fun j => pe_ifExp (pt_any C c j) (pe_any C a j) (pe_any C b j)) fun F G H σ S xx Q q => hc F G H σ S xx _ fun G' H' eg eh S' => by
    cases k with
    | true =>
      rw [if_pos rfl]
      exact ha rfl F G' H' σ S' (xx.step eg eh) Q fun v2 G2 H2 eg2 eh2 S2 hv2 => q v2 G2 H2 (eg.trans eg2) (eh.trans eh2) S2 hv2
    | false =>
      rw [if_neg Bool.false_ne_true]
      exact hb rfl F G' H' σ S' (xx.step eg eh) Q fun v2 G2 H2 eg2 eh2 S2 hv2 => q v2 G2 H2 (eg.trans eg2) (eh.trans eh2) S2 hv2
/-- is None -/
def D.isNon : D → Bool
  | .non => true
  | _ => false
theorem dq_isNon {K : Fg} {G : Hp} {v : V} (h : Dq K G v d) : decide (v = .non) = d.isNon := by
  cases h <;> rfl
theorem je_isN {k : Nat} (h : JE C ls a d) : JE C ls (.Compare a [.Is] [.Constant .none k pos'] pos) (.bl d.isNon) := je_of (fun j => pe_cmp (pc_isN (pe_any C a j)) rfl) fun F G H σ S xx Q q => h F G H σ S xx _ fun v G' H' eg eh S' hv => q _ G' H' eg eh S' (by rw [dq_isNon hv]; exact .bl _)
theorem je_notN {k : Nat} (h : JE C ls a d) : JE C ls (.Compare a [.IsNot] [.Constant .none k pos'] pos) (.bl (!d.isNon)) := je_of (fun j => pe_cmp (pc_notN (pe_any C a j)) rfl) fun F G H σ S xx Q q => h F G H σ S xx _ fun v G' H' eg eh S' hv => q _ G' H' eg eh S' (by rw [dq_isNon hv]; exact .bl _)
end
end Qp

/-! Q3: lists, tuples, built-ins. -/
namespace Qp
open PySem PySem.Spec PyProof.Rows L2
/-! the rules that speak of K -/
theorem kx {C : Cs} (j : C.ι) {p : Fg → Prop} (h : p (C.X j).K) : p C.K := C.hK j ▸ h
theorem ix_list' (C : Cs) (j : C.ι) : IxR (C.X j) (rIxL C.K) := kx (p := fun K => IxR (C.X j) (rIxL K)) j ix_list
theorem ix_tup' (C : Cs) (j : C.ι) : IxR (C.X j) (rIxT C.K) := kx (p := fun K => IxR (C.X j) (rIxT K)) j ix_tup
def rLen (K : Fg) : List V → Hp → VK → Prop := fun xs H Q => ∃ p ys, xs = [.ref p] ∧ (SqL K H p ys ∨ SqT K H p ys) ∧ Q (.int ys.length) H
def rListOf (K : Fg) : List V → Hp → VK → Prop := fun xs H Q => ∃ p ys, xs = [.ref p] ∧ (SqL K H p ys ∨ SqT K H p ys) ∧ ∀ l, H l = none → Q (.ref l) (upd H l (.lst ys))
def rTupleOf (K : Fg) : List V → Hp → VK → Prop := fun xs H Q => ∃ p ys, xs = [.ref p] ∧ ((SqL K H p ys ∧ ∀ l, H l = none → Q (.ref l) (upd H l (.tup ys))) ∨ (SqT K H p ys ∧ Q (.ref p) H))
theorem len' (C : Cs) (j : C.ι) : CallR (C.X j) (.builtin "len") (rLen C.K) := kx (p := fun K => CallR (C.X j) (.builtin "len") (rLen K)) j call_len_seq
theorem list' (C : Cs) (j : C.ι) : CallR (C.X j) (.type "list") (rListOf C.K) := kx (p := fun K => CallR (C.X j) (.type "list") (rListOf K)) j call_list_of
theorem tuple' (C : Cs) (j : C.ι) : CallR (C.X j) (.type "tuple") (rTupleOf C.K) := kx (p := fun K => CallR (C.X j) (.type "tuple") (rTupleOf K)) j call_tuple_of
theorem isi' (C : Cs) (j : C.ι) : CallR (C.X j) (.builtin "isinstance") (rIsi C.K) := kx (p := fun K => CallR (C.X j) (.builtin "isinstance") (rIsi K)) j call_isi
theorem sl_list' (C : Cs) (j : C.ι) : SlR (C.X j) (rSlL C.K) := kx (p := fun K => SlR (C.X j) (rSlL K)) j sl_list
theorem sl_tup' (C : Cs) (j : C.ι) : SlR (C.X j) (rSlT C.K) := kx (p := fun K => SlR (C.X j) (rSlT K)) j sl_tup
theorem op_catT' (C : Cs) (j : C.ι) : OpR (C.X j) (binaryOp .Add) (rCatT C.K) := kx (p := fun K => OpR (C.X j) (binaryOp .Add) (rCatT K)) j op_catT
abbrev NoG (C : Cs) (x : Str) : Prop := C.mg x = none
theorem noG {C : Cs} {x : Str} (h : NoG C x) (j : C.ι) : (C.X j).mg x = none := by rw [C.hmg]; exact h
section
variable {C : Cs} {ls : List Loc} {a b : Expr} {d d1 d2 : D} {ds : List D} {p pos : Pos} {x : Str} {id : String} {r : List V → Hp → VK → Prop}
theorem pe_cb1 (j : C.ι) (hc : CallR (C.X j) (.builtin id) r) (hg : Gl (C.X j) x) (hm : NoG C x) (hv : bootBuiltins x = some (.builtin id)) (hs : NS a) (hn : x ≠ "__name__" := by decide) (hdb : (x == ("__debug__" : Str)) = false := by decide) : PE (C.X j) (.Call (.Name x p) [a] [] pos) (tCB r (tCons (eAny C a) tNil)) :=
  pe_callB hc hg (noG hm j) hv (pa_cons (pe_any C a j) pa_nil (hs _ _)) hn hdb (hs _ _) (ns_any (es := []) (fun _ h => (List.not_mem_nil h).elim) _ _)
theorem pe_ct1 (j : C.ι) (hc : CallR (C.X j) (.type id) r) (hg : Gl (C.X j) x) (hm : NoG C x) (hv : bootBuiltins x = some (.type id)) (hs : NS a) (hn : x ≠ "__name__" := by decide) (hdb : (x == ("__debug__" : Str)) = false := by decide) : PE (C.X j) (.Call (.Name x p) [a] [] pos) (tCB r (tCons (eAny C a) tNil)) :=
  pe_callTy hc hg (noG hm j) hv (pa_cons (pe_any C a j) pa_nil (hs _ _)) hn hdb (hs _ _) (ns_any (es := []) (fun _ h => (List.not_mem_nil h).elim) _ _)
theorem pe_cb2 (j : C.ι) (hc : CallR (C.X j) (.builtin id) r) (hg : Gl (C.X j) x) (hm : NoG C x) (hv : bootBuiltins x = some (.builtin id)) (hs : NS a) (hs2 : NS b) {tb : TE} (hb : PE (C.X j) b tb) (hn : x ≠ "__name__" := by decide) (hdb : (x == ("__debug__" : Str)) = false := by decide) : PE (C.X j) (.Call (.Name x p) [a, b] [] pos) (tCB r (tCons (eAny C a) (tCons tb tNil))) :=
  pe_callB hc hg (noG hm j) hv (pa_cons (pe_any C a j) (pa_cons hb pa_nil (hs2 _ _)) (hs _ _)) hn hdb (hs _ _) (ns_any (fun x h => by obtain rfl := List.mem_singleton.mp h; exact hs2) _ _)
end
section
variable {C : Cs} {ls : List Loc} {e a b c : Expr} {d d1 d2 : D} {ds es : List D} {t : TE} {pos pos' p1 p2 : Pos}
/-! arguments, displays -/
theorem ja_nil : JA C ls [] [] := ja_of (fun _ h => nomatch h) (fun _ => pa_nil) evA_nil
theorem ja_cons {xs : List Expr} (h : JE C ls e d) (r : JA C ls xs ds) (hs : NS e := by intro _ _; rfl) : JA C ls (e :: xs) (d :: ds) :=
  ja_of (fun x hx => (List.mem_cons.mp hx).elim (fun z => z ▸ hs) (r.ns x)) (fun j => pa_cons (pe_any C e j) (pa_any C xs j) (hs _ _)) (evA_cons h r.ev)
theorem je_tup {k : Nat} {xs : List Expr} (h : JA C ls xs ds) (hl : ds.length ≤ 1000000 := by first | exact Nat.le_of_ble_eq_true rfl | omega) : JE C ls (.Tuple xs k pos) (.tup ds) :=
  je_of (fun j => pe_tup (pa_any C xs j)) fun F G H σ S xx Q q => h.ev F G H σ S xx _ fun vs G' H' eg eh S' hv => ⟨by rw [hv.length]; exact Nat.le_trans hl (by decide), ev_lay S' hv fun v G2 H2 eg2 eh2 S2 hv2 => q v G2 H2 (eg.trans eg2) (eh.trans eh2) S2 hv2⟩
theorem jn_lst {xs : List Expr} (h : JA C ls xs ds) (hl : ds.length ≤ 1000000 := by first | exact Nat.le_of_ble_eq_true rfl | omega) : JN C ls (.List xs pos) ds :=
  jn_of (fun j => pe_lst (pa_any C xs j)) fun F G H σ S xx Q q => h.ev F G H σ S xx _ fun vs G' H' eg eh S' hv => ⟨by rw [hv.length]; exact Nat.le_trans hl (by decide), evN_lay S' hv fun p vs G2 H2 eg2 eh2 nf S2 hp hv2 => q p vs G2 H2 (eg.trans eg2) (eh.trans eh2) nf S2 hp hv2⟩
/-! a subscript -/
theorem ixN_some {n : Nat} {i : Int} {j : Nat} (h : ixN n i = some j) : j < n := by
  unfold ixN at h
  split at h
  · split at h
    · cases h; omega
    · cases h
  · split at h
    · cases h; omega
    · cases h
theorem atI_dq {K : Fg} {G : Hp} {vs : List V} {i : Int} (hv : DqAll K G vs ds) (h : atI ds i = some d) : ∃ v, atI vs i = some v ∧ Dq K G v d := by
  unfold atI at h ⊢
  rw [hv.length]
  cases q : ixN ds.length i with
  | none => rw [q] at h; cases h
  | some j =>
    rw [q] at h
    obtain ⟨v, e1, e2⟩ := hv.get (show ds[j]? = some d from h)
    exact ⟨v, e1, e2⟩
theorem je_ixL {i : Int} (ha : JC C ls a ds) (hb : JE C ls b (.int i)) (h : atI ds i = some d) (hs : PlainIx b := by intro _ _; rfl) : JE C ls (.Subscript a b pos) d :=
  je_of (fun j => pe_ix (ix_list' C j) (pe_any C a j) (pe_any C b j) hs) fun F G H σ S xx Q q => ha F G H σ S xx _ fun p vs G1 H1 eg1 eh1 S1 hp hv => hb F G1 H1 σ S1 (xx.step eg1 eh1) _ fun y G2 H2 eg2 eh2 S2 hy => by
    obtain ⟨v, e1, e2⟩ := atI_dq (dqAll_mono eg2 hv) h
    exact ⟨p, vs, i, v, rfl, dq_int hy, SqL.of (eh2 _ _ hp), e1, q v G2 H2 (eg1.trans eg2) (eh1.trans eh2) S2 e2⟩
theorem je_ixT {i : Int} (ha : JE C ls a (.tup ds)) (hb : JE C ls b (.int i)) (h : atI ds i = some d) (hs : PlainIx b := by intro _ _; rfl) : JE C ls (.Subscript a b pos) d :=
  je_of (fun j => pe_ix (ix_tup' C j) (pe_any C a j) (pe_any C b j) hs) fun F G H σ S xx Q q => ha F G H σ S xx _ fun x G1 H1 eg1 eh1 S1 hx => hb F G1 H1 σ S1 (xx.step eg1 eh1) _ fun y G2 H2 eg2 eh2 S2 hy => by
    obtain ⟨p, vs, e0, ht, hv⟩ := dq_tup (dq_mono eg2 hx)
    obtain ⟨v, e1, e2⟩ := atI_dq hv h
    exact ⟨p, vs, i, v, e0, dq_int hy, ex_t S2.ex ht, e1, q v G2 H2 (eg1.trans eg2) (eh1.trans eh2) S2 e2⟩
theorem je_ixScr {i n : Int} {ns : List Int} (ha : JE C ls a (.scr ns)) (hb : JE C ls b (.int i)) (h : atI ns i = some n) (hs : PlainIx b := by intro _ _; rfl) : JE C ls (.Subscript a b pos) (.int n) :=
  je_of (fun j => pe_ix (ix_list' C j) (pe_any C a j) (pe_any C b j) hs) fun F G H σ S xx Q q => ha F G H σ S xx _ fun x G1 H1 eg1 eh1 S1 hx => hb F G1 H1 σ S1 (xx.step eg1 eh1) _ fun y G2 H2 eg2 eh2 S2 hy => by
    obtain ⟨p, e0, hl⟩ := dq_scr (dq_mono eg2 hx)
    refine ⟨p, ns.map V.int, i, .int n, e0, dq_int hy, ?_, ?_, q _ G2 H2 (eg1.trans eg2) (eh1.trans eh2) S2 (.int n)⟩
    · exact ex_l S2.ex hl
    · unfold atI at h ⊢
      rw [List.length_map]
      cases q : ixN ns.length i with
      | none => rw [q] at h; cases h
      | some j =>
        rw [q] at h
        show (ns.map V.int)[j]? = _
        rw [List.getElem?_map, show ns[j]? = some n from h]
        rfl
/-! len -/
theorem je_lenL (ha : JC C ls a ds) (hn : NoG C "len" := by assumption) (hg : ∀ j, Gl (C.X j) "len" := by intro _; rfl) (hs : NS a := by intro _ _; rfl) : JE C ls (.Call (.Name "len" p1) [a] [] pos) (.int (ds.length : Int)) :=
  je_of (fun j => pe_cb1 j (len' C j) (hg j) hn PySem.boot_len hs) fun F G H σ S xx Q q => ha F G H σ S xx _ fun p vs G1 H1 eg1 eh1 S1 hp hv => ⟨p, vs, rfl, Or.inl (SqL.of hp), by rw [hv.length]; exact q _ G1 H1 eg1 eh1 S1 (.int _)⟩
theorem je_lenT (ha : JE C ls a (.tup ds)) (hn : NoG C "len" := by assumption) (hg : ∀ j, Gl (C.X j) "len" := by intro _; rfl) (hs : NS a := by intro _ _; rfl) : JE C ls (.Call (.Name "len" p1) [a] [] pos) (.int (ds.length : Int)) :=
  je_of (fun j => pe_cb1 j (len' C j) (hg j) hn PySem.boot_len hs) fun F G H σ S xx Q q => ha F G H σ S xx _ fun x G1 H1 eg1 eh1 S1 hx => by
    obtain ⟨p, vs, e0, ht, hv⟩ := dq_tup hx
    refine ⟨p, vs, by rw [e0], Or.inr ?_, by rw [hv.length]; exact q _ G1 H1 eg1 eh1 S1 (.int _)⟩
    exact ex_t S1.ex ht
theorem je_lenScr {ns : List Int} (ha : JE C ls a (.scr ns)) (hn : NoG C "len" := by assumption) (hg : ∀ j, Gl (C.X j) "len" := by intro _; rfl) (hs : NS a := by intro _ _; rfl) : JE C ls (.Call (.Name "len" p1) [a] [] pos) (.int (ns.length : Int)) :=
  je_of (fun j => pe_cb1 j (len' C j) (hg j) hn PySem.boot_len hs) fun F G H σ S xx Q q => ha F G H σ S xx _ fun x G1 H1 eg1 eh1 S1 hx => by
    obtain ⟨p, e0, hl⟩ := dq_scr hx
    refine ⟨p, ns.map V.int, by rw [e0], Or.inl ?_, by rw [List.length_map]; exact q _ G1 H1 eg1 eh1 S1 (.int _)⟩
    exact ex_l S1.ex hl
/-! a list or a tuple -/
inductive IsSeq : D → List D → Prop
  | lst (ds : List D) : IsSeq (.lst ds) ds
  | tup (ds : List D) : IsSeq (.tup ds) ds
theorem je_ixS {i : Int} (ha : JE C ls a d1) (hq : IsSeq d1 ds) (hb : JE C ls b (.int i)) (h : atI ds i = some d) (hs : PlainIx b := by intro _ _; rfl) : JE C ls (.Subscript a b pos) d := by
  cases hq with
  | lst => exact je_ixL (JC.je ha) hb h hs
  | tup => exact je_ixT ha hb h hs
theorem je_lenS (ha : JE C ls a d1) (hq : IsSeq d1 ds) (hn : NoG C "len" := by assumption) (hg : ∀ j, Gl (C.X j) "len" := by intro _; rfl) (hs : NS a := by intro _ _; rfl) : JE C ls (.Call (.Name "len" p1) [a] [] pos) (.int (ds.length : Int)) := by
  cases hq with
  | lst => exact je_lenL (JC.je ha) hn hg hs
  | tup => exact je_lenT ha hn hg hs
/-! int(..), abs(..) -/
theorem je_intI {i : Int} (ha : JE C ls a (.int i)) (hn : NoG C "int" := by assumption) (hg : ∀ j, Gl (C.X j) "int" := by intro _; rfl) (hs : NS a := by intro _ _; rfl) : JE C ls (.Call (.Name "int" p1) [a] [] pos) (.int i) :=
  je_of (fun j => pe_ct1 j call_int1 (hg j) hn boot_int hs) fun F G H σ S xx Q q => ha F G H σ S xx _ fun x G1 H1 eg1 eh1 S1 hx => Or.inl ⟨i, by rw [dq_int hx], q _ G1 H1 eg1 eh1 S1 (.int _)⟩
theorem je_intB {k : Bool} (ha : JE C ls a (.bl k)) (hn : NoG C "int" := by assumption) (hg : ∀ j, Gl (C.X j) "int" := by intro _; rfl) (hs : NS a := by intro _ _; rfl) : JE C ls (.Call (.Name "int" p1) [a] [] pos) (.int (if k then 1 else 0)) :=
  je_of (fun j => pe_ct1 j call_int1 (hg j) hn boot_int hs) fun F G H σ S xx Q q => ha F G H σ S xx _ fun x G1 H1 eg1 eh1 S1 hx => Or.inr ⟨k, by rw [dq_bl hx], q _ G1 H1 eg1 eh1 S1 (.int _)⟩
theorem je_abs {i : Int} (ha : JE C ls a (.int i)) (hn : NoG C "abs" := by assumption) (hg : ∀ j, Gl (C.X j) "abs" := by intro _; rfl) (hs : NS a := by intro _ _; rfl) : JE C ls (.Call (.Name "abs" p1) [a] [] pos) (.int (i.natAbs : Int)) :=
  je_of (fun j => pe_cb1 j call_abs (hg j) hn (by decide +kernel) hs) fun F G H σ S xx Q q => ha F G H σ S xx _ fun x G1 H1 eg1 eh1 S1 hx => ⟨i, by rw [dq_int hx], by
    have e : (if i < 0 then -i else i) = (i.natAbs : Int) := by split <;> omega
    rw [e]
    exact q _ G1 H1 eg1 eh1 S1 (.int _)⟩
theorem je_max2 [Cold C] {i l : Int} (ha : JE C ls a (.int i)) (hb : JE C ls b (.int l)) (hn : NoG C "max" := by assumption) (hg : ∀ j, Gl (C.X j) "max" := by intro _; rfl) (hs : NS a := by intro _ _; rfl) (hs2 : NS b := by intro _ _; rfl) : JE C ls (.Call (.Name "max" p1) [a, b] [] pos) (.int (max i l)) :=
  je_of (fun j => pe_cb2 j (call_max2 (C.calm j Cold.h)) (hg j) hn (by decide +kernel) hs hs2 (pe_any C b j)) fun F G H σ S xx Q q => ha F G H σ S xx _ fun x G1 H1 eg1 eh1 S1 hx => hb F G1 H1 σ S1 (xx.step eg1 eh1) _ fun y G2 H2 eg2 eh2 S2 hy => ⟨i, l, by rw [dq_int hx, dq_int hy], by
    have e : (if l > i then l else i) = max i l := by split <;> omega
    rw [e]
    exact q _ G2 H2 (eg1.trans eg2) (eh1.trans eh2) S2 (.int _)⟩
theorem je_min2 [Cold C] {i l : Int} (ha : JE C ls a (.int i)) (hb : JE C ls b (.int l)) (hn : NoG C "min" := by assumption) (hg : ∀ j, Gl (C.X j) "min" := by intro _; rfl) (hs : NS a := by intro _ _; rfl) (hs2 : NS b := by intro _ _; rfl) : JE C ls (.Call (.Name "min" p1) [a, b] [] pos) (.int (min i l)) :=
  je_of (fun j => pe_cb2 j (call_min2 (C.calm j Cold.h)) (hg j) hn (by decide +kernel) hs hs2 (pe_any C b j)) fun F G H σ S xx Q q => ha F G H σ S xx _ fun x G1 H1 eg1 eh1 S1 hx => hb F G1 H1 σ S1 (xx.step eg1 eh1) _ fun y G2 H2 eg2 eh2 S2 hy => ⟨i, l, by rw [dq_int hx, dq_int hy], by
    have e : (if l < i then l else i) = min i l := by split <;> omega
    rw [e]
    exact q _ G2 H2 (eg1.trans eg2) (eh1.trans eh2) S2 (.int _)⟩
/-! list(..), tuple(..) -/
theorem jn_listL (ha : JC C ls a ds) (hn : NoG C "list" := by assumption) (hg : ∀ j, Gl (C.X j) "list" := by intro _; rfl) (hs : NS a := by intro _ _; rfl) : JN C ls (.Call (.Name "list" p1) [a] [] pos) ds :=
  jn_of (fun j => pe_ct1 j (list' C j) (hg j) hn boot_list hs) fun F G H σ S xx Q q => ha F G H σ S xx _ fun p vs G1 H1 eg1 eh1 S1 hp hv => ⟨p, vs, rfl, Or.inl (SqL.of hp), evN_lay S1 hv fun p vs G2 H2 eg2 eh2 nf S2 hp hv2 => q p vs G2 H2 (eg1.trans eg2) (eh1.trans eh2) nf S2 hp hv2⟩
theorem jn_listT (ha : JE C ls a (.tup ds)) (hn : NoG C "list" := by assumption) (hg : ∀ j, Gl (C.X j) "list" := by intro _; rfl) (hs : NS a := by intro _ _; rfl) : JN C ls (.Call (.Name "list" p1) [a] [] pos) ds :=
  jn_of (fun j => pe_ct1 j (list' C j) (hg j) hn boot_list hs) fun F G H σ S xx Q q => ha F G H σ S xx _ fun x G1 H1 eg1 eh1 S1 hx => by
    obtain ⟨p, vs, e0, ht, hv⟩ := dq_tup hx
    refine ⟨p, vs, by rw [e0], Or.inr ?_, evN_lay S1 hv fun p vs G2 H2 eg2 eh2 nf S2 hp hv2 => q p vs G2 H2 (eg1.trans eg2) (eh1.trans eh2) nf S2 hp hv2⟩
    exact ex_t S1.ex ht
theorem je_tupleL (ha : JC C ls a ds) (hn : NoG C "tuple" := by assumption) (hg : ∀ j, Gl (C.X j) "tuple" := by intro _; rfl) (hs : NS a := by intro _ _; rfl) : JE C ls (.Call (.Name "tuple" p1) [a] [] pos) (.tup ds) :=
  je_of (fun j => pe_ct1 j (tuple' C j) (hg j) hn boot_tuple hs) fun F G H σ S xx Q q => ha F G H σ S xx _ fun p vs G1 H1 eg1 eh1 S1 hp hv => ⟨p, vs, rfl, Or.inl ⟨SqL.of hp, ev_lay S1 hv fun v G2 H2 eg2 eh2 S2 hv2 => q v G2 H2 (eg1.trans eg2) (eh1.trans eh2) S2 hv2⟩⟩
theorem je_tupleT (ha : JE C ls a (.tup ds)) (hn : NoG C "tuple" := by assumption) (hg : ∀ j, Gl (C.X j) "tuple" := by intro _; rfl) (hs : NS a := by intro _ _; rfl) : JE C ls (.Call (.Name "tuple" p1) [a] [] pos) (.tup ds) :=
  je_of (fun j => pe_ct1 j (tuple' C j) (hg j) hn boot_tuple hs) fun F G H σ S xx Q q => ha F G H σ S xx _ fun x G1 H1 eg1 eh1 S1 hx => by
    obtain ⟨p, vs, e0, ht, hv⟩ := dq_tup hx
    subst e0
    refine ⟨p, vs, rfl, Or.inr ⟨?_, q _ G1 H1 eg1 eh1 S1 hx⟩⟩
    exact ex_t S1.ex ht
/-! slices -/
def oAny (C : Cs) (o : Option Expr) : TO := fun σ H Q => ∃ t : TO, (∀ i, PO (C.X i) o t) ∧ t σ H Q
theorem po_any (C : Cs) (o : Option Expr) (i : C.ι) : PO (C.X i) o (oAny C o) := ⟨fun pins s σ H Q I h => by
  obtain ⟨t, ht, q⟩ := h
  exact (ht i).run pins s σ H Q I q⟩
def JO (C : Cs) (ls : List Loc) (o : Option Expr) (n : Option Int) : Prop := ∀ F G H σ, Sat C.K F G H σ ls → Xok C.K C.E F G H σ ls → ∀ Q : Option Int → Hp → Prop, (∀ G' H', Ex G G' → Ex H H' → Sat C.K F G' H' σ ls → Q n H') → oAny C o σ H Q
theorem jo_none : JO C ls none none := fun F G H σ S xx Q q => ⟨tNoPart, fun _ => po_none, q G H (Ex.refl G) (Ex.refl H) S⟩
theorem jo_some {i : Int} (h : JE C ls e (.int i)) : JO C ls (some e) (some i) := fun F G H σ S xx Q q => ⟨tPart (eAny C e), fun j => po_some (pe_any C e j), h F G H σ S xx _ fun v G' H' eg eh S' hv => ⟨i, dq_int hv, q G' H' eg eh S'⟩⟩
/-- the items of ds[lo:hi] -/
def cutD (ds : List D) (lo hi : Option Int) : List D := (ds.drop (HT.sIx ds.length 0 lo)).take (HT.sIx ds.length ds.length hi - HT.sIx ds.length 0 lo)
theorem dqAll_cut {K : Fg} {G : Hp} {vs : List V} {lo hi : Option Int} (h : DqAll K G vs ds) : DqAll K G (cutV vs lo hi) (cutD ds lo hi) := by
  unfold cutV cutD
  rw [h.length]
  exact (h.drop _).take _
theorem jn_slice {lo hi : Option Expr} {l u : Option Int} (ha : JC C ls a ds) (h1 : JO C ls lo l) (h2 : JO C ls hi u) : JN C ls (.Subscript a (.Slice lo hi none p2) pos) (cutD ds l u) :=
  jn_of (fun j => pe_slice (sl_list' C j) (pe_any C a j) (po_any C lo j) (po_any C hi j)) fun F G H σ S xx Q q => ha F G H σ S xx _ fun p vs G1 H1 eg1 eh1 S1 hp hv => h1 F G1 H1 σ S1 (xx.step eg1 eh1) _ fun G2 H2 eg2 eh2 S2 => h2 F G2 H2 σ S2 (xx.step (eg1.trans eg2) (eh1.trans eh2)) _ fun G3 H3 eg3 eh3 S3 =>
    ⟨p, vs, rfl, SqL.of (eh3 _ _ (eh2 _ _ hp)), evN_lay S3 (dqAll_cut (dqAll_mono (eg2.trans eg3) hv)) fun p vs G4 H4 eg4 eh4 nf S4 hp hv2 => q p vs G4 H4 (((eg1.trans eg2).trans eg3).trans eg4) (((eh1.trans eh2).trans eh3).trans eh4) nf S4 hp hv2⟩
/-- a tuple's slice (the whole of it is the tuple itself) -/
theorem je_sliceT {lo hi : Option Expr} {l u : Option Int} (ha : JE C ls a (.tup ds)) (h1 : JO C ls lo l) (h2 : JO C ls hi u) (hw : ¬ (HT.sIx ds.length 0 l = 0 ∧ HT.sIx ds.length ds.length u = ds.length)) : JE C ls (.Subscript a (.Slice lo hi none p2) pos) (.tup (cutD ds l u)) :=
  je_of (fun j => pe_slice (sl_tup' C j) (pe_any C a j) (po_any C lo j) (po_any C hi j)) fun F G H σ S xx Q q => ha F G H σ S xx _ fun x G1 H1 eg1 eh1 S1 hx => h1 F G1 H1 σ S1 (xx.step eg1 eh1) _ fun G2 H2 eg2 eh2 S2 => h2 F G2 H2 σ S2 (xx.step (eg1.trans eg2) (eh1.trans eh2)) _ fun G3 H3 eg3 eh3 S3 => by
    obtain ⟨p, vs, e0, ht, hv⟩ := dq_tup (dq_mono (eg2.trans eg3) hx)
    refine ⟨p, vs, e0, ?_, by rw [hv.length]; exact hw, ev_lay S3 (dqAll_cut hv) fun v G4 H4 eg4 eh4 S4 hv2 => q v G4 H4 (((eg1.trans eg2).trans eg3).trans eg4) (((eh1.trans eh2).trans eh3).trans eh4) S4 hv2⟩
    exact ex_t S3.ex ht
/-! sums -/
theorem jn_cat (ha : JC C ls a ds) (hb : JC C ls b es) (hl : ds.length + es.length ≤ 1000000) : JN C ls (.BinOp a .Add b pos) (ds ++ es) :=
  jn_of (fun j => pe_op op_cat (pe_any C a j) (pe_any C b j)) fun F G H σ S xx Q q => ha F G H σ S xx _ fun p vs G1 H1 eg1 eh1 S1 hp hv => hb F G1 H1 σ S1 (xx.step eg1 eh1) _ fun p2 vs2 G2 H2 eg2 eh2 S2 hp2 hv2 =>
    ⟨p, p2, vs, vs2, rfl, rfl, eh2 _ _ hp, hp2, by rw [hv.length, hv2.length]; exact Nat.le_trans hl (by decide), evN_lay S2 ((dqAll_mono eg2 hv).append hv2) fun p vs G4 H4 eg4 eh4 nf S4 hp hv2 => q p vs G4 H4 ((eg1.trans eg2).trans eg4) ((eh1.trans eh2).trans eh4) nf S4 hp hv2⟩
theorem je_catT (ha : JE C ls a (.tup ds)) (hb : JE C ls b (.tup es)) (h0 : ds ≠ []) (hl : ds.length + es.length ≤ 1000000) : JE C ls (.BinOp a .Add b pos) (.tup (ds ++ es)) :=
  je_of (fun j => pe_op (op_catT' C j) (pe_any C a j) (pe_any C b j)) fun F G H σ S xx Q q => ha F G H σ S xx _ fun x G1 H1 eg1 eh1 S1 hx => hb F G1 H1 σ S1 (xx.step eg1 eh1) _ fun y G2 H2 eg2 eh2 S2 hy => by
    obtain ⟨p, vs, e0, ht, hv⟩ := dq_tup (dq_mono eg2 hx)
    obtain ⟨p2, vs2, e2, ht2, hv2⟩ := dq_tup hy
    refine ⟨p, p2, vs, vs2, e0, e2, ?_, ?_, fun z => ?_, by rw [hv.length, hv2.length]; exact Nat.le_trans hl (by decide), fun z => ?_, fun _ => ev_lay S2 (hv.append hv2) fun v G4 H4 eg4 eh4 S4 hv2 => q v G4 H4 ((eg1.trans eg2).trans eg4) ((eh1.trans eh2).trans eh4) S4 hv2⟩
    · exact ex_t S2.ex ht
    · exact ex_t S2.ex ht2
    · subst z
      have := hv.length
      cases ds with
      | nil => exact h0 rfl
      | cons _ _ => simp at this
    · subst z
      have := hv2.length
      have e3 : es = [] := by
        cases es with
        | nil => rfl
        | cons _ _ => simp at this
      rw [e3, List.append_nil] at q
      exact q _ G2 H2 (eg1.trans eg2) (eh1.trans eh2) S2 (.tup ht hv)
/-! isinstance -/
def D.kind : D → String
  | .non => "NoneType"
  | .bl _ => "bool"
  | .int _ => "int"
  | .str _ => "str"
  | .lst _ => "list"
  | .tup _ => "tuple"
  | .scr _ => "list"
  | .ref _ => "object"
  | .ty _ => "type"
  | .exc _ _ _ => "object"
  | .hand _ _ => "list"
  | .loose _ _ => "list"
def D.flatK : D → Bool
  | .ref _ => false
  | .ty _ => false
  | .exc _ _ _ => false
  | .hand _ _ => false
  | .loose _ _ => false
  | _ => true
theorem tyx_of {K : Fg} {G H : Hp} {v : V} (e : Ex G H) (h : Dq K G v d) (hf : d.flatK = true) : TyX K H v (.type d.kind) := by
  cases h with
  | non => exact .base .non
  | bl b => exact .base (.bl b)
  | int i => exact .base (.int i)
  | str x => exact .base (.str x)
  | lst h _ => exact .base (.lst (e _ _ h))
  | tup h _ =>
    rcases h with h | ⟨o, its, n, hk, hc, _⟩
    · rcases h with h | ⟨o, h⟩
      · exact .base (.tup (e _ _ h))
      · exact .fTuple (e _ _ h)
    · exact .kTuple hk hc
  | scr h =>
    rcases h with h | ⟨o, its, n, hk, hc, _⟩
    · rcases h with h | ⟨o, h⟩
      · exact .base (.lst (e _ _ h))
      · exact .base (.frz (e _ _ h))
    · exact .kList hk hc
  | ref a => cases hf
  | ty n => cases hf
  | exc _ _ _ => cases hf
  | hand _ _ => cases hf
  | loose _ => cases hf
/-- whether a value of that kind is of the class T -/
theorem je_isi {T : Str} {U : String} {k : Bool} (ha : JE C ls a d) (hf : d.flatK = true) (hk : kitB d.kind U = some k) (hT : bootBuiltins T = some (.type U)) (hnT : NoG C T := by assumption) (hn : NoG C "isinstance" := by assumption) (hg : ∀ j, Gl (C.X j) "isinstance" := by intro _; rfl) (hgT : ∀ j, Gl (C.X j) T := by intro _; rfl)
    (hs : NS a := by intro _ _; rfl) (hnn : T ≠ "__name__" := by decide) (hdb : (T == ("__debug__" : Str)) = false := by decide) :
    JE C ls (.Call (.Name "isinstance" p1) [a, .Name T p2] [] pos) (.bl k) :=
  je_of (fun j => pe_cb2 j (isi' C j) (hg j) hn (by decide +kernel) hs (fun _ _ => rfl) (pe_bltn (v := .ty U) (pos := p2) (hgT j) (noG hnT j) hT rfl hnn hdb)) fun F G H σ S xx Q q => ha F G H σ S xx _ fun x G1 H1 eg1 eh1 S1 hx => ⟨x, .ty U, _, _, k, rfl, .ty U, tyx_of S1.ex hx hf, kit_ty hk, q _ G1 H1 eg1 eh1 S1 (.bl k)⟩
def D.isTup : D → Bool
  | .tup _ => true
  | _ => false
def D.isInt : D → Bool
  | .int _ => true
  | .bl _ => true
  | _ => false
def D.isBool : D → Bool
  | .bl _ => true
  | _ => false
def D.isLst : D → Bool
  | .lst _ => true
  | .scr _ => true
  | _ => false
def D.isStr : D → Bool
  | .str _ => true
  | _ => false
theorem kit0_tup : kitB "NoneType" "tuple" = some false ∧ kitB "bool" "tuple" = some false ∧ kitB "int" "tuple" = some false ∧ kitB "str" "tuple" = some false ∧ kitB "list" "tuple" = some false ∧ kitB "tuple" "tuple" = some true ∧ kitB "list" "tuple" = some false := by decide +kernel
theorem kit_tup (d : D) (h : d.flatK = true) : kitB d.kind "tuple" = some d.isTup := by
  obtain ⟨h1, h2, h3, h4, h5, h6, h7⟩ := kit0_tup
  cases d with
  | non => exact h1
  | bl _ => exact h2
  | int _ => exact h3
  | str _ => exact h4
  | lst _ => exact h5
  | tup _ => exact h6
  | scr _ => exact h7
  | ref _ => cases h
  | ty _ => cases h
  | exc _ _ _ => cases h
  | hand _ _ => cases h
  | loose _ _ => cases h
theorem kit0_int : kitB "NoneType" "int" = some false ∧ kitB "bool" "int" = some true ∧ kitB "int" "int" = some true ∧ kitB "str" "int" = some false ∧ kitB "list" "int" = some false ∧ kitB "tuple" "int" = some false ∧ kitB "list" "int" = some false := by decide +kernel
theorem kit_int (d : D) (h : d.flatK = true) : kitB d.kind "int" = some d.isInt := by
  obtain ⟨h1, h2, h3, h4, h5, h6, h7⟩ := kit0_int
  cases d with
  | non => exact h1
  | bl _ => exact h2
  | int _ => exact h3
  | str _ => exact h4
  | lst _ => exact h5
  | tup _ => exact h6
  | scr _ => exact h7
  | ref _ => cases h
  | ty _ => cases h
  | exc _ _ _ => cases h
  | hand _ _ => cases h
  | loose _ _ => cases h
theorem kit0_bool : kitB "NoneType" "bool" = some false ∧ kitB "bool" "bool" = some true ∧ kitB "int" "bool" = some false ∧ kitB "str" "bool" = some false ∧ kitB "list" "bool" = some false ∧ kitB "tuple" "bool" = some false ∧ kitB "list" "bool" = some false := by decide +kernel
theorem kit_bool (d : D) (h : d.flatK = true) : kitB d.kind "bool" = some d.isBool := by
  obtain ⟨h1, h2, h3, h4, h5, h6, h7⟩ := kit0_bool
  cases d with
  | non => exact h1
  | bl _ => exact h2
  | int _ => exact h3
  | str _ => exact h4
  | lst _ => exact h5
  | tup _ => exact h6
  | scr _ => exact h7
  | ref _ => cases h
  | ty _ => cases h
  | exc _ _ _ => cases h
  | hand _ _ => cases h
  | loose _ _ => cases h
theorem kit0_lst : kitB "NoneType" "list" = some false ∧ kitB "bool" "list" = some false ∧ kitB "int" "list" = some false ∧ kitB "str" "list" = some false ∧ kitB "list" "list" = some true ∧ kitB "tuple" "list" = some false ∧ kitB "list" "list" = some true := by decide +kernel
theorem kit_lst (d : D) (h : d.flatK = true) : kitB d.kind "list" = some d.isLst := by
  obtain ⟨h1, h2, h3, h4, h5, h6, h7⟩ := kit0_lst
  cases d with
  | non => exact h1
  | bl _ => exact h2
  | int _ => exact h3
  | str _ => exact h4
  | lst _ => exact h5
  | tup _ => exact h6
  | scr _ => exact h7
  | ref _ => cases h
  | ty _ => cases h
  | exc _ _ _ => cases h
  | hand _ _ => cases h
  | loose _ _ => cases h
theorem kit0_str : kitB "NoneType" "str" = some false ∧ kitB "bool" "str" = some false ∧ kitB "int" "str" = some false ∧ kitB "str" "str" = some true ∧ kitB "list" "str" = some false ∧ kitB "tuple" "str" = some false ∧ kitB "list" "str" = some false := by decide +kernel
theorem kit_str (d : D) (h : d.flatK = true) : kitB d.kind "str" = some d.isStr := by
  obtain ⟨h1, h2, h3, h4, h5, h6, h7⟩ := kit0_str
  cases d with
  | non => exact h1
  | bl _ => exact h2
  | int _ => exact h3
  | str _ => exact h4
  | lst _ => exact h5
  | tup _ => exact h6
  | scr _ => exact h7
  | ref _ => cases h
  | ty _ => cases h
  | exc _ _ _ => cases h
  | hand _ _ => cases h
  | loose _ _ => cases h
theorem boot_boolT : bootBuiltins "bool" = some (.type "bool") := by decide +kernel
theorem boot_strT : bootBuiltins "str" = some (.type "str") := by decide +kernel
variable {T : Str} {U : String} {k : Bool}
theorem je_isTup (ha : JE C ls a d) (hf : d.flatK = true := by rfl) (hnT : NoG C "tuple" := by assumption) (hn : NoG C "isinstance" := by assumption) (hg : ∀ j, Gl (C.X j) "isinstance" := by intro _; rfl) (hgT : ∀ j, Gl (C.X j) "tuple" := by intro _; rfl) (hs : NS a := by intro _ _; rfl) :
    JE C ls (.Call (.Name "isinstance" p1) [a, .Name "tuple" p2] [] pos) (.bl d.isTup) := je_isi ha hf (kit_tup d hf) boot_tuple hnT hn hg hgT hs
theorem je_isInt (ha : JE C ls a d) (hf : d.flatK = true := by rfl) (hnT : NoG C "int" := by assumption) (hn : NoG C "isinstance" := by assumption) (hg : ∀ j, Gl (C.X j) "isinstance" := by intro _; rfl) (hgT : ∀ j, Gl (C.X j) "int" := by intro _; rfl) (hs : NS a := by intro _ _; rfl) :
    JE C ls (.Call (.Name "isinstance" p1) [a, .Name "int" p2] [] pos) (.bl d.isInt) := je_isi ha hf (kit_int d hf) boot_int hnT hn hg hgT hs
theorem je_isBool (ha : JE C ls a d) (hf : d.flatK = true := by rfl) (hnT : NoG C "bool" := by assumption) (hn : NoG C "isinstance" := by assumption) (hg : ∀ j, Gl (C.X j) "isinstance" := by intro _; rfl) (hgT : ∀ j, Gl (C.X j) "bool" := by intro _; rfl) (hs : NS a := by intro _ _; rfl) :
    JE C ls (.Call (.Name "isinstance" p1) [a, .Name "bool" p2] [] pos) (.bl d.isBool) := je_isi ha hf (kit_bool d hf) boot_boolT hnT hn hg hgT hs
theorem je_isLst (ha : JE C ls a d) (hf : d.flatK = true := by rfl) (hnT : NoG C "list" := by assumption) (hn : NoG C "isinstance" := by assumption) (hg : ∀ j, Gl (C.X j) "isinstance" := by intro _; rfl) (hgT : ∀ j, Gl (C.X j) "list" := by intro _; rfl) (hs : NS a := by intro _ _; rfl) :
    JE C ls (.Call (.Name "isinstance" p1) [a, .Name "list" p2] [] pos) (.bl d.isLst) := je_isi ha hf (kit_lst d hf) boot_list hnT hn hg hgT hs
theorem je_isStr (ha : JE C ls a d) (hf : d.flatK = true := by rfl) (hnT : NoG C "str" := by assumption) (hn : NoG C "isinstance" := by assumption) (hg : ∀ j, Gl (C.X j) "isinstance" := by intro _; rfl) (hgT : ∀ j, Gl (C.X j) "str" := by intro _; rfl) (hs : NS a := by intro _ _; rfl) :
    JE C ls (.Call (.Name "isinstance" p1) [a, .Name "str" p2] [] pos) (.bl d.isStr) := je_isi ha hf (kit_str d hf) boot_strT hnT hn hg hgT hs
end
end Qp

/-! Q4: statements, loops. -/
namespace Qp
open PySem PySem.Spec PyProof.Rows L2
structure Post where
  nx : List Loc → Prop
  rt : D → Prop
  bk : List Loc → Prop := fun _ => False
  ct : List Loc → Prop := fun _ => False
/-- what stands ahead of all is kept -/
def Kp (F : Addr → Prop) (H H' : Hp) : Prop := (∀ a, F a → H' a = H a) ∧ ∀ a ps, H a = some (.tbl ps) → Gr (.tbl ps) (H' a)
theorem Kp.refl {F : Addr → Prop} {H : Hp} : Kp F H H := ⟨fun _ _ => rfl, fun _ _ h => .of h⟩
theorem Kp.trans {F : Addr → Prop} {H H1 H2 : Hp} (a : Kp F H H1) (b : Kp F H1 H2) : Kp F H H2 := ⟨fun x h => (b.1 x h).trans (a.1 x h), fun x ps h => by
  obtain ⟨m1, e1, t1⟩ := a.2 x ps h
  obtain ⟨m2, e2, t2⟩ := b.2 x _ e1
  exact ⟨m1 ++ m2, by rw [e2, Array.append_assoc], fun z => by rw [← Array.append_assoc]; exact t2 (t1 z)⟩⟩
/-- a thing that is no table, and not among F, is put -/
theorem Kp.put {F : Addr → Prop} {H H' : Hp} {p : Addr} {o : HO} (k : Kp F H H') (nt : NT H' p) (nf : ¬ F p) : Kp F H (upd H' p o) := ⟨fun a fa => by
  have ne : a ≠ p := fun z => nf (z ▸ fa)
  rw [upd_ne ne]
  exact k.1 a fa, fun a ps h => by
  obtain ⟨m, e, t⟩ := k.2 a ps h
  have ne : a ≠ p := fun z => by
    obtain ⟨u, e1, n⟩ := nt
    rw [z, e1] at e
    exact n _ (Option.some.inj e)
  exact ⟨m, by rw [upd_ne ne]; exact e, t⟩⟩
theorem Sat.kp {K : Fg} {F : Addr → Prop} {G H H' : Hp} {σ : L2.St} {ls : List Loc} (S : Sat K F G H σ ls) (e : Ex H H') : Kp F H H' := ⟨fun a fa => ex_eq e (S.fo a fa).2, fun a _ h => e a _ h⟩
structure Fol (K : Fg) (E : Xw) (F : Addr → Prop) (G H : Hp) (D' : Ends) (P : Post) : Prop where
  nx : ∀ G' H' σ' ls', Ex G G' → Kp F H H' → Sat K F G' H' σ' ls' → P.nx ls' → D'.nx σ' H'
  rt : ∀ G' H' v d, Ex G G' → Kp F H H' → (∀ a, F a → G' a = none) → Ex G' H' → Dq K G' v d → P.rt d → D'.rt v H'
  bk : ∀ G' H' σ' ls', Ex G G' → Kp F H H' → Sat K F G' H' σ' ls' → P.bk ls' → D'.bk σ' H'
  ct : ∀ G' H' σ' ls', Ex G G' → Kp F H H' → Sat K F G' H' σ' ls' → P.ct ls' → D'.ct σ' H'
  tb : ∀ P, E.T P → TabAt G P
  dx : ∀ p ∈ E.dx, XdAt K G p.1 p.2
  ex : ∀ G' H' σ' ls' C dd fs gs, Ex G G' → Kp F H H' → Sat K F G' H' σ' ls' → G' dd = some (.xd fs) → FsOk K G' fs gs → E.xp ls' C gs → E.W (.ref C) (some dd) σ' H'
theorem Fol.step {K : Fg} {E : Xw} {F : Addr → Prop} {G H G1 H1 : Hp} {D' : Ends} {P : Post} (f : Fol K E F G H D' P) (eg : Ex G G1) (k : Kp F H H1) : Fol K E F G1 H1 D' P :=
  ⟨fun G' H' σ' ls' e k' => f.nx G' H' σ' ls' (eg.trans e) (k.trans k'), fun G' H' v d e k' => f.rt G' H' v d (eg.trans e) (k.trans k'), fun G' H' σ' ls' e k' => f.bk G' H' σ' ls' (eg.trans e) (k.trans k'), fun G' H' σ' ls' e k' => f.ct G' H' σ' ls' (eg.trans e) (k.trans k'), fun P h => (f.tb P h).mono eg, fun p h => (f.dx p h).mono eg, fun G' H' σ' ls' C dd fs gs e k' => f.ex G' H' σ' ls' C dd fs gs (eg.trans e) (k.trans k')⟩
theorem Fol.xok {K : Fg} {E : Xw} {F : Addr → Prop} {G H : Hp} {σ : L2.St} {ls : List Loc} {D' : Ends} {P : Post} (f : Fol K E F G H D' P) (S : Sat K F G H σ ls) : Xok K E F G H σ ls := ⟨f.tb, f.dx, fun G' H' C dd fs gs eg eh S' => f.ex G' H' σ ls C dd fs gs eg (S.kp eh) S'⟩
def Hs (K : Fg) (E : Xw) (t : TS) (ls : List Loc) (P : Post) : Prop := ∀ F G H σ D', Sat K F G H σ ls → Fol K E F G H D' P → t D' σ H
def sAny (C : Cs) (s : Stmt) : TS := fun D' σ H => ∃ t : TS, (∀ i, PS (C.X i) s t) ∧ t D' σ H
theorem ps_any (C : Cs) (s : Stmt) (i : C.ι) : PS (C.X i) s (sAny C s) := ⟨fun pins st σ H D' I h => by
  obtain ⟨t, ht, q⟩ := h
  exact (ht i).run pins st σ H D' I q⟩
def bAny (C : Cs) (s : List Stmt) : TS := fun D' σ H => ∃ t : TS, (∀ i, PSs (C.X i) s t) ∧ t D' σ H
theorem pb_any (C : Cs) (s : List Stmt) (i : C.ι) : PSs (C.X i) s (bAny C s) := ⟨fun pins st σ H D' I h => by
  obtain ⟨t, ht, q⟩ := h
  exact (ht i).run pins st σ H D' I q⟩
def JS (C : Cs) (ls : List Loc) (s : Stmt) (P : Post) : Prop := Hs C.K C.E (sAny C s) ls P
def JB (C : Cs) (ls : List Loc) (s : List Stmt) (P : Post) : Prop := Hs C.K C.E (bAny C s) ls P
section
variable {C : Cs} {ls : List Loc} {s : Stmt} {rest b1 b2 body : List Stmt} {P : Post} {e a c : Expr} {d : D} {ds : List D} {pos pos' : Pos}
theorem js_of {t : TS} (h : ∀ i, PS (C.X i) s t) (ev : Hs C.K C.E t ls P) : JS C ls s P := fun F G H σ D' S f => ⟨t, h, ev F G H σ D' S f⟩
theorem jb_of {t : TS} (h : ∀ i, PSs (C.X i) body t) (ev : Hs C.K C.E t ls P) : JB C ls body P := fun F G H σ D' S f => ⟨t, h, ev F G H σ D' S f⟩
theorem jb_nil (h : P.nx ls) : JB C ls [] P := jb_of (fun _ => pss_nil) fun F G H σ D' S f => f.nx G H σ ls (Ex.refl G) Kp.refl S h
theorem jb_cons (R : List Loc → Prop) (h : JS C ls s { P with nx := R }) (k : ∀ ls', R ls' → JB C ls' rest P) : JB C ls (s :: rest) P :=
  jb_of (fun j => pss_cons (ps_any C s j) (pb_any C rest j)) fun F G H σ D' S f => h F G H σ _ S ⟨fun G' H' σ' ls' eg kp S' r => k ls' r F G' H' σ' D' S' (f.step eg kp), f.rt, f.bk, f.ct, f.tb, f.dx, f.ex⟩
theorem jb_one (h : JS C ls s P) : JB C ls [s] P := jb_of (fun j => pss_one (ps_any C s j)) h
/-- forget, weaken -/
theorem jb_post {P' : Post} (h : JB C ls body P') (h1 : ∀ l, P'.nx l → P.nx l) (h2 : ∀ d, P'.rt d → P.rt d) (h3 : ∀ l, P'.bk l → P.bk l) (h4 : ∀ l, P'.ct l → P.ct l) : JB C ls body P := fun F G H σ D' S f =>
  h F G H σ D' S ⟨fun G' H' σ' ls' eg kp S' r => f.nx G' H' σ' ls' eg kp S' (h1 _ r), fun G' H' v d eg kp fg e hv r => f.rt G' H' v d eg kp fg e hv (h2 _ r), fun G' H' σ' ls' eg kp S' r => f.bk G' H' σ' ls' eg kp S' (h3 _ r), fun G' H' σ' ls' eg kp S' r => f.ct G' H' σ' ls' eg kp S' (h4 _ r), f.tb, f.dx, f.ex⟩
/-! stores -/
abbrev StoreOk (C : Cs) (i : Nat) (x : Str) : Prop := C.N[i]? = some x ∧ ∀ j, L2.Loc (C.X j).env.scope x ∧ ((C.X j).fn x = true ∨ (C.X j).env.scope.names.lookup x = some .local)
theorem js_set (i : Nat) {x : Str} (he : JE C ls e d) (hn : P.nx (ls.set i (.val d))) (hi : C.N[i]? = some x := by rfl) (hx : ∀ j, L2.Loc (C.X j).env.scope x := by intro _; first | exact .inl rfl | exact .inr rfl)
    (hs : ∀ j, swapsWith e (some (.Name x pos')) pos.line (C.X j).env = pure false := by intro _; rfl) (hf : ∀ j, (C.X j).fn x = true ∨ (C.X j).env.scope.names.lookup x = some .local := by intro _; first | exact .inl rfl | exact .inr rfl) : JS C ls (.Assign [.Name x pos'] e pos) P :=
  js_of (fun j => ps_set (i := i) (by rw [C.hN]; exact C.nd) (by rw [C.hN]; exact hi) (hx j) (pe_any C e j) (hs j) (hf j)) fun F G H σ D' S f => he F G H σ S (f.xok S) _ fun v G' H' eg eh S' hv => f.nx G' H' _ _ eg (S.kp eh) (S'.setV hv) hn
theorem jb_set (i : Nat) {x : Str} (he : JE C ls e d) (k : JB C (ls.set i (.val d)) rest P) (hi : C.N[i]? = some x := by rfl) (hx : ∀ j, L2.Loc (C.X j).env.scope x := by intro _; first | exact .inl rfl | exact .inr rfl)
    (hs : ∀ j, swapsWith e (some (.Name x pos')) pos.line (C.X j).env = pure false := by intro _; rfl) (hf : ∀ j, (C.X j).fn x = true ∨ (C.X j).env.scope.names.lookup x = some .local := by intro _; first | exact .inl rfl | exact .inr rfl) : JB C ls (.Assign [.Name x pos'] e pos :: rest) P :=
  jb_cons (fun l => l = ls.set i (.val d)) (js_set i he rfl hi hx hs hf) fun _ h => h ▸ k
theorem js_setN (i : Nat) {x : Str} (he : JN C ls e ds) (hn : P.nx (ls.set i (.own ds))) (hi : C.N[i]? = some x := by rfl) (hx : ∀ j, L2.Loc (C.X j).env.scope x := by intro _; first | exact .inl rfl | exact .inr rfl)
    (hs : ∀ j, swapsWith e (some (.Name x pos')) pos.line (C.X j).env = pure false := by intro _; rfl) (hf : ∀ j, (C.X j).fn x = true ∨ (C.X j).env.scope.names.lookup x = some .local := by intro _; first | exact .inl rfl | exact .inr rfl) : JS C ls (.Assign [.Name x pos'] e pos) P :=
  js_of (fun j => ps_set (i := i) (by rw [C.hN]; exact C.nd) (by rw [C.hN]; exact hi) (hx j) (pe_any C e j) (hs j) (hf j)) fun F G H σ D' S f => he F G H σ S (f.xok S) _ fun p vs G' H' eg eh nf S' hp hv => f.nx G' H' _ _ eg (S.kp eh) (S'.setN nf hp hv) hn
theorem jb_setN (i : Nat) {x : Str} (he : JN C ls e ds) (k : JB C (ls.set i (.own ds)) rest P) (hi : C.N[i]? = some x := by rfl) (hx : ∀ j, L2.Loc (C.X j).env.scope x := by intro _; first | exact .inl rfl | exact .inr rfl)
    (hs : ∀ j, swapsWith e (some (.Name x pos')) pos.line (C.X j).env = pure false := by intro _; rfl) (hf : ∀ j, (C.X j).fn x = true ∨ (C.X j).env.scope.names.lookup x = some .local := by intro _; first | exact .inl rfl | exact .inr rfl) : JB C ls (.Assign [.Name x pos'] e pos :: rest) P :=
  jb_cons (fun l => l = ls.set i (.own ds)) (js_setN i he rfl hi hx hs hf) fun _ h => h ▸ k
/-! return -/
theorem js_ret (he : JE C ls e d) (h : P.rt d) : JS C ls (.Return (some e) pos) P := js_of (fun j => ps_ret (pe_any C e j)) fun F G H σ D' S f => he F G H σ S (f.xok S) _ fun v G' H' eg eh S' hv => f.rt G' H' v d eg (S.kp eh) (fun a fa => (S'.fo a fa).1) S'.ex hv h
theorem jb_ret (he : JE C ls e d) (h : P.rt d) : JB C ls (.Return (some e) pos :: rest) P := jb_cons (fun _ => False) (js_ret he h) fun _ h => h.elim
theorem js_retN (h : P.rt .non) : JS C ls (.Return none pos) P := js_of (fun j => ps_retN) fun F G H σ D' S f => f.rt G H _ _ (Ex.refl G) Kp.refl (fun a fa => (S.fo a fa).1) S.ex .non h
/-- an own list from here on as frozen -/
theorem jb_thaw (i : Nat) (hl : ls[i]? = some (.own ds)) (k : JB C (ls.set i (.val (.lst ds))) body P) : JB C ls body P := fun F G H σ D' S f => by
  obtain ⟨G', eg, fg, S'⟩ := S.thaw hl
  exact k F G' H σ D' S' (f.step eg Kp.refl)
theorem jb_forget (i : Nat) (k : JB C (ls.set i .any) body P) : JB C ls body P := fun F G H σ D' S f => by
  have S' := S.forget (i := i) (σ.getD i none)
  have e : σ.set i (σ.getD i none) = σ := by
    apply List.ext_getElem?
    intro j
    by_cases hj : i = j
    · subst hj
      by_cases hi : i < σ.length
      · rw [List.getElem?_set_self hi, List.getD_eq_getElem?_getD, List.getElem?_eq_getElem hi]; rfl
      · rw [List.getElem?_eq_none (by simpa using hi), List.getElem?_eq_none (by omega)]
    · rw [List.getElem?_set_ne hj]
  rw [e] at S'
  exact k F G H σ D' S' f
/-- a block's end, some slots forgotten -/
def anys (ls : List Loc) (fs : List Nat) : List Loc := fs.foldl (fun l i => l.set i .any) ls
theorem jb_end (fs : List Nat) (h : P.nx (anys ls fs)) : JB C ls [] P := by
  induction fs generalizing ls with
  | nil => exact jb_nil h
  | cons i r ih => exact jb_forget i (ih h)
/-! if -/
theorem js_if {k : Bool} (hc : JT C ls c k) (h1 : k = true → JB C ls b1 P) (h2 : k = false → JB C ls b2 P) : JS C ls (.If c b1 b2 pos) P :=
  js_of (fun j => ps_if (pt_any C c j) (pb_any C b1 j) (pb_any C b2 j)) fun F G H σ D' S f => hc F G H σ S (f.xok S) _ fun G' H' eg eh S' => by
    cases k with
    | true => rw [if_pos rfl]; exact h1 rfl F G' H' σ D' S' (f.step eg (S.kp eh))
    | false => rw [if_neg Bool.false_ne_true]; exact h2 rfl F G' H' σ D' S' (f.step eg (S.kp eh))
/-- if c: .. (leaves by a return), then the rest -/
theorem jb_if {k : Bool} (R : List Loc → Prop) (hc : JT C ls c k) (h1 : k = true → JB C ls b1 { P with nx := R }) (h2 : k = false → JB C ls b2 { P with nx := R }) (h : ∀ ls', R ls' → JB C ls' rest P) : JB C ls (.If c b1 b2 pos :: rest) P :=
  jb_cons R (js_if hc h1 h2) h
/-- if c: .. that never goes on, then the rest with ¬ c -/
theorem jb_ifx {k : Bool} (hc : JT C ls c k) (h1 : k = true → JB C ls b1 { P with nx := fun _ => False }) (h : k = false → JB C ls rest P) : JB C ls (.If c b1 [] pos :: rest) P :=
  jb_cons (fun l => k = false ∧ l = ls) (js_if hc (fun hk => jb_post (h1 hk) (fun _ z => False.elim z) (fun _ z => z) (fun _ z => z) (fun _ z => z)) fun hk => jb_nil ⟨hk, rfl⟩) fun l hl => by
    obtain ⟨hk, rfl⟩ := hl
    exact h hk
/-! append -/
theorem js_app (i : Nat) {x : Str} (he : JE C ls e d) (hl : ls[i]? = some (.own ds)) (hn : P.nx (ls.set i (.own (ds ++ [d])))) (hz : ds.length < 1000000 := by first | decide | omega | assumption) (hi : C.N[i]? = some x := by rfl)
    (hv : ∀ j, Vis (C.X j).env.scope x := by intro _; first | exact Or.inl rfl | exact Or.inr (Or.inl rfl) | exact Or.inr (Or.inr rfl)) (hs : NS e := by intro _ _; rfl) {p1 p2 p3 : Pos}
    (hd : (x == ("__debug__" : Str)) = false := by decide) (hcd : (x == ("__classdict__" : Str)) = false := by decide) (hsw : ∀ j, swapsWith (.Call (.Attribute (.Name x p1) "append" p2) [e] [] p3) none pos.line (C.X j).env = pure false := by intro _; rfl)
    (hb : ∀ j, PE (C.X j) (.Call (.Attribute (.Name x p1) "append" p2) [e] [] p3) (tBM C.K "list" rAppend (tVar i) (tCons (eAny C e) tNil)) := by intro j; exact pe_bm PySem.F.plainAttrs_list PySem.F.slot_list_append PySem.F.type_list_append mt_append (pv _) (pa_cons (pe_any _ _ j) pa_nil)) :
    JS C ls (.Expr (.Call (.Attribute (.Name x p1) "append" p2) [e] [] p3) pos) P :=
  js_of (fun j => ps_expr (hb j) (hsw j)) fun F G H σ D' S f => by
    obtain ⟨p, vs, ep, hp, hv, gp, nf⟩ := S.ownAt hl
    refine ⟨.ref p, ep, Or.inl ⟨rfl, vs, SqL.of hp⟩, he F G H σ S (f.xok S) _ fun v G' H' eg eh S' hv' => ?_⟩
    have hp' := eh _ _ hp
    refine ⟨p, vs, v, rfl, rfl, hp', ?_, ?_⟩
    · rw [hv.length]
      exact Nat.lt_of_lt_of_le hz (by decide)
    · exact f.nx G' _ σ _ eg ((S.kp eh).put (nt_lst hp') nf) (S'.mut hl ep ((dqAll_mono eg hv).append (.cons hv' .nil))) hn
theorem jb_app (i : Nat) {x : Str} (he : JE C ls e d) (hl : ls[i]? = some (.own ds)) (k : JB C (ls.set i (.own (ds ++ [d]))) rest P) (hz : ds.length < 1000000 := by first | decide | omega | assumption) (hi : C.N[i]? = some x := by rfl)
    (hv : ∀ j, Vis (C.X j).env.scope x := by intro _; first | exact Or.inl rfl | exact Or.inr (Or.inl rfl) | exact Or.inr (Or.inr rfl)) (hs : NS e := by intro _ _; rfl) {p1 p2 p3 : Pos}
    (hd : (x == ("__debug__" : Str)) = false := by decide) (hcd : (x == ("__classdict__" : Str)) = false := by decide) (hsw : ∀ j, swapsWith (.Call (.Attribute (.Name x p1) "append" p2) [e] [] p3) none pos.line (C.X j).env = pure false := by intro _; rfl)
    (hb : ∀ j, PE (C.X j) (.Call (.Attribute (.Name x p1) "append" p2) [e] [] p3) (tBM C.K "list" rAppend (tVar i) (tCons (eAny C e) tNil)) := by intro j; exact pe_bm PySem.F.plainAttrs_list PySem.F.slot_list_append PySem.F.type_list_append mt_append (pv _) (pa_cons (pe_any _ _ j) pa_nil)) :
    JB C ls (.Expr (.Call (.Attribute (.Name x p1) "append" p2) [e] [] p3) pos :: rest) P :=
  jb_cons (fun l => l = ls.set i (.own (ds ++ [d]))) (js_app i he hl rfl hz hi hv hs hd hcd hsw hb) fun _ h => h ▸ k
theorem js_ifx {k : Bool} (hc : JT C ls c k) (h1 : k = true → JB C ls b1 P) (h2 : k = false → P.nx ls) : JS C ls (.If c b1 [] pos) P := js_if hc h1 fun h => jb_nil (h2 h)
/-! loops -/
/-- a for over anything: Pv by the turn and the slots; c: what the iterable turned out to be -/
theorem hs_forX {κ : Type} {wi : TI} {g : TG} {tb : TS} (Pv : κ → Nat → List Loc → Prop) (n : κ → Nat) (J : κ → Hp → It → Prop)
    (hw : ∀ F G H σ, Sat C.K F G H σ ls → Xok C.K C.E F G H σ ls → ∀ R : It → Hp → Prop, (∀ c Jt G' H', Ex G G' → Ex H H' → Sat C.K F G' H' σ ls → J c G' Jt → R Jt H') → wi σ H R) (h0 : ∀ c G Jt, J c G Jt → Pv c 0 ls)
    (hstop : ∀ c G Jt H, J c G Jt → Ex G H → Jt.stop (n c) H) (hgo : ∀ c G Jt H i, J c G Jt → Ex G H → i < n c → Jt.go i H)
    (hs : ∀ c F G G0 H σ ls' i x Jt H1, J c G0 Jt → Ex G0 G → i < n c → Sat C.K F G H σ ls' → Pv c i ls' → Jt.yld i H x H1 → ∀ D' : Ends, Fol C.K C.E F G H D' { nx := Pv c (i + 1), rt := P.rt, bk := P.nx, ct := Pv c (i + 1) } → g x σ H1 fun σ2 H2 => tb D' σ2 H2)
    (hd : ∀ c G Jt ls', J c G Jt → Pv c (n c) ls' → P.nx ls') : Hs C.K C.E (tFor wi g tb) ls P := fun F G H σ D' S f => hw F G H σ S (f.xok S) _ fun c Jt G1 H1 eg1 eh1 S1 hJ => by
  have f1 := f.step eg1 (S.kp eh1)
  refine ⟨fun i m σ' H' => m = n c - i ∧ i ≤ n c ∧ ∃ G' ls', Ex G1 G' ∧ Kp F H1 H' ∧ Sat C.K F G' H' σ' ls' ∧ Pv c i ls', ⟨n c, by simp, Nat.zero_le _, G1, ls, Ex.refl _, Kp.refl, S1, h0 c G1 Jt hJ⟩, ?_⟩
  rintro i m σ' H' ⟨rfl, hi, G', ls', eg', kp', S', p⟩
  by_cases hlt : i < n c
  · refine .inr ⟨hgo c G1 Jt H' i hJ (eg'.trans S'.ex) hlt, fun σ2 H2 => ∃ G2 ls2, Ex G1 G2 ∧ Kp F H1 H2 ∧ Sat C.K F G2 H2 σ2 ls2 ∧ Pv c (i + 1) ls2, fun σ2 H2 h => ⟨n c - (i + 1), by omega, rfl, hlt, h⟩, fun x H2 y => ?_⟩
    refine hs c F G' G1 H' σ' ls' i x Jt H2 hJ eg' hlt S' p y _ ⟨fun G3 H3 σ3 ls3 eg3 kp3 S3 r => ⟨G3, ls3, eg'.trans eg3, kp'.trans kp3, S3, r⟩, fun G3 H3 v d eg3 kp3 fg e3 hv r => f1.rt G3 H3 v d (eg'.trans eg3) (kp'.trans kp3) fg e3 hv r, fun G3 H3 σ3 ls3 eg3 kp3 S3 r => f1.nx G3 H3 σ3 ls3 (eg'.trans eg3) (kp'.trans kp3) S3 r, fun G3 H3 σ3 ls3 eg3 kp3 S3 r => ⟨G3, ls3, eg'.trans eg3, kp'.trans kp3, S3, r⟩, fun P h => (f1.tb P h).mono eg', fun p h => (f1.dx p h).mono eg', fun G3 H3 σ3 ls3 C dd fs gs eg3 kp3 => f1.ex G3 H3 σ3 ls3 C dd fs gs (eg'.trans eg3) (kp'.trans kp3)⟩
  · have e : i = n c := by omega
    subst e
    exact .inl ⟨hstop c G1 Jt H' hJ (eg'.trans S'.ex), f1.nx G' H' σ' ls' eg' kp' S' (hd c G1 Jt ls' hJ p)⟩
theorem hs_for {wi : TI} {g : TG} {tb : TS} (Pv : Nat → List Loc → Prop) (n : Nat) (J : Hp → It → Prop)
    (hw : ∀ F G H σ, Sat C.K F G H σ ls → Xok C.K C.E F G H σ ls → ∀ R : It → Hp → Prop, (∀ Jt G' H', Ex G G' → Ex H H' → Sat C.K F G' H' σ ls → J G' Jt → R Jt H') → wi σ H R) (h0 : Pv 0 ls)
    (hstop : ∀ G Jt H, J G Jt → Ex G H → Jt.stop n H) (hgo : ∀ G Jt H i, J G Jt → Ex G H → i < n → Jt.go i H)
    (hs : ∀ F G G0 H σ ls' i x Jt H1, J G0 Jt → Ex G0 G → i < n → Sat C.K F G H σ ls' → Pv i ls' → Jt.yld i H x H1 → ∀ D' : Ends, Fol C.K C.E F G H D' { nx := Pv (i + 1), rt := P.rt, bk := P.nx, ct := Pv (i + 1) } → g x σ H1 fun σ2 H2 => tb D' σ2 H2)
    (hd : ∀ ls', Pv n ls' → P.nx ls') : Hs C.K C.E (tFor wi g tb) ls P :=
  hs_forX (κ := Unit) (fun _ => Pv) (fun _ => n) (fun _ => J) (fun F G H σ S xx R q => hw F G H σ S xx R fun Jt G' H' => q () Jt G' H') (fun _ _ _ _ => h0) (fun _ => hstop) (fun _ => hgo) (fun _ => hs) fun _ _ _ ls' _ => hd ls'
theorem range' {C : Cs} (j : C.ι) {tg a : Expr} {p pos : Pos} (hg : Gl (C.X j) "range") (hm : NoG C "range") (hs : NS a) : PI (C.X j) tg (.Call (.Name "range" p) [a] [] pos) (iRng1 (tCons (eAny C a) tNil)) := pi_range1 hg (noG hm j) (pa_cons (pe_any C a j) pa_nil (hs _ _)) (hs _ _)
/-- for x in range(e) -/
theorem js_forR [Cold C] {n : Int} {x : Str} {p1 p2 p3 : Pos} (j : Nat) (Pv : Nat → List Loc → Prop) (he : JE C ls e (.int n)) (hn : n < 2 ^ 61) (h0 : Pv 0 ls) (hb : ∀ (i : Nat) ls', i < n.toNat → Pv i ls' → JB C (ls'.set j (.val (.int i))) body { nx := Pv (i + 1), rt := P.rt, bk := P.nx, ct := Pv (i + 1) })
    (hd : ∀ ls', Pv n.toNat ls' → P.nx ls') (hm : NoG C "range" := by assumption) (hg : ∀ j, Gl (C.X j) "range" := by intro _; rfl) (hs : NS e := by intro _ _; rfl) (hi : C.N[j]? = some x := by rfl) (hx : ∀ i, L2.Loc (C.X i).env.scope x := by intro _; first | exact .inl rfl | exact .inr rfl)
    (hf : ∀ i, (C.X i).fn x = true ∨ (C.X i).env.scope.names.lookup x = some .local := by intro _; first | exact .inl rfl | exact .inr rfl) (hp : ∀ i, PassesOwn (model (C.X i).prog (C.X i).w) (C.X i).A (C.X i).env (C.X i).xe := by intro q; first | exact PassesOwn.never | exact passes_of rfl | exact q.owns) (hfs : ∀ i x, foldedSetIterable (.Call (.Name "range" p1) [e] [] p2) (C.X i).env x = pure x := by intro _ _; rfl)
    (h62 : -(2 ^ 62) ≤ n := by omega) : JS C ls (.For (.Name x p3) (.Call (.Name "range" p1) [e] [] p2) body [] pos) P :=
  js_of (fun i => ps_for (hp i) (C.calm i Cold.h) (range' i (hg i) hm hs) (pg_name (i := j) (by rw [C.hN]; exact C.nd) (by rw [C.hN]; exact hi) (hx i) (hf i)) (pb_any C body i) (hfs i))
    (hs_for Pv n.toNat (fun _ Jt => Jt = Itr 0 n.toNat)
      (fun F G H σ S xx R q => he F G H σ S xx _ fun v G' H' eg eh S' hv => ⟨n, by rw [dq_int hv], h62, by omega, q _ G' H' eg eh S' rfl⟩) h0
      (fun G Jt H hJ e => by subst hJ; exact Nat.le_refl _) (fun G Jt H i hJ e hi => by subst hJ; exact hi)
      (fun F G G0 H σ ls' i x Jt H1 hJ eg hi S p y D' f => by
        subst hJ
        obtain ⟨rfl, rfl⟩ := y
        have e0 : (0 : Int) + (i : Int) = (i : Int) := Int.zero_add _
        rw [e0]
        exact hb i ls' hi p F G H1 _ D' (S.setV (.int _)) f) hd)
/-- for x in a frozen list; in a tuple -/
theorem js_forL [Cold C] {x : Str} {p3 : Pos} (j : Nat) (Pv : Nat → List Loc → Prop) (he : JE C ls e (.lst ds)) (h0 : Pv 0 ls) (hb : ∀ (i : Nat) d ls', ds[i]? = some d → Pv i ls' → JB C (ls'.set j (.val d)) body { nx := Pv (i + 1), rt := P.rt, bk := P.nx, ct := Pv (i + 1) })
    (hd : ∀ ls', Pv ds.length ls' → P.nx ls') (hi : C.N[j]? = some x := by rfl) (hx : ∀ i, L2.Loc (C.X i).env.scope x := by intro _; first | exact .inl rfl | exact .inr rfl)
    (hf : ∀ i, (C.X i).fn x = true ∨ (C.X i).env.scope.names.lookup x = some .local := by intro _; first | exact .inl rfl | exact .inr rfl) (hp : ∀ i, PassesOwn (model (C.X i).prog (C.X i).w) (C.X i).A (C.X i).env (C.X i).xe := by intro q; first | exact PassesOwn.never | exact passes_of rfl | exact q.owns) (hfs : ∀ i x, foldedSetIterable e (C.X i).env x = pure x := by intro _ _; rfl) : JS C ls (.For (.Name x p3) e body [] pos) P :=
  js_of (t := tFor (iList C.K (eAny C e)) (gName j) (bAny C body)) (fun i => ps_for (hp i) (C.calm i Cold.h) (kx (p := fun K => PI (C.X i) _ e (iList K (eAny C e))) i (pi_list (pe_any C e i))) (pg_name (i := j) (by rw [C.hN]; exact C.nd) (by rw [C.hN]; exact hi) (hx i) (hf i)) (pb_any C body i) (hfs i))
    (hs_for Pv ds.length (fun G Jt => ∃ a vs, Jt = Itl C.K a ∧ G a = some (.lst vs) ∧ DqAll C.K G vs ds)
      (fun F G H σ S xx R q => he F G H σ S xx _ fun v G' H' eg eh S' hv => by
        obtain ⟨a, vs, rfl, ha, hd⟩ := dq_lst hv
        exact ⟨a, rfl, ⟨vs, SqL.of (S'.ex _ _ ha)⟩, q _ G' H' eg eh S' ⟨a, vs, rfl, ha, hd⟩⟩) h0
      (fun G Jt H hJ e => by
        obtain ⟨a, vs, rfl, ha, hd⟩ := hJ
        exact ⟨vs, SqL.of (e _ _ ha), by rw [hd.length]; exact Nat.le_refl _⟩)
      (fun G Jt H i hJ e hi => by
        obtain ⟨a, vs, rfl, ha, hd⟩ := hJ
        exact ⟨vs, vs[i]'(by rw [hd.length]; exact hi), SqL.of (e _ _ ha), List.getElem?_eq_getElem _⟩)
      (fun F G G0 H σ ls' i x Jt H1 hJ eg hi S p y D' f => by
        obtain ⟨a, vs, rfl, ha, hd⟩ := hJ
        obtain ⟨rfl, y⟩ := y
        have hx := y vs (SqL.of ((eg.trans S.ex) _ _ ha))
        obtain ⟨d, e1, e2⟩ := hd.get' hx
        exact hb i d ls' e1 p F G H1 _ D' (S.setV (dq_mono eg e2)) f) hd)
theorem js_forT [Cold C] {x : Str} {p3 : Pos} (j : Nat) (Pv : Nat → List Loc → Prop) (he : JE C ls e (.tup ds)) (h0 : Pv 0 ls) (hb : ∀ (i : Nat) d ls', ds[i]? = some d → Pv i ls' → JB C (ls'.set j (.val d)) body { nx := Pv (i + 1), rt := P.rt, bk := P.nx, ct := Pv (i + 1) })
    (hd : ∀ ls', Pv ds.length ls' → P.nx ls') (hi : C.N[j]? = some x := by rfl) (hx : ∀ i, L2.Loc (C.X i).env.scope x := by intro _; first | exact .inl rfl | exact .inr rfl)
    (hf : ∀ i, (C.X i).fn x = true ∨ (C.X i).env.scope.names.lookup x = some .local := by intro _; first | exact .inl rfl | exact .inr rfl) (hp : ∀ i, PassesOwn (model (C.X i).prog (C.X i).w) (C.X i).A (C.X i).env (C.X i).xe := by intro q; first | exact PassesOwn.never | exact passes_of rfl | exact q.owns) (hfs : ∀ i x, foldedSetIterable e (C.X i).env x = pure x := by intro _ _; rfl) : JS C ls (.For (.Name x p3) e body [] pos) P :=
  js_of (t := tFor (iTup C.K (eAny C e)) (gName j) (bAny C body)) (fun i => ps_for (hp i) (C.calm i Cold.h) (kx (p := fun K => PI (C.X i) _ e (iTup K (eAny C e))) i (pi_tup (pe_any C e i))) (pg_name (i := j) (by rw [C.hN]; exact C.nd) (by rw [C.hN]; exact hi) (hx i) (hf i)) (pb_any C body i) (hfs i))
    (hs_for Pv ds.length (fun G Jt => ∃ a vs, Jt = Itt C.K a ∧ SqT C.K G a vs ∧ DqAll C.K G vs ds)
      (fun F G H σ S xx R q => he F G H σ S xx _ fun v G' H' eg eh S' hv => by
        obtain ⟨a, vs, rfl, ha, hd⟩ := dq_tup hv
        exact ⟨a, rfl, ⟨vs, ex_t S'.ex ha⟩, q _ G' H' eg eh S' ⟨a, vs, rfl, ha, hd⟩⟩) h0
      (fun G Jt H hJ e => by
        obtain ⟨a, vs, rfl, ha, hd⟩ := hJ
        exact ⟨vs, ex_t e ha, by rw [hd.length]; exact Nat.le_refl _⟩)
      (fun G Jt H i hJ e hi => by
        obtain ⟨a, vs, rfl, ha, hd⟩ := hJ
        exact ⟨vs, vs[i]'(by rw [hd.length]; exact hi), ex_t e ha, List.getElem?_eq_getElem _⟩)
      (fun F G G0 H σ ls' i x Jt H1 hJ eg hi S p y D' f => by
        obtain ⟨a, vs, rfl, ha, hd⟩ := hJ
        obtain ⟨rfl, y⟩ := y
        have hx := y vs (ex_t (eg.trans S.ex) ha)
        obtain ⟨d, e1, e2⟩ := hd.get' hx
        exact hb i d ls' e1 p F G H1 _ D' (S.setV (dq_mono eg e2)) f) hd)
/-- while: Pv by a measure and the slots -/
theorem js_while (Pv : Nat → List Loc → Prop) (m : Nat) (h0 : Pv m ls) (hb : ∀ m ls', Pv m ls' → ∃ k, JT C ls' c k ∧ (k = true → JB C ls' body { nx := fun l => ∃ m', m' < m ∧ Pv m' l, rt := P.rt, bk := P.nx, ct := fun l => ∃ m', m' < m ∧ Pv m' l }) ∧ (k = false → P.nx ls'))
    (hp : ∀ i, PassesOwn (model (C.X i).prog (C.X i).w) (C.X i).A (C.X i).env (C.X i).xe := by intro q; first | exact PassesOwn.never | exact passes_of rfl | exact q.owns) : JS C ls (.While c body [] pos) P :=
  js_of (fun i => ps_while (hp i) (pt_any C c i) (pb_any C body i)) fun F G H σ D' S f => by
    refine ⟨fun m σ' H' => ∃ G' ls', Ex G G' ∧ Kp F H H' ∧ Sat C.K F G' H' σ' ls' ∧ Pv m ls', ⟨m, G, ls, Ex.refl _, Kp.refl, S, h0⟩, ?_⟩
    rintro m σ' H' ⟨G', ls', eg', kp', S', p⟩
    obtain ⟨k, ht, h1, h2⟩ := hb m ls' p
    refine ht F G' H' σ' S' ((f.step eg' kp').xok S') _ fun G2 H2 eg2 eh2 S2 => ?_
    have f2 := f.step (eg'.trans eg2) (kp'.trans (S'.kp eh2))
    cases k with
    | true =>
      rw [if_pos rfl]
      refine ⟨fun σ3 H3 => ∃ m', m' < m ∧ ∃ G3 ls3, Ex G G3 ∧ Kp F H H3 ∧ Sat C.K F G3 H3 σ3 ls3 ∧ Pv m' ls3, fun σ3 H3 h => h, h1 rfl F G2 H2 σ' _ S2 ⟨?_, f2.rt, f2.nx, ?_, f2.tb, f2.dx, f2.ex⟩⟩
      · rintro G3 H3 σ3 ls3 eg3 kp3 S3 ⟨m', hm, r⟩
        exact ⟨m', hm, G3, ls3, (eg'.trans eg2).trans eg3, (kp'.trans (S'.kp eh2)).trans kp3, S3, r⟩
      · rintro G3 H3 σ3 ls3 eg3 kp3 S3 ⟨m', hm, r⟩
        exact ⟨m', hm, G3, ls3, (eg'.trans eg2).trans eg3, (kp'.trans (S'.kp eh2)).trans kp3, S3, r⟩
    | false =>
      rw [if_neg Bool.false_ne_true]
      exact f2.nx G2 H2 σ' ls' (Ex.refl _) Kp.refl S2 (h2 rfl)
end
end Qp

/-! Q5: defs, calls, comprehensions, a try that runs through. -/
namespace Qp
open PySem PySem.Spec PyProof.Rows L2
/-! ### a def's promise over data -/
abbrev Rel := List D → (D → Prop) → Prop
def spD (K : Fg) (R : Rel) (T : Addr → Prop := fun _ => False) : Sp := fun vs H Q _ => ∃ G ds Po, Ex G H ∧ (∀ P, T P → TabAt G P) ∧ DqAll K G vs ds ∧ R ds Po ∧ ∀ d, Po d → ∀ G' H' v, Ex G G' → Ex G' H' → Ex H H' → (∀ a, NT H a → G a = none → G' a = none) → Dq K G' v d → Q v H'
/-- the one answer d -/
def det (r : List D → D → Prop) : Rel := fun ds Po => ∃ d, r ds d ∧ Po = fun d' => d' = d
/-- the context of a def's body -/
def Cs.of (P : Program) (w : World) (K : Fg) (mg : Str → Option Value) (base : Heap) {N : List Str} (nd : N.Nodup) (qual : Str) (scope : Scope) (f : Addr) (cdv : Value) (A : Around) (outer : List Env) (s : Shared) (H : Hp) (E : XK) {k : Nat}
    (hr : Room k (A.deeper (envOfC qual scope s.heap.objs.size f cdv))) (T : Addr → Prop := fun _ => False) : Cs where
  ι := Unit
  X := fun _ => (cxOf CX0 P w K mg base N qual scope f cdv A outer s H E).nox
  P := P
  w := w
  K := K
  mg := mg
  base := base
  N := N
  k := k
  hP := fun _ => rfl
  hw := fun _ => rfl
  hK := fun _ => rfl
  hmg := fun _ => rfl
  hbase := fun _ => rfl
  hN := fun _ => rfl
  nd := nd
  calm := fun _ _ => rfl
  cold := fun _ _ => hr
  hotc := fun _ z => Bool.noConfusion z
  E := noX T
  takes := fun _ => takesN
instance {P : Program} {w : World} {K : Fg} {mg : Str → Option Value} {base : Heap} {N : List Str} {nd : N.Nodup} {qual : Str} {scope : Scope} {f : Addr} {cdv : Value} {A : Around} {outer : List Env} {s : Shared} {H : Hp} {E : XK} {k : Nat} {hr : Room k (A.deeper (envOfC qual scope s.heap.objs.size f cdv))} {T : Addr → Prop} :
    Cold (Cs.of P w K mg base nd qual scope f cdv A outer s H E hr T) := ⟨rfl⟩
abbrev locs (n : Nat) (ds : List D) : List Loc := ds.map Loc.val ++ List.replicate (n - ds.length) Loc.any
abbrev Ret (d : D) : Post := { nx := fun _ => d = .non, rt := fun d' => d' = d }
abbrev RetX (Po : D → Prop) : Post := { nx := fun _ => Po .non, rt := Po }
theorem sat_start {K : Fg} {G H : Hp} {vs : List V} {ds : List D} {N : List Str} (eg : Ex G H) (hv : DqAll K G vs ds) : Sat K (fun a => NT H a ∧ G a = none) G H (L2.start N vs) (locs N.length ds) := by
  refine ⟨eg, fun a h => ⟨h.2, h.1⟩, ?_, fun _ => [], fun i l hl => ?_, fun _ _ h => (List.not_mem_nil h).elim, fun _ => List.nodup_nil, fun _ _ _ h => (List.not_mem_nil h).elim⟩
  · unfold L2.start locs
    simp [hv.length]
  · unfold locs at hl
    by_cases hi : i < ds.length
    · rw [List.getElem?_append_left (by rw [List.length_map]; exact hi), List.getElem?_map, List.getElem?_eq_getElem hi] at hl
      cases hl
      obtain ⟨v, e1, e2⟩ := hv.get (List.getElem?_eq_getElem hi)
      refine ⟨rfl, v, ?_, e2⟩
      unfold L2.start
      rw [List.getD_eq_getElem?_getD, List.getElem?_append_left (by rw [List.length_map, hv.length]; exact hi), List.getElem?_map, e1]
      rfl
    · rw [List.getElem?_append_right (by rw [List.length_map]; omega)] at hl
      rw [List.getElem?_replicate] at hl
      split at hl
      · cases hl; rfl
      · cases hl
section
variable {P : Program} {w : World} {K : Fg} {mg : Str → Option Value} {base : Heap}
theorem fn_ok {x qual : Str} {st : Stmt} {f : Addr} {fd : FuncData} {N ps : List Str} {k : Nat} {R : Rel} {T : Addr → Prop} (F : Fun K x qual st f fd) (S : FnScope N ps (defScope st)) (len : ∀ ds d, R ds d → ds.length = ps.length)
    (body : ∀ (cdv : Value) (A : Around) (outer : List Env) (s : Shared) (H : Hp) (E : XK) (hr : Room k (A.deeper (envOfC qual (defScope st) s.heap.objs.size f cdv))) (ds : List D) (Po : D → Prop), R ds Po →
      JB (Cs.of P w K mg base S.nd qual (defScope st) f cdv A outer s H E hr T) (locs N.length ds) (defBody st) (RetX Po)) : FnOk P w K mg base CX0 (k + 1) f fd ps (spD K R T) := by
  refine F.ok S (fun vs H Q E h => ?_) (fun cdv A outer s H vs Q E hr h => ?_)
  · obtain ⟨G, ds, d, _, _, hv, hR, _⟩ := h
    rw [hv.length]
    exact len ds d hR
  · obtain ⟨G, ds, Po, eg, tb, hv, hR, q⟩ := h
    refine ⟨_, pb_any (Cs.of P w K mg base S.nd qual (defScope st) f cdv A outer s H E hr T) (defBody st) (), ?_⟩
    have fin : ∀ G' H' v d', Ex G G' → Kp (fun a => NT H a ∧ G a = none) H H' → (∀ a, (NT H a ∧ G a = none) → G' a = none) → Ex G' H' → Dq K G' v d' → Po d' → Q v H' := by
      intro G' H' v d' eg' kp fg e hv' hd
      refine q d' hd G' H' v eg' e (fun a o ha => ?_) (fun a h1 h2 => fg a ⟨h1, h2⟩) hv'
      by_cases nt : NoTb o
      · refine .of ?_
        cases hg : G a with
        | none => rw [kp.1 a ⟨⟨o, ha, nt⟩, hg⟩]; exact ha
        | some u =>
          have h2 := eg a u hg
          rw [ha] at h2
          have nu : NoTb u := fun ps z => by
            subst z
            obtain ⟨m, z, _⟩ := h2
            exact nt _ (Option.some.inj z)
          obtain rfl : o = u := Option.some.inj (h2.at nu)
          exact (e a _ ((eg' a _ hg).at nt)).at nt
      · cases o <;> first | exact kp.2 a _ ha | exact absurd (fun _ z => nomatch z) nt
    refine body cdv A outer s H E hr ds Po hR (fun a => NT H a ∧ G a = none) G H (L2.start N vs) _ (sat_start eg hv) ⟨fun G' H' σ' ls' eg' kp S' r => ?_, fun G' H' v d' eg' kp fg e hv' r => fin G' H' v d' eg' kp fg e hv' r, fun _ _ _ _ _ _ _ z => False.elim z, fun _ _ _ _ _ _ _ z => False.elim z, tb, fun _ z => (List.not_mem_nil z).elim, fun _ _ _ _ _ _ _ _ _ _ _ _ _ z => False.elim z⟩
    exact fin G' H' .non .non eg' kp (fun a fa => (S'.fo a fa).1) S'.ex .non r
/-- a def of one answer -/
theorem fn_okd {x qual : Str} {st : Stmt} {f : Addr} {fd : FuncData} {N ps : List Str} {k : Nat} {r : List D → D → Prop} {T : Addr → Prop} (F : Fun K x qual st f fd) (S : FnScope N ps (defScope st)) (len : ∀ ds d, r ds d → ds.length = ps.length)
    (body : ∀ (cdv : Value) (A : Around) (outer : List Env) (s : Shared) (H : Hp) (E : XK) (hr : Room k (A.deeper (envOfC qual (defScope st) s.heap.objs.size f cdv))) (ds : List D) (d : D), r ds d →
      JB (Cs.of P w K mg base S.nd qual (defScope st) f cdv A outer s H E hr T) (locs N.length ds) (defBody st) (Ret d)) : FnOk P w K mg base CX0 (k + 1) f fd ps (spD K (det r) T) :=
  fn_ok F S (fun ds Po ⟨d, h, _⟩ => len ds d h) fun cdv A outer s H E hr ds Po ⟨d, h, e⟩ => by
    subst e
    exact jb_post (body cdv A outer s H E hr ds d h) (fun _ z => Eq.symm z) (fun _ z => z) (fun _ z => z) (fun _ z => z)
end
section
variable {C : Cs} {ls : List Loc} {e a b : Expr} {d d1 : D} {ds : List D} {p pos : Pos} {x : Str} {f : Addr} {fd : FuncData} {ps : List Str} {k : Nat} {R : Rel} {r : List D → D → Prop} {Po : D → Prop}
theorem fnAt {sp : Sp} {CX : CXT} (F : FnOk C.P C.w C.K C.mg C.base CX k f fd ps sp) (hk : k ≤ C.k) (j : C.ι) : FnOk (C.X j).prog (C.X j).w (C.X j).K (C.X j).mg (C.X j).base CX C.k f fd ps sp := by
  rw [C.hP, C.hw, C.hK, C.hmg, C.hbase]
  exact F.mono hk
/-- a def of the text as callers see it -/
structure Fn (P : Program) (w : World) (K : Fg) (mg : Str → Option Value) (base : Heap) (k : Nat) (x : Str) (R : Rel) (T : Addr → Prop := fun _ => False) : Prop where
  ex : ∃ f fd ps, FnOk P w K mg base CX0 k f fd ps (spD K R T) ∧ mg x = some (.ref f) ∧ PySem.W.keepIn K (.ref f) = true ∧ Binds K fd ps []
/-- to some answer for which Po holds -/
def JX (C : Cs) (ls : List Loc) (e : Expr) (Po : D → Prop) : Prop := ∀ F G H σ, Sat C.K F G H σ ls → Xok C.K C.E F G H σ ls → ∀ Q : VK, (∀ d v G' H', Po d → Ex G G' → Ex H H' → Sat C.K F G' H' σ ls → Dq C.K G' v d → Q v H') → eAny C e σ H Q
structure JXA (C : Cs) (ls : List Loc) (es : List Expr) (Po : List D → Prop) : Prop where
  ns : ∀ e ∈ es, NS e
  ev : ∀ F G H σ, Sat C.K F G H σ ls → Xok C.K C.E F G H σ ls → ∀ Q : List V → Hp → Prop, (∀ ds vs G' H', Po ds → Ex G G' → Ex H H' → Sat C.K F G' H' σ ls → DqAll C.K G' vs ds → Q vs H') → aAny C es σ H Q
theorem JX.of (h : JE C ls e d) (hp : Po d) : JX C ls e Po := fun F G H σ S xx Q q => h F G H σ S xx Q fun v G' H' eg eh S' hv => q d v G' H' hp eg eh S' hv
theorem JX.je (h : JX C ls e fun d' => d' = d) : JE C ls e d := fun F G H σ S xx Q q => h F G H σ S xx Q fun d' v G' H' hd eg eh S' hv => q v G' H' eg eh S' (hd ▸ hv)
theorem JX.mono {Po' : D → Prop} (h : JX C ls e Po) (hp : ∀ d, Po d → Po' d) : JX C ls e Po' := fun F G H σ S xx Q q => h F G H σ S xx Q fun d v G' H' hd => q d v G' H' (hp d hd)
theorem jxa_nil {Pa : List D → Prop} (h : Pa []) : JXA C ls [] Pa := ⟨fun _ h => (List.not_mem_nil h).elim, fun F G H σ S xx Q q => ⟨tNil, fun _ => pa_nil, q [] [] G H h (Ex.refl G) (Ex.refl H) S .nil⟩⟩
theorem jxa_cons {Pa : List D → Prop} {es : List Expr} (h : JX C ls e Po) (r : ∀ d, Po d → JXA C ls es fun ds => Pa (d :: ds)) (hne : ∃ d, Po d) (hs : NS e := by intro _ _; rfl) : JXA C ls (e :: es) Pa := by
  obtain ⟨d0, h0⟩ := hne
  refine ⟨fun x hx => (List.mem_cons.mp hx).elim (fun z => z ▸ hs) ((r d0 h0).ns x), fun F G H σ S xx Q q => ⟨tCons (eAny C e) (aAny C es), fun j => pa_cons (pe_any C e j) (pa_any C es j) (hs _ _), h F G H σ S xx _ fun d v G1 H1 hd eg1 eh1 S1 hv => (r d hd).ev F G1 H1 σ S1 (xx.step eg1 eh1) _ fun ds vs G2 H2 hp eg2 eh2 S2 hvs => q (d :: ds) (v :: vs) G2 H2 hp (eg1.trans eg2) (eh1.trans eh2) S2 (.cons (dq_mono eg2 hv) hvs)⟩⟩
theorem JXA.of {es : List Expr} (h : JA C ls es ds) : JXA C ls es fun ds' => ds' = ds := ⟨h.ns, fun F G H σ S xx Q q => h.ev F G H σ S xx Q fun vs G' H' eg eh S' hv => q ds vs G' H' rfl eg eh S' hv⟩
theorem jx_call [Cold C] (F : Fn C.P C.w C.K C.mg C.base k x R C.E.T) {es : List Expr} {Pa : List D → Prop} (ha : JXA C ls (e :: es) Pa) (hR : ∀ ds, Pa ds → R ds Po) (hk : k ≤ C.k := by exact Nat.le_of_ble_eq_true rfl) (hg : ∀ j, Gl (C.X j) x := by intro _; rfl) (hdb : (x == ("__debug__" : Str)) = false := by decide) :
    JX C ls (.Call (.Name x p) (e :: es) [] pos) Po := by
  obtain ⟨f, fd, ps, G, hm, kp, hb⟩ := F.ex
  refine fun F' G1 H1 σ S xx Q q => ⟨tCall (spD C.K R C.E.T) [] E0 (aAny C (e :: es)), fun j => ?_, ha.ev F' G1 H1 σ S xx _ fun ds vs G2 H2 hp eg2 eh2 S2 hv => ?_⟩
  · refine pe_call (fnAt G hk j) (C.cold j Cold.h) (hg j) (by rw [C.hmg]; exact hm) (by rw [C.hK]; exact kp) (by rw [C.hK]; exact hb) .nil pass0 (pa_any C (e :: es) j) hdb (ha.ns e List.mem_cons_self _ _) (ns_any (fun y hy => ha.ns y (List.mem_cons_of_mem _ hy)) _ _)
  · rw [List.append_nil]
    refine ⟨G2, ds, Po, S2.ex, (xx.step eg2 eh2).tb, hv, hR ds hp, fun d hd G3 H3 v eg3 e3 eh3 n3 hv3 => q d v G3 H3 hd (eg2.trans eg3) (eh2.trans eh3) (S2.grow eg3 eh3 e3 fun a ha => ?_) hv3⟩
    by_cases h2 : NT H2 a
    · exact Or.inl fun g => ha (n3 a h2 g)
    · exact Or.inr h2
theorem je_call [Cold C] (F : Fn C.P C.w C.K C.mg C.base k x (det r) C.E.T) {es : List Expr} (ha : JA C ls (e :: es) ds) (hR : r ds d) (hk : k ≤ C.k := by exact Nat.le_of_ble_eq_true rfl) (hg : ∀ j, Gl (C.X j) x := by intro _; rfl) (hdb : (x == ("__debug__" : Str)) = false := by decide) :
    JE C ls (.Call (.Name x p) (e :: es) [] pos) d := JX.je (jx_call F (.of ha) (fun _ z => by rw [z]; exact ⟨d, hR, rfl⟩) hk hg hdb)
theorem jx_call1 [Cold C] (F : Fn C.P C.w C.K C.mg C.base k x R C.E.T) {es : List Expr} (ha : JA C ls (e :: es) ds) (hR : R ds Po) (hk : k ≤ C.k := by exact Nat.le_of_ble_eq_true rfl) (hg : ∀ j, Gl (C.X j) x := by intro _; rfl) (hdb : (x == ("__debug__" : Str)) = false := by decide) :
    JX C ls (.Call (.Name x p) (e :: es) [] pos) Po := jx_call F (.of ha) (fun _ z => by rw [z]; exact hR) hk hg hdb
end
section
variable {C : Cs} {ls : List Loc} {rest : List Stmt} {P : Post} {e : Expr} {pos pos' : Pos} {Po : D → Prop}
theorem js_setX (i : Nat) {x : Str} (he : JX C ls e Po) (hn : ∀ d, Po d → P.nx (ls.set i (.val d))) (hi : C.N[i]? = some x := by rfl) (hx : ∀ j, L2.Loc (C.X j).env.scope x := by intro _; first | exact .inl rfl | exact .inr rfl)
    (hs : ∀ j, swapsWith e (some (.Name x pos')) pos.line (C.X j).env = pure false := by intro _; rfl) (hf : ∀ j, (C.X j).fn x = true ∨ (C.X j).env.scope.names.lookup x = some .local := by intro _; first | exact .inl rfl | exact .inr rfl) : JS C ls (.Assign [.Name x pos'] e pos) P :=
  js_of (fun j => ps_set (i := i) (by rw [C.hN]; exact C.nd) (by rw [C.hN]; exact hi) (hx j) (pe_any C e j) (hs j) (hf j)) fun F G H σ D' S f => he F G H σ S (f.xok S) _ fun d v G' H' hd eg eh S' hv => f.nx G' H' _ _ eg (S.kp eh) (S'.setV hv) (hn d hd)
theorem jb_setX (i : Nat) {x : Str} (he : JX C ls e Po) (k : ∀ d, Po d → JB C (ls.set i (.val d)) rest P) (hi : C.N[i]? = some x := by rfl) (hx : ∀ j, L2.Loc (C.X j).env.scope x := by intro _; first | exact .inl rfl | exact .inr rfl)
    (hs : ∀ j, swapsWith e (some (.Name x pos')) pos.line (C.X j).env = pure false := by intro _; rfl) (hf : ∀ j, (C.X j).fn x = true ∨ (C.X j).env.scope.names.lookup x = some .local := by intro _; first | exact .inl rfl | exact .inr rfl) : JB C ls (.Assign [.Name x pos'] e pos :: rest) P :=
  jb_cons (fun l => ∃ d, Po d ∧ l = ls.set i (.val d)) (js_setX i he (fun d hd => ⟨d, hd, rfl⟩) hi hx hs hf) fun _ ⟨d, hd, h⟩ => h ▸ k d hd
theorem jb_retX (he : JX C ls e Po) (h : ∀ d, Po d → P.rt d) : JB C ls (.Return (some e) pos :: rest) P :=
  jb_cons (fun _ => False) (js_of (fun j => ps_ret (pe_any C e j)) fun F G H σ D' S f => he F G H σ S (f.xok S) _ fun d v G' H' hd eg eh S' hv => f.rt G' H' v d eg (S.kp eh) (fun a fa => (S'.fo a fa).1) S'.ex hv (h d hd)) fun _ h => h.elim
end
/-- for x in a list of which Po holds -/
theorem js_forLX {C : Cs} [Cold C] {ls : List Loc} {P : Post} {e : Expr} {body : List Stmt} {pos : Pos} {x : Str} {p3 : Pos} {Po : List D → Prop} (j : Nat) (Pv : List D → Nat → List Loc → Prop) (he : JX C ls e fun d => ∃ ds, d = .lst ds ∧ Po ds) (h0 : ∀ ds, Po ds → Pv ds 0 ls) (hb : ∀ ds, Po ds → ∀ (i : Nat) d ls', ds[i]? = some d → Pv ds i ls' → JB C (ls'.set j (.val d)) body { nx := Pv ds (i + 1), rt := P.rt, bk := P.nx, ct := Pv ds (i + 1) })
    (hd : ∀ ds, Po ds → ∀ ls', Pv ds ds.length ls' → P.nx ls') (hi : C.N[j]? = some x := by rfl) (hx : ∀ i, L2.Loc (C.X i).env.scope x := by intro _; first | exact .inl rfl | exact .inr rfl)
    (hf : ∀ i, (C.X i).fn x = true ∨ (C.X i).env.scope.names.lookup x = some .local := by intro _; first | exact .inl rfl | exact .inr rfl) (hp : ∀ i, PassesOwn (model (C.X i).prog (C.X i).w) (C.X i).A (C.X i).env (C.X i).xe := by intro q; first | exact PassesOwn.never | exact passes_of rfl | exact q.owns) (hfs : ∀ i x, foldedSetIterable e (C.X i).env x = pure x := by intro _ _; rfl) : JS C ls (.For (.Name x p3) e body [] pos) P :=
  js_of (t := tFor (iList C.K (eAny C e)) (gName j) (bAny C body)) (fun i => ps_for (hp i) (C.calm i Cold.h) (kx (p := fun K => PI (C.X i) _ e (iList K (eAny C e))) i (pi_list (pe_any C e i))) (pg_name (i := j) (by rw [C.hN]; exact C.nd) (by rw [C.hN]; exact hi) (hx i) (hf i)) (pb_any C body i) (hfs i))
    (hs_forX Pv (fun ds => ds.length) (fun ds G Jt => Po ds ∧ ∃ a vs, Jt = Itl C.K a ∧ G a = some (.lst vs) ∧ DqAll C.K G vs ds)
      (fun F G H σ S xx R q => he F G H σ S xx _ fun d v G' H' hd eg eh S' hv => by
        obtain ⟨ds, rfl, hp⟩ := hd
        obtain ⟨a, vs, rfl, ha, hd⟩ := dq_lst hv
        exact ⟨a, rfl, ⟨vs, SqL.of (S'.ex _ _ ha)⟩, q ds _ G' H' eg eh S' ⟨hp, a, vs, rfl, ha, hd⟩⟩) (fun ds _ _ hJ => h0 ds hJ.1)
      (fun ds G Jt H hJ e => by
        obtain ⟨_, a, vs, rfl, ha, hd⟩ := hJ
        exact ⟨vs, SqL.of (e _ _ ha), by rw [hd.length]; exact Nat.le_refl _⟩)
      (fun ds G Jt H i hJ e hi => by
        obtain ⟨_, a, vs, rfl, ha, hd⟩ := hJ
        exact ⟨vs, vs[i]'(by rw [hd.length]; exact hi), SqL.of (e _ _ ha), List.getElem?_eq_getElem _⟩)
      (fun ds F G G0 H σ ls' i x Jt H1 hJ eg hi S p y D' f => by
        obtain ⟨hp, a, vs, rfl, ha, hd⟩ := hJ
        obtain ⟨rfl, y⟩ := y
        have hx := y vs (SqL.of ((eg.trans S.ex) _ _ ha))
        obtain ⟨d, e1, e2⟩ := hd.get' hx
        exact hb ds hp i d ls' e1 p F G H1 _ D' (S.setV (dq_mono eg e2)) f) fun ds _ _ ls' hJ => hd ds hJ.1 ls')
/-! ### a try that nothing leaves -/
theorem js_try {C : Cs} {ls : List Loc} {body : List Stmt} {h₀ : ExceptHandler} {hs : List ExceptHandler} {pos : Pos} {P : Post} (h : JB C ls body P) (hn : ∀ j e s, ¬ (C.X j).xe e s := by intro _ _ _ z; exact z) : JS C ls (.Try body (h₀ :: hs) [] [] pos) P :=
  js_of (fun j => ps_try_never (hn j) (pb_any C body j) pss_nil) fun F G H σ D' S f => h F G H σ D' S f
/-! ### comprehensions -/
def Cs.blk (C : Cs) [hc : Cold C] (scope : Scope) : Cs where
  ι := C.ι × Shared × Hp × Addr × List (Str × Addr) × List Addr
  X := fun q => (C.X q.1).blk q.2.1 q.2.2.1 scope (compEnvC scope q.2.2.2.2.1 q.2.2.2.1 (C.X q.1).env) q.2.2.2.2.2
  P := C.P
  w := C.w
  K := C.K
  mg := C.mg
  base := C.base
  N := C.N
  k := C.k
  hP := fun q => C.hP q.1
  hw := fun q => C.hw q.1
  hK := fun q => C.hK q.1
  hmg := fun q => C.hmg q.1
  hbase := fun q => C.hbase q.1
  hN := fun q => C.hN q.1
  nd := C.nd
  calm := fun q _ => C.calm q.1 hc.h
  cold := fun q _ => C.cold q.1 hc.h
  hotc := fun _ z => Bool.noConfusion z
  E := noX C.E.T
  takes := fun _ => takesN
instance {C : Cs} {scope : Scope} [Cold C] : Cold (C.blk scope) := ⟨rfl⟩
def Loc.keeps : Loc → Bool
  | .own _ => false
  | .own2 _ => false
  | _ => true
theorem refs_inj : ∀ {qs rs : List Addr}, qs.map V.ref = rs.map V.ref → qs = rs
  | [], [], _ => rfl
  | q :: qs, r :: rs, h => by
    rw [List.map_cons, List.map_cons] at h
    injection h with h1 h2
    injection h1 with h1
    rw [h1, refs_inj h2]
  | [], _ :: _, h => by cases h
  | _ :: _, [], h => by cases h
/-- behind a block: the slots as they were -/
theorem Sat.restore {K : Fg} {F : Addr → Prop} {G G2 H H2 : Hp} {σ : L2.St} {ls : List Loc} {j : Nat} {x : Option V} {l2 : Loc} (S : Sat K F G H σ ls) (S2 : Sat K F G2 H2 (σ.set j x) (ls.set j l2)) (eg : Ex G G2) (eh : Ex H H2) (hj : ∀ l, ls[j]? = some l → l.keeps = true) : Sat K F G2 H2 σ ls := by
  obtain ⟨ow, h1, h2, h3, h4⟩ := S.ow
  obtain ⟨ow2, k1, k2, k3, k4⟩ := S2.ow
  have key : ∀ i l p, ls[i]? = some l → p ∈ ow i → p ∈ ow2 i := by
    intro i l p hl hp
    have hi := h1 i l hl
    by_cases hij : i = j
    · subst hij
      have := hj l hl
      cases l with
      | any => rw [show ow i = [] from hi] at hp; cases hp
      | val d => rw [hi.1] at hp; cases hp
      | own ds => cases this
      | own2 dss => cases this
    · have hl2 : (ls.set j l2)[i]? = some l := by rw [List.getElem?_set_ne (fun z => hij z.symm)]; exact hl
      have h5 := k1 i l hl2
      rw [getD_set_ne hij] at h5
      cases l with
      | any => rw [show ow i = [] from hi] at hp; cases hp
      | val d => rw [hi.1] at hp; cases hp
      | own ds =>
        obtain ⟨p1, vs, e1, e2, e3, e4⟩ := hi
        obtain ⟨p2, vs2, f1, f2, f3, f4⟩ := h5
        rw [e2] at f2
        cases f2
        rw [f1]
        rw [e1] at hp
        exact hp
      | own2 dss =>
        obtain ⟨p1, qs, e1, e2, e3, e4⟩ := hi
        obtain ⟨p2, qs2, f1, f2, f3, f4⟩ := h5
        rw [e2] at f2
        cases f2
        have h6 := eh _ _ e3
        rw [f3] at h6
        have e7 : qs2 = qs := refs_inj (HO.lst.inj (Option.some.inj h6))
        rw [f1, e7]
        rw [e1] at hp
        exact hp
  have inr : ∀ i p, p ∈ ow i → (∃ l, ls[i]? = some l) ∨ ls[i]? = none := fun i p _ => by cases ls[i]? <;> simp
  refine ⟨S2.ex, S2.fo, S.len, fun i => if i < ls.length then ow i else [], fun i l hl => ?_, fun i p hp => ?_, fun i => ?_, fun i k p hi hk => ?_⟩
  · have hlt := (List.getElem?_eq_some_iff.mp hl).1
    simp only [if_pos hlt]
    exact locOk_mono eg (fun p hp => ex_eq eh (h2 i p hp).2.1) (h1 i l hl)
  · simp only at hp
    split at hp
    · next hlt =>
      have := k2 i p (key i _ p (List.getElem?_eq_getElem hlt) hp)
      exact this
    · cases hp
  · simp only
    split
    · exact h3 i
    · exact List.nodup_nil
  · simp only at hi hk
    split at hi
    · split at hk
      · exact h4 i k p hi hk
      · cases hk
    · cases hi
def outs (n : Nat) (b : Nat → Bool) (f : Nat → D) : List D := ((List.range n).filter b).map f
theorem outs_yes {n : Nat} {b : Nat → Bool} {f : Nat → D} (h : b n = true) : outs (n + 1) b f = outs n b f ++ [f n] := by
  unfold outs
  rw [List.range_succ, List.filter_append, List.map_append, List.filter_cons, if_pos h] <;> rfl
theorem outs_no {n : Nat} {b : Nat → Bool} {f : Nat → D} (h : b n = false) : outs (n + 1) b f = outs n b f := by
  unfold outs
  rw [List.range_succ, List.filter_append, List.map_append, List.filter_cons, if_neg (by rw [h]; decide)]
  show _ ++ [] = _
  rw [List.append_nil]
theorem outs_len (n : Nat) (b : Nat → Bool) (f : Nat → D) : (outs n b f).length ≤ n := by
  unfold outs
  rw [List.length_map]
  have h := List.length_filter_le b (List.range n)
  rw [List.length_range] at h
  exact h
theorem outs_all (n : Nat) (f : Nat → D) : outs n (fun _ => true) f = (List.range n).map f := by
  unfold outs
  rw [List.filter_eq_self.mpr fun _ _ => rfl]
theorem outs_list {α : Type} (xs : List α) (z : α) (g : α → D) : outs xs.length (fun _ => true) (fun i => g (xs.getD i z)) = xs.map g := by
  rw [outs_all]
  apply List.ext_getElem?
  intro i
  by_cases hi : i < xs.length
  · rw [List.getElem?_map, List.getElem?_range hi, List.getElem?_map, List.getElem?_eq_getElem hi]
    show some (g (xs.getD i z)) = some (g xs[i])
    rw [List.getD_eq_getElem?_getD, List.getElem?_eq_getElem hi]; rfl
  · rw [List.getElem?_map, List.getElem?_map, List.getElem?_eq_none (by rw [List.length_range]; omega), List.getElem?_eq_none (by omega)]; rfl
section
variable {K : Fg} {E : Xw} {ls : List Loc}
theorem evN_lc {wi : TI} {tt : TT} {te : TE} (j n : Nat) (xs : Nat → D) (b : Nat → Bool) (f : Nat → D) (J : Hp → It → Prop) (hn : n < 1000000) (hj : ∀ l, ls[j]? = some l → l.keeps = true)
    (hw : ∀ F G H σ, Sat K F G H σ ls → Xok K E F G H σ ls → ∀ R : It → Hp → Prop, (∀ Jt G' H', Ex G G' → Ex H H' → Sat K F G' H' σ ls → J G' Jt → R Jt H') → wi σ H R)
    (hstop : ∀ G Jt H, J G Jt → Ex G H → Jt.stop n H) (hgo : ∀ G Jt H i, J G Jt → Ex G H → i < n → Jt.go i H) (hy : ∀ G Jt H i x H1, J G Jt → Ex G H → i < n → Jt.yld i H x H1 → H1 = H ∧ Dq K G x (xs i))
    (ht : ∀ i, i < n → EvT K (noX E.T) tt (ls.set j (.val (xs i))) (b i)) (he : ∀ i, i < n → b i = true → Ev K (noX E.T) te (ls.set j (.val (xs i))) (f i)) : EvN K E (tLc wi (gName j) tt te [j]) ls (outs n b f) := fun F G H σ S xx Q q => hw F G H σ S xx _ fun Jt G1 H1 eg1 eh1 S1 hJ Dl hD => by
  refine ⟨fun i m H' => m = n - i ∧ i ≤ n ∧ ∃ G' vs, Ex G1 G' ∧ Ex H1 H' ∧ Sat K (fun a => F a ∨ a = Dl) G' H' σ ls ∧ H' Dl = some (.lst vs) ∧ DqAll K G' vs (outs i b f), ⟨n, by simp, Nat.zero_le _, G1, [], Ex.refl _, Ex.new hD, S1.madeF hD, upd_same, .nil⟩, ?_⟩
  have nf : ¬ F Dl := fun z => (S1.fo Dl z).2.ne hD
  rintro i m H' ⟨rfl, hi, G', vs, eg', eh', S', hp, hv⟩
  by_cases hlt : i < n
  · refine .inr ⟨hgo G1 Jt H' i hJ (eg'.trans S'.ex) hlt, fun H2 => ∃ G2 vs2, Ex G1 G2 ∧ Ex H1 H2 ∧ Sat K (fun a => F a ∨ a = Dl) G2 H2 σ ls ∧ H2 Dl = some (.lst vs2) ∧ DqAll K G2 vs2 (outs (i + 1) b f), fun H2 h => ⟨n - (i + 1), by omega, rfl, hlt, h⟩, fun x H2 y => ?_⟩
    obtain ⟨rfl, hx⟩ := hy G1 Jt H' i x H2 hJ (eg'.trans S'.ex) hlt y
    have e0 : (wipe σ [j]).set j (some x) = σ.set j (some x) := by
      show (σ.set j none).set j (some x) = _
      rw [List.set_set]
    have e1 : wipe (σ.set j (some x)) [j] = wipe σ [j] := by
      show (σ.set j (some x)).set j none = σ.set j none
      rw [List.set_set]
    show wipe ((wipe σ [j]).set j (some x)) [j] = wipe σ [j] ∧ _
    rw [e0]
    refine ⟨e1, ?_⟩
    have Sx : Sat K (fun a => F a ∨ a = Dl) G' H2 (σ.set j (some x)) (ls.set j (.val (xs i))) := S'.setV (dq_mono eg' hx)
    refine ht i hlt _ G' H2 _ Sx (xok_no fun P h => ((xx.tb P h).mono eg1).mono eg') _ fun G3 H3 eg3 eh3 S3 => ?_
    cases hb : b i with
    | true =>
      rw [if_pos rfl]
      refine he i hlt hb _ G3 H3 _ S3 (xok_no fun P h => (((xx.tb P h).mono eg1).mono eg').mono eg3) _ fun y G4 H4 eg4 eh4 S4 hy4 => ?_
      have S5 := S'.restore S4 (eg3.trans eg4) (eh3.trans eh4) hj
      have hp5 := eh4 _ _ (eh3 _ _ hp)
      refine ⟨vs, hp5, ?_, G4, vs ++ [y], eg'.trans (eg3.trans eg4), ?_, ?_, upd_same, ?_⟩
      · rw [hv.length]
        exact Nat.lt_of_le_of_lt (Nat.le_trans (outs_len i b f) hi) (Nat.lt_of_lt_of_le hn (by decide))
      · exact (eh'.trans (eh3.trans eh4)).mut hD
      · obtain ⟨ow, h1, h2, h3, h4⟩ := S5.ow
        refine ⟨S5.ex.mut (S5.fo Dl (Or.inr rfl)).1, fun a fa => ⟨(S5.fo a fa).1, ?_⟩, S5.len, ow, fun i l hl => locOk_mono (Ex.refl _) (fun p hp => upd_ne fun z => (h2 i p hp).2.2 (Or.inr z)) (h1 i l hl), fun i p hp => ⟨(h2 i p hp).1, ?_, (h2 i p hp).2.2⟩, h3, h4⟩
        · by_cases hz : a = Dl
          · rw [hz]; exact nt_lst upd_same
          · exact nt_eq (S5.fo a fa).2 (upd_ne hz)
        · exact nt_eq (h2 i p hp).2.1 (upd_ne fun z => (h2 i p hp).2.2 (Or.inr z))
      · rw [outs_yes hb]
        exact (dqAll_mono (eg3.trans eg4) hv).append (.cons hy4 .nil)
    | false =>
      rw [if_neg Bool.false_ne_true]
      refine ⟨G3, vs, eg'.trans eg3, eh'.trans eh3, S'.restore S3 eg3 eh3 hj, eh3 _ _ hp, ?_⟩
      rw [outs_no hb]
      exact dqAll_mono eg3 hv
  · have e : i = n := by omega
    subst e
    exact .inl ⟨hstop G1 Jt H' hJ (eg'.trans S'.ex), q Dl vs G' H' (eg1.trans eg') (eh1.trans eh') nf S' hp hv⟩
end
section
variable {C : Cs} {ls : List Loc} {e elt a : Expr} {d : D} {ds : List D} {pos p1 p2 p3 : Pos} {x : Str} {scope : Scope} {ifs : List Expr}
/-- what a comprehension's block wants -/
structure BOk (C : Cs) [Cold C] (scope : Scope) (x : Str) (j : Nat) (p : Pos) : Prop where
  b : ∀ i, BlkOk C.N (C.X i).env.scope scope [(x, j)]
  g : ∀ i, PG ((C.blk scope).X i) (.Name x p) (gName j)
theorem bok [Cold C] {j : Nat} (h : ∀ i, blkC C.N (C.X i).env.scope scope [(x, j)] = true := by intro _; kernel_rfl) (hi : C.N[j]? = some x := by rfl)
    (hl : ∀ i, L2.Loc ((C.blk scope).X i).env.scope x := by intro _; first | exact .inl rfl | exact .inr rfl) (hf : ∀ i, ((C.blk scope).X i).fn x = true ∨ ((C.blk scope).X i).env.scope.names.lookup x = some .local := by intro _; first | exact .inr rfl | exact .inl rfl) : BOk C scope x j p1 :=
  ⟨fun i => blkOk_by (h i), fun i => pg_name (by rw [(C.blk scope).hN]; exact C.nd) (by rw [(C.blk scope).hN]; exact hi) (hl i) (hf i)⟩
def ifAny (C : Cs) (ifs : List Expr) : TT := fun σ H Q => ∃ t : TT, (∀ i, PTs (C.X i) ifs t) ∧ t σ H Q
theorem pif_any (C : Cs) (ifs : List Expr) (i : C.ι) : PTs (C.X i) ifs (ifAny C ifs) := ⟨fun pins s σ H Q I h => by
  obtain ⟨t, ht, q⟩ := h
  exact (ht i).run pins s σ H Q I q⟩
def JI (C : Cs) (ls : List Loc) (ifs : List Expr) (b : Bool) : Prop := EvT C.K C.E (ifAny C ifs) ls b
theorem ji_nil : JI C ls [] true := fun F G H σ S xx Q q => ⟨tYes, fun _ => pts_nil, q G H (Ex.refl G) (Ex.refl H) S⟩
theorem ji_one {k : Bool} (h : JT C ls e k) : JI C ls [e] k := fun F G H σ S xx Q q => ⟨tAny C e, fun j => pts_one (pt_any C e j), h F G H σ S xx Q q⟩
theorem pe_lcA [Cold C] {tg iter : Expr} {wi : TI} {j : Nat} (B : BOk C scope x j p1) (hi : ∀ i, PI (C.X i) (.Name x p1) iter wi) (hs : ∀ i y, foldedSetIterable iter (C.X i).env y = pure y) (i : C.ι) :
    PE (C.X i) (.ListComp elt [⟨.Name x p1, iter, ifs, 0⟩] scope pos) (tLc wi (gName j) (ifAny (C.blk scope) ifs) (eAny (C.blk scope) elt) [j]) :=
  pe_lc (own := [(x, j)]) (C.calm i Cold.h) (by rw [C.hN]; exact C.nd) (hi i) (by rw [C.hN]; exact B.b i) (fun s H Cc cl fp => B.g (i, s, H, Cc, cl, fp)) (fun s H Cc cl fp => pif_any (C.blk scope) ifs (i, s, H, Cc, cl, fp)) (fun s H Cc cl fp => pe_any (C.blk scope) elt (i, s, H, Cc, cl, fp)) (hs i)
/-- [elt for x in range(e) if ..] -/
theorem jn_lcR [Cold C] {n : Int} (j : Nat) (b : Nat → Bool) (f : Nat → D) (he : JE C ls e (.int n)) (hn : n < 1000000) (ht : ∀ i : Nat, i < n.toNat → JI (C.blk scope) (ls.set j (.val (.int i))) ifs (b i)) (hb : ∀ i : Nat, i < n.toNat → b i = true → JE (C.blk scope) (ls.set j (.val (.int i))) elt (f i)) (B : BOk C scope x j p1)
    (hj : ∀ l, ls[j]? = some l → l.keeps = true := by intro _ h; cases h; rfl) (hm : NoG C "range" := by assumption) (hg : ∀ j, Gl (C.X j) "range" := by intro _; rfl) (hs : NS e := by intro _ _; rfl) (hfs : ∀ i x, foldedSetIterable (.Call (.Name "range" p2) [e] [] p3) (C.X i).env x = pure x := by intro _ _; rfl) (h62 : -(2 ^ 62) ≤ n := by omega) :
    JN C ls (.ListComp elt [⟨.Name x p1, .Call (.Name "range" p2) [e] [] p3, ifs, 0⟩] scope pos) (outs n.toNat b f) :=
  jn_of (pe_lcA (tg := e) B (fun i => range' i (hg i) hm hs) hfs) (evN_lc j n.toNat (fun i => .int i) b f (fun _ Jt => Jt = Itr 0 n.toNat) (by omega) hj
    (fun F G H σ S xx R q => he F G H σ S xx _ fun v G' H' eg eh S' hv => ⟨n, by rw [dq_int hv], h62, by omega, q _ G' H' eg eh S' rfl⟩)
    (fun G Jt H hJ e => by subst hJ; exact Nat.le_refl _) (fun G Jt H i hJ e hi => by subst hJ; exact hi)
    (fun G Jt H i x H1 hJ e hi y => by
      subst hJ
      obtain ⟨rfl, rfl⟩ := y
      have e0 : (0 : Int) + (i : Int) = (i : Int) := Int.zero_add _
      exact ⟨rfl, by rw [e0]; exact .int _⟩) ht hb)
/-- over a frozen list; over a tuple -/
theorem jn_lcL [Cold C] {α : Type} {xs : List α} (g : α → D) (z : α) (j : Nat) (b : Nat → Bool) (f : Nat → D) (he : JE C ls e (.lst (xs.map g))) (hn : xs.length < 1000000) (ht : ∀ i, i < xs.length → JI (C.blk scope) (ls.set j (.val (g (xs.getD i z)))) ifs (b i)) (hb : ∀ i, i < xs.length → b i = true → JE (C.blk scope) (ls.set j (.val (g (xs.getD i z)))) elt (f i)) (B : BOk C scope x j p1)
    (hj : ∀ l, ls[j]? = some l → l.keeps = true := by intro _ h; cases h; rfl) (hfs : ∀ i x, foldedSetIterable e (C.X i).env x = pure x := by intro _ _; rfl) :
    JN C ls (.ListComp elt [⟨.Name x p1, e, ifs, 0⟩] scope pos) (outs xs.length b f) :=
  jn_of (pe_lcA (tg := e) (wi := iList C.K (eAny C e)) B (fun i => kx (p := fun K => PI (C.X i) _ e (iList K (eAny C e))) i (pi_list (pe_any C e i))) hfs) (evN_lc j xs.length (fun i => g (xs.getD i z)) b f (fun G Jt => ∃ a vs, Jt = Itl C.K a ∧ G a = some (.lst vs) ∧ DqAll C.K G vs (xs.map g)) hn hj
    (fun F G H σ S xx R q => he F G H σ S xx _ fun v G' H' eg eh S' hv => by
      obtain ⟨a, vs, rfl, ha, hd⟩ := dq_lst hv
      exact ⟨a, rfl, ⟨vs, SqL.of (S'.ex _ _ ha)⟩, q _ G' H' eg eh S' ⟨a, vs, rfl, ha, hd⟩⟩)
    (fun G Jt H hJ e => by
      obtain ⟨a, vs, rfl, ha, hd⟩ := hJ
      exact ⟨vs, SqL.of (e _ _ ha), by rw [hd.length, List.length_map]; exact Nat.le_refl _⟩)
    (fun G Jt H i hJ e hi => by
      obtain ⟨a, vs, rfl, ha, hd⟩ := hJ
      exact ⟨vs, vs[i]'(by rw [hd.length, List.length_map]; exact hi), SqL.of (e _ _ ha), List.getElem?_eq_getElem _⟩)
    (fun G Jt H i x H1 hJ e hi y => by
      obtain ⟨a, vs, rfl, ha, hd⟩ := hJ
      obtain ⟨rfl, y⟩ := y
      have hx := y vs (SqL.of (e _ _ ha))
      obtain ⟨d, e1, e2⟩ := hd.get' hx
      refine ⟨rfl, ?_⟩
      rw [List.getElem?_map, List.getElem?_eq_getElem hi] at e1
      cases e1
      rw [List.getD_eq_getElem?_getD, List.getElem?_eq_getElem hi]
      exact e2) ht hb)
theorem jn_lcT [Cold C] {α : Type} {xs : List α} (g : α → D) (z : α) (j : Nat) (b : Nat → Bool) (f : Nat → D) (he : JE C ls e (.tup (xs.map g))) (hn : xs.length < 1000000) (ht : ∀ i, i < xs.length → JI (C.blk scope) (ls.set j (.val (g (xs.getD i z)))) ifs (b i)) (hb : ∀ i, i < xs.length → b i = true → JE (C.blk scope) (ls.set j (.val (g (xs.getD i z)))) elt (f i)) (B : BOk C scope x j p1)
    (hj : ∀ l, ls[j]? = some l → l.keeps = true := by intro _ h; cases h; rfl) (hfs : ∀ i x, foldedSetIterable e (C.X i).env x = pure x := by intro _ _; rfl) :
    JN C ls (.ListComp elt [⟨.Name x p1, e, ifs, 0⟩] scope pos) (outs xs.length b f) :=
  jn_of (pe_lcA (tg := e) (wi := iTup C.K (eAny C e)) B (fun i => kx (p := fun K => PI (C.X i) _ e (iTup K (eAny C e))) i (pi_tup (pe_any C e i))) hfs) (evN_lc j xs.length (fun i => g (xs.getD i z)) b f (fun G Jt => ∃ a vs, Jt = Itt C.K a ∧ SqT C.K G a vs ∧ DqAll C.K G vs (xs.map g)) hn hj
    (fun F G H σ S xx R q => he F G H σ S xx _ fun v G' H' eg eh S' hv => by
      obtain ⟨a, vs, rfl, ha, hd⟩ := dq_tup hv
      exact ⟨a, rfl, ⟨vs, ex_t S'.ex ha⟩, q _ G' H' eg eh S' ⟨a, vs, rfl, ha, hd⟩⟩)
    (fun G Jt H hJ e => by
      obtain ⟨a, vs, rfl, ha, hd⟩ := hJ
      exact ⟨vs, ex_t e ha, by rw [hd.length, List.length_map]; exact Nat.le_refl _⟩)
    (fun G Jt H i hJ e hi => by
      obtain ⟨a, vs, rfl, ha, hd⟩ := hJ
      exact ⟨vs, vs[i]'(by rw [hd.length, List.length_map]; exact hi), ex_t e ha, List.getElem?_eq_getElem _⟩)
    (fun G Jt H i x H1 hJ e hi y => by
      obtain ⟨a, vs, rfl, ha, hd⟩ := hJ
      obtain ⟨rfl, y⟩ := y
      have hx := y vs (ex_t e ha)
      obtain ⟨d, e1, e2⟩ := hd.get' hx
      refine ⟨rfl, ?_⟩
      rw [List.getElem?_map, List.getElem?_eq_getElem hi] at e1
      cases e1
      rw [List.getD_eq_getElem?_getD, List.getElem?_eq_getElem hi]
      exact e2) ht hb)
end
end Qp

/-! Q6: calls with keywords, the law's end. -/
namespace Qp
open PySem PySem.Spec PyProof.Rows L2
/-- the parameters' values: perm says, for each parameter, which of the handed-in values (the positional ones first) it gets -/
def gPerm (n m : Nat) (perm : List Nat) {α : Type} (us ws : List α) : List α := if us.length = n ∧ ws.length = m then perm.filterMap (fun i => (us ++ ws)[i]?) else []
theorem vals_perm {vs : List V} {us : List Value} (r : Vals vs us) : ∀ perm : List Nat, Vals (perm.filterMap fun i => vs[i]?) (perm.filterMap fun i => us[i]?)
  | [] => .nil
  | i :: p => by
    rw [List.filterMap_cons, List.filterMap_cons]
    cases h : vs[i]? with
    | none => rw [Vals.none_of r h]; exact vals_perm r p
    | some x =>
      obtain ⟨u, e, q⟩ := Vals.get r h
      rw [e]
      exact .cons q (vals_perm r p)
theorem kb_of {K : Fg} {fd : FuncData} {ps ks : List Str} {n : Nat} {perm : List Nat} (hp : ps ≠ []) (h : ∀ us ws : List Value, us.length = n → ws.length = ks.length → bindArgs fd ⟨us, ks.zip ws⟩ = pure (ps.zip (perm.filterMap fun i => (us ++ ws)[i]?))) : KBinds K fd ps ks (gPerm n ks.length perm) (gPerm n ks.length perm) where
  to := fun s us ws _ hl => by
    unfold gPerm at hl ⊢
    by_cases c : us.length = n ∧ ws.length = ks.length
    · rw [if_pos c]
      exact .of_eq (h us ws c.1 c.2)
    · rw [if_neg c] at hl
      exact absurd (List.eq_nil_of_length_eq_zero hl.symm) hp
  rel := fun {vs us zs ws} r q => by
    unfold gPerm
    rw [r.length, q.length]
    by_cases c : us.length = n ∧ ws.length = ks.length
    · rw [if_pos c, if_pos c]
      exact vals_perm (r.append q) perm
    · rw [if_neg c, if_neg c]
      exact .nil
/-- a def called with keywords ks behind n positional values -/
structure Fk (P : Program) (w : World) (K : Fg) (mg : Str → Option Value) (base : Heap) (k : Nat) (x : Str) (n : Nat) (ks : List Str) (perm : List Nat) (R : Rel) (T : Addr → Prop := fun _ => False) : Prop where
  ex : ∃ f fd ps, FnOk P w K mg base CX0 k f fd ps (spD K R T) ∧ mg x = some (.ref f) ∧ PySem.W.keepIn K (.ref f) = true ∧ KBinds K fd ps ks (gPerm n ks.length perm) (gPerm n ks.length perm)
section
variable {X : Cx} {CX : CXT} {k : Nat} {f : Addr} {fd : FuncData} {ps ks : List Str} {sp : Sp} {E : XK} {x : Str} {p pos : Pos} {kws : List Keyword} {tk : TA} {g : List Value → List Value → List Value} {gV : List V → List V → List V}
theorem pe_callK0 (F : FnOk X.prog X.w X.K X.mg X.base CX k f fd ps sp) (hr : Room k X.A) (hg : Gl X x) (hm : X.mg x = some (.ref f)) (hk : PySem.W.keepIn X.K (.ref f) = true) (hb : KBinds X.K fd ps ks g gV) (hx : Passes CX X E)
    (hkw : PK X kws tk) (hall : (backToKw pos (keywordEach kws X.env)).all (·.1.isSome) = true) (hks : (backToKw pos (keywordEach kws X.env)).filterMap (·.1) = ks)
    (hpl : (backToKw pos (keywordEach kws X.env)).any (·.1.isNone) = false) (hdb : (x == ("__debug__" : Str)) = false := by decide) :
    PE X (.Call (.Name x p) [] kws pos) (tCallK sp gV E tNil tk) := by
  refine ⟨fun pins s σ H Q I h => ?_⟩
  refine wpAny_Call_Name_kw (ld_glob I hg hm ?_ hdb)
  refine PySem.W.callWith_KW0 (h₀ := X.base) I.ok.mod.kin hk hall ?_ (by show (false || _) = false; rw [hpl]; rfl)
  refine thn (hkw.run pos pins s σ H _ I h) fun ws s2 ⟨zs, H2, I2, rz, q2⟩ => ⟨I2.kIn, ?_⟩
  rw [hks]
  exact run_fnk (us := []) F hr hb hx I2 .nil rz q2
end
/-- keywords' values -/
def kAny (C : Cs) (kws : List Keyword) : TA := fun σ H Q => ∃ t : TA, (∀ i, PK (C.X i) kws t) ∧ t σ H Q
theorem pk_any (C : Cs) (kws : List Keyword) (i : C.ι) : PK (C.X i) kws (kAny C kws) := ⟨fun pos pins s σ H Q I h => by
  obtain ⟨t, ht, q⟩ := h
  exact (ht i).run pos pins s σ H Q I q⟩
def JK (C : Cs) (ls : List Loc) (kws : List Keyword) (ds : List D) : Prop := EvA C.K C.E (kAny C kws) ls ds
theorem kw_some : ∀ (kws : List Keyword) (env : Env) (pos : Pos), (∀ q ∈ kws, q.1.isSome = true) → (backToKw pos (keywordEach kws env)).all (·.1.isSome) = true ∧ (backToKw pos (keywordEach kws env)).any (·.1.isNone) = false ∧ (backToKw pos (keywordEach kws env)).filterMap (·.1) = kws.filterMap (·.1)
  | [], _, _, _ => ⟨rfl, rfl, rfl⟩
  | ⟨nm, v, kp⟩ :: r, env, pos, h => by
    obtain ⟨h1, h2, h3⟩ := kw_some r env pos fun q hq => h q (List.mem_cons_of_mem _ hq)
    have h0 : nm.isSome = true := h ⟨nm, v, kp⟩ List.mem_cons_self
    cases nm with
    | none => cases h0
    | some n =>
      refine ⟨?_, ?_, ?_⟩
      · show (true && (backToKw pos (keywordEach r env)).all (·.1.isSome)) = true
        rw [h1]; rfl
      · show (false || (backToKw pos (keywordEach r env)).any (·.1.isNone)) = false
        rw [h2]; rfl
      · show n :: (backToKw pos (keywordEach r env)).filterMap (·.1) = n :: r.filterMap (·.1)
        rw [h3]
section
variable {C : Cs} {ls : List Loc} {e : Expr} {d : D} {ds zs : List D} {p pos kpos : Pos} {x : Str} {k n : Nat} {ks : List Str} {perm : List Nat} {R : Rel} {r : List D → D → Prop} {Po : D → Prop} {kws : List Keyword} {nm : Option Str}
theorem jk_nil : JK C ls [] [] := fun F G H σ S xx Q q => ⟨tNil, fun _ => pk_nil, q [] G H (Ex.refl G) (Ex.refl H) S .nil⟩
theorem jk_cons (h : JE C ls e d) (r : JK C ls kws ds) : JK C ls (⟨nm, e, kpos⟩ :: kws) (d :: ds) := fun F G H σ S xx Q q => ⟨tCons (eAny C e) (kAny C kws), fun j => pk_cons (pe_any C e j) (pk_any C kws j), evA_cons (K := C.K) h r F G H σ S xx Q q⟩
theorem filt_map {α β : Type} (f : α → β) (l : List α) : ∀ perm : List Nat, (perm.filterMap fun i => (l.map f)[i]?) = (perm.filterMap fun i => l[i]?).map f
  | [] => rfl
  | i :: p => by
    rw [List.filterMap_cons, List.filterMap_cons, List.getElem?_map]
    cases l[i]? with
    | none => exact filt_map f l p
    | some x => show _ :: _ = _ :: _; rw [filt_map f l p]
theorem dqAll_perm {K : Fg} {G : Hp} {vs : List V} {ds : List D} (r : DqAll K G vs ds) : ∀ perm : List Nat, DqAll K G (perm.filterMap fun i => vs[i]?) (perm.filterMap fun i => ds[i]?)
  | [] => .nil
  | i :: p => by
    rw [List.filterMap_cons, List.filterMap_cons]
    cases h : ds[i]? with
    | none =>
      have h2 : vs[i]? = none := by
        rw [List.getElem?_eq_none_iff] at h ⊢
        rw [r.length]; exact h
      rw [h2]
      exact dqAll_perm r p
    | some x =>
      obtain ⟨u, e, q⟩ := r.get h
      rw [e]
      exact .cons q (dqAll_perm r p)
theorem jx_callK0 [Cold C] (F : Fk C.P C.w C.K C.mg C.base k x 0 ks perm R C.E.T) (ha : JK C ls kws ds) (hl : ds.length = ks.length) (hR : R (perm.filterMap fun i => ds[i]?) Po) (hns : ∀ q ∈ kws, q.1.isSome = true) (hks : kws.filterMap (·.1) = ks) (hk : k ≤ C.k := by exact Nat.le_of_ble_eq_true rfl) (hg : ∀ j, Gl (C.X j) x := by intro _; rfl) (hdb : (x == ("__debug__" : Str)) = false := by decide) :
    JX C ls (.Call (.Name x p) [] kws pos) Po := by
  obtain ⟨f, fd, ps, G, hm, kp, hb⟩ := F.ex
  refine fun F' G1 H1 σ S xx Q q => ⟨tCallK (spD C.K R C.E.T) (gPerm 0 ks.length perm) E0 tNil (kAny C kws), fun j => ?_, ha F' G1 H1 σ S xx _ fun vs G2 H2 eg2 eh2 S2 hv => ?_⟩
  · obtain ⟨h1, h2, h3⟩ := kw_some kws (C.X j).env pos hns
    exact pe_callK0 (fnAt G hk j) (C.cold j Cold.h) (hg j) (by rw [C.hmg]; exact hm) (by rw [C.hK]; exact kp) (by rw [C.hK]; exact hb) pass0 (pk_any C kws j) h1 (h3.trans hks) h2 hdb
  · have e1 : gPerm 0 ks.length perm [] vs = perm.filterMap fun i => vs[i]? := by
      unfold gPerm
      rw [if_pos ⟨rfl, by rw [hv.length]; exact hl⟩]
      rfl
    rw [e1]
    refine ⟨G2, _, Po, S2.ex, (xx.step eg2 eh2).tb, dqAll_perm hv perm, hR, fun d hd G3 H3 v eg3 e3 eh3 n3 hv3 => q d v G3 H3 hd (eg2.trans eg3) (eh2.trans eh3) (S2.grow eg3 eh3 e3 fun a ha => ?_) hv3⟩
    by_cases h2 : NT H2 a
    · exact Or.inl fun g => ha (n3 a h2 g)
    · exact Or.inr h2
theorem je_callK0 [Cold C] (F : Fk C.P C.w C.K C.mg C.base k x 0 ks perm (det r) C.E.T) (ha : JK C ls kws ds) (hl : ds.length = ks.length) (hR : r (perm.filterMap fun i => ds[i]?) d) (hns : ∀ q ∈ kws, q.1.isSome = true := by decide) (hks : kws.filterMap (·.1) = ks := by rfl) (hk : k ≤ C.k := by exact Nat.le_of_ble_eq_true rfl) (hg : ∀ j, Gl (C.X j) x := by intro _; rfl) (hdb : (x == ("__debug__" : Str)) = false := by decide) :
    JE C ls (.Call (.Name x p) [] kws pos) d := JX.je (jx_callK0 F ha hl ⟨d, hR, rfl⟩ hns hks hk hg hdb)
end
/-! ### the law's end -/
def rLaw : Rel := fun ds Po => ∃ ns : List Int, ns.length ≤ 63 ∧ ds = [.scr ns] ∧ Po = fun d => d = .bl true
theorem law_end {l : PySem.W.OpenLaw} {k : Nat} {q : Program} {loose : List Str} {XP : (Str → Option Value) → Heap → Prop} {YP : World → Heap → Prop} {d : DefRec} {K : Params → PySem.W.Frag} {x : Str}
    (hn : l.most = some 63) (hdf : d.params.defaults = []) (hr : Room k callerA) (hY : ∀ (w : World) (h : Heap), YP w h → (K w.params).In h)
    (F : ∀ (w : World) (mg : Str → Option Value) (fa : Addr) (h : Heap), (K w.params).In h → h.Ns mainGlobals mg → mg d.name = some (.ref fa) →
      ∃ fd : FuncData, (∀ (s : Shared) (u : Value), BindsTo s fd ⟨[u], []⟩ [(x, u)]) ∧
        ∀ base : Heap, (K w.params).In base → base.Ns mainGlobals mg → FnOk l.prog w (K w.params) mg base CX0 k fa fd [x] (spD (K w.params) rLaw)) :
    PySem.W.WalkO q loose XP YP l.row.toRowW d [] (fun f vs => PySem.call f vs) :=
  L2.walk_of (n := 63) (CX := fun _ => CX0) (sp := fun w => spD (K w.params) rLaw) hn (by decide) hdf hr hY F
    (fun w H a ns hl _ hS => ⟨H, [.scr ns], _, Ex.refl H, fun _ z => z.elim, .cons (.scr hS) .nil, ⟨ns, hl, rfl, rfl⟩, fun d hd G' H' v _ _ _ _ hv => by subst hd; exact dq_bl hv⟩) fun _ _ _ _ _ z => z
/-- a def of the text, and how it is called, from what the head's facts say -/
theorem fn_mk {P : Program} {w : World} {K : Fg} {mg : Str → Option Value} {base : Heap} {k : Nat} {x qual : Str} {st : Stmt} {f : Addr} {fd : FuncData} {ps : List Str} {R : Rel} {T : Addr → Prop} (F : Fun K x qual st f fd) (G : FnOk P w K mg base CX0 k f fd ps (spD K R T)) (hm : mg x = some (.ref f)) (hb : Binds K fd ps []) : Fn P w K mg base k x R T := ⟨f, fd, ps, G, hm, F.kp, hb⟩
theorem fk_mk {P : Program} {w : World} {K : Fg} {mg : Str → Option Value} {base : Heap} {k : Nat} {x qual : Str} {st : Stmt} {f : Addr} {fd : FuncData} {ps ks : List Str} {n : Nat} {perm : List Nat} {R : Rel} {T : Addr → Prop} (F : Fun K x qual st f fd) (G : FnOk P w K mg base CX0 k f fd ps (spD K R T)) (hm : mg x = some (.ref f)) (hp : ps ≠ [])
    (h : ∀ (kV doc pm : Value) (an : Option Addr) (cdv ct : Value) (us ws : List Value), us.length = n → ws.length = ks.length → bindArgs (PySem.W.fnOf x qual (defArgs st) (defBody st) (defScope st) .none kV doc pm an cdv ct) ⟨us, ks.zip ws⟩ = pure (ps.zip (perm.filterMap fun i => (us ++ ws)[i]?))) : Fk P w K mg base k x n ks perm R T := by
  obtain ⟨oc, od, kV, doc, pm, an, cdv, ct, osl, rfl, lk, hcd⟩ := F.ex
  exact ⟨f, _, ps, G, hm, F.kp, kb_of hp (h kV doc pm an cdv ct)⟩
/-- a def as it stands behind the top -/
structure FT (K : Fg) (mg : Str → Option Value) (x : Str) (st : Stmt) : Prop where
  ex : ∃ f fd, Fun K x x st f fd ∧ mg x = some (.ref f)
theorem ft_mk {K : Fg} {h : Heap} {mg : Str → Option Value} {x : Str} {st : Stmt} {f : Addr} (X : K.In h) (G : h.Ns mainGlobals mg) {od an : Option Addr} {sl : Array (Option Value)} {oc kV dc pm cd ct : Value}
    (a : PySem.W.nsIn K mainGlobals x = some (some (.ref f))) (l : K.lookup f = some ⟨oc, od, .func (PySem.W.fnOf x x (defArgs st) (defBody st) (defScope st) .none kV dc pm an cd ct), sl⟩) (c : PySem.W.codeIn K cd x = true) (k : PySem.W.keepIn K (.ref f) = true) : FT K mg x st :=
  ⟨f, _, fun_mk (st := st) l c k, PySem.W.mg_of X G a⟩
section
variable {P : Program} {w : World} {K : Fg} {mg : Str → Option Value} {base : Heap} {k : Nat} {x : Str} {st : Stmt} {ps ks : List Str} {R : Rel} {T : Addr → Prop} {n : Nat} {perm : List Nat}
theorem FT.fn (Y : FT K mg x st) (G : ∀ {f fd}, Fun K x x st f fd → FnOk P w K mg base CX0 k f fd ps (spD K R T)) (h : ∀ (kV doc pm : Value) (an : Option Addr) (cdv ct : Value) (us : List Value), us.length = ps.length → bindArgs (PySem.W.fnOf x x (defArgs st) (defBody st) (defScope st) .none kV doc pm an cdv ct) ⟨us, []⟩ = pure (ps.zip us)) : Fn P w K mg base k x R T := by
  obtain ⟨f, fd, F, hm⟩ := Y.ex
  exact fn_mk F (G F) hm (F.binds h)
theorem FT.fk (Y : FT K mg x st) (G : ∀ {f fd}, Fun K x x st f fd → FnOk P w K mg base CX0 k f fd ps (spD K R T)) (hp : ps ≠ [])
    (h : ∀ (kV doc pm : Value) (an : Option Addr) (cdv ct : Value) (us ws : List Value), us.length = n → ws.length = ks.length → bindArgs (PySem.W.fnOf x x (defArgs st) (defBody st) (defScope st) .none kV doc pm an cdv ct) ⟨us, ks.zip ws⟩ = pure (ps.zip (perm.filterMap fun i => (us ++ ws)[i]?))) : Fk P w K mg base k x n ks perm R T := by
  obtain ⟨f, fd, F, hm⟩ := Y.ex
  exact fk_mk F (G F) hm hp h
theorem FT.law {lp : Program} (Y : FT K mg "law" st) {fa : Addr} (hfa : mg "law" = some (.ref fa)) (G : ∀ (base : Heap) {f fd}, Fun K "law" "law" st f fd → FnOk lp w K mg base CX0 k f fd ["script"] (spD K R T))
    (h : ∀ (kV doc pm : Value) (an : Option Addr) (cdv ct : Value) (v : Value), bindArgs (PySem.W.fnOf "law" "law" (defArgs st) (defBody st) (defScope st) .none kV doc pm an cdv ct) ⟨[v], []⟩ = pure [(("script" : Str), v)]) :
    ∃ fd : FuncData, (∀ (s : Shared) (u : Value), BindsTo s fd ⟨[u], []⟩ [("script", u)]) ∧ ∀ base : Heap, K.In base → base.Ns mainGlobals mg → FnOk lp w K mg base CX0 k fa fd ["script"] (spD K R T) := by
  obtain ⟨f, fd, F, hm⟩ := Y.ex
  have e := hfa.symm.trans hm
  cases e
  refine ⟨fd, fun s u => ?_, fun base _ _ => G base F⟩
  obtain ⟨oc, od, kV, doc, pm, an, cdv, ct, osl, rfl, lk, hcd⟩ := F.ex
  exact .of_eq (h kV doc pm an cdv ct u)
end
end Qp

/-! Q7: lists of ints, squares, as data. -/
namespace Qp
open PySem PySem.Spec PyProof.Rows L2
def iL (ns : List Int) : List D := ns.map D.int
theorem iL_app (xs : List Int) (x : Int) : iL xs ++ [D.int x] = iL (xs ++ [x]) := by
  unfold iL; rw [List.map_append]; rfl
theorem iL_cat (xs ys : List Int) : iL xs ++ iL ys = iL (xs ++ ys) := by
  unfold iL; rw [List.map_append]
theorem iL_len (xs : List Int) : (iL xs).length = xs.length := by unfold iL; rw [List.length_map]
theorem iL_get (xs : List Int) (i : Nat) : (iL xs)[i]? = xs[i]?.map D.int := by unfold iL; rw [List.getElem?_map]
theorem iL_getD {xs : List Int} {i : Nat} (h : i < xs.length) : (iL xs)[i]? = some (.int (xs.getD i 0)) := by
  rw [iL_get, List.getElem?_eq_getElem h, List.getD_eq_getElem?_getD, List.getElem?_eq_getElem h]; rfl
theorem atI_iL {xs : List Int} {i : Nat} (h : i < xs.length) : atI (iL xs) (i : Int) = some (.int (xs.getD i 0)) := atI_nat (iL_getD h)
/-- an int as a place -/
theorem atI_int {xs : List Int} {i : Int} (h0 : 0 ≤ i) (h : i < xs.length) : atI (iL xs) i = some (.int (xs.getD i.toNat 0)) := by
  have e : i = (i.toNat : Int) := by omega
  rw [e, Int.toNat_natCast]
  exact atI_iL (by omega)
theorem atI_map {α : Type} {xs : List α} (g : α → D) (z : α) {i : Int} (h0 : 0 ≤ i) (h : i < xs.length) : atI (xs.map g) i = some (g (xs.getD i.toNat z)) := by
  have e : i = (i.toNat : Int) := by omega
  rw [e, Int.toNat_natCast]
  have h2 : i.toNat < xs.length := by omega
  refine atI_nat ?_
  rw [List.getElem?_map, List.getElem?_eq_getElem h2, List.getD_eq_getElem?_getD, List.getElem?_eq_getElem h2]; rfl
theorem getD_mem {α : Type} {xs : List α} {i : Nat} (z : α) (h : i < xs.length) : xs.getD i z ∈ xs := by
  rw [List.getD_eq_getElem?_getD, List.getElem?_eq_getElem h]; exact List.getElem_mem h
/-- rows of ints as tuples; as lists -/
def tR (rows : List (List Int)) : D := .tup (rows.map fun r => .tup (iL r))
def lR (rows : List (List Int)) : D := .lst (rows.map fun r => .lst (iL r))
theorem outs_listD {α : Type} (xs : List α) (z : α) (g : α → D) {n : Nat} {b : Nat → Bool} {f : Nat → D} (hn : n = xs.length) (hb : b = fun _ => true) (hf : f = fun i => g (xs.getD i z)) : outs n b f = xs.map g := by
  subst hn hb hf
  exact outs_list xs z g
theorem outs_iL {n : Nat} {b : Nat → Bool} {f : Nat → D} (xs : List Int) (hn : n = xs.length) (hb : b = fun _ => true) (hf : ∀ i, i < n → f i = .int (xs.getD i 0)) : outs n b f = iL xs := by
  subst hn hb
  rw [outs_all]
  apply List.ext_getElem?
  intro i
  by_cases hi : i < xs.length
  · rw [List.getElem?_map, List.getElem?_range hi, iL_getD hi]
    show some (f i) = _
    rw [hf i hi]
  · rw [List.getElem?_map, List.getElem?_eq_none (by rw [List.length_range]; omega), List.getElem?_eq_none (by rw [iL_len]; omega)]; rfl
theorem outs_map {α : Type} {n : Nat} {b : Nat → Bool} {f : Nat → D} (xs : List α) (z : α) (g : α → D) (hn : n = xs.length) (hb : b = fun _ => true) (hf : ∀ i, i < n → f i = g (xs.getD i z)) : outs n b f = xs.map g := by
  subst hn hb
  rw [outs_all]
  apply List.ext_getElem?
  intro i
  by_cases hi : i < xs.length
  · rw [List.getElem?_map, List.getElem?_range hi, List.getElem?_map, List.getElem?_eq_getElem hi]
    show some (f i) = _
    rw [hf i hi, List.getD_eq_getElem?_getD, List.getElem?_eq_getElem hi]; rfl
  · rw [List.getElem?_map, List.getElem?_eq_none (by rw [List.length_range]; omega), List.getElem?_map, List.getElem?_eq_none (by omega)]; rfl
/-- a written part of a list of ints -/
def cutL {α : Type} (xs : List α) (lo hi : Option Int) : List α := (xs.drop (HT.sIx xs.length 0 lo)).take (HT.sIx xs.length xs.length hi - HT.sIx xs.length 0 lo)
theorem cutD_map {α : Type} (xs : List α) (g : α → D) (lo hi : Option Int) : cutD (xs.map g) lo hi = (cutL xs lo hi).map g := by
  unfold cutD cutL
  rw [List.length_map, List.map_take, List.map_drop]
theorem cutD_iL (xs : List Int) (lo hi : Option Int) : cutD (iL xs) lo hi = iL (cutL xs lo hi) := cutD_map xs D.int lo hi
theorem cutL_nat {α : Type} {xs : List α} {a b : Nat} (hab : a ≤ b) (hb : b ≤ xs.length) : cutL xs (some (a : Int)) (some (b : Int)) = (xs.drop a).take (b - a) := by
  unfold cutL
  rw [HT.sIx_nat, HT.sIx_nat, Nat.min_eq_left hb, Nat.min_eq_left (Nat.le_trans hab hb)]
theorem cutL_lo {α : Type} {xs : List α} {a : Nat} (h : a ≤ xs.length) : cutL xs (some (a : Int)) none = xs.drop a := by
  unfold cutL
  rw [HT.sIx_nat, HT.sIx_none, Nat.min_eq_left h]
  exact List.take_of_length_le (by rw [List.length_drop]; exact Nat.le_refl _)
theorem cutL_hi {α : Type} {xs : List α} {b : Nat} (h : b ≤ xs.length) : cutL xs none (some (b : Int)) = xs.take b := by
  unfold cutL
  rw [HT.sIx_nat, HT.sIx_none, Nat.min_eq_left h, Nat.sub_zero, List.drop_zero]
section
variable {C : Cs} {ls : List Loc} {e a b : Expr} {d d1 : D} {ds : List D} {pos : Pos}
/-- a list of ints at an open place: some int of which p holds -/
theorem jx_ixI {xs : List Int} {i : Int} (p : Int → Prop) (ha : JC C ls a (iL xs)) (hb : JE C ls b (.int i)) (h0 : 0 ≤ i ∧ i < xs.length) (hp : ∀ x ∈ xs, p x) (hs : PlainIx b := by intro _ _; rfl) : JX C ls (.Subscript a b pos) fun d => ∃ x, d = .int x ∧ p x :=
  .of (je_ixL ha hb (atI_int h0.1 h0.2) hs) ⟨_, rfl, hp _ (getD_mem 0 (by omega))⟩
theorem all_nil {p : Int → Prop} : ∀ x ∈ ([] : List Int), p x := fun _ h => (List.not_mem_nil h).elim
theorem all_cons {p : Int → Prop} {x : Int} {xs : List Int} (h : p x) (r : ∀ y ∈ xs, p y) : ∀ y ∈ x :: xs, p y := fun y hy => (List.mem_cons.mp hy).elim (fun e => e ▸ h) (r y)
end
/-! kinds -/
section
variable {xs : List D} {i : Int} {b : Bool} {x : Str} {ns : List Int}
@[simp] theorem isTup_tup : (D.tup xs).isTup = true := rfl
@[simp] theorem isTup_lst : (D.lst xs).isTup = false := rfl
@[simp] theorem isTup_int : (D.int i).isTup = false := rfl
@[simp] theorem isLst_lst : (D.lst xs).isLst = true := rfl
@[simp] theorem isLst_tup : (D.tup xs).isLst = false := rfl
@[simp] theorem isLst_int : (D.int i).isLst = false := rfl
@[simp] theorem isInt_int : (D.int i).isInt = true := rfl
@[simp] theorem isInt_bl : (D.bl b).isInt = true := rfl
@[simp] theorem isBool_int : (D.int i).isBool = false := rfl
@[simp] theorem isBool_bl : (D.bl b).isBool = true := rfl
@[simp] theorem isStr_str : (D.str x).isStr = true := rfl
@[simp] theorem isTup_tR {rows : List (List Int)} : (tR rows).isTup = true := rfl
end
/-! numbers -/
theorem mulW {i j : Int} {a b : Nat} (ha : i.natAbs < 2 ^ a) (hb : j.natAbs < 2 ^ b) (h0 : 0 < a) (h1 : 0 < b) (h : a + b ≤ 1000000) : IntMulOk i j := (wide_mul ha hb h0 h1 h).ok
theorem divW {i j : Int} {b : Nat} (h : 0 < j) (hb : j < 2 ^ b) (h0 : 0 < b) (h9 : b ≤ 9000) : CDivW i j := wide_div h (by
  have e : ((j.natAbs : Nat) : Int) = j := by omega
  have e2 : ((2 ^ b : Nat) : Int) = (2 : Int) ^ b := by rw [Int.natCast_pow]; rfl
  omega) h0 h9
theorem log2_of {j : Int} {b : Nat} (h : 0 ≤ j) (hb : j < 2 ^ b) (h0 : 0 < b) : j.natAbs.log2 < b := PySem.Flt.log2_lt_of h0 (by
  have e : ((j.natAbs : Nat) : Int) = j := by omega
  have e2 : ((2 ^ b : Nat) : Int) = (2 : Int) ^ b := by rw [Int.natCast_pow]; rfl
  omega)
/-! the laws' draws -/
def mCell (ns : List Int) (k : Nat) : Int := ((ns.getD k 0).natAbs : Int)
def mix (cell k : Int) : Int :=
  let first := (cell * 48271 + (k + 1) * 69621) % 2147483647
  let second := (first * first + (k + 1) * 40692) % 2147483399
  (second * second + first) % 2147483647
def drawsFrom (cell most : Int) : Nat → Nat → Int → List Int
  | 0, _, _ => []
  | n + 1, k, left => if most ≤ left then left % most :: drawsFrom cell most n (k + 1) (left / most) else mix cell k % most :: drawsFrom cell most n (k + 1) left
def draws (cell : Int) (many : Nat) (most : Int) : List Int := drawsFrom cell most many 0 (if 1000000000000000000 ≤ cell then cell else 0)
theorem drawsFrom_len (cell most : Int) : ∀ (n k : Nat) (left : Int), (drawsFrom cell most n k left).length = n
  | 0, _, _ => rfl
  | n + 1, k, left => by
    unfold drawsFrom
    split <;> rw [List.length_cons, drawsFrom_len]
theorem draws_len (cell : Int) (many : Nat) (most : Int) : (draws cell many most).length = many := drawsFrom_len _ _ _ _ _
theorem drawsFrom_mem {cell most : Int} (h : 0 < most) : ∀ (n k : Nat) (left : Int), ∀ x ∈ drawsFrom cell most n k left, 0 ≤ x ∧ x < most
  | 0, _, _, x, hx => by cases hx
  | n + 1, k, left, x, hx => by
    unfold drawsFrom at hx
    split at hx
    · rcases List.mem_cons.mp hx with e | e
      · subst e; exact ⟨Int.emod_nonneg _ (by omega), Int.emod_lt_of_pos _ h⟩
      · exact drawsFrom_mem h n (k + 1) _ x e
    · rcases List.mem_cons.mp hx with e | e
      · subst e; exact ⟨Int.emod_nonneg _ (by omega), Int.emod_lt_of_pos _ h⟩
      · exact drawsFrom_mem h n (k + 1) _ x e
theorem draws_mem {cell : Int} {many : Nat} {most : Int} (h : 0 < most) {i : Nat} (hi : i < many) : 0 ≤ (draws cell many most).getD i 0 ∧ (draws cell many most).getD i 0 < most :=
  drawsFrom_mem h _ _ _ _ (getD_mem 0 (by have := draws_len cell many most; unfold draws at this; rw [this]; exact hi))
def rCell : List D → D → Prop := fun ds d => ∃ (ns : List Int) (k : Nat), ds = [.scr ns, .int k] ∧ d = .int (mCell ns k)
def rDraws : List D → D → Prop := fun ds d => ∃ (cell : Int) (many : Nat) (most : Int), ds = [.int cell, .int many, .int most] ∧ many < 100000 ∧ 0 < most ∧ most.natAbs.log2 < 9000 ∧ d = .lst (iL (draws cell many most))
end Qp

/-! Q8: lists that change by place, lists of lists, own lists looked at, equality. -/
namespace Qp
open PySem PySem.Spec PyProof.Rows L2
/-! ### an own list, looked at -/
inductive Pure : D → Prop
  | non : Pure .non
  | bl (b : Bool) : Pure (.bl b)
  | int (i : Int) : Pure (.int i)
  | str (x : Str) : Pure (.str x)
  | tup {ds : List D} : (∀ d ∈ ds, Pure d) → Pure (.tup ds)
  | ref (a : Addr) : Pure (.ref a)
theorem pure_ints (ns : List Int) : Pure (.tup (iL ns)) := .tup fun d hd => by
  unfold iL at hd
  obtain ⟨n, _, rfl⟩ := List.mem_map.mp hd
  exact .int n
theorem pure_tR (rows : List (List Int)) : Pure (tR rows) := .tup fun d hd => by
  obtain ⟨r, _, rfl⟩ := List.mem_map.mp hd
  exact pure_ints r
mutual
theorem dq_pure {K : Fg} {G G' : Hp} (h : ∀ a xs, SqT K G a xs → SqT K G' a xs) : ∀ {v : V} {d : D}, Dq K G v d → Pure d → Dq K G' v d
  | _, _, .non, _ => .non
  | _, _, .bl b, _ => .bl b
  | _, _, .int i, _ => .int i
  | _, _, .str x, _ => .str x
  | _, _, .lst _ _, p => by cases p
  | _, _, .tup t a, p => by
    cases p with
    | tup q => exact .tup (h _ _ t) (dqAll_pure h a q)
  | _, _, .scr _, p => by cases p
  | _, _, .ref a, _ => .ref a
  | _, _, .ty n, p => by cases p
theorem dqAll_pure {K : Fg} {G G' : Hp} (h : ∀ a xs, SqT K G a xs → SqT K G' a xs) : ∀ {vs : List V} {ds : List D}, DqAll K G vs ds → (∀ d ∈ ds, Pure d) → DqAll K G' vs ds
  | _, _, .nil, _ => .nil
  | _, _, .cons q a, p => .cons (dq_pure h q (p _ List.mem_cons_self)) (dqAll_pure h a fun d hd => p d (List.mem_cons_of_mem _ hd))
end
def minus (G : Hp) (p : Addr) : Hp := fun a => if a = p then none else G a
theorem minus_same {G : Hp} {p : Addr} : minus G p p = none := if_pos rfl
theorem minus_ne {G : Hp} {p a : Addr} (h : a ≠ p) : minus G p a = G a := if_neg h
/-- the address of an own list is told by its slot -/
theorem own_addr {K : Fg} {G H : Hp} {σ : L2.St} {i : Nat} {ds : List D} {ps : List Addr} {p : Addr} (h : LocOk K G H (σ.getD i none) (.own ds) ps) (hp : σ[i]? = some (some (V.ref p))) : ps = [p] := by
  obtain ⟨q, vs, e0, e, _⟩ := h
  rw [List.getD_eq_getElem?_getD, hp] at e
  cases e
  exact e0
/-- own addresses are the same ones behind a growth -/
theorem own_same {K : Fg} {G G2 H H2 : Hp} {sv : Option V} {l : Loc} {ps ps2 : List Addr} (eh : Ex H H2) (h : LocOk K G H sv l ps) (h2 : LocOk K G2 H2 sv l ps2) : ps2 = ps := by
  cases l with
  | any => rw [show ps = [] from h, show ps2 = [] from h2]
  | val d => rw [h.1, h2.1]
  | own ds =>
    obtain ⟨p, vs, e1, e2, e3, e4⟩ := h
    obtain ⟨p2, vs2, f1, f2, f3, f4⟩ := h2
    rw [e2] at f2
    cases f2
    rw [e1, f1]
  | own2 dss =>
    obtain ⟨p, qs, e1, e2, e3, e4⟩ := h
    obtain ⟨p2, qs2, f1, f2, f3, f4⟩ := h2
    rw [e2] at f2
    cases f2
    have h6 := eh _ _ e3
    rw [f3] at h6
    rw [e1, f1, refs_inj (HO.lst.inj (Option.some.inj h6))]
theorem Sat.unthaw {K : Fg} {F : Addr → Prop} {G G3 H H3 : Hp} {σ : L2.St} {ls : List Loc} {i : Nat} {ds : List D} {p : Addr} {l3 : Loc} (S : Sat K F G H σ ls) (hl : ls[i]? = some (.own ds)) (hp : σ[i]? = some (some (V.ref p))) (S3 : Sat K F G3 H3 σ (ls.set i l3)) (eg : Ex G G3) (eh : Ex H H3) : Ex G (minus G3 p) ∧ Sat K F (minus G3 p) H3 σ ls := by
  obtain ⟨ow, h1, h2, h3, h4⟩ := S.ow
  obtain ⟨ow3, k1, k2, k3, k4⟩ := S3.ow
  have ei := own_addr (h1 i _ hl) hp
  have pi : p ∈ ow i := by rw [ei]; exact List.mem_cons_self
  have gp := (h2 i p pi).1
  have eg2 : Ex G (minus G3 p) := fun a o ha => by
    rw [minus_ne (ne_of_none ha gp)]
    exact eg a o ha
  refine ⟨eg2, fun a o ha => ?_, fun a fa => ⟨?_, (S3.fo a fa).2⟩, S.len, fun j => if j < ls.length then ow j else [], fun j l hj => ?_, fun j q hq => ?_, fun j => ?_, fun j k q hj hk => ?_⟩
  · by_cases e : a = p
    · subst e; rw [minus_same] at ha; cases ha
    · rw [minus_ne e] at ha; exact S3.ex a o ha
  · by_cases e : a = p
    · subst e; exact minus_same
    · rw [minus_ne e]; exact (S3.fo a fa).1
  · have hlt := (List.getElem?_eq_some_iff.mp hj).1
    simp only [if_pos hlt]
    exact locOk_mono eg2 (fun q hq => ex_eq eh (h2 j q hq).2.1) (h1 j l hj)
  · simp only at hq
    split at hq
    · next hlt =>
      have hq2 := h2 j q hq
      refine ⟨?_, ex_nt eh hq2.2.1, hq2.2.2⟩
      by_cases e : q = p
      · subst e; exact minus_same
      · rw [minus_ne e]
        have hji : j ≠ i := fun z => by
          rw [z, ei] at hq
          exact e (List.mem_singleton.mp hq)
        have hj := List.getElem?_eq_getElem hlt
        have hj3 : (ls.set i l3)[j]? = some ls[j] := by rw [List.getElem?_set_ne (Ne.symm hji)]; exact hj
        rw [← own_same eh (h1 j _ hj) (k1 j _ hj3)] at hq
        exact (k2 j q hq).1
    · cases hq
  · simp only
    split
    · exact h3 j
    · exact List.nodup_nil
  · simp only at hj hk
    split at hj
    · split at hk
      · exact h4 j k q hj hk
      · cases hk
    · cases hj
section
variable {C : Cs} {ls : List Loc} {e a b c : Expr} {d d1 d2 : D} {ds es : List D} {pos pos' : Pos} {P : Post} {rest body : List Stmt}
/-- an expression that looks at the own list of slot i, its value made of tuples -/
theorem je_peek (i : Nat) (h : JE C (ls.set i (.val (.lst ds))) e d) (hp : Pure d) (hl : ls[i]? = some (.own ds) := by rfl) (hx : ∀ l c gs, ¬ C.E.xp l c gs := by intro _ _ _ z; exact z) : JE C ls e d := fun F G H σ S xx Q q => by
  obtain ⟨p, vs, ep, hpv, hv, gp, nf⟩ := S.ownAt hl
  obtain ⟨G1, eg, fg, S1⟩ := S.thaw hl
  have x1 : Xok C.K C.E F G1 H σ (ls.set i (.val (.lst ds))) := ⟨fun P h => (xx.tb P h).mono eg, fun p h => (xx.dx p h).mono eg, fun _ _ _ _ _ _ _ _ _ _ _ z => (hx _ _ _ z).elim⟩
  refine h F G1 H σ S1 x1 Q fun v G3 H3 eg3 eh3 S3 hd => ?_
  obtain ⟨e2, S4⟩ := S.unthaw hl ep S3 (eg.trans eg3) eh3
  refine q v _ H3 e2 eh3 S4 (dq_pure (fun a xs t => ?_) hd hp)
  have gl : ∃ ws, G3 p = some (.lst ws) := by
    obtain ⟨v', e', hd'⟩ := S3.var (i := i) (d := .lst ds) (by rw [List.getElem?_set_self (List.getElem?_eq_some_iff.mp hl).1])
    obtain ⟨a', ws, rfl, ha', _⟩ := dq_lst hd'
    rw [ep] at e'
    cases e'
    exact ⟨ws, ha'⟩
  obtain ⟨ws, gl⟩ := gl
  rcases t with (t | ⟨o, t⟩) | t
  · have ne : a ≠ p := fun z => by subst z; rw [t] at gl; cases gl
    exact Or.inl (Or.inl (by rw [minus_ne ne]; exact t))
  · have ne : a ≠ p := fun z => by subst z; rw [t] at gl; cases gl
    exact Or.inl (Or.inr ⟨o, by rw [minus_ne ne]; exact t⟩)
  · exact Or.inr t
/-! ### xs[k] = e -/
theorem js_setItem (i : Nat) {x : Str} {p1 p2 : Pos} {k : Nat} (he : JE C ls e d) (hb : JE C ls b (.int k)) (hl : ls[i]? = some (.own ds)) (hk : k < ds.length) (hn : P.nx (ls.set i (.own (ds.set k d)))) (hi : C.N[i]? = some x := by rfl)
    (hv : ∀ j, Vis (C.X j).env.scope x := by intro _; first | exact Or.inl rfl | exact Or.inr (Or.inl rfl) | exact Or.inr (Or.inr rfl)) (hd : (x == ("__debug__" : Str)) = false := by decide) (hcd : (x == ("__classdict__" : Str)) = false := by decide)
    (ha : ∀ j v, assign (.Subscript (.Name x p1) b p2) (C.X j).env v = (do
      let ov ← holding [v] (eval (.Name x p1) (C.X j).env)
      let iv ← holding [v, ov] (eval b (C.X j).env)
      standAt p2
      holding [v, ov, iv] (setItem ov iv v)
      release [v, ov, iv] []) := by intro _ _; rfl)
    (hs : ∀ j, swapsWithSole [.Subscript (.Name x p1) b p2] e pos.line (C.X j).env = pure false := by intro _; rfl) (hw : ∀ j, swappedStores [.Subscript (.Name x p1) b p2] e (C.X j).env = pure none := by intro _; rfl) (h1 : ∀ j, (assignEach [.Subscript (.Name x p1) b p2] (C.X j).env).map (·.2) = [assign (.Subscript (.Name x p1) b p2) (C.X j).env] := by intro _; rfl) :
    JS C ls (.Assign [.Subscript (.Name x p1) b p2] e pos) P :=
  js_of (fun j => ps_asg (pe_any C e j) (pg_sub (pe_var (i := i) (by rw [C.hN]; exact hi) (hv j) hd hcd) (pe_any C b j) set_list (ha j)) (hs j) (hw j) (h1 j)) fun F G H σ D' S f => he F G H σ S (f.xok S) _ fun v G1 H1 eg1 eh1 S1 hv1 => by
    obtain ⟨p, vs, ep, hp, hv, gp, nf⟩ := S1.ownAt hl
    refine ⟨.ref p, ep, hb F G1 H1 σ S1 ((f.xok S).step eg1 eh1) _ fun y G2 H2 eg2 eh2 S2 hy => ?_⟩
    obtain ⟨p2, vs2, ep2, hp2, hv2, gp2, nf2⟩ := S2.ownAt hl
    rw [ep] at ep2
    cases ep2
    refine ⟨p, vs2, k, k, rfl, dq_int hy, hp2, ?_, ?_⟩
    · have := hv2.length
      unfold ixN
      rw [if_pos (by omega), if_pos (by omega)]
      simp
    · exact f.nx G2 _ σ _ (eg1.trans eg2) ((S.kp (eh1.trans eh2)).put (nt_lst hp2) nf) (S2.mut hl ep (hv2.set (dq_mono eg2 hv1) k)) hn
end
/-! ### lists of own lists -/
theorem own2_len {K : Fg} {G H : Hp} : ∀ {qs : List Addr} {dss : List (List D)}, Own2 K G H qs dss → qs.length = dss.length
  | [], [], _ => rfl
  | _ :: _, _ :: _, ⟨_, h⟩ => congrArg (· + 1) (own2_len h)
theorem own2_at {K : Fg} {G H : Hp} : ∀ {qs : List Addr} {dss : List (List D)} {y : Nat} {ds : List D}, Own2 K G H qs dss → dss[y]? = some ds → ∃ q vs, qs[y]? = some q ∧ H q = some (.lst vs) ∧ DqAll K G vs ds
  | [], [], _, _, _, e => by simp at e
  | q :: qs, ds :: dss, 0, _, ⟨⟨vs, h1, h2⟩, _⟩, e => by simp at e; subst e; exact ⟨q, vs, rfl, h1, h2⟩
  | q :: qs, _ :: dss, y + 1, _, ⟨_, h⟩, e => by
    obtain ⟨q2, vs, e1, e2⟩ := own2_at (y := y) h (by simpa using e)
    exact ⟨q2, vs, by simpa using e1, e2⟩
theorem own2_set {K : Fg} {G H H' : Hp} {q : Addr} {vs : List V} {es : List D} (hq : H' q = some (.lst vs)) (hv : DqAll K G vs es) : ∀ (qs : List Addr) (dss : List (List D)) (y : Nat), qs.Nodup → Own2 K G H qs dss → qs[y]? = some q → (∀ r ∈ qs, r ≠ q → H' r = H r) → Own2 K G H' qs (dss.set y es) := by
  intro qs
  induction qs with
  | nil => intro dss y nd h e k; simp at e
  | cons r qs ih =>
    intro dss y nd h e k
    cases dss with
    | nil => exact h.elim
    | cons ds dss =>
      obtain ⟨⟨ws, h1, h2⟩, h⟩ := h
      have nd' := List.nodup_cons.mp nd
      cases y with
      | zero =>
        have e' : r = q := by simpa using e
        subst e'
        refine ⟨⟨vs, hq, hv⟩, own2_mono (Ex.refl G) (fun r2 hr2 => k r2 (List.mem_cons_of_mem _ hr2) fun z => nd'.1 (z ▸ hr2)) h⟩
      | succ y =>
        have e' : qs[y]? = some q := by simpa using e
        have hr : r ≠ q := fun z => nd'.1 (z ▸ List.mem_of_getElem? e')
        exact ⟨⟨ws, by rw [k r List.mem_cons_self hr]; exact h1, h2⟩, ih dss y nd'.2 h e' fun r2 hr2 => k r2 (List.mem_cons_of_mem _ hr2)⟩
section
variable {K : Fg} {F : Addr → Prop} {G H : Hp} {σ : L2.St} {ls : List Loc} {p : Addr}
theorem Sat.own2At (S : Sat K F G H σ ls) {i : Nat} {dss : List (List D)} (h : ls[i]? = some (.own2 dss)) : ∃ p qs, σ[i]? = some (some (V.ref p)) ∧ H p = some (.lst (qs.map V.ref)) ∧ Own2 K G H qs dss ∧ (p :: qs).Nodup ∧ ∀ q ∈ p :: qs, G q = none ∧ ¬ F q := by
  obtain ⟨ow, h1, h2, h3, _⟩ := S.ow
  obtain ⟨p, qs, e0, e, hp, hv⟩ := h1 i _ h
  refine ⟨p, qs, ?_, hp, hv, by rw [← e0]; exact h3 i, fun q hq => ?_⟩
  · rw [List.getD_eq_getElem?_getD] at e
    cases q : σ[i]? with
    | none => rw [q] at e; cases e
    | some x => rw [q] at e; exact congrArg some e
  · rw [← e0] at hq
    exact ⟨(h2 i q hq).1, (h2 i q hq).2.2⟩
/-- one of the lists changes -/
theorem Sat.mut2 (S : Sat K F G H σ ls) {i y : Nat} {dss : List (List D)} {q : Addr} {qs : List Addr} {ws : List V} {es : List D} (h : ls[i]? = some (.own2 dss)) (hp : σ[i]? = some (some (V.ref p))) (hq0 : H p = some (.lst (qs.map V.ref))) (hq : qs[y]? = some q) (hw : DqAll K G ws es) :
    Sat K F G (upd H q (.lst ws)) σ (ls.set i (.own2 (dss.set y es))) := by
  obtain ⟨ow, h1, h2, h3, h4⟩ := S.ow
  obtain ⟨p', qs', e0, e, hh, hv⟩ := h1 i _ h
  have ep : p' = p := by
    rw [List.getD_eq_getElem?_getD, hp] at e
    cases e; rfl
  subst ep
  rw [hq0] at hh
  have eq : qs = qs' := refs_inj (HO.lst.inj (Option.some.inj hh))
  subst eq
  have hqm : q ∈ qs := List.mem_of_getElem? hq
  have qi : q ∈ ow i := by rw [e0]; exact List.mem_cons_of_mem _ hqm
  have nd := h3 i
  rw [e0] at nd
  have npq : p' ≠ q := fun z => (List.nodup_cons.mp nd).1 (z ▸ hqm)
  obtain ⟨gq, hn, nf⟩ := h2 i q qi
  refine ⟨S.ex.mut gq, fun a fa => ?_, by rw [List.length_set]; exact S.len, ow, fun j l hl => ?_, fun j r hr => ?_, h3, h4⟩
  · have ne : a ≠ q := fun z => nf (z ▸ fa)
    exact ⟨(S.fo a fa).1, nt_eq (S.fo a fa).2 (upd_ne ne)⟩
  · by_cases hj : j = i
    · subst hj
      rw [List.getElem?_set_self (List.getElem?_eq_some_iff.mp h).1] at hl
      cases hl
      exact ⟨p', qs, e0, e, by rw [upd_ne npq]; exact hq0, own2_set upd_same hw _ _ _ (List.nodup_cons.mp nd).2 hv hq fun r _ ne => upd_ne ne⟩
    · rw [List.getElem?_set_ne (Ne.symm hj)] at hl
      refine locOk_mono (Ex.refl G) (fun r hr => upd_ne fun z => hj (h4 j i q (z ▸ hr) qi)) (h1 j l hl)
  · obtain ⟨a, b, c⟩ := h2 j r hr
    refine ⟨a, ?_, c⟩
    by_cases hz : r = q
    · rw [hz]; exact nt_lst upd_same
    · exact nt_eq b (upd_ne hz)
end
section
variable {C : Cs} {ls : List Loc} {e a b c : Expr} {d d1 d2 : D} {ds es : List D} {dss : List (List D)} {pos pos' p1 p2 p3 : Pos} {P : Post} {rest body : List Stmt}
theorem evC_row {K : Fg} {E : Xw} {i y : Nat} {tb : TE} (hl : ls[i]? = some (.own2 dss)) (hb : Ev K E tb ls (.int y)) (hy : dss[y]? = some ds) : EvC K E (tOp (rIxL K) (tVar i) tb) ls ds := fun F G H σ S xx Q q => by
  obtain ⟨p, qs, ep, hp, hv, nd, hf⟩ := S.own2At hl
  refine ⟨_, ep, hb F G H σ S xx _ fun z G2 H2 eg2 eh2 S2 hz => ?_⟩
  obtain ⟨p', qs', ep', hp', hv', nd', hf'⟩ := S2.own2At hl
  rw [ep] at ep'
  cases ep'
  obtain ⟨r, ws, e1, e2, e3⟩ := own2_at hv' hy
  exact ⟨p, qs'.map V.ref, y, .ref r, rfl, dq_int hz, SqL.of hp', atI_nat (by rw [List.getElem?_map, e1]; rfl), q r ws G2 H2 eg2 eh2 S2 e2 e3⟩
/-- rows[y], one of the own lists, as it stands -/
theorem jc_row (i : Nat) {x : Str} {y : Nat} (hb : JE C ls b (.int y)) (hy : dss[y]? = some ds) (hl : ls[i]? = some (.own2 dss) := by rfl) (hi : C.N[i]? = some x := by rfl) (hv : ∀ j, Vis (C.X j).env.scope x := by intro _; first | exact Or.inl rfl | exact Or.inr (Or.inl rfl) | exact Or.inr (Or.inr rfl))
    (hs : PlainIx b := by intro _ _; rfl) (hd : (x == ("__debug__" : Str)) = false := by decide) (hcd : (x == ("__classdict__" : Str)) = false := by decide) : JC C ls (.Subscript (.Name x p1) b pos) ds :=
  jc_of (fun j => pe_ix (ix_list' C j) (pe_var (by rw [C.hN]; exact hi) (hv j) hd hcd) (pe_any C b j) hs) (evC_row hl hb hy)
theorem je_lenO2 (i : Nat) {x : Str} (hl : ls[i]? = some (.own2 dss) := by rfl) (hn : NoG C "len" := by assumption) (hg : ∀ j, Gl (C.X j) "len" := by intro _; rfl) (hi : C.N[i]? = some x := by rfl) (hv : ∀ j, Vis (C.X j).env.scope x := by intro _; first | exact Or.inl rfl | exact Or.inr (Or.inl rfl) | exact Or.inr (Or.inr rfl))
    (hd : (x == ("__debug__" : Str)) = false := by decide) (hcd : (x == ("__classdict__" : Str)) = false := by decide) : JE C ls (.Call (.Name "len" p1) [.Name x p2] [] pos) (.int (dss.length : Int)) :=
  je_of (fun j => pe_callB (len' C j) (hg j) (noG hn j) PySem.boot_len (pa_cons (pe_var (i := i) (by rw [C.hN]; exact hi) (hv j) hd hcd) pa_nil rfl) (by decide) (by decide) rfl rfl) fun F G H σ S xx Q q => by
    obtain ⟨p, qs, ep, hp, hv, nd, hf⟩ := S.own2At hl
    refine ⟨_, ep, p, qs.map V.ref, rfl, Or.inl (SqL.of hp), ?_⟩
    rw [List.length_map, own2_len hv]
    exact q _ G H (Ex.refl G) (Ex.refl H) S (.int _)
/-- rows[y][k] = e -/
theorem js_setCell (i : Nat) {x : Str} {y k : Nat} (he : JE C ls e d) (hb : JE C ls b (.int y)) (hc : JE C ls c (.int k)) (hl : ls[i]? = some (.own2 dss)) (hy : dss[y]? = some ds) (hk : k < ds.length) (hn : P.nx (ls.set i (.own2 (dss.set y (ds.set k d))))) (hi : C.N[i]? = some x := by rfl)
    (hv : ∀ j, Vis (C.X j).env.scope x := by intro _; first | exact Or.inl rfl | exact Or.inr (Or.inl rfl) | exact Or.inr (Or.inr rfl)) (hd : (x == ("__debug__" : Str)) = false := by decide) (hcd : (x == ("__classdict__" : Str)) = false := by decide) (hpl : PlainIx b := by intro _ _; rfl)
    (ha : ∀ j v, assign (.Subscript (.Subscript (.Name x p1) b p2) c p3) (C.X j).env v = (do
      let ov ← holding [v] (eval (.Subscript (.Name x p1) b p2) (C.X j).env)
      let iv ← holding [v, ov] (eval c (C.X j).env)
      standAt p3
      holding [v, ov, iv] (setItem ov iv v)
      release [v, ov, iv] []) := by intro _ _; rfl)
    (hs : ∀ j, swapsWithSole [.Subscript (.Subscript (.Name x p1) b p2) c p3] e pos.line (C.X j).env = pure false := by intro _; rfl) (hw : ∀ j, swappedStores [.Subscript (.Subscript (.Name x p1) b p2) c p3] e (C.X j).env = pure none := by intro _; rfl) (h1 : ∀ j, (assignEach [.Subscript (.Subscript (.Name x p1) b p2) c p3] (C.X j).env).map (·.2) = [assign (.Subscript (.Subscript (.Name x p1) b p2) c p3) (C.X j).env] := by intro _; rfl) :
    JS C ls (.Assign [.Subscript (.Subscript (.Name x p1) b p2) c p3] e pos) P :=
  js_of (fun j => ps_asg (pe_any C e j) (pg_sub (pe_ix (ix_list' C j) (pe_var (i := i) (by rw [C.hN]; exact hi) (hv j) hd hcd) (pe_any C b j) hpl) (pe_any C c j) set_list (ha j)) (hs j) (hw j) (h1 j)) fun F G H σ D' S f => he F G H σ S (f.xok S) _ fun v G1 H1 eg1 eh1 S1 hv1 => by
    obtain ⟨p, qs, ep, hp, hv, nd, hf⟩ := S1.own2At hl
    refine ⟨_, ep, hb F G1 H1 σ S1 ((f.xok S).step eg1 eh1) _ fun z G2 H2 eg2 eh2 S2 hz => ?_⟩
    have hp2 := eh2 _ _ hp
    obtain ⟨p', qs', ep', hp', hv', nd', hf'⟩ := S2.own2At hl
    rw [ep] at ep'
    cases ep'
    rw [hp'] at hp2
    have eqs : qs' = qs := refs_inj (HO.lst.inj (Option.some.inj hp2))
    subst eqs
    obtain ⟨r, ws, e1, e2, e3⟩ := own2_at hv' hy
    refine ⟨p, qs'.map V.ref, y, .ref r, rfl, dq_int hz, SqL.of hp', atI_nat (by rw [List.getElem?_map, e1]; rfl), hc F G2 H2 σ S2 ((f.xok S).step (eg1.trans eg2) (eh1.trans eh2)) _ fun u G3 H3 eg3 eh3 S3 hu => ?_⟩
    have e2' := eh3 _ _ e2
    have e3' := dqAll_mono eg3 e3
    refine ⟨r, ws, k, k, rfl, dq_int hu, e2', ?_, ?_⟩
    · have := e3.length
      unfold ixN
      rw [if_pos (by omega), if_pos (by omega)]
      simp
    · have nfr := (hf' r (List.mem_cons_of_mem _ (List.mem_of_getElem? e1))).2
      exact f.nx G3 _ σ _ ((eg1.trans eg2).trans eg3) ((S.kp ((eh1.trans eh2).trans eh3)).put (nt_lst e2') nfr) (S3.mut2 hl ep (eh3 _ _ hp') e1 (e3'.set (dq_mono (eg2.trans eg3) hv1) k)) hn
end
end Qp

/-! Q9: lists of own lists made, a row put, frozen; equality of data. -/
namespace Qp
open PySem PySem.Spec PyProof.Rows L2
theorem own2_app {K : Fg} {G H : Hp} {q : Addr} {vs : List V} {es : List D} (hq : H q = some (.lst vs)) (hv : DqAll K G vs es) : ∀ {qs : List Addr} {dss : List (List D)}, Own2 K G H qs dss → Own2 K G H (qs ++ [q]) (dss ++ [es])
  | [], [], _ => ⟨⟨vs, hq, hv⟩, True.intro⟩
  | r :: qs, ds :: dss, ⟨h0, h⟩ => ⟨h0, own2_app hq hv h⟩
def EvN2 (K : Fg) (E : Xw) (te : TE) (ls : List Loc) (dss : List (List D)) : Prop := ∀ F G H σ, Sat K F G H σ ls → Xok K E F G H σ ls → ∀ Q : VK, (∀ p qs G' H', Ex G G' → Ex H H' → (∀ q ∈ p :: qs, ¬ F q) → (p :: qs).Nodup → Sat K (fun a => F a ∨ a ∈ p :: qs) G' H' σ ls → H' p = some (.lst (qs.map V.ref)) → Own2 K G' H' qs dss → Q (.ref p) H') → te σ H Q
def JN2 (C : Cs) (ls : List Loc) (e : Expr) (dss : List (List D)) : Prop := EvN2 C.K C.E (eAny C e) ls dss
theorem sat_setN2 {K : Fg} {F : Addr → Prop} {G H : Hp} {σ : L2.St} {ls : List Loc} {p : Addr} {qs : List Addr} (S : Sat K (fun a => F a ∨ a ∈ p :: qs) G H σ ls) (nf : ∀ q ∈ p :: qs, ¬ F q) (nd : (p :: qs).Nodup) {i : Nat} {dss : List (List D)} (h : H p = some (.lst (qs.map V.ref))) (hv : Own2 K G H qs dss) :
    Sat K F G H (σ.set i (some (.ref p))) (ls.set i (.own2 dss)) :=
  sat_repl (ps := p :: qs) S (fun _ h => Or.inl h) ⟨p, qs, rfl, rfl, h, hv⟩ (fun q hq => ⟨(S.fo q (Or.inr hq)).1, (S.fo q (Or.inr hq)).2, nf q hq⟩) nd fun q hq => Or.inr hq
section
variable {K : Fg} {E : Xw} {ls : List Loc}
theorem evN2_lc {wi : TI} {te : TE} (j n : Nat) (xs : Nat → D) (f : Nat → List D) (J : Hp → It → Prop) (hn : n < 1000000) (hj : ∀ l, ls[j]? = some l → l.keeps = true)
    (hw : ∀ F G H σ, Sat K F G H σ ls → Xok K E F G H σ ls → ∀ R : It → Hp → Prop, (∀ Jt G' H', Ex G G' → Ex H H' → Sat K F G' H' σ ls → J G' Jt → R Jt H') → wi σ H R)
    (hstop : ∀ G Jt H, J G Jt → Ex G H → Jt.stop n H) (hgo : ∀ G Jt H i, J G Jt → Ex G H → i < n → Jt.go i H) (hy : ∀ G Jt H i x H1, J G Jt → Ex G H → i < n → Jt.yld i H x H1 → H1 = H ∧ Dq K G x (xs i))
    (he : ∀ i, i < n → EvN K (noX E.T) te (ls.set j (.val (xs i))) (f i)) (tt : TT) (htt : ∀ i, i < n → EvT K (noX E.T) tt (ls.set j (.val (xs i))) true) : EvN2 K E (tLc wi (gName j) tt te [j]) ls ((List.range n).map f) := fun F G H σ S xx Q q => hw F G H σ S xx _ fun Jt G1 H1 eg1 eh1 S1 hJ Dl hD => by
  have nf : ¬ F Dl := fun z => (S1.fo Dl z).2.ne hD
  refine ⟨fun i m H' => m = n - i ∧ i ≤ n ∧ ∃ G' qs, Ex G1 G' ∧ Ex H1 H' ∧ (∀ r ∈ Dl :: qs, ¬ F r) ∧ (Dl :: qs).Nodup ∧ Sat K (fun a => F a ∨ a ∈ Dl :: qs) G' H' σ ls ∧ H' Dl = some (.lst (qs.map V.ref)) ∧ Own2 K G' H' qs ((List.range i).map f), ⟨n, by simp, Nat.zero_le _, G1, [], Ex.refl _, Ex.new hD, fun r hr => by
    rw [List.mem_singleton.mp hr]; exact nf, by simp, (S1.madeF hD).sub (fun a h => h.elim Or.inl fun z => Or.inr (List.mem_singleton.mp z)), upd_same, True.intro⟩, ?_⟩
  rintro i m H' ⟨rfl, hi, G', qs, eg', eh', hf, nd, S', hp, hv⟩
  by_cases hlt : i < n
  · refine .inr ⟨hgo G1 Jt H' i hJ (eg'.trans S'.ex) hlt, fun H2 => ∃ G2 rs, Ex G1 G2 ∧ Ex H1 H2 ∧ (∀ r ∈ Dl :: rs, ¬ F r) ∧ (Dl :: rs).Nodup ∧ Sat K (fun a => F a ∨ a ∈ Dl :: rs) G2 H2 σ ls ∧ H2 Dl = some (.lst (rs.map V.ref)) ∧ Own2 K G2 H2 rs ((List.range (i + 1)).map f), fun H2 h => ⟨n - (i + 1), by omega, rfl, hlt, h⟩, fun x H2 y => ?_⟩
    obtain ⟨rfl, hx⟩ := hy G1 Jt H' i x H2 hJ (eg'.trans S'.ex) hlt y
    have e0 : (wipe σ [j]).set j (some x) = σ.set j (some x) := by
      show (σ.set j none).set j (some x) = _
      rw [List.set_set]
    have e1 : wipe (σ.set j (some x)) [j] = wipe σ [j] := by
      show (σ.set j (some x)).set j none = σ.set j none
      rw [List.set_set]
    show wipe ((wipe σ [j]).set j (some x)) [j] = wipe σ [j] ∧ _
    rw [e0]
    refine ⟨e1, ?_⟩
    have Sx : Sat K (fun a => F a ∨ a ∈ Dl :: qs) G' H2 (σ.set j (some x)) (ls.set j (.val (xs i))) := S'.setV (dq_mono eg' hx)
    refine htt i hlt _ G' H2 _ Sx (xok_no fun P h => ((xx.tb P h).mono eg1).mono eg') _ fun G3 H3 eg3 eh3 S3 => ?_
    rw [if_pos rfl]
    refine he i hlt _ G3 H3 _ S3 (xok_no fun P h => (((xx.tb P h).mono eg1).mono eg').mono eg3) _ fun r ws G4 H4 eg4 eh4 nr S4 hr hws => ?_
    have Sb := (S'.sub (F' := fun a => F a ∨ a ∈ Dl :: qs) fun _ h => h)
    -- the list r belongs to nobody among the slots, too
    have S5 : Sat K (fun a => F a ∨ a ∈ Dl :: (qs ++ [r])) G4 H4 σ ls := by
      have S6 := Sat.restore (F := fun a => (F a ∨ a ∈ Dl :: qs)) S' (S4.sub fun a h => Or.inl h) (eg3.trans eg4) (eh3.trans eh4) hj
      obtain ⟨ow, h1, h2, h3, h4⟩ := S6.ow
      obtain ⟨ow4, k1, k2, k3, k4⟩ := S4.ow
      refine ⟨S6.ex, fun a fa => ?_, S6.len, fun k => if k < ls.length then ow k else [], fun k l hl => ?_, fun k p hp' => ?_, fun k => ?_, fun k k' p hk hk' => ?_⟩
      · by_cases ear : a = r
        · exact S4.fo a (Or.inr ear)
        · refine S6.fo a (fa.elim Or.inl fun z => Or.inr ?_)
          rcases List.mem_cons.mp z with z | z
          · rw [z]; exact List.mem_cons_self
          · rcases List.mem_append.mp z with z | z
            · exact List.mem_cons_of_mem _ z
            · exact absurd (List.mem_singleton.mp z) ear
      · have hlt := (List.getElem?_eq_some_iff.mp hl).1
        simp only [if_pos hlt]
        exact h1 k l hl
      · simp only at hp'
        split at hp'
        · next hlt =>
          obtain ⟨g, hh, nF⟩ := h2 k p hp'
          refine ⟨g, hh, fun z => ?_⟩
          have npr : p ≠ r := by
            intro e
            have hk := List.getElem?_eq_getElem hlt
            by_cases hkj : k = j
            · subst hkj
              have kk := hj _ hk
              have hl := h1 k _ hk
              cases hls : ls[k] with
              | any => rw [hls] at hl; rw [show ow k = [] from hl] at hp'; cases hp'
              | val d => rw [hls] at hl; rw [hl.1] at hp'; cases hp'
              | own ds => rw [hls] at kk; cases kk
              | own2 dss => rw [hls] at kk; cases kk
            · have hk4 : (ls.set j (.val (xs i)))[k]? = some ls[k] := by rw [List.getElem?_set_ne (fun z => hkj z.symm)]; exact hk
              have q4 := k1 k _ hk4
              rw [getD_set_ne hkj] at q4
              have := own_same (Ex.refl H4) (h1 k _ hk) q4
              rw [← this] at hp'
              exact (k2 k p hp').2.2 (Or.inr e)
          rcases z with z | z
          · exact nF (Or.inl z)
          · rcases List.mem_cons.mp z with z | z
            · exact nF (Or.inr (by rw [z]; exact List.mem_cons_self))
            · rcases List.mem_append.mp z with z | z
              · exact nF (Or.inr (List.mem_cons_of_mem _ z))
              · exact npr (List.mem_singleton.mp z)
        · cases hp'
      · simp only
        split
        · exact h3 k
        · exact List.nodup_nil
      · simp only at hk hk'
        split at hk
        · split at hk'
          · exact h4 k k' p hk hk'
          · cases hk'
        · cases hk
    have hp5 := eh4 _ _ (eh3 _ _ hp)
    have nrD : r ≠ Dl := fun z => nr (Or.inr (by rw [z]; exact List.mem_cons_self))
    have nrq : r ∉ qs := fun z => nr (Or.inr (List.mem_cons_of_mem _ z))
    have ndq := List.nodup_cons.mp nd
    have lq := own2_len hv
    rw [List.length_map, List.length_range] at lq
    refine ⟨_, hp5, ?_, G4, qs ++ [r], eg'.trans (eg3.trans eg4), (eh'.trans (eh3.trans eh4)).mut hD, fun u hu => ?_, ?_, ?_, ?_, ?_⟩
    · rw [List.length_map, lq]
      exact Nat.lt_of_le_of_lt hi (Nat.lt_of_lt_of_le hn (by decide))
    · rcases List.mem_cons.mp hu with z | z
      · rw [z]; exact nf
      · rcases List.mem_append.mp z with z | z
        · exact hf u (List.mem_cons_of_mem _ z)
        · rw [List.mem_singleton.mp z]; exact fun w => nr (Or.inl w)
    · refine List.nodup_cons.mpr ⟨fun z => ?_, ?_⟩
      · rcases List.mem_append.mp z with z | z
        · exact ndq.1 z
        · exact nrD (List.mem_singleton.mp z).symm
      · rw [List.nodup_append]
        refine ⟨ndq.2, by simp, fun a ha b hb e => ?_⟩
        rw [List.mem_singleton.mp hb] at e
        exact nrq (e ▸ ha)
    · obtain ⟨ow, h1, h2, h3, h4⟩ := S5.ow
      refine ⟨S5.ex.mut (S5.fo Dl (Or.inr List.mem_cons_self)).1, fun a fa => ⟨(S5.fo a fa).1, ?_⟩, S5.len, ow, fun i l hl => locOk_mono (Ex.refl _) (fun p hp => upd_ne fun z => (h2 i p hp).2.2 (Or.inr (by rw [z]; exact List.mem_cons_self))) (h1 i l hl), fun i p hp => ⟨(h2 i p hp).1, ?_, (h2 i p hp).2.2⟩, h3, h4⟩
      · by_cases hz : a = Dl
        · rw [hz]; exact nt_lst upd_same
        · exact nt_eq (S5.fo a fa).2 (upd_ne hz)
      · exact nt_eq (h2 i p hp).2.1 (upd_ne fun z => (h2 i p hp).2.2 (Or.inr (by rw [z]; exact List.mem_cons_self)))
    · rw [upd_same, List.map_append]
      rfl
    · rw [List.range_succ, List.map_append]
      have g4 : Own2 K G4 H4 qs ((List.range i).map f) := own2_mono (eg3.trans eg4) (fun u hu => ex_eq (eh3.trans eh4) (S'.fo u (Or.inr (List.mem_cons_of_mem _ hu))).2) hv
      refine own2_mono (H := H4) (Ex.refl _) (fun u hu => upd_ne fun z => ?_) (own2_app hr hws g4)
      rcases List.mem_append.mp hu with w | w
      · exact ndq.1 (z ▸ w)
      · exact nrD ((List.mem_singleton.mp w).symm.trans z)
  · have e : i = n := by omega
    subst e
    exact .inl ⟨hstop G1 Jt H' hJ (eg'.trans S'.ex), q Dl qs G' H' (eg1.trans eg') (eh1.trans eh') hf nd S' hp hv⟩
end
section
variable {C : Cs} {ls : List Loc} {e elt a b : Expr} {d : D} {ds : List D} {dss : List (List D)} {pos p1 p2 p3 pos' : Pos} {x : Str} {scope : Scope} {P : Post} {rest body : List Stmt}
theorem jn2_lcT [Cold C] {α : Type} {xs : List α} (g : α → D) (z : α) (j : Nat) (f : Nat → List D) (he : JE C ls e (.tup (xs.map g))) (hn : xs.length < 1000000) (hb : ∀ i, i < xs.length → JN (C.blk scope) (ls.set j (.val (g (xs.getD i z)))) elt (f i)) (B : BOk C scope x j p1)
    (hj : ∀ l, ls[j]? = some l → l.keeps = true := by intro _ h; cases h; rfl) (hfs : ∀ i x, foldedSetIterable e (C.X i).env x = pure x := by intro _ _; rfl) :
    JN2 C ls (.ListComp elt [⟨.Name x p1, e, [], 0⟩] scope pos) ((List.range xs.length).map f) := fun F G H σ S xx Q q =>
  ⟨tLc (iTup C.K (eAny C e)) (gName j) (ifAny (C.blk scope) []) (eAny (C.blk scope) elt) [j], pe_lcA (tg := e) (wi := iTup C.K (eAny C e)) B (fun i => kx (p := fun K => PI (C.X i) _ e (iTup K (eAny C e))) i (pi_tup (pe_any C e i))) hfs,
    evN2_lc j xs.length (fun i => g (xs.getD i z)) f (fun G Jt => ∃ a vs, Jt = Itt C.K a ∧ SqT C.K G a vs ∧ DqAll C.K G vs (xs.map g)) hn hj
    (fun F G H σ S xx R q => he F G H σ S xx _ fun v G' H' eg eh S' hv => by
      obtain ⟨a, vs, rfl, ha, hd⟩ := dq_tup hv
      exact ⟨a, rfl, ⟨vs, ex_t S'.ex ha⟩, q _ G' H' eg eh S' ⟨a, vs, rfl, ha, hd⟩⟩)
    (fun G Jt H hJ e => by
      obtain ⟨a, vs, rfl, ha, hd⟩ := hJ
      exact ⟨vs, ex_t e ha, by rw [hd.length, List.length_map]; exact Nat.le_refl _⟩)
    (fun G Jt H i hJ e hi => by
      obtain ⟨a, vs, rfl, ha, hd⟩ := hJ
      exact ⟨vs, vs[i]'(by rw [hd.length, List.length_map]; exact hi), ex_t e ha, List.getElem?_eq_getElem _⟩)
    (fun G Jt H i x H1 hJ e hi y => by
      obtain ⟨a, vs, rfl, ha, hd⟩ := hJ
      obtain ⟨rfl, y⟩ := y
      have hx := y vs (ex_t e ha)
      obtain ⟨d, e1, e2⟩ := hd.get' hx
      refine ⟨rfl, ?_⟩
      rw [List.getElem?_map, List.getElem?_eq_getElem hi] at e1
      cases e1
      rw [List.getD_eq_getElem?_getD, List.getElem?_eq_getElem hi]
      exact e2) hb (ifAny (C.blk scope) []) (fun i hi => (ji_nil : JI (C.blk scope) (ls.set j (.val (g (xs.getD i z)))) [] true)) F G H σ S xx Q q⟩
theorem jb_setN2 (i : Nat) {x : Str} (he : JN2 C ls e dss) (k : JB C (ls.set i (.own2 dss)) rest P) (hi : C.N[i]? = some x := by rfl) (hx : ∀ j, L2.Loc (C.X j).env.scope x := by intro _; first | exact .inl rfl | exact .inr rfl)
    (hs : ∀ j, swapsWith e (some (.Name x pos')) pos.line (C.X j).env = pure false := by intro _; rfl) (hf : ∀ j, (C.X j).fn x = true ∨ (C.X j).env.scope.names.lookup x = some .local := by intro _; first | exact .inl rfl | exact .inr rfl) : JB C ls (.Assign [.Name x pos'] e pos :: rest) P :=
  jb_cons (fun l => l = ls.set i (.own2 dss)) (js_of (fun j => ps_set (i := i) (by rw [C.hN]; exact C.nd) (by rw [C.hN]; exact hi) (hx j) (pe_any C e j) (hs j) (hf j)) fun F G H σ D' S f => he F G H σ S (f.xok S) _ fun p qs G' H' eg eh nf nd S' hp hv => f.nx G' H' _ _ eg (S.kp eh) (sat_setN2 S' nf nd hp hv) rfl) fun _ h => h ▸ k
/-- name = [..], by the store that CPython folds into the comprehension -/
theorem ps_lcA [Cold C] {tg iter : Expr} {ifs : List Expr} {wi : TI} {i j : Nat} {y : Str} {py spos : Pos} (B : BOk C scope x j p1) (hi : ∀ i, PI (C.X i) (.Name x p1) iter wi) (hs : ∀ i y, foldedSetIterable iter (C.X i).env y = pure y) (hy : C.N[i]? = some y) (hyl : ∀ k, (C.X k).env.scope.names.lookup y = some .local)
    (hsw : ∀ k, swapsWith (.ListComp elt [⟨.Name x p1, iter, ifs, 0⟩] scope pos) (some (.Name y py)) spos.line (C.X k).env = pure true) (k : C.ι) :
    PS (C.X k) (.Assign [.Name y py] (.ListComp elt [⟨.Name x p1, iter, ifs, 0⟩] scope pos) spos) (tAsg (tLc wi (gName j) (ifAny (C.blk scope) ifs) (eAny (C.blk scope) elt) [j]) (gName i)) :=
  ps_setLc (own := [(x, j)]) (C.calm k Cold.h) (by rw [C.hN]; exact C.nd) (by rw [C.hN]; exact hy) (hyl k) (hsw k) (hi k) (by rw [C.hN]; exact B.b k) (fun s H Cc cl fp => B.g (k, s, H, Cc, cl, fp)) (fun s H Cc cl fp => pif_any (C.blk scope) ifs (k, s, H, Cc, cl, fp)) (fun s H Cc cl fp => pe_any (C.blk scope) elt (k, s, H, Cc, cl, fp)) (hs k)
/-- a list of own lists frozen -/
theorem dqAll_refs {K : Fg} {G H : Hp} : ∀ {qs : List Addr} {dss : List (List D)}, Own2 K G H qs dss → (∀ q ∈ qs, ∀ o, H q = some o → G q = some o) → DqAll K G (qs.map V.ref) (dss.map D.lst)
  | [], [], _, _ => .nil
  | q :: qs, ds :: dss, ⟨⟨vs, h1, h2⟩, h⟩, e => .cons (.lst (e q List.mem_cons_self _ h1) h2) (dqAll_refs h fun r hr => e r (List.mem_cons_of_mem _ hr))
end
section
variable {K : Fg} {F : Addr → Prop} {G H : Hp} {σ : L2.St} {ls : List Loc}
theorem Sat.thaw2 (S : Sat K F G H σ ls) {i : Nat} {dss : List (List D)} (h : ls[i]? = some (.own2 dss)) : ∃ G', Ex G G' ∧ (∀ a, F a → G' a = none) ∧ Sat K F G' H σ (ls.set i (.val (.lst (dss.map D.lst)))) := by
  obtain ⟨p, qs, e1, e2, e3, e4, e5⟩ := S.own2At h
  obtain ⟨ow, h1, h2, h3, h4⟩ := S.ow
  obtain ⟨p', qs', e0, e, hh, hv⟩ := h1 i _ h
  have ep : p' = p := by
    rw [List.getD_eq_getElem?_getD, e1] at e
    cases e; rfl
  subst ep
  rw [e2] at hh
  have eqs : qs = qs' := refs_inj (HO.lst.inj (Option.some.inj hh))
  subst eqs
  let G' : Hp := fun a => if a ∈ p' :: qs then H a else G a
  have g1 : ∀ a, a ∈ p' :: qs → G' a = H a := fun a ha => if_pos ha
  have g2 : ∀ a, a ∉ p' :: qs → G' a = G a := fun a ha => if_neg ha
  have eg : Ex G G' := fun a o ha => by
    by_cases hm : a ∈ p' :: qs
    · rw [(e5 a hm).1] at ha; cases ha
    · rw [g2 a hm]; exact .of ha
  have fg : ∀ a, F a → G' a = none := fun a fa => by
    rw [g2 a fun z => (e5 a z).2 fa]; exact (S.fo a fa).1
  refine ⟨G', eg, fg, fun a u ha => ?_, fun a fa => ⟨fg a fa, (S.fo a fa).2⟩, by rw [List.length_set]; exact S.len, owSet ow i [], fun j l hl => ?_, fun j q hq => ?_, fun j => ?_, fun j k q hj hk => ?_⟩
  · by_cases hm : a ∈ p' :: qs
    · rw [g1 a hm] at ha; exact .of ha
    · rw [g2 a hm] at ha; exact S.ex a u ha
  · by_cases hj : j = i
    · subst hj
      rw [List.getElem?_set_self (List.getElem?_eq_some_iff.mp h).1] at hl
      cases hl
      rw [owSet_same]
      refine ⟨rfl, .ref p', e, .lst (by rw [g1 _ List.mem_cons_self]; exact e2) (dqAll_refs (own2_mono eg (fun _ _ => rfl) e3) fun q hq o ho => by rw [g1 q (List.mem_cons_of_mem _ hq)]; exact ho)⟩
    · rw [List.getElem?_set_ne (Ne.symm hj)] at hl
      rw [owSet_ne hj]
      exact locOk_mono eg (fun _ _ => rfl) (h1 j l hl)
  · by_cases hj : j = i
    · subst hj; rw [owSet_same] at hq; cases hq
    · rw [owSet_ne hj] at hq
      obtain ⟨a, b, c⟩ := h2 j q hq
      refine ⟨?_, b, c⟩
      rw [g2 q fun z => hj (h4 j i q hq (by rw [e0]; exact z))]
      exact a
  · by_cases hj : j = i
    · subst hj; rw [owSet_same]; exact List.nodup_nil
    · rw [owSet_ne hj]; exact h3 j
  · by_cases ej : j = i
    · subst ej; rw [owSet_same] at hj; cases hj
    · by_cases ek : k = i
      · subst ek; rw [owSet_same] at hk; cases hk
      · rw [owSet_ne ej] at hj; rw [owSet_ne ek] at hk; exact h4 j k q hj hk
end
theorem jb_thaw2 {C : Cs} {ls : List Loc} {dss : List (List D)} {P : Post} {body : List Stmt} (i : Nat) (hl : ls[i]? = some (.own2 dss)) (k : JB C (ls.set i (.val (.lst (dss.map D.lst)))) body P) : JB C ls body P := fun F G H σ D' S f => by
  obtain ⟨G', eg, fg, S'⟩ := S.thaw2 hl
  exact k F G' H σ D' S' (f.step eg Kp.refl)
end Qp

/-! Q10: a row put into a list of own lists; equality of data. -/
namespace Qp
open PySem PySem.Spec PyProof.Rows L2
theorem refs_set (qs : List Addr) (y : Nat) (r : Addr) : (qs.map V.ref).set y (.ref r) = (qs.set y r).map V.ref := by rw [List.map_set]
theorem own2_put {K : Fg} {G H : Hp} {r : Addr} {vs : List V} {es : List D} (hq : H r = some (.lst vs)) (hv : DqAll K G vs es) : ∀ (qs : List Addr) (dss : List (List D)) (y : Nat), Own2 K G H qs dss → Own2 K G H (qs.set y r) (dss.set y es) := by
  intro qs
  induction qs with
  | nil =>
    intro dss y h
    cases dss with
    | nil => exact True.intro
    | cons _ _ => exact h.elim
  | cons q qs ih =>
    intro dss y h
    cases dss with
    | nil => exact h.elim
    | cons ds dss =>
      cases y with
      | zero => exact ⟨⟨vs, hq, hv⟩, h.2⟩
      | succ y => exact ⟨h.1, ih dss y h.2⟩
theorem mem_set {qs : List Addr} {y : Nat} {r q : Addr} (h : q ∈ qs.set y r) : q = r ∨ q ∈ qs := by
  induction qs generalizing y with
  | nil => cases h
  | cons a qs ih =>
    cases y with
    | zero => exact (List.mem_cons.mp h).elim Or.inl fun z => Or.inr (List.mem_cons_of_mem _ z)
    | succ y => exact (List.mem_cons.mp h).elim (fun z => Or.inr (by rw [z]; exact List.mem_cons_self)) fun z => (ih z).elim Or.inl fun w => Or.inr (List.mem_cons_of_mem _ w)
theorem nodup_set {qs : List Addr} {y : Nat} {r : Addr} (hr : r ∉ qs) (nd : qs.Nodup) : (qs.set y r).Nodup := by
  induction qs generalizing y with
  | nil => exact nd
  | cons a qs ih =>
    have n := List.nodup_cons.mp nd
    cases y with
    | zero => exact List.nodup_cons.mpr ⟨fun z => hr (List.mem_cons_of_mem _ z), n.2⟩
    | succ y => exact List.nodup_cons.mpr ⟨fun z => (mem_set z).elim (fun w => hr (by rw [w]; exact List.mem_cons_self)) n.1, ih (fun z => hr (List.mem_cons_of_mem _ z)) n.2⟩
/-- a new list becomes one of the rows -/
theorem Sat.putRow {K : Fg} {F : Addr → Prop} {G H : Hp} {σ : L2.St} {ls : List Loc} {p r : Addr} (S : Sat K (fun a => F a ∨ a = r) G H σ ls) (nr : ¬ F r) {i y : Nat} {dss : List (List D)} {qs : List Addr} {ws : List V} {es : List D} (h : ls[i]? = some (.own2 dss)) (hp : σ[i]? = some (some (V.ref p))) (hq0 : H p = some (.lst (qs.map V.ref)))
    (hr : H r = some (.lst ws)) (hw : DqAll K G ws es) : Sat K F G (upd H p (.lst ((qs.set y r).map V.ref))) σ (ls.set i (.own2 (dss.set y es))) := by
  obtain ⟨ow, h1, h2, h3, h4⟩ := S.ow
  obtain ⟨p', qs', e0, e, hh, hv⟩ := h1 i _ h
  have ep : p' = p := by
    rw [List.getD_eq_getElem?_getD, hp] at e
    cases e; rfl
  subst ep
  rw [hq0] at hh
  have eq : qs = qs' := refs_inj (HO.lst.inj (Option.some.inj hh))
  subst eq
  have nro : ∀ j, r ∉ ow j := fun j z => (h2 j r z).2.2 (Or.inr rfl)
  have pi : p' ∈ ow i := by rw [e0]; exact List.mem_cons_self
  have npr : p' ≠ r := fun z => nro i (z ▸ pi)
  have nd := h3 i
  rw [e0] at nd
  have ndc := List.nodup_cons.mp nd
  have nrq : r ∉ qs := fun z => nro i (by rw [e0]; exact List.mem_cons_of_mem _ z)
  obtain ⟨gp, hn, nf⟩ := h2 i p' pi
  obtain ⟨gr, hnr⟩ := S.fo r (Or.inr rfl)
  refine ⟨S.ex.mut gp, fun a fa => ?_, by rw [List.length_set]; exact S.len, owSet ow i (p' :: qs.set y r), fun j l hl => ?_, fun j q hq => ?_, fun j => ?_, fun j k q hj hk => ?_⟩
  · have ne : a ≠ p' := fun z => nf (Or.inl (z ▸ fa))
    exact ⟨(S.fo a (Or.inl fa)).1, nt_eq (S.fo a (Or.inl fa)).2 (upd_ne ne)⟩
  · by_cases hj : j = i
    · subst hj
      rw [List.getElem?_set_self (List.getElem?_eq_some_iff.mp h).1] at hl
      cases hl
      rw [owSet_same]
      refine ⟨p', qs.set y r, rfl, e, upd_same, ?_⟩
      have hv2 : Own2 K G (upd H p' (.lst ((qs.set y r).map V.ref))) qs dss := own2_mono (Ex.refl G) (fun q hq => upd_ne fun z => ndc.1 (z ▸ hq)) hv
      exact own2_put (by rw [upd_ne npr.symm]; exact hr) hw qs dss y hv2
    · rw [List.getElem?_set_ne (Ne.symm hj)] at hl
      rw [owSet_ne hj]
      exact locOk_mono (Ex.refl G) (fun q hq => upd_ne fun z => hj (h4 j i p' (z ▸ hq) pi)) (h1 j l hl)
  · by_cases hj : j = i
    · subst hj
      rw [owSet_same] at hq
      rcases List.mem_cons.mp hq with z | z
      · subst z
        exact ⟨gp, nt_lst upd_same, fun w => nf (Or.inl w)⟩
      · rcases mem_set z with z | z
        · subst z
          exact ⟨gr, nt_eq hnr (upd_ne npr.symm), nr⟩
        · have hq2 := h2 j q (by rw [e0]; exact List.mem_cons_of_mem _ z)
          have nqp : q ≠ p' := fun w => ndc.1 (w ▸ z)
          exact ⟨hq2.1, nt_eq hq2.2.1 (upd_ne nqp), fun w => hq2.2.2 (Or.inl w)⟩
    · rw [owSet_ne hj] at hq
      have hq2 := h2 j q hq
      have nqp : q ≠ p' := fun z => hj (h4 j i p' (z ▸ hq) pi)
      exact ⟨hq2.1, nt_eq hq2.2.1 (upd_ne nqp), fun w => hq2.2.2 (Or.inl w)⟩
  · by_cases hj : j = i
    · subst hj
      rw [owSet_same]
      exact List.nodup_cons.mpr ⟨fun z => (mem_set z).elim npr ndc.1, nodup_set nrq ndc.2⟩
    · rw [owSet_ne hj]; exact h3 j
  · have key : ∀ a b, a ≠ i → b = i → q ∈ ow a → q ∈ owSet ow i (p' :: qs.set y r) b → False := fun a b ha hb h5 h6 => by
      subst hb
      rw [owSet_same] at h6
      rcases List.mem_cons.mp h6 with z | z
      · subst z; exact ha (h4 a b q h5 pi)
      · rcases mem_set z with z | z
        · subst z; exact nro a h5
        · exact ha (h4 a b q h5 (by rw [e0]; exact List.mem_cons_of_mem _ z))
    by_cases ej : j = i
    · by_cases ek : k = i
      · rw [ej, ek]
      · rw [owSet_ne ek] at hk; exact (key k j ek ej hk hj).elim
    · rw [owSet_ne ej] at hj
      by_cases ek : k = i
      · exact (key j k ej ek hj hk).elim
      · rw [owSet_ne ek] at hk; exact h4 j k q hj hk
section
variable {C : Cs} {ls : List Loc} {e a b c : Expr} {d d1 d2 : D} {ds es : List D} {dss : List (List D)} {pos pos' p1 p2 p3 : Pos} {P : Post} {rest body : List Stmt}
/-- rows[y] = a new list -/
theorem js_setRow (i : Nat) {x : Str} {y : Nat} (he : JN C ls e es) (hb : JE C ls b (.int y)) (hl : ls[i]? = some (.own2 dss)) (hy : y < dss.length) (hn : P.nx (ls.set i (.own2 (dss.set y es)))) (hi : C.N[i]? = some x := by rfl)
    (hv : ∀ j, Vis (C.X j).env.scope x := by intro _; first | exact Or.inl rfl | exact Or.inr (Or.inl rfl) | exact Or.inr (Or.inr rfl)) (hd : (x == ("__debug__" : Str)) = false := by decide) (hcd : (x == ("__classdict__" : Str)) = false := by decide)
    (ha : ∀ j v, assign (.Subscript (.Name x p1) b p2) (C.X j).env v = (do
      let ov ← holding [v] (eval (.Name x p1) (C.X j).env)
      let iv ← holding [v, ov] (eval b (C.X j).env)
      standAt p2
      holding [v, ov, iv] (setItem ov iv v)
      release [v, ov, iv] []) := by intro _ _; rfl)
    (hs : ∀ j, swapsWithSole [.Subscript (.Name x p1) b p2] e pos.line (C.X j).env = pure false := by intro _; rfl) (hw : ∀ j, swappedStores [.Subscript (.Name x p1) b p2] e (C.X j).env = pure none := by intro _; rfl) (h1 : ∀ j, (assignEach [.Subscript (.Name x p1) b p2] (C.X j).env).map (·.2) = [assign (.Subscript (.Name x p1) b p2) (C.X j).env] := by intro _; rfl) :
    JS C ls (.Assign [.Subscript (.Name x p1) b p2] e pos) P :=
  js_of (fun j => ps_asg (pe_any C e j) (pg_sub (pe_var (i := i) (by rw [C.hN]; exact hi) (hv j) hd hcd) (pe_any C b j) set_list (ha j)) (hs j) (hw j) (h1 j)) fun F G H σ D' S f => he F G H σ S (f.xok S) _ fun r ws G1 H1 eg1 eh1 nr S1 hr hws => by
    obtain ⟨p, qs, ep, hp, hv, nd, hf⟩ := S1.own2At hl
    have x1 : Xok C.K C.E (fun a => F a ∨ a = r) G1 H1 σ ls := ⟨fun P h => (f.tb P h).mono eg1, fun p h => (f.dx p h).mono eg1, fun G' H' Cx dd fs gs eg eh S' => (f.xok S).ex G' H' Cx dd fs gs (eg1.trans eg) (eh1.trans eh) (S'.sub fun a fa => Or.inl fa)⟩
    refine ⟨.ref p, ep, hb _ G1 H1 σ S1 x1 _ fun z G2 H2 eg2 eh2 S2 hz => ?_⟩
    have hp2 := eh2 _ _ hp
    have lq := own2_len hv
    refine ⟨p, qs.map V.ref, y, y, rfl, dq_int hz, hp2, ?_, ?_⟩
    · rw [List.length_map]
      unfold ixN
      rw [if_pos (by omega), if_pos (by omega)]
      simp
    · rw [refs_set]
      exact f.nx G2 _ σ _ (eg1.trans eg2) ((S.kp (eh1.trans eh2)).put (nt_lst hp2) fun fa => (hf p List.mem_cons_self).2 (Or.inl fa)) (S2.putRow nr hl ep hp2 (eh2 _ _ hr) (dqAll_mono eg2 hws)) hn
end
/-! ### equality -/
mutual
def D.py : D → PyData
  | .non => .none
  | .bl b => .bool b
  | .int i => .int i
  | .str x => .str x
  | .lst xs => .list (pyAll xs)
  | .tup xs => .tuple (pyAll xs)
  | .scr _ => .none
  | .ref _ => .none
  | .ty _ => .none
  | .exc _ _ _ => .none
  | .hand _ _ => .none
  | .loose _ _ => .none
def pyAll : List D → List PyData
  | [] => []
  | d :: ds => d.py :: pyAll ds
end
mutual
/-- made of what Python compares by value -/
def D.plain : D → Bool
  | .non => true
  | .bl _ => true
  | .int _ => true
  | .str _ => true
  | .lst xs => plainAll xs
  | .tup xs => plainAll xs
  | .scr _ => false
  | .ref _ => false
  | .ty _ => false
  | .exc _ _ _ => false
  | .hand _ _ => false
  | .loose _ _ => false
def plainAll : List D → Bool
  | [] => true
  | d :: ds => d.plain && plainAll ds
end
mutual
theorem dp_of {K : Fg} {G : Hp} : ∀ {v : V} {d : D}, Dq K G v d → d.plain = true → Dp K G v d.py
  | _, _, .non, _ => .non
  | _, _, .bl b, _ => .bl b
  | _, _, .int i, _ => .int i
  | _, _, .str x, _ => .str x
  | _, _, .lst h a, p => .lst (SqL.of h) (dpAll_of a (by simpa [D.plain] using p))
  | _, _, .tup h a, p => .tup h (dpAll_of a (by simpa [D.plain] using p))
  | _, _, .scr _, p => by simp [D.plain] at p
  | _, _, .ref _, p => by simp [D.plain] at p
  | _, _, .ty _, p => by simp [D.plain] at p
  | _, _, .exc _ _ _, p => by simp [D.plain] at p
  | _, _, .hand _ _ _, p => by simp [D.plain] at p
  | _, _, .loose _, p => by simp [D.plain] at p
theorem dpAll_of {K : Fg} {G : Hp} : ∀ {vs : List V} {ds : List D}, DqAll K G vs ds → plainAll ds = true → DpAll K G vs (pyAll ds)
  | _, _, .nil, _ => .nil
  | _, _, .cons (d := d) (ds := ds) h a, p => by
    have p' : d.plain = true ∧ plainAll ds = true := by simpa [plainAll] using p
    exact .cons (dp_of h p'.1) (dpAll_of a p'.2)
end
mutual
theorem dp_mono {K : Fg} {H H' : Hp} (e : Ex H H') : ∀ {v : V} {d : PyData}, Dp K H v d → Dp K H' v d
  | _, _, .non => .non
  | _, _, .bl b => .bl b
  | _, _, .int i => .int i
  | _, _, .str x => .str x
  | _, _, .lst h a => .lst (ex_l e h) (dpAll_mono e a)
  | _, _, .tup h a => .tup (ex_t e h) (dpAll_mono e a)
theorem dpAll_mono {K : Fg} {H H' : Hp} (e : Ex H H') : ∀ {vs : List V} {ds : List PyData}, DpAll K H vs ds → DpAll K H' vs ds
  | _, _, .nil => .nil
  | _, _, .cons h a => .cons (dp_mono e h) (dpAll_mono e a)
end
structure Shp (d : D) : Prop where
  pl : d.plain = true
  sh : SeqAt.shaped d.py = true
section
variable {C : Cs} {ls : List Loc} {e a b : Expr} {d d1 d2 : D} {pos : Pos} {ds es : List D}
theorem op_eqD' (C : Cs) (j : C.ι) : OpR (C.X j) (compareOp .Eq) (rEqD C.K) := kx (p := fun K => OpR (C.X j) (compareOp .Eq) (rEqD K)) j (op_eqD (C.hu j))
theorem op_neD' (C : Cs) (j : C.ι) : OpR (C.X j) (compareOp .NotEq) (rNeD C.K) := kx (p := fun K => OpR (C.X j) (compareOp .NotEq) (rNeD K)) j (op_neD (C.hu j))
theorem je_eqD (ha : JE C ls a d1) (hb : JE C ls b d2) (h1 : Shp d1) (h2 : Shp d2) : JE C ls (.Compare a [.Eq] [b] pos) (.bl (PyData.eqv d1.py d2.py)) :=
  je_of (fun j => pe_cmpR (op_eqD' C j) (pe_any C a j) (pe_any C b j) (nomark _)) (ev_op ha hb fun G H x y Q eg hx hy q => ⟨_, _, dp_mono eg (dp_of hx h1.pl), dp_mono eg (dp_of hy h2.pl), h1.sh, h2.sh, q _ (.bl _)⟩)
theorem je_neD (ha : JE C ls a d1) (hb : JE C ls b d2) (h1 : Shp d1) (h2 : Shp d2) : JE C ls (.Compare a [.NotEq] [b] pos) (.bl (!PyData.eqv d1.py d2.py)) :=
  je_of (fun j => pe_cmpR (op_neD' C j) (pe_any C a j) (pe_any C b j) (nomark _)) (ev_op ha hb fun G H x y Q eg hx hy q => ⟨_, _, dp_mono eg (dp_of hx h1.pl), dp_mono eg (dp_of hy h2.pl), h1.sh, h2.sh, q _ (.bl _)⟩)
theorem jt_eqD (ha : JE C ls a d1) (hb : JE C ls b d2) (h1 : Shp d1) (h2 : Shp d2) : JT C ls (.Compare a [.Eq] [b] pos) (PyData.eqv d1.py d2.py) :=
  jt_of (fun j => pt_cmpR (op_eqD' C j) (pe_any C a j) (pe_any C b j) (nomark _)) (evT_test (ev_op ha hb fun G H x y Q eg hx hy q => ⟨_, _, dp_mono eg (dp_of hx h1.pl), dp_mono eg (dp_of hy h2.pl), h1.sh, h2.sh, q _ (.bl _)⟩))
theorem jt_neD (ha : JE C ls a d1) (hb : JE C ls b d2) (h1 : Shp d1) (h2 : Shp d2) : JT C ls (.Compare a [.NotEq] [b] pos) (!PyData.eqv d1.py d2.py) :=
  jt_of (fun j => pt_cmpR (op_neD' C j) (pe_any C a j) (pe_any C b j) (nomark _)) (evT_test (ev_op ha hb fun G H x y Q eg hx hy q => ⟨_, _, dp_mono eg (dp_of hx h1.pl), dp_mono eg (dp_of hy h2.pl), h1.sh, h2.sh, q _ (.bl _)⟩))
/-- lists of ints -/
theorem plain_iL : ∀ ns : List Int, plainAll (iL ns) = true
  | [] => rfl
  | n :: r => by
    show (true && plainAll (iL r)) = true
    rw [plain_iL r]
    rfl
theorem py_iL : ∀ ns : List Int, pyAll (iL ns) = ns.map PyData.int
  | [] => rfl
  | n :: r => by
    show PyData.int n :: pyAll (iL r) = PyData.int n :: r.map PyData.int
    rw [py_iL r]
theorem can_ints : ∀ ns : List Int, PyData.canLayAll0 (ns.map PyData.int) = true
  | [] => by simp [PyData.canLayAll0]
  | n :: r => by
    rw [List.map_cons]
    simp only [PyData.canLayAll0, PyData.canLay0]
    rw [can_ints r]
    rfl
theorem depth_ints : ∀ ns : List Int, PyData.depthAll (ns.map PyData.int) ≤ 1
  | [] => by simp [PyData.depthAll]
  | n :: r => by
    rw [List.map_cons]
    simp only [PyData.depthAll, PyData.depth]
    have := depth_ints r
    omega
theorem shp_ints (ns : List Int) : Shp (.lst (iL ns)) := ⟨by simp only [D.plain]; exact plain_iL ns, by
  unfold SeqAt.shaped
  simp only [D.py, PyData.canLay0, PyData.depth]
  rw [py_iL, can_ints]
  have := depth_ints ns
  simp only [Bool.true_and, decide_eq_true_eq]
  omega⟩
theorem eqv_ints : ∀ ns ms : List Int, PyData.eqvAll (ns.map PyData.int) (ms.map PyData.int) = decide (ns = ms)
  | [], [] => by simp [PyData.eqvAll]
  | [], _ :: _ => by simp [PyData.eqvAll]
  | _ :: _, [] => by simp [PyData.eqvAll]
  | n :: r, m :: s => by
    rw [List.map_cons, List.map_cons]
    simp only [PyData.eqvAll]
    rw [eqv_ints r s]
    by_cases h : n = m <;> by_cases h2 : r = s <;> simp [PyData.eqv, h, h2]
theorem eqv_lists (ns ms : List Int) : PyData.eqv (D.lst (iL ns)).py (D.lst (iL ms)).py = decide (ns = ms) := by
  simp only [D.py]
  rw [py_iL, py_iL]
  simp only [PyData.eqv]
  exact eqv_ints ns ms
/-- a test that looks at the own list of slot i -/
theorem jt_peek (i : Nat) {k : Bool} (h : JT C (ls.set i (.val (.lst ds))) e k) (hl : ls[i]? = some (.own ds) := by rfl) (hx : ∀ l c gs, ¬ C.E.xp l c gs := by intro _ _ _ z; exact z) : JT C ls e k := fun F G H σ S xx Q q => by
  obtain ⟨p, vs, ep, hpv, hv, gp, nf⟩ := S.ownAt hl
  obtain ⟨G1, eg, fg, S1⟩ := S.thaw hl
  have x1 : Xok C.K C.E F G1 H σ (ls.set i (.val (.lst ds))) := ⟨fun P h => (xx.tb P h).mono eg, fun p h => (xx.dx p h).mono eg, fun _ _ _ _ _ _ _ _ _ _ _ z => (hx _ _ _ z).elim⟩
  refine h F G1 H σ S1 x1 Q fun G3 H3 eg3 eh3 S3 => ?_
  obtain ⟨e2, S4⟩ := S.unthaw hl ep S3 (eg.trans eg3) eh3
  exact q _ H3 e2 eh3 S4
theorem iL_set (xs : List Int) (k : Nat) (x : Int) : (iL xs).set k (.int x) = iL (xs.set k x) := by
  unfold iL
  rw [List.map_set]
end
end Qp

/-! Q11: ranges with a start, with a step; more comprehensions. -/
namespace Qp
open PySem PySem.Spec PyProof.Rows L2
theorem range2' {C : Cs} (j : C.ι) {tg a b : Expr} {p pos : Pos} (hg : Gl (C.X j) "range") (hm : NoG C "range") (hs : NS a) (hs2 : NS b) : PI (C.X j) tg (.Call (.Name "range" p) [a, b] [] pos) (iRng2 (tCons (eAny C a) (tCons (eAny C b) tNil))) :=
  pi_range2 hg (noG hm j) (pa_cons (pe_any C a j) (pa_cons (pe_any C b j) pa_nil (hs2 _ _)) (hs _ _)) ((hs _ _).trans (congrArg _ (hs2 _ _))) (hs2 _ _)
section
variable {C : Cs} {ls : List Loc} {e e2 elt a b : Expr} {d : D} {ds : List D} {dss : List (List D)} {pos p1 p2 p3 pos' : Pos} {scope : Scope} {ifs : List Expr} {P : Post} {rest body : List Stmt}
/-- for x in range(a, b) -/
theorem js_forR2 [Cold C] {lo hi : Int} {x : Str} {p1 p2 p3 : Pos} (j : Nat) (Pv : Nat → List Loc → Prop) (ha : JE C ls e (.int lo)) (hb2 : JE C ls e2 (.int hi)) (hr : -(2 ^ 61) ≤ lo ∧ lo < 2 ^ 61 ∧ -(2 ^ 61) ≤ hi ∧ hi < 2 ^ 61) (h0 : Pv 0 ls) (hb : ∀ (i : Nat) ls', i < (hi - lo).toNat → Pv i ls' → JB C (ls'.set j (.val (.int (lo + i)))) body { nx := Pv (i + 1), rt := P.rt, bk := P.nx, ct := Pv (i + 1) })
    (hd : ∀ ls', Pv (hi - lo).toNat ls' → P.nx ls') (hm : NoG C "range" := by assumption) (hg : ∀ j, Gl (C.X j) "range" := by intro _; rfl) (hs : NS e := by intro _ _; rfl) (hs2 : NS e2 := by intro _ _; rfl) (hi' : C.N[j]? = some x := by rfl) (hx : ∀ i, L2.Loc (C.X i).env.scope x := by intro _; first | exact .inl rfl | exact .inr rfl)
    (hf : ∀ i, (C.X i).fn x = true ∨ (C.X i).env.scope.names.lookup x = some .local := by intro _; first | exact .inl rfl | exact .inr rfl) (hp : ∀ i, PassesOwn (model (C.X i).prog (C.X i).w) (C.X i).A (C.X i).env (C.X i).xe := by intro q; first | exact PassesOwn.never | exact passes_of rfl | exact q.owns) (hfs : ∀ i x, foldedSetIterable (.Call (.Name "range" p1) [e, e2] [] p2) (C.X i).env x = pure x := by intro _ _; rfl) :
    JS C ls (.For (.Name x p3) (.Call (.Name "range" p1) [e, e2] [] p2) body [] pos) P :=
  js_of (fun i => ps_for (hp i) (C.calm i Cold.h) (range2' i (hg i) hm hs hs2) (pg_name (i := j) (by rw [C.hN]; exact C.nd) (by rw [C.hN]; exact hi') (hx i) (hf i)) (pb_any C body i) (hfs i))
    (hs_for Pv (hi - lo).toNat (fun _ Jt => Jt = Itr lo (hi - lo).toNat)
      (fun F G H σ S xx R q => (evA_cons (K := C.K) ha (evA_cons (K := C.K) hb2 evA_nil)) F G H σ S xx _ fun vs G' H' eg eh S' hv => by
        cases hv with
        | cons h1 h2 =>
          cases h2 with
          | cons h3 h4 =>
            cases h4
            exact ⟨lo, hi, by rw [dq_int h1, dq_int h3], ⟨by omega, by omega, by omega, by omega⟩, q _ G' H' eg eh S' rfl⟩) h0
      (fun G Jt H hJ e => by subst hJ; exact Nat.le_refl _) (fun G Jt H i hJ e hi => by subst hJ; exact hi)
      (fun F G G0 H σ ls' i x Jt H1 hJ eg hi S p y D' f => by
        subst hJ
        obtain ⟨rfl, rfl⟩ := y
        exact hb i ls' hi p F G H1 _ D' (S.setV (.int _)) f) hd)
/-- lists of own lists made: over a frozen list, over range(e) -/
theorem jn2_lcL [Cold C] {α : Type} {xs : List α} {x : Str} (g : α → D) (z : α) (j : Nat) (f : Nat → List D) (he : JE C ls e (.lst (xs.map g))) (hn : xs.length < 1000000) (hb : ∀ i, i < xs.length → JN (C.blk scope) (ls.set j (.val (g (xs.getD i z)))) elt (f i)) (B : BOk C scope x j p1)
    (hj : ∀ l, ls[j]? = some l → l.keeps = true := by intro _ h; cases h; rfl) (hfs : ∀ i x, foldedSetIterable e (C.X i).env x = pure x := by intro _ _; rfl) :
    JN2 C ls (.ListComp elt [⟨.Name x p1, e, [], 0⟩] scope pos) ((List.range xs.length).map f) := fun F G H σ S xx Q q =>
  ⟨tLc (iList C.K (eAny C e)) (gName j) (ifAny (C.blk scope) []) (eAny (C.blk scope) elt) [j], pe_lcA (tg := e) (wi := iList C.K (eAny C e)) B (fun i => kx (p := fun K => PI (C.X i) _ e (iList K (eAny C e))) i (pi_list (pe_any C e i))) hfs,
    evN2_lc j xs.length (fun i => g (xs.getD i z)) f (fun G Jt => ∃ a vs, Jt = Itl C.K a ∧ G a = some (.lst vs) ∧ DqAll C.K G vs (xs.map g)) hn hj
    (fun F G H σ S xx R q => he F G H σ S xx _ fun v G' H' eg eh S' hv => by
      obtain ⟨a, vs, rfl, ha, hd⟩ := dq_lst hv
      exact ⟨a, rfl, ⟨vs, SqL.of (S'.ex _ _ ha)⟩, q _ G' H' eg eh S' ⟨a, vs, rfl, ha, hd⟩⟩)
    (fun G Jt H hJ e => by
      obtain ⟨a, vs, rfl, ha, hd⟩ := hJ
      exact ⟨vs, SqL.of (e _ _ ha), by rw [hd.length, List.length_map]; exact Nat.le_refl _⟩)
    (fun G Jt H i hJ e hi => by
      obtain ⟨a, vs, rfl, ha, hd⟩ := hJ
      exact ⟨vs, vs[i]'(by rw [hd.length, List.length_map]; exact hi), SqL.of (e _ _ ha), List.getElem?_eq_getElem _⟩)
    (fun G Jt H i x H1 hJ e hi y => by
      obtain ⟨a, vs, rfl, ha, hd⟩ := hJ
      obtain ⟨rfl, y⟩ := y
      have hx := y vs (SqL.of (e _ _ ha))
      obtain ⟨d, e1, e2⟩ := hd.get' hx
      refine ⟨rfl, ?_⟩
      rw [List.getElem?_map, List.getElem?_eq_getElem hi] at e1
      cases e1
      rw [List.getD_eq_getElem?_getD, List.getElem?_eq_getElem hi]
      exact e2) hb (ifAny (C.blk scope) []) (fun i hi => (ji_nil : JI (C.blk scope) (ls.set j (.val (g (xs.getD i z)))) [] true)) F G H σ S xx Q q⟩
theorem jn2_lcR [Cold C] {n : Int} {x : Str} (j : Nat) (f : Nat → List D) (he : JE C ls e (.int n)) (hn : n < 1000000) (hb : ∀ i : Nat, i < n.toNat → JN (C.blk scope) (ls.set j (.val (.int i))) elt (f i)) (B : BOk C scope x j p1)
    (hj : ∀ l, ls[j]? = some l → l.keeps = true := by intro _ h; cases h; rfl) (hm : NoG C "range" := by assumption) (hg : ∀ j, Gl (C.X j) "range" := by intro _; rfl) (hs : NS e := by intro _ _; rfl) (hfs : ∀ i x, foldedSetIterable (.Call (.Name "range" p2) [e] [] p3) (C.X i).env x = pure x := by intro _ _; rfl) (h62 : -(2 ^ 62) ≤ n := by omega) :
    JN2 C ls (.ListComp elt [⟨.Name x p1, .Call (.Name "range" p2) [e] [] p3, [], 0⟩] scope pos) ((List.range n.toNat).map f) := fun F G H σ S xx Q q =>
  ⟨tLc (iRng1 (tCons (eAny C e) tNil)) (gName j) (ifAny (C.blk scope) []) (eAny (C.blk scope) elt) [j], pe_lcA (tg := e) B (fun i => range' i (hg i) hm hs) hfs,
    evN2_lc j n.toNat (fun i => .int i) f (fun _ Jt => Jt = Itr 0 n.toNat) (by omega) hj
    (fun F G H σ S xx R q => he F G H σ S xx _ fun v G' H' eg eh S' hv => ⟨n, by rw [dq_int hv], h62, by omega, q _ G' H' eg eh S' rfl⟩)
    (fun G Jt H hJ e => by subst hJ; exact Nat.le_refl _) (fun G Jt H i hJ e hi => by subst hJ; exact hi)
    (fun G Jt H i x H1 hJ e hi y => by
      subst hJ
      obtain ⟨rfl, rfl⟩ := y
      have e0 : (0 : Int) + (i : Int) = (i : Int) := Int.zero_add _
      exact ⟨rfl, by rw [e0]; exact .int _⟩) hb (ifAny (C.blk scope) []) (fun i hi => (ji_nil : JI (C.blk scope) (ls.set j (.val (.int i))) [] true)) F G H σ S xx Q q⟩
end
end Qp

/-! Q12: a generator expression whose element may do anything that an expression may: its frame as a context, its turns by an invariant; all and any of it. -/
namespace Qp
open PySem PySem.Spec PyProof.Rows L2
/-! ### the frame -/
def gcx (X : Cx) (s4 : Shared) (H4 : Hp) (env : Env) (A : Around) (ex : List Addr) : Cx :=
  { X with A := A, s_0 := s4, H_0 := H4, env := env, outer := X.stack, stack := env :: X.stack, ex := ex, fn := fun _ => false, calm := true, pn := [], xe := fun _ _ => False }
theorem over_loopG {A : Around} {elt : Expr} {gens : List Comprehension} {scope : Scope} {pos : Pos} {it acc : Value} {env : Env} : A.over (.compLoop (.GeneratorExp elt gens scope pos) 0 it acc env) [] = A.deeper env := by
  first
    | rfl
    | (obtain ⟨hd, d, fr, gs, u⟩ := A; simp [Around.over, Around.deeper, marksOver, frameCount, unitsOf, envsOf, guardsOf, pushEnvs, pushGuards, Code.envs, Code.env?, Code.isFrame, Code.guards, Code.isGuard, Code.weight, Code.frames, Code.isCreation, Code.isCaller, Code.cUnits])
theorem over_startG {A : Around} {elt : Expr} {gens : List Comprehension} {scope : Scope} {pos : Pos} {it acc : Value} {env : Env} : A.over (.compStart (.GeneratorExp elt gens scope pos) 0 it acc env) [] = A.deeper env := by
  first
    | rfl
    | (obtain ⟨hd, d, fr, gs, u⟩ := A; simp [Around.over, Around.deeper, marksOver, frameCount, unitsOf, envsOf, guardsOf, pushEnvs, pushGuards, Code.envs, Code.env?, Code.isFrame, Code.guards, Code.isGuard, Code.weight, Code.frames, Code.isCreation, Code.isCaller, Code.cUnits])
/-- what the generator expression's scope must be like, beside its def's names N and scope sc: its one name x in slot j -/
structure GOk (N : List Str) (sc scope : Scope) (x : Str) (j : Nat) : Prop where
  kind : scope.kind = .function
  co : scope.isCoroutine = false
  cell : ∀ y ∈ scope.names, y.2 ≠ .cell
  dot : scope.names.lookup (".0" : Str) = some NameKind.local
  loc : scope.names.lookup x = some .local
  only : ∀ y ∈ scope.names, y.2 = .local → y.1 = x ∨ y.1 = (".0" : Str)
  nodot : (".0" : Str) ∉ N
  at_ : N[j]? = some x
  free : ∀ y ∈ scope.names, y.2 = .free → sc.names.lookup y.1 = some .cell ∨ sc.names.lookup y.1 = some .free
def gokC (N : List Str) (sc scope : Scope) (x : Str) (j : Nat) : Bool :=
  (scope.kind == .function) && !scope.isCoroutine && scope.names.all (fun y => y.2 != .cell) && (scope.names.lookup (".0" : Str) == some NameKind.local) && (scope.names.lookup x == some NameKind.local) &&
    scope.names.all (fun y => y.2 != .local || y.1 == x || y.1 == (".0" : Str)) && N.all (fun y => !(y == (".0" : Str))) && (N[j]? == some x) && scope.names.all (fun y => y.2 != .free || sc.names.lookup y.1 == some NameKind.cell || sc.names.lookup y.1 == some NameKind.free)
theorem nd_at {l : List Str} (nd : l.Nodup) {i j : Nat} {y : Str} (h1 : l[i]? = some y) (h2 : l[j]? = some y) : i = j := by
  obtain ⟨a, e1⟩ := List.getElem?_eq_some_iff.mp h1
  obtain ⟨b, e2⟩ := List.getElem?_eq_some_iff.mp h2
  exact (List.getElem_inj nd).mp (e1.trans e2.symm)
theorem cap_of {cells : List (Str × Addr)} {names : List (Str × NameKind)} {y : Str} {c : Addr} (h : (cloFrom cells names []).lookup y = some c) : (y, NameKind.free) ∈ names ∧ c = (cells.lookup y).getD 0 := by
  rcases cloFrom_mem (PySem.mem_of_lookup h) with z | z
  · cases z
  · exact z
theorem cap_has {cells : List (Str × Addr)} {names : List (Str × NameKind)} {y : Str} {c : Addr} (h : (y, NameKind.free) ∈ names) (hc : cells.lookup y = some c) : (cloFrom cells names []).lookup y = some c := by
  obtain ⟨c', e⟩ := mem_lookup (cloFrom_has (cells := cells) (acc := []) h)
  obtain ⟨_, e2⟩ := cap_of e
  rw [e, e2, hc]
  rfl
section
variable {X : Cx} {pins : List (Addr × Obj)} {σ : L2.St} {H4 : Hp} {s4 s5 : Shared} {scope : Scope} {x : Str} {j : Nat} {fp : List Addr} {it : Value} {code : Value} {a : Addr} {go : Obj}
theorem inv_gen (I : Inv X pins σ H4 s4) (nd : X.N.Nodup) (hd : X.A.handled = none) (S : GOk X.N X.env.scope scope x j) (hf : ∀ b ∈ fp, FpOk X pins H4 b) (hfo : ∀ b ∈ fp, ∃ o, s4.heap.get? b = some o)
    (k : ∀ b o, s4.heap.get? b = some o → s5.heap.get? b = some o) (os : s5.os = s4.os) (bare : AllBare s5.gens) (hn : s5.heap.Ns s4.heap.objs.size (fun y => if y = (".0" : Str) then some it else none)) (ha : s5.heap.get? a = some go) (hal : s4.heap.objs.size < a) (hgo : ∀ v, go.data ≠ .cell v) :
    Inv (gcx X s4 H4 (genEnv scope (cloFrom X.env.cells scope.names []) s4.heap.objs.size code builtinsNs X.env) (X.A.in1.in1.deeper (genEnv scope (cloFrom X.env.cells scope.names []) s4.heap.objs.size code builtinsNs X.env)) fp) [(a, go)] (σ.set j none) H4 s5 := by
  have cl : ∀ y c, (cloFrom X.env.cells scope.names []).lookup y = some c → X.env.cells.lookup y = some c := fun y c h => by
    obtain ⟨h1, h2⟩ := cap_of h
    obtain ⟨c0, h3⟩ := I.ok.has y (S.free _ h1 rfl)
    rw [h3] at h2
    rw [h3, h2]
    rfl
  have fpl : ∀ b ∈ fp, b < s4.heap.objs.size := fun b hb => by
    obtain ⟨o, e⟩ := hfo b hb
    exact Heap.lt_size e
  have frsN : ∀ b, b ∈ frs X.stack → b < s4.heap.objs.size := fun b hb => by
    obtain ⟨_, o, e, _⟩ := I.stack.mem hb
    exact Heap.lt_size e
  refine ⟨⟨I.ok.mod, S.kind, I.ok.glob, rfl, Nat.le_refl _, fun y z c h1 h2 => I.ok.inj y z c (cl y c h1) (cl z c h2), fun y hy => ?_, fun y c z => Bool.noConfusion z, fun _ => hd, ?_, .inr ⟨rfl, rfl⟩, fun b hb => ⟨Nat.ne_of_lt (fpl b hb), fun y c h => (hf b hb).2.2.2.2.1 y c (cl y c h)⟩, I.bs, Nat.le_trans I.ok.bsz I.sz, fun b o e hb => ?_, fun b hb z => ?_, I.stack, I.stkFree⟩,
    os, bare, Un.kept k, ⟨_, hn, fun i y v h1 h2 h3 => ?_⟩, fun y c h => ?_, I.hok.fresh (Nat.le_refl _), fun y c h => I.freeC y c (cl y c h), fun p hp => ?_, I.hok.kept k, ?_⟩
  · have hy' : scope.names.lookup y = some .cell ∨ scope.names.lookup y = some .free := hy
    rcases hy' with h | h
    · exact absurd rfl (S.cell _ (PySem.mem_of_lookup h))
    · have hm := PySem.mem_of_lookup h
      obtain ⟨c, hc⟩ := I.ok.has y (S.free _ hm rfl)
      exact ⟨c, cap_has hm hc⟩
  · show (X.A.in1.in1.deeper _).frames = some (_ :: X.stack)
    exact Around.frames_deeper I.ok.frames
  · rcases (hf b hb).2.2.2.1 with z | z
    · exact I.ok.noex b o e z
    · exact absurd (Heap.lt_size (I.ok.bs b o e).1) (Nat.not_lt.mpr z)
  · rcases List.mem_cons.mp (I.stkSub b z) with z | z
    · exact (hf b hb).2.1 z
    · exact (hf b hb).2.2.1 z
  · have hij : i ≠ j := fun z => by
      rw [z] at h2
      by_cases hl : j < σ.length
      · rw [List.getElem?_set_self hl] at h2; cases h2
      · rw [List.getElem?_eq_none (by rw [List.length_set]; omega)] at h2; cases h2
    rw [List.getElem?_set_ne (Ne.symm hij)] at h2
    have h1' : X.N[i]? = some y := h1
    have fr : (y, NameKind.free) ∈ scope.names := by
      rcases h3 with h | h | h
      · exfalso
        rcases S.only _ (PySem.mem_of_lookup h) rfl with z | z
        · have z' : y = x := z
          subst z'
          exact hij (nd_at nd h1' S.at_)
        · have z' : y = (".0" : Str) := z
          subst z'
          exact S.nodot (List.mem_of_getElem? h1')
      · exact absurd rfl (S.cell _ (PySem.mem_of_lookup h))
      · exact PySem.mem_of_lookup h
    have hv := S.free _ fr rfl
    obtain ⟨m, hm, hl⟩ := I.loc
    obtain ⟨u, ru, lk⟩ := hl i y v h1' h2 (.inr hv)
    refine ⟨u, ru, .inr ⟨.inr ?_, ?_⟩⟩
    · rcases h3 with h | h | h
      · exact absurd rfl (fun z : NameKind.free = NameKind.free => by
          rcases S.only _ (PySem.mem_of_lookup h) rfl with w | w
          · have w' : y = x := w
            subst w'
            exact hij (nd_at nd h1' S.at_)
          · have w' : y = (".0" : Str) := w
            subst w'
            exact S.nodot (List.mem_of_getElem? h1'))
      · exact absurd rfl (S.cell _ (PySem.mem_of_lookup h))
      · exact h
    · rcases lk with ⟨q, _⟩ | ⟨_, c, hc, hcell⟩
      · have q' : X.env.scope.names.lookup y = some .local := q
        rcases hv with w | w <;> · rw [w] at q'; cases q'
      · exact ⟨c, cap_has fr hc, hcell.keeps k⟩
  · obtain ⟨v, e⟩ := I.cell y c (cl y c h)
    exact ⟨v, e.keeps k⟩
  · obtain rfl : p = (a, go) := List.mem_singleton.mp (show p ∈ ([] : List (Addr × Obj)) ++ [(a, go)] from hp)
    refine ⟨ha, I.hok.fresh (Nat.le_of_lt hal), Nat.ne_of_gt hal, fun z => ?_, hgo⟩
    exact absurd (frsN _ z) (Nat.not_lt.mpr (Nat.le_of_lt hal))
  · rw [List.length_set]
    exact I.len
end
/-! ### its turns -/
/-- nothing but the generators' own states has moved -/
structure Stab (s s2 : Shared) : Prop where
  heap : ∀ b o, s.heap.get? b = some o → s2.heap.get? b = some o
  os : s2.os = s.os
  bare : AllBare s2.gens
  sz : s.gens.size ≤ s2.gens.size
theorem Stab.trans {s s1 s2 : Shared} (a : Stab s s1) (b : Stab s1 s2) : Stab s s2 := ⟨fun x o h => b.heap x o (a.heap x o h), b.os.trans a.os, b.bare, Nat.le_trans a.sz b.sz⟩
theorem Inv.stab {X : Cx} {pins : List (Addr × Obj)} {σ : L2.St} {H : Hp} {s s2 : Shared} (I : Inv X pins σ H s) (t : Stab s s2) : Inv X pins σ H s2 :=
  I.call' (ch := []) t.os (Un.kept t.heap) (I.hok.kept t.heap) t.bare fun _ z => nomatch z
/-- how a generator expression of n turns is walked: its frame Y, its own object at a, number g; Pv tells of the turns, b of the answers -/
structure Gw where
  Y : Cx
  pn : List (Addr × Obj)
  it : Addr
  fp : List Addr
  tn : Nat → Heap → Prop
  J : It
  n : Nat
  g : Nat
  b : Nat → Bool
  Pv : Nat → L2.St → Hp → Prop
def Gw.LI (W : Gw) (i : Nat) (s : Shared) : Prop := ∃ σ H, Inv W.Y W.pn σ H s ∧ W.tn i s.heap ∧ (∀ b ∈ W.fp, H b = none) ∧ W.Pv i σ H ∧ W.g < s.gens.size
/-- all turns are over -/
def Gw.LE (W : Gw) (s : Shared) : Prop := ∃ σ H, Inv W.Y W.pn σ H s ∧ W.Pv W.n σ H
def Gw.R (W : Gw) : GenEnd := fun n _ r s1 => r = .ok .next ∧ (n = 0 ∧ W.LE s1)
def Gw.P (W : Gw) : Protocol := fun m _ v s kap => (∃ i, i < W.n ∧ W.n = m + (i + 1) ∧ v = .bool (W.b i) ∧ W.LI (i + 1) s) ∧ ∀ s2, Stab s s2 → kap (.send .none) s2
structure Gw.Ok (W : Gw) (tg elt : Expr) (j : Nat) (te : TE) : Prop where
  turn : Turn W.Y.prog W.Y.w W.Y.K tg W.J W.fp W.it W.tn
  fpk : ∀ H, (∀ b ∈ W.fp, H b = none) → ∀ b ∈ W.fp, FpOk W.Y W.pn H b
  calm : W.Y.calm = true
  tg : PG W.Y tg (gName j)
  elt : PE W.Y elt te
  xe : ∀ e s, ¬ W.Y.xe e s
  go : ∀ i σ H, i < W.n → W.Pv i σ H → W.J.go i H
  stop : ∀ σ H, W.Pv W.n σ H → W.J.stop W.n H
  step : ∀ i σ H x H1, i < W.n → W.Pv i σ H → W.J.yld i H x H1 → gName j x σ H1 fun σ2 H2 => te σ2 H2 fun y H3 => y = .bl (W.b i) ∧ W.Pv (i + 1) σ2 H3
theorem Gw.LI.stab {W : Gw} {i : Nat} {s s2 : Shared} {tg elt : Expr} {j : Nat} {te : TE} (ok : W.Ok tg elt j te) (h : W.LI i s) (t : Stab s s2) : W.LI i s2 := by
  obtain ⟨σ, H, I, st, fr, p, g⟩ := h
  refine ⟨σ, H, Inv.stab I t, ok.turn.keep _ _ _ st fun b hb o e => t.heap b o e, fr, p, Nat.lt_of_lt_of_le g t.sz⟩
/-- a step within, the number of generators not less behind it -/
theorem wp_gs {α : Type} {M : Model} {A : Around} {s : Shared} {t : Sem α} {Q Q2 : α → Shared → Prop} {E E2 : Value → Shared → Prop} {n : Nat} (hn : n ≤ s.gens.size) (h : wpAny M A t Q E s) (k : ∀ a s2, Q a s2 → n ≤ s2.gens.size → Q2 a s2) (ke : ∀ e s2, E e s2 → E2 e s2) : wpAny M A t Q2 E2 s :=
  GenW.wpAny_gsz hn (wpAny_mono h (fun a s2 q z => k a s2 q z) fun e s2 q _ => ke e s2 q)
section
variable {W : Gw} {elt iter : Expr} {x : Str} {px : Pos} {scope : Scope} {pos : Pos} {j : Nat} {te : TE} {Ag : Around}
theorem seg_turns (ok : W.Ok (.Name x px) elt j te) (hA : W.Y.A = Ag.deeper W.Y.env) (hco : W.Y.env.scope.isCoroutine = false) :
    ∀ (k i : Nat) (s0 s : Shared), W.n - i = k → i ≤ W.n → W.LI i s → Seg (model W.Y.prog W.Y.w) Ag W.R W.P k s0 (.compLoop (.GeneratorExp elt [⟨.Name x px, iter, [], 0⟩] scope pos) 0 (.ref W.it) .none W.Y.env)
      ((model W.Y.prog W.Y.w).den (.compLoop (.GeneratorExp elt [⟨.Name x px, iter, [], 0⟩] scope pos) 0 (.ref W.it) .none W.Y.env)) [] s := by
  have eA : Ag.over (.compLoop (.GeneratorExp elt [⟨.Name x px, iter, [], 0⟩] scope pos) 0 (.ref W.it) .none W.Y.env) [] = W.Y.A := over_loopG.trans hA.symm
  intro k
  induction k with
  | zero =>
    intro i s0 s hk hi hL
    obtain rfl : i = W.n := by omega
    obtain ⟨σ, H, I, st, fr, p, hg⟩ := hL
    show Seg _ Ag W.R W.P 0 s0 _ ((compTurn (.GeneratorExp elt [⟨.Name x px, iter, [], 0⟩] scope pos) 0 (.ref W.it) .none W.Y.env).onRaise (leaving W.Y.env)) [] s
    rw [compTurn_gen, Sem.onRaise_eq_wrap]
    refine seg_bind_wrap (wpAny_standAt ?_)
    refine seg_bind_wrap ?_
    rw [eA]
    refine wp_gs hg (ok.turn.done W.Y rfl rfl rfl ok.calm W.n W.pn s σ H (fun _ _ => False) I (ok.fpk H fr) st (ok.stop σ H p)) (fun r s1 hr hg1 => ?_) fun _ _ z => z.elim
    obtain ⟨rfl, I1⟩ := hr
    exact seg_end (.ok .next) ⟨rfl, rfl, σ, H, I1, p⟩
  | succ k ih =>
    intro i s0 s hk hi hL
    have hlt : i < W.n := by omega
    obtain ⟨σ, H, I, st, fr, p, hg⟩ := hL
    show Seg _ Ag W.R W.P (k + 1) s0 _ ((compTurn (.GeneratorExp elt [⟨.Name x px, iter, [], 0⟩] scope pos) 0 (.ref W.it) .none W.Y.env).onRaise (leaving W.Y.env)) [] s
    rw [compTurn_gen, Sem.onRaise_eq_wrap]
    refine seg_bind_wrap (wpAny_standAt ?_)
    refine seg_bind_wrap ?_
    rw [eA]
    refine wp_gs hg (ok.turn.item W.Y rfl rfl rfl ok.calm i W.pn s σ H (fun _ _ => False) I (ok.fpk H fr) st (ok.go i σ H hlt p)) (fun r s1 hr hg1 => ?_) fun _ _ z => z.elim
    obtain ⟨u, rfl, h1⟩ := hr
    refine seg_bind_wrap ?_
    rw [eA]
    refine wp_gs hg1 h1 (fun _ s2 h2 hg2 => ?_) fun _ _ z => z.elim
    obtain ⟨v, H2, I2, rv, yl, st2, fr2⟩ := h2
    have I2' := I2.pinned (ok.fpk H2 fr2) (ok.turn.obj _ _ st2)
    refine seg_bind_wrap ?_
    rw [eA]
    refine wp_gs hg2 (ok.tg.run _ s2 σ H2 v u _ I2' rv (ok.step i σ H v H2 hlt p yl)) (fun _ s3 h3 hg3 => ?_) fun e s3 z => (ok.xe e s3 z).elim
    obtain ⟨σ3, H3, I3, q3⟩ := h3
    refine seg_bind_wrap ?_
    simp only [List.forIn_nil]
    refine wpAny_pure ?_
    simp only [if_true]
    have hy : ∀ v, yieldOut W.Y.env v = yieldValue v := fun v => by unfold yieldOut; rw [hco]; rfl
    simp only [hy]
    rw [Sem.bind_eq_wrap', Sem.bind_eq_wrap']
    rw [Sem.wrap_wrap, Sem.wrap_wrap]
    refine seg_wrap ?_
    rw [eA]
    refine wp_gs hg3 (ok.elt.run _ s3 σ3 H3 _ I3 q3) (fun y s4 h4 hg4 => ?_) fun e s4 z => (ok.xe e s4 z).elim
    obtain ⟨w, H4, I4, rw4, rfl, p4⟩ := h4
    have st4 : W.tn (i + 1) s4.heap := ok.turn.keep _ _ _ st2 fun b hb o e => (I4.pin (b, o) (List.mem_append_right _ (List.mem_append_right _ (mem_pinsAt hb e)))).1
    have fr4 : ∀ b ∈ W.fp, H4 b = none := fun b hb => by
      obtain ⟨o, e, d⟩ := ok.turn.obj _ _ st2 b hb
      exact (I4.pin (b, o) (List.mem_append_right _ (List.mem_append_right _ (mem_pinsAt hb e)))).2.1
    have L4 : W.LI (i + 1) s4 := ⟨σ3, H4, I4.unpinned, st4, fr4, p4, hg4⟩
    obtain rfl : y = Value.bool (W.b i) := rw4
    refine seg_at (seg_yield rfl rfl rfl ⟨⟨i, hlt, by omega, rfl, L4⟩, fun s5 t5 => ?_⟩)
    exact seg_again rfl (ih (i + 1) s5 s5 (by omega) hlt (L4.stab ok t5))
theorem seg_begin (ok : W.Ok (.Name x px) elt j te) (hA : W.Y.A = Ag.deeper W.Y.env) (hco : W.Y.env.scope.isCoroutine = false) (s0 s : Shared) (hL : W.LI 0 s) :
    Seg (model W.Y.prog W.Y.w) Ag W.R W.P W.n s0 (.compStart (.GeneratorExp elt [⟨.Name x px, iter, [], 0⟩] scope pos) 0 (.ref W.it) .none W.Y.env)
      ((model W.Y.prog W.Y.w).den (.compStart (.GeneratorExp elt [⟨.Name x px, iter, [], 0⟩] scope pos) 0 (.ref W.it) .none W.Y.env)) [] s := by
  have loop := seg_turns (iter := iter) (scope := scope) (pos := pos) ok hA hco W.n 0 s0 s (Nat.sub_zero _) (Nat.zero_le _) hL
  obtain ⟨σ, H, I, st, fr, p, hg⟩ := hL
  show Seg _ Ag W.R W.P W.n s0 _ ((compStart (.GeneratorExp elt [⟨.Name x px, iter, [], 0⟩] scope pos) 0 (.ref W.it) .none W.Y.env).onRaise (leaving W.Y.env)) [] s
  unfold compStart
  rw [Sem.onRaise_eq_wrap]
  show Seg _ Ag W.R W.P W.n s0 _ ((ask >>= _).wrap _ _ _ _) [] s
  refine seg_bind_wrap (wpAny_askSetting ?_)
  split
  · exact seg_again rfl loop
  · first
      | exact seg_bind_wrap (wpAny_rule (seg_bind_wrap (wpAny_standAt (seg_bind_wrap (ok.turn.self _ 0 s _ _ st (seg_again rfl loop))))))
      | (refine seg_bind_wrap (wpAny_rule ?_)
         show Seg _ Ag W.R W.P W.n s0 _ ((standAt iter.pos >>= _).wrap _ _ _ _) [] s
         exact seg_bind_wrap (wpAny_standAt (seg_bind_wrap (ok.turn.self _ 0 s _ _ st (seg_again rfl loop)))))
end
/-! ### what walks it -/
/-- the generator object at a between two turns -/
def Gw.St (W : Gw) (Ag : Around) (a : Addr) (i : Nat) (s : Shared) : Prop :=
  s.heap.IsGen a W.g ∧ W.LI i s ∧ ∃ gs, s.gens[W.g]? = some gs ∧ ∀ s2, Stab s s2 → gs.Goes (model W.Y.prog W.Y.w) Ag W.R W.P (W.n - i) (.send .none) s2
theorem bare_put {s : Shared} {g : Nat} {x : GenState} (h : AllBare s.gens) (hx : x.bare = true) : AllBare (s.setGen g x).gens := fun y hy => by
  obtain ⟨k, hk, rfl⟩ := Array.mem_iff_getElem.mp hy
  have e : (s.setGen g x).gens = s.gens.setIfInBounds g x := rfl
  simp only [e] at hk ⊢
  rw [Array.getElem_setIfInBounds (by simpa using hk)]
  split
  · exact hx
  · exact h _ (Array.getElem_mem _)
theorem stab_put {s : Shared} {g : Nat} {x : GenState} (h : AllBare s.gens) (hx : x.bare = true) : Stab s (s.setGen g x) := ⟨fun _ _ e => e, rfl, bare_put h hx, by simp [Shared.setGen]⟩
theorem put_at {s : Shared} {g : Nat} {x : GenState} (h : g < s.gens.size) : (s.setGen g x).gens[g]? = some x := by
  simp [Shared.setGen, h]
section
variable {W : Gw} {elt : Expr} {tg : Expr} {j : Nat} {te : TE} {A : Around} {a : Addr} {go : Obj} {E : Value → Shared → Prop}
theorem Gw.isGen (W : Gw) {i : Nat} {s : Shared} (hp : (a, go) ∈ W.pn) (hgo : ∀ h : Heap, h.get? a = some go → h.IsGen a W.g) (h : W.LI i s) : s.heap.IsGen a W.g := by
  obtain ⟨σ, H, I, _⟩ := h
  exact hgo _ (I.pin (a, go) (List.mem_append_right _ hp)).1
theorem Gw.item (ok : W.Ok tg elt j te) (hp : (a, go) ∈ W.pn) (hgo : ∀ h : Heap, h.get? a = some go → h.IsGen a W.g) (hh : A.handled = none) (hr : A.depth < recursionLimit) {i : Nat} {s : Shared} {Q : Option Value → Shared → Prop} (hlt : i < W.n) (h : W.St A.in1 a i s)
    (q : ∀ s2, W.St A.in1 a (i + 1) s2 → Q (some (.bool (W.b i))) s2) : wpAny (model W.Y.prog W.Y.w) A (pyNext (.ref a)) Q E s := by
  obtain ⟨hg, hL, gs, hgs, hgo2⟩ := h
  obtain ⟨m, hm⟩ : ∃ m, W.n - i = m + 1 := ⟨W.n - i - 1, by omega⟩
  rw [hm] at hgo2
  have lim : s.heap.NoLimit := by
    obtain ⟨σ, H, I, _⟩ := hL
    exact I.nolimit
  have bare : AllBare s.gens := by
    obtain ⟨σ, H, I, _⟩ := hL
    exact I.bare
  refine wpAny_pyNext_genexpQ (P := fun n _ s1 => n = 0 ∧ W.LE s1) hh lim hr hg hgs (hgo2 _ (stab_put bare rfl)) (fun v s1 gs' hb hv => ?_) (fun s1 hp1 h' hk => ?_)
  · obtain ⟨⟨i', hi', e, rfl, L1⟩, kap⟩ := hv
    obtain rfl : i' = i := by omega
    have L1' := L1
    obtain ⟨σ, H, I, _, _, _, hsz⟩ := L1'
    have t := stab_put (g := W.g) I.bare hb
    have L2 := L1.stab ok t
    refine q _ ⟨W.isGen hp hgo L2, L2, gs', put_at hsz, fun s2 t2 => ?_⟩
    have k2 := kap s2 (t.trans t2)
    rw [show W.n - (i' + 1) = m by omega]
    exact k2
  · exact absurd hp1.1 (Nat.succ_ne_zero m)
theorem Gw.done (ok : W.Ok tg elt j te) (hh : A.handled = none) (hr : A.depth < recursionLimit) {s : Shared} {Q : Option Value → Shared → Prop} (h : W.St A.in1 a W.n s) (q : ∀ s2, W.LE s2 → Q none s2) : wpAny (model W.Y.prog W.Y.w) A (pyNext (.ref a)) Q E s := by
  obtain ⟨hg, hL, gs, hgs, hgo2⟩ := h
  rw [Nat.sub_self] at hgo2
  have lim : s.heap.NoLimit := by
    obtain ⟨σ, H, I, _⟩ := hL
    exact I.nolimit
  have bare : AllBare s.gens := by
    obtain ⟨σ, H, I, _⟩ := hL
    exact I.bare
  refine wpAny_pyNext_genexpQ (P := fun n _ s1 => n = 0 ∧ W.LE s1) hh lim hr hg hgs (hgo2 _ (stab_put bare rfl)) (fun v s1 gs' hb hv => ?_) (fun s1 hp1 h' hk => ?_)
  · obtain ⟨⟨i', hi', e, rfl, L1⟩, kap⟩ := hv
    exact (kap s1 ⟨fun _ _ z => z, rfl, by obtain ⟨σ, H, I, _⟩ := L1; exact I.bare, Nat.le_refl _⟩).elim
  · obtain ⟨_, σ, H, I, p⟩ := hp1
    refine q _ ⟨σ, H, Inv.stab I ⟨hk, rfl, bare_put I.bare rfl, by simp [Shared.setGen]⟩, p⟩
/-- all(g), any(g): the loop -/
theorem all_turns (ok : W.Ok tg elt j te) (hp : (a, go) ∈ W.pn) (hgo : ∀ h : Heap, h.get? a = some go → h.IsGen a W.g) (hh : A.handled = none) (hr : A.depth < recursionLimit) {R : Result → Shared → Prop}
    (q : ∀ s2, (W.LE s2 ∨ ∃ i, W.LI i s2) → R (.ok (.ret (.bool ((List.range W.n).all W.b)))) s2) : ∀ (k i : Nat) (s : Shared), W.n - i = k → i ≤ W.n → (∀ l, l < i → W.b l = true) → W.St A.in1.in1 a i s →
      codeAny (model W.Y.prog W.Y.w) A (.builtin "all.loop" ⟨[.ref a], []⟩) R s := by
  intro k
  induction k with
  | zero =>
    intro i s hk hi hb h
    obtain rfl : i = W.n := by omega
    refine codeAny_builtin F.entry_all_loop ?_
    rw [Around.under_plainId F.plain_all_loop]
    show wpAny _ A.in1 (pyNext (.ref a) >>= _) _ _ s
    refine wpAny_bind (Gw.done (A := A.in1) ok hh hr h fun s2 e => ?_)
    refine wpAny_bind (wpAny_rule (wpAny_pure ?_))
    have e2 : (List.range W.n).all W.b = true := List.all_eq_true.mpr fun l hl => hb l (List.mem_range.mp hl)
    have := q s2 (.inl e)
    rw [e2] at this
    exact this
  | succ k ih =>
    intro i s hk hi hb h
    have hlt : i < W.n := by omega
    refine codeAny_builtin F.entry_all_loop ?_
    rw [Around.under_plainId F.plain_all_loop]
    show wpAny _ A.in1 (pyNext (.ref a) >>= _) _ _ s
    refine wpAny_bind (Gw.item (A := A.in1) ok hp hgo hh hr hlt h fun s2 h2 => ?_)
    refine wpAny_bind (wpAny_holding (wpAny_truthy_bool ?_))
    refine wpAny_bind (wpAny_letGo ?_)
    cases e : W.b i with
    | true =>
      simp only [if_true]
      refine wpAny_pure ⟨plainId_quiet F.plain_all_loop _, ih (i + 1) s2 (by omega) hlt (fun l hl => ?_) h2⟩
      rcases Nat.lt_or_eq_of_le (Nat.le_of_lt_succ hl) with z | z
      · exact hb l z
      · rw [z]; exact e
    | false =>
      simp only [Bool.false_eq_true, if_false]
      have e2 : (List.range W.n).all W.b = false := List.all_eq_false.mpr ⟨i, List.mem_range.mpr hlt, by rw [e]; decide⟩
      have := q s2 (.inr ⟨_, h2.2.1⟩)
      rw [e2] at this
      exact wpAny_bind (wpAny_rule (wpAny_pure this))
theorem any_turns (ok : W.Ok tg elt j te) (hp : (a, go) ∈ W.pn) (hgo : ∀ h : Heap, h.get? a = some go → h.IsGen a W.g) (hh : A.handled = none) (hr : A.depth < recursionLimit) {R : Result → Shared → Prop}
    (q : ∀ s2, (W.LE s2 ∨ ∃ i, W.LI i s2) → R (.ok (.ret (.bool ((List.range W.n).any W.b)))) s2) : ∀ (k i : Nat) (s : Shared), W.n - i = k → i ≤ W.n → (∀ l, l < i → W.b l = false) → W.St A.in1.in1 a i s →
      codeAny (model W.Y.prog W.Y.w) A (.builtin "any.loop" ⟨[.ref a], []⟩) R s := by
  intro k
  induction k with
  | zero =>
    intro i s hk hi hb h
    obtain rfl : i = W.n := by omega
    refine codeAny_builtin F.entry_any_loop ?_
    rw [Around.under_plainId F.plain_any_loop]
    show wpAny _ A.in1 (pyNext (.ref a) >>= _) _ _ s
    refine wpAny_bind (Gw.done (A := A.in1) ok hh hr h fun s2 e => ?_)
    refine wpAny_bind (wpAny_rule (wpAny_pure ?_))
    have e2 : (List.range W.n).any W.b = false := List.any_eq_false.mpr fun l hl => by rw [hb l (List.mem_range.mp hl)]; decide
    have := q s2 (.inl e)
    rw [e2] at this
    exact this
  | succ k ih =>
    intro i s hk hi hb h
    have hlt : i < W.n := by omega
    refine codeAny_builtin F.entry_any_loop ?_
    rw [Around.under_plainId F.plain_any_loop]
    show wpAny _ A.in1 (pyNext (.ref a) >>= _) _ _ s
    refine wpAny_bind (Gw.item (A := A.in1) ok hp hgo hh hr hlt h fun s2 h2 => ?_)
    refine wpAny_bind (wpAny_holding (wpAny_truthy_bool ?_))
    refine wpAny_bind (wpAny_letGo ?_)
    cases e : W.b i with
    | false =>
      simp only [Bool.false_eq_true, if_false]
      refine wpAny_pure ⟨plainId_quiet F.plain_any_loop _, ih (i + 1) s2 (by omega) hlt (fun l hl => ?_) h2⟩
      rcases Nat.lt_or_eq_of_le (Nat.le_of_lt_succ hl) with z | z
      · exact hb l z
      · rw [z]; exact e
    | true =>
      simp only [if_true]
      have e2 : (List.range W.n).any W.b = true := List.any_eq_true.mpr ⟨i, List.mem_range.mpr hlt, e⟩
      have := q s2 (.inr ⟨_, h2.2.1⟩)
      rw [e2] at this
      exact wpAny_bind (wpAny_rule (wpAny_pure this))
theorem call_allG (ok : W.Ok tg elt j te) (hp : (a, go) ∈ W.pn) (hgo : ∀ h : Heap, h.get? a = some go → h.IsGen a W.g) (hh : A.handled = none) (hr : A.depth < recursionLimit) {s : Shared} {Q : Value → Shared → Prop} (h : W.St A.in1.in1 a 0 s)
    (q : ∀ s2, (W.LE s2 ∨ ∃ i, W.LI i s2) → Q (.bool ((List.range W.n).all W.b)) s2) : wpAny (model W.Y.prog W.Y.w) A (call (.builtin "all") [.ref a]) Q E s := by
  refine call_function_tree F.kind_all F.plain_all F.entry_all (F.args_all1 _) ?_
  unfold Builtin.«all»
  refine wpAny_bind (m := oneArg "all" _) (wpAny_pure ?_)
  refine wpAny_bind (wpAny_pyIter_gen h.1 ?_)
  exact wpAny_pure ⟨plainId_quiet F.plain_all_loop _, all_turns ok hp hgo hh hr (fun s2 z => q s2 z) W.n 0 s rfl (Nat.zero_le _) (fun l hl => absurd hl (Nat.not_lt_zero l)) h⟩
theorem call_anyG (ok : W.Ok tg elt j te) (hp : (a, go) ∈ W.pn) (hgo : ∀ h : Heap, h.get? a = some go → h.IsGen a W.g) (hh : A.handled = none) (hr : A.depth < recursionLimit) {s : Shared} {Q : Value → Shared → Prop} (h : W.St A.in1.in1 a 0 s)
    (q : ∀ s2, (W.LE s2 ∨ ∃ i, W.LI i s2) → Q (.bool ((List.range W.n).any W.b)) s2) : wpAny (model W.Y.prog W.Y.w) A (call (.builtin "any") [.ref a]) Q E s := by
  refine call_function_tree F.kind_any F.plain_any F.entry_any (F.args_any1 _) ?_
  unfold Builtin.«any»
  refine wpAny_bind (m := oneArg "any" _) (wpAny_pure ?_)
  refine wpAny_bind (wpAny_pyIter_gen h.1 ?_)
  exact wpAny_pure ⟨plainId_quiet F.plain_any_loop _, any_turns ok hp hgo hh hr (fun s2 z => q s2 z) W.n 0 s rfl (Nat.zero_le _) (fun l hl => absurd hl (Nat.not_lt_zero l)) h⟩
end
/-! ### the whole call -/
/-- the table at P has grown, or not -/
def Tbd (P : Addr) (H H2 : Hp) : Prop := ∃ ps more, H P = some (.tbl ps) ∧ H2 = upd H P (.tbl (ps ++ more)) ∧ TriplesOk (ps ++ more).toList
def tWalkG (f : List Nat → (Nat → Bool) → Bool) (P : Addr) (wi : TI) (j : Nat) (te : TE) : TE := fun σ H Q => wi σ H fun J H1 => (∃ ps, H1 P = some (.tbl ps) ∧ TriplesOk ps.toList) ∧ ∀ H2, Tbd P H1 H2 →
  ∃ (n : Nat) (b : Nat → Bool) (Pv : Nat → L2.St → Hp → Prop), Pv 0 (σ.set j none) H2 ∧ (∀ i σ H, i < n → Pv i σ H → J.go i H) ∧ (∀ σ H, Pv n σ H → J.stop n H) ∧
    (∀ i σ H x H1, i < n → Pv i σ H → J.yld i H x H1 → gName j x σ H1 fun σ2 H2 => te σ2 H2 fun y H3 => y = .bl (b i) ∧ Pv (i + 1) σ2 H3) ∧ ∀ i σ3 H3, Pv i σ3 H3 → Q (.bl (f (List.range n) b)) H3
/-- the frame of scope's generator expression over X -/
abbrev genY (X : Cx) (scope : Scope) (s4 : Shared) (H4 : Hp) (code : Value) (fp : List Addr) : Cx :=
  gcx X s4 H4 (genEnv scope (cloFrom X.env.cells scope.names []) s4.heap.objs.size code builtinsNs X.env) (X.A.in1.in1.deeper (genEnv scope (cloFrom X.env.cells scope.names []) s4.heap.objs.size code builtinsNs X.env)) fp
section
variable {X : Cx} {elt iter : Expr} {x : Str} {px gpos : Pos} {scope : Scope} {j : Nat} {c P : Addr} {wi : TI} {te : TE}
theorem gen_made {f : List Nat → (Nat → Bool) → Bool} (hd : X.A.handled = none) (hr : X.A.depth + 2 < recursionLimit) (nd : X.N.Nodup) (TB : GxR.TabB X.base X.mg c P) (hcode : X.env.code = .ref c) (S : GOk X.N X.env.scope scope x j) (hi : PI X (.Name x px) iter wi)
    (hel : ∀ s4 H4 code fp, PE (genY X scope s4 H4 code fp) elt te) (hs : ∀ v, genFold iter X.env v = pure v) {pins : List (Addr × Obj)} {σ : L2.St} {H : Hp} {s : Shared} {Q : VK} {Q2 : Value → Shared → Prop} (I : Inv X pins σ H s) (h : tWalkG f P wi j te σ H Q)
    (hQ : ∀ (W : Gw) (a : Addr) (go : Obj) (s5 : Shared), W.Y.prog = X.prog → W.Y.w = X.w → W.Ok (.Name x px) elt j te → (a, go) ∈ W.pn → (∀ h : Heap, h.get? a = some go → h.IsGen a W.g) → W.St X.A.in1.in1 a 0 s5 →
      (∀ s2, (W.LE s2 ∨ ∃ i, W.LI i s2) → EP X pins σ Q (.bool (f (List.range W.n) W.b)) s2) → Q2 (.ref a) s5) :
    wpAny (model X.prog X.w) X.A (eval (.GeneratorExp elt [⟨.Name x px, iter, [], 0⟩] scope gpos) X.env) Q2 X.xe s := by
  have fr : ∀ y ∈ scope.names, y.2 = .free → ∃ c, X.env.cells.lookup y.1 = some c := fun y hy e => I.ok.has y.1 (S.free y hy e)
  refine wpAny_GeneratorExp_make S.co (closure_ok fr) S.cell S.dot S.kind (by omega) (wpAny_mono (hi.run pins s σ H _ I h) (fun xv s1 h1 => wpAny_mono h1 (fun itv s2 h2 => ?_) fun _ _ z => z) fun _ _ z => z) hs
  obtain ⟨it, fp, tn, J, H1, rfl, I1, T, st1, f1, ⟨ps, hP, ht⟩, go⟩ := h2
  have lim := I1.nolimit
  have hPs : s2.heap.get? P = some { cls := .none, data := .fields ps } := I1.hok P _ hP
  have cd : PySem.W.CodeHd s2.heap c P := TB.code.keeps fun b u e => I1.bk b u e
  have fpP : ∀ b ∈ fp, b ≠ P := fun b hb z => by
    have := (f1 b hb).1
    rw [z, hP] at this
    cases this
  refine ⟨lim, ?_⟩
  -- behind the code's making
  have cont : ∀ (code : Value) (h3 : Heap) (tk : Nat) (more : Array Value), (∀ b o, b ≠ P → s2.heap.get? b = some o → h3.get? b = some o) → h3.get? P = some { cls := .none, data := .fields (ps ++ more) } → TriplesOk (ps ++ more).toList →
      wpAny (model X.prog X.w) X.A (builtinsFor X.env.globals X.env.builtins) (fun bi s4 => ∀ h', h'.Ns s4.heap.objs.size (fun y => if y = ".0" then some (.ref it) else none) → Heap.SameBut s4.heap.objs.size (s4.heap.push { cls := .type "frame", data := .dict #[] }) h' →
        Q2 (.ref h'.objs.size) { s4 with
            gens := s4.gens.push (.fresh (.compStart (.GeneratorExp elt [⟨.Name x px, iter, [], 0⟩] scope gpos) 0 (.ref it) .none (genEnv scope (cloFrom X.env.cells scope.names []) s4.heap.objs.size code bi X.env)))
            toks := s4.toks + 1 + 1 + 1
            heap := h'.push { cls := .type "generator", data := .fields #[.int s4.gens.size 0, .str "<genexpr>" (s4.toks + 1), .str (X.env.qual ++ "<genexpr>") (s4.toks + 1 + 1)] } }) X.xe { s2 with heap := h3, toks := tk } := by
    intro code h3 tk more k3 h3P ht3
    have I3 : Inv X pins σ (upd H1 P (.tbl (ps ++ more))) { s2 with heap := h3, toks := tk } := GxR.inv_tab (more := more) (g' := s2.gens) (d' := s2.drawn) I1 hP k3 h3P I1.bare
    obtain ⟨bm, ob, e1, e2, e3, e4, e5, e6, e7, e8⟩ := TB.bm
    refine wpAny_builtinsFor (m := X.mg) ?_ e1 e2 (k3 _ _ e4 (I1.bk _ _ e5)) e6 e7 e8 ?_
    · rw [I1.ok.glob]
      obtain ⟨o, es, ep, q1, q2⟩ := I1.mod.glob.keeps I1.bk
      exact ⟨o, es, ep, k3 _ _ TB.gP q1, q2⟩
    intro h' hn' hs'
    obtain ⟨n, b, Pv, p0, pgo, pstop, pstep, pq⟩ := go _ ⟨ps, more, hP, rfl, ht3⟩
    have sz : h'.objs.size = h3.objs.size + 1 := by rw [hs'.1, Heap.size_push]
    have k' : ∀ b o, h3.get? b = some o → h'.get? b = some o := fun b o e => hs'.extBut b o (Nat.ne_of_lt (Heap.lt_size e)) (Heap.get?_push_of_some _ e)
    have H2n : ∀ b ∈ fp, upd H1 P (.tbl (ps ++ more)) b = none := fun b hb => by rw [upd_ne (fpP b hb)]; exact (f1 b hb).1
    have f2 : ∀ b ∈ fp, FpOk X pins (upd H1 P (.tbl (ps ++ more))) b := fun b hb => ⟨H2n b hb, (f1 b hb).2⟩
    have o3 : ∀ b ∈ fp, ∃ o, h3.get? b = some o := fun b hb => by
      obtain ⟨o, e, _⟩ := T.obj _ _ st1 b hb
      exact ⟨o, k3 b o (fpP b hb) e⟩
    have fpl : ∀ b ∈ fp, b < h3.objs.size := fun b hb => by
      obtain ⟨o, e⟩ := o3 b hb
      exact Heap.lt_size e
    have cl : ∀ y c, (cloFrom X.env.cells scope.names []).lookup y = some c → X.env.cells.lookup y = some c := fun y c h => by
      obtain ⟨h1, h2⟩ := cap_of h
      obtain ⟨c0, h3⟩ := fr _ h1 rfl
      rw [h3] at h2
      rw [h3, h2]
      rfl
    -- the state behind
    let go5 : Obj := { cls := .type "generator", data := .fields #[.int s2.gens.size 0, .str "<genexpr>" (tk + 1), .str (X.env.qual ++ "<genexpr>") (tk + 1 + 1)] }
    have I5 := inv_gen (s5 := { s2 with
            gens := s2.gens.push (.fresh (.compStart (.GeneratorExp elt [⟨.Name x px, iter, [], 0⟩] scope gpos) 0 (.ref it) .none (genEnv scope (cloFrom X.env.cells scope.names []) h3.objs.size code builtinsNs X.env)))
            toks := tk + 1 + 1 + 1
            heap := h'.push go5 }) (code := code) (a := h'.objs.size) (go := go5) (it := .ref it) I3 nd hd S f2 o3 (fun b o e => Heap.get?_push_of_some _ (k' b o e)) rfl (I1.bare.push rfl) (hn'.push _) (Heap.get?_push_size _ rfl) (by show h3.objs.size < h'.objs.size; omega) (fun v z => by cases z)
    let W : Gw := { Y := genY X scope { s2 with heap := h3, toks := tk } (upd H1 P (.tbl (ps ++ more))) code fp, pn := [(h'.objs.size, go5)], it := it, fp := fp, tn := tn, J := J, n := n, g := s2.gens.size, b := b, Pv := Pv }
    have ok : W.Ok (.Name x px) elt j te :=
      { turn := T
        fpk := fun H hH b hb => ⟨hH b hb, Nat.ne_of_lt (fpl b hb), fun z => (List.mem_cons.mp (I3.stkSub b z)).elim (f2 b hb).2.1 (f2 b hb).2.2.1, .inl hb, fun y c h => (f2 b hb).2.2.2.2.1 y c (cl y c h), fun p hp => by
          obtain rfl : p = (h'.objs.size, go5) := List.mem_singleton.mp (show p ∈ ([] : List (Addr × Obj)) ++ [(h'.objs.size, go5)] from hp)
          have := fpl b hb
          exact Nat.ne_of_gt (Nat.lt_of_lt_of_le this (by rw [sz]; exact Nat.le_succ _))⟩
        calm := rfl
        tg := pg_name (i := j) nd S.at_ (.inl S.loc) (.inr S.loc)
        elt := hel _ _ _ _
        xe := fun _ _ z => z
        go := pgo
        stop := pstop
        step := pstep }
    have L5 : W.LI 0 _ := ⟨_, _, I5, T.keep _ _ _ st1 fun b hb o e => Heap.get?_push_of_some _ (k' b o (k3 b o (fpP b hb) e)), H2n, p0, by simp [W]⟩
    have isg : ∀ h : Heap, h.get? h'.objs.size = some go5 → h.IsGen h'.objs.size W.g := fun h e => ⟨go5, _, _, e, rfl, rfl, rfl⟩
    refine hQ W h'.objs.size go5 _ rfl rfl ok List.mem_cons_self isg ⟨isg _ (Heap.get?_push_size _ rfl), L5, _, Array.getElem?_push_size .., fun s6 t6 => ⟨rfl, seg_begin ok rfl S.co s6 s6 (L5.stab ok t6)⟩⟩ fun s6 h6 => ?_
    obtain ⟨i, σ6, H6, I6, p6⟩ : ∃ i σ6 H6, Inv W.Y W.pn σ6 H6 s6 ∧ W.Pv i σ6 H6 := by
      rcases h6 with ⟨σ6, H6, I6, p6⟩ | ⟨i, σ6, H6, I6, _, _, p6, _⟩
      · exact ⟨_, σ6, H6, I6, p6⟩
      · exact ⟨i, σ6, H6, I6, p6⟩
    exact ⟨.bl _, H6, I3.call' (ch := fp) I6.os I6.base I6.hok I6.bare fun b hb => ⟨(f2 b hb).2.2.2.1, (f2 b hb).2.1, (f2 b hb).2.2.2.2.1, (f2 b hb).2.2.2.2.2⟩, rfl, pq i σ6 H6 p6⟩
  cases hf : codeAmong gpos ps.toList with
  | none =>
    refine wpAny_genexprCodeX hcode (cd.code hPs ht) (cd.tab hPs) hf fun c' h' tk hx hge hlt hco' _ htab' _ => ?_
    obtain ⟨o1, vs, f1', tf, fl, tg, inF, tx, tt, op, _, _, _, _, _, _, _, _, _, htr, _⟩ := hco'
    exact cont _ h' tk _ (fun b o hb e => hx b o hb e) htab'.2 htr
  | some cv =>
    refine wpAny_genexprCode_hit hcode (cd.code hPs ht) hf ?_
    have e0 : ps ++ #[] = ps := Array.append_empty
    exact cont cv s2.heap s2.toks #[] (fun b o _ e => e) (by rw [e0]; exact hPs) (by rw [e0]; exact ht)
/-- all(elt for x in iter), any(..) -/
theorem pe_allG {p pos : Pos} {k : Nat} (hr : Room k X.A) (nd : X.N.Nodup) (hg : Gl X "all") (hm : X.mg "all" = none) (TB : GxR.TabB X.base X.mg c P) (hcode : X.env.code = .ref c) (S : GOk X.N X.env.scope scope x j) (hi : PI X (.Name x px) iter wi)
    (hel : ∀ s4 H4 code fp, PE (genY X scope s4 H4 code fp) elt te) (hs : ∀ v, genFold iter X.env v = pure v)
    (he : starEach [.GeneratorExp elt [⟨.Name x px, iter, [], 0⟩] scope gpos] X.env = (false, eval (.GeneratorExp elt [⟨.Name x px, iter, [], 0⟩] scope gpos) X.env) :: starEach [] X.env := by rfl) :
    PE X (.Call (.Name "all" p) [.GeneratorExp elt [⟨.Name x px, iter, [], 0⟩] scope gpos] [] pos) (tWalkG List.all P wi j te) := by
  refine ⟨fun pins s σ H Q I h => wpAny_Call_Name_kw (ld_blt I hg hm boot_all (PyProof.Rows.callWith_builtin1 ?_ he (by rfl)))⟩
  rw [he]
  show wpAny _ _ (spliced ((false, eval (.GeneratorExp elt [⟨.Name x px, iter, [], 0⟩] scope gpos) X.env) :: backTo pos (starEach [] X.env))) _ _ s
  have hdp := hr.dp
  refine Calls.spliced_cons (gen_made hr.hd (by omega) nd TB hcode S hi hel hs I h fun W a go s5 eP ew ok hp isg st fin => Calls.spliced_nil ?_)
  have := call_allG (A := X.A) (E := X.xe) ok hp isg hr.hd (by omega) st fin
  rw [eP, ew] at this
  exact this
theorem pe_anyG {p pos : Pos} {k : Nat} (hr : Room k X.A) (nd : X.N.Nodup) (hg : Gl X "any") (hm : X.mg "any" = none) (TB : GxR.TabB X.base X.mg c P) (hcode : X.env.code = .ref c) (S : GOk X.N X.env.scope scope x j) (hi : PI X (.Name x px) iter wi)
    (hel : ∀ s4 H4 code fp, PE (genY X scope s4 H4 code fp) elt te) (hs : ∀ v, genFold iter X.env v = pure v)
    (he : starEach [.GeneratorExp elt [⟨.Name x px, iter, [], 0⟩] scope gpos] X.env = (false, eval (.GeneratorExp elt [⟨.Name x px, iter, [], 0⟩] scope gpos) X.env) :: starEach [] X.env := by rfl) :
    PE X (.Call (.Name "any" p) [.GeneratorExp elt [⟨.Name x px, iter, [], 0⟩] scope gpos] [] pos) (tWalkG List.any P wi j te) := by
  refine ⟨fun pins s σ H Q I h => wpAny_Call_Name_kw (ld_blt I hg hm boot_any (PyProof.Rows.callWith_builtin1 ?_ he (by rfl)))⟩
  rw [he]
  show wpAny _ _ (spliced ((false, eval (.GeneratorExp elt [⟨.Name x px, iter, [], 0⟩] scope gpos) X.env) :: backTo pos (starEach [] X.env))) _ _ s
  have hdp := hr.dp
  refine Calls.spliced_cons (gen_made hr.hd (by omega) nd TB hcode S hi hel hs I h fun W a go s5 eP ew ok hp isg st fin => Calls.spliced_nil ?_)
  have := call_anyG (A := X.A) (E := X.xe) ok hp isg hr.hd (by omega) st fin
  rw [eP, ew] at this
  exact this
end
end Qp

/-! Q13: all, any of a generator expression, over data. -/
namespace Qp
open PySem PySem.Spec PyProof.Rows L2
theorem room_gen {k : Nat} {A : Around} {env : Env} (r : Room k A) (h : 1 ≤ k) : Room (k - 1) (A.in1.in1.deeper env) := by
  obtain ⟨m, rfl⟩ : ∃ m, k = m + 1 := ⟨k - 1, by omega⟩
  refine ⟨r.hd, ?_, ?_⟩
  · have := r.dp
    show A.depth + 1 + 3 * (m + 1 - 1) + 5 < _
    omega
  · have := r.un
    show A.units + 1 + 1 + 3 + 16 * (m + 1 - 1) + 200 < _
    omega
/-- the context of a generator expression's element -/
def Cs.gen (C : Cs) (scope : Scope) [hc : Cold C] (hk : 1 ≤ C.k) : Cs where
  ι := C.ι × Shared × Hp × Value × List Addr
  X := fun q => genY (C.X q.1) scope q.2.1 q.2.2.1 q.2.2.2.1 q.2.2.2.2
  P := C.P
  w := C.w
  K := C.K
  mg := C.mg
  base := C.base
  N := C.N
  k := C.k - 1
  hP := fun q => C.hP q.1
  hw := fun q => C.hw q.1
  hK := fun q => C.hK q.1
  hmg := fun q => C.hmg q.1
  hbase := fun q => C.hbase q.1
  hN := fun q => C.hN q.1
  nd := C.nd
  calm := fun _ _ => rfl
  cold := fun q _ => room_gen (C.cold q.1 hc.h) hk
  hotc := fun _ z => Bool.noConfusion z
  E := noX C.E.T
  takes := fun _ => takesN
instance {C : Cs} {scope : Scope} [Cold C] {hk : 1 ≤ C.k} : Cold (C.gen scope hk) := ⟨rfl⟩
theorem ex_tbd {P : Addr} {H H2 : Hp} (t : Tbd P H H2) : Ex H H2 := by
  obtain ⟨ps, more, h1, rfl, h3⟩ := t
  intro a o h
  by_cases e : a = P
  · subst e
    rw [h1] at h
    cases h
    exact ⟨more, upd_same, fun _ => h3⟩
  · rw [upd_ne e]
    exact .of h
section
variable {K : Fg} {E : Xw} {ls : List Loc}
theorem ev_gen {f : List Nat → (Nat → Bool) → Bool} {wi : TI} {te : TE} {P : Addr} (j n : Nat) (xs : Nat → D) (b : Nat → Bool) (J : Hp → It → Prop) (hj : ∀ l, ls[j]? = some l → l.keeps = true) (hT : E.T P)
    (hw : ∀ F G H σ, Sat K F G H σ ls → Xok K E F G H σ ls → ∀ R : It → Hp → Prop, (∀ Jt G' H', Ex G G' → Ex H H' → Sat K F G' H' σ ls → J G' Jt → R Jt H') → wi σ H R)
    (hstop : ∀ G Jt H, J G Jt → Ex G H → Jt.stop n H) (hgo : ∀ G Jt H i, J G Jt → Ex G H → i < n → Jt.go i H) (hy : ∀ G Jt H i x H1, J G Jt → Ex G H → i < n → Jt.yld i H x H1 → H1 = H ∧ Dq K G x (xs i))
    (he : ∀ i, i < n → Ev K (noX E.T) te (ls.set j (.val (xs i))) (.bl (b i))) : Ev K E (tWalkG f P wi j te) ls (.bl (f (List.range n) b)) := fun F G H σ S xx Q q => hw F G H σ S xx _ fun Jt G1 H1 eg1 eh1 S1 hJ => by
  have tb1 := fun P h => ((xx.tb P h).mono eg1)
  refine ⟨(tb1 P hT).mono S1.ex, fun H2 ht => ?_⟩
  have e2 := ex_tbd ht
  have S2 : Sat K F G1 H2 σ ls := S1.grow (Ex.refl G1) e2 (S1.ex.trans e2) fun a h => Or.inl h
  refine ⟨n, b, fun i σ' H' => σ'.set j none = σ.set j none ∧ ∃ G', Ex G1 G' ∧ Ex H2 H' ∧ Sat K F G' H' σ ls, ⟨by rw [List.set_set], G1, Ex.refl _, Ex.refl _, S2⟩, fun i σ' H' hlt h => ?_, fun σ' H' h => ?_, fun i σ' H' x H3 hlt h y => ?_, fun i σ' H' h => ?_⟩
  · obtain ⟨_, G', eg', eh', S'⟩ := h
    exact hgo G1 Jt H' i hJ (eg'.trans S'.ex) hlt
  · obtain ⟨_, G', eg', eh', S'⟩ := h
    exact hstop G1 Jt H' hJ (eg'.trans S'.ex)
  · obtain ⟨e0, G', eg', eh', S'⟩ := h
    obtain ⟨rfl, hx⟩ := hy G1 Jt H' i x H3 hJ (eg'.trans S'.ex) hlt y
    have e1 : σ'.set j (some x) = σ.set j (some x) := by
      have := congrArg (fun l => l.set j (some x)) e0
      simp only [List.set_set] at this
      exact this
    show te (σ'.set j (some x)) H3 _
    rw [e1]
    have Sx : Sat K F G' H3 (σ.set j (some x)) (ls.set j (.val (xs i))) := S'.setV (dq_mono eg' hx)
    refine he i hlt F G' H3 _ Sx (xok_no fun P h => (tb1 P h).mono eg') _ fun v G4 H4 eg4 eh4 S4 hv => ⟨dq_bl hv, by rw [List.set_set], G4, eg'.trans eg4, eh'.trans eh4, ?_⟩
    exact Sat.restore S' S4 eg4 eh4 hj
  · obtain ⟨_, G', eg', eh', S'⟩ := h
    exact q _ G' H' (eg1.trans eg') (eh1.trans (e2.trans eh')) S' (.bl _)
end
section
variable {C : Cs} {ls : List Loc} {e elt : Expr} {P : Addr} {pos p1 p2 p3 px gpos : Pos} {x : Str} {scope : Scope}
theorem pe_gen' (f : List Nat → (Nat → Bool) → Bool) (nm : Str) {wi : TI} {te : TE} {iter : Expr} {p : Pos} (j : Nat) (h : ∀ i, PE (C.X i) (.Call (.Name nm p) [.GeneratorExp elt [⟨.Name x px, iter, [], 0⟩] scope gpos] [] pos) (tWalkG f P wi j te)) (n : Nat) (b : Nat → Bool) (ev : Ev C.K C.E (tWalkG f P wi j te) ls (.bl (f (List.range n) b))) :
    JE C ls (.Call (.Name nm p) [.GeneratorExp elt [⟨.Name x px, iter, [], 0⟩] scope gpos] [] pos) (.bl (f (List.range n) b)) := je_of h ev
theorem je_allT [Cold C] {α : Type} {xs : List α} (g : α → D) (z : α) (j : Nat) (b : Nat → Bool) (hk : 1 ≤ C.k) (he : JE C ls e (.tup (xs.map g)))
    (hb : ∀ i, i < xs.length → JE (C.gen scope hk) (ls.set j (.val (g (xs.getD i z)))) elt (.bl (b i))) (TB : ∀ i, ∃ c, GxR.TabB (C.X i).base (C.X i).mg c P ∧ (C.X i).env.code = .ref c) (hT : C.E.T P) (S : ∀ i, GOk C.N (C.X i).env.scope scope x j) (hj : ∀ l, ls[j]? = some l → l.keeps = true := by intro _ h; cases h; rfl)
    (hm : NoG C "all" := by assumption) (hg : ∀ j, Gl (C.X j) "all" := by intro _; rfl) (hfs : ∀ i v, genFold e (C.X i).env v = pure v := by intro _ _; rfl)
    (hst : ∀ i, starEach [.GeneratorExp elt [⟨.Name x px, e, [], 0⟩] scope gpos] (C.X i).env = (false, eval (.GeneratorExp elt [⟨.Name x px, e, [], 0⟩] scope gpos) (C.X i).env) :: starEach [] (C.X i).env := by intro _; rfl) :
    JE C ls (.Call (.Name "all" p1) [.GeneratorExp elt [⟨.Name x px, e, [], 0⟩] scope gpos] [] pos) (.bl ((List.range xs.length).all b)) :=
  je_of (t := tWalkG List.all P (iTup C.K (eAny C e)) j (eAny (C.gen scope hk) elt))
    (fun i => by
      obtain ⟨c, tb, hc⟩ := TB i
      exact pe_allG (C.cold i Cold.h) (by rw [C.hN]; exact C.nd) (hg i) (noG hm i) tb hc (by rw [C.hN]; exact S i) (kx (p := fun K => PI (C.X i) _ e (iTup K (eAny C e))) i (pi_tup (pe_any C e i))) (fun s4 H4 code fp => pe_any (C.gen scope hk) elt (i, s4, H4, code, fp)) (hfs i) (hst i))
    (ev_gen j xs.length (fun i => g (xs.getD i z)) b (fun G Jt => ∃ a vs, Jt = Itt C.K a ∧ SqT C.K G a vs ∧ DqAll C.K G vs (xs.map g)) hj hT
      (fun F G H σ S xx R q => he F G H σ S xx _ fun v G' H' eg eh S' hv => by
        obtain ⟨a, vs, rfl, ha, hd⟩ := dq_tup hv
        exact ⟨a, rfl, ⟨vs, ex_t S'.ex ha⟩, q _ G' H' eg eh S' ⟨a, vs, rfl, ha, hd⟩⟩)
      (fun G Jt H hJ e => by
        obtain ⟨a, vs, rfl, ha, hd⟩ := hJ
        exact ⟨vs, ex_t e ha, by rw [hd.length, List.length_map]; exact Nat.le_refl _⟩)
      (fun G Jt H i hJ e hi => by
        obtain ⟨a, vs, rfl, ha, hd⟩ := hJ
        exact ⟨vs, vs[i]'(by rw [hd.length, List.length_map]; exact hi), ex_t e ha, List.getElem?_eq_getElem _⟩)
      (fun G Jt H i x H1 hJ e hi y => by
        obtain ⟨a, vs, rfl, ha, hd⟩ := hJ
        obtain ⟨rfl, y⟩ := y
        have hx := y vs (ex_t e ha)
        obtain ⟨d, e1, e2⟩ := hd.get' hx
        refine ⟨rfl, ?_⟩
        rw [List.getElem?_map, List.getElem?_eq_getElem hi] at e1
        cases e1
        rw [List.getD_eq_getElem?_getD, List.getElem?_eq_getElem hi]
        exact e2) hb)
theorem je_allL [Cold C] {α : Type} {xs : List α} (g : α → D) (z : α) (j : Nat) (b : Nat → Bool) (hk : 1 ≤ C.k) (he : JE C ls e (.lst (xs.map g)))
    (hb : ∀ i, i < xs.length → JE (C.gen scope hk) (ls.set j (.val (g (xs.getD i z)))) elt (.bl (b i))) (TB : ∀ i, ∃ c, GxR.TabB (C.X i).base (C.X i).mg c P ∧ (C.X i).env.code = .ref c) (hT : C.E.T P) (S : ∀ i, GOk C.N (C.X i).env.scope scope x j) (hj : ∀ l, ls[j]? = some l → l.keeps = true := by intro _ h; cases h; rfl)
    (hm : NoG C "all" := by assumption) (hg : ∀ j, Gl (C.X j) "all" := by intro _; rfl) (hfs : ∀ i v, genFold e (C.X i).env v = pure v := by intro _ _; rfl)
    (hst : ∀ i, starEach [.GeneratorExp elt [⟨.Name x px, e, [], 0⟩] scope gpos] (C.X i).env = (false, eval (.GeneratorExp elt [⟨.Name x px, e, [], 0⟩] scope gpos) (C.X i).env) :: starEach [] (C.X i).env := by intro _; rfl) :
    JE C ls (.Call (.Name "all" p1) [.GeneratorExp elt [⟨.Name x px, e, [], 0⟩] scope gpos] [] pos) (.bl ((List.range xs.length).all b)) :=
  je_of (t := tWalkG List.all P (iList C.K (eAny C e)) j (eAny (C.gen scope hk) elt))
    (fun i => by
      obtain ⟨c, tb, hc⟩ := TB i
      exact pe_allG (C.cold i Cold.h) (by rw [C.hN]; exact C.nd) (hg i) (noG hm i) tb hc (by rw [C.hN]; exact S i) (kx (p := fun K => PI (C.X i) _ e (iList K (eAny C e))) i (pi_list (pe_any C e i))) (fun s4 H4 code fp => pe_any (C.gen scope hk) elt (i, s4, H4, code, fp)) (hfs i) (hst i))
    (ev_gen j xs.length (fun i => g (xs.getD i z)) b (fun G Jt => ∃ a vs, Jt = Itl C.K a ∧ G a = some (.lst vs) ∧ DqAll C.K G vs (xs.map g)) hj hT
      (fun F G H σ S xx R q => he F G H σ S xx _ fun v G' H' eg eh S' hv => by
        obtain ⟨a, vs, rfl, ha, hd⟩ := dq_lst hv
        exact ⟨a, rfl, ⟨vs, SqL.of (S'.ex _ _ ha)⟩, q _ G' H' eg eh S' ⟨a, vs, rfl, ha, hd⟩⟩)
      (fun G Jt H hJ e => by
        obtain ⟨a, vs, rfl, ha, hd⟩ := hJ
        exact ⟨vs, SqL.of (e _ _ ha), by rw [hd.length, List.length_map]; exact Nat.le_refl _⟩)
      (fun G Jt H i hJ e hi => by
        obtain ⟨a, vs, rfl, ha, hd⟩ := hJ
        exact ⟨vs, vs[i]'(by rw [hd.length, List.length_map]; exact hi), SqL.of (e _ _ ha), List.getElem?_eq_getElem _⟩)
      (fun G Jt H i x H1 hJ e hi y => by
        obtain ⟨a, vs, rfl, ha, hd⟩ := hJ
        obtain ⟨rfl, y⟩ := y
        have hx := y vs (SqL.of (e _ _ ha))
        obtain ⟨d, e1, e2⟩ := hd.get' hx
        refine ⟨rfl, ?_⟩
        rw [List.getElem?_map, List.getElem?_eq_getElem hi] at e1
        cases e1
        rw [List.getD_eq_getElem?_getD, List.getElem?_eq_getElem hi]
        exact e2) hb)
theorem je_allR [Cold C] {n : Int} (j : Nat) (b : Nat → Bool) (hk : 1 ≤ C.k) (he : JE C ls e (.int n)) (hn : n < 2 ^ 61)
    (hb : ∀ i, i < n.toNat → JE (C.gen scope hk) (ls.set j (.val (.int i))) elt (.bl (b i))) (TB : ∀ i, ∃ c, GxR.TabB (C.X i).base (C.X i).mg c P ∧ (C.X i).env.code = .ref c) (hT : C.E.T P) (S : ∀ i, GOk C.N (C.X i).env.scope scope x j) (hj : ∀ l, ls[j]? = some l → l.keeps = true := by intro _ h; cases h; rfl)
    (hm : NoG C "all" := by assumption) (hg : ∀ j, Gl (C.X j) "all" := by intro _; rfl) (hmr : NoG C "range" := by assumption) (hgr : ∀ j, Gl (C.X j) "range" := by intro _; rfl) (hs : NS e := by intro _ _; rfl) (hfs : ∀ i v, genFold (.Call (.Name "range" p2) [e] [] p3) (C.X i).env v = pure v := by intro _ _; rfl)
    (hst : ∀ i, starEach [.GeneratorExp elt [⟨.Name x px, .Call (.Name "range" p2) [e] [] p3, [], 0⟩] scope gpos] (C.X i).env = (false, eval (.GeneratorExp elt [⟨.Name x px, .Call (.Name "range" p2) [e] [] p3, [], 0⟩] scope gpos) (C.X i).env) :: starEach [] (C.X i).env := by intro _; rfl) (h62 : -(2 ^ 62) ≤ n := by omega) :
    JE C ls (.Call (.Name "all" p1) [.GeneratorExp elt [⟨.Name x px, .Call (.Name "range" p2) [e] [] p3, [], 0⟩] scope gpos] [] pos) (.bl ((List.range n.toNat).all b)) :=
  je_of (t := tWalkG List.all P (iRng1 (tCons (eAny C e) tNil)) j (eAny (C.gen scope hk) elt))
    (fun i => by
      obtain ⟨c, tb, hc⟩ := TB i
      exact pe_allG (C.cold i Cold.h) (by rw [C.hN]; exact C.nd) (hg i) (noG hm i) tb hc (by rw [C.hN]; exact S i) (range' i (hgr i) hmr hs) (fun s4 H4 code fp => pe_any (C.gen scope hk) elt (i, s4, H4, code, fp)) (hfs i) (hst i))
    (ev_gen j n.toNat (fun i => .int i) b (fun _ Jt => Jt = Itr 0 n.toNat) hj hT
      (fun F G H σ S xx R q => he F G H σ S xx _ fun v G' H' eg eh S' hv => ⟨n, by rw [dq_int hv], h62, by omega, q _ G' H' eg eh S' rfl⟩)
      (fun G Jt H hJ e => by subst hJ; exact Nat.le_refl _) (fun G Jt H i hJ e hi => by subst hJ; exact hi)
      (fun G Jt H i x H1 hJ e hi y => by
        subst hJ
        obtain ⟨rfl, rfl⟩ := y
        have e0 : (0 : Int) + (i : Int) = (i : Int) := Int.zero_add _
        exact ⟨rfl, by rw [e0]; exact .int _⟩) hb)
theorem je_anyT [Cold C] {α : Type} {xs : List α} (g : α → D) (z : α) (j : Nat) (b : Nat → Bool) (hk : 1 ≤ C.k) (he : JE C ls e (.tup (xs.map g)))
    (hb : ∀ i, i < xs.length → JE (C.gen scope hk) (ls.set j (.val (g (xs.getD i z)))) elt (.bl (b i))) (TB : ∀ i, ∃ c, GxR.TabB (C.X i).base (C.X i).mg c P ∧ (C.X i).env.code = .ref c) (hT : C.E.T P) (S : ∀ i, GOk C.N (C.X i).env.scope scope x j) (hj : ∀ l, ls[j]? = some l → l.keeps = true := by intro _ h; cases h; rfl)
    (hm : NoG C "any" := by assumption) (hg : ∀ j, Gl (C.X j) "any" := by intro _; rfl) (hfs : ∀ i v, genFold e (C.X i).env v = pure v := by intro _ _; rfl)
    (hst : ∀ i, starEach [.GeneratorExp elt [⟨.Name x px, e, [], 0⟩] scope gpos] (C.X i).env = (false, eval (.GeneratorExp elt [⟨.Name x px, e, [], 0⟩] scope gpos) (C.X i).env) :: starEach [] (C.X i).env := by intro _; rfl) :
    JE C ls (.Call (.Name "any" p1) [.GeneratorExp elt [⟨.Name x px, e, [], 0⟩] scope gpos] [] pos) (.bl ((List.range xs.length).any b)) :=
  je_of (t := tWalkG List.any P (iTup C.K (eAny C e)) j (eAny (C.gen scope hk) elt))
    (fun i => by
      obtain ⟨c, tb, hc⟩ := TB i
      exact pe_anyG (C.cold i Cold.h) (by rw [C.hN]; exact C.nd) (hg i) (noG hm i) tb hc (by rw [C.hN]; exact S i) (kx (p := fun K => PI (C.X i) _ e (iTup K (eAny C e))) i (pi_tup (pe_any C e i))) (fun s4 H4 code fp => pe_any (C.gen scope hk) elt (i, s4, H4, code, fp)) (hfs i) (hst i))
    (ev_gen j xs.length (fun i => g (xs.getD i z)) b (fun G Jt => ∃ a vs, Jt = Itt C.K a ∧ SqT C.K G a vs ∧ DqAll C.K G vs (xs.map g)) hj hT
      (fun F G H σ S xx R q => he F G H σ S xx _ fun v G' H' eg eh S' hv => by
        obtain ⟨a, vs, rfl, ha, hd⟩ := dq_tup hv
        exact ⟨a, rfl, ⟨vs, ex_t S'.ex ha⟩, q _ G' H' eg eh S' ⟨a, vs, rfl, ha, hd⟩⟩)
      (fun G Jt H hJ e => by
        obtain ⟨a, vs, rfl, ha, hd⟩ := hJ
        exact ⟨vs, ex_t e ha, by rw [hd.length, List.length_map]; exact Nat.le_refl _⟩)
      (fun G Jt H i hJ e hi => by
        obtain ⟨a, vs, rfl, ha, hd⟩ := hJ
        exact ⟨vs, vs[i]'(by rw [hd.length, List.length_map]; exact hi), ex_t e ha, List.getElem?_eq_getElem _⟩)
      (fun G Jt H i x H1 hJ e hi y => by
        obtain ⟨a, vs, rfl, ha, hd⟩ := hJ
        obtain ⟨rfl, y⟩ := y
        have hx := y vs (ex_t e ha)
        obtain ⟨d, e1, e2⟩ := hd.get' hx
        refine ⟨rfl, ?_⟩
        rw [List.getElem?_map, List.getElem?_eq_getElem hi] at e1
        cases e1
        rw [List.getD_eq_getElem?_getD, List.getElem?_eq_getElem hi]
        exact e2) hb)
theorem je_anyL [Cold C] {α : Type} {xs : List α} (g : α → D) (z : α) (j : Nat) (b : Nat → Bool) (hk : 1 ≤ C.k) (he : JE C ls e (.lst (xs.map g)))
    (hb : ∀ i, i < xs.length → JE (C.gen scope hk) (ls.set j (.val (g (xs.getD i z)))) elt (.bl (b i))) (TB : ∀ i, ∃ c, GxR.TabB (C.X i).base (C.X i).mg c P ∧ (C.X i).env.code = .ref c) (hT : C.E.T P) (S : ∀ i, GOk C.N (C.X i).env.scope scope x j) (hj : ∀ l, ls[j]? = some l → l.keeps = true := by intro _ h; cases h; rfl)
    (hm : NoG C "any" := by assumption) (hg : ∀ j, Gl (C.X j) "any" := by intro _; rfl) (hfs : ∀ i v, genFold e (C.X i).env v = pure v := by intro _ _; rfl)
    (hst : ∀ i, starEach [.GeneratorExp elt [⟨.Name x px, e, [], 0⟩] scope gpos] (C.X i).env = (false, eval (.GeneratorExp elt [⟨.Name x px, e, [], 0⟩] scope gpos) (C.X i).env) :: starEach [] (C.X i).env := by intro _; rfl) :
    JE C ls (.Call (.Name "any" p1) [.GeneratorExp elt [⟨.Name x px, e, [], 0⟩] scope gpos] [] pos) (.bl ((List.range xs.length).any b)) :=
  je_of (t := tWalkG List.any P (iList C.K (eAny C e)) j (eAny (C.gen scope hk) elt))
    (fun i => by
      obtain ⟨c, tb, hc⟩ := TB i
      exact pe_anyG (C.cold i Cold.h) (by rw [C.hN]; exact C.nd) (hg i) (noG hm i) tb hc (by rw [C.hN]; exact S i) (kx (p := fun K => PI (C.X i) _ e (iList K (eAny C e))) i (pi_list (pe_any C e i))) (fun s4 H4 code fp => pe_any (C.gen scope hk) elt (i, s4, H4, code, fp)) (hfs i) (hst i))
    (ev_gen j xs.length (fun i => g (xs.getD i z)) b (fun G Jt => ∃ a vs, Jt = Itl C.K a ∧ G a = some (.lst vs) ∧ DqAll C.K G vs (xs.map g)) hj hT
      (fun F G H σ S xx R q => he F G H σ S xx _ fun v G' H' eg eh S' hv => by
        obtain ⟨a, vs, rfl, ha, hd⟩ := dq_lst hv
        exact ⟨a, rfl, ⟨vs, SqL.of (S'.ex _ _ ha)⟩, q _ G' H' eg eh S' ⟨a, vs, rfl, ha, hd⟩⟩)
      (fun G Jt H hJ e => by
        obtain ⟨a, vs, rfl, ha, hd⟩ := hJ
        exact ⟨vs, SqL.of (e _ _ ha), by rw [hd.length, List.length_map]; exact Nat.le_refl _⟩)
      (fun G Jt H i hJ e hi => by
        obtain ⟨a, vs, rfl, ha, hd⟩ := hJ
        exact ⟨vs, vs[i]'(by rw [hd.length, List.length_map]; exact hi), SqL.of (e _ _ ha), List.getElem?_eq_getElem _⟩)
      (fun G Jt H i x H1 hJ e hi y => by
        obtain ⟨a, vs, rfl, ha, hd⟩ := hJ
        obtain ⟨rfl, y⟩ := y
        have hx := y vs (SqL.of (e _ _ ha))
        obtain ⟨d, e1, e2⟩ := hd.get' hx
        refine ⟨rfl, ?_⟩
        rw [List.getElem?_map, List.getElem?_eq_getElem hi] at e1
        cases e1
        rw [List.getD_eq_getElem?_getD, List.getElem?_eq_getElem hi]
        exact e2) hb)
theorem je_anyR [Cold C] {n : Int} (j : Nat) (b : Nat → Bool) (hk : 1 ≤ C.k) (he : JE C ls e (.int n)) (hn : n < 2 ^ 61)
    (hb : ∀ i, i < n.toNat → JE (C.gen scope hk) (ls.set j (.val (.int i))) elt (.bl (b i))) (TB : ∀ i, ∃ c, GxR.TabB (C.X i).base (C.X i).mg c P ∧ (C.X i).env.code = .ref c) (hT : C.E.T P) (S : ∀ i, GOk C.N (C.X i).env.scope scope x j) (hj : ∀ l, ls[j]? = some l → l.keeps = true := by intro _ h; cases h; rfl)
    (hm : NoG C "any" := by assumption) (hg : ∀ j, Gl (C.X j) "any" := by intro _; rfl) (hmr : NoG C "range" := by assumption) (hgr : ∀ j, Gl (C.X j) "range" := by intro _; rfl) (hs : NS e := by intro _ _; rfl) (hfs : ∀ i v, genFold (.Call (.Name "range" p2) [e] [] p3) (C.X i).env v = pure v := by intro _ _; rfl)
    (hst : ∀ i, starEach [.GeneratorExp elt [⟨.Name x px, .Call (.Name "range" p2) [e] [] p3, [], 0⟩] scope gpos] (C.X i).env = (false, eval (.GeneratorExp elt [⟨.Name x px, .Call (.Name "range" p2) [e] [] p3, [], 0⟩] scope gpos) (C.X i).env) :: starEach [] (C.X i).env := by intro _; rfl) (h62 : -(2 ^ 62) ≤ n := by omega) :
    JE C ls (.Call (.Name "any" p1) [.GeneratorExp elt [⟨.Name x px, .Call (.Name "range" p2) [e] [] p3, [], 0⟩] scope gpos] [] pos) (.bl ((List.range n.toNat).any b)) :=
  je_of (t := tWalkG List.any P (iRng1 (tCons (eAny C e) tNil)) j (eAny (C.gen scope hk) elt))
    (fun i => by
      obtain ⟨c, tb, hc⟩ := TB i
      exact pe_anyG (C.cold i Cold.h) (by rw [C.hN]; exact C.nd) (hg i) (noG hm i) tb hc (by rw [C.hN]; exact S i) (range' i (hgr i) hmr hs) (fun s4 H4 code fp => pe_any (C.gen scope hk) elt (i, s4, H4, code, fp)) (hfs i) (hst i))
    (ev_gen j n.toNat (fun i => .int i) b (fun _ Jt => Jt = Itr 0 n.toNat) hj hT
      (fun F G H σ S xx R q => he F G H σ S xx _ fun v G' H' eg eh S' hv => ⟨n, by rw [dq_int hv], h62, by omega, q _ G' H' eg eh S' rfl⟩)
      (fun G Jt H hJ e => by subst hJ; exact Nat.le_refl _) (fun G Jt H i hJ e hi => by subst hJ; exact hi)
      (fun G Jt H i x H1 hJ e hi y => by
        subst hJ
        obtain ⟨rfl, rfl⟩ := y
        have e0 : (0 : Int) + (i : Int) = (i : Int) := Int.zero_add _
        exact ⟨rfl, by rw [e0]; exact .int _⟩) hb)
end
end Qp

/-! Q14: defs that hold generator expressions; the end with their tables. -/
namespace Qp
open PySem PySem.Spec PyProof.Rows L2
/-- a def, its code object at c -/
structure FunC (K : Fg) (x qual : Str) (st : Stmt) (f c : Addr) (fd : FuncData) : Prop where
  ex : ∃ (oc : Value) (od : Option Addr) (kV doc pm : Value) (an : Option Addr) (ct : Value) (osl : Array (Option Value)),
    fd = PySem.W.fnOf x qual (defArgs st) (defBody st) (defScope st) .none kV doc pm an (.ref c) ct ∧ K.lookup f = some ⟨oc, od, .func fd, osl⟩ ∧ PySem.W.codeIn K (.ref c) qual = true
  kp : PySem.W.keepIn K (.ref f) = true
theorem FunC.fun {K : Fg} {x qual : Str} {st : Stmt} {f c : Addr} {fd : FuncData} (F : FunC K x qual st f c fd) : Fun K x qual st f fd := by
  obtain ⟨oc, od, kV, doc, pm, an, ct, osl, h1, h2, h3⟩ := F.ex
  exact ⟨⟨oc, od, kV, doc, pm, an, .ref c, ct, osl, h1, h2, h3⟩, F.kp⟩
section
variable {P : Program} {w : World} {K : Fg} {mg : Str → Option Value} {base : Heap}
theorem fn_okC {x qual : Str} {st : Stmt} {f c : Addr} {fd : FuncData} {N ps : List Str} {k : Nat} {R : Rel} {T : Addr → Prop} (F : FunC K x qual st f c fd) (S : FnScope N ps (defScope st)) (len : ∀ ds d, R ds d → ds.length = ps.length)
    (body : ∀ (A : Around) (outer : List Env) (s : Shared) (H : Hp) (E : XK) (hr : Room k (A.deeper (envOfC qual (defScope st) s.heap.objs.size f (.ref c)))) (ds : List D) (Po : D → Prop), R ds Po →
      JB (Cs.of P w K mg base S.nd qual (defScope st) f (.ref c) A outer s H E hr T) (locs N.length ds) (defBody st) (RetX Po)) : FnOk P w K mg base CX0 (k + 1) f fd ps (spD K R T) := by
  obtain ⟨oc, od, kV, doc, pm, an, ct, osl, rfl, lk, hcd⟩ := F.ex
  have len' : ∀ vs H Q E, spD K R T vs H Q E → vs.length = ps.length := fun vs H Q E h => by
    obtain ⟨G, ds, d, _, _, hv, hR, _⟩ := h
    rw [hv.length]
    exact len ds d hR
  refine fn_of lk hcd S len' fun A outer s H vs Q E hr h => ?_
  have key : ∃ t, PSs (cxOf CX0 P w K mg base N qual (defScope st) f (.ref c) A outer s H E).nox (defBody st) t ∧ t { nx := fun _ H' => Q .non H', rt := Q } (L2.start N vs) H := by
    obtain ⟨G, ds, Po, eg, tb, hv, hR, q⟩ := h
    refine ⟨_, pb_any (Cs.of P w K mg base S.nd qual (defScope st) f (.ref c) A outer s H E hr T) (defBody st) (), ?_⟩
    have fin : ∀ G' H' v d', Ex G G' → Kp (fun a => NT H a ∧ G a = none) H H' → (∀ a, (NT H a ∧ G a = none) → G' a = none) → Ex G' H' → Dq K G' v d' → Po d' → Q v H' := by
      intro G' H' v d' eg' kp fg e hv' hd
      refine q d' hd G' H' v eg' e (fun a o ha => ?_) (fun a h1 h2 => fg a ⟨h1, h2⟩) hv'
      by_cases nt : NoTb o
      · refine .of ?_
        cases hg : G a with
        | none => rw [kp.1 a ⟨⟨o, ha, nt⟩, hg⟩]; exact ha
        | some u =>
          have h2 := eg a u hg
          rw [ha] at h2
          have nu : NoTb u := fun ps z => by
            subst z
            obtain ⟨m, z, _⟩ := h2
            exact nt _ (Option.some.inj z)
          obtain rfl : o = u := Option.some.inj (h2.at nu)
          exact (e a _ ((eg' a _ hg).at nt)).at nt
      · cases o <;> first | exact kp.2 a _ ha | exact absurd (fun _ z => nomatch z) nt
    refine body A outer s H E hr ds Po hR (fun a => NT H a ∧ G a = none) G H (L2.start N vs) _ (sat_start eg hv) ⟨fun G' H' σ' ls' eg' kp S' r => ?_, fun G' H' v d' eg' kp fg e hv' r => fin G' H' v d' eg' kp fg e hv' r, fun _ _ _ _ _ _ _ z => False.elim z, fun _ _ _ _ _ _ _ z => False.elim z, tb, fun _ z => (List.not_mem_nil z).elim, fun _ _ _ _ _ _ _ _ _ _ _ _ _ z => False.elim z⟩
    exact fin G' H' .non .non eg' kp (fun a fa => (S'.fo a fa).1) S'.ex .non r
  obtain ⟨t, h1, q⟩ := key
  exact ⟨t, h1.nox, q⟩
theorem fn_okCd {x qual : Str} {st : Stmt} {f c : Addr} {fd : FuncData} {N ps : List Str} {k : Nat} {r : List D → D → Prop} {T : Addr → Prop} (F : FunC K x qual st f c fd) (S : FnScope N ps (defScope st)) (len : ∀ ds d, r ds d → ds.length = ps.length)
    (body : ∀ (A : Around) (outer : List Env) (s : Shared) (H : Hp) (E : XK) (hr : Room k (A.deeper (envOfC qual (defScope st) s.heap.objs.size f (.ref c)))) (ds : List D) (d : D), r ds d →
      JB (Cs.of P w K mg base S.nd qual (defScope st) f (.ref c) A outer s H E hr T) (locs N.length ds) (defBody st) (Ret d)) : FnOk P w K mg base CX0 (k + 1) f fd ps (spD K (det r) T) :=
  fn_okC F S (fun ds Po ⟨d, h, _⟩ => len ds d h) fun A outer s H E hr ds Po ⟨d, h, e⟩ => by
    subst e
    exact jb_post (body A outer s H E hr ds d h) (fun _ z => Eq.symm z) (fun _ z => z) (fun _ z => z) (fun _ z => z)
end
/-- a generator expression's scope, by the kernel's look -/
theorem gok_by {N : List Str} {sc scope : Scope} {x : Str} {j : Nat} (h : gokC N sc scope x j = true) : GOk N sc scope x j := by
  unfold gokC at h
  simp only [Bool.and_eq_true, beq_iff_eq, Bool.not_eq_true', List.all_eq_true, bne_iff_ne, ne_eq, Bool.or_eq_true] at h
  obtain ⟨⟨⟨⟨⟨⟨⟨⟨h1, h2⟩, h3⟩, h4⟩, h5⟩, h6⟩, h7⟩, h8⟩, h9⟩ := h
  refine ⟨h1, h2, h3, h4, h5, fun y hy e => ?_, fun z => ?_, h8, fun y hy e => ?_⟩
  · rcases h6 y hy with (q | q) | q
    · exact absurd e q
    · exact .inl q
    · exact .inr q
  · have := h7 _ z
    simp at this
  · rcases h9 y hy with (q | q) | q
    · exact absurd e q
    · exact .inl q
    · exact .inr q
section
variable {C : Cs} {ls : List Loc} {a b c e : Expr} {d d1 d2 d3 : D} {pos : Pos} {x : Str}
theorem ev_chain {K : Fg} {E : Xw} {r r' : R2} {ta tb tc : TE} {k l : Bool} (ha : Ev K E ta ls d1) (hb : Ev K E tb ls d2) (hc : k = true → Ev K E tc ls d3) (h1 : ∀ G H x y (Q : VK), Dq K G x d1 → Dq K G y d2 → Q (.bl k) H → r x y H Q) (h2 : ∀ G H x y (Q : VK), Dq K G x d2 → Dq K G y d3 → Q (.bl l) H → r' x y H Q) :
    Ev K E (tChain r r' ta tb tc) ls (.bl (k && l)) := fun F G H σ S xx Q q => ha F G H σ S xx _ fun v G1 H1 eg1 eh1 S1 hv => hb F G1 H1 σ S1 (xx.step eg1 eh1) _ fun u G2 H2 eg2 eh2 S2 hu => h1 G2 H2 v u _ (dq_mono eg2 hv) hu ⟨k, rfl, by
  cases k with
  | false => exact q _ G2 H2 (eg1.trans eg2) (eh1.trans eh2) S2 (.bl _)
  | true => exact hc rfl F G2 H2 σ S2 ((xx.step eg1 eh1).step eg2 eh2) _ fun z G3 H3 eg3 eh3 S3 hz => h2 G3 H3 u z _ (dq_mono eg3 hu) hz (q _ G3 H3 ((eg1.trans eg2).trans eg3) ((eh1.trans eh2).trans eh3) S3 (.bl _))⟩
theorem je_leLt {i j k : Int} (ha : JE C ls a (.int i)) (hb : JE C ls b (.int j)) (hc : JE C ls c (.int k)) (hmk : lastMarks [.LtE, .Lt] [b, c] = false := by rfl) : JE C ls (.Compare a [.LtE, .Lt] [b, c] pos) (.bl (decide (i ≤ j) && decide (j < k))) :=
  je_of (fun m => pe_chain op_le op_lt (pe_any C a m) (pe_any C b m) (pe_any C c m) hmk) (ev_chain ha hb (fun _ => hc) (fun G H x y Q hx hy q => ⟨_, _, dq_int hx, dq_int hy, q⟩) (fun G H x y Q hx hy q => ⟨_, _, dq_int hx, dq_int hy, q⟩))
theorem je_leLe {i j k : Int} (ha : JE C ls a (.int i)) (hb : JE C ls b (.int j)) (hc : JE C ls c (.int k)) (hmk : lastMarks [.LtE, .LtE] [b, c] = false := by rfl) : JE C ls (.Compare a [.LtE, .LtE] [b, c] pos) (.bl (decide (i ≤ j) && decide (j ≤ k))) :=
  je_of (fun m => pe_chain op_le op_le (pe_any C a m) (pe_any C b m) (pe_any C c m) hmk) (ev_chain ha hb (fun _ => hc) (fun G H x y Q hx hy q => ⟨_, _, dq_int hx, dq_int hy, q⟩) (fun G H x y Q hx hy q => ⟨_, _, dq_int hx, dq_int hy, q⟩))
/-- a module's constant -/
theorem je_globI {i : Int} {t : Tok} (hm : C.mg x = some (.int i t)) (hg : ∀ j, Gl (C.X j) x := by intro _; rfl) (hd : (x == ("__debug__" : Str)) = false := by decide) : JE C ls (.Name x pos) (.int i) :=
  je_of (fun j => pe_glob (v := .int i) (u := .int i t) (hg j) (by rw [C.hmg]; exact hm) ⟨_, rfl⟩ hd) (ev_c fun _ => .int i)
theorem je_globT {ad : Addr} {ds : List D} {vs : List V} (hm : C.mg x = some (.ref ad)) (hK : ∀ G, SqT C.K G ad vs) (hv : ∀ G, DqAll C.K G vs ds) (hg : ∀ j, Gl (C.X j) x := by intro _; rfl) (hd : (x == ("__debug__" : Str)) = false := by decide) : JE C ls (.Name x pos) (.tup ds) :=
  je_of (fun j => pe_glob (v := .ref ad) (hg j) (by rw [C.hmg]; exact hm) rfl hd) (ev_c fun G => .tup (hK G) (hv G))
theorem inV_ints (i : Int) : ∀ ns : List Int, inV (.int i) (ns.map V.int) = decide (i ∈ ns)
  | [] => by simp [inV]
  | n :: r => by
    have ih := inV_ints i r
    unfold inV at ih ⊢
    rw [List.map_cons, List.any_cons, ih]
    by_cases h : n = i
    · subst h
      simp [eqV]
    · have h' : ¬ i = n := fun z => h z.symm
      simp [eqV, h, h']
theorem flat_ints (ns : List Int) : (ns.map V.int).all flatV = true := by
  rw [List.all_map]
  exact List.all_eq_true.mpr fun _ _ => rfl
theorem je_inT {i : Int} {ns : List Int} (ha : JE C ls a (.int i)) (hb : JE C ls b (.tup (iL ns))) (hmk : behindInMarks .In b = false := by rfl) : JE C ls (.Compare a [.In] [b] pos) (.bl (decide (i ∈ ns))) :=
  je_of (fun j => pe_cmpR (kx (p := fun K => OpR (C.X j) (compareOp .In) (rIn K false)) j op_in_seq) (pe_any C a j) (pe_any C b j) hmk) (ev_op ha hb fun G H x y Q eg hx hy q => by
    obtain ⟨p, vs, rfl, hs, hv⟩ := dq_tup hy
    rw [dqAll_ints' hv] at hs
    rw [dq_int hx]
    refine ⟨p, _, rfl, .inr (ex_t eg hs), rfl, flat_ints ns, ?_⟩
    rw [if_neg Bool.false_ne_true, inV_ints]
    exact q _ (.bl _))
theorem je_notinT {i : Int} {ns : List Int} (ha : JE C ls a (.int i)) (hb : JE C ls b (.tup (iL ns))) (hmk : behindInMarks .NotIn b = false := by rfl) : JE C ls (.Compare a [.NotIn] [b] pos) (.bl (!decide (i ∈ ns))) :=
  je_of (fun j => pe_cmpR (kx (p := fun K => OpR (C.X j) (compareOp .NotIn) (rIn K true)) j op_notIn_seq) (pe_any C a j) (pe_any C b j) hmk) (ev_op ha hb fun G H x y Q eg hx hy q => by
    obtain ⟨p, vs, rfl, hs, hv⟩ := dq_tup hy
    rw [dqAll_ints' hv] at hs
    rw [dq_int hx]
    refine ⟨p, _, rfl, .inr (ex_t eg hs), rfl, flat_ints ns, ?_⟩
    rw [if_pos rfl, inV_ints]
    exact q _ (.bl _))
theorem jt_notinT {i : Int} {ns : List Int} (ha : JE C ls a (.int i)) (hb : JE C ls b (.tup (iL ns))) (hmk : behindInMarks .NotIn b = false := by rfl) : JT C ls (.Compare a [.NotIn] [b] pos) (!decide (i ∈ ns)) :=
  jt_of (fun j => pt_cmpR (kx (p := fun K => OpR (C.X j) (compareOp .NotIn) (rIn K true)) j op_notIn_seq) (pe_any C a j) (pe_any C b j) hmk) (evT_test (ev_op ha hb fun G H x y Q eg hx hy q => by
    obtain ⟨p, vs, rfl, hs, hv⟩ := dq_tup hy
    rw [dqAll_ints' hv] at hs
    rw [dq_int hx]
    refine ⟨p, _, rfl, .inr (ex_t eg hs), rfl, flat_ints ns, ?_⟩
    rw [if_pos rfl, inV_ints]
    exact q _ (.bl _)))
end
end Qp

/-! Q15: defs that may raise, their calls, raise. -/
namespace Qp
open PySem PySem.Spec PyProof.Rows L2
abbrev RelX := List D → (D → Prop) → (Addr → List (Str × D) → Prop) → Prop
/-- to an answer for which Po holds, or an exception of a class with fields for which Px holds -/
def spX (K : Fg) (R : RelX) (T : Addr → Prop := fun _ => False) : Sp := fun vs H Q E => ∃ G ds Po Px, Ex G H ∧ (∀ P, T P → TabAt G P) ∧ DqAll K G vs ds ∧ R ds Po Px ∧
  (∀ d, Po d → ∀ G' H' v, Ex G G' → Ex G' H' → Ex H H' → (∀ a, NT H a → G a = none → G' a = none) → Dq K G' v d → Q v H') ∧
  ∀ C gs, Px C gs → ∀ G' H' dd fs, Ex G G' → Ex G' H' → Ex H H' → (∀ a, NT H a → G a = none → G' a = none) → G' dd = some (.xd fs) → FsOk K G' fs gs → E (.ref C) (some dd) H'
/-- one answer, or one exception -/
def detX (r : List D → Except (Addr × List (Str × D)) D → Prop) : RelX := fun ds Po Px => ∃ o, r ds o ∧ (Po = fun d => o = .ok d) ∧ Px = fun C gs => o = .error (C, gs)
def Cs.ofX (P : Program) (w : World) (K : Fg) (mg : Str → Option Value) (base : Heap) {N : List Str} (nd : N.Nodup) (qual : Str) (scope : Scope) (f : Addr) (cdv : Value) (A : Around) (outer : List Env) (s : Shared) (H : Hp) (E : XK) {k : Nat}
    (hr : Room k (A.deeper (envOfC qual scope s.heap.objs.size f cdv))) (Px : Addr → List (Str × D) → Prop) (T : Addr → Prop := fun _ => False) : Cs where
  ι := Unit
  X := fun _ => cxOf (L2N.CX P w) P w K mg base N qual scope f cdv A outer s H E
  P := P
  w := w
  K := K
  mg := mg
  base := base
  N := N
  k := k
  hP := fun _ => rfl
  hw := fun _ => rfl
  hK := fun _ => rfl
  hmg := fun _ => rfl
  hbase := fun _ => rfl
  hN := fun _ => rfl
  nd := nd
  calm := fun _ _ => rfl
  cold := fun _ _ => hr
  hotc := fun _ z => Bool.noConfusion z
  E := ⟨fun cls d _ H' => E cls d H', fun _ C gs => Px C gs, T, []⟩
  takes := fun _ => L2N.takes_of rfl rfl rfl rfl
instance {P : Program} {w : World} {K : Fg} {mg : Str → Option Value} {base : Heap} {N : List Str} {nd : N.Nodup} {qual : Str} {scope : Scope} {f : Addr} {cdv : Value} {A : Around} {outer : List Env} {s : Shared} {H : Hp} {E : XK} {k : Nat} {hr : Room k (A.deeper (envOfC qual scope s.heap.objs.size f cdv))} {Px : Addr → List (Str × D) → Prop} {T : Addr → Prop} :
    Cold (Cs.ofX P w K mg base nd qual scope f cdv A outer s H E hr Px T) := ⟨rfl⟩
theorem ex_of_kp {G H G' H' : Hp} (eg : Ex G H) (eg' : Ex G G') (kp : Kp (fun a => NT H a ∧ G a = none) H H') (e : Ex G' H') : Ex H H' := fun a o ha => by
  by_cases nt : NoTb o
  · refine .of ?_
    cases hg : G a with
    | none => exact (kp.1 a ⟨⟨o, ha, nt⟩, hg⟩).trans ha
    | some u =>
      have h2 := eg a u hg
      rw [ha] at h2
      have nu : NoTb u := fun ps z => by
        subst z
        obtain ⟨m, z, _⟩ := h2
        exact nt _ (Option.some.inj z)
      obtain rfl : o = u := Option.some.inj (h2.at nu)
      exact (e a _ ((eg' a _ hg).at nt)).at nt
  · cases o <;> first | exact kp.2 a _ ha | exact absurd (fun _ z => nomatch z) nt
section
variable {P : Program} {w : World} {K : Fg} {mg : Str → Option Value} {base : Heap}
theorem fn_okX {x qual : Str} {st : Stmt} {f : Addr} {fd : FuncData} {N ps : List Str} {k : Nat} {R : RelX} {T : Addr → Prop} (F : Fun K x qual st f fd) (S : FnScope N ps (defScope st)) (len : ∀ ds d p, R ds d p → ds.length = ps.length)
    (body : ∀ (cdv : Value) (A : Around) (outer : List Env) (s : Shared) (H : Hp) (E : XK) (hr : Room k (A.deeper (envOfC qual (defScope st) s.heap.objs.size f cdv))) (ds : List D) (Po : D → Prop) (Px : Addr → List (Str × D) → Prop), R ds Po Px →
      JB (Cs.ofX P w K mg base S.nd qual (defScope st) f cdv A outer s H E hr Px T) (locs N.length ds) (defBody st) (RetX Po)) : FnOk P w K mg base (L2N.CX P w) (k + 1) f fd ps (spX K R T) := by
  obtain ⟨oc, od, kV, doc, pm, an, cdv, ct, osl, rfl, lk, hcd⟩ := F.ex
  have len' : ∀ vs H Q E, spX K R T vs H Q E → vs.length = ps.length := fun vs H Q E h => by
    obtain ⟨G, ds, d, p, _, _, hv, hR, _⟩ := h
    rw [hv.length]
    exact len ds d p hR
  refine fn_of lk hcd S len' fun A outer s H vs Q E hr h => ?_
  obtain ⟨G, ds, Po, Px, eg, tb, hv, hR, q, qx⟩ := h
  refine ⟨_, pb_any (Cs.ofX P w K mg base S.nd qual (defScope st) f cdv A outer s H E hr Px T) (defBody st) (), ?_⟩
  have fin : ∀ G' H' v d', Ex G G' → Kp (fun a => NT H a ∧ G a = none) H H' → (∀ a, (NT H a ∧ G a = none) → G' a = none) → Ex G' H' → Dq K G' v d' → Po d' → Q v H' := fun G' H' v d' eg' kp fg e hv' hd =>
    q d' hd G' H' v eg' e (ex_of_kp eg eg' kp e) (fun a h1 h2 => fg a ⟨h1, h2⟩) hv'
  refine body cdv A outer s H E hr ds Po Px hR (fun a => NT H a ∧ G a = none) G H (L2.start N vs) _ (sat_start eg hv) ⟨fun G' H' σ' ls' eg' kp S' r => ?_, fun G' H' v d' eg' kp fg e hv' r => fin G' H' v d' eg' kp fg e hv' r, fun _ _ _ _ _ _ _ z => False.elim z, fun _ _ _ _ _ _ _ z => False.elim z, tb, fun _ z => (List.not_mem_nil z).elim, fun G' H' σ' ls' C dd fs gs eg' kp S' hd hf hp => ?_⟩
  · exact fin G' H' .non .non eg' kp (fun a fa => (S'.fo a fa).1) S'.ex .non r
  · exact qx C gs hp G' H' dd fs eg' S'.ex (ex_of_kp eg eg' kp S'.ex) (fun a h1 h2 => (S'.fo a ⟨h1, h2⟩).1) hd hf
end
/-- a def that may raise, as callers see it -/
structure FnX (P : Program) (w : World) (K : Fg) (mg : Str → Option Value) (base : Heap) (k : Nat) (x : Str) (R : RelX) (T : Addr → Prop := fun _ => False) : Prop where
  ex : ∃ f fd ps, FnOk P w K mg base (L2N.CX P w) k f fd ps (spX K R T) ∧ mg x = some (.ref f) ∧ PySem.W.keepIn K (.ref f) = true ∧ Binds K fd ps []
section
variable {C : Cs} {ls : List Loc} {e a : Expr} {d : D} {ds : List D} {p p2 pos pos2 : Pos} {x : Str} {k : Nat} {R : RelX} {Po : D → Prop} {Px : Addr → List (Str × D) → Prop} {P : Post} {rest : List Stmt}
theorem fnAtX {f : Addr} {fd : FuncData} {ps : List Str} {sp : Sp} (F : FnOk C.P C.w C.K C.mg C.base (L2N.CX C.P C.w) k f fd ps sp) (hk : k ≤ C.k) (j : C.ι) : FnOk (C.X j).prog (C.X j).w (C.X j).K (C.X j).mg (C.X j).base (L2N.CX (C.X j).prog (C.X j).w) C.k f fd ps sp := by
  rw [C.hP, C.hw, C.hK, C.hmg, C.hbase]
  exact F.mono hk
/-- a call that may raise: what it raises is let on -/
theorem jxr_call [Cold C] (F : FnX C.P C.w C.K C.mg C.base k x R C.E.T) {es : List Expr} (ha : JA C ls (e :: es) ds) (hR : R ds Po Px) (hX : ∀ Cl gs, Px Cl gs → C.E.xp ls Cl gs) (hk : k ≤ C.k := by exact Nat.le_of_ble_eq_true rfl) (hg : ∀ j, Gl (C.X j) x := by intro _; rfl) (hdb : (x == ("__debug__" : Str)) = false := by decide) :
    JX C ls (.Call (.Name x p) (e :: es) [] pos) Po := by
  obtain ⟨f, fd, ps, G, hm, kp, hb⟩ := F.ex
  refine fun F' G1 H1 σ S xx Q q => ⟨tCallS (spX C.K R C.E.T) (WE C.E.W) (aAny C (e :: es)), fun j => ?_, ha.ev F' G1 H1 σ S xx _ fun vs G2 H2 eg2 eh2 S2 hv => ?_⟩
  · exact pe_callS (fnAtX G hk j) (C.cold j Cold.h) (hg j) (by rw [C.hmg]; exact hm) (by rw [C.hK]; exact kp) (by rw [C.hK]; exact hb) (fun σ => L2N.passAt (C.takes j) σ) (pa_any C (e :: es) j) hdb (ha.ns e List.mem_cons_self _ _) (ns_any (fun y hy => ha.ns y (List.mem_cons_of_mem _ hy)) _ _)
  · have gr : ∀ G3 H3, Ex G2 G3 → Ex G3 H3 → Ex H2 H3 → (∀ a, NT H2 a → G2 a = none → G3 a = none) → Sat C.K F' G3 H3 σ ls := fun G3 H3 eg3 e3 eh3 n3 => S2.grow eg3 eh3 e3 fun a ha => by
      by_cases h2 : NT H2 a
      · exact Or.inl fun g => ha (n3 a h2 g)
      · exact Or.inr h2
    refine ⟨G2, ds, Po, Px, S2.ex, (xx.step eg2 eh2).tb, hv, hR, fun d hd G3 H3 v eg3 e3 eh3 n3 hv3 => q d v G3 H3 hd (eg2.trans eg3) (eh2.trans eh3) (gr G3 H3 eg3 e3 eh3 n3) hv3, fun Cl gs hp G3 H3 dd fs eg3 e3 eh3 n3 hd hf => ?_⟩
    exact xx.ex G3 H3 Cl dd fs gs (eg2.trans eg3) (eh2.trans eh3) (gr G3 H3 eg3 e3 eh3 n3) hd hf (hX Cl gs hp)
end
/-! ### raise -/
/-- what an own __init__ with the fields fl does: it keeps its arguments -/
def spI (Cl : Addr) (fl : List Str) : Sp := fun vs H Q _ => ∃ ob ys, vs = .ref ob :: ys ∧ ys.length = fl.length ∧ H ob = some (exo ob Cl none) ∧ ∀ dx, H dx = none → dx ≠ ob → Q .non (upd (upd H dx (exd dx (fl.zip ys).reverse)) ob (exo ob Cl (some dx)))
/-- what is known of an own exception class: its class object at Cl, its fields -/
structure ExcT (P : Program) (w : World) (K : Fg) (mg : Str → Option Value) (base : Heap) (x : Str) (Cl : Addr) (fl : List Str) : Prop where
  o : OexC K Cl
  g : mg x = some (.ref Cl)
  ini : ∃ fI fd ps, PySem.W.findIn K (.ref Cl) "__init__" = some (some (.ref fI)) ∧ PySem.W.typeIn K (.ref fI) = some (.type "function") ∧ Binds K fd ps [] ∧ FnOk P w K mg base CX0 1 fI fd ps (spI Cl fl)
section
variable {X : Cx} {x : Str} {Cl fI : Addr} {k : Nat} {fd : FuncData} {ps : List Str} {sp : Sp} {e : Expr} {es : List Expr} {ta : TA} {p pos : Pos}
theorem pmkN (o : OexC X.K Cl) (hi : PySem.W.findIn X.K (.ref Cl) "__init__" = some (some (.ref fI))) (ht : PySem.W.typeIn X.K (.ref fI) = some (.type "function")) (G : FnOk X.prog X.w X.K X.mg X.base CX0 k fI fd ps sp) (rm : Room (k + 1) X.A) (bd : Binds X.K fd ps []) (gl : Gl X x) (hm : X.mg x = some (.ref Cl))
    (pa : PA X (e :: es) ta) (hdb : (x == ("__debug__" : Str)) = false) (st1 : starEach (e :: es) X.env = (false, eval e X.env) :: starEach es X.env) (st2 : (backTo pos (starEach es X.env)).any (·.1) = false) : L2N.PMk X (.Call (.Name x p) (e :: es) [] pos) (tMkO Cl sp [] ta) := fun pins s σ H Q I h => by
  obtain ⟨z1, z2, z3, z4, z5, z6, z7, z8, z9, y1, y2, y3, y4, y5, y6, lk, rv⟩ := o.cls
  refine wpAny_Call_Name_kw (ld_glob I gl hm (PySem.W.callWith_K (h₀ := X.base) I.ok.mod.kin o.kC (thn (pa.run pos pins s σ H _ I h) fun us s1 ⟨vs, H1, I1, r1, len, q1⟩ => ⟨I1.kIn, ?_⟩) st1 st2) hdb)
  show wpAny _ _ (call (.ref Cl) us) _ _ _
  obtain ⟨hp, g, dr, tk, os⟩ := s1
  let ob : Addr := hp.objs.size + 1
  let hp2 : Heap := (hp.push (PySem.W.kdv_tup us)).push (PySem.HandSPX.excO Cl hp.objs.size)
  have lt : hp.objs.size ≤ ob := Nat.le_succ _
  have fresh : H1 ob = none := I1.hok.fresh lt
  have q2 := q1 ob fresh
  have kp : ∀ b o, hp.get? b = some o → hp2.get? b = some o := fun b o e => Heap.get?_push_of_some _ (Heap.get?_push_of_some _ e)
  have at2 : hp2.get? ob = some (PySem.HandSPX.excO Cl hp.objs.size) := by
    show ((hp.push (PySem.W.kdv_tup us)).push (PySem.HandSPX.excO Cl hp.objs.size)).get? (hp.objs.size + 1) = _
    heap_get
  have I2 : Inv X pins σ (upd H1 ob (exo ob Cl none)) ⟨hp2, g, dr, tk, os⟩ := I1.laid (t' := tk) kp lt (exo_ok at2)
  have r2 : Vals (V.ref ob :: (vs ++ [])) (Value.ref ob :: (us ++ [])) := .cons rfl (r1.append .nil)
  have n2 : (Value.ref ob :: us ++ []).length = ps.length := r2.length.symm.trans (G.len _ _ _ _ q2)
  have n3 : us.length ≤ sizeLine := by
    have := Paired.length r1
    rw [sizeLine_eq]
    omega
  have b2 := bd ⟨hp2, g, dr, tk, os⟩ (Value.ref ob :: us) I2.kIn n2
  rw [List.cons_append] at b2
  have run := G.run _ X.stack _ _ ⟨Value.ref ob :: us, []⟩ (Value.ref ob :: (us ++ [])) _ _ (fun _ _ _ => False) (rm.make Cl us []) (I2.env0.make Cl us []) b2 r2 q2
  refine wpAny_call (PySem.HandSPX.call_own F.excBase_ValueError (fun Y => PySem.HandSPX.refsVE_contains Y z5 rv) (I1.kIn _ _ lk) (PySem.W.looks_findIn I1.kIn hi) (fun self => PySem.W.bind_fn I1.kIn self ht) n3 (codeAny_mono run fun r s' hr => ?_))
  cases r with
  | error er => exact hr.elim
  | ok fl =>
    cases fl with
    | next => exact hr.elim
    | brk => exact hr.elim
    | cont => exact hr.elim
    | ret u =>
      obtain ⟨v, H2, os2, bare2, un2, hok2, rv2, rfl, d, fs, ea, ed, hd1, q3⟩ := hr
      obtain ⟨h2, g2, d2, t2, os'⟩ := s'
      obtain ⟨t0, G', J, kG, ge, hoe, na⟩ := mk_end0 (d2 := d2) (t2 := t2) I1 lt kp un2 hok2 os2 bare2 ea ed hd1
      exact ⟨rv2, ob, _, _, ⟨G', g2, d2, t2, os'⟩, _, .ref Cl, some d, rfl, J, kG, ge, hoe, ⟨rfl, rfl, fun vs e => by cases e; rfl⟩, rfl, rfl, na, rfl, bare2, raises_own o.exC o.tyC, q3⟩
end
theorem fs_app {K : Fg} {G : Hp} : ∀ {fs fs2 : List (Str × V)} {gs gs2 : List (Str × D)}, FsOk K G fs gs → FsOk K G fs2 gs2 → FsOk K G (fs ++ fs2) (gs ++ gs2)
  | _, _, _, _, .nil, b => b
  | _, _, _, _, .cons h r, b => .cons h (fs_app r b)
theorem fs_zip {K : Fg} {G : Hp} : ∀ {fl : List Str} {vs : List V} {ds : List D}, DqAll K G vs ds → FsOk K G (fl.zip vs).reverse (fl.zip ds).reverse
  | [], _, _, _ => .nil
  | f :: fl, _, _, .nil => by
    simp only [List.zip_nil_right, List.reverse_nil]
    exact .nil
  | f :: fl, _, _, .cons h r => by
    simp only [List.zip_cons_cons, List.reverse_cons]
    exact fs_app (fs_zip r) (.cons h .nil)
section
variable {C : Cs} {ls : List Loc} {e a : Expr} {es : List Expr} {d : D} {ds : List D} {p p2 pos pos2 : Pos} {x : Str} {Cl : Addr} {fl : List Str} {P : Post} {rest : List Stmt}
theorem js_raise [Cold C] (X : ExcT C.P C.w C.K C.mg C.base x Cl fl) (ha : JA C ls (e :: es) ds) (hX : C.E.xp ls Cl (fl.zip ds).reverse) (hn : ds.length = fl.length := by rfl) (hk : 2 ≤ C.k := by exact Nat.le_of_ble_eq_true rfl) (hg : ∀ j, Gl (C.X j) x := by intro _; rfl) (hdb : (x == ("__debug__" : Str)) = false := by decide)
    (hsm : fl.length ≤ 1000 := by exact Nat.le_of_ble_eq_true rfl) : JS C ls (.Raise (some (.Call (.Name x p) (e :: es) [] pos)) none pos2) P := by
  obtain ⟨fI, fd, ps, h1, h2, h3, h4⟩ := X.ini
  refine js_of (t := fun _ σ H => tMkO Cl (spI Cl fl) [] (aAny C (e :: es)) σ H fun cls d H' => C.E.W cls d σ H') (fun j => ?_) fun F G H σ D' S f => ha.ev F G H σ S (f.xok S) _ fun vs G1 H1 eg1 eh1 S1 hv => ?_
  · have hm := X.g
    have ho := X.o
    have e1 := C.hK j
    have e2 := C.hmg j
    rw [← e2] at hm
    rw [← e1] at ho h1 h2 h3
    have h4' : FnOk (C.X j).prog (C.X j).w (C.X j).K (C.X j).mg (C.X j).base CX0 1 fI fd ps (spI Cl fl) := by
      rw [C.hP, C.hw, C.hK, C.hmg, C.hbase]
      exact h4
    exact L2N.ps_raise (C.calm j Cold.h) (C.takes j) (pmkN ho h1 h2 h4' ((C.cold j Cold.h).mono hk) h3 (hg j) hm (pa_any C (e :: es) j) hdb (ha.ns e List.mem_cons_self _ _) (ns_any (fun y hy => ha.ns y (List.mem_cons_of_mem _ hy)) _ _))
  · have hl := hv.length
    refine ⟨by omega, fun ob hob => ⟨ob, vs, by rw [List.append_nil], by omega, upd_same, fun dx hdx hne => ?_⟩⟩
    rw [upd_ne hne] at hdx
    refine ⟨rfl, dx, (fl.zip vs).reverse, upd_same, by rw [upd_ne hne, upd_same], hdx, ?_⟩
    have eH : upd (del (upd (upd (upd H1 ob (exo ob Cl none)) dx (exd dx (fl.zip vs).reverse)) ob (exo ob Cl (some dx))) ob) dx (.xd (fl.zip vs).reverse) = upd H1 dx (.xd (fl.zip vs).reverse) := funext fun b => by
      by_cases e1 : b = dx
      · rw [e1, upd_same, upd_same]
      · rw [upd_ne e1, upd_ne e1]
        by_cases e2 : b = ob
        · rw [e2, del_same, hob]
        · rw [del_ne e2, upd_ne e2, upd_ne e1, upd_ne e2]
    rw [eH]
    have g := S1.ex.fresh hdx
    exact f.ex (upd G1 dx (.xd (fl.zip vs).reverse)) _ σ ls Cl dx _ _ (eg1.trans (Ex.new g)) (S.kp (eh1.trans (Ex.new hdx))) (S1.made hdx) upd_same (fs_zip (dqAll_mono (Ex.new g) hv)) hX
theorem jb_raise [Cold C] (X : ExcT C.P C.w C.K C.mg C.base x Cl fl) (ha : JA C ls (e :: es) ds) (hX : C.E.xp ls Cl (fl.zip ds).reverse) (hn : ds.length = fl.length := by rfl) (hk : 2 ≤ C.k := by exact Nat.le_of_ble_eq_true rfl) (hg : ∀ j, Gl (C.X j) x := by intro _; rfl) (hdb : (x == ("__debug__" : Str)) = false := by decide)
    (hsm : fl.length ≤ 1000 := by exact Nat.le_of_ble_eq_true rfl) : JB C ls (.Raise (some (.Call (.Name x p) (e :: es) [] pos)) none pos2 :: rest) P :=
  jb_cons (fun _ => False) (js_raise X ha hX hn hk hg hdb hsm) fun _ h => h.elim
end
end Qp

/-! Q16: try, except C as e. -/
namespace Qp
open PySem PySem.Spec PyProof.Rows L2
/-- a try's body over C, its wish E -/
structure TrIx (C : Cs) (E : Xw) where
  i : C.ι
  pn : List (Addr × Obj)
  xe : Value → Shared → Prop
  tk : L2N.Takes ((C.X i).tr pn xe) E.W
  owns : PassesOwn (model (C.X i).prog (C.X i).w) (C.X i).A (C.X i).env xe
def Cs.tr (C : Cs) [hc : Cold C] (E : Xw) : Cs where
  ι := TrIx C E
  X := fun q => (C.X q.i).tr q.pn q.xe
  P := C.P
  w := C.w
  K := C.K
  mg := C.mg
  base := C.base
  N := C.N
  k := C.k
  hP := fun q => C.hP q.i
  hw := fun q => C.hw q.i
  hK := fun q => C.hK q.i
  hmg := fun q => C.hmg q.i
  hbase := fun q => C.hbase q.i
  hN := fun q => C.hN q.i
  nd := C.nd
  calm := fun q _ => C.calm q.i hc.h
  cold := fun q _ => C.cold q.i hc.h
  hotc := fun _ z => Bool.noConfusion z
  E := E
  takes := fun q => q.tk
instance {C : Cs} [Cold C] {E : Xw} : Cold (C.tr E) := ⟨rfl⟩
/-- the suite, the exception at a of the class at Cl, its dict at dd -/
structure SuIx (C : Cs) (a Cl dd : Addr) where
  i : C.ι
  oe : Obj
  pn : List (Addr × Obj)
  zn : L2N.Zn (.ref Cl) (some dd) oe
  fd : ∃ vs, oe.data = .fields vs
def Cs.su (C : Cs) [hc : Cold C] (a Cl dd : Addr) (gs : List (Str × D)) : Cs where
  ι := SuIx C a Cl dd
  X := fun q => (C.X q.i).suite a ((a, q.oe) :: q.pn)
  P := C.P
  w := C.w
  K := C.K
  mg := C.mg
  base := C.base
  N := C.N
  k := C.k
  hP := fun q => C.hP q.i
  hw := fun q => C.hw q.i
  hK := fun q => C.hK q.i
  hmg := fun q => C.hmg q.i
  hbase := fun q => C.hbase q.i
  hN := fun q => C.hN q.i
  nd := C.nd
  hot := true
  calm := fun _ z => Bool.noConfusion z
  cold := fun _ z => Bool.noConfusion z
  hotc := fun q _ => ⟨⟨(a, q.oe), ⟨rfl, by obtain ⟨vs, e⟩ := q.fd; exact ⟨vs, e, q.zn.2.2 vs e⟩⟩, List.mem_cons_self⟩, ⟨(C.cold q.i hc.h).dp, (C.cold q.i hc.h).un⟩⟩
  E := ⟨fun _ _ _ _ => False, fun _ _ _ => False, C.E.T, [(dd, gs)]⟩
  takes := fun _ => takesN
/-- what the suite leaves, the name forgotten -/
def Post.gone (P : Post) (i : Nat) : Post := { nx := fun l => P.nx (l.set i .any), rt := P.rt, bk := fun l => P.bk (l.set i .any), ct := fun l => P.ct (l.set i .any) }
section
variable {C : Cs} {ls : List Loc} {body suite : List Stmt} {b₀ : Stmt} {x n : Str} {np pos pos' : Pos} {P : Post} {Cp : Addr}
theorem js_tryAs [hc : Cold C] (i : Nat) (Xp : List Loc → Addr → List (Str × D) → Prop) (hb : ∀ W : WX, JB (C.tr ⟨W, Xp, C.E.T, []⟩) ls body P) (hm : C.mg x = some (.ref Cp))
    (hs : ∀ ls' Cl gs, Xp ls' Cl gs → (PySem.W.exmOne C.K (.ref Cl) (.ref Cp) = some true ∧ ∀ a dd, JB (C.su a Cl dd gs) (ls'.set i (.val (.ref a))) (b₀ :: suite) (P.gone i)) ∨ (PySem.W.exmOne C.K (.ref Cl) (.ref Cp) = some false ∧ C.E.xp ls' Cl gs))
    (hi : C.N[i]? = some n := by rfl) (hln : ∀ j, (C.X j).env.kindOf n = some .local := by intro _; rfl) (hst : ∀ j, (C.X j).stack = (C.X j).env :: (C.X j).outer := by intro _; rfl) (hfr : ∀ j, (C.X j).env.frame = some (C.X j).env.locals := by intro _; rfl)
    (hg : ∀ j, Gl (C.X j) x := by intro _; rfl) (hdb : (x == ("__debug__" : Str)) = false := by decide) :
    JS C ls (.Try body [.ExceptHandler (some (.Name x np)) (some n) (b₀ :: suite) pos'] [] [] pos) P := by
  -- the suite's reading by the exception's address, class, dict
  let ts : Addr → Value → Option Addr → TS := fun a cls d D σ H => ∃ Cl dd, cls = .ref Cl ∧ d = some dd ∧ bAny (C.su a Cl dd []) (b₀ :: suite) D σ H
  refine js_of (t := fun D σ H => bAny (C.tr ⟨wAs C.K (.ref Cp) i ts C.E.W D, Xp, C.E.T, []⟩) body D σ H) (fun j => ?_) fun F G H σ D S f => ?_
  · have e1 := C.hK j
    have e2 := C.hmg j
    have key := L2N.ps_try_as (X := C.X j) (x := x) (n := n) (c := .ref Cp) (i := i) (body := body) (suite := suite) (b₀ := b₀) (np := np) (pos := pos) (pos' := pos') (tb := fun W => bAny (C.tr ⟨W, Xp, C.E.T, []⟩) body) (ts := ts) (Wout := C.E.W) (hst j) (hfr j) (by rw [C.hN]; exact C.nd) (by rw [C.hN]; exact hi) (hln j)
      ⟨hg j, hdb, .inl (by rw [e2]; exact hm)⟩ (C.takes j) (fun W pn xe tk ow => pb_any (C.tr ⟨W, Xp, C.E.T, []⟩) body ⟨j, pn, xe, tk, ow⟩) (fun a oe cls d pn hz hf => ⟨fun pins s σ H D' I h => ?_⟩)
    · rw [e1] at key
      exact key
    · obtain ⟨Cl, dd, rfl, rfl, q⟩ := h
      exact (pb_any (C.su a Cl dd []) (b₀ :: suite) ⟨j, oe, pn, hz, hf⟩).run pins s σ H D' I q
  · refine hb (wAs C.K (.ref Cp) i ts C.E.W D) F G H σ D S ⟨f.nx, f.rt, f.bk, f.ct, f.tb, fun _ z => (List.not_mem_nil z).elim, fun G' H' σ' ls' Cl dd fs gs eg kp S' hd hf hp => ?_⟩
    have f1 := f.step eg kp
    rcases hs ls' Cl gs hp with ⟨hx, hsu⟩ | ⟨hx, hout⟩
    · refine ⟨true, hx, fun _ a ha => ⟨Cl, dd, rfl, rfl, ?_⟩, fun z => Bool.noConfusion z⟩
      refine hsu a dd F G' H' _ _ (S'.setV (.ref a)) ⟨fun G2 H2 σ2 ls2 eg2 kp2 S2 r => ?_, f1.rt, fun G2 H2 σ2 ls2 eg2 kp2 S2 r => ?_, fun G2 H2 σ2 ls2 eg2 kp2 S2 r => ?_, f1.tb, fun p hpm => ?_, fun _ _ _ _ _ _ _ _ _ _ _ _ _ z => False.elim z⟩
      · exact f1.nx G2 H2 _ _ eg2 kp2 (S2.forget none) r
      · exact f1.bk G2 H2 _ _ eg2 kp2 (S2.forget none) r
      · exact f1.ct G2 H2 _ _ eg2 kp2 (S2.forget none) r
      · obtain rfl : p = (dd, gs) := List.mem_singleton.mp hpm
        exact ⟨fs, hd, hf⟩
    · exact ⟨false, hx, fun z => Bool.noConfusion z, fun _ => f.ex G' H' σ' ls' Cl dd fs gs eg kp S' hd hf hout⟩
end
end Qp

/-! Q17: defs that may raise and hold generator expressions; fields of a caught exception. -/
namespace Qp
open PySem PySem.Spec PyProof.Rows L2
section
variable {P : Program} {w : World} {K : Fg} {mg : Str → Option Value} {base : Heap}
theorem fn_okXC {x qual : Str} {st : Stmt} {f c : Addr} {fd : FuncData} {N ps : List Str} {k : Nat} {R : RelX} {T : Addr → Prop} (F : FunC K x qual st f c fd) (S : FnScope N ps (defScope st)) (len : ∀ ds d p, R ds d p → ds.length = ps.length)
    (body : ∀ (A : Around) (outer : List Env) (s : Shared) (H : Hp) (E : XK) (hr : Room k (A.deeper (envOfC qual (defScope st) s.heap.objs.size f (.ref c)))) (ds : List D) (Po : D → Prop) (Px : Addr → List (Str × D) → Prop), R ds Po Px →
      JB (Cs.ofX P w K mg base S.nd qual (defScope st) f (.ref c) A outer s H E hr Px T) (locs N.length ds) (defBody st) (RetX Po)) : FnOk P w K mg base (L2N.CX P w) (k + 1) f fd ps (spX K R T) := by
  obtain ⟨oc, od, kV, doc, pm, an, ct, osl, rfl, lk, hcd⟩ := F.ex
  have len' : ∀ vs H Q E, spX K R T vs H Q E → vs.length = ps.length := fun vs H Q E h => by
    obtain ⟨G, ds, d, p, _, _, hv, hR, _⟩ := h
    rw [hv.length]
    exact len ds d p hR
  refine fn_of lk hcd S len' fun A outer s H vs Q E hr h => ?_
  obtain ⟨G, ds, Po, Px, eg, tb, hv, hR, q, qx⟩ := h
  refine ⟨_, pb_any (Cs.ofX P w K mg base S.nd qual (defScope st) f (.ref c) A outer s H E hr Px T) (defBody st) (), ?_⟩
  have fin : ∀ G' H' v d', Ex G G' → Kp (fun a => NT H a ∧ G a = none) H H' → (∀ a, (NT H a ∧ G a = none) → G' a = none) → Ex G' H' → Dq K G' v d' → Po d' → Q v H' := fun G' H' v d' eg' kp fg e hv' hd =>
    q d' hd G' H' v eg' e (ex_of_kp eg eg' kp e) (fun a h1 h2 => fg a ⟨h1, h2⟩) hv'
  refine body A outer s H E hr ds Po Px hR (fun a => NT H a ∧ G a = none) G H (L2.start N vs) _ (sat_start eg hv) ⟨fun G' H' σ' ls' eg' kp S' r => ?_, fun G' H' v d' eg' kp fg e hv' r => fin G' H' v d' eg' kp fg e hv' r, fun _ _ _ _ _ _ _ z => False.elim z, fun _ _ _ _ _ _ _ z => False.elim z, tb, fun _ z => (List.not_mem_nil z).elim, fun G' H' σ' ls' C dd fs gs eg' kp S' hd hf hp => ?_⟩
  · exact fin G' H' .non .non eg' kp (fun a fa => (S'.fo a fa).1) S'.ex .non r
  · exact qx C gs hp G' H' dd fs eg' S'.ex (ex_of_kp eg eg' kp S'.ex) (fun a h1 h2 => (S'.fo a ⟨h1, h2⟩).1) hd hf
end
theorem fs_lookup {K : Fg} {G : Hp} {n : Str} {d : D} : ∀ {fs : List (Str × V)} {gs : List (Str × D)}, FsOk K G fs gs → gs.lookup n = some d → ∃ v, fs.lookup n = some v ∧ Dq K G v d
  | _, _, .nil, z => nomatch z
  | (f, v) :: fs, (_, d') :: gs, .cons h r, z => by
    simp only [List.lookup_cons] at z ⊢
    cases e : (n == f) with
    | true =>
      rw [e] at z
      exact ⟨v, rfl, Option.some.inj z ▸ h⟩
    | false =>
      rw [e] at z
      exact fs_lookup r z
section
variable {C : Cs} {ls : List Loc} {e : Expr} {d : D} {pos : Pos} {n : Str} {a Cl dd : Addr} {gs : List (Str × D)}
/-- a field of the caught exception -/
theorem je_xf [hc : Cold C] (he : JE (C.su a Cl dd gs) ls e (.ref a)) (T : XfC C.K Cl) (hno : PySem.W.findIn C.K (.ref Cl) n = some none) (hl : gs.lookup n = some d)
    (hb : ∀ env : Env, attributeBase e n env (eval e env) = eval e env := by intro _; rfl) : JE (C.su a Cl dd gs) ls (.Attribute e n pos) d := by
  refine je_of (t := tXf a (.ref Cl) (some dd) Cl n (eAny (C.su a Cl dd gs) e)) (fun q => ?_) fun F G H σ S xx Q k => he F G H σ S xx _ fun v G1 H1 eg1 eh1 S1 hv => ?_
  · have e1 := C.hK q.i
    rw [← e1] at T hno
    exact pe_xf T hno q.zn.zc q.fd (pe_any (C.su a Cl dd gs) e q) (hb _)
  · obtain ⟨fs, h1, h2⟩ := xx.dx (dd, gs) (List.mem_singleton.mpr rfl)
    obtain ⟨w, h3, h4⟩ := fs_lookup h2 hl
    exact ⟨dq_ref hv, rfl, dd, fs, w, rfl, S1.ex _ _ (eg1 _ _ h1) |> fun z => z, h3, k w G1 H1 eg1 eh1 S1 (dq_mono eg1 h4)⟩
end
end Qp

set_option maxHeartbeats 2000000
/-! Q18: the end of a law whose text has generator expressions. -/
namespace Qp
open PySem PySem.Spec PyProof.Rows L2
/-- what the head says of the tables of the text's defs -/
abbrev TabFacts (q : Program) (K : Fg) (h : Heap) : Prop := ∀ (x : Str) (c P : Addr), ((recsOf q).find? fun e => e.name == x).isSome = true → PySem.W.tabIn K x = some (c, P) → PySem.W.CodeHd h c P ∧ h.get? P = some { cls := .none, data := .fields #[] }
structure Tab0 (K : Fg) (h : Heap) (p : Addr × Addr) : Prop where
  t : h.get? p.2 = some { cls := .none, data := .fields #[] }
  n : K.lookup p.2 = none
  c : PySem.W.CodeHd h p.1 p.2
theorem tabIn_of {K : Fg} {x : Str} {f c P : Addr} {oc o2 : Value} {od d2 : Option Addr} {fd : FuncData} {vs : Array Value} {sl sl2 : Array (Option Value)} (a : PySem.W.nsIn K mainGlobals x = some (some (.ref f))) (l : K.lookup f = some ⟨oc, od, .func fd, sl⟩) (hc : fd.code = .ref c)
    (m : K.lookup c = some ⟨o2, d2, .fields vs, sl2⟩) (hv : vs[11]? = some (.ref P)) : PySem.W.tabIn K x = some (c, P) := by
  simp only [PySem.W.tabIn, a, l, hc, m, hv]
theorem TabFacts.tab {q : Program} {K : Fg} {h : Heap} (F : TabFacts q K h) (x : Str) {f c P : Addr} {oc o2 : Value} {od d2 : Option Addr} {fd : FuncData} {vs : Array Value} {sl sl2 : Array (Option Value)} (h1 : ((recsOf q).find? fun e => e.name == x).isSome = true)
    (a : PySem.W.nsIn K mainGlobals x = some (some (.ref f))) (l : K.lookup f = some ⟨oc, od, .func fd, sl⟩) (hc : fd.code = .ref c) (m : K.lookup c = some ⟨o2, d2, .fields vs, sl2⟩) (hv : vs[11]? = some (.ref P)) (h3 : K.lookup P = none) : Tab0 K h (c, P) :=
  ⟨(F x c P h1 (tabIn_of a l hc m hv)).2, h3, (F x c P h1 (tabIn_of a l hc m hv)).1⟩
/-- the tables of cs, as a context's -/
abbrev tabT (cs : List (Addr × Addr)) : Addr → Prop := fun P => ∃ p ∈ cs, p.2 = P
theorem law_endT {l : PySem.W.OpenLaw} {k : Nat} {q : Program} {loose : List Str} {XP : (Str → Option Value) → Heap → Prop} {YP : World → Heap → Prop} {d : DefRec} {K : Params → PySem.W.Frag} {x : Str}
    (hn : l.most = some 63) (hdf : d.params.defaults = []) (hr : Room k callerA) (hY : ∀ (w : World) (h : Heap), YP w h → (K w.params).In h)
    (F : ∀ (w : World) (mg : Str → Option Value) (fa : Addr) (h : Heap), (K w.params).In h → h.Ns mainGlobals mg → mg d.name = some (.ref fa) → TabFacts q (K w.params) h →
      ∃ (fd : FuncData) (cs : List (Addr × Addr)), (∀ p ∈ cs, Tab0 (K w.params) h p) ∧ (∀ (s : Shared) (u : Value), BindsTo s fd ⟨[u], []⟩ [(x, u)]) ∧
        ∀ base : Heap, (K w.params).In base → base.Ns mainGlobals mg → (∀ p ∈ cs, GxR.TabB base mg p.1 p.2) → FnOk l.prog w (K w.params) mg base CX0 k fa fd [x] (spD (K w.params) rLaw (tabT cs))) :
    PySem.W.WalkO q loose XP YP l.row.toRowW d [] (fun f vs => PySem.call f vs) := by
  refine Att.attach_callB hn hdf fun w s₀ s₁ mg mb fa o pm cd doc a vs ns G Y ho hd hcd hmg hobj hints hlen hbits hg => ?_
  have KX := hY w _ Y
  obtain ⟨fd, cs, hC, hb, hF⟩ := F w mg fa _ KX G.T.g hmg fun x c P h1 h2 => by
    obtain ⟨e, he⟩ := Option.isSome_iff_exists.mp h1
    exact PySem.W.tab_of G.T KX he h2
  exact LamX.law_callTs (CX := CX0) (sp := spD (K w.params) rLaw (tabT cs)) KX G.T.g G.T.b G.T.builtins G.T.nolimit hg (fun p hp => (hC p hp).t) (fun p hp => (hC p hp).n) (fun p hp => (hC p hp).c) G.T.bmain hobj hints (Nat.le_trans hlen (by decide)) hr
    (fun base h1 h2 h3 => hF base h1 h2 fun p hp => ⟨(h3 p hp).code, (h3 p hp).bm, (h3 p hp).gP⟩) hb
    (fun H hH hS => ⟨H, [.scr ns], _, Ex.refl H, fun P hP => by
      obtain ⟨p, hp, rfl⟩ := hP
      exact ⟨_, hH p hp, trivial⟩, .cons (.scr hS) .nil, ⟨ns, hlen, rfl, rfl⟩, fun d hd G' H' v _ _ _ _ hv => by subst hd; exact dq_bl hv⟩) fun _ _ _ z => z
/-- a def that holds generator expressions, as it stands behind the top -/
structure FTC (K : Fg) (mg : Str → Option Value) (x : Str) (st : Stmt) (c : Addr) : Prop where
  ex : ∃ f fd, FunC K x x st f c fd ∧ mg x = some (.ref f)
theorem ftc_mk {K : Fg} {h : Heap} {mg : Str → Option Value} {x : Str} {st : Stmt} {f c : Addr} (X : K.In h) (G : h.Ns mainGlobals mg) {od an : Option Addr} {sl : Array (Option Value)} {oc kV dc pm ct : Value}
    (a : PySem.W.nsIn K mainGlobals x = some (some (.ref f))) (l : K.lookup f = some ⟨oc, od, .func (PySem.W.fnOf x x (defArgs st) (defBody st) (defScope st) .none kV dc pm an (.ref c) ct), sl⟩) (cd : PySem.W.codeIn K (.ref c) x = true) (k : PySem.W.keepIn K (.ref f) = true) : FTC K mg x st c :=
  ⟨f, _, ⟨⟨oc, od, kV, dc, pm, an, ct, sl, rfl, l, cd⟩, k⟩, PySem.W.mg_of X G a⟩
section
variable {P : Program} {w : World} {K : Fg} {mg : Str → Option Value} {base : Heap} {k : Nat} {x : Str} {st : Stmt} {ps ks : List Str} {R : Rel} {T : Addr → Prop} {n : Nat} {perm : List Nat} {c : Addr}
theorem FTC.ft (Y : FTC K mg x st c) : FT K mg x st := by
  obtain ⟨f, fd, F, hm⟩ := Y.ex
  exact ⟨f, fd, F.fun, hm⟩
theorem FTC.fn (Y : FTC K mg x st c) (G : ∀ {f fd}, FunC K x x st f c fd → FnOk P w K mg base CX0 k f fd ps (spD K R T)) (h : ∀ (kV doc pm : Value) (an : Option Addr) (cdv ct : Value) (us : List Value), us.length = ps.length → bindArgs (PySem.W.fnOf x x (defArgs st) (defBody st) (defScope st) .none kV doc pm an cdv ct) ⟨us, []⟩ = pure (ps.zip us)) : Fn P w K mg base k x R T := by
  obtain ⟨f, fd, F, hm⟩ := Y.ex
  exact fn_mk F.fun (G F) hm (F.fun.binds h)
theorem FTC.fk (Y : FTC K mg x st c) (G : ∀ {f fd}, FunC K x x st f c fd → FnOk P w K mg base CX0 k f fd ps (spD K R T)) (hp : ps ≠ [])
    (h : ∀ (kV doc pm : Value) (an : Option Addr) (cdv ct : Value) (us ws : List Value), us.length = n → ws.length = ks.length → bindArgs (PySem.W.fnOf x x (defArgs st) (defBody st) (defScope st) .none kV doc pm an cdv ct) ⟨us, ks.zip ws⟩ = pure (ps.zip (perm.filterMap fun i => (us ++ ws)[i]?))) : Fk P w K mg base k x n ks perm R T := by
  obtain ⟨f, fd, F, hm⟩ := Y.ex
  exact fk_mk F.fun (G F) hm hp h
theorem FT.fnX {R : RelX} (Y : FT K mg x st) (G : ∀ {f fd}, Fun K x x st f fd → FnOk P w K mg base (L2N.CX P w) k f fd ps (spX K R T)) (h : ∀ (kV doc pm : Value) (an : Option Addr) (cdv ct : Value) (us : List Value), us.length = ps.length → bindArgs (PySem.W.fnOf x x (defArgs st) (defBody st) (defScope st) .none kV doc pm an cdv ct) ⟨us, []⟩ = pure (ps.zip us)) : FnX P w K mg base k x R T := by
  obtain ⟨f, fd, F, hm⟩ := Y.ex
  exact ⟨f, fd, ps, G F, hm, F.kp, F.binds h⟩
theorem FTC.fnX {R : RelX} (Y : FTC K mg x st c) (G : ∀ {f fd}, FunC K x x st f c fd → FnOk P w K mg base (L2N.CX P w) k f fd ps (spX K R T)) (h : ∀ (kV doc pm : Value) (an : Option Addr) (cdv ct : Value) (us : List Value), us.length = ps.length → bindArgs (PySem.W.fnOf x x (defArgs st) (defBody st) (defScope st) .none kV doc pm an cdv ct) ⟨us, []⟩ = pure (ps.zip us)) : FnX P w K mg base k x R T := by
  obtain ⟨f, fd, F, hm⟩ := Y.ex
  exact ⟨f, fd, ps, G F, hm, F.kp, F.fun.binds h⟩
end
end Qp

set_option maxHeartbeats 2000000
/-! Q19: the classes of exceptions with their __init__; constants of the text. -/
namespace Qp
open PySem PySem.Spec PyProof.Rows L2
section
variable {P : Program} {w : World} {K : Fg} {mg : Str → Option Value} {base : Heap} {T : Addr → Prop}
theorem vis_par {N ps : List Str} {sc : Scope} (S : FnScope N ps sc) {x : Str} (h : x ∈ ps) : Vis sc x := (S.par x h).elim .inl fun z => .inr (.inl z)
/-- __init__(self, x): self.x = x -/
theorem ini1 {Cl f : Addr} {fd : FuncData} {qual x : Str} {st : Stmt} {p1 p2 p3 p4 : Pos} (F : Fun K "__init__" qual st f fd) (S : FnScope ["self", x] ["self", x] (defScope st)) (o : OexC K Cl) (hno : PySem.W.findIn K (.ref Cl) x = some none)
    (hb : defBody st = [.Assign [.Attribute (.Name "self" p1) x p2] (.Name x p3) p4] := by rfl) (hs : ∀ env : Env, swapsWith (.Name x p3) (some (.Attribute (.Name "self" p1) x p2)) p4.line env = pure false := by intro _; rfl)
    (hd : (x == ("__debug__" : Str)) = false := by decide) (hcd : (x == ("__classdict__" : Str)) = false := by decide) : FnOk P w K mg base CX0 1 f fd ["self", x] (spI Cl [x]) := by
  obtain ⟨oc, od, kV, doc, pm, an, cdv, ct, osl, rfl, lk, hcd'⟩ := F.ex
  refine fn_of lk hcd' S (fun vs H Q E h => ?_) fun A outer s H vs Q E hr h => ?_
  · obtain ⟨ob, ys, rfl, h1, _⟩ := h
    exact congrArg (· + 1) h1
  · obtain ⟨ob, ys, rfl, h1, h2, q⟩ := h
    obtain ⟨y, rfl⟩ := List.length_eq_one_iff.mp (show ys.length = 1 from h1)
    rw [hb]
    exact ⟨_, pss_one (ps_ost (pe_var (i := 0) rfl (vis_par S List.mem_cons_self)) (pe_var (i := 1) rfl (vis_par S (List.mem_cons_of_mem _ List.mem_cons_self)) hd hcd) (hs _)), y, rfl, .ref ob, rfl, ob, Cl, rfl, o, hno, .inl ⟨h2, fun dx n1 n2 => q dx n1 n2⟩⟩
/-- __init__(self, x, y): self.x = x; self.y = y -/
theorem ini2 {Cl f : Addr} {fd : FuncData} {qual x x2 : Str} {st : Stmt} {p1 p2 p3 p4 q1 q2 q3 q4 : Pos} (F : Fun K "__init__" qual st f fd) (S : FnScope ["self", x, x2] ["self", x, x2] (defScope st)) (o : OexC K Cl) (hno : PySem.W.findIn K (.ref Cl) x = some none) (hno2 : PySem.W.findIn K (.ref Cl) x2 = some none)
    (hb : defBody st = [.Assign [.Attribute (.Name "self" p1) x p2] (.Name x p3) p4, .Assign [.Attribute (.Name "self" q1) x2 q2] (.Name x2 q3) q4] := by rfl)
    (hs : ∀ env : Env, swapsWith (.Name x p3) (some (.Attribute (.Name "self" p1) x p2)) p4.line env = pure false := by intro _; rfl) (hs2 : ∀ env : Env, swapsWith (.Name x2 q3) (some (.Attribute (.Name "self" q1) x2 q2)) q4.line env = pure false := by intro _; rfl)
    (hd : (x == ("__debug__" : Str)) = false := by decide) (hcd : (x == ("__classdict__" : Str)) = false := by decide) (hd2 : (x2 == ("__debug__" : Str)) = false := by decide) (hcd2 : (x2 == ("__classdict__" : Str)) = false := by decide) : FnOk P w K mg base CX0 1 f fd ["self", x, x2] (spI Cl [x, x2]) := by
  obtain ⟨oc, od, kV, doc, pm, an, cdv, ct, osl, rfl, lk, hcd'⟩ := F.ex
  refine fn_of lk hcd' S (fun vs H Q E h => ?_) fun A outer s H vs Q E hr h => ?_
  · obtain ⟨ob, ys, rfl, h1, _⟩ := h
    exact congrArg (· + 1) h1
  · obtain ⟨ob, ys, rfl, h1, h2, q⟩ := h
    obtain ⟨y, z, rfl⟩ : ∃ y z, ys = [y, z] := match ys, h1 with | [y, z], _ => ⟨y, z, rfl⟩
    rw [hb]
    refine ⟨_, pss_cons (ps_ost (pe_var (i := 0) rfl (vis_par S List.mem_cons_self)) (pe_var (i := 1) rfl (vis_par S (List.mem_cons_of_mem _ List.mem_cons_self)) hd hcd) (hs _))
      (pss_one (ps_ost (pe_var (i := 0) rfl (vis_par S List.mem_cons_self)) (pe_var (i := 2) rfl (vis_par S (List.mem_cons_of_mem _ (List.mem_cons_of_mem _ List.mem_cons_self))) hd2 hcd2) (hs2 _))), y, rfl, .ref ob, rfl, ob, Cl, rfl, o, hno, .inl ⟨h2, fun dx n1 n2 => ?_⟩⟩
    refine ⟨z, rfl, .ref ob, rfl, ob, Cl, rfl, o, hno2, .inr ⟨dx, [(x, y)], upd_same, (upd_ne n2).trans upd_same, Nat.le_of_ble_eq_true rfl, ?_⟩⟩
    have e : upd (upd (upd H dx (exd dx [(x, y)])) ob (exo ob Cl (some dx))) dx (exd dx [(x2, z), (x, y)]) = upd (upd H dx (exd dx [(x2, z), (x, y)])) ob (exo ob Cl (some dx)) := by
      funext b
      by_cases e1 : b = dx
      · subst e1
        rw [upd_same, upd_ne n2, upd_same]
      · by_cases e2 : b = ob
        · subst e2
          rw [upd_ne e1, upd_same, upd_same]
        · rw [upd_ne e1, upd_ne e2, upd_ne e1, upd_ne e2, upd_ne e1]
    show Q .non (upd (upd (upd H dx (exd dx [(x, y)])) ob (exo ob Cl (some dx))) dx (exd dx [(x2, z), (x, y)]))
    rw [e]
    exact q dx n1 n2
end
/-! ### what the head says of an own class of exceptions -/
/-- an own class, as the clauses name it -/
structure ClsT (K : Fg) (mg : Str → Option Value) (x : Str) (Cl : Addr) : Prop where
  g : mg x = some (.ref Cl)
  exC : PySem.W.subIn K (.ref Cl) (.type "BaseException") = some true
  tyC : PySem.W.typeIn K (.ref Cl) = some (.type "type")
  hdC : PySem.W.hasDictIn K Cl = true
theorem ClsT.exm {K : Fg} {mg : Str → Option Value} {x : Str} {Cl : Addr} {c : Value} {b : Bool} (T : ClsT K mg x Cl) (h : PySem.W.subIn K c (.ref Cl) = some b) : PySem.W.exmOne K c (.ref Cl) = some b := PySem.W.exm_ref T.exC T.hdC T.tyC h
/-- one with an own __init__ -/
structure ExcC (K : Fg) (mg : Str → Option Value) (x qual : Str) (st : Stmt) (Cl : Addr) : Prop where
  c : ClsT K mg x Cl
  o : OexC K Cl
  xf : XfC K Cl
  ini : ∃ f fd, PySem.W.findIn K (.ref Cl) "__init__" = some (some (.ref f)) ∧ PySem.W.typeIn K (.ref f) = some (.type "function") ∧ Fun K "__init__" qual st f fd
theorem exc_mk {K : Fg} {h : Heap} {mg : Str → Option Value} {x qual : Str} {st : Stmt} {Cl f : Addr} (X : K.In h) (G : h.Ns mainGlobals mg) {nm q : Str} {N : Addr} {bs bm : List Value} {sn : List Str} {sub : List Value} {ab : Bool} {col : Option Bool} {dd : Option Addr} {m0 m1 m2 m3 m5 : Option Value}
    {od an : Option Addr} {sl : Array (Option Value)} {oc kV dc pm cd ct : Value} (aC : PySem.W.nsIn K mainGlobals x = some (some (.ref Cl))) (xL : K.lookup Cl = some (excClassObj nm q Cl N bs bm true sn sub ab col dd m0 m1 m2 m3 m5 "ValueError.__new__")) (hbm : PySem.HandSPX.refsVE bm = true)
    (sa : PySem.W.findIn K (.ref Cl) "__setattr__" = some (some (.builtin "object.__setattr__"))) (ga : PySem.W.findIn K (.ref Cl) "__getattribute__" = some (some (.builtin "BaseException.__getattribute__"))) (gg : PySem.W.findIn K (.ref Cl) "__getattr__" = some none)
    (a1 : PySem.W.findIn K (.ref Cl) "__init__" = some (some (.ref f))) (t1 : PySem.W.typeIn K (.ref f) = some (.type "function"))
    (l1 : K.lookup f = some ⟨oc, od, .func (PySem.W.fnOf "__init__" qual (defArgs st) (defBody st) (defScope st) .none kV dc pm an cd ct), sl⟩) (c1 : PySem.W.codeIn K cd qual = true) (kF : PySem.W.keepIn K (.ref f) = true)
    (kC : PySem.W.keepIn K (.ref Cl) = true) (eC : PySem.W.subIn K (.ref Cl) (.type "BaseException") = some true) (tC : PySem.W.typeIn K (.ref Cl) = some (.type "type")) (hC : PySem.W.hasDictIn K Cl = true) : ExcC K mg x qual st Cl :=
  ⟨⟨PySem.W.mg_of X G aC, eC, tC, hC⟩, ⟨⟨nm, q, N, bs, bm, sn, sub, ab, col, dd, m0, m1, m2, m3, m5, xL, hbm⟩, sa, eC, tC, kC⟩, ⟨ga, gg, eC, hC⟩, f, _, a1, t1, fun_mk (st := st) l1 c1 kF⟩
section
variable {P : Program} {w : World} {K : Fg} {mg : Str → Option Value} {base : Heap} {x qual a b : Str} {st : Stmt} {Cl : Addr}
theorem ExcC.t1 (Y : ExcC K mg x qual st Cl) (G : ∀ {f fd}, Fun K "__init__" qual st f fd → FnOk P w K mg base CX0 1 f fd ["self", a] (spI Cl [a]))
    (h : ∀ (kV doc pm : Value) (an : Option Addr) (cdv ct : Value) (us : List Value), us.length = 2 → bindArgs (PySem.W.fnOf "__init__" qual (defArgs st) (defBody st) (defScope st) .none kV doc pm an cdv ct) ⟨us, []⟩ = pure ((["self", a] : List Str).zip us)) : ExcT P w K mg base x Cl [a] := by
  obtain ⟨f, fd, h1, h2, F⟩ := Y.ini
  exact ⟨Y.o, Y.c.g, f, fd, ["self", a], h1, h2, F.binds (ps := ["self", a]) h, G F⟩
theorem ExcC.t2 (Y : ExcC K mg x qual st Cl) (G : ∀ {f fd}, Fun K "__init__" qual st f fd → FnOk P w K mg base CX0 1 f fd ["self", a, b] (spI Cl [a, b]))
    (h : ∀ (kV doc pm : Value) (an : Option Addr) (cdv ct : Value) (us : List Value), us.length = 3 → bindArgs (PySem.W.fnOf "__init__" qual (defArgs st) (defBody st) (defScope st) .none kV doc pm an cdv ct) ⟨us, []⟩ = pure ((["self", a, b] : List Str).zip us)) : ExcT P w K mg base x Cl [a, b] := by
  obtain ⟨f, fd, h1, h2, F⟩ := Y.ini
  exact ⟨Y.o, Y.c.g, f, fd, ["self", a, b], h1, h2, F.binds (ps := ["self", a, b]) h, G F⟩
end
/-- a class statement's k-th statement -/
def inCls : Stmt → Nat → Stmt
  | .ClassDef _ _ _ body _ _ _ _ _ _ _, k => body.getD k (.Pass ⟨0, 0, 0, 0⟩)
  | s, _ => s
end Qp

/-! Q20: an expression as a statement. -/
namespace Qp
open PySem PySem.Spec PyProof.Rows L2
section
variable {C : Cs} {ls : List Loc} {e : Expr} {Po : D → Prop} {pos : Pos} {P : Post} {rest : List Stmt}
theorem js_do (he : JX C ls e Po) (h : ∀ d, Po d → P.nx ls) (hs : ∀ j, swapsWith e none pos.line (C.X j).env = pure false := by intro _; rfl) : JS C ls (.Expr e pos) P :=
  js_of (fun j => ps_expr (pe_any C e j) (hs j)) fun F G H σ D' S f => he F G H σ S (f.xok S) _ fun d v G' H' hd eg eh S' hv => f.nx G' H' _ _ eg (S.kp eh) S' (h d hd)
theorem jb_do (he : JX C ls e Po) (k : ∀ d, Po d → JB C ls rest P) (hs : ∀ j, swapsWith e none pos.line (C.X j).env = pure false := by intro _; rfl) : JB C ls (.Expr e pos :: rest) P :=
  jb_cons (fun l => (∃ d, Po d) ∧ l = ls) (js_do he (fun d hd => ⟨⟨d, hd⟩, rfl⟩) hs) fun _ ⟨⟨d, hd⟩, h⟩ => h ▸ k d hd
end
/-! ### tuples over again -/
theorem dqAll_app {K : Fg} {G : Hp} : ∀ {vs vs2 : List V} {ds ds2 : List D}, DqAll K G vs ds → DqAll K G vs2 ds2 → DqAll K G (vs ++ vs2) (ds ++ ds2)
  | _, _, _, _, .nil, b => b
  | _, _, _, _, .cons h r, b => .cons h (dqAll_app r b)
theorem dqAll_rep {K : Fg} {G : Hp} {vs : List V} {ds : List D} (h : DqAll K G vs ds) : ∀ n, DqAll K G (List.replicate n vs).flatten (List.replicate n ds).flatten
  | 0 => .nil
  | n + 1 => by
    rw [List.replicate_succ, List.replicate_succ, List.flatten_cons, List.flatten_cons]
    exact dqAll_app h (dqAll_rep h n)
theorem op_repT' (C : Cs) (j : C.ι) : OpR (C.X j) (binaryOp .Mult) (rRepT C.K) := kx (p := fun K => OpR (C.X j) (binaryOp .Mult) (rRepT K)) j op_repT
section
variable {C : Cs} {ls : List Loc} {a b : Expr} {ds : List D} {pos : Pos}
theorem je_mulT {k : Int} (ha : JE C ls a (.tup ds)) (hb : JE C ls b (.int k)) (hne : ds ≠ []) (h1 : 2 ≤ k) (h2 : k ≤ 1000) (h3 : ds.length ≤ 1000) : JE C ls (.BinOp a .Mult b pos) (.tup (List.replicate k.toNat ds).flatten) :=
  je_of (fun j => pe_op (op_repT' C j) (pe_any C a j) (pe_any C b j)) fun F G H σ S xx Q q => ha F G H σ S xx _ fun x G1 H1 eg1 eh1 S1 hx => hb F G1 H1 σ S1 (xx.step eg1 eh1) _ fun y G2 H2 eg2 eh2 S2 hy => by
    obtain ⟨p, vs, rfl, ht, hv⟩ := dq_tup (dq_mono eg2 hx)
    obtain rfl := dq_int hy
    have hl := hv.length
    refine ⟨p, k, vs, rfl, rfl, ex_t S2.ex ht, fun z => hne (by rw [z] at hl; exact List.eq_nil_of_length_eq_zero hl.symm), h1, h2, by omega, ?_⟩
    exact ev_lay S2 (dqAll_rep hv k.toNat) fun v G3 H3 eg3 eh3 S3 hv3 => q v G3 H3 ((eg1.trans eg2).trans eg3) ((eh1.trans eh2).trans eh3) S3 hv3
theorem op_catA' (C : Cs) (j : C.ι) : OpR (C.X j) (binaryOp .Add) (rCatA C.K) := kx (p := fun K => OpR (C.X j) (binaryOp .Add) (rCatA K)) j op_catA
theorem sl_tupA' (C : Cs) (j : C.ι) : SlR (C.X j) (rSlA C.K) := kx (p := fun K => SlR (C.X j) (rSlA K)) j sl_tupA
theorem je_addT {es : List D} (ha : JE C ls a (.tup ds)) (hb : JE C ls b (.tup es)) (hl : ds.length + es.length ≤ 1000000) : JE C ls (.BinOp a .Add b pos) (.tup (ds ++ es)) :=
  je_of (fun j => pe_op (op_catA' C j) (pe_any C a j) (pe_any C b j)) fun F G H σ S xx Q q => ha F G H σ S xx _ fun x G1 H1 eg1 eh1 S1 hx => hb F G1 H1 σ S1 (xx.step eg1 eh1) _ fun y G2 H2 eg2 eh2 S2 hy => by
    have hx2 := dq_mono eg2 hx
    obtain ⟨p, vs, rfl, ht, hv⟩ := dq_tup hx2
    obtain ⟨r, us, rfl, hu, hw⟩ := dq_tup hy
    have l1 := hv.length
    have l2 := hw.length
    refine ⟨p, r, vs, us, rfl, rfl, ex_t S2.ex ht, ex_t S2.ex hu, by rw [l1, l2]; exact Nat.le_trans hl (by decide), fun z => ?_, fun _ z => ?_, fun _ _ => ?_⟩
    · have e : ds = [] := by rw [z] at l1; exact List.eq_nil_of_length_eq_zero l1.symm
      rw [e] at q
      exact q _ G2 H2 (eg1.trans eg2) (eh1.trans eh2) S2 hy
    · have e : es = [] := by rw [z] at l2; exact List.eq_nil_of_length_eq_zero l2.symm
      rw [e, List.append_nil] at q
      exact q _ G2 H2 (eg1.trans eg2) (eh1.trans eh2) S2 hx2
    · exact ev_lay S2 (dqAll_app hv hw) fun v G3 H3 eg3 eh3 S3 hv3 => q v G3 H3 ((eg1.trans eg2).trans eg3) ((eh1.trans eh2).trans eh3) S3 hv3
theorem je_sliceA {lo hi : Option Expr} {l u : Option Int} {p2 : Pos} (ha : JE C ls a (.tup ds)) (h1 : JO C ls lo l) (h2 : JO C ls hi u) : JE C ls (.Subscript a (.Slice lo hi none p2) pos) (.tup (cutD ds l u)) :=
  je_of (fun j => pe_slice (sl_tupA' C j) (pe_any C a j) (po_any C lo j) (po_any C hi j)) fun F G H σ S xx Q q => ha F G H σ S xx _ fun x G1 H1 eg1 eh1 S1 hx => h1 F G1 H1 σ S1 (xx.step eg1 eh1) _ fun G2 H2 eg2 eh2 S2 => h2 F G2 H2 σ S2 (xx.step (eg1.trans eg2) (eh1.trans eh2)) _ fun G3 H3 eg3 eh3 S3 => by
    have hx3 := dq_mono (eg2.trans eg3) hx
    obtain ⟨p, vs, rfl, ht, hv⟩ := dq_tup hx3
    have e3 := (eg1.trans eg2).trans eg3
    have f3 := (eh1.trans eh2).trans eh3
    refine ⟨p, vs, rfl, ex_t S3.ex ht, fun z => ?_, fun _ => ev_lay S3 (dqAll_cut hv) fun v G4 H4 eg4 eh4 S4 hv2 => q v G4 H4 (e3.trans eg4) (f3.trans eh4) S4 hv2⟩
    have e : cutD ds l u = ds := by
      unfold cutD
      rw [hv.length] at z
      rw [z.1, z.2, List.drop_zero, Nat.sub_zero, List.take_length]
    rw [e] at q
    exact q _ G3 H3 e3 f3 S3 hx3
end
end Qp

/-! Q21: loops over zip of two tuples. -/
namespace Qp
open PySem PySem.Spec PyProof.Rows L2
section
variable {C : Cs} {ls : List Loc} {a b : Expr} {ds es : List D} {P : Post} {body : List Stmt} {pos : Pos}
theorem js_forZ [Cold C] {x y : Str} {p1 p2 q1 q2 tpos : Pos} {kk : Nat} (j1 j2 : Nat) (Pv : Nat → List Loc → Prop) (ha : JA C ls [a, b] [.tup ds, .tup es]) (hl : ds.length = es.length) (h0 : Pv 0 ls)
    (hb : ∀ (i : Nat) d e ls', ds[i]? = some d → es[i]? = some e → Pv i ls' → JB C ((ls'.set j1 (.val d)).set j2 (.val e)) body { nx := Pv (i + 1), rt := P.rt, bk := P.nx, ct := Pv (i + 1) })
    (hd : ∀ ls', Pv ds.length ls' → P.nx ls') (hm : NoG C "zip" := by assumption) (hg : ∀ j, Gl (C.X j) "zip" := by intro _; rfl) (hi : C.N[j1]? = some x := by rfl) (hi2 : C.N[j2]? = some y := by rfl)
    (hx : ∀ i, L2.Loc (C.X i).env.scope x := by intro _; first | exact .inl rfl | exact .inr rfl) (hy : ∀ i, L2.Loc (C.X i).env.scope y := by intro _; first | exact .inl rfl | exact .inr rfl)
    (hf : ∀ i, (C.X i).fn x = true ∨ (C.X i).env.scope.names.lookup x = some .local := by intro _; first | exact .inl rfl | exact .inr rfl) (hf2 : ∀ i, (C.X i).fn y = true ∨ (C.X i).env.scope.names.lookup y = some .local := by intro _; first | exact .inl rfl | exact .inr rfl)
    (hp : ∀ i, PassesOwn (model (C.X i).prog (C.X i).w) (C.X i).A (C.X i).env (C.X i).xe := by intro q; first | exact PassesOwn.never | exact passes_of rfl | exact q.owns)
    (hfs : ∀ i v, foldedSetIterable (.Call (.Name "zip" p1) [a, b] [] p2) (C.X i).env v = pure v := by intro _ _; rfl) :
    JS C ls (.For (.Tuple [.Name x q1, .Name y q2] kk tpos) (.Call (.Name "zip" p1) [a, b] [] p2) body [] pos) P :=
  js_of (t := tFor (RZ.iZipA C.K (aAny C [a, b])) (gTup C.K 2 (gCons (gName j1) (gCons (gName j2) gNil))) (bAny C body))
    (fun i => ps_for (hp i) (C.calm i Cold.h)
      (kx (p := fun K => PI (C.X i) _ (.Call (.Name "zip" p1) [a, b] [] p2) (RZ.iZipA K (aAny C [a, b]))) i (RZ.pi_zipA (hg i) (noG hm i) (pa_any C [a, b] i) (ha.ns a List.mem_cons_self _ _) (ns_any (fun z hz => ha.ns z (List.mem_cons_of_mem _ hz)) _ _)))
      (kx (p := fun K => PG (C.X i) _ (gTup K 2 (gCons (gName j1) (gCons (gName j2) gNil)))) i (pg_tup (C.calm i Cold.h) (pgs_cons (pg_name (i := j1) (by rw [C.hN]; exact C.nd) (by rw [C.hN]; exact hi) (hx i) (hf i)) (pgs_cons (pg_name (i := j2) (by rw [C.hN]; exact C.nd) (by rw [C.hN]; exact hi2) (hy i) (hf2 i)) pgs_nil))))
      (pb_any C body i) (hfs i))
    (hs_for Pv ds.length (fun G Jt => ∃ a vs b us, Jt = RZ.ItzT C.K a b ∧ SqT C.K G a vs ∧ DqAll C.K G vs ds ∧ SqT C.K G b us ∧ DqAll C.K G us es)
      (fun F G H σ S xx R q => ha.ev F G H σ S xx _ fun vs G' H' eg eh S' hv => by
        cases hv with
        | cons h1 r =>
          cases r with
          | cons h2 r =>
            cases r
            obtain ⟨a, vs, rfl, ta, da⟩ := dq_tup h1
            obtain ⟨b, us, rfl, tb, db⟩ := dq_tup h2
            exact ⟨a, b, vs, us, rfl, .inr ⟨ex_t S'.ex ta, ex_t S'.ex tb, q _ G' H' eg eh S' ⟨a, vs, b, us, rfl, ta, da, tb, db⟩⟩⟩) h0
      (fun G Jt H hJ e => by
        obtain ⟨a, vs, b, us, rfl, ta, da, tb, db⟩ := hJ
        exact ⟨vs, us, ex_t e ta, ex_t e tb, .inl (by rw [da.length]; exact Nat.le_refl _)⟩)
      (fun G Jt H i hJ e hi => by
        obtain ⟨a, vs, b, us, rfl, ta, da, tb, db⟩ := hJ
        exact ⟨vs, us, vs[i]'(by rw [da.length]; exact hi), us[i]'(by rw [db.length, ← hl]; exact hi), ex_t e ta, ex_t e tb, List.getElem?_eq_getElem _, List.getElem?_eq_getElem _⟩)
      (fun F G G0 H σ ls' i v Jt H1 hJ eg hi S p yl D' f => by
        obtain ⟨a, vs, b, us, rfl, ta, da, tb, db⟩ := hJ
        obtain ⟨T, u1, u2, rfl, hT, rfl, f1, f2⟩ := yl
        have e1 := f1 vs (ex_t (eg.trans S.ex) ta)
        have e2 := f2 us (ex_t (eg.trans S.ex) tb)
        obtain ⟨d, m1, k1⟩ := da.get' e1
        obtain ⟨e, m2, k2⟩ := db.get' e2
        have g := S.ex.fresh hT
        have en := Ex.new (o := HO.tup [u1, u2]) g
        refine ⟨T, [u1, u2], rfl, SqT.of upd_same, rfl, u1, [u2], rfl, u2, [], rfl, rfl, ?_⟩
        exact hb i d e ls' m1 m2 p F (upd G T (.tup [u1, u2])) _ _ D' (((S.made hT).setV (dq_mono (eg.trans en) k1)).setV (dq_mono (eg.trans en) k2)) (f.step en (S.kp (Ex.new hT)))) hd)
end
end Qp

/-! Q22: range with a step; zip of two frozen lists. -/
namespace Qp
open PySem PySem.Spec PyProof.Rows L2
theorem rgC_up {hi c : Int} (h0 : 0 ≤ hi) (h1 : hi < 2 ^ 60) (c0 : 1 ≤ c) (c1 : c < 1000000) : RgC 0 hi c ((hi + c - 1) / c).toNat := by
  have e := PyProof.Rows.rangeSize_pos c0 h0
  have g0 : 0 ≤ (hi + c - 1) / c := Int.ediv_nonneg (by omega) (by omega)
  have g1 : (hi + c - 1) / c ≤ hi + c - 1 := Int.ediv_le_self _ (by omega)
  have g2 : (hi + c - 1) / c * c ≤ hi + c - 1 := Int.ediv_mul_le _ (by omega)
  refine ⟨by omega, by omega, ?_, by rw [e]; omega⟩
  unfold Builtin.Range.small
  rw [e]
  have c2 : c > 0 := by omega
  simp only [Builtin.Range.rangeFitsLong, c2, if_true, Bool.and_eq_true, Bool.or_eq_true, decide_eq_true_eq, beq_iff_eq]
  refine ⟨⟨⟨⟨⟨by omega, by omega⟩, by omega, by omega⟩, by omega, by omega⟩, by omega, by omega⟩, .inr ⟨by omega, by omega⟩⟩
theorem range3' {C : Cs} (j : C.ι) {tg a b c : Expr} {p pos : Pos} (hg : Gl (C.X j) "range") (hm : NoG C "range") (hs : NS a) (hs2 : NS b) (hs3 : NS c) : PI (C.X j) tg (.Call (.Name "range" p) [a, b, c] [] pos) (iRng3 (tCons (eAny C a) (tCons (eAny C b) (tCons (eAny C c) tNil)))) :=
  pi_range3 hg (noG hm j) (pa_cons (pe_any C a j) (pa_cons (pe_any C b j) (pa_cons (pe_any C c j) pa_nil (hs3 _ _)) (hs2 _ _)) (hs _ _)) (hs _ _) (ns_any (es := [b, c]) (fun z hz => by
    rcases List.mem_cons.mp hz with rfl | hz
    · exact hs2
    · rw [List.mem_singleton.mp hz]; exact hs3) _ _)
section
variable {C : Cs} {ls : List Loc} {e e2 e3 a b : Expr} {ds es : List D} {P : Post} {body : List Stmt} {pos p1 p2 p3 : Pos}
/-- for x in range(lo, hi, c): n turns -/
theorem js_forR3 [Cold C] {lo hi c : Int} {n : Nat} {x : Str} (j : Nat) (Pv : Nat → List Loc → Prop) (ha : JE C ls e (.int lo)) (hb2 : JE C ls e2 (.int hi)) (hc2 : JE C ls e3 (.int c)) (hr : RgC lo hi c n) (h0 : Pv 0 ls)
    (hb : ∀ (i : Nat) ls', i < n → Pv i ls' → JB C (ls'.set j (.val (.int (lo + i * c)))) body { nx := Pv (i + 1), rt := P.rt, bk := P.nx, ct := Pv (i + 1) })
    (hd : ∀ ls', Pv n ls' → P.nx ls') (hm : NoG C "range" := by assumption) (hg : ∀ j, Gl (C.X j) "range" := by intro _; rfl) (hs : NS e := by intro _ _; rfl) (hs2 : NS e2 := by intro _ _; rfl) (hs3 : NS e3 := by intro _ _; rfl) (hi' : C.N[j]? = some x := by rfl)
    (hx : ∀ i, L2.Loc (C.X i).env.scope x := by intro _; first | exact .inl rfl | exact .inr rfl)
    (hf : ∀ i, (C.X i).fn x = true ∨ (C.X i).env.scope.names.lookup x = some .local := by intro _; first | exact .inl rfl | exact .inr rfl)
    (hp : ∀ i, PassesOwn (model (C.X i).prog (C.X i).w) (C.X i).A (C.X i).env (C.X i).xe := by intro q; first | exact PassesOwn.never | exact passes_of rfl | exact q.owns)
    (hfs : ∀ i x, foldedSetIterable (.Call (.Name "range" p1) [e, e2, e3] [] p2) (C.X i).env x = pure x := by intro _ _; rfl) :
    JS C ls (.For (.Name x p3) (.Call (.Name "range" p1) [e, e2, e3] [] p2) body [] pos) P :=
  js_of (fun i => ps_for (hp i) (C.calm i Cold.h) (range3' i (hg i) hm hs hs2 hs3) (pg_name (i := j) (by rw [C.hN]; exact C.nd) (by rw [C.hN]; exact hi') (hx i) (hf i)) (pb_any C body i) (hfs i))
    (hs_for Pv n (fun _ Jt => Jt = Itc lo c n)
      (fun F G H σ S xx R q => (evA_cons (K := C.K) ha (evA_cons (K := C.K) hb2 (evA_cons (K := C.K) hc2 evA_nil))) F G H σ S xx _ fun vs G' H' eg eh S' hv => by
        cases hv with
        | cons h1 h2 =>
          cases h2 with
          | cons h3 h4 =>
            cases h4 with
            | cons h5 h6 =>
              cases h6
              exact ⟨lo, hi, c, n, by rw [dq_int h1, dq_int h3, dq_int h5], hr, q _ G' H' eg eh S' rfl⟩) h0
      (fun G Jt H hJ e => by subst hJ; exact Nat.le_refl _) (fun G Jt H i hJ e hi => by subst hJ; exact hi)
      (fun F G G0 H σ ls' i x Jt H1 hJ eg hi S p y D' f => by
        subst hJ
        obtain ⟨rfl, rfl⟩ := y
        exact hb i ls' hi p F G H1 _ D' (S.setV (.int _)) f) hd)
/-- for x, y in zip(a, b): two frozen lists of one length -/
theorem js_forZL [Cold C] {x y : Str} {q1 q2 tpos : Pos} {kk : Nat} (j1 j2 : Nat) (Pv : Nat → List Loc → Prop) (ha : JA C ls [a, b] [.lst ds, .lst es]) (hl : ds.length = es.length) (h0 : Pv 0 ls)
    (hb : ∀ (i : Nat) d e ls', ds[i]? = some d → es[i]? = some e → Pv i ls' → JB C ((ls'.set j1 (.val d)).set j2 (.val e)) body { nx := Pv (i + 1), rt := P.rt, bk := P.nx, ct := Pv (i + 1) })
    (hd : ∀ ls', Pv ds.length ls' → P.nx ls') (hm : NoG C "zip" := by assumption) (hg : ∀ j, Gl (C.X j) "zip" := by intro _; rfl) (hi : C.N[j1]? = some x := by rfl) (hi2 : C.N[j2]? = some y := by rfl)
    (hx : ∀ i, L2.Loc (C.X i).env.scope x := by intro _; first | exact .inl rfl | exact .inr rfl) (hy : ∀ i, L2.Loc (C.X i).env.scope y := by intro _; first | exact .inl rfl | exact .inr rfl)
    (hf : ∀ i, (C.X i).fn x = true ∨ (C.X i).env.scope.names.lookup x = some .local := by intro _; first | exact .inl rfl | exact .inr rfl) (hf2 : ∀ i, (C.X i).fn y = true ∨ (C.X i).env.scope.names.lookup y = some .local := by intro _; first | exact .inl rfl | exact .inr rfl)
    (hp : ∀ i, PassesOwn (model (C.X i).prog (C.X i).w) (C.X i).A (C.X i).env (C.X i).xe := by intro q; first | exact PassesOwn.never | exact passes_of rfl | exact q.owns)
    (hfs : ∀ i v, foldedSetIterable (.Call (.Name "zip" p1) [a, b] [] p2) (C.X i).env v = pure v := by intro _ _; rfl) :
    JS C ls (.For (.Tuple [.Name x q1, .Name y q2] kk tpos) (.Call (.Name "zip" p1) [a, b] [] p2) body [] pos) P :=
  js_of (t := tFor (RZ.iZipA C.K (aAny C [a, b])) (gTup C.K 2 (gCons (gName j1) (gCons (gName j2) gNil))) (bAny C body))
    (fun i => ps_for (hp i) (C.calm i Cold.h)
      (kx (p := fun K => PI (C.X i) _ (.Call (.Name "zip" p1) [a, b] [] p2) (RZ.iZipA K (aAny C [a, b]))) i (RZ.pi_zipA (hg i) (noG hm i) (pa_any C [a, b] i) (ha.ns a List.mem_cons_self _ _) (ns_any (fun z hz => ha.ns z (List.mem_cons_of_mem _ hz)) _ _)))
      (kx (p := fun K => PG (C.X i) _ (gTup K 2 (gCons (gName j1) (gCons (gName j2) gNil)))) i (pg_tup (C.calm i Cold.h) (pgs_cons (pg_name (i := j1) (by rw [C.hN]; exact C.nd) (by rw [C.hN]; exact hi) (hx i) (hf i)) (pgs_cons (pg_name (i := j2) (by rw [C.hN]; exact C.nd) (by rw [C.hN]; exact hi2) (hy i) (hf2 i)) pgs_nil))))
      (pb_any C body i) (hfs i))
    (hs_for Pv ds.length (fun G Jt => ∃ a vs b us, Jt = Itz C.K a b ∧ G a = some (.lst vs) ∧ DqAll C.K G vs ds ∧ G b = some (.lst us) ∧ DqAll C.K G us es)
      (fun F G H σ S xx R q => ha.ev F G H σ S xx _ fun vs G' H' eg eh S' hv => by
        cases hv with
        | cons h1 r =>
          cases r with
          | cons h2 r =>
            cases r
            obtain ⟨a, vs, rfl, ta, da⟩ := dq_lst h1
            obtain ⟨b, us, rfl, tb, db⟩ := dq_lst h2
            exact ⟨a, b, vs, us, rfl, .inl ⟨SqL.of (S'.ex _ _ ta), SqL.of (S'.ex _ _ tb), q _ G' H' eg eh S' ⟨a, vs, b, us, rfl, ta, da, tb, db⟩⟩⟩) h0
      (fun G Jt H hJ e => by
        obtain ⟨a, vs, b, us, rfl, ta, da, tb, db⟩ := hJ
        exact ⟨vs, us, SqL.of (e _ _ ta), SqL.of (e _ _ tb), .inl (by rw [da.length]; exact Nat.le_refl _)⟩)
      (fun G Jt H i hJ e hi => by
        obtain ⟨a, vs, b, us, rfl, ta, da, tb, db⟩ := hJ
        exact ⟨vs, us, vs[i]'(by rw [da.length]; exact hi), us[i]'(by rw [db.length, ← hl]; exact hi), SqL.of (e _ _ ta), SqL.of (e _ _ tb), List.getElem?_eq_getElem _, List.getElem?_eq_getElem _⟩)
      (fun F G G0 H σ ls' i v Jt H1 hJ eg hi S p yl D' f => by
        obtain ⟨a, vs, b, us, rfl, ta, da, tb, db⟩ := hJ
        obtain ⟨T, u1, u2, rfl, hT, rfl, f1, f2⟩ := yl
        have e1 := f1 vs (SqL.of ((eg.trans S.ex) _ _ ta))
        have e2 := f2 us (SqL.of ((eg.trans S.ex) _ _ tb))
        obtain ⟨d, m1, k1⟩ := da.get' e1
        obtain ⟨e, m2, k2⟩ := db.get' e2
        have g := S.ex.fresh hT
        have en := Ex.new (o := HO.tup [u1, u2]) g
        refine ⟨T, [u1, u2], rfl, SqT.of upd_same, rfl, u1, [u2], rfl, u2, [], rfl, rfl, ?_⟩
        exact hb i d e ls' m1 m2 p F (upd G T (.tup [u1, u2])) _ _ D' (((S.made hT).setV (dq_mono (eg.trans en) k1)).setV (dq_mono (eg.trans en) k2)) (f.step en (S.kp (Ex.new hT)))) hd)
end
end Qp

/-! Q23: loops over enumerate of a tuple. -/
namespace Qp
open PySem PySem.Spec PyProof.Rows L2
/-- enumerate over what begins with one new object -/
theorem enumB_meets {v : Value} {o : Obj} {Hb : Heap → Prop} (B : Begins v o Hb) : Meets (Builtin.«enumerate.__new__» ⟨[.type "enumerate", v], []⟩) (fun _ R s => Hb s.heap ∧
      R (.ok (.ret (.ref (s.heap.push o).objs.size))) { s with heap := (s.heap.push o).push { cls := .type "enumerate", data := .fields #[.none, .bool false, .ref s.heap.objs.size, rawInt 0, .none, .none] } }) := by
  refine .of_wp fun prog w A R s h => ?_
  obtain ⟨hp, gs, dd, tk, os⟩ := s
  obtain ⟨hB, h⟩ := h
  have sb := sub_enumerate
  have it : ∀ {A' : Around} {E : Value → Shared → Prop} {Q : Value → Shared → Prop}, Q (.ref hp.objs.size) ⟨hp.push o, gs, dd, tk, os⟩ → wpAny (model prog w) A' (pyIter v) Q E ⟨hp, gs, dd, tk, os⟩ :=
    fun q => B.iter prog w _ _ ⟨hp, gs, dd, tk, os⟩ _ hB q
  wp_walk using it
  refine wpAny_stack_any fun st => wpAny_pure ?_
  split
  · rename_i c _ _ _ _ _
    cases (c == Value.type "enumerate") <;> (wp_walk using it; exact ⟨_, rfl, h⟩)
  · wp_walk using it
    exact ⟨_, rfl, h⟩
theorem enumB_call {prog : Program} {w : World} {A : Around} {E : Value → Shared → Prop} {s : Shared} {v : Value} {o : Obj} {Hb : Heap → Prop} {Q : Value → Shared → Prop} (B : Begins v o Hb) (hB : Hb s.heap)
    (h : ∀ h', IsEnum h' (s.heap.objs.size + 1) s.heap.objs.size 0 .none → h'.get? s.heap.objs.size = some o → (∀ b u, s.heap.get? b = some u → h'.get? b = some u) → Q (.ref (s.heap.objs.size + 1)) { s with heap := h' }) :
    wpAny (model prog w) A (call (.type "enumerate") [v]) Q E s := by
  refine callType_new F.called_enumerate (by decide) (F.typeCall_enumerate_1 _) (F.newCall_enumerate_1 _) (fun obj => F.args_object_init_2 obj _) F.entry_enumerate_new (enumB_meets B) ⟨hB, ?_⟩
  have z1 : (s.heap.push o).objs.size = s.heap.objs.size + 1 := Heap.size_push ..
  have e1 : IsEnum ((s.heap.push o).push { cls := .type "enumerate", data := .fields #[.none, .bool false, .ref s.heap.objs.size, rawInt 0, .none, .none] }) (s.heap.objs.size + 1) s.heap.objs.size 0 .none := by
    rw [← z1]
    exact Heap.get?_push_size _ rfl
  show _ ∧ _
  rw [z1]
  exact ⟨⟨_, e1, rfl⟩, h _ e1 (Heap.get?_push_of_some _ (Heap.get?_push_size _ B.free)) fun b u x => Heap.get?_push_of_some _ (Heap.get?_push_of_some _ x)⟩
/-- the tuple at a, each item in a new pair -/
def ItnT (K : Fg) (a : Addr) : It :=
  ⟨fun i H => ∃ (xs : List V) (x : V), SqT K H a xs ∧ xs[i]? = some x, fun i H v H' => ∃ T x, v = .ref T ∧ H T = none ∧ H' = upd H T (.tup [.int (i : Nat), x]) ∧ ∀ xs, SqT K H a xs → xs[i]? = some x, fun i H => ∃ xs : List V, SqT K H a xs ∧ xs.length = i⟩
theorem turn_nT {P : Program} {w : World} {K : Fg} {elts : List Expr} {kk : Nat} {tpos : Pos} {a e it : Addr} (hne : e ≠ it) (hia : a ≠ it) (hea : a ≠ e) :
    Turn P w K (.Tuple elts kk tpos) (ItnT K a) [e, it] e (fun i h => (∃ old, IsEnum h e it ((i : Nat) : Int) old) ∧ h.IsTupleIter it a i) where
  mem := by simp
  obj := fun i h st b hb => by
    obtain ⟨⟨old, he⟩, ⟨o, ho, hc, hd⟩⟩ := st
    rcases (show b = e ∨ b = it by simpa using hb) with z | z
    · rw [z]; exact ⟨_, he, fun v q => nomatch q⟩
    · rw [z]; exact ⟨o, ho, fun v q => by rw [hd] at q; cases q⟩
  keep := fun i h h' st k => let ⟨⟨old, he⟩, hi⟩ := st; ⟨⟨old, k e (by simp) _ he⟩, hi.at fun o q => k it (by simp) o q⟩
  item := by
    intro X hP hw hK hc i pins s σ H E I hf st hg
    subst hP hw hK
    obtain ⟨⟨old, he⟩, hit⟩ := st
    obtain ⟨xs, x, hq, hx⟩ := hg
    obtain ⟨its, rv, p, hz⟩ := I.tuple hq
    obtain ⟨u, hu, ru⟩ := rv.get hx
    have hel : e < s.heap.objs.size := Heap.lt_size he
    have hil : it < s.heap.objs.size := by obtain ⟨_, q, _⟩ := hit; exact Heap.lt_size q
    have hlt : i < its.toArray.size := by rw [List.size_toArray]; exact (List.getElem?_eq_some_iff.mp hu).1
    refine wpAny_pyNext_enum_itemD (Draws.tuple (A := X.A.in1) (I.ok.hd hc) it a hia its.toArray) he ⟨hit, p⟩ hlt hne (by simp only [List.mem_cons, List.not_mem_nil, or_false, not_or]; exact ⟨hne, Ne.symm hea⟩) fun v h' tk hv ho hst hT hsz hk => ?_
    have ev : v = u := by
      rw [List.getElem?_toArray, hu] at hv
      exact (Option.some.inj hv).symm
    subst ev
    refine ⟨_, rfl, wpAny_letOwnedTupleGo_enum (s := { s with heap := h', toks := tk + 1 }) ho fun h'' he' sb => ?_⟩
    have hT2 : h''.get? s.heap.objs.size = some { cls := .type "tuple", data := .seq #[.int i tk, v] } := (sb.2 _ (Nat.ne_of_gt hel)).trans hT
    have new : ObjOk X.prog X.w (upd H s.heap.objs.size (.tup [.int (i : Nat), x])) h'' s.heap.objs.size (.tup [.int (i : Nat), x]) :=
      ⟨by show 2 ≤ sizeLine; decide, [.int i tk, v], .cons ⟨_, rfl⟩ (.cons ru .nil), ⟨_, hT2, rfl, _, rfl⟩⟩
    have I1 : Inv X pins σ (upd H s.heap.objs.size (.tup [.int (i : Nat), x])) { s with heap := h'', toks := tk + 1 } :=
      I.turnedNew (ch := [e, it]) (fun b ob hb q => (sb.2 b (fun z => hb (by simp [z]))).trans (hk b ob (fun z => hb (by simp [z])) (fun z => hb (by simp [z])) q)) hf (Nat.le_refl _) new
    refine ⟨.ref s.heap.objs.size, _, I1, rfl, ⟨_, x, rfl, I.hok.fresh (Nat.le_refl _), rfl, fun ys hy => by rw [I.tuple_inj hy hq]; exact hx⟩, ⟨⟨v, ?_⟩, hst.1.at fun o q => (sb.2 it (Ne.symm hne)).trans q⟩, fun b hb => ?_⟩
    · have e1 : ((i + 1 : Nat) : Int) = (i : Int) + 1 := by omega
      rw [e1]; exact he'
    · have hb' : b < s.heap.objs.size := by
        rcases (show b = e ∨ b = it by simpa using hb) with z | z
        · rw [z]; exact hel
        · rw [z]; exact hil
      rw [upd_ne (Nat.ne_of_lt hb')]
      exact (hf b hb).1
  done := by
    intro X hP hw hK hc i pins s σ H E I hf st hg
    subst hP hw hK
    obtain ⟨⟨old, he⟩, hit⟩ := st
    obtain ⟨xs, hq, hx⟩ := hg
    obtain ⟨its, rv, p, hz⟩ := I.tuple hq
    obtain ⟨f0, f1, f2, f3, f4, f5⟩ := hf it (by simp)
    have hl := rv.length
    refine wpAny_pyNext_enum_endD (Draws.tuple (A := X.A.in1) (I.ok.hd hc) it a hia its.toArray) he (by rw [List.size_toArray, show its.length = i by omega]; exact ⟨hit, p⟩) fun h' eb => ⟨rfl, I.turned (t' := s.toks) (fun b o hb q => eb b o hb q) f0 f1 f3 f4 f5⟩
  self := fun A i s Q E st h => let ⟨⟨_, he⟩, _⟩ := st; wpAny_pyIter_enum he h
def iEnT (K : Fg) (ta : TA) : TI := fun σ H R => ta σ H fun vs H1 => ∃ a xs, vs = [.ref a] ∧ SqT K H1 a xs ∧ R (ItnT K a) H1
theorem pi_enT {X : Cx} {e : Expr} {ta : TA} {p pos tpos : Pos} {elts : List Expr} {kk : Nat} (hg : Gl X "enumerate") (hm : X.mg "enumerate" = none) (ha : PA X [e] ta) (hs : starEach [e] X.env = [(false, eval e X.env)] := by rfl) :
    PI X (.Tuple elts kk tpos) (.Call (.Name "enumerate" p) [e] [] pos) (iEnT X.K ta) := by
  refine ⟨fun pins s σ H R I h => ?_⟩
  refine Call_ (ld_blt I hg hm boot_enumerate (PyProof.Rows.callWith_type1 (thn (ha.run pos pins s σ H _ I h) fun us s1 ⟨vs, H1, I1, r1, q1⟩ => ?_) hs rfl))
  obtain ⟨a, xs, ex, hq, q⟩ := q1
  subst ex
  cases r1 with
  | cons r rr =>
    cases rr
    cases r
    obtain ⟨its, rv, p', hz⟩ := I1.tuple hq
    obtain ⟨oa, hoa, _⟩ := id p'
    have la := Heap.lt_size hoa
    refine enumB_call (begins_tuple a its.toArray) p' fun h' he hit hk => wpAny_pyIter_enum he ?_
    have I2 : Inv X pins σ H1 { s1 with heap := h' } := I1.kept (t' := s1.toks) hk
    refine ⟨s1.heap.objs.size + 1, [s1.heap.objs.size + 1, s1.heap.objs.size], _, _, H1, rfl, I2, turn_nT (a := a) (Nat.succ_ne_self _) (Nat.ne_of_lt la) (Nat.ne_of_lt (Nat.lt_succ_of_lt la)), ⟨⟨.none, he⟩, ⟨_, hit, rfl, rfl⟩⟩, fun b hb => ?_, q⟩
    have hle : s1.heap.objs.size ≤ b := by
      rcases (show b = s1.heap.objs.size + 1 ∨ b = s1.heap.objs.size by simpa using hb) with z | z
      · rw [z]; exact Nat.le_succ _
      · rw [z]; exact Nat.le_refl _
    exact I1.fpOk hle (I1.hok.fresh hle)
section
variable {C : Cs} {ls : List Loc} {e a b : Expr} {ds es : List D} {P : Post} {body : List Stmt} {pos p1 p2 p3 : Pos}
/-- for x, y in enumerate(a tuple) -/
theorem js_forE [Cold C] {x y : Str} {q1 q2 tpos : Pos} {kk : Nat} (j1 j2 : Nat) (Pv : Nat → List Loc → Prop) (ha : JA C ls [a] [.tup ds]) (h0 : Pv 0 ls)
    (hb : ∀ (i : Nat) d ls', ds[i]? = some d → Pv i ls' → JB C ((ls'.set j1 (.val (.int i))).set j2 (.val d)) body { nx := Pv (i + 1), rt := P.rt, bk := P.nx, ct := Pv (i + 1) })
    (hd : ∀ ls', Pv ds.length ls' → P.nx ls') (hm : NoG C "enumerate" := by assumption) (hg : ∀ j, Gl (C.X j) "enumerate" := by intro _; rfl) (hi : C.N[j1]? = some x := by rfl) (hi2 : C.N[j2]? = some y := by rfl)
    (hx : ∀ i, L2.Loc (C.X i).env.scope x := by intro _; first | exact .inl rfl | exact .inr rfl) (hy : ∀ i, L2.Loc (C.X i).env.scope y := by intro _; first | exact .inl rfl | exact .inr rfl)
    (hf : ∀ i, (C.X i).fn x = true ∨ (C.X i).env.scope.names.lookup x = some .local := by intro _; first | exact .inl rfl | exact .inr rfl) (hf2 : ∀ i, (C.X i).fn y = true ∨ (C.X i).env.scope.names.lookup y = some .local := by intro _; first | exact .inl rfl | exact .inr rfl)
    (hp : ∀ i, PassesOwn (model (C.X i).prog (C.X i).w) (C.X i).A (C.X i).env (C.X i).xe := by intro q; first | exact PassesOwn.never | exact passes_of rfl | exact q.owns)
    (hfs : ∀ i v, foldedSetIterable (.Call (.Name "enumerate" p1) [a] [] p2) (C.X i).env v = pure v := by intro _ _; rfl) :
    JS C ls (.For (.Tuple [.Name x q1, .Name y q2] kk tpos) (.Call (.Name "enumerate" p1) [a] [] p2) body [] pos) P :=
  js_of (t := tFor (iEnT C.K (aAny C [a])) (gTup C.K 2 (gCons (gName j1) (gCons (gName j2) gNil))) (bAny C body))
    (fun i => ps_for (hp i) (C.calm i Cold.h)
      (kx (p := fun K => PI (C.X i) _ (.Call (.Name "enumerate" p1) [a] [] p2) (iEnT K (aAny C [a]))) i (pi_enT (hg i) (noG hm i) (pa_any C [a] i) (ha.ns a List.mem_cons_self _ _)))
      (kx (p := fun K => PG (C.X i) _ (gTup K 2 (gCons (gName j1) (gCons (gName j2) gNil)))) i (pg_tup (C.calm i Cold.h) (pgs_cons (pg_name (i := j1) (by rw [C.hN]; exact C.nd) (by rw [C.hN]; exact hi) (hx i) (hf i)) (pgs_cons (pg_name (i := j2) (by rw [C.hN]; exact C.nd) (by rw [C.hN]; exact hi2) (hy i) (hf2 i)) pgs_nil))))
      (pb_any C body i) (hfs i))
    (hs_for Pv ds.length (fun G Jt => ∃ a vs, Jt = ItnT C.K a ∧ SqT C.K G a vs ∧ DqAll C.K G vs ds)
      (fun F G H σ S xx R q => ha.ev F G H σ S xx _ fun vs G' H' eg eh S' hv => by
        cases hv with
        | cons h1 r =>
          cases r
          obtain ⟨a, vs, rfl, ta, da⟩ := dq_tup h1
          exact ⟨a, vs, rfl, ex_t S'.ex ta, q _ G' H' eg eh S' ⟨a, vs, rfl, ta, da⟩⟩) h0
      (fun G Jt H hJ e => by
        obtain ⟨a, vs, rfl, ta, da⟩ := hJ
        exact ⟨vs, ex_t e ta, da.length⟩)
      (fun G Jt H i hJ e hi => by
        obtain ⟨a, vs, rfl, ta, da⟩ := hJ
        exact ⟨vs, vs[i]'(by rw [da.length]; exact hi), ex_t e ta, List.getElem?_eq_getElem _⟩)
      (fun F G G0 H σ ls' i v Jt H1 hJ eg hi S p yl D' f => by
        obtain ⟨a, vs, rfl, ta, da⟩ := hJ
        obtain ⟨T, u1, rfl, hT, rfl, f1⟩ := yl
        have e1 := f1 vs (ex_t (eg.trans S.ex) ta)
        obtain ⟨d, m1, k1⟩ := da.get' e1
        have g := S.ex.fresh hT
        have en := Ex.new (o := HO.tup [.int (i : Nat), u1]) g
        refine ⟨T, [.int (i : Nat), u1], rfl, SqT.of upd_same, rfl, .int (i : Nat), [u1], rfl, u1, [], rfl, rfl, ?_⟩
        exact hb i d ls' m1 p F (upd G T (.tup [.int (i : Nat), u1])) _ _ D' (((S.made hT).setV (.int _)).setV (dq_mono (eg.trans en) k1)) (f.step en (S.kp (Ex.new hT)))) hd)
end
end Qp

/-! Q24: tuple(zip(*rows)), at the model's level: any number of tuples, each at least one long. -/
namespace Qz
open PySem PySem.Spec PyProof.Rows
abbrev zipO (TI TO : Addr) (f0 f1 : Value) : Obj := { cls := .type "zip", dict := none, data := .fields #[f0, f1, .bool false, .ref TI, .ref TO], slots := #[] }
abbrev tupO (vs : Array Value) : Obj := { cls := .type "tuple", data := .seq vs }
abbrev tuIt (t : Addr) : Obj := { cls := .type "tuple_iterator", data := .fields #[.ref t, .int 0 0] }
abbrev lstO (vs : Array Value) (c : Nat) : Obj := { cls := .type "list", dict := none, data := .seq vs c, slots := #[] }
def refsFrom (b n : Nat) : List Value := (List.range' b n).map fun a => Value.ref a
theorem refsFrom_cons (b n : Nat) : refsFrom b (n + 1) = .ref b :: refsFrom (b + 1) n := rfl
theorem refsFrom_len (b n : Nat) : (refsFrom b n).length = n := by unfold refsFrom; rw [List.length_map, List.length_range']
/-! ### zip made -/
def pushIts (h : Heap) : List Addr → Heap
  | [] => h
  | t :: ts => pushIts (h.push (tuIt t)) ts
theorem pushIts_size : ∀ (ts : List Addr) (h : Heap), (pushIts h ts).objs.size = h.objs.size + ts.length
  | [], h => rfl
  | t :: ts, h => by
    show (pushIts (h.push (tuIt t)) ts).objs.size = _
    rw [pushIts_size ts, Heap.size_push, List.length_cons]
    omega
theorem pushIts_keep : ∀ (ts : List Addr) (h : Heap) (a : Addr) (o : Obj), h.get? a = some o → (pushIts h ts).get? a = some o
  | [], h, a, o, e => e
  | t :: ts, h, a, o, e => pushIts_keep ts _ a o (Heap.get?_push_of_some _ e)
theorem pushIts_at : ∀ (ts : List Addr) (h : Heap) (m : Nat) (t : Addr), ts[m]? = some t → (pushIts h ts).get? (h.objs.size + m) = some (tuIt t)
  | t :: ts, h, 0, _, e => by
    cases e
    exact pushIts_keep ts _ _ _ (Heap.get?_push_size _ rfl)
  | t :: ts, h, m + 1, u, e => by
    have z := pushIts_at ts (h.push (tuIt t)) m u e
    rw [Heap.size_push] at z
    rw [show h.objs.size + (m + 1) = h.objs.size + 1 + m by omega]
    exact z
section
variable {prog : Program} {w : World} {A : Around} {E : Value → Shared → Prop} {s : Shared}
theorem newClass_zip (us : List Value) : Builtin.SmallTypes.newClass "zip" ⟨.type "zip" :: us, []⟩ = pure (.type "zip", us) := by
  unfold Builtin.SmallTypes.newClass
  simp only [isType, sub_zip, pure_bind, Bool.not_true, Bool.false_eq_true, if_false]
theorem iterAll_loop {f : Value → Array Value → Sem (ForInStep (Array Value))}
    (hf : ∀ (t : Addr) (items : Array Value) (acc : Array Value) (s : Shared) (Q : ForInStep (Array Value) → Shared → Prop) (E : Value → Shared → Prop), s.heap.IsTuple t items → Q (.yield (acc.push (.ref s.heap.objs.size))) { s with heap := s.heap.push (tuIt t) } → wpAny (model prog w) A (f (.ref t) acc) Q E s) :
    ∀ (ts : List Addr) (s : Shared) (acc : Array Value) (Q : Array Value → Shared → Prop), (∀ t ∈ ts, ∃ items, s.heap.IsTuple t items) → Q (acc ++ (refsFrom s.heap.objs.size ts.length).toArray) { s with heap := pushIts s.heap ts } →
      wpAny (model prog w) A (forIn (ts.map fun t => Value.ref t) acc f) Q E s
  | [], s, acc, Q, ht, q => by
    rw [List.map_nil, List.forIn_nil]
    refine wpAny_pure ?_
    have e : acc ++ (refsFrom s.heap.objs.size 0).toArray = acc := by
      show acc ++ #[] = acc
      simp
    rw [show ([] : List Addr).length = 0 from rfl, e] at q
    exact q
  | t :: ts, s, acc, Q, ht, q => by
    rw [List.map_cons, List.forIn_cons]
    obtain ⟨items, h1⟩ := ht t List.mem_cons_self
    refine wpAny_bind (hf t items acc s _ E h1 ?_)
    refine iterAll_loop hf ts { s with heap := s.heap.push (tuIt t) } (acc.push (.ref s.heap.objs.size)) Q (fun u hu => ?_) ?_
    · obtain ⟨its, hi⟩ := ht u (List.mem_cons_of_mem _ hu)
      exact ⟨its, hi.push _⟩
    · have e : acc.push (.ref s.heap.objs.size) ++ (refsFrom (s.heap.push (tuIt t)).objs.size ts.length).toArray = acc ++ (refsFrom s.heap.objs.size (t :: ts).length).toArray := by
        rw [Heap.size_push, List.length_cons, refsFrom_cons]
        apply Array.ext'
        simp
      show Q (acc.push (.ref s.heap.objs.size) ++ (refsFrom (s.heap.push (tuIt t)).objs.size ts.length).toArray) _
      rw [e]
      exact q
/-- the heap behind zip(..) -/
def zipH (h : Heap) (ts : List Addr) : Heap :=
  (((pushIts h ts).push (tupO (refsFrom h.objs.size ts.length).toArray)).push (tupO ((refsFrom h.objs.size ts.length).map fun _ => Value.none).toArray)).push (zipO (h.objs.size + ts.length) (h.objs.size + ts.length + 1) .none (.bool false))
theorem zip_new {ts : List Addr} {Q : PySem.Fin → Shared → Prop} (ht : ∀ t ∈ ts, ∃ items, s.heap.IsTuple t items) (hn : ts.length ≤ 1000)
    (q : Q (.done (.ret (.ref (s.heap.objs.size + ts.length + 2)))) { s with heap := zipH s.heap ts }) : wpAny (model prog w) A (Builtin.«zip.__new__» ⟨.type "zip" :: ts.map fun t => Value.ref t, []⟩) Q E s := by
  unfold Builtin.«zip.__new__»
  rw [newClass_zip]
  simp only [pure_bind]
  rw [if_neg (by decide)]
  unfold Builtin.SmallTypes.iterAll
  refine wpAny_bind (wpAny_bind (iterAll_loop (fun t items acc s Q E h1 q1 => by
    refine wpAny_bind (m := holding acc.toList (pyIter (.ref t))) (wpAny_holding (wpAny_pyIter_tuple h1 ?_))
    exact wpAny_pure q1) ts s #[] _ ht ?_))
  refine wpAny_pure ?_
  have e : (#[] ++ (refsFrom s.heap.objs.size ts.length).toArray).toList = refsFrom s.heap.objs.size ts.length := by simp
  rw [e]
  refine wpAny_bind (wpAny_newObj_type ?_ (by show (refsFrom s.heap.objs.size ts.length).toArray.size ≤ sizeLine; rw [List.size_toArray, refsFrom_len]; exact Nat.le_trans hn (by decide)))
  refine wpAny_bind (wpAny_newObj_type ?_ (by show ((refsFrom s.heap.objs.size ts.length).map fun _ => Value.none).toArray.size ≤ sizeLine; rw [List.size_toArray, List.length_map, refsFrom_len]; exact Nat.le_trans hn (by decide)))
  unfold Builtin.SmallTypes.newRecord
  refine wpAny_bind (wpAny_newObj_type ?_ (by show 5 ≤ sizeLine + 2; decide))
  refine wpAny_pure ?_
  have z1 : (pushIts s.heap ts).objs.size = s.heap.objs.size + ts.length := pushIts_size _ _
  have z2 : ((pushIts s.heap ts).push (tupO (refsFrom s.heap.objs.size ts.length).toArray)).objs.size = s.heap.objs.size + ts.length + 1 := by rw [Heap.size_push, z1]
  have z3 : (((pushIts s.heap ts).push (tupO (refsFrom s.heap.objs.size ts.length).toArray)).push (tupO ((refsFrom s.heap.objs.size ts.length).map fun _ => Value.none).toArray)).objs.size = s.heap.objs.size + ts.length + 2 := by rw [Heap.size_push, z2]
  have z : zipH s.heap ts = (((pushIts s.heap ts).push (tupO (refsFrom s.heap.objs.size ts.length).toArray)).push (tupO ((refsFrom s.heap.objs.size ts.length).map fun _ => Value.none).toArray)).push (zipO (pushIts s.heap ts).objs.size ((pushIts s.heap ts).push (tupO (refsFrom s.heap.objs.size ts.length).toArray)).objs.size .none (.bool false)) := by
    unfold zipH
    rw [z1, z2]
  rw [z, ← z3] at q
  exact q
/-! ### next of a zip -/
theorem ane {a b : Nat} (h : a < b ∨ b < a) : @Ne Addr a b := fun e => by
  have e' : a = b := e
  omega
/-- what loops over the iterators of a zip keeps: those below j have been drawn from -/
structure ItAt (base n k : Nat) (tp : Nat → Addr) (rw : Nat → Array Value) (j : Nat) (h : Heap) : Prop where
  it : ∀ m, m < n → h.IsTupleIter (base + m) (tp m) (if m < j then k + 1 else k)
  tup : ∀ m, m < n → h.IsTuple (tp m) (rw m)
theorem ItAt.step {base n k : Nat} {tp : Nat → Addr} {rw : Nat → Array Value} {j : Nat} {h h' : Heap} (I : ItAt base n k tp rw j h) (hj : j < n) (hb : ∀ m, m < n → tp m < base) (hi : h'.IsTupleIter (base + j) (tp j) (k + 1)) (hs : ∀ b, b ≠ base + j → (b < base ∨ b < base + n) → h'.get? b = h.get? b) : ItAt base n k tp rw (j + 1) h' where
  it := fun m hm => by
    by_cases e : m = j
    · rw [e, if_pos (Nat.lt_succ_self _)]
      exact hi
    · have z := I.it m hm
      have z2 : h'.IsTupleIter (base + m) (tp m) (if m < j then k + 1 else k) := z.at fun o q => (hs _ (ane (by omega)) (.inr (by omega))).trans q
      by_cases e2 : m < j
      · rw [if_pos e2] at z2
        rw [if_pos (by omega)]
        exact z2
      · rw [if_neg e2] at z2
        rw [if_neg (by omega)]
        exact z2
  tup := fun m hm => (I.tup m hm).at fun o q => (hs _ (ane (.inl (Nat.lt_of_lt_of_le (hb m hm) (Nat.le_add_right _ _)))) (.inl (hb m hm))).trans q
theorem ItAt.same {base n k : Nat} {tp : Nat → Addr} {rw : Nat → Array Value} {j : Nat} {h h' : Heap} (I : ItAt base n k tp rw j h) (hb : ∀ m, m < n → tp m < base) (hs : ∀ b, b < base + n → h'.get? b = h.get? b) : ItAt base n k tp rw j h' where
  it := fun m hm => (I.it m hm).at fun o q => (hs _ (by omega)).trans q
  tup := fun m hm => (I.tup m hm).at fun o q => (hs _ (Nat.lt_of_lt_of_le (hb m hm) (Nat.le_add_right _ _))).trans q
theorem ItAt.next {base n k : Nat} {tp : Nat → Addr} {rw : Nat → Array Value} {h : Heap} (I : ItAt base n k tp rw n h) : ItAt base n (k + 1) tp rw 0 h where
  it := fun m hm => by
    have z := I.it m hm
    rw [if_pos hm] at z
    rw [if_neg (by omega)]
    exact z
  tup := I.tup
/-- the second form: the things drawn are put into a new list -/
theorem drawB {base n k : Nat} {tp : Nat → Addr} {rw : Nat → Array Value} {val : Nat → Value} {f : Value → Option PySem.Fin × Array Value → Sem (ForInStep (Option PySem.Fin × Array Value))}
    (hf : ∀ (it l : Addr) (items : Array Value) (x : Value) (acc : Array Value) (s : Shared) (Q : ForInStep (Option PySem.Fin × Array Value) → Shared → Prop) (E : Value → Shared → Prop), s.heap.IsTupleIter it l k → s.heap.IsTuple l items → items[k]? = some x →
      (∀ h', h'.IsTupleIter it l (k + 1) → Heap.SameBut it s.heap h' → Q (.yield (none, acc.push x)) { s with heap := h' }) → wpAny (model prog w) A (f (.ref it) (none, acc)) Q E s)
    (hb : ∀ m, m < n → tp m < base) (hv : ∀ m, m < n → (rw m)[k]? = some (val m)) :
    ∀ (r j : Nat) (s : Shared) (acc : Array Value) (Q : Option PySem.Fin × Array Value → Shared → Prop), j + r = n → ItAt base n k tp rw j s.heap →
      (∀ h', ItAt base n k tp rw n h' → h'.objs.size = s.heap.objs.size → (∀ b, (b < base ∨ base + n ≤ b) → h'.get? b = s.heap.get? b) → Q (none, acc ++ ((List.range' j r).map val).toArray) { s with heap := h' }) →
      wpAny (model prog w) A (forIn (refsFrom (base + j) r) (none, acc) f) Q E s
  | 0, j, s, acc, Q, hj, I, q => by
    show wpAny _ _ (forIn [] (none, acc) f) Q E s
    rw [List.forIn_nil]
    have e : acc ++ ((List.range' j 0).map val).toArray = acc := by
      show acc ++ #[] = acc
      simp
    have z := q s.heap (by rw [← hj, Nat.add_zero]; rw [← hj, Nat.add_zero] at I; exact I) rfl fun b _ => rfl
    rw [e] at z
    exact wpAny_pure z
  | r + 1, j, s, acc, Q, hj, I, q => by
    have hlt : j < n := by omega
    rw [refsFrom_cons, List.forIn_cons]
    have i0 := I.it j hlt
    rw [if_neg (Nat.lt_irrefl _)] at i0
    refine wpAny_bind (hf (base + j) (tp j) (rw j) (val j) acc s _ E i0 (I.tup j hlt) (hv j hlt) fun h' hi hs => ?_)
    refine drawB hf hb hv r (j + 1) { s with heap := h' } (acc.push (val j)) Q (by omega) (I.step hlt hb hi fun b hbj _ => hs.2 b hbj) fun h2 I2 z2 k2 => ?_
    have e : acc.push (val j) ++ ((List.range' (j + 1) r).map val).toArray = acc ++ ((List.range' j (r + 1)).map val).toArray := by
      rw [List.range'_succ, List.map_cons]
      apply Array.ext'
      simp
    rw [e]
    exact q h2 I2 (z2.trans hs.1) fun b hb2 => (k2 b hb2).trans (hs.2 b (ane (by omega)))
/-- the first form: they are put into the tuple that the zip keeps -/
theorem drawA {base n k TO : Nat} {tp : Nat → Addr} {rw : Nat → Array Value} {val : Nat → Value} {f : Value × Nat → Option PySem.Fin × Unit → Sem (ForInStep (Option PySem.Fin × Unit))}
    (hf : ∀ (it l : Addr) (m : Nat) (items kept : Array Value) (x : Value) (s : Shared) (Q : ForInStep (Option PySem.Fin × Unit) → Shared → Prop) (E : Value → Shared → Prop), it ≠ TO → s.heap.IsTupleIter it l k → s.heap.IsTuple l items → items[k]? = some x → s.heap.get? TO = some (tupO kept) → kept.size = n →
      (∀ h', h'.IsTupleIter it l (k + 1) → h'.get? TO = some (tupO (kept.setIfInBounds m x)) → h'.objs.size = s.heap.objs.size → (∀ b, b ≠ it → b ≠ TO → h'.get? b = s.heap.get? b) → Q (.yield (none, ())) { s with heap := h' }) → wpAny (model prog w) A (f (.ref it, m) (none, ())) Q E s)
    (hb : ∀ m, m < n → tp m < base) (hv : ∀ m, m < n → (rw m)[k]? = some (val m)) (hTO : base + n ≤ TO) :
    ∀ (r j : Nat) (s : Shared) (kept : Array Value) (Q : Option PySem.Fin × Unit → Shared → Prop), j + r = n → ItAt base n k tp rw j s.heap → s.heap.get? TO = some (tupO kept) → kept.size = n → (∀ m, m < j → kept[m]? = some (val m)) →
      (∀ h', ItAt base n k tp rw n h' → h'.get? TO = some (tupO ((List.range n).map val).toArray) → h'.objs.size = s.heap.objs.size → (∀ b, (b < base ∨ base + n ≤ b) → b ≠ TO → h'.get? b = s.heap.get? b) → Q (none, ()) { s with heap := h' }) →
      wpAny (model prog w) A (forIn ((refsFrom (base + j) r).zipIdx j) (none, ()) f) Q E s
  | 0, j, s, kept, Q, hj, I, ht, hz, hk, q => by
    show wpAny _ _ (forIn [] (none, ()) f) Q E s
    rw [List.forIn_nil]
    have ej : j = n := by omega
    subst ej
    have e : kept = ((List.range j).map val).toArray := by
      apply Array.ext
      · rw [hz]; simp
      · intro i h1 h2
        have h3 := hk i (by omega)
        rw [Array.getElem?_eq_getElem h1] at h3
        have h4 := Option.some.inj h3
        rw [h4]
        simp
    rw [e] at ht
    exact wpAny_pure (q s.heap I ht rfl fun b _ _ => rfl)
  | r + 1, j, s, kept, Q, hj, I, ht, hz, hk, q => by
    have hlt : j < n := by omega
    rw [refsFrom_cons, List.zipIdx_cons, List.forIn_cons]
    have i0 := I.it j hlt
    rw [if_neg (Nat.lt_irrefl _)] at i0
    refine wpAny_bind (hf (base + j) (tp j) j (rw j) kept (val j) s _ E (ane (by omega)) i0 (I.tup j hlt) (hv j hlt) ht hz fun h' hi ht' hs' kp => ?_)
    refine drawA hf hb hv hTO r (j + 1) { s with heap := h' } (kept.setIfInBounds j (val j)) Q (by omega) (I.step hlt hb hi fun b hbj hbn => kp b hbj (ane (by omega))) ht' (by rw [Array.size_setIfInBounds]; exact hz) (fun m hm => ?_) fun h2 I2 t2 z2 k2 => ?_
    · by_cases e : m = j
      · rw [e, Array.getElem?_setIfInBounds_self_of_lt (by omega)]
      · rw [Array.getElem?_setIfInBounds_ne (by omega)]
        exact hk m (by omega)
    · exact q h2 I2 t2 (z2.trans hs') fun b hb2 hbt => (k2 b hb2 hbt).trans (kp b (ane (by omega)) hbt)
/-- one turn, the kept tuple free -/
theorem zip_nextA {base n TO : Nat} {tp : Nat → Addr} {rw : Nat → Array Value} {val : Nat → Value} {kept : Array Value} {Q : Value → Shared → Prop} (hn : 0 < n) (hn1 : n ≤ 1000) (hTO : TO = base + n + 1)
    (hz : s.heap.get? (base + n + 2) = some (zipO (base + n) TO .none (.bool false))) (hTI : s.heap.get? (base + n) = some (tupO (refsFrom base n).toArray)) (ht : s.heap.get? TO = some (tupO kept)) (hkz : kept.size = n)
    (hb : ∀ m, m < n → tp m < base) (hv : ∀ m, m < n → (rw m)[0]? = some (val m)) (I : ItAt base n 0 tp rw 0 s.heap)
    (q : ∀ h', ItAt base n 0 tp rw n h' → h'.get? (base + n + 2) = some (zipO (base + n) TO (rawInt (s.heap.objs.size : Nat)) (.bool false)) → h'.get? s.heap.objs.size = some (tupO ((List.range n).map val).toArray) → h'.objs.size = s.heap.objs.size + 1 →
      (∀ b, b < s.heap.objs.size → (b < base ∨ base + n ≤ b) → b ≠ TO → b ≠ base + n + 2 → h'.get? b = s.heap.get? b) → Q (.ref s.heap.objs.size) { s with heap := h' }) :
    wpAny (model prog w) A (Builtin.«zip.__next__» ⟨[.ref (base + n + 2 : Nat)], []⟩) (fun fin s' => ∃ v, fin = .done (.ret v) ∧ Q v s') E s := by
  show wpAny _ _ (field (.ref (base + n + 2 : Nat)) 2 >>= _) _ _ _
  refine wpAny_bind (wpAny_field hz rfl (x := .bool false) rfl ?_)
  show wpAny _ _ (field (.ref (base + n + 2 : Nat)) 3 >>= _) _ _ _
  refine wpAny_bind (wpAny_field hz rfl (x := .ref (base + n : Nat)) rfl ?_)
  refine wpAny_bind (wpAny_seqItems hTI rfl ?_)
  dsimp only
  rw [if_neg (by rw [Array.isEmpty_iff_size_eq_zero, List.size_toArray, refsFrom_len]; omega)]
  refine wpAny_bind ?_
  unfold Builtin.SmallTypes.ownedTupleIsFree
  refine wpAny_bind (wpAny_field hz rfl (x := .none) rfl (wpAny_pure ?_))
  rw [if_pos rfl]
  refine wpAny_bind (wpAny_rule ?_)
  refine wpAny_bind (wpAny_field hz rfl (x := .ref TO) rfl ?_)
  refine wpAny_bind (wpAny_setField_rec hz (by simp) fun h1 hz1 hs1 => ?_)
  replace hz1 : h1.get? (base + n + 2) = some (zipO (base + n) TO .ellipsis (.bool false)) := hz1
  refine wpAny_bind ?_
  have I1 : ItAt base n 0 tp rw 0 h1 := I.same hb fun b hb2 => hs1.2 b (ane (by omega))
  have ht1 : h1.get? TO = some (tupO kept) := (hs1.2 TO (ane (by omega))).trans ht
  have e0 : (refsFrom base n).toArray.toList.zipIdx = (refsFrom (base + 0) n).zipIdx 0 := rfl
  rw [e0]
  refine drawA (hf := fun it l m items kept x s Q E hne hit hl hx hto hks q1 => ?_) hb hv (by omega) n 0 ⟨h1, s.gens, s.drawn, s.toks, s.os⟩ kept _ (Nat.zero_add n) I1 ht1 hkz (fun m hm => absurd hm (Nat.not_lt_zero _)) (fun h2 I2 t2 z2 k2 => ?_)
  · refine wpAny_bind (wpAny_onRaise ?_)
    show wpAny _ _ (Builtin.SmallTypes.nextOf (.ref it) >>= _) _ _ _
    refine wpAny_bind (wpAny_nextOf_tuple_item hit hl hx fun h2 i2 s2 => wpAny_pure ?_)
    have t2 : h2.get? TO = some (tupO kept) := (s2.2 TO (Ne.symm hne)).trans hto
    refine wpAny_bind (wpAny_seqItems t2 rfl ?_)
    refine wpAny_bind (wpAny_updateSeq t2 rfl ?_ (by rw [hks]; exact Nat.le_trans hn1 (by decide)) (by rw [Array.size_setIfInBounds, hks]; exact Nat.le_trans hn1 (by decide)))
    refine wpAny_bind (wpAny_letGo (wpAny_pure ?_))
    have sb : Heap.SameBut TO h2 (h2.update TO (Obj.mapSeq (·.setIfInBounds m x))) := Heap.SameBut.update ..
    refine q1 _ (i2.at fun o e => (sb.2 it hne).trans e) ?_ (sb.1.trans s2.1) fun b hbi hbt => (sb.2 b hbt).trans (s2.2 b hbi)
    rw [Heap.get?_update_self _ t2 rfl]
    simp [Obj.mapSeq]
  · dsimp only
    refine wpAny_bind (wpAny_seqItems t2 rfl ?_)
    dsimp only
    refine wpAny_bind (wpAny_newObj_type ?_ (by show ((List.range n).map val).toArray.toList.toArray.size ≤ sizeLine; simp only [List.size_toArray, List.length_map, List.length_range]; exact Nat.le_trans hn1 (by decide)))
    have hsz2 : h2.objs.size = s.heap.objs.size := z2.trans hs1.1
    have hz2 : h2.get? (base + n + 2) = some (zipO (base + n) TO .ellipsis (.bool false)) := (k2 _ (.inr (by omega)) (ane (by omega))).trans hz1
    have hlt : base + n + 2 < s.heap.objs.size := Heap.lt_size hz
    show wpAny _ _ (Builtin.SmallTypes.ownedTupleHandOut (.ref (base + n + 2 : Nat)) (.ref h2.objs.size) >>= _) _ _ _
    have eT : (((List.range n).map val).toArray.toList.toArray) = ((List.range n).map val).toArray := by simp
    rw [eT, hsz2]
    refine wpAny_bind ?_
    unfold Builtin.SmallTypes.ownedTupleHandOut
    have hz3 : (h2.push (tupO ((List.range n).map val).toArray)).get? (base + n + 2) = some (zipO (base + n) TO .ellipsis (.bool false)) := Heap.get?_push_of_some _ hz2
    refine wpAny_bind (wpAny_setField_rec hz3 (by simp) fun h4 hz4 hs4 => ?_)
    replace hz4 : h4.get? (base + n + 2) = some (zipO (base + n) TO (rawInt (s.heap.objs.size : Nat)) (.bool false)) := hz4
    refine wpAny_setField_rec hz4 (by simp) fun h5 hz5 hs5 => ?_
    replace hz5 : h5.get? (base + n + 2) = some (zipO (base + n) TO (rawInt (s.heap.objs.size : Nat)) (.bool false)) := hz5
    have kp : ∀ b, b < s.heap.objs.size → b ≠ base + n + 2 → h5.get? b = h2.get? b := fun b hb2 hbz => by
      rw [hs5.2 b hbz, hs4.2 b hbz]
      exact Heap.get?_push_ne _ _ _ (by rw [hsz2]; exact ane (.inl hb2))
    have tT : h5.get? s.heap.objs.size = some (tupO ((List.range n).map val).toArray) := by
      rw [hs5.2 _ (ane (by omega)), hs4.2 _ (ane (by omega)), ← hsz2]
      exact Heap.get?_push_size _ rfl
    refine wpAny_pure ⟨_, rfl, q h5 (I2.same hb fun b hb2 => kp b (by omega) (by omega)) hz5 tT ?_ fun b hb2 hb3 hb4 hb5 => ?_⟩
    · rw [hs5.1, hs4.1, Heap.size_push, hsz2]
    · exact (kp b hb2 hb5).trans ((k2 b hb3 (ane (by omega))).trans (hs1.2 b (ane (by omega))))
theorem held_zip {z TI TO T : Addr} {f : Bool} {oT : Obj} {Q : Bool → Shared → Prop} (hz : s.heap.get? z = some (zipO TI TO (rawInt (T : Nat)) (.bool f))) (hT : s.heap.get? T = some oT)
    (q : ∀ h', h'.get? z = some (zipO TI TO (rawInt (T : Nat)) (.bool true)) → Heap.SameBut z s.heap h' → Q false { s with heap := h' }) : wpAny (model prog w) A (Builtin.SmallTypes.ownedTupleIsFree (.ref z)) Q E s := PySem.wpAny_tupleHeld_zip hz hT q
/-- one turn, the kept tuple handed out -/
theorem zip_nextB {base n TO k : Nat} {T : Addr} {f1 : Bool} {tp : Nat → Addr} {rw : Nat → Array Value} {val : Nat → Value} {Q : Value → Shared → Prop} (hn : 0 < n) (hn1 : n ≤ 1000)
    (hz : s.heap.get? (base + n + 2) = some (zipO (base + n) TO (rawInt (T : Nat)) (.bool f1))) (hTI : s.heap.get? (base + n) = some (tupO (refsFrom base n).toArray)) (hT : ∃ o, s.heap.get? T = some o)
    (hb : ∀ m, m < n → tp m < base) (hv : ∀ m, m < n → (rw m)[k]? = some (val m)) (I : ItAt base n k tp rw 0 s.heap)
    (q : ∀ h', ItAt base n k tp rw n h' → h'.get? (base + n + 2) = some (zipO (base + n) TO (rawInt (T : Nat)) (.bool true)) → h'.get? s.heap.objs.size = some (tupO ((List.range n).map val).toArray) → h'.objs.size = s.heap.objs.size + 1 →
      (∀ b, b < s.heap.objs.size → (b < base ∨ base + n ≤ b) → b ≠ base + n + 2 → h'.get? b = s.heap.get? b) → Q (.ref s.heap.objs.size) { s with heap := h' }) :
    wpAny (model prog w) A (Builtin.«zip.__next__» ⟨[.ref (base + n + 2 : Nat)], []⟩) (fun fin s' => ∃ v, fin = .done (.ret v) ∧ Q v s') E s := by
  obtain ⟨oT, hT⟩ := hT
  show wpAny _ _ (field (.ref (base + n + 2 : Nat)) 2 >>= _) _ _ _
  refine wpAny_bind (wpAny_field hz rfl (x := .bool false) rfl ?_)
  show wpAny _ _ (field (.ref (base + n + 2 : Nat)) 3 >>= _) _ _ _
  refine wpAny_bind (wpAny_field hz rfl (x := .ref (base + n : Nat)) rfl ?_)
  refine wpAny_bind (wpAny_seqItems hTI rfl ?_)
  dsimp only
  rw [if_neg (by rw [Array.isEmpty_iff_size_eq_zero, List.size_toArray, refsFrom_len]; omega)]
  refine wpAny_bind (held_zip hz hT fun h1 hz1 hs1 => ?_)
  rw [if_neg (by decide)]
  rw [List.forIn_toArray]
  refine wpAny_bind ?_
  have I1 : ItAt base n k tp rw 0 h1 := I.same hb fun b hb2 => hs1.2 b (ane (by omega))
  have hlt : base + n + 2 < s.heap.objs.size := Heap.lt_size hz
  refine drawB (j := 0) (hf := fun it l items x acc s Q E hit hl hx q1 => ?_) hb hv n ⟨h1, s.gens, s.drawn, s.toks, s.os⟩ #[] _ (Nat.zero_add n) I1 (fun h2 I2 z2 k2 => ?_)
  · refine wpAny_bind (wpAny_holding ?_)
    show wpAny _ _ (Builtin.SmallTypes.nextOf (.ref it) >>= _) _ _ _
    refine wpAny_bind (wpAny_nextOf_tuple_item hit hl hx fun h2 i2 s2 => wpAny_pure ?_)
    exact wpAny_pure (q1 h2 i2 s2)
  · dsimp only
    have eT : (#[] ++ ((List.range' 0 n).map val).toArray).toList = (List.range n).map val := by
      rw [List.range_eq_range']
      simp
    rw [eT]
    refine wpAny_bind (wpAny_newObj_type ?_ (by show ((List.range n).map val).toArray.size ≤ sizeLine; simp only [List.size_toArray, List.length_map, List.length_range]; exact Nat.le_trans hn1 (by decide)))
    have hsz2 : h2.objs.size = s.heap.objs.size := z2.trans hs1.1
    have hz2 : h2.get? (base + n + 2) = some (zipO (base + n) TO (rawInt (T : Nat)) (.bool true)) := (k2 _ (.inr (by omega))).trans hz1
    have kp : ∀ b, b < s.heap.objs.size → (h2.push (tupO ((List.range n).map val).toArray)).get? b = h2.get? b := fun b hb2 => Heap.get?_push_ne _ _ _ (by rw [hsz2]; exact ane (.inl hb2))
    refine wpAny_pure ⟨_, rfl, ?_⟩
    show Q (.ref h2.objs.size) _
    have tT : (h2.push (tupO ((List.range n).map val).toArray)).get? s.heap.objs.size = some (tupO ((List.range n).map val).toArray) := by
      rw [← hsz2]
      exact Heap.get?_push_size _ rfl
    rw [hsz2]
    refine q _ (I2.same hb fun b hb2 => kp b (by omega)) ((kp _ hlt).trans hz2) tT (by rw [Heap.size_push, hsz2]) fun b hb2 hb3 hb4 => (kp b hb2).trans ((k2 b hb3).trans (hs1.2 b (ane (by omega))))
/-- the first tuple is at its end -/
theorem zip_nextE {base n TO k : Nat} {T : Addr} {f1 : Bool} {tp : Nat → Addr} {rw : Nat → Array Value} {Q : PySem.Fin → Shared → Prop} (hh : A.handled = none) (hn : 0 < n)
    (hz : s.heap.get? (base + n + 2) = some (zipO (base + n) TO (rawInt (T : Nat)) (.bool f1))) (hTI : s.heap.get? (base + n) = some (tupO (refsFrom base n).toArray)) (hT : ∃ o, s.heap.get? T = some o)
    (hb : ∀ m, m < n → tp m < base) (hv : (rw 0)[k]? = none) (I : ItAt base n k tp rw 0 s.heap)
    (hE : ∀ h' e, (∀ b o, b ≠ base → b ≠ base + n + 2 → s.heap.get? b = some o → h'.get? b = some o) → (∃ o, h'.get? e = some o ∧ o.cls = .type "StopIteration") → E (.ref e) { s with heap := h' }) :
    wpAny (model prog w) A (Builtin.«zip.__next__» ⟨[.ref (base + n + 2 : Nat)], []⟩) Q E s := by
  obtain ⟨oT, hT⟩ := hT
  show wpAny _ _ (field (.ref (base + n + 2 : Nat)) 2 >>= _) _ _ _
  refine wpAny_bind (wpAny_field hz rfl (x := .bool false) rfl ?_)
  show wpAny _ _ (field (.ref (base + n + 2 : Nat)) 3 >>= _) _ _ _
  refine wpAny_bind (wpAny_field hz rfl (x := .ref (base + n : Nat)) rfl ?_)
  refine wpAny_bind (wpAny_seqItems hTI rfl ?_)
  dsimp only
  rw [if_neg (by rw [Array.isEmpty_iff_size_eq_zero, List.size_toArray, refsFrom_len]; omega)]
  refine wpAny_bind (held_zip hz hT fun h1 hz1 hs1 => ?_)
  rw [if_neg (by decide)]
  rw [List.forIn_toArray]
  have I1 : ItAt base n k tp rw 0 h1 := I.same hb fun b hb2 => hs1.2 b (ane (by omega))
  have i0 := I1.it 0 hn
  rw [if_neg (Nat.lt_irrefl _)] at i0
  obtain ⟨n', rfl⟩ : ∃ n', n = n' + 1 := ⟨n - 1, by omega⟩
  rw [refsFrom_cons, List.forIn_cons]
  refine wpAny_bind (wpAny_bind (wpAny_bind (wpAny_holding ?_)))
  show wpAny _ _ (Builtin.SmallTypes.nextOf (.ref base) >>= _) _ _ _
  refine wpAny_bind (wpAny_nextOf_tuple_end hh i0 (I1.tup 0 hn) hv fun h2 e k2 he => ?_)
  exact hE h2 e (fun b o hb1 hb2 hbo => k2 b o hb1 ((hs1.2 b hb2).trans hbo)) he
/-! ### the zip's state, with what was drawn -/
structure ZSt (h0 : Heap) (base n : Nat) (tp : Nat → Addr) (rw : Nat → Array Value) (col : Nat → List Value) (S : Nat) (i : Nat) (acc : Array Value) (h : Heap) : Prop where
  hS : base + n + 2 < S ∧ S < h.objs.size
  z : (i = 0 ∧ h.get? (base + n + 2) = some (zipO (base + n) (base + n + 1 : Nat) .none (.bool false))) ∨ (0 < i ∧ ∃ (T : Nat) (f1 : Bool), h.get? (base + n + 2) = some (zipO (base + n) (base + n + 1 : Nat) (rawInt T) (.bool f1)) ∧ S < T ∧ ∃ o, h.get? T = some o)
  TI : h.get? (base + n) = some (tupO (refsFrom base n).toArray)
  TO : i = 0 → ∃ kept : Array Value, kept.size = n ∧ h.get? (base + n + 1) = some (tupO kept)
  it : ItAt base n i tp rw 0 h
  inc : ∀ (j j' T T' : Nat), j < j' → j' < i → acc[j]? = some (Value.ref T) → acc[j']? = some (Value.ref T') → T < T'
  acc : acc.size = i ∧ ∀ j, j < i → ∃ T : Nat, acc[j]? = some (.ref T) ∧ S < T ∧ h.get? T = some (tupO (col j).toArray)
  old : ∀ b o, b < base → h0.get? b = some o → h.get? b = some o
theorem ZSt.upd {h0 : Heap} {base n : Nat} {tp : Nat → Addr} {rw : Nat → Array Value} {col : Nat → List Value} {S i : Nat} {acc : Array Value} {h h' : Heap} (Z : ZSt h0 base n tp rw col S i acc h) (hb : ∀ m, m < n → tp m < base) (hz : h'.objs.size = h.objs.size) (hk : ∀ b, b ≠ S → h'.get? b = h.get? b) : ZSt h0 base n tp rw col S i acc h' where
  hS := ⟨Z.hS.1, by rw [hz]; exact Z.hS.2⟩
  z := by
    have hS := Z.hS
    rcases Z.z with ⟨h1, h2⟩ | ⟨h1, T, f1, h2, h3, o, h4⟩
    · exact .inl ⟨h1, (hk _ (by omega)).trans h2⟩
    · exact .inr ⟨h1, T, f1, (hk _ (by omega)).trans h2, h3, o, (hk _ (by omega)).trans h4⟩
  TI := by
    have hS := Z.hS
    exact (hk _ (by omega)).trans Z.TI
  TO := fun e => by
    have hS := Z.hS
    obtain ⟨kept, h1, h2⟩ := Z.TO e
    exact ⟨kept, h1, (hk _ (by omega)).trans h2⟩
  it := Z.it.same hb fun b hb2 => hk b (by have := Z.hS; omega)
  acc := ⟨Z.acc.1, fun j hj => by
    obtain ⟨T, h1, h2, h3⟩ := Z.acc.2 j hj
    exact ⟨T, h1, h2, (hk _ (by omega)).trans h3⟩⟩
  inc := Z.inc
  old := fun b o hb2 e => (hk b (by have := Z.hS; omega)).trans (Z.old b o hb2 e)
/-- what is left at the end -/
structure ZEnd (h0 : Heap) (base m : Nat) (col : Nat → List Value) (acc : Array Value) (h : Heap) : Prop where
  inc : ∀ (j j' T T' : Nat), j < j' → j' < m → acc[j]? = some (Value.ref T) → acc[j']? = some (Value.ref T') → T < T'
  acc : acc.size = m ∧ ∀ j, j < m → ∃ T : Nat, acc[j]? = some (.ref T) ∧ base ≤ T ∧ h.get? T = some (tupO (col j).toArray)
  old : ∀ b o, b < base → h0.get? b = some o → h.get? b = some o
theorem zst_item {h0 : Heap} {base n m : Nat} {tp : Nat → Addr} {rw : Nat → Array Value} {col : Nat → List Value} {S i : Nat} {acc : Array Value} {Q : Option Value → Shared → Prop} (hn : 0 < n) (hn1 : n ≤ 1000) (hb : ∀ m, m < n → tp m < base)
    (hv : ∀ k, k < m → ∃ val : Nat → Value, col k = (List.range n).map val ∧ ∀ j, j < n → (rw j)[k]? = some (val j)) (hi : i < m) (Z : ZSt h0 base n tp rw col S i acc s.heap)
    (q : ∀ v h', ZSt h0 base n tp rw col S (i + 1) (acc.push v) h' → h'.get? S = s.heap.get? S → Q (some v) { s with heap := h' }) : wpAny (model prog w) A (pyNext (.ref (base + n + 2 : Nat))) Q E s := by
  obtain ⟨val, hcol, hval⟩ := hv i hi
  have hS := Z.hS
  have hT : s.TypeIs (.ref (base + n + 2 : Nat)) "zip" := by
    rcases Z.z with ⟨_, h2⟩ | ⟨_, T, f1, h2, _⟩
    · exact ⟨_, h2, rfl⟩
    · exact ⟨_, h2, rfl⟩
  unfold pyNext
  refine wpAny_bind (wpAny_attempt (wpAny_callSpecial?_slot (name := Str.ofString "__next__") hT F.slot_zip_next (wpAny_call_entry F.slot_zip_next hT F.entry_zip_next ?_ (F.args_zip_next_1 _))))
  have fin : ∀ (T0 : Nat) (f1 : Bool) (h' : Heap), S < T0 → (∃ o, h'.get? T0 = some o) → ItAt base n i tp rw n h' → h'.get? (base + n + 2) = some (zipO (base + n) (base + n + 1 : Nat) (rawInt (T0 : Nat)) (.bool f1)) → h'.get? s.heap.objs.size = some (tupO ((List.range n).map val).toArray) → h'.objs.size = s.heap.objs.size + 1 →
      (∀ b, b < s.heap.objs.size → (b < base ∨ base + n ≤ b) → b ≠ base + n + 1 → b ≠ base + n + 2 → h'.get? b = s.heap.get? b) → Q (some (.ref s.heap.objs.size)) { s with heap := h' } := fun T0 f1 h' ht ho I' hz' hT' hsz' hk => by
    refine q _ h' ⟨⟨hS.1, by rw [hsz']; exact Nat.lt_succ_of_lt hS.2⟩, .inr ⟨Nat.succ_pos _, T0, f1, hz', ht, ho⟩, ?_, fun e => absurd e (Nat.succ_ne_zero _), I'.next, fun j j' T1 T2 hj hj2 e1 e2 => ?_, ⟨?_, fun j hj => ?_⟩, fun b o hb2 e => ?_⟩ (hk _ hS.2 (.inr (by omega)) (by omega) (by omega))
    · exact (hk _ (by omega) (.inr (Nat.le_refl _)) (by omega) (by omega)).trans Z.TI
    · have hj3 : j < i := by omega
      obtain ⟨T, h1, h2, h3⟩ := Z.acc.2 j hj3
      have pl : ∀ x, x < i → (acc.push (Value.ref s.heap.objs.size))[x]? = acc[x]? := fun x hx => by rw [Array.getElem?_push_lt (by rw [Z.acc.1]; omega), Array.getElem?_eq_getElem (by rw [Z.acc.1]; omega)]
      rw [pl j hj3] at e1
      by_cases e : j' = i
      · subst e
        rw [show j' = acc.size from Z.acc.1.symm, Array.getElem?_push_size] at e2
        rw [h1] at e1
        cases e1
        cases e2
        exact Heap.lt_size h3
      · rw [pl j' (by omega)] at e2
        exact Z.inc j j' T1 T2 hj (by omega) e1 e2
    · rw [Array.size_push, Z.acc.1]
    · by_cases e : j = i
      · refine ⟨s.heap.objs.size, ?_, hS.2, ?_⟩
        · rw [e, ← Z.acc.1]
          exact Array.getElem?_push_size
        · rw [e, hcol]
          exact hT'
      · obtain ⟨T, h1, h2, h3⟩ := Z.acc.2 j (by omega)
        refine ⟨T, ?_, h2, (hk _ (Heap.lt_size h3) (.inr (by omega)) (by omega) (by omega)).trans h3⟩
        rw [Array.getElem?_push_lt (by rw [Z.acc.1]; omega)]
        rw [Array.getElem?_eq_getElem (by rw [Z.acc.1]; omega)] at h1
        exact h1
    · exact (hk b (by omega) (.inl hb2) (by omega) (by omega)).trans (Z.old b o hb2 e)
  rcases Z.z with ⟨h1, h2⟩ | ⟨h1, T, f1, h2, h3, o, h4⟩
  · subst h1
    obtain ⟨kept, hk1, hk2⟩ := Z.TO rfl
    refine zip_nextA hn hn1 rfl h2 Z.TI hk2 hk1 hb hval Z.it fun h' I' hz' hT' hsz' hk => wpAny_pure ?_
    exact fin s.heap.objs.size false h' hS.2 ⟨_, hT'⟩ I' hz' hT' hsz' hk
  · refine zip_nextB hn hn1 h2 Z.TI ⟨o, h4⟩ hb hval Z.it fun h' I' hz' hT' hsz' hk => wpAny_pure ?_
    exact fin T true h' h3 ⟨o, (hk _ (Heap.lt_size h4) (.inr (by omega)) (by omega)).trans h4⟩ I' hz' hT' hsz' fun b hb1 hb2 _ hb4 => hk b hb1 hb2 hb4
theorem zst_done {h0 : Heap} {base n m : Nat} {tp : Nat → Addr} {rw : Nat → Array Value} {col : Nat → List Value} {S : Nat} {acc : Array Value} {Q : Option Value → Shared → Prop} (hh : A.handled = none) (hn : 0 < n) (hm : 0 < m) (hb : ∀ m, m < n → tp m < base) (hv : (rw 0)[m]? = none) (Z : ZSt h0 base n tp rw col S m acc s.heap)
    (q : ∀ h', ZEnd h0 base m col acc h' → (∀ o, s.heap.get? S = some o → h'.get? S = some o) → Q none { s with heap := h' }) : wpAny (model prog w) A (pyNext (.ref (base + n + 2 : Nat))) Q E s := by
  have hS := Z.hS
  rcases Z.z with ⟨h1, _⟩ | ⟨h1, T, f1, h2, h3, o, h4⟩
  · omega
  have hT : s.TypeIs (.ref (base + n + 2 : Nat)) "zip" := ⟨_, h2, rfl⟩
  unfold pyNext
  refine wpAny_bind (wpAny_attempt (wpAny_callSpecial?_slot (name := Str.ofString "__next__") hT F.slot_zip_next (wpAny_call_entry F.slot_zip_next hT F.entry_zip_next ?_ (F.args_zip_next_1 _))))
  refine zip_nextE hh hn h2 Z.TI ⟨o, h4⟩ hb hv Z.it fun h' e hk he => ?_
  obtain ⟨oe, hoe, hce⟩ := he
  refine wpAny_bind (wpAny_isInstance (T := "StopIteration") (b := true) ⟨oe, hoe, hce⟩ isSubtype_stop ?_)
  refine wpAny_pure (q h' ⟨Z.inc, ⟨Z.acc.1, fun j hj => ?_⟩, fun b o hb2 e => hk b o (ane (by omega)) (ane (by omega)) (Z.old b o hb2 e)⟩ fun o e => hk S o (ane (by omega)) (ane (by omega)) e)
  obtain ⟨T', h5, h6, h7⟩ := Z.acc.2 j hj
  exact ⟨T', h5, by omega, hk T' _ (ane (by omega)) (ane (by omega)) h7⟩
end
end Qz

/-! Q25: tuple(zip(*rows)): collected, and as a rule. -/
namespace Qz
open PySem PySem.Spec PyProof.Rows
theorem zip_nolen : typeLookup (.type "zip") "__len__" = pure none := by rw [typeLookup_type, builtinLookup_eq_fast]; kernel_rfl
theorem zip_nohint : typeLookup (.type "zip") "__length_hint__" = pure none := by rw [typeLookup_type, builtinLookup_eq_fast]; kernel_rfl
theorem zip_c2 (a b : Value) : checkBuiltinCall "zip.__new__" ⟨[.type "zip", a, b], []⟩ = pure () := by kernel_rfl
theorem zip_c4 (a b c d : Value) : checkBuiltinCall "zip.__new__" ⟨[.type "zip", a, b, c, d], []⟩ = pure () := by kernel_rfl
theorem zip_c8 (a b c d e f g h : Value) : checkBuiltinCall "zip.__new__" ⟨[.type "zip", a, b, c, d, e, f, g, h], []⟩ = pure () := by kernel_rfl
theorem zip_ct (us : List Value) : checkTypeCall "zip" ⟨us, []⟩ = pure () := by kernel_rfl
theorem zip_oi (obj : Value) (us : List Value) : argsOk "object.__init__" ⟨obj :: us, []⟩ := by unfold argsOk; kernel_rfl
section
variable {prog : Program} {w : World} {A : Around} {E : Value → Shared → Prop} {s : Shared}
/-- the loop that collects, the things collected known -/
theorem ext_acc {R : Result → Shared → Prop} {I S : Addr} {n : Nat} {St : Nat → Array Value → Heap → Prop} {Fi : Array Value → Heap → Prop} {res : Value} (hn : n ≤ sizeLine)
    (upd : ∀ i acc h h', St i acc h → h'.objs.size = h.objs.size → (∀ b, b ≠ S → h'.get? b = h.get? b) → St i acc h')
    (item : ∀ i acc (s : Shared) (Q : Option Value → Shared → Prop) (E : Value → Shared → Prop), i < n → St i acc s.heap → (∀ v h', St (i + 1) (acc.push v) h' → h'.get? S = s.heap.get? S → Q (some v) { s with heap := h' }) → wpAny (model prog w) A.in1 (pyNext (.ref I)) Q E s)
    (done : ∀ acc (s : Shared) (Q : Option Value → Shared → Prop) (E : Value → Shared → Prop), St n acc s.heap → (∀ h', Fi acc h' → (∀ o, s.heap.get? S = some o → h'.get? S = some o) → Q none { s with heap := h' }) → wpAny (model prog w) A.in1 (pyNext (.ref I)) Q E s) :
    ∀ (k i : Nat) (s : Shared) (acc : Array Value) (c : Nat), n - i = k → i ≤ n → acc.size = i → St i acc s.heap → s.heap.get? S = some (lstO acc c) →
      (∀ h' acc' c', acc'.size = n → Fi acc' h' → h'.get? S = some (lstO acc' c') → R (.ok (.ret res)) { s with heap := h' }) →
      codeAny (model prog w) A (.builtin "list.extend.loop" ⟨[.ref S, .ref I, res], []⟩) R s := by
  intro k
  induction k with
  | zero =>
    intro i s acc c hk hi hz hst hS q
    obtain rfl : i = n := by omega
    refine codeAny_builtin F.entry_extend_loop ?_
    rw [Around.under_plainId F.plain_extend_loop _]
    show wpAny _ A.in1 (pyNext (.ref I) >>= _) _ _ s
    exact wpAny_bind (done acc s _ _ hst fun h' hf hk' => wpAny_pure (q h' acc c hz hf (hk' _ hS)))
  | succ k ih =>
    intro i s acc c hk hi hz hst hS q
    have hlt : i < n := by omega
    refine codeAny_builtin F.entry_extend_loop ?_
    rw [Around.under_plainId F.plain_extend_loop _]
    show wpAny _ A.in1 (pyNext (.ref I) >>= _) _ _ s
    refine wpAny_bind (item i acc s _ _ hlt hst fun v h' hst' hk' => ?_)
    have hS' : h'.get? S = some (lstO acc c) := hk'.trans hS
    show wpAny _ A.in1 (updateSeq S (·.push v) >>= _) _ _ _
    have sb : Heap.SameBut S h' (h'.update S (Obj.mapSeq (·.push v))) := Heap.SameBut.update ..
    refine wpAny_bind (wpAny_updateSeq hS' rfl (wpAny_pure ⟨plainId_quiet F.plain_extend_loop _, ih (i + 1) _ (acc.push v) _ (by omega) hlt (by rw [Array.size_push, hz]) (upd _ _ h' _ hst' sb.1 fun b hb => sb.2 b hb) (Heap.get?_update_self _ hS' rfl) fun h2 acc2 c2 z2 f2 s2 => q h2 acc2 c2 z2 f2 s2⟩) (by rw [hz]; omega) (by show (acc.push v).size ≤ sizeLine + 1; rw [Array.size_push, hz]; omega))
/-- collect of the zip that was just made -/
theorem collect_zip {h0 : Heap} {base n m : Nat} {tp : Nat → Addr} {rw : Nat → Array Value} {col : Nat → List Value} {Q : List Value → Shared → Prop} (hh : A.handled = none) (hn : 0 < n) (hn1 : n ≤ 1000) (hm : 0 < m) (hm1 : m ≤ 1000) (hb : ∀ m, m < n → tp m < base)
    (hv : ∀ k, k < m → ∃ val : Nat → Value, col k = (List.range n).map val ∧ ∀ j, j < n → (rw j)[k]? = some (val j)) (he : (rw 0)[m]? = none)
    (hz : s.heap.get? (base + n + 2) = some (zipO (base + n) (base + n + 1 : Nat) .none (.bool false))) (hTI : s.heap.get? (base + n) = some (tupO (refsFrom base n).toArray)) (hTO : ∃ kept : Array Value, kept.size = n ∧ s.heap.get? (base + n + 1) = some (tupO kept)) (hit : ItAt base n 0 tp rw 0 s.heap)
    (hold : ∀ b o, b < base → h0.get? b = some o → s.heap.get? b = some o)
    (q : ∀ h' acc, ZEnd h0 base m col acc h' → Q acc.toList { s with heap := h' }) : wpAny (model prog w) A (collect (.ref (base + n + 2 : Nat))) Q E s := by
  have hlt : base + n + 2 < s.heap.objs.size := Heap.lt_size hz
  have hT : s.TypeIs (.ref (base + n + 2 : Nat)) "zip" := ⟨_, hz, rfl⟩
  unfold collect
  refine wpAny_bind (wpAny_runValue (codeAny_builtin F.entry_proto_collect ?_))
  rw [Around.under_plainId F.plain_proto_collect _]
  show wpAny _ A.in1 (newList [] >>= fun l' => again (.builtin "list.__iadd__" ⟨[l', .ref (base + n + 2 : Nat)], []⟩)) _ _ s
  refine wpAny_bind (wpAny_newObj_type ?_)
  refine wpAny_pure ⟨plainId_quiet F.plain_list_iadd _, codeAny_builtin F.entry_list_iadd ?_⟩
  rw [Around.under_plainId F.plain_list_iadd _]
  have k1 : ∀ b o, s.heap.get? b = some o → (s.heap.push (lstO #[] 0)).get? b = some o := fun b o e => Heap.get?_push_of_some _ e
  have k1' : ∀ b, b < s.heap.objs.size → (s.heap.push (lstO #[] 0)).get? b = s.heap.get? b := fun b hb2 => Heap.get?_push_ne _ _ _ (ane (.inl hb2))
  show wpAny _ A.in1 (Builtin.List.listExtendWith (.ref s.heap.objs.size) (.ref (base + n + 2 : Nat)) (.ref s.heap.objs.size)) _ _ ⟨s.heap.push (lstO #[] 0), s.gens, s.drawn, s.toks, s.os⟩
  have hT1 : Shared.TypeIs ⟨s.heap.push (lstO #[] 0), s.gens, s.drawn, s.toks, s.os⟩ (.ref (base + n + 2 : Nat)) "zip" := ⟨_, k1 _ _ hz, rfl⟩
  unfold Builtin.List.listExtendWith
  refine wpAny_bind (wpAny_typeOf hT1 ?_)
  have h1 : Builtin.List.listSameRef (.ref s.heap.objs.size) (.ref (base + n + 2 : Nat)) = false := by
    simp only [Builtin.List.listSameRef]
    rw [beq_eq_false_iff_ne]
    exact ane (.inr hlt)
  rw [if_neg (by rw [h1]; decide)]
  refine wpAny_bind (wpAny_pyIter_zip (k1 _ _ hz) ?_)
  refine wpAny_bind (wpAny_holding ?_)
  unfold Builtin.List.listLengthHint
  refine wpAny_bind (wpAny_specialOf hT1 zip_nolen ?_)
  show wpAny _ A.in1 (specialOf (Value.ref (base + n + 2 : Nat)) (Str.ofString "__length_hint__") >>= _) _ _ _
  refine wpAny_bind (wpAny_specialOf hT1 zip_nohint ?_)
  refine wpAny_pure ?_
  show wpAny _ A.in1 (rule "list.extend.makes-room" >>= fun _ => Builtin.List.listTouch (.ref s.heap.objs.size) >>= fun _ => again (.builtin "list.extend.loop" ⟨[.ref s.heap.objs.size, .ref (base + n + 2 : Nat), .ref s.heap.objs.size], []⟩)) _ _ _
  refine wpAny_bind (wpAny_rule ?_)
  have g1 : (s.heap.push (lstO #[] 0)).get? s.heap.objs.size = some (lstO #[] 0) := Heap.get?_push_size _ rfl
  refine wpAny_bind ?_
  show wpAny _ A.in1 (updateSeq s.heap.objs.size (·.push .none) >>= fun _ => updateSeq s.heap.objs.size (·.pop)) _ _ _
  refine wpAny_bind (wpAny_updateSeq g1 rfl ?_)
  have g2 := Heap.get?_update_self (Obj.mapSeq (·.push Value.none)) g1 rfl
  refine wpAny_updateSeq g2 rfl ?_
  have g3 := Heap.get?_update_self (Obj.mapSeq (·.pop)) g2 rfl
  have sb1 : Heap.SameBut s.heap.objs.size (s.heap.push (lstO #[] 0)) ((s.heap.push (lstO #[] 0)).update s.heap.objs.size (Obj.mapSeq (·.push Value.none))) := Heap.SameBut.update ..
  have sb2 : Heap.SameBut s.heap.objs.size ((s.heap.push (lstO #[] 0)).update s.heap.objs.size (Obj.mapSeq (·.push Value.none))) (((s.heap.push (lstO #[] 0)).update s.heap.objs.size (Obj.mapSeq (·.push Value.none))).update s.heap.objs.size (Obj.mapSeq (·.pop))) := Heap.SameBut.update ..
  generalize hh2 : ((s.heap.push (lstO #[] 0)).update s.heap.objs.size (Obj.mapSeq (·.push Value.none))).update s.heap.objs.size (Obj.mapSeq (·.pop)) = h2 at *
  have kk : ∀ b, b < s.heap.objs.size → h2.get? b = s.heap.get? b := fun b hb2 => (sb2.2 b (ane (.inl hb2))).trans ((sb1.2 b (ane (.inl hb2))).trans (k1' b hb2))
  have z2 : h2.objs.size = s.heap.objs.size + 1 := by rw [sb2.1, sb1.1, Heap.size_push]
  obtain ⟨kept, hk1, hk2⟩ := hTO
  have Z0 : ZSt h0 base n tp rw col s.heap.objs.size 0 #[] h2 := ⟨⟨hlt, by omega⟩, .inl ⟨rfl, (kk _ hlt).trans hz⟩, (kk _ (by omega)).trans hTI, fun _ => ⟨kept, hk1, (kk _ (by omega)).trans hk2⟩, hit.same hb fun b hb2 => kk b (by omega), fun j j' _ _ _ hj => absurd hj (Nat.not_lt_zero _), ⟨rfl, fun j hj => absurd hj (Nat.not_lt_zero _)⟩, fun b o hb2 e => (kk b (by omega)).trans (hold b o hb2 e)⟩
  have hin : A.in1.handled = none := hh
  refine wpAny_pure ⟨plainId_quiet F.plain_extend_loop _, ext_acc (A := A) (n := m) (St := ZSt h0 base n tp rw col s.heap.objs.size) (Fi := ZEnd h0 base m col) (Nat.le_trans hm1 (by decide)) (fun i acc h h' Z e1 e2 => Z.upd hb e1 e2) (fun i acc s' Q E hi Z q => zst_item hn hn1 hb hv hi Z q) (fun acc s' Q E Z q => zst_done hin hn hm hb he Z q) m 0 _ #[] _ (Nat.sub_zero m) (Nat.zero_le _) rfl Z0 g3 fun h' acc' c' hz' hf hS' => ?_⟩
  show wpAny _ A (load s.heap.objs.size >>= _) _ _ _
  refine wpAny_bind (wpAny_load hS' ?_)
  exact wpAny_pure (q h' acc' hf)
end
end Qz

/-! Q26: tuple(zip(*rows)) as an expression. -/
namespace Qz
open PySem PySem.Spec PyProof.Rows L2 Qp
section
variable {prog : Program} {w : World} {A : Around} {E : Value → Shared → Prop} {s : Shared}
/-- what stands when a zip was just made -/
structure ZNew (h0 : Heap) (base n m : Nat) (tp : Nat → Addr) (rw : Nat → Array Value) (col : Nat → List Value) (h : Heap) : Prop where
  n0 : 0 < n ∧ n ≤ 1000
  m0 : 0 < m ∧ m ≤ 1000
  hb : ∀ m, m < n → tp m < base
  hv : ∀ k, k < m → ∃ val : Nat → Value, col k = (List.range n).map val ∧ ∀ j, j < n → (rw j)[k]? = some (val j)
  he : (rw 0)[m]? = none
  z : h.get? (base + n + 2) = some (zipO (base + n) (base + n + 1 : Nat) .none (.bool false))
  TI : h.get? (base + n) = some (tupO (refsFrom base n).toArray)
  TO : ∃ kept : Array Value, kept.size = n ∧ h.get? (base + n + 1) = some (tupO kept)
  it : ItAt base n 0 tp rw 0 h
  old : ∀ b o, b < base → h0.get? b = some o → h.get? b = some o
theorem tuple_of_zip {h0 : Heap} {base n m : Nat} {tp : Nat → Addr} {rw : Nat → Array Value} {col : Nat → List Value} {Q : Value → Shared → Prop} (hh : A.handled = none) (Z : ZNew h0 base n m tp rw col s.heap)
    (q : ∀ h' acc, ZEnd h0 base m col acc h' → Q (.ref h'.objs.size) { s with heap := h'.push (tupO acc) }) : wpAny (model prog w) A (call (.type "tuple") [.ref (base + n + 2 : Nat)]) Q E s := by
  have code : codeAny (model prog w) A.in1 (.call (.builtin "tuple.__new__") ⟨[.type "tuple", .ref (base + n + 2 : Nat)], []⟩) (wants (fun obj s₁ => s₁.TypeIs obj "tuple" ∧ Q obj s₁) E) s := by
    refine codeAny_of_tree ?_
    show wpAny _ A.in1.in1 (do checkBuiltinCall "tuple.__new__" ⟨[.type "tuple", .ref (base + n + 2 : Nat)], []⟩; again (.builtin "tuple.__new__" ⟨[.type "tuple", .ref (base + n + 2 : Nat)], []⟩)) _ _ s
    refine wpAny_bind (wpAny_of_eq (F.newCall_tuple_1 _) (wpAny_pure ⟨plainId_quiet F.plain_tuple_new _, codeAny_builtin F.entry_tuple_new ?_⟩))
    rw [Around.under_plainId F.plain_tuple_new _]
    have f1 := sub_tuple_self
    have f2 := init_tuple_lookup
    have f3 := madeHere_tuple
    have hTI : s.TypeIs (.ref (base + n + 2 : Nat)) "zip" := ⟨_, Z.z, rfl⟩
    have hin : A.in1.in1.handled = none := hh
    wp_walk using wpAny_typeOf hTI, collect_zip (A := A.in1.in1) hin Z.n0.1 Z.n0.2 Z.m0.1 Z.m0.2 Z.hb Z.hv Z.he Z.z Z.TI Z.TO Z.it Z.old
    intro h' acc hacc
    show wpAny _ _ (Builtin.Tuple.tupleExact acc.toList.toArray >>= fun v => ret v) _ _ _
    unfold Builtin.Tuple.tupleExact
    have e : acc.toList.toArray = acc := by simp
    rw [e]
    refine wpAny_bind (wpAny_newObj_type ?_ (by show acc.size ≤ sizeLine; rw [hacc.acc.1]; exact Nat.le_trans Z.m0.2 (by decide)))
    exact wpAny_pure ⟨⟨_, Heap.get?_push_size _ rfl, rfl⟩, q h' acc hacc⟩
  refine callType_codes (Q₁ := fun obj s₁ => s₁.TypeIs obj "tuple" ∧ Q obj s₁) F.called_tuple (F.typeCall_tuple_1 _) F.entry_object_init code fun obj s₁ h₁ => ?_
  exact ⟨h₁.1, F.args_object_init_2 obj _, object_init_meets F.called_tuple.init.lookup F.called_tuple.made (by decide) prog w A.in1 _ s₁ ⟨h₁.1, rfl, h₁.2⟩⟩
theorem zip_chk : ∀ {us : List Value}, us.length = 2 ∨ us.length = 4 ∨ us.length = 8 → checkBuiltinCall "zip.__new__" ⟨.type "zip" :: us, []⟩ = pure ()
  | [a, b], _ => zip_c2 a b
  | [a, b, c, d], _ => zip_c4 a b c d
  | [a, b, c, d, e, f, g, h], _ => zip_c8 a b c d e f g h
  | [], h => by simp at h
  | [_], h => by simp at h
  | [_, _, _], h => by simp at h
  | [_, _, _, _, _], h => by simp at h
  | [_, _, _, _, _, _], h => by simp at h
  | [_, _, _, _, _, _, _], h => by simp at h
  | _ :: _ :: _ :: _ :: _ :: _ :: _ :: _ :: _ :: _, h => by simp at h
theorem call_zipN {ts : List Addr} {m : Nat} {rw : Nat → Array Value} {col : Nat → List Value} {Q : Value → Shared → Prop} (hl : ts.length = 2 ∨ ts.length = 4 ∨ ts.length = 8) (ht : ∀ j t, ts[j]? = some t → s.heap.IsTuple t (rw j)) (hm : 0 < m ∧ m ≤ 1000)
    (hv : ∀ k, k < m → ∃ val : Nat → Value, col k = (List.range ts.length).map val ∧ ∀ j, j < ts.length → (rw j)[k]? = some (val j)) (he : (rw 0)[m]? = none)
    (q : ∀ h', ZNew s.heap s.heap.objs.size ts.length m (fun j => ts.getD j 0) rw col h' → (∀ b o, s.heap.get? b = some o → h'.get? b = some o) → Q (.ref (s.heap.objs.size + ts.length + 2 : Nat)) { s with heap := h' }) :
    wpAny (model prog w) A (call (.type "zip") (ts.map fun t => Value.ref t)) Q E s := by
  have hn1 : ts.length ≤ 1000 := by omega
  have g0 : ∀ t ∈ ts, ∃ items, s.heap.IsTuple t items := fun t h => by
    obtain ⟨j, hj, e⟩ := List.getElem_of_mem h
    exact ⟨rw j, ht j t (by rw [← e]; exact List.getElem?_eq_getElem hj)⟩
  have mz : Meets (Builtin.«zip.__new__» ⟨.type "zip" :: ts.map fun t => Value.ref t, []⟩) (fun _ R s => (∀ t ∈ ts, ∃ items, s.heap.IsTuple t items) ∧ R (.ok (.ret (.ref (s.heap.objs.size + ts.length + 2 : Nat)))) { s with heap := zipH s.heap ts }) :=
    .of_wp fun prog w A R s h => zip_new h.1 hn1 ⟨_, rfl, h.2⟩
  refine callType_new F.called_zip (by decide) (zip_ct _) (zip_chk (by rw [List.length_map]; exact hl)) (fun obj => zip_oi obj _) F.entry_zip_new mz ⟨g0, ?_⟩
  have z1 : (pushIts s.heap ts).objs.size = s.heap.objs.size + ts.length := pushIts_size _ _
  have z2 : ((pushIts s.heap ts).push (tupO (refsFrom s.heap.objs.size ts.length).toArray)).objs.size = s.heap.objs.size + ts.length + 1 := by rw [Heap.size_push, z1]
  have z3 : (((pushIts s.heap ts).push (tupO (refsFrom s.heap.objs.size ts.length).toArray)).push (tupO ((refsFrom s.heap.objs.size ts.length).map fun _ => Value.none).toArray)).objs.size = s.heap.objs.size + ts.length + 2 := by rw [Heap.size_push, z2]
  have kA : ∀ b o, (pushIts s.heap ts).get? b = some o → (zipH s.heap ts).get? b = some o := fun b o e => Heap.get?_push_of_some _ (Heap.get?_push_of_some _ (Heap.get?_push_of_some _ e))
  have kp : ∀ b o, s.heap.get? b = some o → (zipH s.heap ts).get? b = some o := fun b o e => kA b o (pushIts_keep ts s.heap b o e)
  have zz : (zipH s.heap ts).get? (s.heap.objs.size + ts.length + 2) = some (zipO (s.heap.objs.size + ts.length) (s.heap.objs.size + ts.length + 1 : Nat) .none (.bool false)) := by
    unfold zipH
    rw [← z3]
    exact Heap.get?_push_size _ rfl
  have zt : (zipH s.heap ts).get? (s.heap.objs.size + ts.length + 1) = some (tupO ((refsFrom s.heap.objs.size ts.length).map fun _ => Value.none).toArray) := by
    unfold zipH
    refine Heap.get?_push_of_some _ ?_
    rw [← z2]
    exact Heap.get?_push_size _ rfl
  have zi : (zipH s.heap ts).get? (s.heap.objs.size + ts.length) = some (tupO (refsFrom s.heap.objs.size ts.length).toArray) := by
    unfold zipH
    refine Heap.get?_push_of_some _ (Heap.get?_push_of_some _ ?_)
    rw [← z1]
    exact Heap.get?_push_size _ rfl
  have tg : ∀ j, j < ts.length → ts[j]? = some (ts.getD j 0) := fun j hj => by rw [List.getD_eq_getElem?_getD, List.getElem?_eq_getElem hj]; rfl
  refine ⟨⟨_, zz, rfl⟩, q _ ⟨⟨by omega, hn1⟩, hm, fun j hj => ?_, hv, he, zz, zi, ⟨_, by rw [List.size_toArray, List.length_map, refsFrom_len], zt⟩, ⟨fun j hj => ?_, fun j hj => ?_⟩, fun b o hb e => kp b o e⟩ kp⟩
  · obtain ⟨o, e, _⟩ := ht j _ (tg j hj)
    exact Heap.lt_size e
  · rw [if_neg (Nat.not_lt_zero _)]
    exact ⟨_, kA _ _ (pushIts_at ts s.heap j _ (tg j hj)), rfl, rfl⟩
  · exact (ht j _ (tg j hj)).at fun o e => kp _ _ e
end
/-- a heap with more things in it, those new ones known -/
theorem inv_grown {X : Cx} {pins : List (Addr × Obj)} {σ : L2.St} {H H' : Hp} {s : Shared} {h' : Heap} {t' : Nat} (I : Inv X pins σ H s) (k : ∀ b u, s.heap.get? b = some u → h'.get? b = some u) (g : ∀ b u, H b = some u → H' b = some u) (f : ∀ b u, s.heap.get? b = some u → H b = none → H' b = none)
    (n : ∀ b u, H' b = some u → H b = none → ObjOk X.prog X.w H' h' b u) : Inv X pins σ H' { s with heap := h', toks := t' } := by
  refine I.un ⟨fun b u q _ _ _ => k b u q, fun b u q _ _ _ => ⟨u.slots, k b u q⟩, fun b u q z _ => f b u q z, fun b u q _ => ⟨u, k b u q⟩, fun b xs q => g b _ q, fun b u xs q => g b _ q, fun b ps q => ⟨#[], by rw [g b _ q]; simp⟩⟩ fun b u e => ?_
  cases q : H b with
  | none => exact n b u e q
  | some v =>
    have z := g b v q
    rw [e] at z
    cases z
    exact (I.hok b u q).stay (fun c v _ q => k c v q) (fun c q => g c _ q) fun c xs q => g c _ q
/-- the columns laid as new tuples, and a tuple of these -/
structure ZRes (H1 : Hp) (cols : List (List V)) (H2 : Hp) (r : Addr) : Prop where
  keep : ∀ b u, H1 b = some u → H2 b = some u
  ex : ∃ Ts : List Addr, Ts.length = cols.length ∧ H1 r = none ∧ H2 r = some (.tup (Ts.map V.ref)) ∧ (∀ (j : Nat) T c, Ts[j]? = some T → cols[j]? = some c → H1 T = none ∧ H2 T = some (.tup c)) ∧ (∀ b u, H2 b = some u → H1 b = none → NoTb u)
def colsOf (m : Nat) (rws : List (List V)) : List (List V) := (List.range m).map fun k => rws.map fun xs => xs.getD k .non
def tZip (K : Fg) (te : TE) : TE := fun σ H Q => te σ H fun v H1 => ∃ (p : Addr) (ps : List Addr) (rws : List (List V)) (m : Nat), v = .ref p ∧ SqT K H1 p (ps.map V.ref) ∧ (ps.length = 2 ∨ ps.length = 4 ∨ ps.length = 8) ∧ rws.length = ps.length ∧
  (∀ (i : Nat) q xs, ps[i]? = some q → rws[i]? = some xs → SqT K H1 q xs ∧ xs.length = m) ∧ 0 < m ∧ m ≤ 1000 ∧ ∀ H2 r, ZRes H1 (colsOf m rws) H2 r → Q (.ref r) H2
theorem vals_refs : ∀ {ps : List Addr} {us : List Value}, Vals (ps.map V.ref) us → us = ps.map fun t => Value.ref t
  | [], _, .nil => rfl
  | p :: ps, _, .cons r rr => by
    cases r
    rw [vals_refs rr]
    rfl
theorem vals_map {α : Type} {f : α → V} {g : α → Value} (h : ∀ x, RelV (f x) (g x)) : ∀ l : List α, Vals (l.map f) (l.map g)
  | [] => .nil
  | x :: l => .cons (h x) (vals_map h l)
theorem vals_maps {α : Type} {f : α → V} {g : α → Value} : ∀ l : List α, (∀ x ∈ l, RelV (f x) (g x)) → Vals (l.map f) (l.map g)
  | [], _ => .nil
  | x :: l, h => .cons (h x List.mem_cons_self) (vals_maps l fun y hy => h y (List.mem_cons_of_mem _ hy))
section
variable {X : Cx} {a : Expr} {te : TE} {p1 p2 pos pos2 sp : Pos}
theorem pe_zip (hgT : Gl X "tuple") (hmT : X.mg "tuple" = none) (hgZ : Gl X "zip") (hmZ : X.mg "zip" = none) (hc : X.calm = true) (ha : PE X a te) :
    PE X (.Call (.Name "tuple" p1) [.Call (.Name "zip" p2) [.Starred a sp] [] pos2] [] pos) (tZip X.K te) := by
  refine ⟨fun pins s σ H Q I h => ?_⟩
  refine wpAny_Call_Name_kw (ld_blt I hgT hmT PyProof.Rows.boot_tuple (PyProof.Rows.callWith_type1 ?_ rfl rfl))
  refine Calls.spliced_cons ?_
  refine wpAny_Call_Name_kw (ld_blt I hgZ hmZ PyProof.Rows.boot_zip ?_)
  refine PySem.W.ks_call (P := fun _ => True) rfl (fun h _ => ⟨.machine, .inr (.inl rfl), PySem.W.Looks.of_pure rfl⟩) ?_
  refine PySem.W.ks_lone (thn (ha.run pins s σ H _ I h) fun v s1 ⟨y, H1, I1, ry, p, ps, rws, m, ey, hp, hl, hrl, hrw, hm0, hm1, q⟩ => ?_)
  subst ey
  obtain rfl : v = Value.ref p := ry
  refine star_tup I1 hp fun us s2 I2 rv => ⟨trivial, ?_⟩
  obtain rfl := vals_refs rv
  -- the rows as the model has them
  have rowAt : ∀ i, i < ps.length → ∃ its : List Value, Vals (rws.getD i []) its ∧ s2.heap.IsTuple (ps.getD i 0) its.toArray ∧ (rws.getD i []).length = m := fun i hi => by
    obtain ⟨sq, hlen⟩ := hrw i (ps.getD i 0) (rws.getD i []) (by rw [List.getD_eq_getElem?_getD, List.getElem?_eq_getElem hi]; rfl) (by rw [List.getD_eq_getElem?_getD, List.getElem?_eq_getElem (by omega)]; rfl)
    obtain ⟨its, rv, pt, _⟩ := I2.tuple sq
    exact ⟨its, rv, pt, hlen⟩
  have hf : ∃ f : Nat → List Value, ∀ i, i < ps.length → Vals (rws.getD i []) (f i) ∧ s2.heap.IsTuple (ps.getD i 0) (f i).toArray ∧ (rws.getD i []).length = m :=
    ⟨fun i => if h : i < ps.length then Classical.choose (rowAt i h) else [], fun i hi => by
      dsimp only
      rw [dif_pos hi]
      exact Classical.choose_spec (rowAt i hi)⟩
  obtain ⟨f, hf⟩ := hf
  have fl : ∀ i, i < ps.length → (f i).length = m := fun i hi => by rw [← (hf i hi).1.length]; exact (hf i hi).2.2
  have gD : ∀ (l : List Value) (k : Nat), k < l.length → l[k]? = some (l.getD k .none) := fun l k hk => by rw [List.getD_eq_getElem?_getD, List.getElem?_eq_getElem hk]; rfl
  have h0 : 0 < ps.length := by omega
  refine call_zipN (ts := ps) (m := m) (rw := fun j => (f j).toArray) (col := fun k => (List.range ps.length).map fun j => (f j).getD k .none) hl (fun j t e => ?_) ⟨hm0, hm1⟩ (fun k hk => ⟨_, rfl, fun j hj => ?_⟩) ?_ fun h1 Z kp => ?_
  · have hj := (List.getElem?_eq_some_iff.mp e).1
    have z := (hf j hj).2.1
    rw [List.getD_eq_getElem?_getD, e] at z
    exact z
  · show (f j).toArray[k]? = _
    rw [List.getElem?_toArray]
    exact gD _ _ (by rw [fl j hj]; exact hk)
  · show (f 0).toArray[m]? = none
    rw [List.getElem?_toArray]
    exact List.getElem?_eq_none (by rw [fl 0 h0]; exact Nat.le_refl _)
  refine Calls.spliced_nil (tuple_of_zip (I2.ok.hd hc) Z fun h2 acc ze => ?_)
  obtain ⟨base, hbase⟩ : ∃ base, base = s2.heap.objs.size := ⟨_, rfl⟩
  rw [← hbase] at ze
  obtain ⟨T, hT⟩ : ∃ T : Nat → Nat, ∀ j, j < m → acc[j]? = some (.ref (T j)) ∧ base ≤ T j ∧ h2.get? (T j) = some (tupO ((List.range ps.length).map fun i => (f i).getD j .none).toArray) :=
    ⟨fun j => if h : j < m then Classical.choose (ze.acc.2 j h) else 0, fun j hj => by
      dsimp only
      rw [dif_pos hj]
      exact Classical.choose_spec (ze.acc.2 j hj)⟩
  have inj : ∀ j j', j < m → j' < m → T j = T j' → j = j' := fun j j' hj hj' e => by
    rcases Nat.lt_trichotomy j j' with c | c | c
    · have := ze.inc j j' _ _ c hj' (hT j hj).1 (hT j' hj').1
      omega
    · exact c
    · have := ze.inc j' j _ _ c hj (hT j' hj').1 (hT j hj).1
      omega
  have hr : base ≤ h2.objs.size := Nat.le_of_lt (Nat.lt_of_le_of_lt (hT 0 hm0).2.1 (Heap.lt_size (hT 0 hm0).2.2))
  have tr : ∀ j, j < m → T j < h2.objs.size := fun j hj => Heap.lt_size (hT j hj).2.2
  have fresh : ∀ b, base ≤ b → H1 b = none := fun b hb => I2.hok.fresh (by rw [← hbase]; exact hb)
  let cols := colsOf m rws
  have clen : cols.length = m := by show (colsOf m rws).length = m; unfold colsOf; rw [List.length_map, List.length_range]
  let H2 : Hp := fun b => if b = h2.objs.size then some (.tup (((List.range m).map T).map V.ref)) else match (List.range m).find? fun j => T j == b with
    | some j => some (.tup (cols.getD j []))
    | none => H1 b
  have H2r : H2 h2.objs.size = some (.tup (((List.range m).map T).map V.ref)) := if_pos rfl
  have H2T : ∀ j, j < m → H2 (T j) = some (.tup (cols.getD j [])) := fun j hj => by
    show (if T j = h2.objs.size then _ else _) = _
    rw [if_neg (Nat.ne_of_lt (tr j hj))]
    have e : (List.range m).find? (fun j' => T j' == T j) = some j := by
      cases q : (List.range m).find? (fun j' => T j' == T j) with
      | none =>
        have z := List.find?_eq_none.mp q j (List.mem_range.mpr hj)
        simp at z
      | some j' =>
        have z1 := List.find?_some q
        have z2 := List.mem_range.mp (List.mem_of_find?_eq_some q)
        rw [inj j' j z2 hj (eq_of_beq z1)]
    rw [e]
  have H2o : ∀ b, b < base → H2 b = H1 b := fun b hb => by
    show (if b = h2.objs.size then _ else _) = _
    rw [if_neg (Nat.ne_of_lt (Nat.lt_of_lt_of_le hb hr))]
    have e : (List.range m).find? (fun j' => T j' == b) = none := List.find?_eq_none.mpr fun j hj z => by
      have z1 : T j = b := eq_of_beq z
      have := (hT j (List.mem_range.mp hj)).2.1
      omega
    rw [e]
  have H2n : ∀ b u, H2 b = some u → base ≤ b → (b = h2.objs.size ∧ u = .tup (((List.range m).map T).map V.ref)) ∨ ∃ j, j < m ∧ b = T j ∧ u = .tup (cols.getD j []) := fun b u e hb => by
    by_cases h1 : b = h2.objs.size
    · subst h1
      rw [H2r] at e
      exact .inl ⟨rfl, (Option.some.inj e).symm⟩
    · have e1 : (match (List.range m).find? fun j => T j == b with
        | some j => some (HO.tup (cols.getD j []))
        | none => H1 b) = some u := by
        have z : H2 b = _ := if_neg h1
        rw [← z]
        exact e
      cases q : (List.range m).find? (fun j' => T j' == b) with
      | none =>
        rw [q] at e1
        dsimp only at e1
        rw [fresh b hb] at e1
        cases e1
      | some j =>
        rw [q] at e1
        have z1 := List.find?_some q
        exact .inr ⟨j, List.mem_range.mp (List.mem_of_find?_eq_some q), (eq_of_beq z1).symm, (Option.some.inj e1).symm⟩
  have oldlt : ∀ b u, H1 b = some u → b < base := fun b u e => by rw [hbase]; exact I2.hok.lt e
  have keep : ∀ b u, H1 b = some u → H2 b = some u := fun b u e => (H2o b (oldlt b u e)).trans e
  have cget : ∀ j, j < m → cols.getD j [] = rws.map fun xs => xs.getD j .non := fun j hj => by
    show (colsOf m rws).getD j [] = _
    unfold colsOf
    rw [List.getD_eq_getElem?_getD, List.getElem?_map, List.getElem?_range hj]
    rfl
  have I3 : Inv X pins σ H2 { s2 with heap := h2.push (tupO acc), toks := s2.toks } := by
    refine inv_grown I2 (fun b u e => Heap.get?_push_of_some _ (ze.old b u (by rw [hbase]; exact Heap.lt_size e) e)) keep (fun b u e n => (H2o b (by rw [hbase]; exact Heap.lt_size e)).trans n) fun b u e n => ?_
    have hb : base ≤ b := by
      by_cases c : base ≤ b
      · exact c
      · rw [H2o b (by omega), n] at e
        cases e
    rcases H2n b u e hb with ⟨rfl, rfl⟩ | ⟨j, hj, rfl, rfl⟩
    · refine ⟨by rw [List.length_map, List.length_map, List.length_range]; exact Nat.le_trans hm1 (by decide), (List.range m).map fun j => Value.ref (T j), ?_, ⟨tupO acc, Heap.get?_push_size _ rfl, rfl, 0, ?_⟩⟩
      · rw [List.map_map]
        exact vals_map (f := fun j => V.ref (T j)) (g := fun j => Value.ref (T j)) (fun j => (rfl : Value.ref (T j) = Value.ref (T j))) _
      · have ea : acc = ((List.range m).map fun j => Value.ref (T j)).toArray := by
          apply Array.ext
          · rw [ze.acc.1]; simp
          · intro i i1 i2
            have z := (hT i (by rw [ze.acc.1] at i1; exact i1)).1
            rw [Array.getElem?_eq_getElem i1] at z
            rw [Option.some.inj z]
            simp
        rw [← ea]
    · refine ⟨by rw [cget j hj, List.length_map, hrl]; exact Nat.le_trans (show ps.length ≤ 8 by omega) (by decide), (List.range ps.length).map fun i => (f i).getD j .none, ?_, ⟨tupO _, Heap.get?_push_of_some _ (hT j hj).2.2, rfl, 0, rfl⟩⟩
      rw [cget j hj]
      have er : rws = (List.range ps.length).map fun i => rws.getD i [] := by
        apply List.ext_getElem
        · rw [List.length_map, List.length_range, hrl]
        · intro i i1 i2
          rw [List.getElem_map, List.getElem_range, List.getD_eq_getElem?_getD, List.getElem?_eq_getElem i1]
          rfl
      rw [er, List.map_map]
      refine vals_maps _ fun i hi => ?_
      have hi' := List.mem_range.mp hi
      obtain ⟨rv, _, rl⟩ := hf i hi'
      have gx : (rws.getD i [])[j]? = some ((rws.getD i []).getD j .non) := by rw [List.getD_eq_getElem?_getD (l := rws.getD i []), List.getElem?_eq_getElem (by rw [rl]; exact hj)]; rfl
      obtain ⟨u, hu, ru⟩ := rv.get gx
      rw [gD _ _ (by rw [fl i hi']; exact hj)] at hu
      show RelV ((rws.getD i []).getD j .non) _
      rw [Option.some.inj hu]
      exact ru
  refine ⟨.ref h2.objs.size, H2, I3, rfl, q H2 h2.objs.size ⟨keep, (List.range m).map T, by rw [List.length_map, List.length_range]; exact clen.symm, fresh _ hr, H2r, fun j t c e1 e2 => ?_, fun b u e n => ?_⟩⟩
  · have hj : j < m := by
      have := (List.getElem?_eq_some_iff.mp e1).1
      rw [List.length_map, List.length_range] at this
      exact this
    rw [List.getElem?_map, List.getElem?_range hj] at e1
    obtain rfl := Option.some.inj e1
    refine ⟨fresh _ (hT j hj).2.1, ?_⟩
    rw [H2T j hj]
    have z : cols.getD j [] = c := by rw [List.getD_eq_getElem?_getD, show cols[j]? = some c from e2]; rfl
    rw [z]
  · have hb : base ≤ b := by
      by_cases c : base ≤ b
      · exact c
      · rw [H2o b (by omega), n] at e
        cases e
    rcases H2n b u e hb with ⟨_, rfl⟩ | ⟨j, _, _, rfl⟩ <;> exact fun _ z => nomatch z
end
end Qz

/-! Q27: tuple(zip(*rows)) and calls of a local that holds a def, as judgements. -/
namespace Qp
open PySem PySem.Spec PyProof.Rows L2 Qz
/-- a tuple of tuples, taken apart -/
theorem dqAll_tups {K : Fg} {G : Hp} : ∀ {vs : List V} {rows : List (List D)}, DqAll K G vs (rows.map D.tup) → ∃ (ps : List Addr) (rws : List (List V)), vs = ps.map V.ref ∧ ps.length = rows.length ∧ rws.length = rows.length ∧
    (∀ (i : Nat) q xs ds, ps[i]? = some q → rws[i]? = some xs → rows[i]? = some ds → SqT K G q xs ∧ DqAll K G xs ds)
  | [], [], _ => ⟨[], [], rfl, rfl, rfl, fun i q xs ds h => by simp at h⟩
  | v :: vs, d :: rows, h => by
    cases h with
    | cons h1 h2 =>
      obtain ⟨a, xs, rfl, ta, da⟩ := dq_tup h1
      obtain ⟨ps, rws, rfl, e1, e2, h3⟩ := dqAll_tups h2
      refine ⟨a :: ps, xs :: rws, rfl, by rw [List.length_cons, List.length_cons, e1], by rw [List.length_cons, List.length_cons, e2], fun i q ys ds g1 g2 g3 => ?_⟩
      cases i with
      | zero =>
        cases g1
        cases g2
        cases g3
        exact ⟨ta, da⟩
      | succ i => exact h3 i q ys ds g1 g2 g3
theorem dqAll_of {K : Fg} {G : Hp} : ∀ {vs : List V} {ds : List D}, vs.length = ds.length → (∀ (i : Nat) v d, vs[i]? = some v → ds[i]? = some d → Dq K G v d) → DqAll K G vs ds
  | [], [], _, _ => .nil
  | v :: vs, d :: ds, hl, h => .cons (h 0 v d rfl rfl) (dqAll_of (by simpa using hl) fun i v d e1 e2 => h (i + 1) v d e1 e2)
/-- the frozen part, with what is new -/
def growG (G H H2 : Hp) : Hp := fun b => (G b).or (if H b = none then H2 b else none)
theorem growG_old {G H H2 : Hp} {a : Addr} {o : HO} (e : G a = some o) : growG G H H2 a = some o := by unfold growG; rw [e]; rfl
theorem growG_new {G H H2 : Hp} {a : Addr} (e : G a = none) (h : H a = none) : growG G H H2 a = H2 a := by unfold growG; rw [e, if_pos h]; rfl
theorem growG_not {G H H2 : Hp} {a : Addr} (e : G a = none) (h : H a ≠ none) : growG G H H2 a = none := by unfold growG; rw [e, if_neg h]; rfl
theorem sat_zip {K : Fg} {F : Addr → Prop} {G H H2 : Hp} {σ : L2.St} {ls : List Loc} {cols : List (List V)} {dss : List (List D)} {r : Addr} (S : Sat K F G H σ ls) (Z : ZRes H cols H2 r) (hl : cols.length = dss.length)
    (hd : ∀ (j : Nat) c ds, cols[j]? = some c → dss[j]? = some ds → DqAll K G c ds) : ∃ G2, Ex G G2 ∧ Ex H H2 ∧ Sat K F G2 H2 σ ls ∧ Dq K G2 (.ref r) (.tup (dss.map D.tup)) := by
  obtain ⟨Ts, hTl, hr0, hr, hT, hn⟩ := Z.ex
  have eh : Ex H H2 := fun a o e => .of (Z.keep a o e)
  have eg : Ex G (growG G H H2) := fun a o e => .of (growG_old e)
  refine ⟨growG G H H2, eg, eh, S.grow eg eh (fun a o e => ?_) (fun a ha => ?_), ?_⟩
  · cases q : G a with
    | some u =>
      rw [growG_old q] at e
      cases e
      exact Ex.trans S.ex eh a _ q
    | none =>
      by_cases c : H a = none
      · rw [growG_new q c] at e
        exact .of e
      · rw [growG_not q c] at e
        cases e
  · cases q : G a with
    | some u => exact .inl (by simp)
    | none =>
      by_cases c : H a = none
      · exact .inr fun z => z.ne c
      · rw [growG_not q c] at ha
        exact absurd rfl ha
  · refine .tup (SqT.of (xs := Ts.map V.ref) ?_) (dqAll_of (by rw [List.length_map, List.length_map, hTl, hl]) fun i v d e1 e2 => ?_)
    · rw [growG_new (S.ex.fresh hr0) hr0]
      exact hr
    · rw [List.getElem?_map] at e1 e2
      obtain ⟨t, t1, rfl⟩ := Option.map_eq_some_iff.mp e1
      obtain ⟨ds, d1, rfl⟩ := Option.map_eq_some_iff.mp e2
      have hi := (List.getElem?_eq_some_iff.mp d1).1
      have c1 : cols[i]? = some (cols[i]'(by omega)) := List.getElem?_eq_getElem _
      obtain ⟨n0, n1⟩ := hT i t _ t1 c1
      refine .tup (SqT.of ?_) (dqAll_mono eg (hd i _ ds c1 d1))
      rw [growG_new (S.ex.fresh n0) n0]
      exact n1
section
variable {C : Cs} {ls : List Loc} {a e : Expr} {d : D} {ds : List D} {pos p1 p2 pos2 sp : Pos} {Po : D → Prop}
def colsD (m : Nat) (rows : List (List D)) : List (List D) := (List.range m).map fun k => rows.map fun r => r.getD k .non
theorem je_zipT [Cold C] {rows : List (List D)} {m : Nat} (ha : JE C ls a (.tup (rows.map D.tup))) (hl : rows.length = 2 ∨ rows.length = 4 ∨ rows.length = 8) (hm : ∀ r ∈ rows, r.length = m) (h0 : 0 < m) (h1 : m ≤ 1000)
    (hnT : NoG C "tuple" := by assumption) (hnZ : NoG C "zip" := by assumption) (hgT : ∀ j, Gl (C.X j) "tuple" := by intro _; rfl) (hgZ : ∀ j, Gl (C.X j) "zip" := by intro _; rfl) :
    JE C ls (.Call (.Name "tuple" p1) [.Call (.Name "zip" p2) [.Starred a sp] [] pos2] [] pos) (.tup ((colsD m rows).map D.tup)) :=
  je_of (t := tZip C.K (eAny C a)) (fun j => kx (p := fun K => PE (C.X j) _ (tZip K (eAny C a))) j (pe_zip (hgT j) (noG hnT j) (hgZ j) (noG hnZ j) (C.calm j Cold.h) (pe_any C a j))) fun F G H σ S xx Q q => ha F G H σ S xx _ fun v G' H' eg eh S' hv => by
    obtain ⟨p, vs, rfl, tp, dv⟩ := dq_tup hv
    obtain ⟨ps, rws, rfl, e1, e2, h3⟩ := dqAll_tups dv
    refine ⟨p, ps, rws, m, rfl, ex_t S'.ex tp, by rw [e1]; exact hl, by rw [e1, e2], fun i q xs g1 g2 => ?_, h0, h1, fun H2 r Z => ?_⟩
    · have hi : i < rows.length := by rw [← e1]; exact (List.getElem?_eq_some_iff.mp g1).1
      obtain ⟨t1, t2⟩ := h3 i q xs rows[i] g1 g2 (List.getElem?_eq_getElem hi)
      exact ⟨ex_t S'.ex t1, by rw [t2.length]; exact hm _ (List.getElem_mem hi)⟩
    · obtain ⟨G2, eg2, eh2, S2, hd⟩ := sat_zip (dss := colsD m rows) S' Z (by unfold colsD colsOf; rw [List.length_map, List.length_map]) fun j c ds c1 d1 => by
        unfold colsOf at c1
        unfold colsD at d1
        rw [List.getElem?_map] at c1 d1
        obtain ⟨k, k1, rfl⟩ := Option.map_eq_some_iff.mp c1
        obtain ⟨k', k2, rfl⟩ := Option.map_eq_some_iff.mp d1
        rw [k1] at k2
        cases k2
        have hk : k < m := List.mem_range.mp (List.mem_of_getElem? k1)
        refine dqAll_of (by rw [List.length_map, List.length_map, e2]) fun i v d v1 d1 => ?_
        rw [List.getElem?_map] at v1 d1
        obtain ⟨xs, x1, rfl⟩ := Option.map_eq_some_iff.mp v1
        obtain ⟨ds, y1, rfl⟩ := Option.map_eq_some_iff.mp d1
        have hi : i < ps.length := by rw [e1]; exact (List.getElem?_eq_some_iff.mp y1).1
        obtain ⟨_, t2⟩ := h3 i ps[i] xs ds (List.getElem?_eq_getElem hi) x1 y1
        have lk : k < ds.length := by rw [hm ds (List.mem_of_getElem? y1)]; exact hk
        have gx : xs[k]? = some (xs.getD k .non) := by rw [List.getD_eq_getElem?_getD, List.getElem?_eq_getElem (by rw [t2.length]; exact lk)]; rfl
        obtain ⟨d', d1, d2⟩ := t2.get' gx
        rw [List.getD_eq_getElem?_getD (l := ds), d1]
        exact d2
      exact q _ G2 H2 (eg.trans eg2) (eh.trans eh2) S2 hd
/-- a def, by its name, as a value -/
theorem je_globF {x : Str} {f : Addr} (hm : C.mg x = some (.ref f)) (hg : ∀ j, Gl (C.X j) x := by intro _; rfl) (hd : (x == ("__debug__" : Str)) = false := by decide) : JE C ls (.Name x pos) (.ref f) :=
  je_of (t := tC (.ref f)) (fun j => pe_glob (hg j) (by rw [C.hmg]; exact hm) rfl hd) (ev_c fun _ => .ref f)
/-- the def at an address -/
structure FnA (P : Program) (w : World) (K : Fg) (mg : Str → Option Value) (base : Heap) (k : Nat) (f : Addr) (R : Rel) (T : Addr → Prop := fun _ => False) : Prop where
  ex : ∃ fd ps, FnOk P w K mg base CX0 k f fd ps (spD K R T) ∧ PySem.W.keepIn K (.ref f) = true ∧ Binds K fd ps []
theorem Fn.at {P : Program} {w : World} {K : Fg} {mg : Str → Option Value} {base : Heap} {k : Nat} {x : Str} {R : Rel} {T : Addr → Prop} (F : Fn P w K mg base k x R T) : ∃ f, mg x = some (.ref f) ∧ FnA P w K mg base k f R T := by
  obtain ⟨f, fd, ps, G, hm, kp, hb⟩ := F.ex
  exact ⟨f, hm, ⟨fd, ps, G, kp, hb⟩⟩
theorem jx_callV [Cold C] {k : Nat} {f : Addr} {R : Rel} {x : Str} (i : Nat) (F : FnA C.P C.w C.K C.mg C.base k f R C.E.T) {es : List Expr} (ha : JA C ls (e :: es) ds) (hR : R ds Po) (hl : ls[i]? = some (.val (.ref f)) := by rfl) (hi : C.N[i]? = some x := by rfl)
    (hv : ∀ j, Vis (C.X j).env.scope x := by intro _; first | exact Or.inl rfl | exact Or.inr (Or.inl rfl) | exact Or.inr (Or.inr rfl)) (hk : k ≤ C.k := by exact Nat.le_of_ble_eq_true rfl) (hdb : (x == ("__debug__" : Str)) = false := by decide) (hcd : (x == ("__classdict__" : Str)) = false := by decide) :
    JX C ls (.Call (.Name x p1) (e :: es) [] pos) Po := by
  obtain ⟨fd, ps, G, kp, hb⟩ := F.ex
  refine fun F' G1 H1 σ S xx Q q => ⟨tCallL i f (spD C.K R C.E.T) [] E0 (aAny C (e :: es)), fun j => ?_, ?_, ha.ev F' G1 H1 σ S xx _ fun vs G2 H2 eg2 eh2 S2 hv => ?_⟩
  · exact pe_callL (fnAt G hk j) (C.cold j Cold.h) (by rw [C.hN]; exact hi) (hv j) (by rw [C.hK]; exact kp) (by rw [C.hK]; exact hb) .nil pass0 (pa_any C (e :: es) j) hdb hcd (ha.ns e List.mem_cons_self _ _) (ns_any (fun y hy => ha.ns y (List.mem_cons_of_mem _ hy)) _ _)
  · obtain ⟨v, e1, hv⟩ := S.var hl
    rw [dq_ref hv] at e1
    exact e1
  · rw [List.append_nil]
    refine ⟨G2, ds, Po, S2.ex, (xx.step eg2 eh2).tb, hv, hR, fun d hd G3 H3 v eg3 e3 eh3 n3 hv3 => q d v G3 H3 hd (eg2.trans eg3) (eh2.trans eh3) (S2.grow eg3 eh3 e3 fun a ha => ?_) hv3⟩
    by_cases h2 : NT H2 a
    · exact Or.inl fun g => ha (n3 a h2 g)
    · exact Or.inr h2
theorem je_callV [Cold C] {k : Nat} {f : Addr} {r : List D → D → Prop} {x : Str} (i : Nat) (F : FnA C.P C.w C.K C.mg C.base k f (det r) C.E.T) {es : List Expr} (ha : JA C ls (e :: es) ds) (hR : r ds d) (hl : ls[i]? = some (.val (.ref f)) := by rfl) (hi : C.N[i]? = some x := by rfl)
    (hv : ∀ j, Vis (C.X j).env.scope x := by intro _; first | exact Or.inl rfl | exact Or.inr (Or.inl rfl) | exact Or.inr (Or.inr rfl)) (hk : k ≤ C.k := by exact Nat.le_of_ble_eq_true rfl) (hdb : (x == ("__debug__" : Str)) = false := by decide) (hcd : (x == ("__classdict__" : Str)) = false := by decide) :
    JE C ls (.Call (.Name x p1) (e :: es) [] pos) d := JX.je (jx_callV i F ha ⟨d, hR, rfl⟩ hl hi hv hk hdb hcd)
end
end Qp

/-! Q28: a local name given a comprehension on its own line (the store is folded into the comprehension). -/
namespace Qp
open PySem PySem.Spec PyProof.Rows L2
section
variable {C : Cs} {ls : List Loc} {e elt a b : Expr} {d : D} {ds : List D} {pos p1 p2 p3 spos py : Pos} {scope : Scope} {ifs : List Expr} {P : Post} {rest body : List Stmt} {x : Str}
/-- what a comprehension is, with its reading -/
structure JL (C : Cs) [Cold C] (ls : List Loc) (e : Expr) (ds : List D) : Prop where
  ex : ∃ (wi : TI) (j : Nat) (x : Str) (p1 : Pos) (iter : Expr) (ifs : List Expr) (elt : Expr) (scope : Scope) (pos : Pos), e = .ListComp elt [⟨.Name x p1, iter, ifs, 0⟩] scope pos ∧ BOk C scope x j p1 ∧ (∀ i, PI (C.X i) (.Name x p1) iter wi) ∧ (∀ i y, foldedSetIterable iter (C.X i).env y = pure y) ∧
    EvN C.K C.E (tLc wi (gName j) (ifAny (C.blk scope) ifs) (eAny (C.blk scope) elt) [j]) ls ds
theorem JL.jn [Cold C] (h : JL C ls e ds) : JN C ls e ds := by
  obtain ⟨wi, j, x, p1, iter, ifs, elt, scope, pos, rfl, B, hi, hs, ev⟩ := h.ex
  exact jn_of (pe_lcA (tg := iter) B hi hs) ev
theorem js_setL [Cold C] (i : Nat) {y : Str} (h : JL C ls e ds) (hn : P.nx (ls.set i (.own ds))) (hy : C.N[i]? = some y := by rfl) (hyl : ∀ k, (C.X k).env.scope.names.lookup y = some .local := by intro _; rfl)
    (hsw : ∀ k, swapsWith e (some (.Name y py)) spos.line (C.X k).env = pure true := by intro _; rfl) : JS C ls (.Assign [.Name y py] e spos) P := by
  obtain ⟨wi, j, x, p1, iter, ifs, elt, scope, pos, rfl, B, hi, hs, ev⟩ := h.ex
  exact js_of (fun k => ps_lcA (tg := iter) B hi hs hy hyl hsw k) fun F G H σ D' S f => ev F G H σ S (f.xok S) _ fun p vs G' H' eg eh nf S' hp hv => f.nx G' H' _ _ eg (S.kp eh) (S'.setN nf hp hv) hn
theorem jb_setL [Cold C] (i : Nat) {y : Str} (h : JL C ls e ds) (k : JB C (ls.set i (.own ds)) rest P) (hy : C.N[i]? = some y := by rfl) (hyl : ∀ k, (C.X k).env.scope.names.lookup y = some .local := by intro _; rfl)
    (hsw : ∀ k, swapsWith e (some (.Name y py)) spos.line (C.X k).env = pure true := by intro _; rfl) : JB C ls (.Assign [.Name y py] e spos :: rest) P :=
  jb_cons (fun l => l = ls.set i (.own ds)) (js_setL i h rfl hy hyl hsw) fun _ z => z ▸ k
theorem JL.is [Cold C] {ds' : List D} (h : JL C ls e ds) (q : ds = ds') : JL C ls e ds' := q ▸ h
theorem jl_R [Cold C] {n : Int} (j : Nat) (b : Nat → Bool) (f : Nat → D) (he : JE C ls e (.int n)) (hn : n < 1000000) (ht : ∀ i : Nat, i < n.toNat → JI (C.blk scope) (ls.set j (.val (.int i))) ifs (b i)) (hb : ∀ i : Nat, i < n.toNat → b i = true → JE (C.blk scope) (ls.set j (.val (.int i))) elt (f i)) (B : BOk C scope x j p1)
    (hj : ∀ l, ls[j]? = some l → l.keeps = true := by intro _ h; cases h; rfl) (hm : NoG C "range" := by assumption) (hg : ∀ j, Gl (C.X j) "range" := by intro _; rfl) (hs : NS e := by intro _ _; rfl) (hfs : ∀ i x, foldedSetIterable (.Call (.Name "range" p2) [e] [] p3) (C.X i).env x = pure x := by intro _ _; rfl) (h62 : -(2 ^ 62) ≤ n := by omega) :
    JL C ls (.ListComp elt [⟨.Name x p1, .Call (.Name "range" p2) [e] [] p3, ifs, 0⟩] scope pos) (outs n.toNat b f) :=
  ⟨_, j, _, _, _, _, _, _, _, rfl, B, fun i => range' i (hg i) hm hs, hfs, evN_lc j n.toNat (fun i => .int i) b f (fun _ Jt => Jt = Itr 0 n.toNat) (by omega) hj
    (fun F G H σ S xx R q => he F G H σ S xx _ fun v G' H' eg eh S' hv => ⟨n, by rw [dq_int hv], h62, by omega, q _ G' H' eg eh S' rfl⟩)
    (fun G Jt H hJ e => by subst hJ; exact Nat.le_refl _) (fun G Jt H i hJ e hi => by subst hJ; exact hi)
    (fun G Jt H i x H1 hJ e hi y => by
      subst hJ
      obtain ⟨rfl, rfl⟩ := y
      have e0 : (0 : Int) + (i : Int) = (i : Int) := Int.zero_add _
      exact ⟨rfl, by rw [e0]; exact .int _⟩) ht hb⟩
theorem jl_L [Cold C] {α : Type} {xs : List α} (g : α → D) (z : α) (j : Nat) (b : Nat → Bool) (f : Nat → D) (he : JE C ls e (.lst (xs.map g))) (hn : xs.length < 1000000) (ht : ∀ i, i < xs.length → JI (C.blk scope) (ls.set j (.val (g (xs.getD i z)))) ifs (b i)) (hb : ∀ i, i < xs.length → b i = true → JE (C.blk scope) (ls.set j (.val (g (xs.getD i z)))) elt (f i)) (B : BOk C scope x j p1)
    (hj : ∀ l, ls[j]? = some l → l.keeps = true := by intro _ h; cases h; rfl) (hfs : ∀ i x, foldedSetIterable e (C.X i).env x = pure x := by intro _ _; rfl) :
    JL C ls (.ListComp elt [⟨.Name x p1, e, ifs, 0⟩] scope pos) (outs xs.length b f) :=
  ⟨_, j, _, _, _, _, _, _, _, rfl, B, fun i => kx (p := fun K => PI (C.X i) _ e (iList K (eAny C e))) i (pi_list (pe_any C e i)), hfs, evN_lc j xs.length (fun i => g (xs.getD i z)) b f (fun G Jt => ∃ a vs, Jt = Itl C.K a ∧ G a = some (.lst vs) ∧ DqAll C.K G vs (xs.map g)) hn hj
    (fun F G H σ S xx R q => he F G H σ S xx _ fun v G' H' eg eh S' hv => by
      obtain ⟨a, vs, rfl, ha, hd⟩ := dq_lst hv
      exact ⟨a, rfl, ⟨vs, SqL.of (S'.ex _ _ ha)⟩, q _ G' H' eg eh S' ⟨a, vs, rfl, ha, hd⟩⟩)
    (fun G Jt H hJ e => by
      obtain ⟨a, vs, rfl, ha, hd⟩ := hJ
      exact ⟨vs, SqL.of (e _ _ ha), by rw [hd.length, List.length_map]; exact Nat.le_refl _⟩)
    (fun G Jt H i hJ e hi => by
      obtain ⟨a, vs, rfl, ha, hd⟩ := hJ
      exact ⟨vs, vs[i]'(by rw [hd.length, List.length_map]; exact hi), SqL.of (e _ _ ha), List.getElem?_eq_getElem _⟩)
    (fun G Jt H i x H1 hJ e hi y => by
      obtain ⟨a, vs, rfl, ha, hd⟩ := hJ
      obtain ⟨rfl, y⟩ := y
      have hx := y vs (SqL.of (e _ _ ha))
      obtain ⟨d, e1, e2⟩ := hd.get' hx
      refine ⟨rfl, ?_⟩
      rw [List.getElem?_map, List.getElem?_eq_getElem hi] at e1
      cases e1
      rw [List.getD_eq_getElem?_getD, List.getElem?_eq_getElem hi]
      exact e2) ht hb⟩
theorem jl_T [Cold C] {α : Type} {xs : List α} (g : α → D) (z : α) (j : Nat) (b : Nat → Bool) (f : Nat → D) (he : JE C ls e (.tup (xs.map g))) (hn : xs.length < 1000000) (ht : ∀ i, i < xs.length → JI (C.blk scope) (ls.set j (.val (g (xs.getD i z)))) ifs (b i)) (hb : ∀ i, i < xs.length → b i = true → JE (C.blk scope) (ls.set j (.val (g (xs.getD i z)))) elt (f i)) (B : BOk C scope x j p1)
    (hj : ∀ l, ls[j]? = some l → l.keeps = true := by intro _ h; cases h; rfl) (hfs : ∀ i x, foldedSetIterable e (C.X i).env x = pure x := by intro _ _; rfl) :
    JL C ls (.ListComp elt [⟨.Name x p1, e, ifs, 0⟩] scope pos) (outs xs.length b f) :=
  ⟨_, j, _, _, _, _, _, _, _, rfl, B, fun i => kx (p := fun K => PI (C.X i) _ e (iTup K (eAny C e))) i (pi_tup (pe_any C e i)), hfs, evN_lc j xs.length (fun i => g (xs.getD i z)) b f (fun G Jt => ∃ a vs, Jt = Itt C.K a ∧ SqT C.K G a vs ∧ DqAll C.K G vs (xs.map g)) hn hj
    (fun F G H σ S xx R q => he F G H σ S xx _ fun v G' H' eg eh S' hv => by
      obtain ⟨a, vs, rfl, ha, hd⟩ := dq_tup hv
      exact ⟨a, rfl, ⟨vs, ex_t S'.ex ha⟩, q _ G' H' eg eh S' ⟨a, vs, rfl, ha, hd⟩⟩)
    (fun G Jt H hJ e => by
      obtain ⟨a, vs, rfl, ha, hd⟩ := hJ
      exact ⟨vs, ex_t e ha, by rw [hd.length, List.length_map]; exact Nat.le_refl _⟩)
    (fun G Jt H i hJ e hi => by
      obtain ⟨a, vs, rfl, ha, hd⟩ := hJ
      exact ⟨vs, vs[i]'(by rw [hd.length, List.length_map]; exact hi), ex_t e ha, List.getElem?_eq_getElem _⟩)
    (fun G Jt H i x H1 hJ e hi y => by
      obtain ⟨a, vs, rfl, ha, hd⟩ := hJ
      obtain ⟨rfl, y⟩ := y
      have hx := y vs (ex_t e ha)
      obtain ⟨d, e1, e2⟩ := hd.get' hx
      refine ⟨rfl, ?_⟩
      rw [List.getElem?_map, List.getElem?_eq_getElem hi] at e1
      cases e1
      rw [List.getD_eq_getElem?_getD, List.getElem?_eq_getElem hi]
      exact e2) ht hb⟩
end
end Qp

/-! Q29: defs called within the suite of an except; isinstance of its exception; is True, is False. -/
namespace Qp
open PySem PySem.Spec PyProof.Rows L2
/-- within the suite of an except -/
class Hot (C : Cs) : Prop where
  h : C.hot = true
instance {C : Cs} [hc : Cold C] {a Cl dd : Addr} {gs : List (Str × D)} : Hot (C.su a Cl dd gs) := ⟨rfl⟩
/-- the context of such a def's body -/
def Cs.ofH (P : Program) (w : World) (K : Fg) (mg : Str → Option Value) (base : Heap) {N : List Str} (nd : N.Nodup) (qual : Str) (scope : Scope) (f : Addr) (cdv : Value) (A : Around) (outer : List Env) (s : Shared) (H : Hp) (E : XK) (p : Addr × Obj) (ht : L2H.Hot1 A p) {k : Nat}
    (hr : L2H.RoomH k (A.deeper (envOfC qual scope s.heap.objs.size f cdv))) (T : Addr → Prop := fun _ => False) : Cs where
  ι := Unit
  X := fun _ => (L2H.cxH CX0 P w K mg base N qual scope f cdv A outer s H E p).nox
  P := P
  w := w
  K := K
  mg := mg
  base := base
  N := N
  k := k
  hP := fun _ => rfl
  hw := fun _ => rfl
  hK := fun _ => rfl
  hmg := fun _ => rfl
  hbase := fun _ => rfl
  hN := fun _ => rfl
  nd := nd
  hot := true
  calm := fun _ z => Bool.noConfusion z
  cold := fun _ z => Bool.noConfusion z
  hotc := fun _ _ => ⟨⟨p, ht, List.mem_cons_self⟩, hr⟩
  E := noX T
  takes := fun _ => takesN
instance {P : Program} {w : World} {K : Fg} {mg : Str → Option Value} {base : Heap} {N : List Str} {nd : N.Nodup} {qual : Str} {scope : Scope} {f : Addr} {cdv : Value} {A : Around} {outer : List Env} {s : Shared} {H : Hp} {E : XK} {p : Addr × Obj} {ht : L2H.Hot1 A p} {k : Nat} {hr : L2H.RoomH k (A.deeper (envOfC qual scope s.heap.objs.size f cdv))} {T : Addr → Prop} :
    Hot (Cs.ofH P w K mg base nd qual scope f cdv A outer s H E p ht hr T) := ⟨rfl⟩
section
variable {P : Program} {w : World} {K : Fg} {mg : Str → Option Value} {base : Heap}
theorem fn_okH {x qual : Str} {st : Stmt} {f : Addr} {fd : FuncData} {N ps : List Str} {k : Nat} {R : Rel} {T : Addr → Prop} (F : Fun K x qual st f fd) (S : FnScope N ps (defScope st)) (len : ∀ ds d, R ds d → ds.length = ps.length)
    (body : ∀ (cdv : Value) (A : Around) (outer : List Env) (s : Shared) (H : Hp) (E : XK) (p : Addr × Obj) (ht : L2H.Hot1 A p) (hr : L2H.RoomH k (A.deeper (envOfC qual (defScope st) s.heap.objs.size f cdv))) (ds : List D) (Po : D → Prop), R ds Po →
      JB (Cs.ofH P w K mg base S.nd qual (defScope st) f cdv A outer s H E p ht hr T) (locs N.length ds) (defBody st) (RetX Po)) : L2H.FnH P w K mg base CX0 (k + 1) f fd ps (spD K R T) := by
  obtain ⟨oc, od, kV, doc, pm, an, cdv, ct, osl, rfl, lk, hcd⟩ := F.ex
  refine L2H.fn_ofH lk hcd S (fun vs H Q E h => ?_) (fun A outer s H vs Q E p ht hr h => ?_)
  · obtain ⟨G, ds, d, _, _, hv, hR, _⟩ := h
    rw [hv.length]
    exact len ds d hR
  · obtain ⟨G, ds, Po, eg, tb, hv, hR, q⟩ := h
    refine ⟨_, (pb_any (Cs.ofH P w K mg base S.nd qual (defScope st) f cdv A outer s H E p ht hr T) (defBody st) ()).nox, ?_⟩
    have fin : ∀ G' H' v d', Ex G G' → Kp (fun a => NT H a ∧ G a = none) H H' → (∀ a, (NT H a ∧ G a = none) → G' a = none) → Ex G' H' → Dq K G' v d' → Po d' → Q v H' := fun G' H' v d' eg' kp fg e hv' hd =>
      q d' hd G' H' v eg' e (ex_of_kp eg eg' kp e) (fun a h1 h2 => fg a ⟨h1, h2⟩) hv'
    refine body cdv A outer s H E p ht hr ds Po hR (fun a => NT H a ∧ G a = none) G H (L2.start N vs) _ (sat_start eg hv) ⟨fun G' H' σ' ls' eg' kp S' r => ?_, fun G' H' v d' eg' kp fg e hv' r => fin G' H' v d' eg' kp fg e hv' r, fun _ _ _ _ _ _ _ z => False.elim z, fun _ _ _ _ _ _ _ z => False.elim z, tb, fun _ z => (List.not_mem_nil z).elim, fun _ _ _ _ _ _ _ _ _ _ _ _ _ z => False.elim z⟩
    exact fin G' H' .non .non eg' kp (fun a fa => (S'.fo a fa).1) S'.ex .non r
theorem fn_okdH {x qual : Str} {st : Stmt} {f : Addr} {fd : FuncData} {N ps : List Str} {k : Nat} {r : List D → D → Prop} {T : Addr → Prop} (F : Fun K x qual st f fd) (S : FnScope N ps (defScope st)) (len : ∀ ds d, r ds d → ds.length = ps.length)
    (body : ∀ (cdv : Value) (A : Around) (outer : List Env) (s : Shared) (H : Hp) (E : XK) (p : Addr × Obj) (ht : L2H.Hot1 A p) (hr : L2H.RoomH k (A.deeper (envOfC qual (defScope st) s.heap.objs.size f cdv))) (ds : List D) (d : D), r ds d →
      JB (Cs.ofH P w K mg base S.nd qual (defScope st) f cdv A outer s H E p ht hr T) (locs N.length ds) (defBody st) (Ret d)) : L2H.FnH P w K mg base CX0 (k + 1) f fd ps (spD K (det r) T) :=
  fn_okH F S (fun ds Po ⟨d, h, _⟩ => len ds d h) fun cdv A outer s H E p ht hr ds Po ⟨d, h, e⟩ => by
    subst e
    exact jb_post (body cdv A outer s H E p ht hr ds d h) (fun _ z => Eq.symm z) (fun _ z => z) (fun _ z => z) (fun _ z => z)
/-- such a def as callers see it -/
structure FnHt (P : Program) (w : World) (K : Fg) (mg : Str → Option Value) (base : Heap) (k : Nat) (x : Str) (R : Rel) (T : Addr → Prop := fun _ => False) : Prop where
  ex : ∃ f fd ps, L2H.FnH P w K mg base CX0 k f fd ps (spD K R T) ∧ mg x = some (.ref f) ∧ PySem.W.keepIn K (.ref f) = true ∧ Binds K fd ps []
theorem fnH_mono {k l : Nat} {f : Addr} {fd : FuncData} {ps : List Str} {sp : Sp} {CX : CXT} (F : L2H.FnH P w K mg base CX k f fd ps sp) (h : k ≤ l) : L2H.FnH P w K mg base CX l f fd ps sp :=
  ⟨F.len, fun A outer s H args us vs Q E p hr => F.run A outer s H args us vs Q E p (hr.mono h)⟩
theorem FT.fnH {k : Nat} {x : Str} {st : Stmt} {ps : List Str} {R : Rel} {T : Addr → Prop} (Y : FT K mg x st) (G : ∀ {f fd}, Fun K x x st f fd → L2H.FnH P w K mg base CX0 k f fd ps (spD K R T)) (h : ∀ (kV doc pm : Value) (an : Option Addr) (cdv ct : Value) (us : List Value), us.length = ps.length → bindArgs (PySem.W.fnOf x x (defArgs st) (defBody st) (defScope st) .none kV doc pm an cdv ct) ⟨us, []⟩ = pure (ps.zip us)) : FnHt P w K mg base k x R T := by
  obtain ⟨f, fd, F, hm⟩ := Y.ex
  exact ⟨f, fd, ps, G F, hm, F.kp, F.binds h⟩
end
section
variable {C : Cs} {ls : List Loc} {e a b : Expr} {d d1 : D} {ds : List D} {p pos p1 p2 : Pos} {x : Str} {k : Nat} {R : Rel} {r : List D → D → Prop} {Po : D → Prop}
theorem fnAtH {f : Addr} {fd : FuncData} {ps : List Str} {sp : Sp} {CX : CXT} (F : L2H.FnH C.P C.w C.K C.mg C.base CX k f fd ps sp) (hk : k ≤ C.k) (j : C.ι) : L2H.FnH (C.X j).prog (C.X j).w (C.X j).K (C.X j).mg (C.X j).base CX C.k f fd ps sp := by
  rw [C.hP, C.hw, C.hK, C.hmg, C.hbase]
  exact fnH_mono F hk
theorem jx_callH [hh : Hot C] (F : FnHt C.P C.w C.K C.mg C.base k x R C.E.T) {es : List Expr} {Pa : List D → Prop} (ha : JXA C ls (e :: es) Pa) (hR : ∀ ds, Pa ds → R ds Po) (hk : k ≤ C.k := by exact Nat.le_of_ble_eq_true rfl) (hg : ∀ j, Gl (C.X j) x := by intro _; rfl) (hdb : (x == ("__debug__" : Str)) = false := by decide) :
    JX C ls (.Call (.Name x p) (e :: es) [] pos) Po := by
  obtain ⟨f, fd, ps, G, hm, kp, hb⟩ := F.ex
  refine fun F' G1 H1 σ S xx Q q => ⟨tCallS (spD C.K R C.E.T) (fun _ => E0) (aAny C (e :: es)), fun j => ?_, ha.ev F' G1 H1 σ S xx _ fun ds vs G2 H2 hp eg2 eh2 S2 hv => ?_⟩
  · obtain ⟨hc, rm⟩ := C.hotc j hh.h
    exact L2H.pe_callH (fnAtH G hk j) rm hc (hg j) (by rw [C.hmg]; exact hm) (by rw [C.hK]; exact kp) (by rw [C.hK]; exact hb) (fun σ pins H s e s' I z => False.elim z) (pa_any C (e :: es) j) hdb (ha.ns e List.mem_cons_self _ _) (ns_any (fun y hy => ha.ns y (List.mem_cons_of_mem _ hy)) _ _)
  · refine ⟨G2, ds, Po, S2.ex, (xx.step eg2 eh2).tb, hv, hR ds hp, fun d hd G3 H3 v eg3 e3 eh3 n3 hv3 => q d v G3 H3 hd (eg2.trans eg3) (eh2.trans eh3) (S2.grow eg3 eh3 e3 fun a ha => ?_) hv3⟩
    by_cases h2 : NT H2 a
    · exact Or.inl fun g => ha (n3 a h2 g)
    · exact Or.inr h2
theorem je_callH [Hot C] (F : FnHt C.P C.w C.K C.mg C.base k x (det r) C.E.T) {es : List Expr} (ha : JA C ls (e :: es) ds) (hR : r ds d) (hk : k ≤ C.k := by exact Nat.le_of_ble_eq_true rfl) (hg : ∀ j, Gl (C.X j) x := by intro _; rfl) (hdb : (x == ("__debug__" : Str)) = false := by decide) :
    JE C ls (.Call (.Name x p) (e :: es) [] pos) d := JX.je (jx_callH F (.of ha) (fun _ z => by rw [z]; exact ⟨d, hR, rfl⟩) hk hg hdb)
/-! ### is True, is not False -/
theorem je_isB {k l : Bool} (ha : JE C ls a (.bl k)) (hb : JE C ls b (.bl l)) : JE C ls (.Compare a [.Is] [b] pos) (.bl (decide (k = l))) :=
  je_of (fun j => pe_cmpR op_is_bl (pe_any C a j) (pe_any C b j) (nomark _)) (ev_op ha hb fun G H x y Q eg hx hy q => ⟨k, l, dq_bl hx, dq_bl hy, q _ (.bl _)⟩)
theorem je_isnotB {k l : Bool} (ha : JE C ls a (.bl k)) (hb : JE C ls b (.bl l)) : JE C ls (.Compare a [.IsNot] [b] pos) (.bl (!decide (k = l))) :=
  je_of (fun j => pe_cmpR op_isnot_bl (pe_any C a j) (pe_any C b j) (nomark _)) (ev_op ha hb fun G H x y Q eg hx hy q => ⟨k, l, dq_bl hx, dq_bl hy, q _ (.bl _)⟩)
end
/-! ### isinstance of the suite's exception -/
/-- what the class D must say -/
structure IsC (K : Fg) (D : Addr) : Prop where
  cl : (PySem.W.clsIn K D).isSome = true
  hg : PySem.W.findIn K (.ref D) "__getattribute__" = some (some (.builtin "BaseException.__getattribute__"))
  hk : PySem.W.findIn K (.ref D) "__getattr__" = some none
  hs : PySem.W.subIn K (.ref D) (.type "BaseException") = some true
  ha : PySem.W.findIn K (.ref D) "__class__" = some (some (.builtin "object.__class__"))
  hn : PySem.W.specialIn K (.builtin "object.__class__") "__get__" = some (some (.builtin "getset_descriptor.__get__"))
  ht : PySem.W.takesIn K (.builtin "object.__class__") = some true
  hm : PySem.W.mroIn K D (.type "object") = some true
def rIsX (K : Fg) (Cl a dd : Addr) : List V → Hp → VK → Prop := fun xs H Q => ∃ (c : V) (cv : Value) (b : Bool), xs = [.ref a, c] ∧ (∀ u, RelV c u → u = cv) ∧ PySem.W.kitOne K (.ref Cl) cv = some b ∧ (∃ fs, H dd = some (.xd fs)) ∧ Q (.bl b) H
theorem call_isX {X : Cx} {a Cl dd : Addr} {oe : Obj} {pn : List (Addr × Obj)} (Z : IsC X.K Cl) (hz : L2N.Zn (.ref Cl) (some dd) oe) (hf : ∃ vs, oe.data = .fields vs) : CallR (X.suite a ((a, oe) :: pn)) (.builtin "isinstance") (rIsX X.K Cl a dd) := by
  intro pins s σ H xs us Q I r h
  obtain ⟨c, cv, b, rfl, hcv, e, ⟨fs, hdd⟩, q⟩ := h
  cases r with
  | cons rx rr =>
    cases rr with
    | cons rt rr =>
      cases rr
      cases rx
      obtain rfl := hcv _ rt
      have P1 := (I.pin (a, oe) (List.mem_append_left _ List.mem_cons_self)).1
      obtain ⟨vs, hv⟩ := hf
      obtain ⟨mA, hns, hr⟩ := (show ObjOk X.prog X.w H s.heap dd (.xd fs) from I.hok dd _ hdd)
      obtain ⟨od, ho, _⟩ := lookIn_ns hns
      have J : PySem.W.InstAt s.heap a oe Cl (some od) := ⟨P1, hz.1, by unfold PySem.W.notCls; rw [hv] <;> rfl, by rw [hz.2.1]; exact ho⟩
      exact PySem.W.kia_one (PySem.W.kitx_exc Z.cl Z.hg Z.hk Z.hs Z.ha Z.hn Z.ht Z.hm) I.kIn J e (fun z => nomatch z) fun tk => ⟨.bl b, H, I.kept (t' := tk) fun _ _ z => z, rfl, q⟩
section
variable {C : Cs} {ls : List Loc} {e : Expr} {d : D} {pos p1 p2 : Pos} {x : Str} {a Cl dd Cp : Addr} {gs : List (Str × D)} {b : Bool}
theorem je_isX [hc : Cold C] (he : JE (C.su a Cl dd gs) ls e (.ref a)) (Z : IsC C.K Cl) (hm : C.mg x = some (.ref Cp)) (hk : PySem.W.kitOne C.K (.ref Cl) (.ref Cp) = some b) (hn : NoG C "isinstance" := by assumption) (hg : ∀ j, Gl (C.X j) "isinstance" := by intro _; rfl) (hgx : ∀ j, Gl (C.X j) x := by intro _; rfl)
    (hs : NS e := by intro _ _; rfl) (hdb : (x == ("__debug__" : Str)) = false := by decide) : JE (C.su a Cl dd gs) ls (.Call (.Name "isinstance" p1) [e, .Name x p2] [] pos) (.bl b) := by
  refine je_of (t := tCB (rIsX C.K Cl a dd) (tCons (eAny (C.su a Cl dd gs) e) (tCons (tC (.ref Cp)) tNil))) (fun q => ?_) fun F G H σ S xx Q k => he F G H σ S xx _ fun v G1 H1 eg1 eh1 S1 hv => ?_
  · have e1 := C.hK q.i
    have e2 := C.hmg q.i
    have hc' : CallR ((C.su a Cl dd gs).X q) (.builtin "isinstance") (rIsX C.K Cl a dd) := by
      have Z' : IsC (C.X q.i).K Cl := by rw [e1]; exact Z
      have := call_isX (a := a) (pn := q.pn) Z' q.zn q.fd
      rw [e1] at this
      exact this
    exact pe_cb2 (C := C.su a Cl dd gs) q hc' (hg q.i) hn (by decide +kernel) hs (fun _ _ => rfl) (pe_glob (hgx q.i) (by show (C.X q.i).mg x = _; rw [e2]; exact hm) rfl hdb)
  · obtain ⟨fs, h1, h2⟩ := xx.dx (dd, gs) (List.mem_singleton.mpr rfl)
    obtain rfl := dq_ref hv
    exact ⟨.ref Cp, .ref Cp, b, rfl, fun u z => z, hk, ⟨fs, S1.ex _ _ (eg1 _ _ h1)⟩, k _ G1 H1 eg1 eh1 S1 (.bl b)⟩
end
end Qp

/-! Q30: an item at a place that is not known, a text repeated, raising defs called by keyword where they do not raise, fine values. -/
namespace Qp
open PySem PySem.Spec PyProof.Rows L2
section
variable {C : Cs} {ls : List Loc} {e a b : Expr} {d d1 : D} {ds : List D} {p pos p1 p2 : Pos} {x : Str} {k : Nat} {Po : D → Prop} {kws : List Keyword} {ks : List Str} {perm : List Nat}
theorem atI_some {ds : List D} {i : Int} (h0 : 0 ≤ i) (h1 : i < ds.length) : ∃ d, atI ds i = some d ∧ d ∈ ds := by
  obtain ⟨k, rfl⟩ := Int.eq_ofNat_of_zero_le h0
  have hk : k < ds.length := by omega
  exact ⟨_, atI_nat (List.getElem?_eq_getElem hk), List.getElem_mem hk⟩
/-- an item of a list, at a place within it -/
theorem jx_ixD {i : Int} (q : D → Prop) (ha : JC C ls a ds) (hb : JE C ls b (.int i)) (h0 : 0 ≤ i ∧ i < ds.length) (hp : ∀ d ∈ ds, q d) (hs : PlainIx b := by intro _ _; rfl) : JX C ls (.Subscript a b pos) q := by
  obtain ⟨d, h1, h2⟩ := atI_some h0.1 h0.2
  exact JX.of (je_ixL ha hb h1 (hs := hs)) (hp d h2)
theorem JN.jc' (h : JN C ls e ds) : JC C ls e ds := fun F G H σ S xx Q q => by
  obtain ⟨t, h1, h2⟩ := h F G H σ S xx (fun v H' => Q v H') fun p vs G' H' eg eh nf S' hp hv => q p vs G' H' eg eh (S'.sub fun a fa => Or.inl fa) hp hv
  exact ⟨t, h1, h2⟩
/-- a text, repeated -/
def rMulS : V → V → Hp → VK → Prop := fun x y H Q => ∃ (s : Str) (n : Int), x = .str s ∧ y = .int n ∧ MulOk s n ∧ Q (.str (Txt.mul s n)) H
theorem op_mulS {X : Cx} : OpR X (binaryOp .Mult) rMulS := by
  intro pins s σ H x y v u Q I rx ry h
  obtain ⟨z, n, rfl, rfl, ok, q⟩ := h
  obtain ⟨t, rfl⟩ := rx
  obtain ⟨t', rfl⟩ := ry
  exact SB.mul ok fun t2 k => ⟨.str _, H, I.tok _, ⟨_, rfl⟩, q⟩
theorem je_mulStr {s : Str} {n : Int} (ha : JE C ls a (.str s)) (hb : JE C ls b (.int n)) (hc : MulOk s n) : JE C ls (.BinOp a .Mult b pos) (.str (Txt.mul s n)) :=
  je_of (fun j => pe_op op_mulS (pe_any C a j) (pe_any C b j)) (ev_op ha hb fun G H x y Q eg hx hy q => ⟨s, n, dq_str hx, dq_int hy, hc, q _ (.str _)⟩)
end
section
variable {C : Cs} {ls : List Loc} {a : Expr} {d : D} {pos pos' : Pos}
/-- a list of what is not all known -/
theorem jx_lst {xs : List Expr} {Pa : List D → Prop} (h : JXA C ls xs Pa) (hl : ∀ ds, Pa ds → ds.length ≤ 1000000) : JX C ls (.List xs pos) fun d => ∃ ds, d = .lst ds ∧ Pa ds := fun F G H σ S xx Q q =>
  ⟨_, fun j => pe_lst (pa_any C xs j), h.ev F G H σ S xx _ fun ds vs G' H' hp eg eh S' hv => ⟨by rw [hv.length]; exact Nat.le_trans (hl ds hp) (by decide), evN_lay S' hv fun p vs2 G2 H2 eg2 eh2 nf S2 hp2 hv2 => by
    have gp : G2 p = none := (S2.fo p (Or.inr rfl)).1
    exact q _ _ (upd G2 p (.lst vs2)) H2 ⟨ds, rfl, hp⟩ ((eg.trans eg2).trans (Ex.new gp)) (eh.trans eh2) (S2.freeze nf hp2) (.lst upd_same (dqAll_mono (Ex.new gp) hv2))⟩⟩
theorem jt_isN {k : Nat} (h : JE C ls a d) : JT C ls (.Compare a [.Is] [.Constant .none k pos'] pos) d.isNon :=
  jt_of (fun j => pt_cmp (pc_isN (pe_any C a j)) rfl) fun F G H σ S xx Q q => h F G H σ S xx _ fun v G' H' eg eh S' hv => ⟨d.isNon, by rw [← dq_isNon hv], q G' H' eg eh S'⟩
theorem jt_notN {k : Nat} (h : JE C ls a d) : JT C ls (.Compare a [.IsNot] [.Constant .none k pos'] pos) (!d.isNon) :=
  jt_of (fun j => pt_cmp (pc_notN (pe_any C a j)) rfl) fun F G H σ S xx Q q => h F G H σ S xx _ fun v G' H' eg eh S' hv => ⟨!d.isNon, by rw [← dq_isNon hv], q G' H' eg eh S'⟩
end
/-- a def that may raise, called with keywords ks behind n positional values -/
structure FkX (P : Program) (w : World) (K : Fg) (mg : Str → Option Value) (base : Heap) (k : Nat) (x : Str) (n : Nat) (ks : List Str) (perm : List Nat) (R : RelX) (T : Addr → Prop := fun _ => False) : Prop where
  ex : ∃ f fd ps, FnOk P w K mg base (L2N.CX P w) k f fd ps (spX K R T) ∧ mg x = some (.ref f) ∧ PySem.W.keepIn K (.ref f) = true ∧ KBinds K fd ps ks (gPerm n ks.length perm) (gPerm n ks.length perm)
theorem pass0X {X : Cx} : Passes (L2N.CX X.prog X.w) X (WE (fun _ _ _ _ => False) []) := fun pins σ H s e s' I c => L2N.passAt (takesN (X := X)) σ pins H s e s' I c
section
variable {C : Cs} {ls : List Loc} {e a b : Expr} {d d1 : D} {ds : List D} {p pos p1 p2 : Pos} {x : Str} {k : Nat} {R : RelX} {r : List D → Except (Addr × List (Str × D)) D → Prop} {Po : D → Prop} {Px : Addr → List (Str × D) → Prop} {kws : List Keyword} {ks : List Str} {perm : List Nat}
theorem jxn_callK0 [Cold C] (F : FkX C.P C.w C.K C.mg C.base k x 0 ks perm R C.E.T) (ha : JK C ls kws ds) (hl : ds.length = ks.length) (hR : R (perm.filterMap fun i => ds[i]?) Po Px) (hX : ∀ Cl gs, ¬ Px Cl gs) (hns : ∀ q ∈ kws, q.1.isSome = true := by decide) (hks : kws.filterMap (·.1) = ks := by rfl) (hk : k ≤ C.k := by exact Nat.le_of_ble_eq_true rfl) (hg : ∀ j, Gl (C.X j) x := by intro _; rfl) (hdb : (x == ("__debug__" : Str)) = false := by decide) :
    JX C ls (.Call (.Name x p) [] kws pos) Po := by
  obtain ⟨f, fd, ps, G, hm, kp, hb⟩ := F.ex
  refine fun F' G1 H1 σ S xx Q q => ⟨tCallK (spX C.K R C.E.T) (gPerm 0 ks.length perm) (WE (fun _ _ _ _ => False) []) tNil (kAny C kws), fun j => ?_, ha F' G1 H1 σ S xx _ fun vs G2 H2 eg2 eh2 S2 hv => ?_⟩
  · obtain ⟨h1, h2, h3⟩ := kw_some kws (C.X j).env pos hns
    exact pe_callK0 (fnAtX G hk j) (C.cold j Cold.h) (hg j) (by rw [C.hmg]; exact hm) (by rw [C.hK]; exact kp) (by rw [C.hK]; exact hb) pass0X (pk_any C kws j) h1 (h3.trans hks) h2 hdb
  · have e1 : gPerm 0 ks.length perm [] vs = perm.filterMap fun i => vs[i]? := by
      unfold gPerm
      rw [if_pos ⟨rfl, by rw [hv.length]; exact hl⟩]
      rfl
    rw [e1]
    refine ⟨G2, _, Po, Px, S2.ex, (xx.step eg2 eh2).tb, dqAll_perm hv perm, hR, fun d hd G3 H3 v eg3 e3 eh3 n3 hv3 => q d v G3 H3 hd (eg2.trans eg3) (eh2.trans eh3) (S2.grow eg3 eh3 e3 fun a ha => ?_) hv3, fun Cl gs hp => (hX Cl gs hp).elim⟩
    by_cases h2 : NT H2 a
    · exact Or.inl fun g => ha (n3 a h2 g)
    · exact Or.inr h2
/-- by keyword, where the answer is d -/
theorem je_callKX [Cold C] (F : FkX C.P C.w C.K C.mg C.base k x 0 ks perm (detX r) C.E.T) (ha : JK C ls kws ds) (hl : ds.length = ks.length) (hR : r (perm.filterMap fun i => ds[i]?) (.ok d)) (hns : ∀ q ∈ kws, q.1.isSome = true := by decide) (hks : kws.filterMap (·.1) = ks := by rfl) (hk : k ≤ C.k := by exact Nat.le_of_ble_eq_true rfl) (hg : ∀ j, Gl (C.X j) x := by intro _; rfl) (hdb : (x == ("__debug__" : Str)) = false := by decide) :
    JE C ls (.Call (.Name x p) [] kws pos) d := JX.je ((jxn_callK0 F ha hl ⟨_, hR, rfl, rfl⟩ (fun Cl gs z => by cases z) hns hks hk hg hdb).mono fun d' z => by cases z; rfl)
/-- by position, where the answer is d -/
theorem je_callX [Cold C] (F : FnX C.P C.w C.K C.mg C.base k x (detX r) C.E.T) {es : List Expr} (ha : JA C ls (e :: es) ds) (hR : r ds (.ok d)) (hk : k ≤ C.k := by exact Nat.le_of_ble_eq_true rfl) (hg : ∀ j, Gl (C.X j) x := by intro _; rfl) (hdb : (x == ("__debug__" : Str)) = false := by decide) :
    JE C ls (.Call (.Name x p) (e :: es) [] pos) d := JX.je ((jxr_call F ha ⟨_, hR, rfl, rfl⟩ (fun Cl gs z => by cases z) hk hg hdb).mono fun d' z => by cases z; rfl)
end
section
variable {P : Program} {w : World} {K : Fg} {mg : Str → Option Value} {base : Heap} {k : Nat} {x : Str} {st : Stmt} {ps ks : List Str} {T : Addr → Prop} {n : Nat} {perm : List Nat} {R : RelX} {c : Addr}
theorem FT.fkX (Y : FT K mg x st) (G : ∀ {f fd}, Fun K x x st f fd → FnOk P w K mg base (L2N.CX P w) k f fd ps (spX K R T)) (hp : ps ≠ [])
    (h : ∀ (kV doc pm : Value) (an : Option Addr) (cdv ct : Value) (us ws : List Value), us.length = n → ws.length = ks.length → bindArgs (PySem.W.fnOf x x (defArgs st) (defBody st) (defScope st) .none kV doc pm an cdv ct) ⟨us, ks.zip ws⟩ = pure (ps.zip (perm.filterMap fun i => (us ++ ws)[i]?))) : FkX P w K mg base k x n ks perm R T := by
  obtain ⟨f, fd, F, hm⟩ := Y.ex
  obtain ⟨oc, od, kV, doc, pm, an, cdv, ct, osl, rfl, lk, hcd⟩ := F.ex
  exact ⟨f, _, ps, G F, hm, F.kp, kb_of hp (h kV doc pm an cdv ct)⟩
end
/-! ### fine values -/
/-- None, bools, ints, texts, and lists and tuples of these, n within one another -/
def okn : Nat → D → Bool
  | _, .non => true
  | _, .bl _ => true
  | _, .int _ => true
  | _, .str x => PyData.strOk x
  | n + 1, .lst ds => ds.all (okn n) && decide (ds.length < 1000)
  | n + 1, .tup ds => ds.all (okn n) && decide (ds.length < 1000)
  | _, _ => false
theorem okn_succ : ∀ (n : Nat) (d : D), okn n d = true → okn (n + 1) d = true
  | _, .non, _ => by simp [okn]
  | _, .bl _, _ => by simp [okn]
  | _, .int _, _ => by simp [okn]
  | 0, .str _, h => by simpa [okn] using h
  | _ + 1, .str _, h => by simpa [okn] using h
  | 0, .lst _, h => by simp [okn] at h
  | 0, .tup _, h => by simp [okn] at h
  | n + 1, .lst ds, h => by
    rw [okn, Bool.and_eq_true, List.all_eq_true] at h ⊢
    exact ⟨fun d hd => okn_succ n d (h.1 d hd), h.2⟩
  | n + 1, .tup ds, h => by
    rw [okn, Bool.and_eq_true, List.all_eq_true] at h ⊢
    exact ⟨fun d hd => okn_succ n d (h.1 d hd), h.2⟩
  | 0, .scr _, h => by simp [okn] at h
  | 0, .ref _, h => by simp [okn] at h
  | 0, .ty _, h => by simp [okn] at h
  | 0, .exc _ _ _, h => by simp [okn] at h
  | 0, .hand _ _, h => by simp [okn] at h
  | 0, .loose _ _, h => by simp [okn] at h
  | _ + 1, .scr _, h => by simp [okn] at h
  | _ + 1, .ref _, h => by simp [okn] at h
  | _ + 1, .ty _, h => by simp [okn] at h
  | _ + 1, .exc _ _ _, h => by simp [okn] at h
  | _ + 1, .hand _ _, h => by simp [okn] at h
  | _ + 1, .loose _ _, h => by simp [okn] at h
theorem okn_le {n m : Nat} {d : D} (h : okn n d = true) (hm : n ≤ m) : okn m d = true := by
  induction hm with
  | refl => exact h
  | step _ ih => exact okn_succ _ d ih
theorem okn_tup {n : Nat} {ds : List D} (h : ∀ d ∈ ds, okn n d = true) (hl : ds.length < 1000) : okn (n + 1) (.tup ds) = true := by
  rw [okn, Bool.and_eq_true, List.all_eq_true]
  exact ⟨h, decide_eq_true hl⟩
theorem okn_lst {n : Nat} {ds : List D} (h : ∀ d ∈ ds, okn n d = true) (hl : ds.length < 1000) : okn (n + 1) (.lst ds) = true := by
  rw [okn, Bool.and_eq_true, List.all_eq_true]
  exact ⟨h, decide_eq_true hl⟩
theorem okn_iL {n : Nat} (ns : List Int) : ∀ d ∈ iL ns, okn n d = true := fun d hd => by
  obtain ⟨i, _, rfl⟩ := List.mem_map.mp hd
  cases n <;> simp [okn]
theorem okn_flat {n : Nat} {d : D} (h : okn n d = true) : d.flatK = true := by
  cases d <;> first | rfl | (cases n <;> simp [okn] at h)
theorem plainAll_of : ∀ {ds : List D}, (∀ d ∈ ds, d.plain = true) → plainAll ds = true
  | [], _ => rfl
  | d :: ds, h => by
    show (d.plain && plainAll ds) = true
    rw [h d List.mem_cons_self, plainAll_of fun e he => h e (List.mem_cons_of_mem _ he)]
    rfl
theorem okn_plain : ∀ (n : Nat) (d : D), okn n d = true → d.plain = true
  | _, .non, _ => rfl
  | _, .bl _, _ => rfl
  | _, .int _, _ => rfl
  | _, .str _, _ => rfl
  | 0, .lst _, h => by simp [okn] at h
  | 0, .tup _, h => by simp [okn] at h
  | n + 1, .lst ds, h => by
    rw [okn, Bool.and_eq_true, List.all_eq_true] at h
    simp only [D.plain]
    exact plainAll_of fun d hd => okn_plain n d (h.1 d hd)
  | n + 1, .tup ds, h => by
    rw [okn, Bool.and_eq_true, List.all_eq_true] at h
    simp only [D.plain]
    exact plainAll_of fun d hd => okn_plain n d (h.1 d hd)
  | 0, .scr _, h => by simp [okn] at h
  | 0, .ref _, h => by simp [okn] at h
  | 0, .ty _, h => by simp [okn] at h
  | 0, .exc _ _ _, h => by simp [okn] at h
  | 0, .hand _ _, h => by simp [okn] at h
  | 0, .loose _ _, h => by simp [okn] at h
  | _ + 1, .scr _, h => by simp [okn] at h
  | _ + 1, .ref _, h => by simp [okn] at h
  | _ + 1, .ty _, h => by simp [okn] at h
  | _ + 1, .exc _ _ _, h => by simp [okn] at h
  | _ + 1, .hand _ _, h => by simp [okn] at h
  | _ + 1, .loose _ _, h => by simp [okn] at h
theorem canAll_of : ∀ {ds : List D}, (∀ d ∈ ds, PyData.canLay0 d.py = true) → PyData.canLayAll0 (pyAll ds) = true
  | [], _ => by simp [pyAll, PyData.canLayAll0]
  | d :: ds, h => by
    simp only [pyAll, PyData.canLayAll0]
    rw [h d List.mem_cons_self, canAll_of fun e he => h e (List.mem_cons_of_mem _ he)]
    rfl
theorem okn_can : ∀ (n : Nat) (d : D), okn n d = true → PyData.canLay0 d.py = true
  | _, .non, _ => by simp [D.py, PyData.canLay0]
  | _, .bl _, _ => by simp [D.py, PyData.canLay0]
  | _, .int _, _ => by simp [D.py, PyData.canLay0]
  | 0, .str _, h => by simpa [D.py, PyData.canLay0, okn] using h
  | _ + 1, .str _, h => by simpa [D.py, PyData.canLay0, okn] using h
  | 0, .lst _, h => by simp [okn] at h
  | 0, .tup _, h => by simp [okn] at h
  | n + 1, .lst ds, h => by
    rw [okn, Bool.and_eq_true, List.all_eq_true] at h
    simp only [D.py, PyData.canLay0]
    exact canAll_of fun d hd => okn_can n d (h.1 d hd)
  | n + 1, .tup ds, h => by
    rw [okn, Bool.and_eq_true, List.all_eq_true] at h
    simp only [D.py, PyData.canLay0]
    exact canAll_of fun d hd => okn_can n d (h.1 d hd)
  | 0, .scr _, h => by simp [okn] at h
  | 0, .ref _, h => by simp [okn] at h
  | 0, .ty _, h => by simp [okn] at h
  | 0, .exc _ _ _, h => by simp [okn] at h
  | 0, .hand _ _, h => by simp [okn] at h
  | 0, .loose _ _, h => by simp [okn] at h
  | _ + 1, .scr _, h => by simp [okn] at h
  | _ + 1, .ref _, h => by simp [okn] at h
  | _ + 1, .ty _, h => by simp [okn] at h
  | _ + 1, .exc _ _ _, h => by simp [okn] at h
  | _ + 1, .hand _ _, h => by simp [okn] at h
  | _ + 1, .loose _ _, h => by simp [okn] at h
theorem depthAll_le : ∀ {ds : List D} {m : Nat}, (∀ d ∈ ds, PyData.depth d.py ≤ m) → PyData.depthAll (pyAll ds) ≤ m
  | [], m, _ => by simp [pyAll, PyData.depthAll]
  | d :: ds, m, h => by
    simp only [pyAll, PyData.depthAll]
    have h1 := h d List.mem_cons_self
    have h2 := depthAll_le (ds := ds) (m := m) fun e he => h e (List.mem_cons_of_mem _ he)
    omega
theorem okn_depth : ∀ (n : Nat) (d : D), okn n d = true → PyData.depth d.py ≤ n + 1
  | _, .non, _ => by simp [D.py, PyData.depth]
  | _, .bl _, _ => by simp [D.py, PyData.depth]
  | _, .int _, _ => by simp [D.py, PyData.depth]
  | _, .str _, _ => by simp [D.py, PyData.depth]
  | 0, .lst _, h => by simp [okn] at h
  | 0, .tup _, h => by simp [okn] at h
  | n + 1, .lst ds, h => by
    rw [okn, Bool.and_eq_true, List.all_eq_true] at h
    simp only [D.py, PyData.depth]
    have := depthAll_le (ds := ds) (m := n + 1) fun d hd => okn_depth n d (h.1 d hd)
    omega
  | n + 1, .tup ds, h => by
    rw [okn, Bool.and_eq_true, List.all_eq_true] at h
    simp only [D.py, PyData.depth]
    have := depthAll_le (ds := ds) (m := n + 1) fun d hd => okn_depth n d (h.1 d hd)
    omega
  | 0, .scr _, h => by simp [okn] at h
  | 0, .ref _, h => by simp [okn] at h
  | 0, .ty _, h => by simp [okn] at h
  | 0, .exc _ _ _, h => by simp [okn] at h
  | 0, .hand _ _, h => by simp [okn] at h
  | 0, .loose _ _, h => by simp [okn] at h
  | _ + 1, .scr _, h => by simp [okn] at h
  | _ + 1, .ref _, h => by simp [okn] at h
  | _ + 1, .ty _, h => by simp [okn] at h
  | _ + 1, .exc _ _ _, h => by simp [okn] at h
  | _ + 1, .hand _ _, h => by simp [okn] at h
  | _ + 1, .loose _ _, h => by simp [okn] at h
theorem okn_shp {n : Nat} {d : D} (h : okn n d = true) (hn : n ≤ 60 := by decide) : Shp d := ⟨okn_plain n d h, by
  unfold SeqAt.shaped
  rw [okn_can n d h, Bool.true_and]
  have := okn_depth n d h
  exact decide_eq_true (by omega)⟩
mutual
theorem eqv_self : ∀ d : D, PyData.eqv d.py d.py = true
  | .non => by simp [D.py, PyData.eqv]
  | .bl _ => by simp [D.py, PyData.eqv]
  | .int _ => by simp [D.py, PyData.eqv]
  | .str _ => by simp [D.py, PyData.eqv]
  | .lst ds => by simp only [D.py, PyData.eqv]; exact eqvAll_self ds
  | .tup ds => by simp only [D.py, PyData.eqv]; exact eqvAll_self ds
  | .scr _ => by simp [D.py, PyData.eqv]
  | .ref _ => by simp [D.py, PyData.eqv]
  | .ty _ => by simp [D.py, PyData.eqv]
  | .exc _ _ _ => by simp [D.py, PyData.eqv]
  | .hand _ _ => by simp [D.py, PyData.eqv]
  | .loose _ _ => by simp [D.py, PyData.eqv]
theorem eqvAll_self : ∀ ds : List D, PyData.eqvAll (pyAll ds) (pyAll ds) = true
  | [] => by simp [pyAll, PyData.eqvAll]
  | d :: ds => by
    simp only [pyAll, PyData.eqvAll]
    rw [eqv_self d, eqvAll_self ds]
    rfl
end
end Qp

/-! Q31: exceptions as values: made, their fields, isinstance; isinstance with (list, tuple); texts joined, a text's sign. -/
namespace Qp
open PySem PySem.Spec PyProof.Rows L2
/-! ### an exception is made -/
def tMkV (Cl : Addr) (sp : Sp) (ta : TA) : TE := fun σ H Q => ta σ H fun vs H1 => vs.length ≤ 1000 ∧ ∀ a, H1 a = none → sp (.ref a :: (vs ++ [])) (upd H1 a (exo a Cl none)) (fun x H' => x = .non ∧ Q (.ref a) H') (fun _ _ _ => False)
section
variable {X : Cx} {x : Str} {Cl fI : Addr} {k : Nat} {fd : FuncData} {ps : List Str} {sp : Sp} {e : Expr} {es : List Expr} {ta : TA} {p pos : Pos}
theorem pe_mkV (o : OexC X.K Cl) (hi : PySem.W.findIn X.K (.ref Cl) "__init__" = some (some (.ref fI))) (ht : PySem.W.typeIn X.K (.ref fI) = some (.type "function")) (G : FnOk X.prog X.w X.K X.mg X.base CX0 k fI fd ps sp) (rm : Room (k + 1) X.A) (bd : Binds X.K fd ps []) (gl : Gl X x) (hm : X.mg x = some (.ref Cl))
    (pa : PA X (e :: es) ta) (hdb : (x == ("__debug__" : Str)) = false) (st1 : starEach (e :: es) X.env = (false, eval e X.env) :: starEach es X.env) (st2 : (backTo pos (starEach es X.env)).any (·.1) = false) : PE X (.Call (.Name x p) (e :: es) [] pos) (tMkV Cl sp ta) := by
  refine ⟨fun pins s σ H Q I h => ?_⟩
  obtain ⟨z1, z2, z3, z4, z5, z6, z7, z8, z9, y1, y2, y3, y4, y5, y6, lk, rv⟩ := o.cls
  refine wpAny_Call_Name_kw (ld_glob I gl hm (PySem.W.callWith_K (h₀ := X.base) I.ok.mod.kin o.kC (thn (pa.run pos pins s σ H _ I h) fun us s1 ⟨vs, H1, I1, r1, len, q1⟩ => ⟨I1.kIn, ?_⟩) st1 st2) hdb)
  show wpAny _ _ (call (.ref Cl) us) _ _ _
  obtain ⟨hp, g, dr, tk, os⟩ := s1
  let ob : Addr := hp.objs.size + 1
  let hp2 : Heap := (hp.push (PySem.W.kdv_tup us)).push (PySem.HandSPX.excO Cl hp.objs.size)
  have lt : hp.objs.size ≤ ob := Nat.le_succ _
  have fresh : H1 ob = none := I1.hok.fresh lt
  have q2 := q1 ob fresh
  have kp : ∀ b o, hp.get? b = some o → hp2.get? b = some o := fun b o e => Heap.get?_push_of_some _ (Heap.get?_push_of_some _ e)
  have at2 : hp2.get? ob = some (PySem.HandSPX.excO Cl hp.objs.size) := by
    show ((hp.push (PySem.W.kdv_tup us)).push (PySem.HandSPX.excO Cl hp.objs.size)).get? (hp.objs.size + 1) = _
    heap_get
  have I2 : Inv X pins σ (upd H1 ob (exo ob Cl none)) ⟨hp2, g, dr, tk, os⟩ := I1.laid (t' := tk) kp lt (exo_ok at2)
  have r2 : Vals (V.ref ob :: (vs ++ [])) (Value.ref ob :: (us ++ [])) := .cons rfl (r1.append .nil)
  have n2 : (Value.ref ob :: us ++ []).length = ps.length := r2.length.symm.trans (G.len _ _ _ _ q2)
  have n3 : us.length ≤ sizeLine := by
    have := Paired.length r1
    rw [sizeLine_eq]
    omega
  have b2 := bd ⟨hp2, g, dr, tk, os⟩ (Value.ref ob :: us) I2.kIn n2
  rw [List.cons_append] at b2
  have run := G.run _ X.stack _ _ ⟨Value.ref ob :: us, []⟩ (Value.ref ob :: (us ++ [])) _ _ (fun _ _ _ => False) (rm.make Cl us []) (I2.env0.make Cl us []) b2 r2 q2
  refine wpAny_call (PySem.HandSPX.call_own F.excBase_ValueError (fun Y => PySem.HandSPX.refsVE_contains Y z5 rv) (I1.kIn _ _ lk) (PySem.W.looks_findIn I1.kIn hi) (fun self => PySem.W.bind_fn I1.kIn self ht) n3 (codeAny_mono run fun r s' hr => ?_))
  cases r with
  | error er => exact hr.elim
  | ok fl =>
    cases fl with
    | next => exact hr.elim
    | brk => exact hr.elim
    | cont => exact hr.elim
    | ret u =>
      obtain ⟨v, H2, J, rv2, ev, q3⟩ := I2.after hr
      subst ev
      exact ⟨rv2, .ref ob, H2, J, rfl, q3⟩
end
section
variable {C : Cs} {ls : List Loc} {e a : Expr} {es : List Expr} {d : D} {ds : List D} {p p2 p3 p4 pos pos2 : Pos} {x : Str} {Cl : Addr} {fl : List Str}
theorem je_mkE [Cold C] (X : ExcT C.P C.w C.K C.mg C.base x Cl fl) (ha : JA C ls (e :: es) ds) (hn : ds.length = fl.length := by rfl) (hk : 2 ≤ C.k := by exact Nat.le_of_ble_eq_true rfl) (hg : ∀ j, Gl (C.X j) x := by intro _; rfl) (hdb : (x == ("__debug__" : Str)) = false := by decide)
    (hsm : fl.length ≤ 1000 := by exact Nat.le_of_ble_eq_true rfl) : JE C ls (.Call (.Name x p) (e :: es) [] pos) (.exc Cl fl ds) := by
  obtain ⟨fI, fd, ps, h1, h2, h3, h4⟩ := X.ini
  refine je_of (t := tMkV Cl (spI Cl fl) (aAny C (e :: es))) (fun j => ?_) fun F G H σ S xx Q q => ha.ev F G H σ S xx _ fun vs G1 H1 eg1 eh1 S1 hv => ?_
  · have hm := X.g
    have ho := X.o
    have e1 := C.hK j
    have e2 := C.hmg j
    rw [← e2] at hm
    rw [← e1] at ho h1 h2 h3
    have h4' : FnOk (C.X j).prog (C.X j).w (C.X j).K (C.X j).mg (C.X j).base CX0 1 fI fd ps (spI Cl fl) := by
      rw [C.hP, C.hw, C.hK, C.hmg, C.hbase]
      exact h4
    exact pe_mkV ho h1 h2 h4' ((C.cold j Cold.h).mono hk) h3 (hg j) hm (pa_any C (e :: es) j) hdb (ha.ns e List.mem_cons_self _ _) (ns_any (fun y hy => ha.ns y (List.mem_cons_of_mem _ hy)) _ _)
  · have hl := hv.length
    refine ⟨by omega, fun ob hob => ⟨ob, vs, by rw [List.append_nil], by omega, upd_same, fun dx hdx hne => ⟨rfl, ?_⟩⟩⟩
    rw [upd_ne hne] at hdx
    have eH : upd (upd (upd H1 ob (exo ob Cl none)) dx (exd dx (fl.zip vs).reverse)) ob (exo ob Cl (some dx)) = upd (upd H1 dx (exd dx (fl.zip vs).reverse)) ob (exo ob Cl (some dx)) := funext fun b => by
      by_cases e1 : b = ob
      · rw [e1, upd_same, upd_same]
      · rw [upd_ne e1, upd_ne e1]
        by_cases e2 : b = dx
        · rw [e2, upd_same, upd_same]
        · rw [upd_ne e2, upd_ne e2, upd_ne e1]
    rw [eH]
    have g := S1.ex.fresh hdx
    have n1 : Ex G1 (upd G1 dx (exd dx (fl.zip vs).reverse)) := Ex.new g
    have S2 := S1.made (o := exd dx (fl.zip vs).reverse) hdx
    have hob2 : (upd H1 dx (exd dx (fl.zip vs).reverse)) ob = none := by rw [upd_ne (Ne.symm hne)]; exact hob
    have g2 := S2.ex.fresh hob2
    have n2 : Ex (upd G1 dx (exd dx (fl.zip vs).reverse)) (upd (upd G1 dx (exd dx (fl.zip vs).reverse)) ob (exo ob Cl (some dx))) := Ex.new g2
    refine q _ (upd (upd G1 dx (exd dx (fl.zip vs).reverse)) ob (exo ob Cl (some dx))) _ (eg1.trans (n1.trans n2)) (eh1.trans ((Ex.new hdx).trans (Ex.new hob2))) (S2.made hob2) (.exc upd_same (by rw [upd_ne hne, upd_same]) (dqAll_mono (n1.trans n2) hv))
end
/-! ### fields, isinstance -/
theorem dq_exc {K : Fg} {G : Hp} {v : V} {Cl : Addr} {fl : List Str} {ds : List D} (h : Dq K G v (.exc Cl fl ds)) : ∃ a dd vs, v = .ref a ∧ G a = some (exo a Cl (some dd)) ∧ G dd = some (exd dd (fl.zip vs).reverse) ∧ DqAll K G vs ds := by
  cases h with
  | exc h1 h2 h3 => exact ⟨_, _, _, rfl, h1, h2, h3⟩
def tXv (Cl : Addr) (n : Str) (te : TE) : TE := fun σ H Q => te σ H fun x H1 => ∃ (a dd : Addr) (fs : List (Str × V)) (v : V), x = .ref a ∧ H1 a = some (exo a Cl (some dd)) ∧ H1 dd = some (exd dd fs) ∧ fs.lookup n = some v ∧ Q v H1
theorem inst_exo {X : Cx} {pins : List (Addr × Obj)} {σ : L2.St} {H : Hp} {s : Shared} {a Cl dd : Addr} {fs : List (Str × V)} (I : Inv X pins σ H s) (h1 : H a = some (exo a Cl (some dd))) (h2 : H dd = some (exd dd fs)) :
    ∃ (oe od : Obj) (mA : Str → Option Value), PySem.W.InstAt s.heap a oe Cl (some od) ∧ (∀ name, PySem.W.lookIn name od = some (mA name)) ∧ ∀ f, RelO (fs.lookup f) (mA f) := by
  obtain ⟨t1, ha⟩ := exo_at I.hok h1
  obtain ⟨mA, hns, hr⟩ := exd_at I.hok h2
  obtain ⟨od, ho, hl⟩ := lookIn_ns hns
  exact ⟨_, od, mA, ⟨ha, rfl, rfl, ho⟩, hl, hr⟩
section
variable {X : Cx} {e : Expr} {te : TE} {pos : Pos} {n : Str} {Cl : Addr}
theorem pe_xv (T : XfC X.K Cl) (hno : PySem.W.findIn X.K (.ref Cl) n = some none) (he : PE X e te) (hb : attributeBase e n X.env (eval e X.env) = eval e X.env) : PE X (.Attribute e n pos) (tXv Cl n te) := by
  refine ⟨fun pins s σ H Q I h => ?_⟩
  refine attr_of hb (thn (he.run pins s σ H _ I h) fun u s1 hh => ?_)
  obtain ⟨x, H1, I1, rx, a, dd, fs, v, rfl, h1, h2, l, q⟩ := hh
  obtain rfl : u = Value.ref a := rx
  obtain ⟨oe, od, mA, J, hl, hr⟩ := inst_exo I1 h1 h2
  obtain ⟨u, hu, ru⟩ := RelO.some_of (v := v) (o := mA n) (by rw [← l]; exact hr n)
  exact HandSPX.exc_get I1.kIn J T.ga T.gg T.exC (PySem.W.findObj_own T.hdC hno rfl (by rw [hl, hu])) (handed_of ru) ⟨v, H1, I1.tok _, ru, q⟩
/-- isinstance(an exception of the class Cl, a class) -/
def rIsV (K : Fg) (Cl : Addr) : List V → Hp → VK → Prop := fun xs H Q => ∃ (a dd : Addr) (fs : List (Str × V)) (c : V) (cv : Value) (b : Bool), xs = [.ref a, c] ∧ H a = some (exo a Cl (some dd)) ∧ H dd = some (exd dd fs) ∧ (∀ u, RelV c u → u = cv) ∧ PySem.W.kitOne K (.ref Cl) cv = some b ∧ Q (.bl b) H
theorem call_isV (Z : IsC X.K Cl) : CallR X (.builtin "isinstance") (rIsV X.K Cl) := by
  intro pins s σ H xs us Q I r h
  obtain ⟨a, dd, fs, c, cv, b, rfl, h1, h2, hcv, e, q⟩ := h
  cases r with
  | cons rx rr =>
    cases rr with
    | cons rt rr =>
      cases rr
      cases rx
      obtain rfl := hcv _ rt
      obtain ⟨oe, od, mA, J, _, _⟩ := inst_exo I h1 h2
      exact PySem.W.kia_one (PySem.W.kitx_exc Z.cl Z.hg Z.hk Z.hs Z.ha Z.hn Z.ht Z.hm) I.kIn J e (fun z => nomatch z) fun tk => ⟨.bl b, H, I.kept (t' := tk) fun _ _ z => z, rfl, q⟩
end
theorem lookup_zip {K : Fg} {G : Hp} : ∀ {fl : List Str} {vs : List V} {ds : List D} {n : Str} {d : D}, DqAll K G vs ds → ((fl.zip ds).reverse.lookup n = some d) → ∃ v, (fl.zip vs).reverse.lookup n = some v ∧ Dq K G v d := fun {fl vs ds n d} h e => by
  have h2 : FsOk K G (fl.zip vs).reverse (fl.zip ds).reverse := fs_zip h
  exact fs_lookup h2 e
section
variable {C : Cs} {ls : List Loc} {e a o : Expr} {es : List Expr} {d : D} {ds : List D} {p p1 p2 p3 p4 pos pos2 : Pos} {x n : Str} {Cl Cp : Addr} {fl : List Str} {b : Bool}
/-- a field -/
theorem je_xv (he : JE C ls e (.exc Cl fl ds)) (T : XfC C.K Cl) (hno : PySem.W.findIn C.K (.ref Cl) n = some none) (hl : (fl.zip ds).reverse.lookup n = some d)
    (hb : ∀ env : Env, attributeBase e n env (eval e env) = eval e env := by intro _; rfl) : JE C ls (.Attribute e n pos) d := by
  refine je_of (t := tXv Cl n (eAny C e)) (fun j => ?_) fun F G H σ S xx Q k => he F G H σ S xx _ fun v G1 H1 eg1 eh1 S1 hv => ?_
  · have e1 := C.hK j
    rw [← e1] at T hno
    exact pe_xv T hno (pe_any C e j) (hb _)
  · obtain ⟨a, dd, vs, rfl, h1, h2, h3⟩ := dq_exc hv
    obtain ⟨w, h4, h5⟩ := lookup_zip (fl := fl) h3 hl
    exact ⟨a, dd, _, w, rfl, S1.ex _ _ h1, S1.ex _ _ h2, h4, k w G1 H1 eg1 eh1 S1 h5⟩
theorem is_V' (C : Cs) (j : C.ι) (Z : IsC C.K Cl) : CallR (C.X j) (.builtin "isinstance") (rIsV C.K Cl) := by
  have e1 := C.hK j
  have Z' : IsC (C.X j).K Cl := by rw [e1]; exact Z
  have := call_isV Z'
  rw [e1] at this
  exact this
theorem je_isV (he : JE C ls e (.exc Cl fl ds)) (Z : IsC C.K Cl) (hm : C.mg x = some (.ref Cp)) (hk : PySem.W.kitOne C.K (.ref Cl) (.ref Cp) = some b) (hn : NoG C "isinstance" := by assumption) (hg : ∀ j, Gl (C.X j) "isinstance" := by intro _; rfl) (hgx : ∀ j, Gl (C.X j) x := by intro _; rfl)
    (hs : NS e := by intro _ _; rfl) (hdb : (x == ("__debug__" : Str)) = false := by decide) : JE C ls (.Call (.Name "isinstance" p1) [e, .Name x p2] [] pos) (.bl b) := by
  refine je_of (t := tCB (rIsV C.K Cl) (tCons (eAny C e) (tCons (tC (.ref Cp)) tNil))) (fun j => ?_) fun F G H σ S xx Q k => he F G H σ S xx _ fun v G1 H1 eg1 eh1 S1 hv => ?_
  · have e2 := C.hmg j
    exact pe_cb2 j (is_V' C j Z) (hg j) hn (by decide +kernel) hs (fun _ _ => rfl) (pe_glob (hgx j) (by rw [e2]; exact hm) rfl hdb)
  · obtain ⟨a, dd, vs, rfl, h1, h2, h3⟩ := dq_exc hv
    exact ⟨a, dd, _, .ref Cp, .ref Cp, b, rfl, S1.ex _ _ h1, S1.ex _ _ h2, fun u z => z, hk, k _ G1 H1 eg1 eh1 S1 (.bl b)⟩
/-- a built-in class -/
theorem je_isVB {T : Str} {U : String} (he : JE C ls e (.exc Cl fl ds)) (Z : IsC C.K Cl) (hT : bootBuiltins T = some (.type U)) (hk : PySem.W.kitOne C.K (.ref Cl) (.type U) = some b) (hnT : NoG C T := by assumption) (hn : NoG C "isinstance" := by assumption) (hg : ∀ j, Gl (C.X j) "isinstance" := by intro _; rfl) (hgT : ∀ j, Gl (C.X j) T := by intro _; rfl)
    (hs : NS e := by intro _ _; rfl) (hnn : T ≠ "__name__" := by decide) (hdb : (T == ("__debug__" : Str)) = false := by decide) : JE C ls (.Call (.Name "isinstance" p1) [e, .Name T p2] [] pos) (.bl b) := by
  refine je_of (t := tCB (rIsV C.K Cl) (tCons (eAny C e) (tCons (tC (.ty U)) tNil))) (fun j => ?_) fun F G H σ S xx Q k => he F G H σ S xx _ fun v G1 H1 eg1 eh1 S1 hv => ?_
  · exact pe_cb2 j (is_V' C j Z) (hg j) hn (by decide +kernel) hs (fun _ _ => rfl) (pe_bltn (v := .ty U) (pos := p2) (hgT j) (noG hnT j) hT rfl hnn hdb)
  · obtain ⟨a, dd, vs, rfl, h1, h2, h3⟩ := dq_exc hv
    exact ⟨a, dd, _, .ty U, .type U, b, rfl, S1.ex _ _ h1, S1.ex _ _ h2, fun u z => z, hk, k _ G1 H1 eg1 eh1 S1 (.bl b)⟩
/-! ### isinstance(x, (list, tuple)) -/
theorem isiT' (C : Cs) (j : C.ι) : CallR (C.X j) (.builtin "isinstance") (rIsiT C.K) := kx (p := fun K => CallR (C.X j) (.builtin "isinstance") (rIsiT K)) j call_isiT
theorem je_isLT {k : Nat} (ha : JE C ls a d) (hf : d.flatK = true) (hL : NoG C "list" := by assumption) (hT : NoG C "tuple" := by assumption) (hn : NoG C "isinstance" := by assumption) (hg : ∀ j, Gl (C.X j) "isinstance" := by intro _; rfl) (hgL : ∀ j, Gl (C.X j) "list" := by intro _; rfl) (hgT : ∀ j, Gl (C.X j) "tuple" := by intro _; rfl)
    (hs : NS a := by intro _ _; rfl) : JE C ls (.Call (.Name "isinstance" p1) [a, .Tuple [.Name "list" p2, .Name "tuple" p3] k p4] [] pos) (.bl (d.isLst || d.isTup)) := by
  refine je_of (t := tCB (rIsiT C.K) (tCons (eAny C a) (tCons (tTup (tCons (tC (.ty "list")) (tCons (tC (.ty "tuple")) tNil))) tNil))) (fun j => ?_) fun F G H σ S xx Q q => ha F G H σ S xx _ fun v G1 H1 eg1 eh1 S1 hv => ?_
  · exact pe_cb2 j (isiT' C j) (hg j) hn (by decide +kernel) hs (fun _ _ => rfl) (pe_tup (pa_cons (pe_bltn (v := .ty "list") (hgL j) (noG hL j) (by rfl) rfl) (pa_cons (pe_bltn (v := .ty "tuple") (hgT j) (noG hT j) (by rfl) rfl) pa_nil (by rfl)) (by rfl)))
  · refine ⟨by decide, fun tp htp => ?_⟩
    have g := S1.ex.fresh htp
    have S2 := S1.made (o := .tup [.ty "list", .ty "tuple"]) htp
    refine ⟨v, tp, [.ty "list", .ty "tuple"], .type d.kind, [.type "list", .type "tuple"], d.isLst || d.isTup, rfl, upd_same, .cons (.ty _) (.cons (.ty _) .nil), tyx_of (S1.ex.trans (Ex.new htp)) hv hf, ?_, q _ _ _ (eg1.trans (Ex.new g)) (eh1.trans (Ex.new htp)) S2 (.bl _)⟩
    exact kitAny_cons (kit_ty (kit_lst d hf)) (fun z => by
      rw [z, Bool.false_or]
      exact kitAny_cons (kit_ty (kit_tup d hf)) (fun z2 => by rw [z2]; exact kitAny_nil) (fun z2 => z2)) (fun z => by rw [z]; rfl)
/-! ### texts -/
theorem dqAll_strs {K : Fg} {G : Hp} : ∀ {vs : List V} {ys : List Str}, DqAll K G vs (ys.map D.str) → vs = ys.map V.str
  | [], [], _ => rfl
  | _, y :: ys, .cons h r => by
    rw [dq_str h, dqAll_strs r]
    rfl
theorem je_join {z : Str} {ys : List Str} {apos : Pos} (ho : JE C ls o (.str z)) (he : JC C ls e (ys.map D.str)) (hl : (ys.map (·.length)).sum + ys.length * z.length ≤ 16777216) (hs : NS e := by intro _ _; rfl)
    (hb : ∀ env : Env, attributeBase o "join" env (eval o env) = eval o env := by intro _; rfl) (hline : (apos.endLine == pos.line) = true := by rfl) : JE C ls (.Call (.Attribute o "join" apos) [e] [] pos) (.str (Txt.join z ys)) :=
  je_of (fun j => kx (p := fun K => PE (C.X j) (.Call (.Attribute o "join" apos) [e] [] pos) (tM1 (fun x xs H Q => ∃ a p, ∃ ys : List Str, x = .str a ∧ xs = [.ref p] ∧ (SqL K H p (ys.map V.str) ∨ SqT K H p (ys.map V.str)) ∧ (ys.map (·.length)).sum + ys.length * a.length ≤ 16777216 ∧ Q (.str (Txt.join a ys)) H) (eAny C o) (eAny C e))) j (pe_join (pe_any C o j) (pe_any C e j) (hs _ _) (hb _) hline)) fun F G H σ S xx Q q => ho F G H σ S xx _ fun v G1 H1 eg1 eh1 S1 hv => ⟨⟨z, dq_str hv⟩, he F G1 H1 σ S1 (xx.step eg1 eh1) _ fun p vs G2 H2 eg2 eh2 S2 hp hvs => by
    rw [dqAll_strs hvs] at hp
    exact ⟨z, p, ys, dq_str hv, rfl, .inl (SqL.of hp), hl, q _ G2 H2 (eg1.trans eg2) (eh1.trans eh2) S2 (.str _)⟩⟩
theorem je_ixStr {z : Str} {i : Int} {c : Nat} (ha : JE C ls a (.str z)) (hb : JE C ls e (.int i)) (hz : z.length ≤ sizeLine) (h : atI z.cps.toList i = some c) (hs : PlainIx e := by intro _ _; rfl) : JE C ls (.Subscript a e pos) (.str ⟨#[c]⟩) :=
  je_of (fun j => pe_ix ix_str (pe_any C a j) (pe_any C e j) hs) fun F G H σ S xx Q q => ha F G H σ S xx _ fun v G1 H1 eg1 eh1 S1 hv => hb F G1 H1 σ S1 (xx.step eg1 eh1) _ fun y G2 H2 eg2 eh2 S2 hy =>
    ⟨z, i, c, dq_str hv, dq_int hy, hz, h, q _ G2 H2 (eg1.trans eg2) (eh1.trans eh2) S2 (.str _)⟩
end
end Qp

/-! Q32: a list that callees change (a hand of draws): opened, read, put, made. -/
namespace Qp
open PySem PySem.Spec PyProof.Rows L2
theorem handO_lst {p dr : Addr} {n : Nat} {xs : List V} : HandO p dr n ≠ .lst xs := fun z => by cases z
section
variable {X : Cx} {pins : List (Addr × Obj)} {σ : L2.St} {H : Hp} {s : Shared} {p dr : Addr} {n : Nat}
/-- the integers told -/
theorem hand_open (I : Inv X pins σ H s) (h : H p = some (HandO p dr n)) : ∃ (i : Nat) (js : List Int), js.length = n ∧ Inv X pins σ (upd H p (.lst (handV dr i js))) s := by
  have x : ObjOk X.prog X.w H s.heap p (HandO p dr n) := I.hok p _ h
  obtain ⟨⟨i, js, its, m, hl, hz, r, e⟩, _⟩ := x
  refine ⟨i, js, hl, ?_⟩
  exact I.write (x := p) (e := p) (t' := s.toks) (by rw [h]; trivial) (.inl rfl) (fun b u _ q => q) ⟨_, e⟩ ⟨hz, its, m, r, e⟩
theorem hand_ok {h : Heap} {P : Program} {w : World} {i : Nat} {js : List Int} {its : List Value} {m : Nat} (hl : js.length = n) (hz : (handV dr i js).length ≤ sizeLine) (r : Vals (handV dr i js) its) (e : h.get? p = some { cls := .type "list", data := .seq its.toArray m }) (H : Hp) : ObjOk P w H h p (HandO p dr n) :=
  ⟨⟨i, js, its, m, hl, hz, r, e⟩, ⟨_, e⟩, fun h1 h2 ⟨i, js, its, m, hl, hz, r, e⟩ k => ⟨i, js, its, m, hl, hz, r, k _ e⟩⟩
/-- and hidden -/
theorem hand_close {i : Nat} {js : List Int} (I : Inv X pins σ H s) (h : H p = some (.lst (handV dr i js))) (hl : js.length = n) : Inv X pins σ (upd H p (HandO p dr n)) s := by
  obtain ⟨its, m, r, e, z⟩ := I.lst h
  exact I.write (x := p) (e := p) (t' := s.toks) (by rw [h]; trivial) (.inl rfl) (fun b u _ q => q) ⟨_, e⟩ (hand_ok hl z r e _)
theorem upd_id {H : Hp} {p : Addr} {o : HO} (h : H p = some o) : upd H p o = H := by
  funext b
  by_cases e : b = p
  · rw [e, upd_same, h]
  · rw [upd_ne e]
theorem hand_shut {i : Nat} {js : List Int} (I : Inv X pins σ (upd H p (.lst (handV dr i js))) s) (h : H p = some (HandO p dr n)) (hl : js.length = n) : Inv X pins σ H s := by
  have := hand_close I upd_same hl
  rw [upd_upd, upd_id h] at this
  exact this
end
/-! ### read -/
def rIxH : R2 := fun x y H Q => ∃ (p dr : Addr) (n k : Nat), x = .ref p ∧ y = .int (k : Int) ∧ H p = some (HandO p dr n) ∧ k ≤ n + 1 ∧ (k = 0 → Q (.ref dr) H) ∧ (k = 1 → ∀ i : Nat, Q (.int (i : Int)) H) ∧ (2 ≤ k → ∀ i : Int, Q (.int i) H)
theorem ix_hand {X : Cx} : IxR X rIxH := by
  intro value slice pins s σ H x y v u Q I rx ry h hs
  obtain ⟨p, dr, n, k, rfl, rfl, hp, hk, q0, q1, q2⟩ := h
  obtain ⟨i, js, hl, I1⟩ := hand_open I hp
  have hlen : (handV dr i js).length = n + 2 := by
    show (js.map V.int).length + 1 + 1 = n + 2
    rw [List.length_map, hl]
  obtain ⟨z, hz⟩ : ∃ z, (handV dr i js)[k]? = some z := ⟨_, List.getElem?_eq_getElem (by rw [hlen]; omega)⟩
  refine wpAny_mono (ix_list value slice pins s σ _ (.ref p) (.int (k : Int)) v u (fun z' H' => z' = z ∧ H' = upd H p (.lst (handV dr i js))) I1 rx ry ⟨p, handV dr i js, k, z, rfl, rfl, SqL.of upd_same, atI_nat hz, rfl, rfl⟩ hs) (fun r s' hr => ?_) fun _ _ z => z
  obtain ⟨z', H', J, rz, e1, e2⟩ := hr
  subst e1 e2
  refine ⟨z', H, hand_shut J hp hl, rz, ?_⟩
  match k, hz with
  | 0, hz => obtain rfl := Option.some.inj hz; exact q0 rfl
  | 1, hz => obtain rfl := Option.some.inj hz; exact q1 rfl i
  | k + 2, hz =>
    have hz' : (js.map V.int)[k]? = some z' := hz
    rw [List.getElem?_map] at hz'
    cases e : js[k]? with
    | none => rw [e] at hz'; cases hz'
    | some j => rw [e] at hz'; obtain rfl := Option.some.inj hz'; exact q2 (by omega) j
/-! ### put -/
def rSetH : V → V → V → Hp → (Hp → Prop) → Prop := fun o i v H Q => ∃ (p dr : Addr) (n k : Nat) (j : Int), o = .ref p ∧ i = .int (k : Int) ∧ v = .int j ∧ H p = some (HandO p dr n) ∧ 1 ≤ k ∧ k ≤ n + 1 ∧ (k = 1 → 0 ≤ j) ∧ Q H
theorem set_hand {X : Cx} : PSet X rSetH := by
  intro pins s σ H o i v ov iv u Q I ro ri rv h
  obtain ⟨p, dr, n, k, j, rfl, rfl, rfl, hp, h1, hk, h0, q⟩ := h
  obtain ⟨a, js, hl, I1⟩ := hand_open I hp
  have hlen : (handV dr a js).length = n + 2 := by
    show (js.map V.int).length + 1 + 1 = n + 2
    rw [List.length_map, hl]
  have hix : ixN (handV dr a js).length (k : Int) = some k := by
    unfold ixN
    rw [hlen, if_pos (by omega), if_pos (by omega)]
    simp
  refine wpAny_mono (set_list pins s σ _ (.ref p) (.int (k : Int)) (.int j) ov iv u (fun H' => H' = upd (upd H p (.lst (handV dr a js))) p (.lst ((handV dr a js).set k (.int j)))) I1 ro ri rv ⟨p, handV dr a js, k, k, rfl, rfl, upd_same, hix, rfl⟩) (fun _ s' hr => ?_) fun _ _ z => z
  obtain ⟨H', J, e⟩ := hr
  subst e
  rw [upd_upd] at J
  refine ⟨H, ?_, q⟩
  match k, h1 with
  | 1, _ =>
    have e2 : (handV dr a js).set 1 (.int j) = handV dr j.toNat js := by
      show V.ref dr :: V.int j :: js.map V.int = V.ref dr :: V.int ((j.toNat : Nat) : Int) :: js.map V.int
      rw [show ((j.toNat : Nat) : Int) = j by have := h0 rfl; omega]
    rw [e2] at J
    exact hand_shut J hp hl
  | k + 2, _ =>
    have e2 : (handV dr a js).set (k + 2) (.int j) = handV dr a (js.set k j) := by
      show V.ref dr :: V.int (a : Int) :: (js.map V.int).set k (.int j) = V.ref dr :: V.int (a : Int) :: (js.set k j).map V.int
      rw [List.map_set]
    rw [e2] at J
    exact hand_shut J hp (by rw [List.length_set]; exact hl)
theorem dq_hand {K : Fg} {G : Hp} {v : V} {ds : List D} {n : Nat} (h : Dq K G v (.hand ds n)) : ∃ p dr xs, v = .ref p ∧ G p = some (HandO p dr n) ∧ G dr = some (.lst xs) ∧ DqAll K G xs ds := by
  cases h with
  | hand h1 h2 h3 => exact ⟨_, _, _, rfl, h1, h2, h3⟩
section
variable {C : Cs} {ls : List Loc} {e a b : Expr} {ds : List D} {n k : Nat} {p1 p2 pos : Pos} {P : Post} {x : Str}
theorem je_hand0 (ha : JE C ls a (.hand ds n)) (hb : JE C ls b (.int 0)) (hs : PlainIx b := by intro _ _; rfl) : JE C ls (.Subscript a b pos) (.lst ds) :=
  je_of (fun j => pe_ix ix_hand (pe_any C a j) (pe_any C b j) hs) fun F G H σ S xx Q q => ha F G H σ S xx _ fun x G1 H1 eg1 eh1 S1 hx => hb F G1 H1 σ S1 (xx.step eg1 eh1) _ fun y G2 H2 eg2 eh2 S2 hy => by
    obtain ⟨p, dr, xs, e0, h1, h2, h3⟩ := dq_hand (dq_mono eg2 hx)
    exact ⟨p, dr, n, 0, e0, dq_int hy, S2.ex _ _ h1, by omega, fun _ => q _ G2 H2 (eg1.trans eg2) (eh1.trans eh2) S2 (.lst h2 h3), fun z : (0 : Nat) = 1 => absurd z (by decide), fun z : 2 ≤ (0 : Nat) => absurd z (by decide)⟩
theorem jx_hand1 (ha : JE C ls a (.hand ds n)) (hb : JE C ls b (.int 1)) (hs : PlainIx b := by intro _ _; rfl) : JX C ls (.Subscript a b pos) fun d => ∃ i : Nat, d = .int (i : Int) := fun F G H σ S xx Q q =>
  ⟨_, fun j => pe_ix ix_hand (pe_any C a j) (pe_any C b j) hs, ha F G H σ S xx _ fun x G1 H1 eg1 eh1 S1 hx => hb F G1 H1 σ S1 (xx.step eg1 eh1) _ fun y G2 H2 eg2 eh2 S2 hy => by
    obtain ⟨p, dr, xs, e0, h1, h2, h3⟩ := dq_hand (dq_mono eg2 hx)
    exact ⟨p, dr, n, 1, e0, dq_int hy, S2.ex _ _ h1, by omega, fun z : (1 : Nat) = 0 => absurd z (by decide), fun _ i => q _ _ G2 H2 ⟨i, rfl⟩ (eg1.trans eg2) (eh1.trans eh2) S2 (.int _), fun z : 2 ≤ (1 : Nat) => absurd z (by decide)⟩⟩
theorem jx_handK (ha : JE C ls a (.hand ds n)) (hb : JE C ls b (.int (k : Int))) (h2k : 2 ≤ k) (hk : k ≤ n + 1) (hs : PlainIx b := by intro _ _; rfl) : JX C ls (.Subscript a b pos) fun d => ∃ i : Int, d = .int i := fun F G H σ S xx Q q =>
  ⟨_, fun j => pe_ix ix_hand (pe_any C a j) (pe_any C b j) hs, ha F G H σ S xx _ fun x G1 H1 eg1 eh1 S1 hx => hb F G1 H1 σ S1 (xx.step eg1 eh1) _ fun y G2 H2 eg2 eh2 S2 hy => by
    obtain ⟨p, dr, xs, e0, h1, h2, h3⟩ := dq_hand (dq_mono eg2 hx)
    exact ⟨p, dr, n, k, e0, dq_int hy, S2.ex _ _ h1, hk, fun z => by omega, fun z => by omega, fun _ i => q _ _ G2 H2 ⟨i, rfl⟩ (eg1.trans eg2) (eh1.trans eh2) S2 (.int _)⟩⟩
/-- x[k] = a number -/
theorem js_handSet (i : Nat) (he : JX C ls e fun d => ∃ j : Int, d = .int j ∧ (k = 1 → 0 ≤ j)) (hb : JE C ls b (.int (k : Int))) (hl : ls[i]? = some (.val (.hand ds n))) (h1k : 1 ≤ k) (hk : k ≤ n + 1) (hn : P.nx ls) (hi : C.N[i]? = some x := by rfl)
    (hv : ∀ j, Vis (C.X j).env.scope x := by intro _; first | exact Or.inl rfl | exact Or.inr (Or.inl rfl) | exact Or.inr (Or.inr rfl)) (hd : (x == ("__debug__" : Str)) = false := by decide) (hcd : (x == ("__classdict__" : Str)) = false := by decide)
    (ha : ∀ j v, assign (.Subscript (.Name x p1) b p2) (C.X j).env v = (do
      let ov ← holding [v] (eval (.Name x p1) (C.X j).env)
      let iv ← holding [v, ov] (eval b (C.X j).env)
      standAt p2
      holding [v, ov, iv] (setItem ov iv v)
      release [v, ov, iv] []) := by intro _ _; rfl)
    (hs : ∀ j, swapsWithSole [.Subscript (.Name x p1) b p2] e pos.line (C.X j).env = pure false := by intro _; rfl) (hw : ∀ j, swappedStores [.Subscript (.Name x p1) b p2] e (C.X j).env = pure none := by intro _; rfl) (h1 : ∀ j, (assignEach [.Subscript (.Name x p1) b p2] (C.X j).env).map (·.2) = [assign (.Subscript (.Name x p1) b p2) (C.X j).env] := by intro _; rfl) :
    JS C ls (.Assign [.Subscript (.Name x p1) b p2] e pos) P :=
  js_of (fun j => ps_asg (pe_any C e j) (pg_sub (pe_var (i := i) (by rw [C.hN]; exact hi) (hv j) hd hcd) (pe_any C b j) set_hand (ha j)) (hs j) (hw j) (h1 j)) fun F G H σ D' S f => he F G H σ S (f.xok S) _ fun d v G1 H1 hd1 eg1 eh1 S1 hv1 => by
    obtain ⟨j, rfl, h0⟩ := hd1
    obtain ⟨vh, ep, hvh⟩ := S1.var hl
    refine ⟨vh, ep, hb F G1 H1 σ S1 ((f.xok S).step eg1 eh1) _ fun y G2 H2 eg2 eh2 S2 hy => ?_⟩
    obtain ⟨p, dr, xs, e0, q1, q2, q3⟩ := dq_hand (dq_mono eg2 hvh)
    exact ⟨p, dr, n, k, j, e0, dq_int hy, dq_int hv1, S2.ex _ _ q1, h1k, hk, h0, f.nx G2 H2 _ _ (eg1.trans eg2) (S.kp (eh1.trans eh2)) S2 hn⟩
end
/-- an own list becomes a hand -/
theorem Sat.hand {K : Fg} {F : Addr → Prop} {G H : Hp} {σ : L2.St} {ls : List Loc} {i a : Nat} {es : List D} {js : List Int} (S : Sat K F G H σ ls) (h : ls[i]? = some (.own (.lst es :: .int (a : Int) :: js.map D.int))) :
    ∃ p dr, H p = some (.lst (handV dr a js)) ∧ G p = none ∧ ¬ F p ∧ Sat K F (upd G p (HandO p dr js.length)) (upd H p (HandO p dr js.length)) σ (ls.set i (.val (.hand es js.length))) := by
  obtain ⟨p, vs, e1, e2, e3, e4, e5⟩ := S.ownAt h
  obtain ⟨ow, h1, h2, h3, h4⟩ := S.ow
  obtain ⟨p', vs', e0, e, hh, hv⟩ := h1 i _ h
  have ep : p' = p := by
    rw [List.getD_eq_getElem?_getD, e1] at e
    cases e
    rfl
  subst ep
  have pi : p' ∈ ow i := by rw [e0]; exact List.mem_cons_self
  cases e3 with
  | cons hx r =>
    cases r with
    | cons hy r =>
      obtain ⟨dr, xs, rfl, hdr, hxs⟩ := dq_lst hx
      obtain rfl := dq_int hy
      obtain rfl := dqAll_ints' r
      have ne : dr ≠ p' := fun z => by
        rw [z, e4] at hdr
        cases hdr
      have eg : Ex G (upd G p' (HandO p' dr js.length)) := Ex.new e4
      refine ⟨p', dr, e2, e4, e5, S.ex.upd2, fun b fb => ?_, by rw [List.length_set]; exact S.len, owSet ow i [], fun j l hl => ?_, fun j q hq => ?_, fun j => ?_, fun j k q hj hk => ?_⟩
      · have nb : b ≠ p' := fun z => e5 (z ▸ fb)
        rw [upd_ne nb]
        exact ⟨(S.fo b fb).1, nt_eq (S.fo b fb).2 (upd_ne nb)⟩
      · by_cases hj : j = i
        · subst hj
          have hlt : j < ls.length := (List.getElem?_eq_some_iff.mp h).1
          rw [List.getElem?_set_self hlt] at hl
          cases hl
          rw [owSet_same]
          exact ⟨rfl, .ref p', e, .hand upd_same (by rw [upd_ne ne]; exact hdr) (dqAll_mono eg hxs)⟩
        · rw [List.getElem?_set_ne (Ne.symm hj)] at hl
          rw [owSet_ne hj]
          exact locOk_mono eg (fun q hq => upd_ne fun z => hj (h4 j i p' (z ▸ hq) pi)) (h1 j l hl)
      · by_cases hj : j = i
        · subst hj
          rw [owSet_same] at hq
          cases hq
        · rw [owSet_ne hj] at hq
          obtain ⟨q1, q2, q3⟩ := h2 j q hq
          have nq : q ≠ p' := fun z => hj (h4 j i p' (z ▸ hq) pi)
          exact ⟨by rw [upd_ne nq]; exact q1, nt_eq q2 (upd_ne nq), q3⟩
      · by_cases hj : j = i
        · subst hj
          rw [owSet_same]
          exact List.nodup_nil
        · rw [owSet_ne hj]
          exact h3 j
      · by_cases ej : j = i
        · subst ej
          rw [owSet_same] at hj
          cases hj
        · by_cases ek : k = i
          · subst ek
            rw [owSet_same] at hk
            cases hk
          · rw [owSet_ne ej] at hj
            rw [owSet_ne ek] at hk
            exact h4 j k q hj hk
section
variable {C : Cs} {ls : List Loc} {P : Post} {body : List Stmt}
theorem jb_mkHand (i a : Nat) {es : List D} {js : List Int} (hl : ls[i]? = some (.own (.lst es :: .int (a : Int) :: js.map D.int))) (k : JB C (ls.set i (.val (.hand es js.length))) body P) : JB C ls body P := fun F G H σ D' S f => by
  obtain ⟨p, dr, hp, gp, nf, S2⟩ := S.hand hl
  have kp : Kp F H (upd H p (HandO p dr js.length)) := Kp.refl.put (nt_lst hp) nf
  obtain ⟨t, h1, h2⟩ := k F _ _ σ D' S2 (f.step (Ex.new gp) kp)
  exact ⟨fun D'' σ0 H0 => H0 p = some (.lst (handV dr a js)) ∧ t D'' σ0 (upd H0 p (HandO p dr js.length)), fun c => ⟨fun pins s σ0 H0 D'' I q => (h1 c).run pins s σ0 _ D'' (hand_close I q.1 rfl) q.2⟩, hp, h2⟩
end
end Qp

/-! Q33: what is not all known: arithmetic, tests, items, lists, comprehensions over such values. -/
namespace Qp
open PySem PySem.Spec PyProof.Rows L2
/-- an integer for which p holds -/
def IntP (p : Int → Prop) : D → Prop := fun d => ∃ i : Int, d = .int i ∧ p i
section
variable {C : Cs} {ls : List Loc} {e a b c : Expr} {d : D} {ds : List D} {pos p1 p2 p3 : Pos} {x : Str} {p q r : Int → Prop} {Po Pq : D → Prop} {P : Post} {rest b1 b2 : List Stmt} {scope : Scope} {elt : Expr}
theorem JX.int {i : Int} (h : JE C ls e (.int i)) (hp : p i) : JX C ls e (IntP p) := JX.of h ⟨i, rfl, hp⟩
theorem JX.imp (h : JX C ls e (IntP p)) (hp : ∀ i, p i → q i) : JX C ls e (IntP q) := h.mono fun d ⟨i, e, hi⟩ => ⟨i, e, hp i hi⟩
theorem jx_op {op : Operator} {ri : R2} (ho : ∀ j, OpR (C.X j) (binaryOp op) ri) (ha : JX C ls a (IntP p)) (hb : JX C ls b (IntP q)) (hr : ∀ i j H Q, p i → q j → (∀ k, r k → Q (V.int k) H) → ri (.int i) (.int j) H Q) : JX C ls (.BinOp a op b pos) (IntP r) := fun F G H σ S xx Q k =>
  ⟨_, fun j => pe_op (ho j) (pe_any C a j) (pe_any C b j), ha F G H σ S xx _ fun d1 x G1 H1 h1 eg1 eh1 S1 hx => hb F G1 H1 σ S1 (xx.step eg1 eh1) _ fun d2 y G2 H2 h2 eg2 eh2 S2 hy => by
    obtain ⟨i, rfl, hi⟩ := h1
    obtain ⟨j, rfl, hj⟩ := h2
    rw [dq_int hx, dq_int hy]
    exact hr i j H2 Q hi hj fun z hz => k _ _ G2 H2 ⟨z, rfl, hz⟩ (eg1.trans eg2) (eh1.trans eh2) S2 (.int z)⟩
theorem jx_add (ha : JX C ls a (IntP p)) (hb : JX C ls b (IntP q)) (h : ∀ i j, p i → q j → r (i + j)) : JX C ls (.BinOp a .Add b pos) (IntP r) := jx_op (fun _ => op_add) ha hb fun i j H Q hi hj k => ⟨i, j, rfl, rfl, k _ (h i j hi hj)⟩
theorem jx_sub (ha : JX C ls a (IntP p)) (hb : JX C ls b (IntP q)) (h : ∀ i j, p i → q j → r (i - j)) : JX C ls (.BinOp a .Sub b pos) (IntP r) := jx_op (fun _ => op_sub) ha hb fun i j H Q hi hj k => ⟨i, j, rfl, rfl, k _ (h i j hi hj)⟩
theorem jx_mul (ha : JX C ls a (IntP p)) (hb : JX C ls b (IntP q)) (h : ∀ i j, p i → q j → IntMulOk i j ∧ r (i * j)) : JX C ls (.BinOp a .Mult b pos) (IntP r) := jx_op (fun _ => op_mulA) ha hb fun i j H Q hi hj k => ⟨i, j, rfl, rfl, (h i j hi hj).1, k _ (h i j hi hj).2⟩
theorem jx_mod (ha : JX C ls a (IntP p)) (hb : JX C ls b (IntP q)) (h : ∀ i j, p i → q j → 0 < j ∧ r (i % j)) : JX C ls (.BinOp a .Mod b pos) (IntP r) := jx_op (fun _ => op_mod) ha hb fun i j H Q hi hj k => ⟨i, j, rfl, rfl, (h i j hi hj).1, k _ (h i j hi hj).2⟩
theorem jx_fdiv (ha : JX C ls a (IntP p)) (hb : JX C ls b (IntP q)) (h : ∀ i j, p i → q j → CDivW i j ∧ r (i / j)) : JX C ls (.BinOp a .FloorDiv b pos) (IntP r) := jx_op (fun _ => op_fdivW) ha hb fun i j H Q hi hj k => ⟨i, j, rfl, rfl, (h i j hi hj).1, k _ (h i j hi hj).2⟩
theorem jx_neg (ha : JX C ls a (IntP p)) (h : ∀ i, p i → r (-i)) : JX C ls (.UnaryOp .USub a pos) (IntP r) := fun F G H σ S xx Q k =>
  ⟨_, fun j => pe_un un_neg (pe_any C a j), ha F G H σ S xx _ fun d1 x G1 H1 h1 eg1 eh1 S1 hx => by
    obtain ⟨i, rfl, hi⟩ := h1
    exact ⟨i, dq_int hx, k _ _ G1 H1 ⟨_, rfl, h i hi⟩ eg1 eh1 S1 (.int _)⟩⟩
/-- an item -/
theorem jx_ixX (ha : JC C ls a ds) (hb : JX C ls b (IntP p)) (h : ∀ i, p i → ∃ d, atI ds i = some d ∧ Po d) (hs : PlainIx b := by intro _ _; rfl) : JX C ls (.Subscript a b pos) Po := fun F G H σ S xx Q q =>
  ⟨_, fun j => pe_ix (ix_list' C j) (pe_any C a j) (pe_any C b j) hs, ha F G H σ S xx _ fun l vs G1 H1 eg1 eh1 S1 hp hv => hb F G1 H1 σ S1 (xx.step eg1 eh1) _ fun d2 y G2 H2 h2 eg2 eh2 S2 hy => by
    obtain ⟨i, rfl, hi⟩ := h2
    obtain ⟨d, hd, hpo⟩ := h i hi
    obtain ⟨v, e1, e2⟩ := atI_dq (dqAll_mono eg2 hv) hd
    exact ⟨l, vs, i, v, rfl, dq_int hy, SqL.of (eh2 _ _ hp), e1, q d v G2 H2 hpo (eg1.trans eg2) (eh1.trans eh2) S2 e2⟩⟩
/-! tests -/
def JTX (C : Cs) (ls : List Loc) (e : Expr) (Pb : Bool → Prop) : Prop := ∀ F G H σ, Sat C.K F G H σ ls → Xok C.K C.E F G H σ ls → ∀ Q : Bool → Hp → Prop, (∀ k G' H', Pb k → Ex G G' → Ex H H' → Sat C.K F G' H' σ ls → Q k H') → tAny C e σ H Q
theorem JTX.of {k : Bool} {Pb : Bool → Prop} (h : JT C ls e k) (hk : Pb k) : JTX C ls e Pb := fun F G H σ S xx Q q => h F G H σ S xx Q fun G' H' eg eh S' => q k G' H' hk eg eh S'
theorem jtx_cmp {op : CmpOp} {ri : R2} {Pb : Bool → Prop} (ho : ∀ j, OpR (C.X j) (compareOp op) ri) (ha : JX C ls a (IntP p)) (hb : JX C ls b (IntP q)) (hr : ∀ i j H Q, p i → q j → (∀ k, Pb k → Q (V.bl k) H) → ri (.int i) (.int j) H Q) (hm : behindInMarks op b = false := by exact nomark _) : JTX C ls (.Compare a [op] [b] pos) Pb := fun F G H σ S xx Q k =>
  ⟨_, fun j => pt_cmpR (ho j) (pe_any C a j) (pe_any C b j) hm, ha F G H σ S xx _ fun d1 x G1 H1 h1 eg1 eh1 S1 hx => hb F G1 H1 σ S1 (xx.step eg1 eh1) _ fun d2 y G2 H2 h2 eg2 eh2 S2 hy => by
    obtain ⟨i, rfl, hi⟩ := h1
    obtain ⟨j, rfl, hj⟩ := h2
    rw [dq_int hx, dq_int hy]
    exact hr i j H2 _ hi hj fun z hz => ⟨z, rfl, k z G2 H2 hz (eg1.trans eg2) (eh1.trans eh2) S2⟩⟩
theorem jtx_eq {Pb : Bool → Prop} (ha : JX C ls a (IntP p)) (hb : JX C ls b (IntP q)) (h : ∀ i j, p i → q j → Pb (decide (i = j))) : JTX C ls (.Compare a [.Eq] [b] pos) Pb := jtx_cmp (fun _ => op_eq) ha hb (fun i j H Q hi hj k => ⟨rfl, by
    have e : decide (V.int i = V.int j) = decide (i = j) := by
      by_cases h : i = j
      · subst h; simp
      · rw [decide_eq_false h, decide_eq_false fun z => h (V.int.inj z)]
    rw [e]
    exact k _ (h i j hi hj)⟩) (nomark _)
/-- a branch by a test that is not known -/
theorem js_ifX {Pb : Bool → Prop} (hc : JTX C ls c Pb) (h1 : Pb true → JB C ls b1 P) (h2 : Pb false → JB C ls b2 P) : JS C ls (.If c b1 b2 pos) P :=
  js_of (fun j => ps_if (pt_any C c j) (pb_any C b1 j) (pb_any C b2 j)) fun F G H σ D' S f => hc F G H σ S (f.xok S) _ fun k G' H' hk eg eh S' => by
    cases k with
    | true => rw [if_pos rfl]; exact h1 hk F G' H' σ D' S' (f.step eg (S.kp eh))
    | false => rw [if_neg Bool.false_ne_true]; exact h2 hk F G' H' σ D' S' (f.step eg (S.kp eh))
theorem jb_ifX {Pb : Bool → Prop} (R : List Loc → Prop) (hc : JTX C ls c Pb) (h1 : Pb true → JB C ls b1 { P with nx := R }) (h2 : Pb false → JB C ls b2 { P with nx := R }) (h : ∀ ls', R ls' → JB C ls' rest P) : JB C ls (.If c b1 b2 pos :: rest) P :=
  jb_cons R (js_ifX hc h1 h2) h
/-! lists -/
/-- a new list of nobody, of which Pa holds -/
def JNX (C : Cs) (ls : List Loc) (e : Expr) (Pa : List D → Prop) : Prop := ∀ F G H σ, Sat C.K F G H σ ls → Xok C.K C.E F G H σ ls → ∀ Q : VK, (∀ ds l vs G' H', Pa ds → Ex G G' → Ex H H' → ¬ F l → Sat C.K (fun a => F a ∨ a = l) G' H' σ ls → H' l = some (.lst vs) → DqAll C.K G' vs ds → Q (.ref l) H') → eAny C e σ H Q
theorem JNX.jx {Pa : List D → Prop} (h : JNX C ls e Pa) : JX C ls e fun d => ∃ ds, d = .lst ds ∧ Pa ds := fun F G H σ S xx Q q => h F G H σ S xx Q fun ds l vs G' H' hp eg eh nf S' hl hv => by
  have gp : G' l = none := (S'.fo l (Or.inr rfl)).1
  exact q _ _ (upd G' l (.lst vs)) H' ⟨ds, rfl, hp⟩ (eg.trans (Ex.new gp)) eh (S'.freeze nf hl) (.lst upd_same (dqAll_mono (Ex.new gp) hv))
theorem js_setNX (i : Nat) {pos' : Pos} {Pa : List D → Prop} (he : JNX C ls e Pa) (hn : ∀ ds, Pa ds → P.nx (ls.set i (.own ds))) (hi : C.N[i]? = some x := by rfl) (hx : ∀ j, L2.Loc (C.X j).env.scope x := by intro _; first | exact .inl rfl | exact .inr rfl)
    (hs : ∀ j, swapsWith e (some (.Name x pos')) pos.line (C.X j).env = pure false := by intro _; rfl) (hf : ∀ j, (C.X j).fn x = true ∨ (C.X j).env.scope.names.lookup x = some .local := by intro _; first | exact .inl rfl | exact .inr rfl) : JS C ls (.Assign [.Name x pos'] e pos) P :=
  js_of (fun j => ps_set (i := i) (by rw [C.hN]; exact C.nd) (by rw [C.hN]; exact hi) (hx j) (pe_any C e j) (hs j) (hf j)) fun F G H σ D' S f => he F G H σ S (f.xok S) _ fun ds l vs G' H' hp eg eh nf S' hl hv => f.nx G' H' _ _ eg (S.kp eh) (S'.setN nf hl hv) (hn ds hp)
theorem jb_setNX (i : Nat) {pos' : Pos} {Pa : List D → Prop} (he : JNX C ls e Pa) (k : ∀ ds, Pa ds → JB C (ls.set i (.own ds)) rest P) (hi : C.N[i]? = some x := by rfl) (hx : ∀ j, L2.Loc (C.X j).env.scope x := by intro _; first | exact .inl rfl | exact .inr rfl)
    (hs : ∀ j, swapsWith e (some (.Name x pos')) pos.line (C.X j).env = pure false := by intro _; rfl) (hf : ∀ j, (C.X j).fn x = true ∨ (C.X j).env.scope.names.lookup x = some .local := by intro _; first | exact .inl rfl | exact .inr rfl) : JB C ls (.Assign [.Name x pos'] e pos :: rest) P :=
  jb_cons (fun l => ∃ ds, Pa ds ∧ l = ls.set i (.own ds)) (js_setNX i he (fun ds hd => ⟨ds, hd, rfl⟩) hi hx hs hf) fun _ ⟨ds, hd, h⟩ => h ▸ k ds hd
/-- tuple(a list) -/
theorem jx_tupleX {Pa : List D → Prop} (ha : JNX C ls a Pa) (hn : NoG C "tuple" := by assumption) (hg : ∀ j, Gl (C.X j) "tuple" := by intro _; rfl) (hs : NS a := by intro _ _; rfl) : JX C ls (.Call (.Name "tuple" p1) [a] [] pos) fun d => ∃ ds, d = .tup ds ∧ Pa ds := fun F G H σ S xx Q q =>
  ⟨_, fun j => pe_ct1 j (tuple' C j) (hg j) hn boot_tuple hs, ha F G H σ S xx _ fun ds l vs G1 H1 hpa eg1 eh1 nf S1 hp hv => ⟨l, vs, rfl, Or.inl ⟨SqL.of hp, ev_lay (S1.sub fun a fa => Or.inl fa) hv fun v G2 H2 eg2 eh2 S2 hv2 => q _ v G2 H2 ⟨ds, rfl, hpa⟩ (eg1.trans eg2) (eh1.trans eh2) S2 hv2⟩⟩⟩
/-- a tuple of what is not all known -/
theorem jx_tup {xs : List Expr} {k : Nat} {Pa : List D → Prop} (h : JXA C ls xs Pa) (hl : ∀ ds, Pa ds → ds.length ≤ 1000000) : JX C ls (.Tuple xs k pos) fun d => ∃ ds, d = .tup ds ∧ Pa ds := fun F G H σ S xx Q q =>
  ⟨_, fun j => pe_tup (pa_any C xs j), h.ev F G H σ S xx _ fun ds vs G' H' hp eg eh S' hv => ⟨by rw [hv.length]; exact Nat.le_trans (hl ds hp) (by decide), ev_lay S' hv fun v G2 H2 eg2 eh2 S2 hv2 => q _ v G2 H2 ⟨ds, rfl, hp⟩ (eg.trans eg2) (eh.trans eh2) S2 hv2⟩⟩
theorem jb_appX (i : Nat) (he : JX C ls e Po) (hl : ls[i]? = some (.own ds)) (k : ∀ d, Po d → JB C (ls.set i (.own (ds ++ [d]))) rest P) (hz : ds.length < 1000000 := by first | decide | omega | assumption) (hi : C.N[i]? = some x := by rfl)
    (hv : ∀ j, Vis (C.X j).env.scope x := by intro _; first | exact Or.inl rfl | exact Or.inr (Or.inl rfl) | exact Or.inr (Or.inr rfl)) (hs : NS e := by intro _ _; rfl)
    (hd : (x == ("__debug__" : Str)) = false := by decide) (hcd : (x == ("__classdict__" : Str)) = false := by decide) (hsw : ∀ j, swapsWith (.Call (.Attribute (.Name x p1) "append" p2) [e] [] p3) none pos.line (C.X j).env = pure false := by intro _; rfl)
    (hb : ∀ j, PE (C.X j) (.Call (.Attribute (.Name x p1) "append" p2) [e] [] p3) (tBM C.K "list" rAppend (tVar i) (tCons (eAny C e) tNil)) := by intro j; exact pe_bm PySem.F.plainAttrs_list PySem.F.slot_list_append PySem.F.type_list_append mt_append (pv _) (pa_cons (pe_any _ _ j) pa_nil)) :
    JB C ls (.Expr (.Call (.Attribute (.Name x p1) "append" p2) [e] [] p3) pos :: rest) P :=
  jb_cons (fun l => ∃ d, Po d ∧ l = ls.set i (.own (ds ++ [d]))) (js_of (fun j => ps_expr (hb j) (hsw j)) fun F G H σ D' S f => by
    obtain ⟨l, vs, ep, hp, hv, gp, nf⟩ := S.ownAt hl
    refine ⟨.ref l, ep, Or.inl ⟨rfl, vs, SqL.of hp⟩, he F G H σ S (f.xok S) _ fun d v G' H' hpo eg eh S' hv' => ?_⟩
    have hp' := eh _ _ hp
    refine ⟨l, vs, v, rfl, rfl, hp', ?_, ?_⟩
    · rw [hv.length]
      exact Nat.lt_of_lt_of_le hz (by decide)
    · exact f.nx G' _ σ _ eg ((S.kp eh).put (nt_lst hp') nf) (S'.mut hl ep ((dqAll_mono eg hv).append (.cons hv' .nil))) ⟨d, hpo, rfl⟩) fun _ ⟨d, hd, h⟩ => h ▸ k d hd
end
/-! ### comprehensions -/
section
variable {K : Fg} {E : Xw} {ls : List Loc}
theorem evN_lcX {wi : TI} {te : TE} {tt : TT} (j n : Nat) (xs : Nat → D) (q : Nat → D → Prop) (J : Hp → It → Prop) (hn : n < 1000000) (hj : ∀ l, ls[j]? = some l → l.keeps = true)
    (hw : ∀ F G H σ, Sat K F G H σ ls → Xok K E F G H σ ls → ∀ R : It → Hp → Prop, (∀ Jt G' H', Ex G G' → Ex H H' → Sat K F G' H' σ ls → J G' Jt → R Jt H') → wi σ H R)
    (hstop : ∀ G Jt H, J G Jt → Ex G H → Jt.stop n H) (hgo : ∀ G Jt H i, J G Jt → Ex G H → i < n → Jt.go i H) (hy : ∀ G Jt H i x H1, J G Jt → Ex G H → i < n → Jt.yld i H x H1 → H1 = H ∧ Dq K G x (xs i))
    (ht : ∀ i, i < n → EvT K (noX E.T) tt (ls.set j (.val (xs i))) true)
    (he : ∀ i, i < n → ∀ F G H σ, Sat K F G H σ (ls.set j (.val (xs i))) → Xok K (noX E.T) F G H σ (ls.set j (.val (xs i))) → ∀ Q : VK, (∀ d v G' H', q i d → Ex G G' → Ex H H' → Sat K F G' H' σ (ls.set j (.val (xs i))) → Dq K G' v d → Q v H') → te σ H Q) :
    ∀ F G H σ, Sat K F G H σ ls → Xok K E F G H σ ls → ∀ Q : VK, (∀ ds l vs G' H', (ds.length = n ∧ ∀ i d, ds[i]? = some d → q i d) → Ex G G' → Ex H H' → ¬ F l → Sat K (fun a => F a ∨ a = l) G' H' σ ls → H' l = some (.lst vs) → DqAll K G' vs ds → Q (.ref l) H') → tLc wi (gName j) tt te [j] σ H Q := fun F G H σ S xx Q k => hw F G H σ S xx _ fun Jt G1 H1 eg1 eh1 S1 hJ Dl hD => by
  refine ⟨fun i m H' => m = n - i ∧ i ≤ n ∧ ∃ G' vs ds, ds.length = i ∧ (∀ c d, ds[c]? = some d → q c d) ∧ Ex G1 G' ∧ Ex H1 H' ∧ Sat K (fun a => F a ∨ a = Dl) G' H' σ ls ∧ H' Dl = some (.lst vs) ∧ DqAll K G' vs ds, ⟨n, by simp, Nat.zero_le _, G1, [], [], rfl, fun c d z => by simp at z, Ex.refl _, Ex.new hD, S1.madeF hD, upd_same, .nil⟩, ?_⟩
  have nf : ¬ F Dl := fun z => (S1.fo Dl z).2.ne hD
  rintro i m H' ⟨rfl, hi, G', vs, ds, hl, hq, eg', eh', S', hp, hv⟩
  by_cases hlt : i < n
  · refine .inr ⟨hgo G1 Jt H' i hJ (eg'.trans S'.ex) hlt, fun H2 => ∃ G2 vs2 ds2, ds2.length = i + 1 ∧ (∀ c d, ds2[c]? = some d → q c d) ∧ Ex G1 G2 ∧ Ex H1 H2 ∧ Sat K (fun a => F a ∨ a = Dl) G2 H2 σ ls ∧ H2 Dl = some (.lst vs2) ∧ DqAll K G2 vs2 ds2, fun H2 h => ⟨n - (i + 1), by omega, rfl, hlt, h⟩, fun x H2 y => ?_⟩
    obtain ⟨rfl, hx⟩ := hy G1 Jt H' i x H2 hJ (eg'.trans S'.ex) hlt y
    have e0 : (wipe σ [j]).set j (some x) = σ.set j (some x) := by
      show (σ.set j none).set j (some x) = _
      rw [List.set_set]
    have e1 : wipe (σ.set j (some x)) [j] = wipe σ [j] := by
      show (σ.set j (some x)).set j none = σ.set j none
      rw [List.set_set]
    show wipe ((wipe σ [j]).set j (some x)) [j] = wipe σ [j] ∧ _
    rw [e0]
    refine ⟨e1, ?_⟩
    have Sx : Sat K (fun a => F a ∨ a = Dl) G' H2 (σ.set j (some x)) (ls.set j (.val (xs i))) := S'.setV (dq_mono eg' hx)
    refine ht i hlt _ G' H2 _ Sx (xok_no fun P h => ((xx.tb P h).mono eg1).mono eg') _ fun G3 H3 eg3 eh3 S3 => ?_
    rw [if_pos rfl]
    refine he i hlt _ G3 H3 _ S3 (xok_no fun P h => (((xx.tb P h).mono eg1).mono eg').mono eg3) _ fun d y G4 H4 hd eg4 eh4 S4 hy4 => ?_
    have S5 := S'.restore S4 (eg3.trans eg4) (eh3.trans eh4) hj
    have hp5 := eh4 _ _ (eh3 _ _ hp)
    refine ⟨vs, hp5, ?_, G4, vs ++ [y], ds ++ [d], by rw [List.length_append, hl]; rfl, fun c d' hc => ?_, eg'.trans (eg3.trans eg4), ?_, ?_, upd_same, ?_⟩
    · rw [hv.length, hl]
      exact Nat.lt_of_le_of_lt hi (Nat.lt_of_lt_of_le hn (by decide))
    · by_cases hc2 : c < ds.length
      · rw [List.getElem?_append_left hc2] at hc
        exact hq c d' hc
      · rw [List.getElem?_append_right (by omega)] at hc
        cases e : c - ds.length with
        | zero =>
          rw [e] at hc
          obtain rfl := Option.some.inj hc
          rw [show c = i by omega]
          exact hd
        | succ z =>
          rw [e] at hc
          simp at hc
    · exact (eh'.trans (eh3.trans eh4)).mut hD
    · obtain ⟨ow, h1, h2, h3, h4⟩ := S5.ow
      refine ⟨S5.ex.mut (S5.fo Dl (Or.inr rfl)).1, fun a fa => ⟨(S5.fo a fa).1, ?_⟩, S5.len, ow, fun i l hl => locOk_mono (Ex.refl _) (fun p hp => upd_ne fun z => (h2 i p hp).2.2 (Or.inr z)) (h1 i l hl), fun i p hp => ⟨(h2 i p hp).1, ?_, (h2 i p hp).2.2⟩, h3, h4⟩
      · by_cases hz : a = Dl
        · rw [hz]; exact nt_lst upd_same
        · exact nt_eq (S5.fo a fa).2 (upd_ne hz)
      · exact nt_eq (h2 i p hp).2.1 (upd_ne fun z => (h2 i p hp).2.2 (Or.inr z))
    · exact (dqAll_mono (eg3.trans eg4) hv).append (.cons hy4 .nil)
  · have e : i = n := by omega
    subst e
    exact .inl ⟨hstop G1 Jt H' hJ (eg'.trans S'.ex), k ds Dl vs G' H' ⟨hl, hq⟩ (eg1.trans eg') (eh1.trans eh') nf S' hp hv⟩
end
section
variable {C : Cs} {ls : List Loc} {e elt a : Expr} {d : D} {ds : List D} {pos p1 p2 p3 : Pos} {x : Str} {scope : Scope}
/-- [elt for x in range(e)], elt not all known -/
theorem jnx_lcR [Cold C] {n : Int} (j : Nat) (q : Nat → D → Prop) (he : JE C ls e (.int n)) (hn : n < 1000000) (hb : ∀ i : Nat, i < n.toNat → JX (C.blk scope) (ls.set j (.val (.int i))) elt (q i)) (B : BOk C scope x j p1)
    (hj : ∀ l, ls[j]? = some l → l.keeps = true := by intro _ h; cases h; rfl) (hm : NoG C "range" := by assumption) (hg : ∀ j, Gl (C.X j) "range" := by intro _; rfl) (hs : NS e := by intro _ _; rfl) (hfs : ∀ i x, foldedSetIterable (.Call (.Name "range" p2) [e] [] p3) (C.X i).env x = pure x := by intro _ _; rfl) (h62 : -(2 ^ 62) ≤ n := by omega) :
    JNX C ls (.ListComp elt [⟨.Name x p1, .Call (.Name "range" p2) [e] [] p3, [], 0⟩] scope pos) fun ds => ds.length = n.toNat ∧ ∀ i d, ds[i]? = some d → q i d := fun F G H σ S xx Q k =>
  ⟨_, pe_lcA (tg := e) (ifs := []) B (fun i => range' i (hg i) hm hs) hfs, evN_lcX j n.toNat (fun i => .int i) q (fun _ Jt => Jt = Itr 0 n.toNat) (by omega) hj
    (fun F G H σ S xx R q => he F G H σ S xx _ fun v G' H' eg eh S' hv => ⟨n, by rw [dq_int hv], h62, by omega, q _ G' H' eg eh S' rfl⟩)
    (fun G Jt H hJ e => by subst hJ; exact Nat.le_refl _) (fun G Jt H i hJ e hi => by subst hJ; exact hi)
    (fun G Jt H i x H1 hJ e hi y => by
      subst hJ
      obtain ⟨rfl, rfl⟩ := y
      have e0 : (0 : Int) + (i : Int) = (i : Int) := Int.zero_add _
      exact ⟨rfl, by rw [e0]; exact .int _⟩) (fun i hi => (ji_nil : JI (C.blk scope) (ls.set j (.val (.int i))) [] true)) (fun i hi => hb i hi) F G H σ S xx Q k⟩
end
end Qp

/-! Q34: the end of a law whose defs want to know that no repr is under way: the first call, with what stands round it known. -/
namespace Qp
open PySem PySem.Spec PyProof.Rows L2
section
variable {P : Program} {w : World} {K : Fg} {mg mb : Str → Option Value} {fa a : Addr} {cs : List (Addr × Addr)} {s₁ : Shared} {vs : List Value} {ns : List Int}
/-- the abstract heap of the first call: the tables, and the script unless it stands in K -/
def hp0 (K : Fg) (T : List Addr) (a : Addr) (sc : HO) : Hp := fun b => if b ∈ T then some (.tbl #[]) else if b = a ∧ (K.lookup a).isNone = true then some sc else none
theorem hp0_t {T : List Addr} {sc : HO} {b : Addr} (h : b ∈ T) : hp0 K T a sc b = some (.tbl #[]) := if_pos h
theorem hp0_a {T : List Addr} {sc : HO} (h : a ∉ T) (k : K.lookup a = none) : hp0 K T a sc a = some sc := by
  unfold hp0
  rw [if_neg h, if_pos ⟨rfl, by rw [k]; rfl⟩]
theorem hp0_some {T : List Addr} {sc o : HO} {b : Addr} (h : hp0 K T a sc b = some o) : (b ∈ T ∧ o = .tbl #[]) ∨ (b ∉ T ∧ b = a ∧ K.lookup a = none ∧ o = sc) := by
  unfold hp0 at h
  split at h
  · next m => exact .inl ⟨m, (Option.some.inj h).symm⟩
  · next m =>
    split at h
    · next q => exact .inr ⟨m, q.1, by cases e : K.lookup a with
        | none => rfl
        | some o => rw [e] at q; exact absurd q.2 Bool.false_ne_true, (Option.some.inj h).symm⟩
    · cases h
/-- what is neither list nor table is not tracked -/
theorem hp0_none {T : List Addr} {sc : HO} {b : Addr} {o : Obj} {h : Heap} (hT : ∀ b ∈ T, ∃ c, h.get? b = some { cls := c, data := .fields #[] }) (ha : ∃ c v n, h.get? a = some { cls := c, data := .seq v n }) (e : h.get? b = some o) (h1 : ∀ v n, o.data ≠ .seq v n) (h2 : o.data ≠ .fields #[]) : hp0 K T a sc b = none := by
  cases q : hp0 K T a sc b with
  | none => rfl
  | some u =>
    rcases hp0_some q with ⟨m, _⟩ | ⟨_, m, _, _⟩
    · obtain ⟨c, z⟩ := hT b m
      rw [e] at z
      exact absurd (congrArg Obj.data (Option.some.inj z)) h2
    · obtain ⟨c, v, n, z⟩ := ha
      rw [← m, e] at z
      exact absurd (congrArg Obj.data (Option.some.inj z)) (h1 v n)
theorem ns_hid {H : Hp} {h : Heap} {b : Addr} {m : Str → Option Value} (N : h.Ns b m) (f : ∀ o es ep, h.get? b = some o → o.data = .dict es ep → H b = none) : (hidT h H).Ns b m := by
  obtain ⟨o, es, ep, e, d, r⟩ := N
  exact ⟨o, es, ep, hidT_get e (f o es ep e d), d, r⟩
/-- the first call -/
theorem law_first (KX : K.In s₁.heap) (hns : s₁.heap.Ns mainGlobals mg) (hb : s₁.heap.Ns builtinsNs mb) (hbb : ∀ x : Str, x ≠ "__name__" → mb x = bootBuiltins x) (hlim : s₁.heap.NoLimit) (hg : s₁.gens = #[])
    (hT : ∀ p ∈ cs, s₁.heap.get? p.2 = some { cls := .none, data := .fields #[] }) (nT : ∀ p ∈ cs, K.lookup p.2 = none) (hC : ∀ p ∈ cs, PySem.W.CodeHd s₁.heap p.1 p.2)
    (hbm : ∃ (bm : Addr) (ob : Obj), mg "__builtins__" = some (.ref bm) ∧ bm ≠ builtinsNs ∧ s₁.heap.get? bm = some ob ∧ ob.cls = .type "module" ∧ ob.dict = some builtinsNs ∧ ob.data = .plain)
    (ha : s₁.heap.get? a = some { cls := .type "list", data := .seq vs.toArray }) (hi : IntsAre vs ns) (hl : ns.length ≤ sizeLine)
    (F : ∀ (base : Heap) (H : Hp), K.In base → base.Ns mainGlobals mg → (∀ p ∈ cs, GxR.TabB base mg p.1 p.2) → Env0 P w K mg base callerA [] s₁ H → (∀ p ∈ cs, H p.2 = some (.tbl #[])) → SqL K H a (ns.map V.int) →
      codeAny (model P w) callerA (.call (.ref fa) ⟨[.ref a], []⟩) (CR CX0 [] P w H s₁ (fun v _ => v = .bl true) E0) s₁) :
    codeAny (model P w) callerA (.call (.ref fa) ⟨[.ref a], []⟩) (fun r s' => r = .ok (.ret (.bool true)) ∧ OldK s₁.heap s'.heap ∧ s'.os = s₁.os ∧ AllBare s'.gens) s₁ := by
  generalize hTT : cs.map (·.2) = T at *
  have inT : ∀ p ∈ cs, p.2 ∈ T := fun p hp => hTT ▸ List.mem_map.mpr ⟨p, hp, rfl⟩
  have ofT : ∀ b ∈ T, ∃ p ∈ cs, p.2 = b := fun b hb => by
    rw [← hTT] at hb
    exact List.mem_map.mp hb
  have tT : ∀ b ∈ T, s₁.heap.get? b = some { cls := .none, data := .fields #[] } := fun b hb => by
    obtain ⟨p, hp, e⟩ := ofT b hb
    exact e ▸ hT p hp
  have aT : a ∉ T := fun z => by
    have := tT a z
    rw [ha] at this
    cases congrArg Obj.data (Option.some.inj this)
  have hlen := hi.length
  let sc : HO := .frz { cls := .type "list", data := .seq vs.toArray } (.lst (ns.map V.int))
  let H : Hp := hp0 K T a sc
  have free : ∀ {b : Addr} {o : Obj}, s₁.heap.get? b = some o → (∀ v n, o.data ≠ .seq v n) → o.data ≠ .fields #[] → H b = none := fun e h1 h2 => hp0_none (h := s₁.heap) (fun b hb => ⟨_, tT b hb⟩) ⟨_, _, _, ha⟩ e h1 h2
  have freeD : ∀ (b : Addr) (o : Obj) (es : Array DictEntry) (ep : Nat), s₁.heap.get? b = some o → o.data = .dict es ep → H b = none := fun b o es ep e d => free e (fun v n z => by rw [d] at z; cases z) fun z => by rw [d] at z; cases z
  have bmod : L2.Mod K mg (hidT s₁.heap H) := by
    refine ⟨fun b o e => hidT_get (KX b o e) ?_, ns_hid hns (freeD _), ⟨mb, ns_hid hb (freeD _), hbb⟩, ?_⟩
    · cases q : H b with
      | none => rfl
      | some u =>
        rcases hp0_some q with ⟨m, _⟩ | ⟨_, rfl, k, _⟩
        · obtain ⟨p, hp, z⟩ := ofT b m
          rw [← z, nT p hp] at e
          cases e
        · rw [k] at e
          cases e
    · obtain ⟨mc, n, z⟩ := hlim
      exact ⟨mc, ns_hid n (freeD _), z⟩
  have tabs : ∀ p ∈ cs, GxR.TabB (hidT s₁.heap H) mg p.1 p.2 := fun p hp => by
    refine ⟨?_, ?_, fun z => ?_⟩
    · obtain ⟨o, us, file, tf, flags, tg, inF, text, tt, e1, r1, r2, r3, rr⟩ := hC p hp
      refine ⟨o, us, file, tf, flags, tg, inF, text, tt, hidT_get e1 (free e1 (fun v n z => by rw [r2] at z; cases z) fun z => ?_), r1, r2, r3, rr⟩
      rw [r2] at z
      cases z
      cases r3
    · obtain ⟨bm, ob, b1, b2, b3, b4, b5, b6⟩ := hbm
      refine ⟨bm, ob, b1, b2, fun q => ?_, fun q => ?_, hidT_get b3 (free b3 (fun v n z => by rw [b6] at z; cases z) fun z => by rw [b6] at z; cases z), b4, b5, b6⟩
      · obtain ⟨o, es, ep, e, hd, _⟩ := hns
        rw [← q, b3] at e
        cases e
        rw [b6] at hd
        cases hd
      · rw [q, hT p hp] at b3
        cases b3
        cases b6
    · obtain ⟨o, es, ep, e, hd, _⟩ := hns
      rw [z, hT p hp] at e
      cases e
      cases hd
  have hok : HOk P w H s₁.heap := fun b u q => by
    rcases hp0_some q with ⟨m, rfl⟩ | ⟨_, rfl, k, rfl⟩
    · exact tT b m
    · exact ⟨ha, by rw [List.length_map]; exact hl, vs, _, vals_ints hi, ha⟩
  have sq : SqL K H a (ns.map V.int) := by
    cases k : K.lookup a with
    | none => exact .inl (.inr ⟨_, hp0_a aT k⟩)
    | some o =>
      have e := KX a o k
      rw [ha] at e
      cases e
      exact .inr ⟨_, vs.toArray, _, k, rfl, rfl, rfl, by rw [List.size_toArray, hlen]; exact hl, by simpa using vals_ints hi⟩
  have nf : ∀ b, b ∉ frs ([] : List Env) := fun b z => by cases z
  refine codeAny_mono (F (hidT s₁.heap H) H bmod.kin (ns_hid hns (freeD _)) tabs ⟨rfl, bmod, fun b o e => of_hidT e, Nat.le_of_eq (hidT_size _ _), trivial, fun b z => absurd z (nf b), hok, .of_eq hg⟩ (fun p hp => hp0_t (inT p hp)) sq) fun r s' h => ?_
  cases r with
  | error e => exact False.elim h
  | ok fl =>
    cases fl with
    | next => exact False.elim h
    | brk => exact False.elim h
    | cont => exact False.elim h
    | ret u =>
      obtain ⟨v, H', os, bare, un, hok', rv, rfl⟩ := h
      obtain rfl : u = Value.bool true := rv
      have tab' : ∀ b ∈ T, ∃ more : Array Value, s'.heap.get? b = some { cls := .none, data := .fields more } := fun b hb => by
        obtain ⟨more, z⟩ := un.tbls b #[] (hp0_t hb)
        exact ⟨_, hok' b _ z⟩
      have same : ∀ b o, b ∉ T → s₁.heap.get? b = some o → s'.heap.get? b = some o := fun b o nb e => by
        cases q : H b with
        | none => exact un.keep b o e q (nf b) (fun z => by cases z)
        | some u =>
          rcases hp0_some q with ⟨m, _⟩ | ⟨_, rfl, k, rfl⟩
          · exact absurd m nb
          · obtain ⟨z, _⟩ := hok' b _ (un.frzs b _ _ q)
            rw [ha] at e
            cases e
            exact z
      refine ⟨rfl, ⟨fun b o e => ?_, fun b o e => ?_⟩, os, bare⟩
      · by_cases m : b ∈ T
        · obtain ⟨p, hp, rfl⟩ := ofT b m
          obtain ⟨more, z⟩ := tab' _ m
          rw [hT p hp] at e
          cases e
          exact .inr (.inl ⟨((hC p hp).tab (hT p hp)).isCodeTable, rfl, #[], more, rfl, by rw [Array.empty_append]; exact z⟩)
        · exact .inl (same b o m e)
      · by_cases m : b ∈ T
        · obtain ⟨more, z⟩ := tab' b m
          exact ⟨_, z⟩
        · exact ⟨o, same b o m e⟩
end
end Qp

/-! Q35: repr of data, where no repr is under way; defs that want to know so; sum, & 1, texts compared. -/
namespace Qp
open PySem PySem.Spec PyProof.Rows L2
/-- no repr is under way -/
def Grd (C : Cs) : Prop := ∀ j, (C.X j).A.guards = some []
theorem Grd.su {C : Cs} [hc : Cold C] {a Cl dd : Addr} {gs : List (Str × D)} (h : Grd C) : Grd (C.su a Cl dd gs) := fun q => h q.i
/-! ### repr -/
/-- what may be shown: n within one another, of weight at most W -/
structure Sw (n W : Nat) (d : D) : Prop where
  pl : d.plain = true
  cl : d.py.canLay0 = true
  sh : d.py.showable = true
  it : d.py.intsShort 13 = true
  dp : d.py.depth ≤ n
  wt : d.py.weight ≤ W
theorem Sw.mono {n m W V : Nat} {d : D} (h : Sw n W d) (h1 : n ≤ m) (h2 : W ≤ V) : Sw m V d := ⟨h.pl, h.cl, h.sh, h.it, Nat.le_trans h.dp h1, Nat.le_trans h.wt h2⟩
theorem sw_non : Sw 0 0 .non := ⟨rfl, rfl, rfl, rfl, Nat.le_refl _, Nat.le_refl _⟩
theorem sw_bl {b : Bool} : Sw 0 0 (.bl b) := ⟨rfl, rfl, rfl, rfl, Nat.le_refl _, Nat.le_refl _⟩
theorem sw_int {i : Int} {k : Nat} (h : i.natAbs < 2 ^ k) (hk : k ≤ 39) : Sw 0 k (.int i) := by
  have h12 : i.natAbs < 10 ^ 12 := Nat.lt_of_lt_of_le h (Nat.le_trans (Nat.pow_le_pow_right (by decide) hk) (by decide))
  have hl : i.natAbs ≠ 0 → i.natAbs.log2 < k := fun z => (Nat.log2_lt z).mpr h
  refine ⟨rfl, rfl, ?_, ?_, Nat.le_refl _, ?_⟩
  · show decide (i.natAbs.log2 < 1920) = true
    refine decide_eq_true ?_
    by_cases z : i.natAbs = 0
    · rw [z]; decide
    · have := hl z; omega
  · show decide ((PyData.shown (.int i)).length ≤ 13) = true
    exact decide_eq_true (PyData.shown_int_le h12)
  · show (if i == 0 then 0 else i.natAbs.log2 + 1) ≤ k
    split
    · exact Nat.zero_le _
    · next z =>
      have z' : i.natAbs ≠ 0 := fun q => z (by rw [beq_iff_eq]; exact Int.natAbs_eq_zero.mp q)
      exact hl z'
theorem sw_str {x : Str} {k : Nat} (h : PyData.strOk x = true) (hl : x.cps.size ≤ k) : Sw 0 k (.str x) := ⟨rfl, h, rfl, rfl, Nat.le_refl _, hl⟩
theorem sw_all {n W : Nat} : ∀ {ds : List D}, (∀ d ∈ ds, Sw n W d) → plainAll ds = true ∧ PyData.canLayAll0 (pyAll ds) = true ∧ PyData.showableAll (pyAll ds) = true ∧ PyData.intsShortAll 13 (pyAll ds) = true ∧ PyData.depthAll (pyAll ds) ≤ n ∧ PyData.weightAll (pyAll ds) ≤ ds.length * (W + 1)
  | [], _ => ⟨rfl, rfl, rfl, rfl, Nat.zero_le _, Nat.zero_le _⟩
  | d :: ds, h => by
    obtain ⟨h1, h2, h3, h4, h5, h6⟩ := sw_all (ds := ds) fun e he => h e (List.mem_cons_of_mem _ he)
    have hd := h d List.mem_cons_self
    refine ⟨?_, ?_, ?_, ?_, ?_, ?_⟩
    · show (d.plain && plainAll ds) = true
      rw [hd.pl, h1]; rfl
    · show (d.py.canLay0 && PyData.canLayAll0 (pyAll ds)) = true
      rw [hd.cl, h2]; rfl
    · show (d.py.showable && PyData.showableAll (pyAll ds)) = true
      rw [hd.sh, h3]; rfl
    · show (d.py.intsShort 13 && PyData.intsShortAll 13 (pyAll ds)) = true
      rw [hd.it, h4]; rfl
    · show max d.py.depth (PyData.depthAll (pyAll ds)) ≤ n
      exact Nat.max_le.mpr ⟨hd.dp, h5⟩
    · show d.py.weight + 1 + PyData.weightAll (pyAll ds) ≤ (ds.length + 1) * (W + 1)
      have := hd.wt
      rw [Nat.succ_mul]
      omega
theorem sw_tup {n W L : Nat} {ds : List D} (h : ∀ d ∈ ds, Sw n W d) (hl : ds.length ≤ L) : Sw (n + 1) (L * (W + 1)) (.tup ds) := by
  obtain ⟨h1, h2, h3, h4, h5, h6⟩ := sw_all h
  exact ⟨h1, h2, h3, h4, Nat.succ_le_succ h5, Nat.le_trans h6 (Nat.mul_le_mul_right _ hl)⟩
theorem sw_lst {n W L : Nat} {ds : List D} (h : ∀ d ∈ ds, Sw n W d) (hl : ds.length ≤ L) : Sw (n + 1) (L * (W + 1)) (.lst ds) := by
  obtain ⟨h1, h2, h3, h4, h5, h6⟩ := sw_all h
  exact ⟨h1, h2, h3, h4, Nat.succ_le_succ h5, Nat.le_trans h6 (Nat.mul_le_mul_right _ hl)⟩
def rRepr (K : Fg) : List V → Hp → VK → Prop := fun xs H Q => ∃ v d, xs = [v] ∧ Dp K H v d ∧ d.layable0 = true ∧ d.showable = true ∧ d.intsShort 13 = true ∧ Q (.str d.shown) H
theorem call_repr {X : Cx} (hG : X.A.guards = some []) (hu : X.A.units + (64 + 1) < cLine) : CallR X (.builtin "repr") (rRepr X.K) := by
  intro pins s σ H xs us Q I r h
  obtain ⟨v, d, rfl, hd, hl, hs, hi, q⟩ := h
  obtain ⟨u, rfl, rv⟩ := vals1 r
  have hsz : d.shown.length ≤ sizeLine := PyData.shown_fits_of_layable0 (by decide) (Nat.le_refl 13) hl hi
  cases hd with
  | non => cases rv; exact PySem.P.repr_of_none ⟨.str _, H, I.tok _, ⟨_, rfl⟩, q⟩
  | bl b => cases rv; exact PySem.P.repr_of_bool ⟨.str _, H, I.tok _, ⟨_, rfl⟩, q⟩
  | int i => obtain ⟨t, rfl⟩ := rv; exact PySem.P.repr_of_int (of_decide_eq_true hs) ⟨.str _, H, I.tok _, ⟨_, rfl⟩, q⟩
  | str x => obtain ⟨t, rfl⟩ := rv; exact PySem.P.repr_of_str ⟨.str _, H, I.tok _, ⟨_, rfl⟩, q⟩ hsz
  | lst h1 h2 =>
    have hd' := Dp.lst h1 h2
    obtain ⟨as, rd⟩ := Dp.reads I _ _ _ hd' rv
    cases rv
    exact repr_of_reads' rd hs (PyData.noDict_hsm (PyData.hasDict_of_layable hl)) hG (room_of_layable hl hu) (fun _ _ e => e) (fun h' u tk hk => ⟨.str _, H, I.kept hk, ⟨_, rfl⟩, q⟩) hsz
  | tup h1 h2 =>
    have hd' := Dp.tup h1 h2
    obtain ⟨as, rd⟩ := Dp.reads I _ _ _ hd' rv
    cases rv
    exact repr_of_reads' rd hs (PyData.noDict_hsm (PyData.hasDict_of_layable hl)) hG (room_of_layable hl hu) (fun _ _ e => e) (fun h' u tk hk => ⟨.str _, H, I.kept hk, ⟨_, rfl⟩, q⟩) hsz
theorem Cs.hu' (C : Cs) (i : C.ι) : (C.X i).A.units + (64 + 1) < cLine := by
  cases h : C.hot with
  | false => have := (C.cold i h).un; omega
  | true => have := (C.hotc i h).2.un; omega
section
variable {C : Cs} {ls : List Loc} {e a b : Expr} {d : D} {p1 pos : Pos} {n W : Nat} {x y : Str} {Po : D → Prop}
theorem repr' (C : Cs) (hG : Grd C) (j : C.ι) : CallR (C.X j) (.builtin "repr") (rRepr C.K) := kx (p := fun K => CallR (C.X j) (.builtin "repr") (rRepr K)) j (call_repr (hG j) (C.hu' j))
theorem Sw.lay {d : D} (h : Sw n W d) (hn : n ≤ 64) (hW : W ≤ 1048576) : d.py.layable0 = true := by
  show (d.py.canLay0 && decide (d.py.depth ≤ 64) && decide (d.py.weight ≤ 2 ^ 20)) = true
  rw [h.cl, decide_eq_true (Nat.le_trans h.dp hn), decide_eq_true (Nat.le_trans h.wt (Nat.le_trans hW (by decide)))]
  rfl
/-- repr(d) -/
theorem je_repr (ha : JE C ls a d) (h : Sw n W d) (hG : Grd C := by assumption) (hn : n ≤ 64 := by decide) (hW : W ≤ 1048576 := by decide) (hm : NoG C "repr" := by assumption) (hg : ∀ j, Gl (C.X j) "repr" := by intro _; rfl) (hs : NS a := by intro _ _; rfl) : JE C ls (.Call (.Name "repr" p1) [a] [] pos) (.str d.py.shown) :=
  je_of (fun j => pe_cb1 j (repr' C hG j) (hg j) hm boot_repr hs) fun F G H σ S xx Q q => ha F G H σ S xx _ fun v G1 H1 eg1 eh1 S1 hv => ⟨v, d.py, rfl, dp_mono S1.ex (dp_of hv h.pl), h.lay hn hW, h.sh, h.it, q _ G1 H1 eg1 eh1 S1 (.str _)⟩
theorem jx_repr (ha : JX C ls a Po) (h : ∀ d, Po d → Sw n W d) (hG : Grd C := by assumption) (hn : n ≤ 64 := by decide) (hW : W ≤ 1048576 := by decide) (hm : NoG C "repr" := by assumption) (hg : ∀ j, Gl (C.X j) "repr" := by intro _; rfl) (hs : NS a := by intro _ _; rfl) : JX C ls (.Call (.Name "repr" p1) [a] [] pos) fun z => ∃ d, Po d ∧ z = .str d.py.shown := fun F G H σ S xx Q q =>
  ⟨_, fun j => pe_cb1 j (repr' C hG j) (hg j) hm boot_repr hs, ha F G H σ S xx _ fun d v G1 H1 hd eg1 eh1 S1 hv => ⟨v, d.py, rfl, dp_mono S1.ex (dp_of hv (h d hd).pl), (h d hd).lay hn hW, (h d hd).sh, (h d hd).it, q _ _ G1 H1 ⟨d, hd, rfl⟩ eg1 eh1 S1 (.str _)⟩⟩
/-! texts compared -/
theorem ev_eqS {te tb : TE} {f : Bool → Bool} {r : R2} (hr : ∀ x y H Q, r (.str x) (.str y) H Q ↔ Q (.bl (f (decide (x = y)))) H) (ha : Ev C.K C.E te ls (.str x)) (hb : Ev C.K C.E tb ls (.str y)) : Ev C.K C.E (tOp r te tb) ls (.bl (f (decide (x = y)))) :=
  ev_op ha hb fun G H u v Q eg hx hy q => by
    rw [dq_str hx, dq_str hy]
    exact (hr x y H Q).mpr (q _ (.bl _))
theorem dec_vs {x y : Str} : decide (V.str x = V.str y) = decide (x = y) := by
  by_cases h : x = y
  · subst h; simp
  · rw [decide_eq_false h, decide_eq_false fun z => h (V.str.inj z)]
theorem jt_eqS (ha : JE C ls a (.str x)) (hb : JE C ls b (.str y)) : JT C ls (.Compare a [.Eq] [b] pos) (decide (x = y)) :=
  jt_of (fun j => pt_cmpR op_eq (pe_any C a j) (pe_any C b j) (nomark _)) (evT_test (ev_op ha hb fun G H u v Q eg hx hy q => by
    rw [dq_str hx, dq_str hy]
    exact ⟨rfl, by rw [dec_vs]; exact q _ (.bl _)⟩))
theorem jt_neS (ha : JE C ls a (.str x)) (hb : JE C ls b (.str y)) : JT C ls (.Compare a [.NotEq] [b] pos) (!decide (x = y)) :=
  jt_of (fun j => pt_cmpR op_ne (pe_any C a j) (pe_any C b j) (nomark _)) (evT_test (ev_op ha hb fun G H u v Q eg hx hy q => by
    rw [dq_str hx, dq_str hy]
    exact ⟨rfl, by rw [dec_vs]; exact q _ (.bl _)⟩))
theorem je_eqS (ha : JE C ls a (.str x)) (hb : JE C ls b (.str y)) : JE C ls (.Compare a [.Eq] [b] pos) (.bl (decide (x = y))) :=
  je_of (fun j => pe_cmpR op_eq (pe_any C a j) (pe_any C b j) (nomark _)) (ev_op ha hb fun G H u v Q eg hx hy q => by
    rw [dq_str hx, dq_str hy]
    exact ⟨rfl, by rw [dec_vs]; exact q _ (.bl _)⟩)
/-! sum(a list of ints), i & 1 -/
theorem sum' (C : Cs) [Cold C] (j : C.ι) : CallR (C.X j) (.builtin "sum") (rSum C.K) := kx (p := fun K => CallR (C.X j) (.builtin "sum") (rSum K)) j (cr_sum (C.calm j Cold.h))
theorem je_sum [Cold C] {ns : List Int} (ha : JC C ls a (iL ns)) (hm : NoG C "sum" := by assumption) (hg : ∀ j, Gl (C.X j) "sum" := by intro _; rfl) (hs : NS a := by intro _ _; rfl) : JE C ls (.Call (.Name "sum" p1) [a] [] pos) (.int ns.sum) :=
  je_of (fun j => pe_cb1 j (sum' C j) (hg j) hm (by decide +kernel) hs) fun F G H σ S xx Q q => ha F G H σ S xx _ fun p vs G1 H1 eg1 eh1 S1 hp hv => by
    obtain rfl := dqAll_ints' hv
    exact ⟨p, ns, rfl, SqL.of hp, q _ G1 H1 eg1 eh1 S1 (.int _)⟩
theorem je_and1 {i : Int} (ha : JE C ls a (.int i)) (hb : JE C ls b (.int 1)) : JE C ls (.BinOp a .BitAnd b pos) (.int (i % 2)) :=
  je_of (fun j => pe_op op_andM (pe_any C a j) (pe_any C b j)) (ev_op ha hb fun G H u v Q eg hx hy q => ⟨i, 1, dq_int hx, dq_int hy, q _ (.int _)⟩)
end
/-! ### defs that want to know -/
structure FnG (P : Program) (w : World) (K : Fg) (mg : Str → Option Value) (base : Heap) (k : Nat) (f : Addr) (fd : FuncData) (ps : List Str) (sp : Sp) : Prop where
  len : ∀ vs H Q E, sp vs H Q E → vs.length = ps.length
  run : ∀ (A : Around) (outer : List Env) (s : Shared) (H : Hp) (args : Args) (us : List Value) (vs : List V) (Q : VK), A.guards = some [] → Room k A → Env0 P w K mg base A outer s H → BindsTo s fd args (ps.zip us) → Vals vs us → sp vs H Q E0 →
    codeAny (model P w) A (.call (.ref f) args) (CR CX0 outer P w H s Q E0) s
section
variable {P : Program} {w : World} {K : Fg} {mg : Str → Option Value} {base : Heap}
theorem fn_okG {x qual : Str} {st : Stmt} {f : Addr} {fd : FuncData} {N ps : List Str} {k : Nat} {R : Rel} {T : Addr → Prop} (F : Fun K x qual st f fd) (S : FnScope N ps (defScope st)) (len : ∀ ds d, R ds d → ds.length = ps.length)
    (body : ∀ (cdv : Value) (A : Around) (outer : List Env) (s : Shared) (H : Hp) (E : XK) (hr : Room k (A.deeper (envOfC qual (defScope st) s.heap.objs.size f cdv))), Grd (Cs.of P w K mg base S.nd qual (defScope st) f cdv A outer s H E hr T) → ∀ (ds : List D) (Po : D → Prop), R ds Po →
      JB (Cs.of P w K mg base S.nd qual (defScope st) f cdv A outer s H E hr T) (locs N.length ds) (defBody st) (RetX Po)) : FnG P w K mg base (k + 1) f fd ps (spD K R T) := by
  obtain ⟨oc, od, kV, doc, pm, an, cdv, ct, osl, rfl, lk, hcd⟩ := F.ex
  have hlen : ∀ vs H Q E, spD K R T vs H Q E → vs.length = ps.length := fun vs H Q E h => by
    obtain ⟨G, ds, d, _, _, hv, hR, _⟩ := h
    rw [hv.length]
    exact len ds d hR
  refine ⟨hlen, fun A outer s H args us vs Q hG hr e0 hb r hsp => ?_⟩
  have kin : K.In s.heap := e0.mod.kin.keeps fun b o e => (e0.bs b o e).1
  have par : ∀ y ∈ ps.zip us, (defScope st).names.lookup y.1 = some .local ∨ ((defScope st).names.lookup y.1 = some .cell ∧ ((cellsFrom (s.heap.objs.size + 1) (defScope st).names []).lookup y.1).isSome = true) := fun y hy => by
    obtain ⟨z, u⟩ := y
    exact (S.par z (List.of_mem_zip hy).1).imp id fun q => ⟨q, PySem.W.cellsFrom_some _ _ _ (.inl q)⟩
  refine codeAny_call_function hr.depth (kin _ _ lk) rfl S.co S.gen rfl (PySem.W.codeRec_of kin hcd) (hb _ _ _ _ (wpAny_newFunctionEnv_cells S.kind par fun env he s1 x => ?_))
  subst he
  have lim : s.heap.NoLimit := e0.mod.nolimit.keeps fun b o e => (e0.bs b o e).1
  refine ⟨lim.keeps x.toInCall.keep, codeAny_func ?_⟩
  have I : Inv (cxOf CX0 P w K mg base N qual (defScope st) f cdv A outer s H E0) [] (start N vs) H s1 := inv_start S hr.hd e0 (hlen _ _ _ _ hsp) r x
  obtain ⟨G, ds, Po, eg, tb, hv, hR, q⟩ := hsp
  have fin : ∀ G' H' v d', Ex G G' → Kp (fun a => NT H a ∧ G a = none) H H' → (∀ a, (NT H a ∧ G a = none) → G' a = none) → Ex G' H' → Dq K G' v d' → Po d' → Q v H' := fun G' H' v d' eg' kp fg e hv' hd =>
    q d' hd G' H' v eg' e (ex_of_kp eg eg' kp e) (fun a h1 h2 => fg a ⟨h1, h2⟩) hv'
  let C := Cs.of P w K mg base S.nd qual (defScope st) f cdv A outer s H E0 (hr.deeper (envOfC qual (defScope st) s.heap.objs.size f cdv)) T
  have bd := body cdv A outer s H E0 (hr.deeper _) (fun _ => hG) ds Po hR (fun a => NT H a ∧ G a = none) G H (L2.start N vs) { nx := fun _ H' => Q .non H', rt := Q } (sat_start eg hv) ⟨fun G' H' σ' ls' eg' kp S' r => fin G' H' .non .non eg' kp (fun a fa => (S'.fo a fa).1) S'.ex .non r, fun G' H' v d' eg' kp fg e hv' r => fin G' H' v d' eg' kp fg e hv' r, fun _ _ _ _ _ _ _ z => False.elim z, fun _ _ _ _ _ _ _ z => False.elim z, tb, fun _ z => (List.not_mem_nil z).elim, fun _ _ _ _ _ _ _ _ _ _ _ _ _ z => False.elim z⟩
  refine wpAny_mono ((pb_any C (defBody st) ()).nox.run [] s1 (L2.start N vs) H _ I bd) (fun fl s' hs => ?_) fun e s' hs => hs
  have done : ∀ {σ' : L2.St} {H' : Hp} {v : V} {u : Value}, Inv (cxOf CX0 P w K mg base N qual (defScope st) f cdv A outer s H E0) [] σ' H' s' → RelV v u → Q v H' → CE outer P w H s Q u s' := fun J rv q => ⟨_, _, J.os, J.bare, J.base, J.hok, rv, q⟩
  cases fl with
  | ret u =>
    obtain ⟨v, σ', H', J, rv, q⟩ := hs
    exact done J rv q
  | next =>
    obtain ⟨σ', H', J, q⟩ := hs
    exact done (v := V.non) (u := Value.none) J rfl q
  | brk => obtain ⟨_, _, _, q⟩ := hs; exact False.elim q
  | cont => obtain ⟨_, _, _, q⟩ := hs; exact False.elim q
theorem fn_okdG {x qual : Str} {st : Stmt} {f : Addr} {fd : FuncData} {N ps : List Str} {k : Nat} {r : List D → D → Prop} {T : Addr → Prop} (F : Fun K x qual st f fd) (S : FnScope N ps (defScope st)) (len : ∀ ds d, r ds d → ds.length = ps.length)
    (body : ∀ (cdv : Value) (A : Around) (outer : List Env) (s : Shared) (H : Hp) (E : XK) (hr : Room k (A.deeper (envOfC qual (defScope st) s.heap.objs.size f cdv))), Grd (Cs.of P w K mg base S.nd qual (defScope st) f cdv A outer s H E hr T) → ∀ (ds : List D) (d : D), r ds d →
      JB (Cs.of P w K mg base S.nd qual (defScope st) f cdv A outer s H E hr T) (locs N.length ds) (defBody st) (Ret d)) : FnG P w K mg base (k + 1) f fd ps (spD K (det r) T) :=
  fn_okG F S (fun ds Po ⟨d, h, _⟩ => len ds d h) fun cdv A outer s H E hr hG ds Po ⟨d, h, e⟩ => by
    subst e
    exact jb_post (body cdv A outer s H E hr hG ds d h) (fun _ z => Eq.symm z) (fun _ z => z) (fun _ z => z) (fun _ z => z)
/-- such a def as callers see it -/
structure FnGt (P : Program) (w : World) (K : Fg) (mg : Str → Option Value) (base : Heap) (k : Nat) (x : Str) (R : Rel) (T : Addr → Prop := fun _ => False) : Prop where
  ex : ∃ f fd ps, FnG P w K mg base k f fd ps (spD K R T) ∧ mg x = some (.ref f) ∧ PySem.W.keepIn K (.ref f) = true ∧ Binds K fd ps []
theorem FT.fnG {k : Nat} {x : Str} {st : Stmt} {ps : List Str} {R : Rel} {T : Addr → Prop} (Y : FT K mg x st) (G : ∀ {f fd}, Fun K x x st f fd → FnG P w K mg base k f fd ps (spD K R T)) (h : ∀ (kV doc pm : Value) (an : Option Addr) (cdv ct : Value) (us : List Value), us.length = ps.length → bindArgs (PySem.W.fnOf x x (defArgs st) (defBody st) (defScope st) .none kV doc pm an cdv ct) ⟨us, []⟩ = pure (ps.zip us)) : FnGt P w K mg base k x R T := by
  obtain ⟨f, fd, F, hm⟩ := Y.ex
  exact ⟨f, fd, ps, G F, hm, F.kp, F.binds h⟩
end
section
variable {C : Cs} {ls : List Loc} {e a b : Expr} {d d1 : D} {ds : List D} {p pos p1 p2 : Pos} {x : Str} {k : Nat} {R : Rel} {r : List D → D → Prop} {Po : D → Prop}
theorem pe_callG {X : Cx} {f : Addr} {fd : FuncData} {ps : List Str} {sp : Sp} {es : List Expr} {t : TA} (F : FnG X.prog X.w X.K X.mg X.base k f fd ps sp) (hG : X.A.guards = some []) (hr : Room k X.A) (hg : Gl X x) (hm : X.mg x = some (.ref f)) (hk : PySem.W.keepIn X.K (.ref f) = true) (hb : Binds X.K fd ps [])
    (ha : PA X (e :: es) t) (hdb : (x == ("__debug__" : Str)) = false) (he : starEach (e :: es) X.env = (false, eval e X.env) :: starEach es X.env) (hpl : (backTo pos (starEach es X.env)).any (·.1) = false) : PE X (.Call (.Name x p) (e :: es) [] pos) (tCall sp [] E0 t) := by
  refine ⟨fun pins s σ H Q I h => wpAny_Call_Name_kw (ld_glob I hg hm (PySem.W.callWith_K (h₀ := X.base) I.ok.mod.kin hk (thn (ha.run pos pins s σ H _ I h) fun us s1 y => ?_) he hpl) hdb)⟩
  obtain ⟨vs, H1, I1, rv, q⟩ := y
  have q' : sp vs H1 Q E0 := by
    have z : sp (vs ++ []) H1 Q E0 := q
    rwa [List.append_nil] at z
  refine ⟨I1.kIn, wpAny_call (codeAny_mono (F.run X.A X.stack s1 H1 ⟨us, []⟩ us vs Q hG hr I1.env0 ?_ rv q') fun o s' ho => ?_)⟩
  · have := hb s1 us I1.kIn (by rw [List.append_nil, ← rv.length]; exact F.len _ _ _ _ q')
    rwa [List.append_nil] at this
  · cases o with
    | error _ => exact False.elim ho
    | ok fl => cases fl with
      | ret u => exact I1.after ho
      | next => exact False.elim ho
      | brk => exact False.elim ho
      | cont => exact False.elim ho
theorem fnAtG {f : Addr} {fd : FuncData} {ps : List Str} {sp : Sp} (F : FnG C.P C.w C.K C.mg C.base k f fd ps sp) (hk : k ≤ C.k) (j : C.ι) : FnG (C.X j).prog (C.X j).w (C.X j).K (C.X j).mg (C.X j).base C.k f fd ps sp := by
  rw [C.hP, C.hw, C.hK, C.hmg, C.hbase]
  exact ⟨F.len, fun A outer s H args us vs Q hG hr => F.run A outer s H args us vs Q hG (hr.mono hk)⟩
theorem jx_callG [Cold C] (F : FnGt C.P C.w C.K C.mg C.base k x R C.E.T) {es : List Expr} {Pa : List D → Prop} (ha : JXA C ls (e :: es) Pa) (hR : ∀ ds, Pa ds → R ds Po) (hG : Grd C := by assumption) (hk : k ≤ C.k := by exact Nat.le_of_ble_eq_true rfl) (hg : ∀ j, Gl (C.X j) x := by intro _; rfl) (hdb : (x == ("__debug__" : Str)) = false := by decide) :
    JX C ls (.Call (.Name x p) (e :: es) [] pos) Po := by
  obtain ⟨f, fd, ps, G, hm, kp, hb⟩ := F.ex
  refine fun F' G1 H1 σ S xx Q q => ⟨tCall (spD C.K R C.E.T) [] E0 (aAny C (e :: es)), fun j => ?_, ha.ev F' G1 H1 σ S xx _ fun ds vs G2 H2 hp eg2 eh2 S2 hv => ?_⟩
  · exact pe_callG (fnAtG G hk j) (hG j) (C.cold j Cold.h) (hg j) (by rw [C.hmg]; exact hm) (by rw [C.hK]; exact kp) (by rw [C.hK]; exact hb) (pa_any C (e :: es) j) hdb (ha.ns e List.mem_cons_self _ _) (ns_any (fun y hy => ha.ns y (List.mem_cons_of_mem _ hy)) _ _)
  · rw [List.append_nil]
    refine ⟨G2, ds, Po, S2.ex, (xx.step eg2 eh2).tb, hv, hR ds hp, fun d hd G3 H3 v eg3 e3 eh3 n3 hv3 => q d v G3 H3 hd (eg2.trans eg3) (eh2.trans eh3) (S2.grow eg3 eh3 e3 fun a ha => ?_) hv3⟩
    by_cases h2 : NT H2 a
    · exact Or.inl fun g => ha (n3 a h2 g)
    · exact Or.inr h2
theorem je_callG [Cold C] (F : FnGt C.P C.w C.K C.mg C.base k x (det r) C.E.T) {es : List Expr} (ha : JA C ls (e :: es) ds) (hR : r ds d) (hG : Grd C := by assumption) (hk : k ≤ C.k := by exact Nat.le_of_ble_eq_true rfl) (hg : ∀ j, Gl (C.X j) x := by intro _; rfl) (hdb : (x == ("__debug__" : Str)) = false := by decide) :
    JE C ls (.Call (.Name x p) (e :: es) [] pos) d := JX.je (jx_callG F (.of ha) (fun _ z => by rw [z]; exact ⟨d, hR, rfl⟩) hG hk hg hdb)
end
/-! ### the end -/
theorem law_endG {l : PySem.W.OpenLaw} {k : Nat} {q : Program} {loose : List Str} {XP : (Str → Option Value) → Heap → Prop} {YP : World → Heap → Prop} {d : DefRec} {K : Params → PySem.W.Frag} {x : Str}
    (hn : l.most = some 63) (hdf : d.params.defaults = []) (hr : Room k callerA) (hY : ∀ (w : World) (h : Heap), YP w h → (K w.params).In h)
    (F : ∀ (w : World) (mg : Str → Option Value) (fa : Addr) (h : Heap), (K w.params).In h → h.Ns mainGlobals mg → mg d.name = some (.ref fa) → TabFacts q (K w.params) h →
      ∃ (fd : FuncData) (cs : List (Addr × Addr)), (∀ p ∈ cs, Tab0 (K w.params) h p) ∧ (∀ (s : Shared) (u : Value), BindsTo s fd ⟨[u], []⟩ [(x, u)]) ∧
        ∀ base : Heap, (K w.params).In base → base.Ns mainGlobals mg → (∀ p ∈ cs, GxR.TabB base mg p.1 p.2) → FnG l.prog w (K w.params) mg base k fa fd [x] (spD (K w.params) rLaw (tabT cs))) :
    PySem.W.WalkO q loose XP YP l.row.toRowW d [] (fun f vs => PySem.call f vs) := by
  refine Att.attach_callB hn hdf fun w s₀ s₁ mg mb fa o pm cd doc a vs ns G Y ho hd hcd hmg hobj hints hlen hbits hg => ?_
  obtain ⟨fd, cs, hC, hb, hF⟩ := F w mg fa _ (hY w _ Y) G.T.g hmg fun x c P h1 h2 => by
    obtain ⟨e, he⟩ := Option.isSome_iff_exists.mp h1
    exact PySem.W.tab_of G.T (hY w _ Y) he h2
  exact law_first (hY w _ Y) G.T.g G.T.b G.T.builtins G.T.nolimit hg (fun p hp => (hC p hp).t) (fun p hp => (hC p hp).n) (fun p hp => (hC p hp).c) G.T.bmain hobj hints (Nat.le_trans hlen (by decide)) fun base H h1 h2 h3 e0 hT hS =>
    (hF base h1 h2 h3).run callerA [] s₁ H ⟨[.ref a], []⟩ [.ref a] [.ref a] _ rfl hr e0 (hb s₁ (.ref a)) (.cons rfl .nil) ⟨H, [.scr ns], _, Ex.refl H, fun P hP => by
      obtain ⟨p, hp, rfl⟩ := hP
      exact ⟨_, hT p hp, trivial⟩, .cons (.scr hS) .nil, ⟨ns, hlen, rfl, rfl⟩, fun d hd G' H' v _ _ _ _ hv => by subst hd; exact dq_bl hv⟩
end Qp

/-! Q36: the truth of a tuple, or as a value, three names from a tuple, a comprehension over the script. -/
namespace Qp
open PySem PySem.Spec PyProof.Rows L2
section
variable {C : Cs} {ls : List Loc} {e a b elt : Expr} {d d1 d2 d3 : D} {ds : List D} {p1 pos : Pos} {P : Post} {rest : List Stmt} {scope : Scope} {ifs : List Expr} {x : Str}
theorem tru_of {K : Fg} {G H : Hp} {v : V} (eg : Ex G H) (h : Dq K G v (.tup ds)) : TruV K v H (!ds.isEmpty) := by
  obtain ⟨p, vs, rfl, ht, hv⟩ := dq_tup h
  refine .inr (.inl ⟨vs, ex_t eg ht, ?_⟩)
  have := hv.length
  cases vs <;> cases ds <;> first | rfl | (simp at this)
theorem jt_truT (ha : JE C ls a (.tup ds)) (he : ∀ j whole, isTrue a (C.X j).env whole = (do let v ← whole; standAt a.pos; holding [v] (truthy v)) := by intro _ _; rfl) : JT C ls a (!ds.isEmpty) :=
  jt_of (t := fun σ H Q => eAny C a σ H fun x H' => ∃ k, TruV C.K x H' k ∧ Q k H') (fun j => kx (p := fun K => PT (C.X j) a (fun σ H Q => eAny C a σ H fun x H' => ∃ k, TruV K x H' k ∧ Q k H')) j (pt_truth (pe_any C a j) (he j))) fun F G H σ S xx Q q => ha F G H σ S xx _ fun v G' H' eg eh S' hv => ⟨_, tru_of S'.ex hv, q G' H' eg eh S'⟩
theorem je_orT {r : List Expr} (ha : JE C ls a (.tup ds)) (hb : ds = [] → JE C ls (.BoolOp .Or (b :: r) pos) d) (h : d1 = if ds.isEmpty then d else .tup ds) : JE C ls (.BoolOp .Or (a :: b :: r) pos) d1 :=
  je_of (t := tOrT C.K (eAny C a) (eAny C (.BoolOp .Or (b :: r) pos))) (fun j => kx (p := fun K => PE (C.X j) _ (tOrT K (eAny C a) (eAny C (.BoolOp .Or (b :: r) pos)))) j (pe_orT (pe_any C a j) (pe_any C _ j))) fun F G H σ S xx Q q => ha F G H σ S xx _ fun v G' H' eg eh S' hv => ⟨_, tru_of S'.ex hv, by
    subst h
    cases ds with
    | nil =>
      exact hb rfl F G' H' σ S' (xx.step eg eh) Q fun v2 G2 H2 eg2 eh2 S2 hv2 => q v2 G2 H2 (eg.trans eg2) (eh.trans eh2) S2 hv2
    | cons z zs => exact q _ G' H' eg eh S' hv⟩
theorem js_un3 (i1 i2 i3 : Nat) {x1 x2 x3 : Str} {q1 q2 q3 tpos : Pos} {kk : Nat} (he : JE C ls e (.tup [d1, d2, d3])) (hn : P.nx (((ls.set i1 (.val d1)).set i2 (.val d2)).set i3 (.val d3))) (hc : ∀ j, (C.X j).calm = true) (h1 : C.N[i1]? = some x1 := by rfl) (h2 : C.N[i2]? = some x2 := by rfl) (h3 : C.N[i3]? = some x3 := by rfl)
    (l1 : ∀ i, L2.Loc (C.X i).env.scope x1 := by intro _; first | exact .inl rfl | exact .inr rfl) (l2 : ∀ i, L2.Loc (C.X i).env.scope x2 := by intro _; first | exact .inl rfl | exact .inr rfl) (l3 : ∀ i, L2.Loc (C.X i).env.scope x3 := by intro _; first | exact .inl rfl | exact .inr rfl)
    (f1 : ∀ i, (C.X i).fn x1 = true ∨ (C.X i).env.scope.names.lookup x1 = some .local := by intro _; first | exact .inl rfl | exact .inr rfl) (f2 : ∀ i, (C.X i).fn x2 = true ∨ (C.X i).env.scope.names.lookup x2 = some .local := by intro _; first | exact .inl rfl | exact .inr rfl) (f3 : ∀ i, (C.X i).fn x3 = true ∨ (C.X i).env.scope.names.lookup x3 = some .local := by intro _; first | exact .inl rfl | exact .inr rfl)
    (hs : ∀ j, swapsWithSole [.Tuple [.Name x1 q1, .Name x2 q2, .Name x3 q3] kk tpos] e pos.line (C.X j).env = pure false := by intro _; rfl) (hw : ∀ j, swappedStores [.Tuple [.Name x1 q1, .Name x2 q2, .Name x3 q3] kk tpos] e (C.X j).env = pure none := by intro _; rfl)
    (hh : ∀ j, (assignEach [.Tuple [.Name x1 q1, .Name x2 q2, .Name x3 q3] kk tpos] (C.X j).env).map (·.2) = [assign (.Tuple [.Name x1 q1, .Name x2 q2, .Name x3 q3] kk tpos) (C.X j).env] := by intro _; rfl) :
    JS C ls (.Assign [.Tuple [.Name x1 q1, .Name x2 q2, .Name x3 q3] kk tpos] e pos) P :=
  js_of (t := tAsg (eAny C e) (gTup C.K 3 (gCons (gName i1) (gCons (gName i2) (gCons (gName i3) gNil)))))
    (fun j => ps_asg (pe_any C e j) (kx (p := fun K => PG (C.X j) _ (gTup K 3 (gCons (gName i1) (gCons (gName i2) (gCons (gName i3) gNil))))) j (pg_tup (hc j)
      (pgs_cons (pg_name (i := i1) (by rw [C.hN]; exact C.nd) (by rw [C.hN]; exact h1) (l1 j) (f1 j)) (pgs_cons (pg_name (i := i2) (by rw [C.hN]; exact C.nd) (by rw [C.hN]; exact h2) (l2 j) (f2 j)) (pgs_cons (pg_name (i := i3) (by rw [C.hN]; exact C.nd) (by rw [C.hN]; exact h3) (l3 j) (f3 j)) pgs_nil))))) (hs j) (hw j) (hh j))
    fun F G H σ D' S f => he F G H σ S (f.xok S) _ fun v G' H' eg eh S' hv => by
      obtain ⟨a, vs, rfl, ht, hd⟩ := dq_tup hv
      cases hd with
      | cons k1 r1 => cases r1 with
        | cons k2 r2 => cases r2 with
          | cons k3 r3 =>
            cases r3
            exact ⟨a, _, rfl, ex_t S'.ex ht, rfl, _, _, rfl, _, _, rfl, _, _, rfl, rfl, f.nx G' H' _ _ eg (S.kp eh) (((S'.setV k1).setV k2).setV k3) hn⟩
theorem jb_un3 [Cold C] (i1 i2 i3 : Nat) {x1 x2 x3 : Str} {q1 q2 q3 tpos : Pos} {kk : Nat} (he : JE C ls e (.tup [d1, d2, d3])) (k : JB C (((ls.set i1 (.val d1)).set i2 (.val d2)).set i3 (.val d3)) rest P) (h1 : C.N[i1]? = some x1 := by rfl) (h2 : C.N[i2]? = some x2 := by rfl) (h3 : C.N[i3]? = some x3 := by rfl)
    (l1 : ∀ i, L2.Loc (C.X i).env.scope x1 := by intro _; first | exact .inl rfl | exact .inr rfl) (l2 : ∀ i, L2.Loc (C.X i).env.scope x2 := by intro _; first | exact .inl rfl | exact .inr rfl) (l3 : ∀ i, L2.Loc (C.X i).env.scope x3 := by intro _; first | exact .inl rfl | exact .inr rfl)
    (f1 : ∀ i, (C.X i).fn x1 = true ∨ (C.X i).env.scope.names.lookup x1 = some .local := by intro _; first | exact .inl rfl | exact .inr rfl) (f2 : ∀ i, (C.X i).fn x2 = true ∨ (C.X i).env.scope.names.lookup x2 = some .local := by intro _; first | exact .inl rfl | exact .inr rfl) (f3 : ∀ i, (C.X i).fn x3 = true ∨ (C.X i).env.scope.names.lookup x3 = some .local := by intro _; first | exact .inl rfl | exact .inr rfl)
    (hs : ∀ j, swapsWithSole [.Tuple [.Name x1 q1, .Name x2 q2, .Name x3 q3] kk tpos] e pos.line (C.X j).env = pure false := by intro _; rfl) (hw : ∀ j, swappedStores [.Tuple [.Name x1 q1, .Name x2 q2, .Name x3 q3] kk tpos] e (C.X j).env = pure none := by intro _; rfl)
    (hh : ∀ j, (assignEach [.Tuple [.Name x1 q1, .Name x2 q2, .Name x3 q3] kk tpos] (C.X j).env).map (·.2) = [assign (.Tuple [.Name x1 q1, .Name x2 q2, .Name x3 q3] kk tpos) (C.X j).env] := by intro _; rfl) :
    JB C ls (.Assign [.Tuple [.Name x1 q1, .Name x2 q2, .Name x3 q3] kk tpos] e pos :: rest) P :=
  jb_cons (fun l => l = ((ls.set i1 (.val d1)).set i2 (.val d2)).set i3 (.val d3)) (js_un3 i1 i2 i3 he rfl (fun j => C.calm j Cold.h) h1 h2 h3 l1 l2 l3 f1 f2 f3 hs hw hh) fun _ h => h ▸ k
/-- [elt for x in script] -/
theorem jn_lcS [Cold C] {xs : List Int} (j : Nat) (f : Nat → D) (he : JE C ls e (.scr xs)) (hn : xs.length < 1000000) (hb : ∀ i, i < xs.length → JE (C.blk scope) (ls.set j (.val (.int (xs.getD i 0)))) elt (f i)) (B : BOk C scope x j p1)
    (hj : ∀ l, ls[j]? = some l → l.keeps = true := by intro _ h; cases h; rfl) (hfs : ∀ i x, foldedSetIterable e (C.X i).env x = pure x := by intro _ _; rfl) :
    JN C ls (.ListComp elt [⟨.Name x p1, e, [], 0⟩] scope pos) (outs xs.length (fun _ => true) f) :=
  jn_of (pe_lcA (tg := e) (wi := iList C.K (eAny C e)) B (fun i => kx (p := fun K => PI (C.X i) _ e (iList K (eAny C e))) i (pi_list (pe_any C e i))) hfs) (evN_lc j xs.length (fun i => .int (xs.getD i 0)) (fun _ => true) f (fun G Jt => ∃ a, Jt = Itl C.K a ∧ SqL C.K G a (xs.map V.int)) hn hj
    (fun F G H σ S xx R q => he F G H σ S xx _ fun v G' H' eg eh S' hv => by
      obtain ⟨a, rfl, ha⟩ := dq_scr hv
      exact ⟨a, rfl, ⟨_, ex_l S'.ex ha⟩, q _ G' H' eg eh S' ⟨a, rfl, ha⟩⟩)
    (fun G Jt H hJ e => by
      obtain ⟨a, rfl, ha⟩ := hJ
      exact ⟨_, ex_l e ha, by rw [List.length_map]; exact Nat.le_refl _⟩)
    (fun G Jt H i hJ e hi => by
      obtain ⟨a, rfl, ha⟩ := hJ
      exact ⟨_, (xs.map V.int)[i]'(by rw [List.length_map]; exact hi), ex_l e ha, List.getElem?_eq_getElem _⟩)
    (fun G Jt H i x H1 hJ e hi y => by
      obtain ⟨a, rfl, ha⟩ := hJ
      obtain ⟨rfl, y⟩ := y
      have hx := y _ (ex_l e ha)
      refine ⟨rfl, ?_⟩
      rw [List.getElem?_map, List.getElem?_eq_getElem hi] at hx
      obtain rfl := Option.some.inj hx
      rw [List.getD_eq_getElem?_getD, List.getElem?_eq_getElem hi]
      exact .int _) (fun i hi => (ji_nil : JI (C.blk scope) (ls.set j (.val (.int (xs.getD i 0)))) [] true)) fun i hi _ => hb i hi)
end
end Qp

/-! Q37: continue; comprehensions over the script and of values not all known, stored on their own line. -/
namespace Qp
open PySem PySem.Spec PyProof.Rows L2
section
variable {C : Cs} {ls : List Loc} {e a b elt : Expr} {d d1 d2 d3 : D} {ds : List D} {p1 p2 p3 pos py spos : Pos} {P : Post} {rest : List Stmt} {scope : Scope} {ifs : List Expr} {x : Str}
theorem js_cont (h : P.ct ls) : JS C ls (.Continue pos) P := js_of (fun j => ps_continue) fun F G H σ D' S f => f.ct G H σ ls (Ex.refl G) Kp.refl S h
theorem jb_cont (h : P.ct ls) : JB C ls (.Continue pos :: rest) P := jb_cons (fun _ => False) (js_cont h) fun _ h => h.elim
theorem jl_S [Cold C] {xs : List Int} (j : Nat) (f : Nat → D) (he : JE C ls e (.scr xs)) (hn : xs.length < 1000000) (hb : ∀ i, i < xs.length → JE (C.blk scope) (ls.set j (.val (.int (xs.getD i 0)))) elt (f i)) (B : BOk C scope x j p1)
    (hj : ∀ l, ls[j]? = some l → l.keeps = true := by intro _ h; cases h; rfl) (hfs : ∀ i x, foldedSetIterable e (C.X i).env x = pure x := by intro _ _; rfl) :
    JL C ls (.ListComp elt [⟨.Name x p1, e, [], 0⟩] scope pos) (outs xs.length (fun _ => true) f) :=
  ⟨_, j, _, _, _, _, _, _, _, rfl, B, fun i => kx (p := fun K => PI (C.X i) _ e (iList K (eAny C e))) i (pi_list (pe_any C e i)), hfs, evN_lc j xs.length (fun i => .int (xs.getD i 0)) (fun _ => true) f (fun G Jt => ∃ a, Jt = Itl C.K a ∧ SqL C.K G a (xs.map V.int)) hn hj
    (fun F G H σ S xx R q => he F G H σ S xx _ fun v G' H' eg eh S' hv => by
      obtain ⟨a, rfl, ha⟩ := dq_scr hv
      exact ⟨a, rfl, ⟨_, ex_l S'.ex ha⟩, q _ G' H' eg eh S' ⟨a, rfl, ha⟩⟩)
    (fun G Jt H hJ e => by
      obtain ⟨a, rfl, ha⟩ := hJ
      exact ⟨_, ex_l e ha, by rw [List.length_map]; exact Nat.le_refl _⟩)
    (fun G Jt H i hJ e hi => by
      obtain ⟨a, rfl, ha⟩ := hJ
      exact ⟨_, (xs.map V.int)[i]'(by rw [List.length_map]; exact hi), ex_l e ha, List.getElem?_eq_getElem _⟩)
    (fun G Jt H i x H1 hJ e hi y => by
      obtain ⟨a, rfl, ha⟩ := hJ
      obtain ⟨rfl, y⟩ := y
      have hx := y _ (ex_l e ha)
      refine ⟨rfl, ?_⟩
      rw [List.getElem?_map, List.getElem?_eq_getElem hi] at hx
      obtain rfl := Option.some.inj hx
      rw [List.getD_eq_getElem?_getD, List.getElem?_eq_getElem hi]
      exact .int _) (fun i hi => (ji_nil : JI (C.blk scope) (ls.set j (.val (.int (xs.getD i 0)))) [] true)) fun i hi _ => hb i hi⟩
/-- y = [elt for x in range(e)], elt not all known -/
theorem jb_setLX [Cold C] (i : Nat) {y : Str} {n : Int} (j : Nat) (q : Nat → D → Prop) (he : JE C ls e (.int n)) (hn : n < 1000000) (hb : ∀ i : Nat, i < n.toNat → JX (C.blk scope) (ls.set j (.val (.int i))) elt (q i)) (B : BOk C scope x j p1)
    (k : ∀ ds : List D, ds.length = n.toNat → (∀ i d, ds[i]? = some d → q i d) → JB C (ls.set i (.own ds)) rest P)
    (hj : ∀ l, ls[j]? = some l → l.keeps = true := by intro _ h; cases h; rfl) (hm : NoG C "range" := by assumption) (hg : ∀ j, Gl (C.X j) "range" := by intro _; rfl) (hs : NS e := by intro _ _; rfl) (hfs : ∀ i x, foldedSetIterable (.Call (.Name "range" p2) [e] [] p3) (C.X i).env x = pure x := by intro _ _; rfl) (h62 : -(2 ^ 62) ≤ n := by omega)
    (hy : C.N[i]? = some y := by rfl) (hyl : ∀ k, (C.X k).env.scope.names.lookup y = some .local := by intro _; rfl)
    (hsw : ∀ k, swapsWith (.ListComp elt [⟨.Name x p1, .Call (.Name "range" p2) [e] [] p3, [], 0⟩] scope pos) (some (.Name y py)) spos.line (C.X k).env = pure true := by intro _; rfl) : JB C ls (.Assign [.Name y py] (.ListComp elt [⟨.Name x p1, .Call (.Name "range" p2) [e] [] p3, [], 0⟩] scope pos) spos :: rest) P :=
  jb_cons (fun l => ∃ ds : List D, (ds.length = n.toNat ∧ ∀ i d, ds[i]? = some d → q i d) ∧ l = ls.set i (.own ds)) (js_of (fun k => ps_lcA (tg := e) (ifs := []) B (fun i => range' i (hg i) hm hs) hfs hy hyl hsw k) fun F G H σ D' S f => evN_lcX (te := eAny (C.blk scope) elt) (tt := ifAny (C.blk scope) []) j n.toNat (fun i => D.int (i : Int)) q (fun _ Jt => Jt = Itr 0 n.toNat) (by omega) hj
    (fun F G H σ S xx R q => he F G H σ S xx _ fun v G' H' eg eh S' hv => ⟨n, by rw [dq_int hv], h62, by omega, q _ G' H' eg eh S' rfl⟩)
    (fun G Jt H hJ e => by subst hJ; exact Nat.le_refl _) (fun G Jt H i hJ e hi => by subst hJ; exact hi)
    (fun G Jt H i x H1 hJ e hi y => by
      subst hJ
      obtain ⟨rfl, rfl⟩ := y
      have e0 : (0 : Int) + (i : Int) = (i : Int) := Int.zero_add _
      exact ⟨rfl, by rw [e0]; exact Dq.int _⟩) (fun (i : Nat) hi => (ji_nil : JI (C.blk scope) (ls.set j (.val (D.int (i : Int)))) [] true)) (fun i hi => hb i hi) F G H σ S (f.xok S) _ fun ds l vs G' H' hp eg eh nf S' hl hv => f.nx G' H' _ _ eg (S.kp eh) (S'.setN nf hl hv) ⟨ds, hp, rfl⟩) fun _ ⟨ds, hd, h⟩ => h ▸ k ds hd.1 hd.2
end
/-- a list of ints -/
theorem ints_of {p : Int → Prop} : ∀ {ds : List D}, (∀ (i : Nat) (d : D), ds[i]? = some d → ∃ z : Int, d = D.int z ∧ p z) → ∃ vs : List Int, ds = iL vs ∧ ∀ v ∈ vs, p v
  | [], _ => ⟨[], rfl, fun _ h => (List.not_mem_nil h).elim⟩
  | d :: ds, h => by
    obtain ⟨z, rfl, hz⟩ := h 0 d rfl
    obtain ⟨vs, rfl, hv⟩ := ints_of (p := p) (ds := ds) fun i d hd => h (i + 1) d hd
    exact ⟨z :: vs, rfl, fun v hv' => (List.mem_cons.mp hv').elim (fun e => e ▸ hz) (hv v)⟩
theorem iL_range (n : Nat) (f : Nat → Int) : (List.range n).map (fun i => D.int (f i)) = iL ((List.range n).map f) := by
  unfold iL
  rw [List.map_map]
  rfl
end Qp

/-! Q38: sum of a tuple of ints. -/
namespace Qp
open PySem PySem.Spec PyProof.Rows L2
section
variable {prog : Program} {w : World} {A : Around} {E : Value → Shared → Prop} {s : Shared} {t : Addr} {its : List Value} {ns : List Int} {Q : Value → Shared → Prop}
theorem sum_tup (hh : A.handled = none) (hl : s.heap.IsTuple t its.toArray) (hi : IntsAre its ns) (h : ∀ h' tk t', (∀ b o, s.heap.get? b = some o → h'.get? b = some o) → Q (.int ns.sum t') { s with heap := h', toks := tk }) : wpAny (model prog w) A (call (.builtin "sum") [.ref t]) Q E s := by
  obtain ⟨xs, e⟩ := hi.allInts.items
  have hn : numsOf (intItems xs).toList = ns := by rw [← e]; exact hi.numsOf
  rw [nums_intItems] at hn
  rw [e] at hl
  have lt : t < s.heap.objs.size := by
    obtain ⟨o, z, _⟩ := hl
    exact Heap.lt_size z
  refine call_sum_walkG (wpAny_pyIter_tuple hl ⟨_, _, _, _, _, _, numAt xs, rfl, Walks.tuple (A := A.in1) hh _ t (Nat.ne_of_lt lt) (intItems xs), ⟨⟨_, Heap.get?_push_size _ rfl, rfl, rfl⟩, hl.push _⟩, fun b hb => ?_, fun _ _ => intItems_at, fun h' tk t' hk => ?_⟩)
  · show b < (s.heap.push _).objs.size
    rw [Heap.size_push]
    rcases List.mem_cons.mp hb with rfl | hb
    · exact Nat.lt_succ_self _
    · rw [List.mem_singleton.mp hb]
      exact Nat.lt_succ_of_lt lt
  · have z := h h' tk t' fun b o q => hk b o (fun m => Nat.ne_of_lt (Heap.lt_size q) (List.mem_singleton.mp m)) (Heap.get?_push_of_some _ q)
    have e2 : preSum (numAt xs) (intItems xs).size = ns.sum := by
      rw [show (intItems xs).size = xs.size by simp [intItems], preSum_eq, List.take_of_length_le (by simp), hn]
    rw [e2]
    exact z
end
def rSumT (K : Fg) : List V → Hp → VK → Prop := fun vs H Q => ∃ (a : Addr) (ns : List Int), vs = [V.ref a] ∧ SqT K H a (ns.map V.int) ∧ Q (.int ns.sum) H
theorem cr_sumT {X : Cx} (hc : X.calm = true) : CallR X (.builtin "sum") (rSumT X.K) := by
  intro pins s σ H vs us Q I r h
  obtain ⟨a, ns, rfl, hs, q⟩ := h
  obtain ⟨its, rv, hl, _⟩ := I.tuple hs
  rw [Vals.ref1 r]
  exact sum_tup (I.ok.hd hc) hl rv.ints fun h' tk t' hk => ⟨.int _, H, I.kept hk, ⟨_, rfl⟩, q⟩
section
variable {C : Cs} {ls : List Loc} {a : Expr} {p1 pos : Pos}
theorem sumT' (C : Cs) [Cold C] (j : C.ι) : CallR (C.X j) (.builtin "sum") (rSumT C.K) := kx (p := fun K => CallR (C.X j) (.builtin "sum") (rSumT K)) j (cr_sumT (C.calm j Cold.h))
theorem je_sumT [Cold C] {ns : List Int} (ha : JE C ls a (.tup (iL ns))) (hm : NoG C "sum" := by assumption) (hg : ∀ j, Gl (C.X j) "sum" := by intro _; rfl) (hs : NS a := by intro _ _; rfl) : JE C ls (.Call (.Name "sum" p1) [a] [] pos) (.int ns.sum) :=
  je_of (fun j => pe_cb1 j (sumT' C j) (hg j) hm (by decide +kernel) hs) fun F G H σ S xx Q q => ha F G H σ S xx _ fun v G1 H1 eg1 eh1 S1 hv => by
    obtain ⟨p, vs, rfl, ht, hd⟩ := dq_tup hv
    obtain rfl := dqAll_ints' hd
    exact ⟨p, ns, rfl, ex_t S1.ex ht, q _ G1 H1 eg1 eh1 S1 (.int _)⟩
end
end Qp

/-! Q39: own lists of what is not all known; the law's def where no repr is under way. -/
namespace Qp
open PySem PySem.Spec PyProof.Rows L2
section
variable {C : Cs} {ls : List Loc} {pos : Pos}
theorem JXA.imp {xs : List Expr} {Pa Pb : List D → Prop} (h : JXA C ls xs Pa) (hp : ∀ ds, Pa ds → Pb ds) : JXA C ls xs Pb := ⟨h.ns, fun F G H σ S xx Q q => h.ev F G H σ S xx Q fun ds vs G' H' hp' => q ds vs G' H' (hp ds hp')⟩
theorem jnx_lst {xs : List Expr} {Pa : List D → Prop} (h : JXA C ls xs Pa) (hl : ∀ ds, Pa ds → ds.length ≤ 1000000) : JNX C ls (.List xs pos) Pa := fun F G H σ S xx Q q =>
  ⟨_, fun j => pe_lst (pa_any C xs j), h.ev F G H σ S xx _ fun ds vs G' H' hp eg eh S' hv => ⟨by rw [hv.length]; exact Nat.le_trans (hl ds hp) (by decide), evN_lay S' hv fun p vs2 G2 H2 eg2 eh2 nf S2 hp2 hv2 => q ds p vs2 G2 H2 hp (eg.trans eg2) (eh.trans eh2) nf S2 hp2 hv2⟩⟩
end
theorem FT.lawG {w : World} {K : Fg} {mg : Str → Option Value} {k : Nat} {st : Stmt} {R : Rel} {lp : Program} {h0 : Heap} {cs : List (Addr × Addr)} (Y : FT K mg "law" st) {fa : Addr} (hfa : mg "law" = some (.ref fa)) (hC : ∀ p ∈ cs, Tab0 K h0 p)
    (G : ∀ (base : Heap), (∀ p ∈ cs, GxR.TabB base mg p.1 p.2) → ∀ {f fd}, Fun K "law" "law" st f fd → FnG lp w K mg base k f fd ["script"] (spD K R (tabT cs)))
    (h : ∀ (kV doc pm : Value) (an : Option Addr) (cdv ct : Value) (v : Value), bindArgs (PySem.W.fnOf "law" "law" (defArgs st) (defBody st) (defScope st) .none kV doc pm an cdv ct) ⟨[v], []⟩ = pure [(("script" : Str), v)]) :
    ∃ (fd : FuncData) (cs : List (Addr × Addr)), (∀ p ∈ cs, Tab0 K h0 p) ∧ (∀ (s : Shared) (u : Value), BindsTo s fd ⟨[u], []⟩ [("script", u)]) ∧ ∀ base : Heap, K.In base → base.Ns mainGlobals mg → (∀ p ∈ cs, GxR.TabB base mg p.1 p.2) → FnG lp w K mg base k fa fd ["script"] (spD K R (tabT cs)) := by
  obtain ⟨f, fd, F, hm⟩ := Y.ex
  have e := hfa.symm.trans hm
  cases e
  refine ⟨fd, cs, hC, fun s u => ?_, fun base _ _ tb => G base tb F⟩
  obtain ⟨oc, od, kV, doc, pm, an, cdv, ct, osl, rfl, lk, hcd⟩ := F.ex
  exact .of_eq (h kV doc pm an cdv ct u)
end Qp

/-! Q40: comprehensions of two clauses. -/
namespace Qp
open PySem PySem.Spec PyProof.Rows L2
def flat2 (n1 : Nat) (f : Nat → Nat → D) (i : Nat) : List D := (List.range i).flatMap fun i => (List.range n1).map (f i)
theorem flat2_len (n1 : Nat) (f : Nat → Nat → D) : ∀ i, (flat2 n1 f i).length = i * n1
  | 0 => by simp [flat2]
  | i + 1 => by
    have := flat2_len n1 f i
    unfold flat2 at this ⊢
    rw [List.range_succ, List.flatMap_append, List.length_append, this]
    simp [Nat.succ_mul]
theorem flat2_succ (n1 : Nat) (f : Nat → Nat → D) (i : Nat) : flat2 n1 f i ++ (List.range n1).map (f i) = flat2 n1 f (i + 1) := by
  unfold flat2
  rw [List.range_succ, List.flatMap_append]
  simp
section
variable {K : Fg} {E : Xw} {ls : List Loc}
theorem tYes_if {σ : L2.St} {H : Hp} {A B : Hp → Prop} (h : A H) : tYes σ H fun b H3 => if b = true then A H3 else B H3 := by
  show (if true = true then A H else B H)
  rw [if_pos rfl]
  exact h
theorem sat_dl {F : Addr → Prop} {G H : Hp} {σ : L2.St} {Dl : Addr} {vs' : List V} (S : Sat K (fun a => F a ∨ a = Dl) G H σ ls) : Sat K (fun a => F a ∨ a = Dl) G (upd H Dl (.lst vs')) σ ls := by
  obtain ⟨ow, h1, h2, h3, h4⟩ := S.ow
  refine ⟨S.ex.mut (S.fo Dl (Or.inr rfl)).1, fun a fa => ⟨(S.fo a fa).1, ?_⟩, S.len, ow, fun i l hl => locOk_mono (Ex.refl _) (fun p hp => upd_ne fun z => (h2 i p hp).2.2 (Or.inr z)) (h1 i l hl), fun i p hp => ⟨(h2 i p hp).1, ?_, (h2 i p hp).2.2⟩, h3, h4⟩
  · by_cases hz : a = Dl
    · rw [hz]; exact nt_lst upd_same
    · exact nt_eq (S.fo a fa).2 (upd_ne hz)
  · exact nt_eq (h2 i p hp).2.1 (upd_ne fun z => (h2 i p hp).2.2 (Or.inr z))
theorem evN_lc2 {wi wi1 : TI} {te : TE} (j1 j2 : Nat) (hne : j1 ≠ j2) (n n1 : Nat) (xs ys : Nat → D) (f : Nat → Nat → D) (J J1 : Hp → It → Prop) (hn : n * n1 < 1000000) (hj1 : ∀ l, ls[j1]? = some l → l.keeps = true) (hj2 : ∀ l, ls[j2]? = some l → l.keeps = true)
    (hw : ∀ F G H σ, Sat K F G H σ ls → Xok K E F G H σ ls → ∀ R : It → Hp → Prop, (∀ Jt G' H', Ex G G' → Ex H H' → Sat K F G' H' σ ls → J G' Jt → R Jt H') → wi σ H R)
    (hw1 : ∀ i, i < n → ∀ F G H σ, Sat K F G H σ ((ls.set j2 .any).set j1 (.val (xs i))) → Xok K (noX E.T) F G H σ ((ls.set j2 .any).set j1 (.val (xs i))) → ∀ R : It → Hp → Prop, (∀ Jt G' H', Ex G G' → Ex H H' → Sat K F G' H' σ ((ls.set j2 .any).set j1 (.val (xs i))) → J1 G' Jt → R Jt H') → wi1 σ H R)
    (hstop : ∀ G Jt H, J G Jt → Ex G H → Jt.stop n H) (hgo : ∀ G Jt H i, J G Jt → Ex G H → i < n → Jt.go i H) (hy : ∀ G Jt H i x H1, J G Jt → Ex G H → i < n → Jt.yld i H x H1 → H1 = H ∧ Dq K G x (xs i))
    (hstop1 : ∀ G Jt H, J1 G Jt → Ex G H → Jt.stop n1 H) (hgo1 : ∀ G Jt H i, J1 G Jt → Ex G H → i < n1 → Jt.go i H) (hy1 : ∀ G Jt H i x H1, J1 G Jt → Ex G H → i < n1 → Jt.yld i H x H1 → H1 = H ∧ Dq K G x (ys i))
    (he : ∀ i k, i < n → k < n1 → Ev K (noX E.T) te (((ls.set j2 .any).set j1 (.val (xs i))).set j2 (.val (ys k))) (f i k)) : EvN K E (tLc2 wi (gName j1) tYes wi1 (gName j2) tYes te [j1, j2] [j2]) ls (flat2 n1 f n) := fun F G H σ S xx Q q => hw F G H σ S xx _ fun Jt G1 H1 eg1 eh1 S1 hJ Dl hD => by
  refine ⟨fun i m H' => m = n - i ∧ i ≤ n ∧ ∃ G' vs, Ex G1 G' ∧ Ex H1 H' ∧ Sat K (fun a => F a ∨ a = Dl) G' H' σ ls ∧ H' Dl = some (.lst vs) ∧ DqAll K G' vs (flat2 n1 f i), ⟨n, by simp, Nat.zero_le _, G1, [], Ex.refl _, Ex.new hD, S1.madeF hD, upd_same, .nil⟩, ?_⟩
  have nf : ¬ F Dl := fun z => (S1.fo Dl z).2.ne hD
  rintro i m H' ⟨rfl, hi, G', vs, eg', eh', S', hp, hv⟩
  by_cases hlt : i < n
  · refine .inr ⟨hgo G1 Jt H' i hJ (eg'.trans S'.ex) hlt, fun H2 => ∃ G2 vs2, Ex G1 G2 ∧ Ex H1 H2 ∧ Sat K (fun a => F a ∨ a = Dl) G2 H2 σ ls ∧ H2 Dl = some (.lst vs2) ∧ DqAll K G2 vs2 (flat2 n1 f (i + 1)), fun H2 h => ⟨n - (i + 1), by omega, rfl, hlt, h⟩, fun x H2 y => ?_⟩
    obtain ⟨rfl, hx⟩ := hy G1 Jt H' i x H2 hJ (eg'.trans S'.ex) hlt y
    generalize hs2 : (σ.set j2 none).set j1 (some x) = σ2
    generalize hl2 : (ls.set j2 .any).set j1 (.val (xs i)) = ls2
    have e0 : (wipe σ [j1, j2]).set j1 (some x) = σ2 := by
      show ((σ.set j2 none).set j1 none).set j1 (some x) = _
      rw [List.set_set, hs2]
    have e1 : wipe σ2 [j1, j2] = wipe σ [j1, j2] := by
      show (σ2.set j2 none).set j1 none = (σ.set j2 none).set j1 none
      rw [← hs2, List.set_comm _ _ hne, List.set_set, List.set_set]
    show wipe ((wipe σ [j1, j2]).set j1 (some x)) [j1, j2] = wipe σ [j1, j2] ∧ _
    rw [e0]
    refine ⟨e1, ?_⟩
    have Sf : Sat K (fun a => F a ∨ a = Dl) G' H2 (σ.set j2 none) (ls.set j2 .any) := S'.forget none
    have Sx : Sat K (fun a => F a ∨ a = Dl) G' H2 σ2 ls2 := by
      rw [← hs2, ← hl2]
      exact Sf.setV (dq_mono eg' hx)
    have hjk : ∀ l, (ls.set j2 .any)[j1]? = some l → l.keeps = true := fun l hl => by
      rw [List.getElem?_set_ne (fun z => hne z.symm)] at hl
      exact hj1 l hl
    have back : ∀ {G3 H3}, Ex G' G3 → Ex H2 H3 → Sat K (fun a => F a ∨ a = Dl) G3 H3 σ2 ls2 → Sat K (fun a => F a ∨ a = Dl) G3 H3 σ ls := fun {G3 H3} eg eh T => by
      rw [← hs2, ← hl2] at T
      exact S'.restore (Sf.restore T eg eh hjk) eg eh hj2
    refine tYes_if ?_
    refine hw1 i hlt _ G' H2 σ2 (hl2 ▸ Sx) (hl2 ▸ xok_no fun P h => ((xx.tb P h).mono eg1).mono eg') _ fun Jt1 G3 H3 eg3 eh3 S3 hJ1 => ?_
    rw [hl2] at S3
    refine ⟨fun k m H' => m = n1 - k ∧ k ≤ n1 ∧ ∃ G'' vs2, Ex G3 G'' ∧ Ex H1 H' ∧ (Sat K (fun a => F a ∨ a = Dl) G'' H' σ2 ls2 ∧ Sat K (fun a => F a ∨ a = Dl) G'' H' σ ls) ∧ H' Dl = some (.lst vs2) ∧ DqAll K G'' vs2 (flat2 n1 f i ++ (List.range k).map (f i)), ⟨n1, by simp, Nat.zero_le _, G3, vs, Ex.refl _, eh'.trans eh3, ⟨S3, back eg3 eh3 S3⟩, eh3 _ _ hp, by
      show DqAll K G3 vs (flat2 n1 f i ++ [])
      rw [List.append_nil]
      exact dqAll_mono eg3 hv⟩, ?_⟩
    rintro k m H4 ⟨rfl, hk, G4, vs2, eg4, eh4, ⟨S4, T4⟩, hp4, hv4⟩
    by_cases hkl : k < n1
    · refine .inr ⟨hgo1 G3 Jt1 H4 k hJ1 (eg4.trans S4.ex) hkl, fun H2 => ∃ G'' vs2, Ex G3 G'' ∧ Ex H1 H2 ∧ (Sat K (fun a => F a ∨ a = Dl) G'' H2 σ2 ls2 ∧ Sat K (fun a => F a ∨ a = Dl) G'' H2 σ ls) ∧ H2 Dl = some (.lst vs2) ∧ DqAll K G'' vs2 (flat2 n1 f i ++ (List.range (k + 1)).map (f i)), fun H2 h => ⟨n1 - (k + 1), by omega, rfl, hkl, h⟩, fun x2 H5 y2 => ?_⟩
      obtain ⟨rfl, hx2⟩ := hy1 G3 Jt1 H4 k x2 H5 hJ1 (eg4.trans S4.ex) hkl y2
      have f0 : (wipe σ2 [j2]).set j2 (some x2) = σ2.set j2 (some x2) := by
        show (σ2.set j2 none).set j2 (some x2) = _
        rw [List.set_set]
      have f1 : wipe (σ2.set j2 (some x2)) [j2] = wipe σ2 [j2] := by
        show (σ2.set j2 (some x2)).set j2 none = σ2.set j2 none
        rw [List.set_set]
      show wipe ((wipe σ2 [j2]).set j2 (some x2)) [j2] = wipe σ2 [j2] ∧ _
      rw [f0]
      refine ⟨f1, ?_⟩
      refine tYes_if ?_
      have Sy : Sat K (fun a => F a ∨ a = Dl) G4 H5 (σ2.set j2 (some x2)) (ls2.set j2 (.val (ys k))) := S4.setV (dq_mono eg4 hx2)
      refine he i k hlt hkl _ G4 H5 _ (hl2 ▸ Sy) (xok_no fun P h => ((((xx.tb P h).mono eg1).mono eg').mono eg3).mono eg4) _ fun y G6 H6 eg6 eh6 S6 hy6 => ?_
      rw [hl2] at S6
      have hk2 : ∀ l, ls2[j2]? = some l → l.keeps = true := fun l hl => by
        rw [← hl2, List.getElem?_set_ne hne] at hl
        by_cases hb : j2 < ls.length
        · rw [List.getElem?_set_self hb] at hl
          cases hl
          rfl
        · rw [List.getElem?_eq_none (by rw [List.length_set]; omega)] at hl
          cases hl
      have S7 := S4.restore S6 eg6 eh6 hk2
      have T7 : Sat K (fun a => F a ∨ a = Dl) G6 H6 σ ls := by
        rw [← hs2, ← hl2] at S7
        exact T4.restore ((T4.forget none).restore S7 eg6 eh6 hjk) eg6 eh6 hj2
      refine ⟨vs2, eh6 _ _ hp4, ?_, G6, vs2 ++ [y], eg4.trans eg6, (eh4.trans eh6).mut hD, ⟨sat_dl S7, sat_dl T7⟩, upd_same, ?_⟩
      · rw [hv4.length, List.length_append, flat2_len, List.length_map, List.length_range]
        have : i * n1 + n1 ≤ n * n1 := by rw [← Nat.succ_mul]; exact Nat.mul_le_mul_right _ hlt
        have hs : sizeLine = 16777216 := sizeLine_eq
        omega
      · rw [List.range_succ, List.map_append, ← List.append_assoc]
        exact (dqAll_mono eg6 hv4).append (.cons hy6 .nil)
    · have e : k = n1 := by omega
      subst e
      refine .inl ⟨hstop1 G3 Jt1 H4 hJ1 (eg4.trans S4.ex), G4, vs2, eg'.trans (eg3.trans eg4), eh4, T4, hp4, ?_⟩
      rw [← flat2_succ]
      exact hv4
  · have e : i = n := by omega
    subst e
    exact .inl ⟨hstop G1 Jt H' hJ (eg'.trans S'.ex), q Dl vs G' H' (eg1.trans eg') (eh1.trans eh') nf S' hp hv⟩
end
end Qp
namespace Qp
open PySem PySem.Spec PyProof.Rows L2
section
variable {C : Cs} {ls : List Loc} {e e1 elt : Expr} {pos p1 p2 : Pos} {x1 x2 : Str} {scope : Scope}
structure BOk2 (C : Cs) [Cold C] (scope : Scope) (x1 x2 : Str) (j1 j2 : Nat) (p1 p2 : Pos) : Prop where
  b : ∀ i, BlkOk C.N (C.X i).env.scope scope [(x1, j1), (x2, j2)]
  g1 : ∀ i, PG ((C.blk scope).X i) (.Name x1 p1) (gName j1)
  g2 : ∀ i, PG ((C.blk scope).X i) (.Name x2 p2) (gName j2)
theorem bok2 [Cold C] {j1 j2 : Nat} (h : ∀ i, blkC C.N (C.X i).env.scope scope [(x1, j1), (x2, j2)] = true := by intro _; kernel_rfl) (hi1 : C.N[j1]? = some x1 := by rfl) (hi2 : C.N[j2]? = some x2 := by rfl)
    (hl1 : ∀ i, L2.Loc ((C.blk scope).X i).env.scope x1 := by intro _; first | exact .inl rfl | exact .inr rfl) (hf1 : ∀ i, ((C.blk scope).X i).fn x1 = true ∨ ((C.blk scope).X i).env.scope.names.lookup x1 = some .local := by intro _; first | exact .inr rfl | exact .inl rfl)
    (hl2 : ∀ i, L2.Loc ((C.blk scope).X i).env.scope x2 := by intro _; first | exact .inl rfl | exact .inr rfl) (hf2 : ∀ i, ((C.blk scope).X i).fn x2 = true ∨ ((C.blk scope).X i).env.scope.names.lookup x2 = some .local := by intro _; first | exact .inr rfl | exact .inl rfl) : BOk2 C scope x1 x2 j1 j2 p1 p2 :=
  ⟨fun i => blkOk_by (h i), fun i => pg_name (by rw [(C.blk scope).hN]; exact C.nd) (by rw [(C.blk scope).hN]; exact hi1) (hl1 i) (hf1 i), fun i => pg_name (by rw [(C.blk scope).hN]; exact C.nd) (by rw [(C.blk scope).hN]; exact hi2) (hl2 i) (hf2 i)⟩
/-- [elt for x1 in e for x2 in e1], tuples of ints -/
theorem jn_lc2T [Cold C] {xs ys : List Int} (j1 j2 : Nat) (hne : j1 ≠ j2) (f : Nat → Nat → D) (he : JE C ls e (.tup (iL xs))) (h1 : ∀ i, i < xs.length → JE (C.blk scope) ((ls.set j2 .any).set j1 (.val (.int (xs.getD i 0)))) e1 (.tup (iL ys))) (hn : xs.length * ys.length < 1000000)
    (hb : ∀ i k, i < xs.length → k < ys.length → JE (C.blk scope) (((ls.set j2 .any).set j1 (.val (.int (xs.getD i 0)))).set j2 (.val (.int (ys.getD k 0)))) elt (f i k)) (B : BOk2 C scope x1 x2 j1 j2 p1 p2)
    (hj1 : ∀ l, ls[j1]? = some l → l.keeps = true := by intro _ h; cases h; rfl) (hj2 : ∀ l, ls[j2]? = some l → l.keeps = true := by intro _ h; cases h; rfl) (hfs : ∀ i x, foldedSetIterable e (C.X i).env x = pure x := by intro _ _; rfl) (hfs1 : ∀ env x, foldedSetIterable e1 env x = pure x := by intro _ _; rfl) :
    JN C ls (.ListComp elt [⟨.Name x1 p1, e, [], 0⟩, ⟨.Name x2 p2, e1, [], 0⟩] scope pos) (flat2 ys.length f xs.length) :=
  jn_of (t := tLc2 (iTup C.K (eAny C e)) (gName j1) tYes (iTup C.K (eAny (C.blk scope) e1)) (gName j2) tYes (eAny (C.blk scope) elt) [j1, j2] [j2])
    (fun i => pe_lc2 (own := [(x1, j1), (x2, j2)]) (vs1 := [j2]) (C.calm i Cold.h) (by rw [C.hN]; exact C.nd) (kx (p := fun K => PI (C.X i) _ e (iTup K (eAny C e))) i (pi_tup (pe_any C e i))) (by rw [C.hN]; exact B.b i) (fun z hz => by rw [List.mem_singleton.mp hz]; exact List.mem_cons_of_mem _ List.mem_cons_self)
      (fun s H Cc cl fp => B.g1 (i, s, H, Cc, cl, fp)) (fun s H Cc cl fp => pts_nil) (fun s H Cc cl fp => kx (C := C.blk scope) (p := fun K => PI ((C.blk scope).X (i, s, H, Cc, cl, fp)) _ e1 (iTup K (eAny (C.blk scope) e1))) (i, s, H, Cc, cl, fp) (pi_tup (pe_any (C.blk scope) e1 (i, s, H, Cc, cl, fp)))) (fun s H Cc cl fp => B.g2 (i, s, H, Cc, cl, fp)) (fun s H Cc cl fp => pts_nil) (fun s H Cc cl fp => pe_any (C.blk scope) elt (i, s, H, Cc, cl, fp)) (hfs i) hfs1)
    (evN_lc2 j1 j2 hne xs.length ys.length (fun i => .int (xs.getD i 0)) (fun i => .int (ys.getD i 0)) f (fun G Jt => ∃ a vs, Jt = Itt C.K a ∧ SqT C.K G a vs ∧ vs = xs.map V.int) (fun G Jt => ∃ a vs, Jt = Itt C.K a ∧ SqT C.K G a vs ∧ vs = ys.map V.int) hn hj1 hj2
      (fun F G H σ S xx R q => he F G H σ S xx _ fun v G' H' eg eh S' hv => by
        obtain ⟨a, vs, rfl, ht, hd⟩ := dq_tup hv
        exact ⟨a, rfl, ⟨vs, ex_t S'.ex ht⟩, q _ G' H' eg eh S' ⟨a, vs, rfl, ht, dqAll_ints' hd⟩⟩)
      (fun i hi F G H σ S xx R q => h1 i hi F G H σ S xx _ fun v G' H' eg eh S' hv => by
        obtain ⟨a, vs, rfl, ht, hd⟩ := dq_tup hv
        exact ⟨a, rfl, ⟨vs, ex_t S'.ex ht⟩, q _ G' H' eg eh S' ⟨a, vs, rfl, ht, dqAll_ints' hd⟩⟩)
      (fun G Jt H hJ eg => by
        obtain ⟨a, vs, rfl, ht, rfl⟩ := hJ
        exact ⟨_, ex_t eg ht, by rw [List.length_map]; exact Nat.le_refl _⟩)
      (fun G Jt H i hJ eg hi => by
        obtain ⟨a, vs, rfl, ht, rfl⟩ := hJ
        exact ⟨_, _, ex_t eg ht, List.getElem?_eq_getElem (by rw [List.length_map]; exact hi)⟩)
      (fun G Jt H i x H1 hJ eg hi y => by
        obtain ⟨a, vs, rfl, ht, rfl⟩ := hJ
        obtain ⟨rfl, y⟩ := y
        have hx := y _ (ex_t eg ht)
        rw [List.getElem?_map, List.getElem?_eq_getElem hi] at hx
        obtain rfl := Option.some.inj hx
        rw [List.getD_eq_getElem?_getD, List.getElem?_eq_getElem hi]
        exact ⟨rfl, Dq.int _⟩)
      (fun G Jt H hJ eg => by
        obtain ⟨a, vs, rfl, ht, rfl⟩ := hJ
        exact ⟨_, ex_t eg ht, by rw [List.length_map]; exact Nat.le_refl _⟩)
      (fun G Jt H i hJ eg hi => by
        obtain ⟨a, vs, rfl, ht, rfl⟩ := hJ
        exact ⟨_, _, ex_t eg ht, List.getElem?_eq_getElem (by rw [List.length_map]; exact hi)⟩)
      (fun G Jt H i x H1 hJ eg hi y => by
        obtain ⟨a, vs, rfl, ht, rfl⟩ := hJ
        obtain ⟨rfl, y⟩ := y
        have hx := y _ (ex_t eg ht)
        rw [List.getElem?_map, List.getElem?_eq_getElem hi] at hx
        obtain rfl := Option.some.inj hx
        rw [List.getD_eq_getElem?_getD, List.getElem?_eq_getElem hi]
        exact ⟨rfl, Dq.int _⟩)
      (fun i k hi hk => hb i k hi hk))
end
end Qp

/-! Q41: lists of integers that are changed by other names too (D.loose): made, read, put, turned into tuples. -/
namespace Qp
open PySem PySem.Spec PyProof.Rows L2
section
variable {X : Cx} {pins : List (Addr × Obj)} {σ : L2.St} {H : Hp} {s : Shared} {p : Addr} {n B : Nat}
theorem loose_open (I : Inv X pins σ H s) (h : H p = some (LooseO p n B)) : ∃ js : List Int, js.length = n ∧ (∀ j ∈ js, j.natAbs ≤ B) ∧ Inv X pins σ (upd H p (.lst (js.map V.int))) s := by
  have x : ObjOk X.prog X.w H s.heap p (LooseO p n B) := I.hok p _ h
  obtain ⟨⟨js, its, m, hl, hb, hz, r, e⟩, _⟩ := x
  refine ⟨js, hl, hb, ?_⟩
  exact I.write (x := p) (e := p) (t' := s.toks) (by rw [h]; trivial) (.inl rfl) (fun b u _ q => q) ⟨_, e⟩ ⟨by rw [List.length_map]; exact hz, its, m, r, e⟩
theorem loose_ok {h : Heap} {P : Program} {w : World} {js : List Int} {its : List Value} {m : Nat} (hl : js.length = n) (hb : ∀ j ∈ js, j.natAbs ≤ B) (hz : js.length ≤ sizeLine) (r : Vals (js.map V.int) its) (e : h.get? p = some { cls := .type "list", data := .seq its.toArray m }) (H : Hp) : ObjOk P w H h p (LooseO p n B) :=
  ⟨⟨js, its, m, hl, hb, hz, r, e⟩, ⟨_, e⟩, fun h1 h2 ⟨js, its, m, hl, hb, hz, r, e⟩ k => ⟨js, its, m, hl, hb, hz, r, k _ e⟩⟩
theorem loose_close {js : List Int} (I : Inv X pins σ H s) (h : H p = some (.lst (js.map V.int))) (hl : js.length = n) (hb : ∀ j ∈ js, j.natAbs ≤ B) : Inv X pins σ (upd H p (LooseO p n B)) s := by
  obtain ⟨its, m, r, e, z⟩ := I.lst h
  rw [List.length_map] at z
  exact I.write (x := p) (e := p) (t' := s.toks) (by rw [h]; trivial) (.inl rfl) (fun b u _ q => q) ⟨_, e⟩ (loose_ok hl hb z r e _)
theorem loose_shut {js : List Int} (I : Inv X pins σ (upd H p (.lst (js.map V.int))) s) (h : H p = some (LooseO p n B)) (hl : js.length = n) (hb : ∀ j ∈ js, j.natAbs ≤ B) : Inv X pins σ H s := by
  have := loose_close (n := n) (B := B) I upd_same hl hb
  rw [upd_upd, upd_id h] at this
  exact this
end
/-! ### read -/
def rIxLo : R2 := fun x y H Q => ∃ (p : Addr) (n B k : Nat), x = .ref p ∧ y = .int (k : Int) ∧ H p = some (LooseO p n B) ∧ k < n ∧ ∀ i : Int, i.natAbs ≤ B → Q (.int i) H
theorem ix_loose {X : Cx} : IxR X rIxLo := by
  intro value slice pins s σ H x y v u Q I rx ry h hs
  obtain ⟨p, n, B, k, rfl, rfl, hp, hk, q⟩ := h
  obtain ⟨js, hl, hb, I1⟩ := loose_open I hp
  obtain ⟨j, hj⟩ : ∃ j, js[k]? = some j := ⟨_, List.getElem?_eq_getElem (by rw [hl]; exact hk)⟩
  refine wpAny_mono (ix_list value slice pins s σ _ (.ref p) (.int (k : Int)) v u (fun z' H' => z' = .int j ∧ H' = upd H p (.lst (js.map V.int))) I1 rx ry ⟨p, js.map V.int, k, .int j, rfl, rfl, SqL.of upd_same, atI_nat (by rw [List.getElem?_map, hj]; rfl), rfl, rfl⟩ hs) (fun r s' hr => ?_) fun _ _ z => z
  obtain ⟨z', H', J, rz, e1, e2⟩ := hr
  subst e1 e2
  exact ⟨.int j, H, loose_shut J hp hl hb, rz, q j (hb j (List.mem_of_getElem? hj))⟩
/-! ### put -/
def rSetLo : V → V → V → Hp → (Hp → Prop) → Prop := fun o i v H Q => ∃ (p : Addr) (n B k : Nat) (j : Int), o = .ref p ∧ i = .int (k : Int) ∧ v = .int j ∧ H p = some (LooseO p n B) ∧ k < n ∧ j.natAbs ≤ B ∧ Q H
theorem set_loose {X : Cx} : PSet X rSetLo := by
  intro pins s σ H o i v ov iv u Q I ro ri rv h
  obtain ⟨p, n, B, k, j, rfl, rfl, rfl, hp, hk, h0, q⟩ := h
  obtain ⟨js, hl, hb, I1⟩ := loose_open I hp
  have hix : ixN (js.map V.int).length (k : Int) = some k := by
    unfold ixN
    rw [List.length_map, hl, if_pos (by omega), if_pos (by omega)]
    simp
  refine wpAny_mono (set_list pins s σ _ (.ref p) (.int (k : Int)) (.int j) ov iv u (fun H' => H' = upd (upd H p (.lst (js.map V.int))) p (.lst ((js.map V.int).set k (.int j)))) I1 ro ri rv ⟨p, js.map V.int, k, k, rfl, rfl, upd_same, hix, rfl⟩) (fun _ s' hr => ?_) fun _ _ z => z
  obtain ⟨H', J, e⟩ := hr
  subst e
  rw [upd_upd, show (js.map V.int).set k (.int j) = (js.set k j).map V.int by rw [List.map_set]] at J
  refine ⟨H, loose_shut J hp (by rw [List.length_set]; exact hl) fun z hz => ?_, q⟩
  rcases List.mem_or_eq_of_mem_set hz with hz | rfl
  · exact hb z hz
  · exact h0
theorem dq_loose {K : Fg} {G : Hp} {v : V} {n B : Nat} (h : Dq K G v (.loose n B)) : ∃ p, v = .ref p ∧ G p = some (LooseO p n B) := by
  cases h with
  | loose h1 => exact ⟨_, rfl, h1⟩
/-! ### tuple(x) -/
def rTupLo : List V → Hp → VK → Prop := fun xs H Q => ∃ (p : Addr) (n B : Nat), xs = [.ref p] ∧ H p = some (LooseO p n B) ∧ ∀ js : List Int, js.length = n → (∀ j ∈ js, j.natAbs ≤ B) → ∀ l, H l = none → Q (.ref l) (upd H l (.tup (js.map V.int)))
theorem call_tupLo {X : Cx} : CallR X (.type "tuple") rTupLo := by
  intro pins s σ H xs us Q I r h
  obtain ⟨p, n, B, rfl, hp, q⟩ := h
  obtain ⟨js, hl, hb, I1⟩ := loose_open I hp
  refine wpAny_mono (call_tuple_of pins s σ _ [.ref p] us (fun v H' => ∃ l, H l = none ∧ l ≠ p ∧ v = .ref l ∧ H' = upd (upd H p (.lst (js.map V.int))) l (.tup (js.map V.int))) I1 r ⟨p, js.map V.int, rfl, .inl ⟨SqL.of upd_same, fun l hn => ?_⟩⟩) (fun v s' hr => ?_) fun _ _ z => z
  · have ne : l ≠ p := fun z => by
      rw [z, upd_same] at hn
      cases hn
    rw [upd_ne ne] at hn
    exact ⟨l, hn, ne, rfl, rfl⟩
  · obtain ⟨z, H', J, rz, l, hn, ne, e1, e2⟩ := hr
    subst e1 e2
    refine ⟨_, _, ?_, rz, q js hl hb l hn⟩
    have e : upd (upd H p (.lst (js.map V.int))) l (.tup (js.map V.int)) = upd (upd H l (.tup (js.map V.int))) p (.lst (js.map V.int)) := by
      funext b
      by_cases h1 : b = l
      · subst h1
        rw [upd_same, upd_ne ne, upd_same]
      · rw [upd_ne h1]
        by_cases h2 : b = p
        · subst h2; rw [upd_same, upd_same]
        · rw [upd_ne h2, upd_ne h2, upd_ne h1]
    rw [e] at J
    exact loose_shut J (by rw [upd_ne (Ne.symm ne)]; exact hp) hl hb
section
variable {C : Cs} {ls : List Loc} {e a b : Expr} {ds : List D} {n B : Nat} {p1 p2 pos : Pos} {P : Post} {x : Str} {p q r : Int → Prop} {rest : List Stmt}
theorem jx_looseIx (ha : JE C ls a (.loose n B)) (hb : JX C ls b (IntP p)) (h : ∀ i, p i → 0 ≤ i ∧ i < n) (hs : PlainIx b := by intro _ _; rfl) : JX C ls (.Subscript a b pos) (IntP fun i => i.natAbs ≤ B) := fun F G H σ S xx Q q =>
  ⟨_, fun j => pe_ix ix_loose (pe_any C a j) (pe_any C b j) hs, ha F G H σ S xx _ fun x G1 H1 eg1 eh1 S1 hx => hb F G1 H1 σ S1 (xx.step eg1 eh1) _ fun d y G2 H2 hd eg2 eh2 S2 hy => by
    obtain ⟨i, rfl, hi⟩ := hd
    obtain ⟨h0, hn⟩ := h i hi
    obtain ⟨p, e0, h1⟩ := dq_loose (dq_mono eg2 hx)
    exact ⟨p, n, B, i.toNat, e0, by rw [dq_int hy]; congr 1; omega, S2.ex _ _ h1, by omega, fun k hk => q _ _ G2 H2 ⟨k, rfl, hk⟩ (eg1.trans eg2) (eh1.trans eh2) S2 (.int _)⟩⟩
/-- x[b] = e, x such a list -/
theorem js_looseSet (i : Nat) (he : JX C ls e (IntP q)) (hb : JX C ls b (IntP p)) (hl : ls[i]? = some (.val (.loose n B))) (hq : ∀ j, q j → j.natAbs ≤ B) (hp : ∀ k, p k → 0 ≤ k ∧ k < n) (hn : P.nx ls) (hi : C.N[i]? = some x := by rfl)
    (hv : ∀ j, Vis (C.X j).env.scope x := by intro _; first | exact Or.inl rfl | exact Or.inr (Or.inl rfl) | exact Or.inr (Or.inr rfl)) (hd : (x == ("__debug__" : Str)) = false := by decide) (hcd : (x == ("__classdict__" : Str)) = false := by decide)
    (ha : ∀ j v, assign (.Subscript (.Name x p1) b p2) (C.X j).env v = (do
      let ov ← holding [v] (eval (.Name x p1) (C.X j).env)
      let iv ← holding [v, ov] (eval b (C.X j).env)
      standAt p2
      holding [v, ov, iv] (setItem ov iv v)
      release [v, ov, iv] []) := by intro _ _; rfl)
    (hs : ∀ j, swapsWithSole [.Subscript (.Name x p1) b p2] e pos.line (C.X j).env = pure false := by intro _; rfl) (hw : ∀ j, swappedStores [.Subscript (.Name x p1) b p2] e (C.X j).env = pure none := by intro _; rfl) (h1 : ∀ j, (assignEach [.Subscript (.Name x p1) b p2] (C.X j).env).map (·.2) = [assign (.Subscript (.Name x p1) b p2) (C.X j).env] := by intro _; rfl) :
    JS C ls (.Assign [.Subscript (.Name x p1) b p2] e pos) P :=
  js_of (fun j => ps_asg (pe_any C e j) (pg_sub (pe_var (i := i) (by rw [C.hN]; exact hi) (hv j) hd hcd) (pe_any C b j) set_loose (ha j)) (hs j) (hw j) (h1 j)) fun F G H σ D' S f => he F G H σ S (f.xok S) _ fun d v G1 H1 hd1 eg1 eh1 S1 hv1 => by
    obtain ⟨j, rfl, h0⟩ := hd1
    obtain ⟨vh, ep, hvh⟩ := S1.var hl
    refine ⟨vh, ep, hb F G1 H1 σ S1 ((f.xok S).step eg1 eh1) _ fun d2 y G2 H2 hd2 eg2 eh2 S2 hy => ?_⟩
    obtain ⟨k, rfl, hk⟩ := hd2
    obtain ⟨k0, kn⟩ := hp k hk
    obtain ⟨pa, e0, q1⟩ := dq_loose (dq_mono eg2 hvh)
    exact ⟨pa, n, B, k.toNat, j, e0, by rw [dq_int hy]; congr 1; omega, dq_int hv1, S2.ex _ _ q1, by omega, hq j h0, f.nx G2 H2 _ _ (eg1.trans eg2) (S.kp (eh1.trans eh2)) S2 hn⟩
theorem jb_looseSet (i : Nat) (he : JX C ls e (IntP q)) (hb : JX C ls b (IntP p)) (hl : ls[i]? = some (.val (.loose n B))) (hq : ∀ j, q j → j.natAbs ≤ B) (hp : ∀ k, p k → 0 ≤ k ∧ k < n) (k : JB C ls rest P) (hi : C.N[i]? = some x := by rfl)
    (hv : ∀ j, Vis (C.X j).env.scope x := by intro _; first | exact Or.inl rfl | exact Or.inr (Or.inl rfl) | exact Or.inr (Or.inr rfl)) (hd : (x == ("__debug__" : Str)) = false := by decide) (hcd : (x == ("__classdict__" : Str)) = false := by decide)
    (ha : ∀ j v, assign (.Subscript (.Name x p1) b p2) (C.X j).env v = (do
      let ov ← holding [v] (eval (.Name x p1) (C.X j).env)
      let iv ← holding [v, ov] (eval b (C.X j).env)
      standAt p2
      holding [v, ov, iv] (setItem ov iv v)
      release [v, ov, iv] []) := by intro _ _; rfl)
    (hs : ∀ j, swapsWithSole [.Subscript (.Name x p1) b p2] e pos.line (C.X j).env = pure false := by intro _; rfl) (hw : ∀ j, swappedStores [.Subscript (.Name x p1) b p2] e (C.X j).env = pure none := by intro _; rfl) (h1 : ∀ j, (assignEach [.Subscript (.Name x p1) b p2] (C.X j).env).map (·.2) = [assign (.Subscript (.Name x p1) b p2) (C.X j).env] := by intro _; rfl) :
    JB C ls (.Assign [.Subscript (.Name x p1) b p2] e pos :: rest) P :=
  jb_cons (fun l => l = ls) (js_looseSet i he hb hl hq hp rfl hi hv hd hcd ha hs hw h1) fun _ h => h ▸ k
/-- tuple(x) -/
theorem jx_looseTup (ha : JE C ls a (.loose n B)) (hn : NoG C "tuple" := by assumption) (hg : ∀ j, Gl (C.X j) "tuple" := by intro _; rfl) (hs : NS a := by intro _ _; rfl) : JX C ls (.Call (.Name "tuple" p1) [a] [] pos) fun d => ∃ js : List Int, d = .tup (iL js) ∧ js.length = n ∧ ∀ j ∈ js, j.natAbs ≤ B := fun F G H σ S xx Q q =>
  ⟨_, fun j => pe_ct1 j call_tupLo (hg j) hn (by first | exact PySem.boot_tuple | decide +kernel) hs, ha F G H σ S xx _ fun v G1 H1 eg1 eh1 S1 hv => by
    obtain ⟨p, rfl, hp⟩ := dq_loose hv
    refine ⟨p, n, B, rfl, S1.ex _ _ hp, fun js hl hb l hnl => ?_⟩
    have := S1.made (o := .tup (js.map V.int)) hnl
    exact q _ _ _ _ ⟨js, rfl, hl, hb⟩ (eg1.trans (Ex.new (S1.ex.fresh hnl))) (eh1.trans (Ex.new hnl)) this (.tup (.inl (.inl upd_same)) (dqAll_ints js))⟩
end
/-! ### made: a new list of integers as a loose one -/
theorem own_mem {K : Fg} {G G2 H H2 : Hp} {σ : L2.St} {ls : List Loc} {F F2 : Addr → Prop} (S : Sat K F G H σ ls) (S2 : Sat K F2 G2 H2 σ ls) (eh : Ex H H2) {ow ow2 : Nat → List Addr}
    (h1 : ∀ i l, ls[i]? = some l → LocOk K G H (σ.getD i none) l (ow i)) (h2 : ∀ i l, ls[i]? = some l → LocOk K G2 H2 (σ.getD i none) l (ow2 i)) {i : Nat} {l : Loc} (hi : ls[i]? = some l) : ow2 i = ow i :=
  own_same eh (h1 i l hi) (h2 i l hi)
section
variable {C : Cs} {ls : List Loc} {e : Expr}
theorem jn_fresh {ds : List D} (h : JN C ls e ds) : ∀ F G H σ, Sat C.K F G H σ ls → Xok C.K C.E F G H σ ls → ∀ Q : VK, (∀ p vs G' H', H p = none → Ex G G' → Ex H H' → ¬ F p → Sat C.K (fun a => F a ∨ a = p) G' H' σ ls → H' p = some (.lst vs) → DqAll C.K G' vs ds → Q (.ref p) H') → eAny C e σ H Q := fun F G H σ S xx Q q => by
  obtain ⟨ow, h1, h2, h3, h4⟩ := S.ow
  let F2 : Addr → Prop := fun a => F a ∨ (G a = none ∧ NT H a ∧ ∀ i, i < ls.length → a ∉ ow i)
  have S2 : Sat C.K F2 G H σ ls := by
    refine ⟨S.ex, fun a fa => ?_, S.len, fun i => if i < ls.length then ow i else [], fun i l hl => ?_, fun i p hp => ?_, fun i => ?_, fun i j p hi hj => ?_⟩
    · rcases fa with fa | fa
      · exact S.fo a fa
      · exact ⟨fa.1, fa.2.1⟩
    · have hlt : i < ls.length := (List.getElem?_eq_some_iff.mp hl).1
      simp only [hlt, if_true]
      exact h1 i l hl
    · by_cases hlt : i < ls.length
      · simp only [hlt, if_true] at hp
        obtain ⟨a1, a2, a3⟩ := h2 i p hp
        refine ⟨a1, a2, fun z => ?_⟩
        rcases z with z | z
        · exact a3 z
        · exact z.2.2 i hlt hp
      · simp only [hlt, if_false] at hp
        cases hp
    · by_cases hlt : i < ls.length
      · simp only [hlt, if_true]; exact h3 i
      · simp only [hlt, if_false]; exact List.nodup_nil
    · by_cases hlt : i < ls.length
      · by_cases hlt2 : j < ls.length
        · simp only [hlt, if_true] at hi
          simp only [hlt2, if_true] at hj
          exact h4 i j p hi hj
        · simp only [hlt2, if_false] at hj
          cases hj
      · simp only [hlt, if_false] at hi
        cases hi
  have xx2 : Xok C.K C.E F2 G H σ ls := ⟨xx.tb, xx.dx, fun G' H' Cl dd fs gs eg eh S' => xx.ex G' H' Cl dd fs gs eg eh (S'.sub fun a fa => Or.inl fa)⟩
  refine h F2 G H σ S2 xx2 Q fun p vs G' H' eg eh nf S' hp hv => ?_
  have hn : H p = none := by
    cases z : H p with
    | none => rfl
    | some o =>
      exfalso
      have nt : NT H p := by
        refine ⟨o, z, fun ps e1 => ?_⟩
        rw [e1] at z
        obtain ⟨m, e2, _⟩ := eh p _ z
        rw [hp] at e2
        cases e2
      obtain ⟨g', _⟩ := S'.fo p (Or.inr rfl)
      have g : G p = none := by
        cases y : G p with
        | none => rfl
        | some u =>
          obtain ⟨u2, e2⟩ := (eg p u y).some
          rw [g'] at e2
          cases e2
      by_cases hw : ∀ i, i < ls.length → p ∉ ow i
      · exact nf (Or.inr ⟨g, nt, hw⟩)
      · obtain ⟨i, hi⟩ := Classical.not_forall.mp hw
        obtain ⟨hlt, hm⟩ := Classical.not_imp.mp hi
        have hm := Classical.not_not.mp hm
        obtain ⟨ow2, k1, k2, k3, k4⟩ := S'.ow
        have e2 := own_same eh (h1 i _ (List.getElem?_eq_getElem hlt)) (k1 i _ (List.getElem?_eq_getElem hlt))
        exact (k2 i p (by rw [e2]; exact hm)).2.2 (Or.inr rfl)
  refine q p vs G' H' hn eg eh (fun z => nf (Or.inl z)) (S'.sub fun a fa => ?_) hp hv
  rcases fa with fa | fa
  · exact Or.inl (Or.inl fa)
  · exact Or.inr fa
theorem Sat.looseN {K : Fg} {F : Addr → Prop} {G H : Hp} {σ : L2.St} {p : Addr} {o o2 : HO} (S : Sat K (fun a => F a ∨ a = p) G H σ ls) (nf : ¬ F p) (h : H p = some o) : Sat K F (upd G p o2) (upd H p o2) σ ls := by
  obtain ⟨ow, h1, h2, h3, h4⟩ := S.ow
  have gp : G p = none := (S.fo p (Or.inr rfl)).1
  have eg : Ex G (upd G p o2) := Ex.new gp
  have nq : ∀ i q, q ∈ ow i → q ≠ p := fun i q hq z => (h2 i q hq).2.2 (Or.inr z)
  refine ⟨S.ex.upd2, fun a fa => ?_, S.len, ow, fun i l hl => locOk_mono eg (fun q hq => upd_ne (nq i q hq)) (h1 i l hl), fun i q hq => ?_, h3, h4⟩
  · have ne : a ≠ p := fun z => nf (z ▸ fa)
    rw [upd_ne ne]
    exact ⟨(S.fo a (Or.inl fa)).1, nt_eq (S.fo a (Or.inl fa)).2 (upd_ne ne)⟩
  · obtain ⟨g, k, f⟩ := h2 i q hq
    rw [upd_ne (nq i q hq)]
    exact ⟨g, nt_eq k (upd_ne (nq i q hq)), fun z => f (Or.inl z)⟩
theorem je_loose {js : List Int} {B : Nat} (h : JN C ls e (iL js)) (hb : ∀ j ∈ js, j.natAbs ≤ B) : JE C ls e (.loose js.length B) := fun F G H σ S xx Q q => by
  refine ⟨fun σ H Q => eAny C e σ H fun v H' => ∃ (p : Addr) (js' : List Int), v = .ref p ∧ H' p = some (.lst (js'.map V.int)) ∧ js'.length = js.length ∧ (∀ j ∈ js', j.natAbs ≤ B) ∧ Q (.ref p) (upd H' p (LooseO p js.length B)), fun i => ⟨fun pins s σ0 H0 Q0 I hh => ?_⟩, ?_⟩
  · refine wpAny_mono ((pe_any C e i).run pins s σ0 H0 _ I hh) (fun r s' hr => ?_) fun _ _ z => z
    obtain ⟨v, H', I', rv, p, js', rfl, hp, hl, hb', q'⟩ := hr
    exact ⟨_, _, loose_close I' hp hl hb', rv, q'⟩
  · refine jn_fresh h F G H σ S xx _ fun p vs G' H' hn eg eh nf S' hp hv => ?_
    have e2 : vs = js.map V.int := dqAll_ints' hv
    subst e2
    refine ⟨p, js, rfl, hp, rfl, hb, q _ (upd G' p (LooseO p js.length B)) (upd H' p (LooseO p js.length B)) (eg.trans (Ex.new (S'.fo p (Or.inr rfl)).1)) (fun a o ha => ?_) (S'.looseN nf hp) (.loose upd_same)⟩
    have ne : a ≠ p := fun z => by rw [z, hn] at ha; cases ha
    rw [upd_ne ne]
    exact eh a o ha
end
end Qp

/-! Q42: unpacking of tuples of 2, 4 and 7; a, b, c = x, y, z; x in a tuple or list of data of any kind; comprehensions over lists that are not all known. -/
namespace Qp
open PySem PySem.Spec PyProof.Rows L2
section
variable {C : Cs} {ls : List Loc} {e a b c : Expr} {d1 d2 d3 d4 d5 d6 d7 : D} {ds es : List D} {pos : Pos} {P : Post} {rest : List Stmt}
theorem js_un2 (i1 i2 : Nat) {x1 x2 : Str} {q1 q2 tpos : Pos} {kk : Nat} (he : JE C ls e (.tup [d1, d2])) (hn : P.nx ((ls.set i1 (.val d1)).set i2 (.val d2))) (hc : ∀ j, (C.X j).calm = true) (h1 : C.N[i1]? = some x1 := by rfl) (h2 : C.N[i2]? = some x2 := by rfl)
    (l1 : ∀ i, L2.Loc (C.X i).env.scope x1 := by intro _; first | exact .inl rfl | exact .inr rfl) (l2 : ∀ i, L2.Loc (C.X i).env.scope x2 := by intro _; first | exact .inl rfl | exact .inr rfl)
    (f1 : ∀ i, (C.X i).fn x1 = true ∨ (C.X i).env.scope.names.lookup x1 = some .local := by intro _; first | exact .inl rfl | exact .inr rfl) (f2 : ∀ i, (C.X i).fn x2 = true ∨ (C.X i).env.scope.names.lookup x2 = some .local := by intro _; first | exact .inl rfl | exact .inr rfl)
    (hs : ∀ j, swapsWithSole [.Tuple [.Name x1 q1, .Name x2 q2] kk tpos] e pos.line (C.X j).env = pure false := by intro _; rfl) (hw : ∀ j, swappedStores [.Tuple [.Name x1 q1, .Name x2 q2] kk tpos] e (C.X j).env = pure none := by intro _; rfl)
    (hh : ∀ j, (assignEach [.Tuple [.Name x1 q1, .Name x2 q2] kk tpos] (C.X j).env).map (·.2) = [assign (.Tuple [.Name x1 q1, .Name x2 q2] kk tpos) (C.X j).env] := by intro _; rfl) :
    JS C ls (.Assign [.Tuple [.Name x1 q1, .Name x2 q2] kk tpos] e pos) P :=
  js_of (t := tAsg (eAny C e) (gTup C.K 2 (gCons (gName i1) (gCons (gName i2) gNil))))
    (fun j => ps_asg (pe_any C e j) (kx (p := fun K => PG (C.X j) _ (gTup K 2 (gCons (gName i1) (gCons (gName i2) gNil)))) j (pg_tup (hc j) (pgs_cons (pg_name (i := i1) (by rw [C.hN]; exact C.nd) (by rw [C.hN]; exact h1) (l1 j) (f1 j)) (pgs_cons (pg_name (i := i2) (by rw [C.hN]; exact C.nd) (by rw [C.hN]; exact h2) (l2 j) (f2 j)) pgs_nil)))) (hs j) (hw j) (hh j))
    fun F G H σ D' S f => he F G H σ S (f.xok S) _ fun v G' H' eg eh S' hv => by
      obtain ⟨a, vs, rfl, ht, hd⟩ := dq_tup hv
      cases hd with
      | cons k1 r1 =>
        cases r1 with
        | cons k2 r2 =>
          cases r2
          exact ⟨a, _, rfl, ex_t S'.ex ht, rfl, _, _, rfl, _, _, rfl, rfl, f.nx G' H' _ _ eg (S.kp eh) ((S'.setV k1).setV k2) hn⟩
theorem jb_un2 [Cold C] (i1 i2 : Nat) {x1 x2 : Str} {q1 q2 tpos : Pos} {kk : Nat} (he : JE C ls e (.tup [d1, d2])) (k : JB C ((ls.set i1 (.val d1)).set i2 (.val d2)) rest P) (h1 : C.N[i1]? = some x1 := by rfl) (h2 : C.N[i2]? = some x2 := by rfl)
    (l1 : ∀ i, L2.Loc (C.X i).env.scope x1 := by intro _; first | exact .inl rfl | exact .inr rfl) (l2 : ∀ i, L2.Loc (C.X i).env.scope x2 := by intro _; first | exact .inl rfl | exact .inr rfl)
    (f1 : ∀ i, (C.X i).fn x1 = true ∨ (C.X i).env.scope.names.lookup x1 = some .local := by intro _; first | exact .inl rfl | exact .inr rfl) (f2 : ∀ i, (C.X i).fn x2 = true ∨ (C.X i).env.scope.names.lookup x2 = some .local := by intro _; first | exact .inl rfl | exact .inr rfl)
    (hs : ∀ j, swapsWithSole [.Tuple [.Name x1 q1, .Name x2 q2] kk tpos] e pos.line (C.X j).env = pure false := by intro _; rfl) (hw : ∀ j, swappedStores [.Tuple [.Name x1 q1, .Name x2 q2] kk tpos] e (C.X j).env = pure none := by intro _; rfl)
    (hh : ∀ j, (assignEach [.Tuple [.Name x1 q1, .Name x2 q2] kk tpos] (C.X j).env).map (·.2) = [assign (.Tuple [.Name x1 q1, .Name x2 q2] kk tpos) (C.X j).env] := by intro _; rfl) :
    JB C ls (.Assign [.Tuple [.Name x1 q1, .Name x2 q2] kk tpos] e pos :: rest) P :=
  jb_cons (fun l => l = ((ls.set i1 (.val d1)).set i2 (.val d2))) (js_un2 i1 i2 he rfl (fun j => C.calm j Cold.h) h1 h2 l1 l2 f1 f2 hs hw hh) fun _ h => h ▸ k
theorem js_un4 (i1 i2 i3 i4 : Nat) {x1 x2 x3 x4 : Str} {q1 q2 q3 q4 tpos : Pos} {kk : Nat} (he : JE C ls e (.tup [d1, d2, d3, d4])) (hn : P.nx ((((ls.set i1 (.val d1)).set i2 (.val d2)).set i3 (.val d3)).set i4 (.val d4))) (hc : ∀ j, (C.X j).calm = true) (h1 : C.N[i1]? = some x1 := by rfl) (h2 : C.N[i2]? = some x2 := by rfl) (h3 : C.N[i3]? = some x3 := by rfl) (h4 : C.N[i4]? = some x4 := by rfl)
    (l1 : ∀ i, L2.Loc (C.X i).env.scope x1 := by intro _; first | exact .inl rfl | exact .inr rfl) (l2 : ∀ i, L2.Loc (C.X i).env.scope x2 := by intro _; first | exact .inl rfl | exact .inr rfl) (l3 : ∀ i, L2.Loc (C.X i).env.scope x3 := by intro _; first | exact .inl rfl | exact .inr rfl) (l4 : ∀ i, L2.Loc (C.X i).env.scope x4 := by intro _; first | exact .inl rfl | exact .inr rfl)
    (f1 : ∀ i, (C.X i).fn x1 = true ∨ (C.X i).env.scope.names.lookup x1 = some .local := by intro _; first | exact .inl rfl | exact .inr rfl) (f2 : ∀ i, (C.X i).fn x2 = true ∨ (C.X i).env.scope.names.lookup x2 = some .local := by intro _; first | exact .inl rfl | exact .inr rfl) (f3 : ∀ i, (C.X i).fn x3 = true ∨ (C.X i).env.scope.names.lookup x3 = some .local := by intro _; first | exact .inl rfl | exact .inr rfl) (f4 : ∀ i, (C.X i).fn x4 = true ∨ (C.X i).env.scope.names.lookup x4 = some .local := by intro _; first | exact .inl rfl | exact .inr rfl)
    (hs : ∀ j, swapsWithSole [.Tuple [.Name x1 q1, .Name x2 q2, .Name x3 q3, .Name x4 q4] kk tpos] e pos.line (C.X j).env = pure false := by intro _; rfl) (hw : ∀ j, swappedStores [.Tuple [.Name x1 q1, .Name x2 q2, .Name x3 q3, .Name x4 q4] kk tpos] e (C.X j).env = pure none := by intro _; rfl)
    (hh : ∀ j, (assignEach [.Tuple [.Name x1 q1, .Name x2 q2, .Name x3 q3, .Name x4 q4] kk tpos] (C.X j).env).map (·.2) = [assign (.Tuple [.Name x1 q1, .Name x2 q2, .Name x3 q3, .Name x4 q4] kk tpos) (C.X j).env] := by intro _; rfl) :
    JS C ls (.Assign [.Tuple [.Name x1 q1, .Name x2 q2, .Name x3 q3, .Name x4 q4] kk tpos] e pos) P :=
  js_of (t := tAsg (eAny C e) (gTup C.K 4 (gCons (gName i1) (gCons (gName i2) (gCons (gName i3) (gCons (gName i4) gNil))))))
    (fun j => ps_asg (pe_any C e j) (kx (p := fun K => PG (C.X j) _ (gTup K 4 (gCons (gName i1) (gCons (gName i2) (gCons (gName i3) (gCons (gName i4) gNil)))))) j (pg_tup (hc j) (pgs_cons (pg_name (i := i1) (by rw [C.hN]; exact C.nd) (by rw [C.hN]; exact h1) (l1 j) (f1 j)) (pgs_cons (pg_name (i := i2) (by rw [C.hN]; exact C.nd) (by rw [C.hN]; exact h2) (l2 j) (f2 j)) (pgs_cons (pg_name (i := i3) (by rw [C.hN]; exact C.nd) (by rw [C.hN]; exact h3) (l3 j) (f3 j)) (pgs_cons (pg_name (i := i4) (by rw [C.hN]; exact C.nd) (by rw [C.hN]; exact h4) (l4 j) (f4 j)) pgs_nil)))))) (hs j) (hw j) (hh j))
    fun F G H σ D' S f => he F G H σ S (f.xok S) _ fun v G' H' eg eh S' hv => by
      obtain ⟨a, vs, rfl, ht, hd⟩ := dq_tup hv
      cases hd with
      | cons k1 r1 =>
        cases r1 with
        | cons k2 r2 =>
          cases r2 with
          | cons k3 r3 =>
            cases r3 with
            | cons k4 r4 =>
              cases r4
              exact ⟨a, _, rfl, ex_t S'.ex ht, rfl, _, _, rfl, _, _, rfl, _, _, rfl, _, _, rfl, rfl, f.nx G' H' _ _ eg (S.kp eh) ((((S'.setV k1).setV k2).setV k3).setV k4) hn⟩
theorem jb_un4 [Cold C] (i1 i2 i3 i4 : Nat) {x1 x2 x3 x4 : Str} {q1 q2 q3 q4 tpos : Pos} {kk : Nat} (he : JE C ls e (.tup [d1, d2, d3, d4])) (k : JB C ((((ls.set i1 (.val d1)).set i2 (.val d2)).set i3 (.val d3)).set i4 (.val d4)) rest P) (h1 : C.N[i1]? = some x1 := by rfl) (h2 : C.N[i2]? = some x2 := by rfl) (h3 : C.N[i3]? = some x3 := by rfl) (h4 : C.N[i4]? = some x4 := by rfl)
    (l1 : ∀ i, L2.Loc (C.X i).env.scope x1 := by intro _; first | exact .inl rfl | exact .inr rfl) (l2 : ∀ i, L2.Loc (C.X i).env.scope x2 := by intro _; first | exact .inl rfl | exact .inr rfl) (l3 : ∀ i, L2.Loc (C.X i).env.scope x3 := by intro _; first | exact .inl rfl | exact .inr rfl) (l4 : ∀ i, L2.Loc (C.X i).env.scope x4 := by intro _; first | exact .inl rfl | exact .inr rfl)
    (f1 : ∀ i, (C.X i).fn x1 = true ∨ (C.X i).env.scope.names.lookup x1 = some .local := by intro _; first | exact .inl rfl | exact .inr rfl) (f2 : ∀ i, (C.X i).fn x2 = true ∨ (C.X i).env.scope.names.lookup x2 = some .local := by intro _; first | exact .inl rfl | exact .inr rfl) (f3 : ∀ i, (C.X i).fn x3 = true ∨ (C.X i).env.scope.names.lookup x3 = some .local := by intro _; first | exact .inl rfl | exact .inr rfl) (f4 : ∀ i, (C.X i).fn x4 = true ∨ (C.X i).env.scope.names.lookup x4 = some .local := by intro _; first | exact .inl rfl | exact .inr rfl)
    (hs : ∀ j, swapsWithSole [.Tuple [.Name x1 q1, .Name x2 q2, .Name x3 q3, .Name x4 q4] kk tpos] e pos.line (C.X j).env = pure false := by intro _; rfl) (hw : ∀ j, swappedStores [.Tuple [.Name x1 q1, .Name x2 q2, .Name x3 q3, .Name x4 q4] kk tpos] e (C.X j).env = pure none := by intro _; rfl)
    (hh : ∀ j, (assignEach [.Tuple [.Name x1 q1, .Name x2 q2, .Name x3 q3, .Name x4 q4] kk tpos] (C.X j).env).map (·.2) = [assign (.Tuple [.Name x1 q1, .Name x2 q2, .Name x3 q3, .Name x4 q4] kk tpos) (C.X j).env] := by intro _; rfl) :
    JB C ls (.Assign [.Tuple [.Name x1 q1, .Name x2 q2, .Name x3 q3, .Name x4 q4] kk tpos] e pos :: rest) P :=
  jb_cons (fun l => l = ((((ls.set i1 (.val d1)).set i2 (.val d2)).set i3 (.val d3)).set i4 (.val d4))) (js_un4 i1 i2 i3 i4 he rfl (fun j => C.calm j Cold.h) h1 h2 h3 h4 l1 l2 l3 l4 f1 f2 f3 f4 hs hw hh) fun _ h => h ▸ k
theorem js_un7 (i1 i2 i3 i4 i5 i6 i7 : Nat) {x1 x2 x3 x4 x5 x6 x7 : Str} {q1 q2 q3 q4 q5 q6 q7 tpos : Pos} {kk : Nat} (he : JE C ls e (.tup [d1, d2, d3, d4, d5, d6, d7])) (hn : P.nx (((((((ls.set i1 (.val d1)).set i2 (.val d2)).set i3 (.val d3)).set i4 (.val d4)).set i5 (.val d5)).set i6 (.val d6)).set i7 (.val d7))) (hc : ∀ j, (C.X j).calm = true) (h1 : C.N[i1]? = some x1 := by rfl) (h2 : C.N[i2]? = some x2 := by rfl) (h3 : C.N[i3]? = some x3 := by rfl) (h4 : C.N[i4]? = some x4 := by rfl) (h5 : C.N[i5]? = some x5 := by rfl) (h6 : C.N[i6]? = some x6 := by rfl) (h7 : C.N[i7]? = some x7 := by rfl)
    (l1 : ∀ i, L2.Loc (C.X i).env.scope x1 := by intro _; first | exact .inl rfl | exact .inr rfl) (l2 : ∀ i, L2.Loc (C.X i).env.scope x2 := by intro _; first | exact .inl rfl | exact .inr rfl) (l3 : ∀ i, L2.Loc (C.X i).env.scope x3 := by intro _; first | exact .inl rfl | exact .inr rfl) (l4 : ∀ i, L2.Loc (C.X i).env.scope x4 := by intro _; first | exact .inl rfl | exact .inr rfl) (l5 : ∀ i, L2.Loc (C.X i).env.scope x5 := by intro _; first | exact .inl rfl | exact .inr rfl) (l6 : ∀ i, L2.Loc (C.X i).env.scope x6 := by intro _; first | exact .inl rfl | exact .inr rfl) (l7 : ∀ i, L2.Loc (C.X i).env.scope x7 := by intro _; first | exact .inl rfl | exact .inr rfl)
    (f1 : ∀ i, (C.X i).fn x1 = true ∨ (C.X i).env.scope.names.lookup x1 = some .local := by intro _; first | exact .inl rfl | exact .inr rfl) (f2 : ∀ i, (C.X i).fn x2 = true ∨ (C.X i).env.scope.names.lookup x2 = some .local := by intro _; first | exact .inl rfl | exact .inr rfl) (f3 : ∀ i, (C.X i).fn x3 = true ∨ (C.X i).env.scope.names.lookup x3 = some .local := by intro _; first | exact .inl rfl | exact .inr rfl) (f4 : ∀ i, (C.X i).fn x4 = true ∨ (C.X i).env.scope.names.lookup x4 = some .local := by intro _; first | exact .inl rfl | exact .inr rfl) (f5 : ∀ i, (C.X i).fn x5 = true ∨ (C.X i).env.scope.names.lookup x5 = some .local := by intro _; first | exact .inl rfl | exact .inr rfl) (f6 : ∀ i, (C.X i).fn x6 = true ∨ (C.X i).env.scope.names.lookup x6 = some .local := by intro _; first | exact .inl rfl | exact .inr rfl) (f7 : ∀ i, (C.X i).fn x7 = true ∨ (C.X i).env.scope.names.lookup x7 = some .local := by intro _; first | exact .inl rfl | exact .inr rfl)
    (hs : ∀ j, swapsWithSole [.Tuple [.Name x1 q1, .Name x2 q2, .Name x3 q3, .Name x4 q4, .Name x5 q5, .Name x6 q6, .Name x7 q7] kk tpos] e pos.line (C.X j).env = pure false := by intro _; rfl) (hw : ∀ j, swappedStores [.Tuple [.Name x1 q1, .Name x2 q2, .Name x3 q3, .Name x4 q4, .Name x5 q5, .Name x6 q6, .Name x7 q7] kk tpos] e (C.X j).env = pure none := by intro _; rfl)
    (hh : ∀ j, (assignEach [.Tuple [.Name x1 q1, .Name x2 q2, .Name x3 q3, .Name x4 q4, .Name x5 q5, .Name x6 q6, .Name x7 q7] kk tpos] (C.X j).env).map (·.2) = [assign (.Tuple [.Name x1 q1, .Name x2 q2, .Name x3 q3, .Name x4 q4, .Name x5 q5, .Name x6 q6, .Name x7 q7] kk tpos) (C.X j).env] := by intro _; rfl) :
    JS C ls (.Assign [.Tuple [.Name x1 q1, .Name x2 q2, .Name x3 q3, .Name x4 q4, .Name x5 q5, .Name x6 q6, .Name x7 q7] kk tpos] e pos) P :=
  js_of (t := tAsg (eAny C e) (gTup C.K 7 (gCons (gName i1) (gCons (gName i2) (gCons (gName i3) (gCons (gName i4) (gCons (gName i5) (gCons (gName i6) (gCons (gName i7) gNil)))))))))
    (fun j => ps_asg (pe_any C e j) (kx (p := fun K => PG (C.X j) _ (gTup K 7 (gCons (gName i1) (gCons (gName i2) (gCons (gName i3) (gCons (gName i4) (gCons (gName i5) (gCons (gName i6) (gCons (gName i7) gNil))))))))) j (pg_tup (hc j) (pgs_cons (pg_name (i := i1) (by rw [C.hN]; exact C.nd) (by rw [C.hN]; exact h1) (l1 j) (f1 j)) (pgs_cons (pg_name (i := i2) (by rw [C.hN]; exact C.nd) (by rw [C.hN]; exact h2) (l2 j) (f2 j)) (pgs_cons (pg_name (i := i3) (by rw [C.hN]; exact C.nd) (by rw [C.hN]; exact h3) (l3 j) (f3 j)) (pgs_cons (pg_name (i := i4) (by rw [C.hN]; exact C.nd) (by rw [C.hN]; exact h4) (l4 j) (f4 j)) (pgs_cons (pg_name (i := i5) (by rw [C.hN]; exact C.nd) (by rw [C.hN]; exact h5) (l5 j) (f5 j)) (pgs_cons (pg_name (i := i6) (by rw [C.hN]; exact C.nd) (by rw [C.hN]; exact h6) (l6 j) (f6 j)) (pgs_cons (pg_name (i := i7) (by rw [C.hN]; exact C.nd) (by rw [C.hN]; exact h7) (l7 j) (f7 j)) pgs_nil))))))))) (hs j) (hw j) (hh j))
    fun F G H σ D' S f => he F G H σ S (f.xok S) _ fun v G' H' eg eh S' hv => by
      obtain ⟨a, vs, rfl, ht, hd⟩ := dq_tup hv
      cases hd with
      | cons k1 r1 =>
        cases r1 with
        | cons k2 r2 =>
          cases r2 with
          | cons k3 r3 =>
            cases r3 with
            | cons k4 r4 =>
              cases r4 with
              | cons k5 r5 =>
                cases r5 with
                | cons k6 r6 =>
                  cases r6 with
                  | cons k7 r7 =>
                    cases r7
                    exact ⟨a, _, rfl, ex_t S'.ex ht, rfl, _, _, rfl, _, _, rfl, _, _, rfl, _, _, rfl, _, _, rfl, _, _, rfl, _, _, rfl, rfl, f.nx G' H' _ _ eg (S.kp eh) (((((((S'.setV k1).setV k2).setV k3).setV k4).setV k5).setV k6).setV k7) hn⟩
theorem jb_un7 [Cold C] (i1 i2 i3 i4 i5 i6 i7 : Nat) {x1 x2 x3 x4 x5 x6 x7 : Str} {q1 q2 q3 q4 q5 q6 q7 tpos : Pos} {kk : Nat} (he : JE C ls e (.tup [d1, d2, d3, d4, d5, d6, d7])) (k : JB C (((((((ls.set i1 (.val d1)).set i2 (.val d2)).set i3 (.val d3)).set i4 (.val d4)).set i5 (.val d5)).set i6 (.val d6)).set i7 (.val d7)) rest P) (h1 : C.N[i1]? = some x1 := by rfl) (h2 : C.N[i2]? = some x2 := by rfl) (h3 : C.N[i3]? = some x3 := by rfl) (h4 : C.N[i4]? = some x4 := by rfl) (h5 : C.N[i5]? = some x5 := by rfl) (h6 : C.N[i6]? = some x6 := by rfl) (h7 : C.N[i7]? = some x7 := by rfl)
    (l1 : ∀ i, L2.Loc (C.X i).env.scope x1 := by intro _; first | exact .inl rfl | exact .inr rfl) (l2 : ∀ i, L2.Loc (C.X i).env.scope x2 := by intro _; first | exact .inl rfl | exact .inr rfl) (l3 : ∀ i, L2.Loc (C.X i).env.scope x3 := by intro _; first | exact .inl rfl | exact .inr rfl) (l4 : ∀ i, L2.Loc (C.X i).env.scope x4 := by intro _; first | exact .inl rfl | exact .inr rfl) (l5 : ∀ i, L2.Loc (C.X i).env.scope x5 := by intro _; first | exact .inl rfl | exact .inr rfl) (l6 : ∀ i, L2.Loc (C.X i).env.scope x6 := by intro _; first | exact .inl rfl | exact .inr rfl) (l7 : ∀ i, L2.Loc (C.X i).env.scope x7 := by intro _; first | exact .inl rfl | exact .inr rfl)
    (f1 : ∀ i, (C.X i).fn x1 = true ∨ (C.X i).env.scope.names.lookup x1 = some .local := by intro _; first | exact .inl rfl | exact .inr rfl) (f2 : ∀ i, (C.X i).fn x2 = true ∨ (C.X i).env.scope.names.lookup x2 = some .local := by intro _; first | exact .inl rfl | exact .inr rfl) (f3 : ∀ i, (C.X i).fn x3 = true ∨ (C.X i).env.scope.names.lookup x3 = some .local := by intro _; first | exact .inl rfl | exact .inr rfl) (f4 : ∀ i, (C.X i).fn x4 = true ∨ (C.X i).env.scope.names.lookup x4 = some .local := by intro _; first | exact .inl rfl | exact .inr rfl) (f5 : ∀ i, (C.X i).fn x5 = true ∨ (C.X i).env.scope.names.lookup x5 = some .local := by intro _; first | exact .inl rfl | exact .inr rfl) (f6 : ∀ i, (C.X i).fn x6 = true ∨ (C.X i).env.scope.names.lookup x6 = some .local := by intro _; first | exact .inl rfl | exact .inr rfl) (f7 : ∀ i, (C.X i).fn x7 = true ∨ (C.X i).env.scope.names.lookup x7 = some .local := by intro _; first | exact .inl rfl | exact .inr rfl)
    (hs : ∀ j, swapsWithSole [.Tuple [.Name x1 q1, .Name x2 q2, .Name x3 q3, .Name x4 q4, .Name x5 q5, .Name x6 q6, .Name x7 q7] kk tpos] e pos.line (C.X j).env = pure false := by intro _; rfl) (hw : ∀ j, swappedStores [.Tuple [.Name x1 q1, .Name x2 q2, .Name x3 q3, .Name x4 q4, .Name x5 q5, .Name x6 q6, .Name x7 q7] kk tpos] e (C.X j).env = pure none := by intro _; rfl)
    (hh : ∀ j, (assignEach [.Tuple [.Name x1 q1, .Name x2 q2, .Name x3 q3, .Name x4 q4, .Name x5 q5, .Name x6 q6, .Name x7 q7] kk tpos] (C.X j).env).map (·.2) = [assign (.Tuple [.Name x1 q1, .Name x2 q2, .Name x3 q3, .Name x4 q4, .Name x5 q5, .Name x6 q6, .Name x7 q7] kk tpos) (C.X j).env] := by intro _; rfl) :
    JB C ls (.Assign [.Tuple [.Name x1 q1, .Name x2 q2, .Name x3 q3, .Name x4 q4, .Name x5 q5, .Name x6 q6, .Name x7 q7] kk tpos] e pos :: rest) P :=
  jb_cons (fun l => l = (((((((ls.set i1 (.val d1)).set i2 (.val d2)).set i3 (.val d3)).set i4 (.val d4)).set i5 (.val d5)).set i6 (.val d6)).set i7 (.val d7))) (js_un7 i1 i2 i3 i4 i5 i6 i7 he rfl (fun j => C.calm j Cold.h) h1 h2 h3 h4 h5 h6 h7 l1 l2 l3 l4 l5 l6 l7 f1 f2 f3 f4 f5 f6 f7 hs hw hh) fun _ h => h ▸ k
theorem jb_par3 [Cold C] (i1 i2 i3 : Nat) {x1 x2 x3 : Str} {q1 q2 q3 tpos pt2 : Pos} {kk k2 : Nat} {Pa : List D → Prop} (he : JXA C ls [a, b, c] Pa) (k : ∀ d1 d2 d3, Pa [d1, d2, d3] → JB C (((ls.set i1 (.val d1)).set i2 (.val d2)).set i3 (.val d3)) rest P) (hl : ∀ ds, Pa ds → ds.length = 3)
    (h1 : C.N[i1]? = some x1 := by rfl) (h2 : C.N[i2]? = some x2 := by rfl) (h3 : C.N[i3]? = some x3 := by rfl) (hij : i1 ≠ i2 := by decide) (hil : i1 ≠ i3 := by decide) (hjl : i2 ≠ i3 := by decide)
    (l1 : ∀ i, (C.X i).env.scope.names.lookup x1 = some .local := by intro _; rfl) (l2 : ∀ i, (C.X i).env.scope.names.lookup x2 = some .local := by intro _; rfl) (l3 : ∀ i, (C.X i).env.scope.names.lookup x3 = some .local := by intro _; rfl)
    (hw : ∀ j, swappedStores [.Tuple [.Name x1 q1, .Name x2 q2, .Name x3 q3] kk tpos] (.Tuple [a, b, c] k2 pt2) (C.X j).env = pure (some [x1, x2, x3]) := by intro _; rfl)
    (hs : ∀ j, swapsWithSole [.Tuple [.Name x1 q1, .Name x2 q2, .Name x3 q3] kk tpos] (.Tuple [a, b, c] k2 pt2) pos.line (C.X j).env = pure false := by intro _; rfl) :
    JB C ls (.Assign [.Tuple [.Name x1 q1, .Name x2 q2, .Name x3 q3] kk tpos] (.Tuple [a, b, c] k2 pt2) pos :: rest) P :=
  jb_cons (fun l => ∃ d1 d2 d3, Pa [d1, d2, d3] ∧ l = ((ls.set i1 (.val d1)).set i2 (.val d2)).set i3 (.val d3))
    (js_of (fun j => ps_par3 (C.calm j Cold.h) (by rw [C.hN]; exact C.nd) (by rw [C.hN]; exact h1) (by rw [C.hN]; exact h2) (by rw [C.hN]; exact h3) hij hil hjl (l1 j) (l2 j) (l3 j) (pa_any C [a, b, c] j) (hw j) (hs j)) fun F G H σ D' S f => he.ev F G H σ S (f.xok S) _ fun ds vs G' H' hp eg eh S' hv => by
      have hl3 := hl ds hp
      match ds, hl3, hp, hv with
      | [d1, d2, d3], _, hp, .cons k1 (.cons k2 (.cons k3 .nil)) => exact ⟨_, _, _, rfl, f.nx G' H' _ _ eg (S.kp eh) (((S'.setV k1).setV k2).setV k3) ⟨_, _, _, hp, rfl⟩⟩)
    fun l ⟨d1, d2, d3, hp, h⟩ => h ▸ k d1 d2 d3 hp
/-! ### x in a tuple, in a list, of data of any kind -/
def rInTD (K : Fg) (neg : Bool) : R2 := fun x y H Q => ∃ d ds, Dp K H x d ∧ Dp K H y (.tuple ds) ∧ SeqAt.shaped d = true ∧ SeqAt.shaped (.tuple ds) = true ∧ Q (.bl (if neg then !(ds.any fun z => PyData.eqv z d) else ds.any fun z => PyData.eqv z d)) H
theorem op_inTD {X : Cx} (hu : X.A.units + 65 < cLine) : OpR X (compareOp .In) (rInTD X.K false) := by
  intro pins s σ H x y v u Q I rx ry h
  obtain ⟨d, ds, hd, he, sd, se, q⟩ := h
  obtain ⟨as, r1⟩ := Dp.reads I d x v hd rx
  obtain ⟨bs, r2⟩ := Dp.reads I (.tuple ds) y u he ry
  exact SeqAt.in_tuple_reads r2 r1 (SeqAt.canLay_of_shaped se) (SeqAt.canLay_of_shaped sd) (room_in_shaped sd hu) ⟨.bl _, H, I, rfl, q⟩
theorem op_notInTD {X : Cx} (hu : X.A.units + 65 < cLine) : OpR X (compareOp .NotIn) (rInTD X.K true) := by
  intro pins s σ H x y v u Q I rx ry h
  obtain ⟨d, ds, hd, he, sd, se, q⟩ := h
  obtain ⟨as, r1⟩ := Dp.reads I d x v hd rx
  obtain ⟨bs, r2⟩ := Dp.reads I (.tuple ds) y u he ry
  exact SeqAt.notIn_tuple_reads r2 r1 (SeqAt.canLay_of_shaped se) (SeqAt.canLay_of_shaped sd) (room_in_shaped sd hu) ⟨.bl _, H, I, rfl, q⟩
/-- whether one of the list is equal to d -/
def anyEq (d : D) (ds : List D) : Bool := (pyAll ds).any fun z => PyData.eqv z d.py
theorem hu65 (C : Cs) (j : C.ι) : (C.X j).A.units + 65 < cLine := C.hu' j
theorem je_inDT (ha : JE C ls a d1) (hb : JE C ls b (.tup ds)) (h1 : Shp d1) (h2 : Shp (.tup ds)) (hmk : behindInMarks .In b = false := by rfl) : JE C ls (.Compare a [.In] [b] pos) (.bl (anyEq d1 ds)) :=
  je_of (fun j => pe_cmpR (kx (p := fun K => OpR (C.X j) (compareOp .In) (rInTD K false)) j (op_inTD (hu65 C j))) (pe_any C a j) (pe_any C b j) hmk) (ev_op ha hb fun G H x y Q eg hx hy q => ⟨_, _, dp_mono eg (dp_of hx h1.pl), dp_mono eg (dp_of hy h2.pl), h1.sh, h2.sh, q _ (.bl _)⟩)
theorem je_notInDT (ha : JE C ls a d1) (hb : JE C ls b (.tup ds)) (h1 : Shp d1) (h2 : Shp (.tup ds)) (hmk : behindInMarks .NotIn b = false := by rfl) : JE C ls (.Compare a [.NotIn] [b] pos) (.bl (!anyEq d1 ds)) :=
  je_of (fun j => pe_cmpR (kx (p := fun K => OpR (C.X j) (compareOp .NotIn) (rInTD K true)) j (op_notInTD (hu65 C j))) (pe_any C a j) (pe_any C b j) hmk) (ev_op ha hb fun G H x y Q eg hx hy q => ⟨_, _, dp_mono eg (dp_of hx h1.pl), dp_mono eg (dp_of hy h2.pl), h1.sh, h2.sh, q _ (.bl _)⟩)
theorem je_inDL (ha : JE C ls a d1) (hb : JE C ls b (.lst ds)) (h1 : Shp d1) (h2 : Shp (.lst ds)) (hmk : behindInMarks .In b = false := by rfl) : JE C ls (.Compare a [.In] [b] pos) (.bl (anyEq d1 ds)) :=
  je_of (fun j => pe_cmpR (kx (p := fun K => OpR (C.X j) (compareOp .In) (rInD K)) j (op_inD (hu65 C j))) (pe_any C a j) (pe_any C b j) hmk) (ev_op ha hb fun G H x y Q eg hx hy q => ⟨_, _, dp_mono eg (dp_of hx h1.pl), dp_mono eg (dp_of hy h2.pl), h1.sh, h2.sh, q _ (.bl _)⟩)
theorem je_notInDL (ha : JE C ls a d1) (hb : JE C ls b (.lst ds)) (h1 : Shp d1) (h2 : Shp (.lst ds)) (hmk : behindInMarks .NotIn b = false := by rfl) : JE C ls (.Compare a [.NotIn] [b] pos) (.bl (!anyEq d1 ds)) :=
  je_of (fun j => pe_cmpR (kx (p := fun K => OpR (C.X j) (compareOp .NotIn) (rNotInD K)) j (op_notInD (hu65 C j))) (pe_any C a j) (pe_any C b j) hmk) (ev_op ha hb fun G H x y Q eg hx hy q => ⟨_, _, dp_mono eg (dp_of hx h1.pl), dp_mono eg (dp_of hy h2.pl), h1.sh, h2.sh, q _ (.bl _)⟩)
theorem jt_inDT (ha : JE C ls a d1) (hb : JE C ls b (.tup ds)) (h1 : Shp d1) (h2 : Shp (.tup ds)) (hmk : behindInMarks .In b = false := by rfl) : JT C ls (.Compare a [.In] [b] pos) (anyEq d1 ds) :=
  jt_of (fun j => pt_cmpR (kx (p := fun K => OpR (C.X j) (compareOp .In) (rInTD K false)) j (op_inTD (hu65 C j))) (pe_any C a j) (pe_any C b j) hmk) (evT_test (ev_op ha hb fun G H x y Q eg hx hy q => ⟨_, _, dp_mono eg (dp_of hx h1.pl), dp_mono eg (dp_of hy h2.pl), h1.sh, h2.sh, q _ (.bl _)⟩))
theorem jt_notInDT (ha : JE C ls a d1) (hb : JE C ls b (.tup ds)) (h1 : Shp d1) (h2 : Shp (.tup ds)) (hmk : behindInMarks .NotIn b = false := by rfl) : JT C ls (.Compare a [.NotIn] [b] pos) (!anyEq d1 ds) :=
  jt_of (fun j => pt_cmpR (kx (p := fun K => OpR (C.X j) (compareOp .NotIn) (rInTD K true)) j (op_notInTD (hu65 C j))) (pe_any C a j) (pe_any C b j) hmk) (evT_test (ev_op ha hb fun G H x y Q eg hx hy q => ⟨_, _, dp_mono eg (dp_of hx h1.pl), dp_mono eg (dp_of hy h2.pl), h1.sh, h2.sh, q _ (.bl _)⟩))
theorem jt_inDL (ha : JE C ls a d1) (hb : JE C ls b (.lst ds)) (h1 : Shp d1) (h2 : Shp (.lst ds)) (hmk : behindInMarks .In b = false := by rfl) : JT C ls (.Compare a [.In] [b] pos) (anyEq d1 ds) :=
  jt_of (fun j => pt_cmpR (kx (p := fun K => OpR (C.X j) (compareOp .In) (rInD K)) j (op_inD (hu65 C j))) (pe_any C a j) (pe_any C b j) hmk) (evT_test (ev_op ha hb fun G H x y Q eg hx hy q => ⟨_, _, dp_mono eg (dp_of hx h1.pl), dp_mono eg (dp_of hy h2.pl), h1.sh, h2.sh, q _ (.bl _)⟩))
theorem jt_notInDL (ha : JE C ls a d1) (hb : JE C ls b (.lst ds)) (h1 : Shp d1) (h2 : Shp (.lst ds)) (hmk : behindInMarks .NotIn b = false := by rfl) : JT C ls (.Compare a [.NotIn] [b] pos) (!anyEq d1 ds) :=
  jt_of (fun j => pt_cmpR (kx (p := fun K => OpR (C.X j) (compareOp .NotIn) (rNotInD K)) j (op_notInD (hu65 C j))) (pe_any C a j) (pe_any C b j) hmk) (evT_test (ev_op ha hb fun G H x y Q eg hx hy q => ⟨_, _, dp_mono eg (dp_of hx h1.pl), dp_mono eg (dp_of hy h2.pl), h1.sh, h2.sh, q _ (.bl _)⟩))
end
end Qp

/-! Q43: tests, loops and comprehensions over what is not all known; fine values: their nesting and their weight. -/
namespace Qp
open PySem PySem.Spec PyProof.Rows L2
section
variable {C : Cs} {ls : List Loc} {e a b elt : Expr} {d d1 d2 : D} {ds es : List D} {pos : Pos} {P : Post} {rest b1 b2 body : List Stmt} {x : Str} {p1 p2 p3 : Pos} {scope : Scope} {p q : Int → Prop}
/-- a and b, the second one not all known -/
theorem jtx_and {k : Bool} {Pb : Bool → Prop} (h1 : JT C ls a k) (h2 : k = true → JTX C ls b Pb) : JTX C ls (.BoolOp .And [a, b] pos) fun r => (k = false ∧ r = false) ∨ (k = true ∧ Pb r) := fun F G H σ S xx Q q =>
  ⟨tAnd (tAny C a) (tAny C b), fun j => (pw_and (pt_any C a j) (pw_and1 (pt_any C b j))).pt, h1 F G H σ S xx _ fun G' H' eg eh S' => by
    cases k with
    | true =>
      rw [if_pos rfl]
      exact h2 rfl F G' H' σ S' (xx.step eg eh) Q fun r G2 H2 hr eg2 eh2 S2 => q r G2 H2 (Or.inr ⟨rfl, hr⟩) (eg.trans eg2) (eh.trans eh2) S2
    | false =>
      rw [if_neg Bool.false_ne_true]
      exact q false G' H' (Or.inl ⟨rfl, rfl⟩) eg eh S'⟩
theorem JTX.imp {Pb Pc : Bool → Prop} (h : JTX C ls e Pb) (hp : ∀ k, Pb k → Pc k) : JTX C ls e Pc := fun F G H σ S xx Q q => h F G H σ S xx Q fun k G' H' hk => q k G' H' (hp k hk)
theorem jb_ifxX {Pb : Bool → Prop} (hc : JTX C ls a Pb) (h1 : Pb true → JB C ls b1 { P with nx := fun _ => False }) (h : Pb false → JB C ls rest P) : JB C ls (.If a b1 [] pos :: rest) P :=
  jb_ifX (fun l => Pb false ∧ l = ls) hc (fun z => jb_post (h1 z) (fun _ q => q.elim) (fun _ q => q) (fun _ q => q) fun _ q => q) (fun z => jb_nil ⟨z, rfl⟩) fun l ⟨z, q⟩ => q ▸ h z
/-- for x in range(e), e not all known -/
theorem js_forRX [Cold C] (j : Nat) (Pv : Int → Nat → List Loc → Prop) (he : JX C ls e (IntP p)) (hn : ∀ n, p n → -(2 ^ 62) ≤ n ∧ n < 2 ^ 61) (h0 : ∀ n, p n → Pv n 0 ls) (hb : ∀ n, p n → ∀ (i : Nat) ls', i < n.toNat → Pv n i ls' → JB C (ls'.set j (.val (.int i))) body { nx := Pv n (i + 1), rt := P.rt, bk := P.nx, ct := Pv n (i + 1) })
    (hd : ∀ n, p n → ∀ ls', Pv n n.toNat ls' → P.nx ls') (hm : NoG C "range" := by assumption) (hg : ∀ j, Gl (C.X j) "range" := by intro _; rfl) (hs : NS e := by intro _ _; rfl) (hi : C.N[j]? = some x := by rfl) (hx : ∀ i, L2.Loc (C.X i).env.scope x := by intro _; first | exact .inl rfl | exact .inr rfl)
    (hf : ∀ i, (C.X i).fn x = true ∨ (C.X i).env.scope.names.lookup x = some .local := by intro _; first | exact .inl rfl | exact .inr rfl) (hp : ∀ i, PassesOwn (model (C.X i).prog (C.X i).w) (C.X i).A (C.X i).env (C.X i).xe := by intro q; first | exact PassesOwn.never | exact passes_of rfl | exact q.owns) (hfs : ∀ i x, foldedSetIterable (.Call (.Name "range" p1) [e] [] p2) (C.X i).env x = pure x := by intro _ _; rfl) :
    JS C ls (.For (.Name x p3) (.Call (.Name "range" p1) [e] [] p2) body [] pos) P :=
  js_of (t := tFor (iRng1 (tCons (eAny C e) tNil)) (gName j) (bAny C body)) (fun i => ps_for (hp i) (C.calm i Cold.h) (range' i (hg i) hm hs) (pg_name (i := j) (by rw [C.hN]; exact C.nd) (by rw [C.hN]; exact hi) (hx i) (hf i)) (pb_any C body i) (hfs i))
    (hs_forX Pv (fun n => n.toNat) (fun n _ Jt => p n ∧ Jt = Itr 0 n.toNat)
      (fun F G H σ S xx R q => he F G H σ S xx _ fun d v G' H' hd eg eh S' hv => by
        obtain ⟨n, rfl, hpn⟩ := hd
        exact ⟨n, by rw [dq_int hv], (hn n hpn).1, by have := (hn n hpn).2; omega, q n _ G' H' eg eh S' ⟨hpn, rfl⟩⟩) (fun n _ _ hJ => h0 n hJ.1)
      (fun n G Jt H hJ e => by obtain ⟨_, rfl⟩ := hJ; exact Nat.le_refl _) (fun n G Jt H i hJ e hi => by obtain ⟨_, rfl⟩ := hJ; exact hi)
      (fun n F G G0 H σ ls' i x Jt H1 hJ eg hi S p y D' f => by
        obtain ⟨hp, rfl⟩ := hJ
        obtain ⟨rfl, rfl⟩ := y
        have e0 : (0 : Int) + (i : Int) = (i : Int) := Int.zero_add _
        rw [e0]
        exact hb n hp i ls' hi p F G H1 _ D' (S.setV (.int _)) f) fun n _ _ ls' hJ => hd n hJ.1 ls')
/-- [elt for x in a frozen list; in a tuple], the elements not all known -/
theorem jnx_lcL [Cold C] (j : Nat) (q : Nat → D → Prop) (he : JE C ls e (.lst ds)) (hn : ds.length < 1000000) (hb : ∀ i d, ds[i]? = some d → JX (C.blk scope) (ls.set j (.val d)) elt (q i)) (B : BOk C scope x j p1)
    (hj : ∀ l, ls[j]? = some l → l.keeps = true := by intro _ h; cases h; rfl) (hfs : ∀ i x, foldedSetIterable e (C.X i).env x = pure x := by intro _ _; rfl) :
    JNX C ls (.ListComp elt [⟨.Name x p1, e, [], 0⟩] scope pos) fun es => es.length = ds.length ∧ ∀ i d, es[i]? = some d → q i d := fun F G H σ S xx Q k =>
  have at' : ∀ i, i < ds.length → ds[i]? = some (ds.getD i .non) := fun i hi => by rw [List.getD_eq_getElem?_getD, List.getElem?_eq_getElem hi]; rfl
  ⟨_, pe_lcA (tg := e) (ifs := []) (wi := iList C.K (eAny C e)) B (fun i => kx (p := fun K => PI (C.X i) _ e (iList K (eAny C e))) i (pi_list (pe_any C e i))) hfs, evN_lcX j ds.length (fun i => ds.getD i .non) q (fun G Jt => ∃ a vs, Jt = Itl C.K a ∧ G a = some (.lst vs) ∧ DqAll C.K G vs ds) hn hj
    (fun F G H σ S xx R q => he F G H σ S xx _ fun v G' H' eg eh S' hv => by
      obtain ⟨a, vs, rfl, ha, hd⟩ := dq_lst hv
      exact ⟨a, rfl, ⟨vs, SqL.of (S'.ex _ _ ha)⟩, q _ G' H' eg eh S' ⟨a, vs, rfl, ha, hd⟩⟩)
    (fun G Jt H hJ e => by
      obtain ⟨a, vs, rfl, ha, hd⟩ := hJ
      exact ⟨vs, SqL.of (e _ _ ha), by rw [hd.length]; exact Nat.le_refl _⟩)
    (fun G Jt H i hJ e hi => by
      obtain ⟨a, vs, rfl, ha, hd⟩ := hJ
      exact ⟨vs, vs[i]'(by rw [hd.length]; exact hi), SqL.of (e _ _ ha), List.getElem?_eq_getElem _⟩)
    (fun G Jt H i x H1 hJ e hi y => by
      obtain ⟨a, vs, rfl, ha, hd⟩ := hJ
      obtain ⟨rfl, y⟩ := y
      have hx := y vs (SqL.of (e _ _ ha))
      obtain ⟨d, e1, e2⟩ := hd.get' hx
      refine ⟨rfl, ?_⟩
      have := at' i hi
      rw [e1] at this
      rw [← Option.some.inj this]
      exact e2) (fun i hi => (ji_nil : JI (C.blk scope) (ls.set j (.val (ds.getD i .non))) [] true)) (fun i hi => hb i _ (at' i hi)) F G H σ S xx Q k⟩
theorem jnx_lcT [Cold C] (j : Nat) (q : Nat → D → Prop) (he : JE C ls e (.tup ds)) (hn : ds.length < 1000000) (hb : ∀ i d, ds[i]? = some d → JX (C.blk scope) (ls.set j (.val d)) elt (q i)) (B : BOk C scope x j p1)
    (hj : ∀ l, ls[j]? = some l → l.keeps = true := by intro _ h; cases h; rfl) (hfs : ∀ i x, foldedSetIterable e (C.X i).env x = pure x := by intro _ _; rfl) :
    JNX C ls (.ListComp elt [⟨.Name x p1, e, [], 0⟩] scope pos) fun es => es.length = ds.length ∧ ∀ i d, es[i]? = some d → q i d := fun F G H σ S xx Q k =>
  have at' : ∀ i, i < ds.length → ds[i]? = some (ds.getD i .non) := fun i hi => by rw [List.getD_eq_getElem?_getD, List.getElem?_eq_getElem hi]; rfl
  ⟨_, pe_lcA (tg := e) (ifs := []) (wi := iTup C.K (eAny C e)) B (fun i => kx (p := fun K => PI (C.X i) _ e (iTup K (eAny C e))) i (pi_tup (pe_any C e i))) hfs, evN_lcX j ds.length (fun i => ds.getD i .non) q (fun G Jt => ∃ a vs, Jt = Itt C.K a ∧ SqT C.K G a vs ∧ DqAll C.K G vs ds) hn hj
    (fun F G H σ S xx R q => he F G H σ S xx _ fun v G' H' eg eh S' hv => by
      obtain ⟨a, vs, rfl, ha, hd⟩ := dq_tup hv
      exact ⟨a, rfl, ⟨vs, ex_t S'.ex ha⟩, q _ G' H' eg eh S' ⟨a, vs, rfl, ha, hd⟩⟩)
    (fun G Jt H hJ e => by
      obtain ⟨a, vs, rfl, ha, hd⟩ := hJ
      exact ⟨vs, ex_t e ha, by rw [hd.length]; exact Nat.le_refl _⟩)
    (fun G Jt H i hJ e hi => by
      obtain ⟨a, vs, rfl, ha, hd⟩ := hJ
      exact ⟨vs, vs[i]'(by rw [hd.length]; exact hi), ex_t e ha, List.getElem?_eq_getElem _⟩)
    (fun G Jt H i x H1 hJ e hi y => by
      obtain ⟨a, vs, rfl, ha, hd⟩ := hJ
      obtain ⟨rfl, y⟩ := y
      have hx := y vs (ex_t e ha)
      obtain ⟨d, e1, e2⟩ := hd.get' hx
      refine ⟨rfl, ?_⟩
      have := at' i hi
      rw [e1] at this
      rw [← Option.some.inj this]
      exact e2) (fun i hi => (ji_nil : JI (C.blk scope) (ls.set j (.val (ds.getD i .non))) [] true)) (fun i hi => hb i _ (at' i hi)) F G H σ S xx Q k⟩
end
section
variable {C : Cs} {ls : List Loc} {a b c : Expr} {pos : Pos}
theorem jt_leLe {i j k : Int} (ha : JE C ls a (.int i)) (hb : JE C ls b (.int j)) (hc : JE C ls c (.int k)) (hmk : lastMarks [.LtE, .LtE] [b, c] = false := by rfl) : JT C ls (.Compare a [.LtE, .LtE] [b, c] pos) (decide (i ≤ j) && decide (j ≤ k)) :=
  jt_of (fun m => pt_chain op_le op_le (pe_any C a m) (pe_any C b m) (pe_any C c m) hmk) (evT_test (ev_chain ha hb (fun _ => hc) (fun G H x y Q hx hy q => ⟨_, _, dq_int hx, dq_int hy, q⟩) (fun G H x y Q hx hy q => ⟨_, _, dq_int hx, dq_int hy, q⟩)))
theorem jt_leLt {i j k : Int} (ha : JE C ls a (.int i)) (hb : JE C ls b (.int j)) (hc : JE C ls c (.int k)) (hmk : lastMarks [.LtE, .Lt] [b, c] = false := by rfl) : JT C ls (.Compare a [.LtE, .Lt] [b, c] pos) (decide (i ≤ j) && decide (j < k)) :=
  jt_of (fun m => pt_chain op_le op_lt (pe_any C a m) (pe_any C b m) (pe_any C c m) hmk) (evT_test (ev_chain ha hb (fun _ => hc) (fun G H x y Q hx hy q => ⟨_, _, dq_int hx, dq_int hy, q⟩) (fun G H x y Q hx hy q => ⟨_, _, dq_int hx, dq_int hy, q⟩)))
end
/-! ### fine values -/
def wA (ds : List D) : Nat := PyData.weightAll (pyAll ds)
theorem wA_nil : wA [] = 0 := rfl
theorem wA_cons (d : D) (ds : List D) : wA (d :: ds) = d.py.weight + 1 + wA ds := rfl
theorem w_tup (ds : List D) : (D.tup ds).py.weight = wA ds := rfl
theorem w_lst (ds : List D) : (D.lst ds).py.weight = wA ds := rfl
theorem wA_app : ∀ a b : List D, wA (a ++ b) = wA a + wA b
  | [], b => by rw [List.nil_append, wA_nil, Nat.zero_add]
  | d :: a, b => by rw [List.cons_append, wA_cons, wA_cons, wA_app a b]; omega
theorem wA_take (ds : List D) (n : Nat) : wA (ds.take n) ≤ wA ds := by
  have := wA_app (ds.take n) (ds.drop n)
  rw [List.take_append_drop] at this
  omega
theorem wA_drop (ds : List D) (n : Nat) : wA (ds.drop n) ≤ wA ds := by
  have := wA_app (ds.take n) (ds.drop n)
  rw [List.take_append_drop] at this
  omega
theorem wA_td (ds : List D) (n : Nat) : wA (ds.take n) + wA (ds.drop n) = wA ds := by
  have := wA_app (ds.take n) (ds.drop n)
  rw [List.take_append_drop] at this
  omega
theorem wA_mem : ∀ {ds : List D} {d : D}, d ∈ ds → d.py.weight + 1 ≤ wA ds
  | d :: ds, z, h => by
    rw [wA_cons]
    rcases List.mem_cons.mp h with e | h
    · rw [e]; omega
    · have := wA_mem h; omega
theorem wA_len : ∀ ds : List D, ds.length ≤ wA ds
  | [] => Nat.le_refl _
  | d :: ds => by
    have := wA_len ds
    rw [wA_cons, List.length_cons]
    omega
theorem wA_rev (ds : List D) : wA ds.reverse = wA ds := by
  induction ds with
  | nil => rfl
  | cons d ds ih => rw [List.reverse_cons, wA_app, ih, wA_cons, wA_cons, wA_nil]; omega
theorem wA_le {W : Nat} : ∀ {ds : List D}, (∀ d ∈ ds, d.py.weight ≤ W) → wA ds ≤ ds.length * (W + 1)
  | [], _ => by rw [wA_nil]; exact Nat.zero_le _
  | d :: ds, h => by
    have h1 := h d List.mem_cons_self
    have h2 := wA_le fun e he => h e (List.mem_cons_of_mem _ he)
    rw [wA_cons, List.length_cons, Nat.succ_mul]
    omega
/-- fine: a value that repr shows, nested at most n deep -/
structure Sc (n : Nat) (d : D) : Prop where
  pl : d.plain = true
  cl : d.py.canLay0 = true
  sh : d.py.showable = true
  it : d.py.intsShort 13 = true
  dp : d.py.depth ≤ n
theorem Sc.sw {n W : Nat} {d : D} (h : Sc n d) (w : d.py.weight ≤ W) : Sw n W d := ⟨h.pl, h.cl, h.sh, h.it, h.dp, w⟩
theorem Sc.mono {n m : Nat} {d : D} (h : Sc n d) (h1 : n ≤ m) : Sc m d := ⟨h.pl, h.cl, h.sh, h.it, Nat.le_trans h.dp h1⟩
theorem Sw.sc {n W : Nat} {d : D} (h : Sw n W d) : Sc n d := ⟨h.pl, h.cl, h.sh, h.it, h.dp⟩
theorem sc_non : Sc 0 .non := sw_non.sc
theorem sc_bl {b : Bool} : Sc 0 (.bl b) := sw_bl.sc
theorem sc_int {i : Int} (h : i.natAbs < 2 ^ 39) : Sc 0 (.int i) := (sw_int h (Nat.le_refl _)).sc
theorem w_int {i : Int} {k : Nat} (h : i.natAbs < 2 ^ k) (hk : k ≤ 39) : (D.int i).py.weight ≤ k := (sw_int h hk).wt
theorem sc_str {x : Str} (h : PyData.strOk x = true) : Sc 0 (.str x) := (sw_str h (Nat.le_refl _)).sc
theorem w_str (x : Str) : (D.str x).py.weight = x.cps.size := rfl
theorem sc_parts {n : Nat} : ∀ {ds : List D}, (∀ d ∈ ds, Sc n d) → plainAll ds = true ∧ PyData.canLayAll0 (pyAll ds) = true ∧ PyData.showableAll (pyAll ds) = true ∧ PyData.intsShortAll 13 (pyAll ds) = true ∧ PyData.depthAll (pyAll ds) ≤ n
  | [], _ => ⟨rfl, rfl, rfl, rfl, Nat.zero_le _⟩
  | d :: ds, h => by
    obtain ⟨h1, h2, h3, h4, h5⟩ := sc_parts (ds := ds) fun e he => h e (List.mem_cons_of_mem _ he)
    have hd := h d List.mem_cons_self
    refine ⟨?_, ?_, ?_, ?_, ?_⟩
    · show (d.plain && plainAll ds) = true
      rw [hd.pl, h1]; rfl
    · show (d.py.canLay0 && PyData.canLayAll0 (pyAll ds)) = true
      rw [hd.cl, h2]; rfl
    · show (d.py.showable && PyData.showableAll (pyAll ds)) = true
      rw [hd.sh, h3]; rfl
    · show (d.py.intsShort 13 && PyData.intsShortAll 13 (pyAll ds)) = true
      rw [hd.it, h4]; rfl
    · show max d.py.depth (PyData.depthAll (pyAll ds)) ≤ n
      exact Nat.max_le.mpr ⟨hd.dp, h5⟩
theorem sc_tup {n : Nat} {ds : List D} (h : ∀ d ∈ ds, Sc n d) : Sc (n + 1) (.tup ds) := by
  obtain ⟨h1, h2, h3, h4, h5⟩ := sc_parts h
  exact ⟨h1, h2, h3, h4, Nat.succ_le_succ h5⟩
theorem sc_lst {n : Nat} {ds : List D} (h : ∀ d ∈ ds, Sc n d) : Sc (n + 1) (.lst ds) := by
  obtain ⟨h1, h2, h3, h4, h5⟩ := sc_parts h
  exact ⟨h1, h2, h3, h4, Nat.succ_le_succ h5⟩
theorem sc_of {n : Nat} : ∀ {ds : List D}, plainAll ds = true → PyData.canLayAll0 (pyAll ds) = true → PyData.showableAll (pyAll ds) = true → PyData.intsShortAll 13 (pyAll ds) = true → PyData.depthAll (pyAll ds) ≤ n → ∀ d ∈ ds, Sc n d
  | [], _, _, _, _, _ => fun _ h => (List.not_mem_nil h).elim
  | e :: ds, h1, h2, h3, h4, h5 => fun d hd => by
    replace h1 : (e.plain && plainAll ds) = true := h1
    replace h2 : (e.py.canLay0 && PyData.canLayAll0 (pyAll ds)) = true := h2
    replace h3 : (e.py.showable && PyData.showableAll (pyAll ds)) = true := h3
    replace h4 : (e.py.intsShort 13 && PyData.intsShortAll 13 (pyAll ds)) = true := h4
    replace h5 : max e.py.depth (PyData.depthAll (pyAll ds)) ≤ n := h5
    rw [Bool.and_eq_true] at h1 h2 h3 h4
    rw [Nat.max_le] at h5
    rcases List.mem_cons.mp hd with z | hd
    · rw [z]; exact ⟨h1.1, h2.1, h3.1, h4.1, h5.1⟩
    · exact sc_of h1.2 h2.2 h3.2 h4.2 h5.2 d hd
theorem Sc.tup {n : Nat} {ds : List D} (h : Sc n (.tup ds)) : ∀ d ∈ ds, Sc (n - 1) d := sc_of h.pl h.cl h.sh h.it (by have := h.dp; have e : (D.tup ds).py.depth = PyData.depthAll (pyAll ds) + 1 := rfl; omega)
theorem Sc.lst {n : Nat} {ds : List D} (h : Sc n (.lst ds)) : ∀ d ∈ ds, Sc (n - 1) d := sc_of h.pl h.cl h.sh h.it (by have := h.dp; have e : (D.lst ds).py.depth = PyData.depthAll (pyAll ds) + 1 := rfl; omega)
theorem Sc.shp {n : Nat} {d : D} (h : Sc n d) (hn : n ≤ 64 := by decide) : Shp d := ⟨h.pl, by
  unfold SeqAt.shaped
  rw [h.cl, Bool.true_and]
  exact decide_eq_true (Nat.le_trans h.dp hn)⟩
theorem Sc.flat {n : Nat} {d : D} (h : Sc n d) : d.flatK = true := by
  have := h.pl
  cases d <;> first | rfl | (simp [D.plain] at this)
/-- equality with a text -/
def eqS (s : Str) : D → Bool
  | .str x => decide (x = s)
  | _ => false
theorem eqv_str {d : D} (h : d.plain = true) (s : Str) : PyData.eqv d.py (.str s) = eqS s d := by
  cases d <;> first | rfl | (simp [D.plain] at h) | skip
  all_goals (simp only [D.py, PyData.eqv, eqS]; try rfl)
  all_goals (rw [Bool.eq_iff_iff, beq_iff_eq, decide_eq_true_iff])
theorem str_eqv {d : D} (h : d.plain = true) (s : Str) : PyData.eqv (.str s) d.py = eqS s d := by
  cases d <;> first | rfl | (simp [D.plain] at h) | skip
  all_goals (simp only [D.py, PyData.eqv, eqS]; try rfl)
  all_goals (rw [Bool.eq_iff_iff, beq_iff_eq, decide_eq_true_iff]; exact ⟨Eq.symm, Eq.symm⟩)
theorem anyEq_strs {d : D} (h : d.plain = true) : ∀ ss : List Str, anyEq d (ss.map D.str) = ss.any fun s => eqS s d
  | [] => rfl
  | s :: ss => by
    have ih := anyEq_strs h ss
    unfold anyEq at ih ⊢
    show (PyData.eqv (.str s) d.py || (pyAll (ss.map D.str)).any fun z => PyData.eqv z d.py) = _
    rw [ih, str_eqv h]
    rfl
theorem shpS (x : Str) (h : PyData.strOk x = true := by decide +kernel) : Shp (.str x) := (sc_str h).shp
theorem anyEq_ints (i : Int) : ∀ ns : List Int, anyEq (.int i) (iL ns) = decide (i ∈ ns)
  | [] => rfl
  | n :: ns => by
    have ih := anyEq_ints i ns
    unfold anyEq at ih ⊢
    show (PyData.eqv (.int n) (.int i) || (pyAll (iL ns)).any fun z => PyData.eqv z (D.int i).py) = _
    rw [ih]
    show (n == i || decide (i ∈ ns)) = _
    rw [Bool.eq_iff_iff]
    simp only [Bool.or_eq_true, beq_iff_eq, decide_eq_true_eq, List.mem_cons]
    constructor
    · rintro (h | h)
      · exact Or.inl h.symm
      · exact Or.inr h
    · rintro (h | h)
      · exact Or.inl h.symm
      · exact Or.inr h
end Qp

set_option maxHeartbeats 4000000
namespace T15
open PySem PySem.Spec PyProof.Rows L2 Qp
def top (i : Nat) : Stmt := PySem.Challenge.pw_picturetide_k15_band_trees.main.body.getD i (.Pass ⟨0, 0, 0, 0⟩)
abbrev sInt : Stmt := top 1
abbrev sNumb : Stmt := top 2
abbrev sNum : Stmt := top 3
abbrev sWith : Stmt := top 4
abbrev sTold : Stmt := top 16
abbrev sLRow : Stmt := top 17
abbrev sLSq : Stmt := top 18
abbrev sIsLeaf : Stmt := top 19
abbrev sIsSplit : Stmt := top 20
abbrev sIsTree : Stmt := top 21
abbrev sSome : Stmt := top 22
abbrev sBandT : Stmt := top 23
abbrev sDrw : Stmt := top 25
abbrev sTake : Stmt := top 26
abbrev sLInt : Stmt := top 27
abbrev sLLeafQ : Stmt := top 28
abbrev sLTreeQ : Stmt := top 29
abbrev sLBandQ : Stmt := top 30
abbrev sLevel : Stmt := top 31
abbrev sSquare : Stmt := top 32
abbrev sShift : Stmt := top 33
abbrev sLeaf : Stmt := top 34
abbrev sTree : Stmt := top 35
abbrev sBand : Stmt := top 36
abbrev sWrong : Stmt := top 37
abbrev sGraft : Stmt := top 38
abbrev sSpoilt : Stmt := top 39
abbrev sTells : Stmt := top 40
abbrev sLaw : Stmt := top 41
/-! ### what is asked of plain values -/
theorem scInt : FnScope ["value"] ["value"] (defScope sInt) := ⟨rfl, rfl, rfl, by decide +kernel, rfl, by decide +kernel, by decide +kernel⟩
theorem scNumb : FnScope ["value"] ["value"] (defScope sNumb) := ⟨rfl, rfl, rfl, by decide +kernel, rfl, by decide +kernel, by decide +kernel⟩
theorem scNum : FnScope ["value", "limit"] ["value", "limit"] (defScope sNum) := ⟨rfl, rfl, rfl, by decide +kernel, rfl, by decide +kernel, by decide +kernel⟩
theorem scWith : FnScope ["value", "limit"] ["value", "limit"] (defScope sWith) := ⟨rfl, rfl, rfl, by decide +kernel, rfl, by decide +kernel, by decide +kernel⟩
def isI : D → Bool
  | .int _ => true
  | _ => false
def isNumb : D → Bool
  | .int i => decide (0 ≤ i)
  | _ => false
def isNum (l : Int) : D → Bool
  | .int i => decide (0 ≤ i) && decide (i < l)
  | _ => false
def isW (l : Int) : D → Bool
  | .int i => decide (-l ≤ i) && decide (i ≤ l)
  | _ => false
theorem isI_eq {v : D} (h : v.flatK = true) : (v.isInt && !v.isBool) = isI v := by
  cases v <;> first | rfl | (simp [D.flatK] at h)
def rInt : List D → D → Prop := fun ds d => ∃ v : D, ds = [v] ∧ v.flatK = true ∧ d = .bl (isI v)
def rNumb : List D → D → Prop := fun ds d => ∃ v : D, ds = [v] ∧ v.flatK = true ∧ d = .bl (isNumb v)
def rNum : List D → D → Prop := fun ds d => ∃ (v : D) (l : Int), ds = [v, .int l] ∧ v.flatK = true ∧ d = .bl (isNum l v)
def rWith : List D → D → Prop := fun ds d => ∃ (v : D) (l : Int), ds = [v, .int l] ∧ v.flatK = true ∧ d = .bl (isW l v)
theorem noInt {v : D} (h : ¬ ∃ i, v = .int i) : isI v = false ∧ isNumb v = false ∧ ∀ l, isNum l v = false ∧ isW l v = false := by
  cases v <;> first | exact ⟨rfl, rfl, fun _ => ⟨rfl, rfl⟩⟩ | exact absurd ⟨_, rfl⟩ h
section
variable {P : Program} {w : World} {K : Fg} {mg : Str → Option Value} {base : Heap} {T : Addr → Prop}
theorem ok_int {f : Addr} {fd : FuncData} (F : Fun K "is_integer" "is_integer" sInt f fd) (misi : mg "isinstance" = none) (mint : mg "int" = none) (mbool : mg "bool" = none) : FnOk P w K mg base CX0 1 f fd ["value"] (spD K (det rInt) T) := by
  refine fn_okd F scInt (fun ds d h => ?_) (fun cdv A outer s H E hr ds d h => ?_)
  · obtain ⟨_, rfl, _⟩ := h
    rfl
  · obtain ⟨v, rfl, hf, rfl⟩ := h
    rw [← isI_eq hf]
    exact jb_ret (je_and (je_isInt (je_v 0) hf) fun h1 => je_one (je_not (je_isBool (je_v 0) hf))) rfl
theorem ok_numb {f : Addr} {fd : FuncData} (F : Fun K "is_number" "is_number" sNumb f fd) (GI : Fn P w K mg base 1 "is_integer" (det rInt) T) : FnOk P w K mg base CX0 2 f fd ["value"] (spD K (det rNumb) T) := by
  refine fn_okd F scNumb (fun ds d h => ?_) (fun cdv A outer s H E hr ds d h => ?_)
  · obtain ⟨_, rfl, _⟩ := h
    rfl
  · obtain ⟨v, rfl, hf, rfl⟩ := h
    by_cases h : ∃ i, v = .int i
    · obtain ⟨i, rfl⟩ := h
      exact jb_ret (je_and (je_call GI (ja_cons (je_v 0) ja_nil) ⟨_, rfl, hf, rfl⟩) fun h1 => je_one (je_ge (je_v 0) je_int)) rfl
    · obtain ⟨hi, hn, _⟩ := noInt h
      rw [hn]
      exact jb_ret (je_and (l := false) (je_call GI (ja_cons (je_v 0) ja_nil) ⟨_, rfl, hf, rfl⟩) fun h1 => by rw [hi] at h1; cases h1) (by rw [hi]; rfl)
theorem ok_num {f : Addr} {fd : FuncData} (F : Fun K "is_number_below" "is_number_below" sNum f fd) (GB : Fn P w K mg base 2 "is_number" (det rNumb) T) : FnOk P w K mg base CX0 3 f fd ["value", "limit"] (spD K (det rNum) T) := by
  refine fn_okd F scNum (fun ds d h => ?_) (fun cdv A outer s H E hr ds d h => ?_)
  · obtain ⟨_, _, rfl, _⟩ := h
    rfl
  · obtain ⟨v, l, rfl, hf, rfl⟩ := h
    by_cases h : ∃ i, v = .int i
    · obtain ⟨i, rfl⟩ := h
      exact jb_ret (je_and (je_call GB (ja_cons (je_v 0) ja_nil) ⟨_, rfl, hf, rfl⟩) fun h1 => je_one (je_lt (je_v 0) (je_v 1))) rfl
    · obtain ⟨_, hi, hn⟩ := noInt h
      rw [(hn l).1]
      exact jb_ret (je_and (l := false) (je_call GB (ja_cons (je_v 0) ja_nil) ⟨_, rfl, hf, rfl⟩) fun h1 => by rw [hi] at h1; cases h1) (by rw [hi]; rfl)
theorem ok_with {f : Addr} {fd : FuncData} (F : Fun K "is_integer_within" "is_integer_within" sWith f fd) (GI : Fn P w K mg base 1 "is_integer" (det rInt) T) : FnOk P w K mg base CX0 2 f fd ["value", "limit"] (spD K (det rWith) T) := by
  refine fn_okd F scWith (fun ds d h => ?_) (fun cdv A outer s H E hr ds d h => ?_)
  · obtain ⟨_, _, rfl, _⟩ := h
    rfl
  · obtain ⟨v, l, rfl, hf, rfl⟩ := h
    by_cases h : ∃ i, v = .int i
    · obtain ⟨i, rfl⟩ := h
      exact jb_ret (je_and (je_call GI (ja_cons (je_v 0) ja_nil) ⟨_, rfl, hf, rfl⟩) fun h1 => je_one (je_leLe (je_neg (je_v 1)) (je_v 0) (je_v 1))) rfl
    · obtain ⟨hi, _, hn⟩ := noInt h
      rw [(hn l).2]
      exact jb_ret (je_and (l := false) (je_call GI (ja_cons (je_v 0) ja_nil) ⟨_, rfl, hf, rfl⟩) fun h1 => by rw [hi] at h1; cases h1) (by rw [hi]; rfl)
end

/-! ### trees: what they are -/
theorem scTold : FnScope ["mode", "slot", "dy", "dx"] ["mode", "slot", "dy", "dx"] (defScope sTold) := ⟨rfl, rfl, rfl, by decide +kernel, rfl, by decide +kernel, by decide +kernel⟩
theorem scLRow : FnScope ["value", "n", "level"] ["value", "n"] (defScope sLRow) := ⟨rfl, rfl, rfl, by decide +kernel, rfl, by decide +kernel, by decide +kernel⟩
theorem scLSq : FnScope ["value", "n", "row"] ["value", "n"] (defScope sLSq) := ⟨rfl, rfl, rfl, by decide +kernel, rfl, by decide +kernel, by decide +kernel⟩
theorem scIsLeaf : FnScope ["value", "n", "_", "mode", "slot", "dy", "dx", "q", "levels"] ["value", "n"] (defScope sIsLeaf) := ⟨rfl, rfl, rfl, by decide +kernel, rfl, by decide +kernel, by decide +kernel⟩
theorem scIsSplit : FnScope ["value", "n", "parts", "part"] ["value", "n"] (defScope sIsSplit) := ⟨rfl, rfl, rfl, by decide +kernel, rfl, by decide +kernel, by decide +kernel⟩
theorem scIsTree : FnScope ["value", "n"] ["value", "n"] (defScope sIsTree) := ⟨rfl, rfl, rfl, by decide +kernel, rfl, by decide +kernel, by decide +kernel⟩
theorem scSome : FnScope ["value", "tree"] ["value"] (defScope sSome) := ⟨rfl, rfl, rfl, by decide +kernel, rfl, by decide +kernel, by decide +kernel⟩
def modes5 : List Str := ["flat", "down", "right", "slope", "motion"]
def quanta : List Int := [1, 2, 4, 8, 16, 32, 64]
def isLRow (n : Nat) : D → Bool
  | .tup ds => decide ((ds.length : Int) = (n : Int)) && ds.all (isW 2000)
  | _ => false
def isLSq (n : Nat) : D → Bool
  | .tup ds => decide ((ds.length : Int) = (n : Int)) && ds.all (isLRow n)
  | _ => false
def zero3 : D → D → D → Bool
  | .int a, .int b, .int c => decide (a = 0) && (decide (b = 0) && decide (c = 0))
  | _, _, _ => false
def isStrIn (ss : List Str) (d : D) : Bool := ss.any fun s => eqS s d
def told (m s a b : D) : Bool := isNum 3 s && ((isW 31 a && isW 31 b) && (eqS "motion" m || (isStrIn modes5 m && zero3 s a b)))
def isQ : D → Bool
  | .int q => decide (q ∈ quanta)
  | _ => false
def isLeafB (n : Nat) : D → Bool
  | .tup [t, m, s, a, b, q, l] => eqS "leaf" t && (told m s a b && (isQ q && isLSq n l))
  | _ => false
def sz (k : Nat) : Nat := 2 ^ (k + 1)
mutual
def isTreeB : Nat → D → Bool
  | k, v => isLeafB (sz k) v || isSplitB k v
termination_by k => 2 * k + 1
def isSplitB : Nat → D → Bool
  | 0, _ => false
  | k + 1, .tup [t, .tup ps] => eqS "split" t && (decide (ps.length = 4) && ps.all (isTreeB k))
  | _ + 1, _ => false
termination_by k => 2 * k
end
theorem isTreeB_eq (k : Nat) (v : D) : isTreeB k v = (isLeafB (sz k) v || isSplitB k v) := by rw [isTreeB]
theorem isSplitB_0 (v : D) : isSplitB 0 v = false := by rw [isSplitB]
theorem isSplitB_s (k : Nat) (t : D) (ps : List D) : isSplitB (k + 1) (.tup [t, .tup ps]) = (eqS "split" t && (decide (ps.length = 4) && ps.all (isTreeB k))) := by rw [isSplitB]
theorem isSplitB_n {k : Nat} {v : D} (h : ∀ t ps, v ≠ .tup [t, .tup ps]) : isSplitB k v = false := by
  cases k with
  | zero => exact isSplitB_0 v
  | succ k => rw [isSplitB]; exact h
theorem isLeafB_n {n : Nat} {v : D} (h : ∀ ds, v = .tup ds → ds.length ≠ 7) : isLeafB n v = false := by
  unfold isLeafB
  split
  · exact absurd rfl (h _ rfl)
  · rfl
def rTold : List D → D → Prop := fun ds d => ∃ m s a b : D, ds = [m, s, a, b] ∧ (∀ z ∈ [m, s, a, b], Sc 60 z) ∧ d = .bl (told m s a b)
def rLRow : List D → D → Prop := fun ds d => ∃ (v : D) (n : Nat), ds = [v, .int n] ∧ Sc 60 v ∧ wA [v] < 1000000 ∧ d = .bl (isLRow n v)
def rLSq : List D → D → Prop := fun ds d => ∃ (v : D) (n : Nat), ds = [v, .int n] ∧ Sc 60 v ∧ wA [v] < 1000000 ∧ d = .bl (isLSq n v)
def rIsLeaf : List D → D → Prop := fun ds d => ∃ (v : D) (n : Nat), ds = [v, .int n] ∧ Sc 60 v ∧ wA [v] < 1000000 ∧ d = .bl (isLeafB n v)
def rIsSplit (k : Nat) : List D → D → Prop := fun ds d => ∃ v : D, ds = [v, .int (sz k)] ∧ Sc 60 v ∧ wA [v] < 1000000 ∧ d = .bl (isSplitB k v)
def rIsTree (k : Nat) : List D → D → Prop := fun ds d => ∃ v : D, ds = [v, .int (sz k)] ∧ Sc 60 v ∧ wA [v] < 1000000 ∧ d = .bl (isTreeB k v)
def isBandB : D → Bool
  | .tup ds => (decide ((1 : Int) ≤ (ds.length : Int)) && decide ((ds.length : Int) ≤ 4)) && ds.all (isTreeB 2)
  | _ => false
def rSome : List D → D → Prop := fun ds d => ∃ v : D, ds = [v] ∧ Sc 60 v ∧ wA [v] < 1000000 ∧ d = .bl (isBandB v)
theorem all_getD (xs : List D) (p : D → Bool) : ((List.range xs.length).all fun i => p (xs.getD i .non)) = xs.all p := by
  rw [Bool.eq_iff_iff, List.all_eq_true, List.all_eq_true]
  constructor
  · intro h d hd
    obtain ⟨i, hi, rfl⟩ := List.getElem_of_mem hd
    have := h i (List.mem_range.mpr hi)
    rw [List.getD_eq_getElem?_getD, List.getElem?_eq_getElem hi] at this
    exact this
  · intro h i hi
    have hi := List.mem_range.mp hi
    rw [List.getD_eq_getElem?_getD, List.getElem?_eq_getElem hi]
    exact h _ (List.getElem_mem hi)
theorem getD_memD {xs : List D} {i : Nat} (hi : i < xs.length) : xs.getD i .non ∈ xs := by
  rw [List.getD_eq_getElem?_getD, List.getElem?_eq_getElem hi]
  exact List.getElem_mem hi
structure Tb (base : Heap) (mg : Str → Option Value) (T : Addr → Prop) (c : Addr) : Prop where
  ex : ∃ Pt, GxR.TabB base mg c Pt ∧ T Pt
theorem noTup {v : D} (h : ¬ ∃ ds, v = .tup ds) : v.isTup = false ∧ (∀ n, isLRow n v = false) ∧ (∀ n, isLSq n v = false) ∧ (∀ n, isLeafB n v = false) ∧ (∀ k, isSplitB k v = false) ∧ isBandB v = false := by
  refine ⟨?_, fun n => ?_, fun n => ?_, fun n => isLeafB_n fun ds e => absurd ⟨ds, e⟩ h, fun k => isSplitB_n fun t ps e => h ⟨_, e⟩, ?_⟩
  all_goals (cases v <;> first | rfl | exact absurd ⟨_, rfl⟩ h)
theorem fine_mem {v : D} {ds : List D} (h : Sc 60 (.tup ds)) (hw : wA [D.tup ds] < 1000000) (hv : v ∈ ds) : Sc 60 v ∧ wA [v] < 1000000 := by
  refine ⟨(h.tup v hv).mono (by decide), ?_⟩
  have := wA_mem hv
  rw [wA_cons, w_tup] at hw
  rw [wA_cons, wA_nil]
  omega
theorem fine_len {ds : List D} (hw : wA [D.tup ds] < 1000000) : ds.length < 1000000 := by
  have := wA_len ds
  rw [wA_cons, w_tup] at hw
  omega
section
variable {P : Program} {w : World} {K : Fg} {mg : Str → Option Value} {base : Heap} {T : Addr → Prop}
theorem shp3 (a b c : Int) : Shp (.tup [.int a, .int b, .int c]) := ⟨rfl, rfl⟩
theorem shp_modes : Shp (.tup (modes5.map D.str)) := ⟨rfl, by decide +kernel⟩
theorem ok_told {f : Addr} {fd : FuncData} (F : Fun K "is_told_prediction" "is_told_prediction" sTold f fd) {t1 t2 : Tok} {am : Addr} (mslots : mg "SLOTS" = some (.int 3 t1)) (mmot : mg "MOST_MOTION" = some (.int 31 t2)) (mmodes : mg "MODES" = some (.ref am)) (hmodes : ∀ G, SqT K G am (modes5.map V.str))
    (GN : Fn P w K mg base 3 "is_number_below" (det rNum) T) (GW : Fn P w K mg base 2 "is_integer_within" (det rWith) T) : FnOk P w K mg base CX0 4 f fd ["mode", "slot", "dy", "dx"] (spD K (det rTold) T) := by
  refine fn_okd F scTold (fun ds d h => ?_) (fun cdv A outer s H E hr ds d h => ?_)
  · obtain ⟨_, _, _, _, rfl, _⟩ := h
    rfl
  · obtain ⟨m, s, a, b, rfl, hz, rfl⟩ := h
    have hm := hz m (by simp); have hs := hz s (by simp); have ha := hz a (by simp); have hb := hz b (by simp)
    refine jb_ifx (jt_not (jt_val (je_call GN (ja_cons (je_v 1) (ja_cons (je_globI mslots) ja_nil)) ⟨_, _, rfl, hs.flat, rfl⟩))) (fun hk => jb_ret je_bl ?_) fun hk => ?_
    · have e : isNum 3 s = false := by simpa using hk
      unfold told; rw [e]; rfl
    have e1 : isNum 3 s = true := by simpa using hk
    refine jb_ifx (jt_w (jw_or (jt_not (jt_val (je_call GW (ja_cons (je_v 2) (ja_cons (je_globI mmot) ja_nil)) ⟨_, _, rfl, ha.flat, rfl⟩))) fun _ => jw_or1 (jt_not (jt_val (je_call GW (ja_cons (je_v 3) (ja_cons (je_globI mmot) ja_nil)) ⟨_, _, rfl, hb.flat, rfl⟩))))) (fun hk => jb_ret je_bl ?_) fun hk => ?_
    · have e : (isW 31 a && isW 31 b) = false := by
        revert hk
        cases isW 31 a <;> cases isW 31 b <;> simp
      unfold told; rw [e, Bool.false_and, Bool.and_false]
    have e2 : (isW 31 a && isW 31 b) = true := by
      revert hk
      cases isW 31 a <;> cases isW 31 b <;> simp
    obtain ⟨si, rfl⟩ : ∃ i, s = .int i := by
      cases s <;> first | exact ⟨_, rfl⟩ | (cases e1)
    obtain ⟨ai, rfl⟩ : ∃ i, a = .int i := by
      cases a <;> first | exact ⟨_, rfl⟩ | (cases e2)
    obtain ⟨bi, rfl⟩ : ∃ i, b = .int i := by
      cases b <;> first | exact ⟨_, rfl⟩ | (rw [Bool.and_comm] at e2; cases e2)
    refine jb_ret (je_or (k := eqS "motion" m) (l := isStrIn modes5 m && zero3 (.int si) (.int ai) (.int bi)) ((je_eqD (je_v 0) je_str hm.shp (shpS _)).is (congrArg D.bl (eqv_str hm.pl _))) fun _ => je_one (je_and ((je_inDT (ds := modes5.map D.str) (je_v 0) (je_globT mmodes hmodes fun G => .cons (.str _) (.cons (.str _) (.cons (.str _) (.cons (.str _) (.cons (.str _) .nil))))) hm.shp shp_modes).is (congrArg D.bl (anyEq_strs hm.pl _))) fun _ => je_one ((je_eqD (je_tup (ja_cons (je_v 1) (ja_cons (je_v 2) (ja_cons (je_v 3) ja_nil)))) (je_tup (ja_cons je_int (ja_cons je_int (ja_cons je_int ja_nil)))) (shp3 _ _ _) (shp3 _ _ _)).is (congrArg D.bl ?_)))) ?_
    · show (decide (si = 0) && (decide (ai = 0) && (decide (bi = 0) && true))) = _
      rw [Bool.and_true]
      rfl
    · show D.bl _ = D.bl (told _ _ _ _)
      unfold told
      rw [e1, e2, Bool.true_and, Bool.true_and]
theorem ok_lrow {f c : Addr} {fd : FuncData} (F : FunC K "is_row_of_levels" "is_row_of_levels" sLRow f c fd) (B : Tb base mg T c) (misi : mg "isinstance" = none) (mtuple : mg "tuple" = none) (mlen : mg "len" = none) (mall : mg "all" = none) {t : Tok} (mlim : mg "MOST_LEVEL" = some (.int 2000 t)) (GW : Fn P w K mg base 2 "is_integer_within" (det rWith) T) :
    FnOk P w K mg base CX0 4 f fd ["value", "n"] (spD K (det rLRow) T) := by
  refine fn_okCd F scLRow (fun ds d h => ?_) (fun A outer s H E hr ds d h => ?_)
  · obtain ⟨_, _, rfl, _⟩ := h
    rfl
  · obtain ⟨v, n, rfl, hv, hw, rfl⟩ := h
    obtain ⟨Pt, TB, hT⟩ := B.ex
    by_cases h : ∃ xs, v = .tup xs
    · obtain ⟨xs, rfl⟩ := h
      refine jb_ifx (jt_w (jw_or (jt_not (jt_val (je_isTup (je_v 0)))) fun _ => jw_or1 (jt_ne (je_lenT (je_v 0)) (je_v 1)))) (fun hk => jb_ret je_bl ?_) fun hk => ?_
      · have e : ¬ (xs.length : Int) = (n : Int) := by simpa [D.isTup] using hk
        show D.bl false = D.bl (decide ((xs.length : Int) = (n : Int)) && xs.all (isW 2000))
        rw [decide_eq_false e]
        rfl
      · have e : (xs.length : Int) = (n : Int) := by simpa [D.isTup] using hk
        refine jb_ret (je_allT (xs := xs) (P := Pt) (fun d => d) .non 2 (fun i => isW 2000 (xs.getD i .non)) (Nat.le_of_ble_eq_true rfl) ((je_v 0).is (by rw [List.map_id'])) (fun i hi => ?_) (fun _ => ⟨c, TB, rfl⟩) hT (fun _ => gok_by (by kernel_rfl))) ?_
        · exact je_call GW (ja_cons (je_v 2) (ja_cons (je_globI mlim) ja_nil)) ⟨_, _, rfl, (fine_mem hv hw (getD_memD hi)).1.flat, rfl⟩
        · show D.bl _ = D.bl (decide ((xs.length : Int) = (n : Int)) && xs.all (isW 2000))
          rw [decide_eq_true e, Bool.true_and, all_getD]
    · obtain ⟨ht, hn, _⟩ := noTup h
      rw [hn]
      refine jb_ifx (jt_w (jw_or (l := false) (jt_not (jt_val (je_isTup (je_v 0) hv.flat))) fun hk => by rw [ht] at hk; cases hk)) (fun hk => jb_ret je_bl rfl) fun hk => by rw [ht] at hk; cases hk
theorem ok_lsq {f c : Addr} {fd : FuncData} (F : FunC K "is_square_of_levels" "is_square_of_levels" sLSq f c fd) (B : Tb base mg T c) (misi : mg "isinstance" = none) (mtuple : mg "tuple" = none) (mlen : mg "len" = none) (mall : mg "all" = none) (GR : Fn P w K mg base 4 "is_row_of_levels" (det rLRow) T) :
    FnOk P w K mg base CX0 6 f fd ["value", "n"] (spD K (det rLSq) T) := by
  refine fn_okCd F scLSq (fun ds d h => ?_) (fun A outer s H E hr ds d h => ?_)
  · obtain ⟨_, _, rfl, _⟩ := h
    rfl
  · obtain ⟨v, n, rfl, hv, hw, rfl⟩ := h
    obtain ⟨Pt, TB, hT⟩ := B.ex
    by_cases h : ∃ xs, v = .tup xs
    · obtain ⟨xs, rfl⟩ := h
      refine jb_ifx (jt_w (jw_or (jt_not (jt_val (je_isTup (je_v 0)))) fun _ => jw_or1 (jt_ne (je_lenT (je_v 0)) (je_v 1)))) (fun hk => jb_ret je_bl ?_) fun hk => ?_
      · have e : ¬ (xs.length : Int) = (n : Int) := by simpa [D.isTup] using hk
        show D.bl false = D.bl (decide ((xs.length : Int) = (n : Int)) && xs.all (isLRow n))
        rw [decide_eq_false e]
        rfl
      · have e : (xs.length : Int) = (n : Int) := by simpa [D.isTup] using hk
        refine jb_ret (je_allT (xs := xs) (P := Pt) (fun d => d) .non 2 (fun i => isLRow n (xs.getD i .non)) (Nat.le_of_ble_eq_true rfl) ((je_v 0).is (by rw [List.map_id'])) (fun i hi => ?_) (fun _ => ⟨c, TB, rfl⟩) hT (fun _ => gok_by (by kernel_rfl))) ?_
        · have := fine_mem hv hw (getD_memD hi)
          exact je_call GR (ja_cons (je_v 2) (ja_cons (je_v 1) ja_nil)) ⟨_, _, rfl, this.1, this.2, rfl⟩
        · show D.bl _ = D.bl (decide ((xs.length : Int) = (n : Int)) && xs.all (isLRow n))
          rw [decide_eq_true e, Bool.true_and, all_getD]
    · obtain ⟨ht, _, hn, _⟩ := noTup h
      rw [hn]
      refine jb_ifx (jt_w (jw_or (l := false) (jt_not (jt_val (je_isTup (je_v 0) hv.flat))) fun hk => by rw [ht] at hk; cases hk)) (fun hk => jb_ret je_bl rfl) fun hk => by rw [ht] at hk; cases hk
theorem at_0 {x : D} {r : List D} : atI (x :: r) 0 = some x := atI_nat (j := 0) (xs := x :: r) rfl
theorem at_1 {x y : D} {r : List D} : atI (x :: y :: r) 1 = some y := atI_nat (j := 1) (xs := x :: y :: r) rfl
theorem len7 {ds : List D} (h : ds.length = 7) : ∃ t m s a b q l, ds = [t, m, s, a, b, q, l] := by
  match ds, h with
  | [t, m, s, a, b, q, l], _ => exact ⟨t, m, s, a, b, q, l, rfl⟩
theorem len2 {ds : List D} (h : ds.length = 2) : ∃ t p, ds = [t, p] := by
  match ds, h with
  | [t, p], _ => exact ⟨t, p, rfl⟩
theorem ok_isLeaf {f : Addr} {fd : FuncData} (F : Fun K "is_leaf" "is_leaf" sIsLeaf f fd) (misi : mg "isinstance" = none) (mtuple : mg "tuple" = none) (mlen : mg "len" = none) {t1 : Tok} {aq : Addr} (mparts : mg "PARTS_OF_LEAF" = some (.int 7 t1)) (mq : mg "QUANTA" = some (.ref aq)) (hq : ∀ G, SqT K G aq (quanta.map V.int))
    (GI : Fn P w K mg base 1 "is_integer" (det rInt) T) (GT : Fn P w K mg base 4 "is_told_prediction" (det rTold) T) (GS : Fn P w K mg base 6 "is_square_of_levels" (det rLSq) T) : FnOk P w K mg base CX0 7 f fd ["value", "n"] (spD K (det rIsLeaf) T) := by
  refine fn_okd F scIsLeaf (fun ds d h => ?_) (fun cdv A outer s H E hr ds d h => ?_)
  · obtain ⟨_, _, rfl, _⟩ := h
    rfl
  · obtain ⟨v, n, rfl, hv, hw, rfl⟩ := h
    by_cases h : ∃ xs, v = .tup xs
    · obtain ⟨xs, rfl⟩ := h
      by_cases hl : xs.length = 7
      · obtain ⟨t, m, s, a, b, q, l, rfl⟩ := len7 hl
        have fm : ∀ z ∈ [t, m, s, a, b, q, l], Sc 60 z ∧ wA [z] < 1000000 := fun z hz => fine_mem hv hw hz
        have ht := (fm t (by simp)).1
        refine jb_ifx (k := !eqS "leaf" t) (JT.is (jt_w (jw_or (jt_not (jt_val (je_isTup (je_v 0)))) fun _ => jw_or (jt_ne (je_lenT (je_v 0)) (je_globI mparts)) fun _ => jw_or1 ((jt_neD (je_ixT (je_v 0) je_int at_0) je_str ht.shp (shpS _)).is (congrArg Bool.not (eqv_str ht.pl _))))) rfl) (fun hk => jb_ret je_bl ?_) fun hk => ?_
        · have e : eqS "leaf" t = false := by simpa using hk
          show D.bl false = D.bl (eqS "leaf" t && _)
          rw [e]; rfl
        have e1 : eqS "leaf" t = true := by simpa using hk
        refine jb_un7 2 3 4 5 6 7 8 (je_v 0) ?_
        refine jb_ifx (jt_not (jt_val (je_call GT (ja_cons (je_v 3) (ja_cons (je_v 4) (ja_cons (je_v 5) (ja_cons (je_v 6) ja_nil)))) ⟨_, _, _, _, rfl, fun z hz => (fm z (by simp at hz; simp; rcases hz with h | h | h | h <;> simp [h])).1, rfl⟩))) (fun hk => jb_ret je_bl ?_) fun hk => ?_
        · have e : told m s a b = false := by simpa using hk
          show D.bl false = D.bl (eqS "leaf" t && (told m s a b && _))
          rw [e, Bool.false_and, Bool.and_false]
        have e2 : told m s a b = true := by simpa using hk
        have hqf := fm q (by simp)
        have hlf := fm l (by simp)
        by_cases hi : ∃ i, q = .int i
        · obtain ⟨i, rfl⟩ := hi
          refine jb_ret (je_and (k := true) (l := decide (i ∈ quanta) && isLSq n l) (je_call GI (ja_cons (je_v 7) ja_nil) ⟨_, rfl, rfl, rfl⟩) fun _ => je_and (je_inT (je_v 7) (je_globT mq hq fun G => dqAll_ints quanta)) fun _ => je_one (je_call GS (ja_cons (je_v 8) (ja_cons (je_v 1) ja_nil)) ⟨_, _, rfl, hlf.1, hlf.2, rfl⟩)) ?_
          show D.bl _ = D.bl (eqS "leaf" t && (told m s a b && (isQ (.int i) && isLSq n l)))
          rw [e1, e2]
          rfl
        · have e3 := (noInt hi).1
          refine jb_ret (je_and (k := isI q) (l := false) (je_call GI (ja_cons (je_v 7) ja_nil) ⟨_, rfl, hqf.1.flat, rfl⟩) fun hk => by rw [e3] at hk; cases hk) ?_
          show D.bl _ = D.bl (eqS "leaf" t && (told m s a b && (isQ q && isLSq n l)))
          have e4 : isQ q = false := by cases q <;> first | rfl | exact absurd ⟨_, rfl⟩ hi
          simp [e3, e4]
      · rw [isLeafB_n fun ds e => by cases e; exact hl]
        refine jb_ifx (k := true) (JT.is (jt_w (jw_or (jt_not (jt_val (je_isTup (je_v 0)))) fun _ => jw_or (l := false) (jt_ne (je_lenT (je_v 0)) (je_globI mparts)) fun hk => ?_)) ?_) (fun _ => jb_ret je_bl rfl) fun hk => by cases hk
        · exact absurd (by simpa using hk) (show ¬ (xs.length : Int) = 7 by omega)
        · rw [decide_eq_false (show ¬ (xs.length : Int) = 7 by omega)]
          rfl
    · obtain ⟨ht, _, _, hn, _⟩ := noTup h
      rw [hn]
      refine jb_ifx (jt_w (jw_or (l := false) (jt_not (jt_val (je_isTup (je_v 0) hv.flat))) fun hk => by rw [ht] at hk; cases hk)) (fun hk => jb_ret je_bl rfl) fun hk => by rw [ht] at hk; cases hk
theorem sz_ne (k : Nat) : ¬ ((sz (k + 1) : Nat) : Int) = 2 := by
  unfold sz
  have : 2 ^ (k + 1 + 1) = 2 ^ k * 4 := by rw [Nat.pow_succ, Nat.pow_succ]; omega
  have : 0 < 2 ^ k := Nat.pow_pos (by decide)
  omega
theorem sz_half (k : Nat) : ((sz (k + 1) : Nat) : Int) / 2 = ((sz k : Nat) : Int) := by
  unfold sz
  rw [Nat.pow_succ 2 (k + 1)]
  omega
theorem ok_isSplit0 {f c : Addr} {fd : FuncData} (F : FunC K "is_split" "is_split" sIsSplit f c fd) {t1 : Tok} (mleast : mg "LEAST" = some (.int 2 t1)) : FnOk P w K mg base CX0 1 f fd ["value", "n"] (spD K (det (rIsSplit 0)) T) := by
  refine fn_okCd F scIsSplit (fun ds d h => ?_) (fun A outer s H E hr ds d h => ?_)
  · obtain ⟨_, rfl, _⟩ := h
    rfl
  · obtain ⟨v, rfl, hv, hw, rfl⟩ := h
    rw [isSplitB_0]
    exact jb_ifx (k := true) (JT.is (jt_w (jw_or (l := false) (jt_eq (je_v 1) (je_globI mleast)) fun hk => by cases hk)) rfl) (fun _ => jb_ret je_bl rfl) fun hk => by cases hk
def quartersD : List D := [.tup [.int 0, .int 0], .tup [.int 0, .int 1], .tup [.int 1, .int 0], .tup [.int 1, .int 1]]
/-- the module's constant of quarters -/
structure Qua (K : Fg) (mg : Str → Option Value) : Prop where
  ex : ∃ (a : Addr) (vs : List V), mg "QUARTERS" = some (.ref a) ∧ (∀ G, SqT K G a vs) ∧ ∀ G, DqAll K G vs quartersD
structure Tup2 (K : Fg) (a : Addr) (x y : Int) : Prop where
  ex : ∀ G, SqT K G a [.int x, .int y]
theorem tup2_mk {K : Fg} {a : Addr} {o : Obj} {n : Nat} {x y : Int} {t u : Tok} (l : K.lookup a = some o) (c : o.cls = .type "tuple") (d : o.data = .seq #[.int x t, .int y u] n) : Tup2 K a x y :=
  ⟨fun G => .inr ⟨o, #[.int x t, .int y u], n, l, c, d, by show 2 ≤ sizeLine; decide, .cons ⟨_, rfl⟩ (.cons ⟨_, rfl⟩ .nil)⟩⟩
theorem qua_mk {K : Fg} {mg : Str → Option Value} {a a1 a2 a3 a4 : Addr} {o : Obj} {n : Nat} (h : mg "QUARTERS" = some (.ref a)) (l : K.lookup a = some o) (c : o.cls = .type "tuple") (d : o.data = .seq #[.ref a1, .ref a2, .ref a3, .ref a4] n)
    (t1 : Tup2 K a1 0 0) (t2 : Tup2 K a2 0 1) (t3 : Tup2 K a3 1 0) (t4 : Tup2 K a4 1 1) : Qua K mg :=
  ⟨a, [.ref a1, .ref a2, .ref a3, .ref a4], h, fun G => .inr ⟨o, #[.ref a1, .ref a2, .ref a3, .ref a4], n, l, c, d, by show 4 ≤ sizeLine; decide, .cons rfl (.cons rfl (.cons rfl (.cons rfl .nil)))⟩,
    fun G => .cons (.tup (t1.ex G) (.cons (.int _) (.cons (.int _) .nil))) (.cons (.tup (t2.ex G) (.cons (.int _) (.cons (.int _) .nil))) (.cons (.tup (t3.ex G) (.cons (.int _) (.cons (.int _) .nil))) (.cons (.tup (t4.ex G) (.cons (.int _) (.cons (.int _) .nil))) .nil)))⟩
theorem ok_isSplit {f c : Addr} {fd : FuncData} (k lv : Nat) (F : FunC K "is_split" "is_split" sIsSplit f c fd) (B : Tb base mg T c) (misi : mg "isinstance" = none) (mtuple : mg "tuple" = none) (mlen : mg "len" = none) (mall : mg "all" = none) {t1 : Tok} (mleast : mg "LEAST" = some (.int 2 t1)) (mqua : Qua K mg) (GT : Fn P w K mg base lv "is_tree" (det (rIsTree k)) T) :
    FnOk P w K mg base CX0 (lv + 2) f fd ["value", "n"] (spD K (det (rIsSplit (k + 1))) T) := by
  refine fn_okCd F scIsSplit (fun ds d h => ?_) (fun A outer s H E hr ds d h => ?_)
  · obtain ⟨_, rfl, _⟩ := h
    rfl
  · obtain ⟨v, rfl, hv, hw, rfl⟩ := h
    obtain ⟨Pt, TB, hT⟩ := B.ex
    obtain ⟨aq, vq, mq, hq1, hq2⟩ := mqua.ex
    have n2 := sz_ne k
    by_cases h : ∃ xs, v = .tup xs
    · obtain ⟨xs, rfl⟩ := h
      by_cases hl : xs.length = 2
      · obtain ⟨t, p, rfl⟩ := len2 hl
        have ft := fine_mem hv hw (v := t) (by simp)
        have fp := fine_mem hv hw (v := p) (by simp)
        refine jb_ifx (k := !eqS "split" t) (JT.is (jt_w (jw_or (k := decide (((sz (k + 1) : Nat) : Int) = 2)) (jt_eq (je_v 1) (je_globI mleast)) fun _ => jw_or (jt_not (jt_val (je_isTup (je_v 0)))) fun _ => jw_or (jt_ne (je_lenT (je_v 0)) je_int) fun _ => jw_or1 ((jt_neD (je_ixT (je_v 0) je_int at_0) je_str ft.1.shp (shpS _)).is (congrArg Bool.not (eqv_str ft.1.pl _))))) (by rw [decide_eq_false n2]; rfl)) (fun hk => jb_ret je_bl ?_) fun hk => ?_
        · have e : eqS "split" t = false := by simpa using hk
          show D.bl false = D.bl (isSplitB (k + 1) (.tup [t, p]))
          by_cases hp : ∃ ps, p = .tup ps
          · obtain ⟨ps, rfl⟩ := hp
            rw [isSplitB_s, e]; rfl
          · rw [isSplitB_n fun t' ps e => by cases e; exact hp ⟨_, rfl⟩]
        have e1 : eqS "split" t = true := by simpa using hk
        refine jb_set 2 (je_ixT (je_v 0) je_int at_1) ?_
        by_cases hp : ∃ ps, p = .tup ps
        · obtain ⟨ps, rfl⟩ := hp
          rw [isSplitB_s, e1, Bool.true_and]
          refine jb_ifx (jt_w (jw_or (jt_not (jt_val (je_isTup (je_v 2)))) fun _ => jw_or1 (jt_ne (je_lenT (je_v 2)) ((je_lenT (ds := quartersD) (je_globT mq hq1 hq2)).is (show D.int _ = D.int 4 from rfl))))) (fun hk => jb_ret je_bl ?_) fun hk => ?_
          · have e : ¬ (ps.length : Int) = 4 := by simpa [D.isTup] using hk
            rw [decide_eq_false (show ¬ ps.length = 4 by omega)]
            rfl
          · have e : (ps.length : Int) = 4 := by simpa [D.isTup] using hk
            refine jb_ret (je_allT (xs := ps) (P := Pt) (fun d => d) .non 3 (fun i => isTreeB k (ps.getD i .non)) (Nat.le_of_ble_eq_true rfl) ((je_v 2).is (by rw [List.map_id'])) (fun i hi => ?_) (fun _ => ⟨c, TB, rfl⟩) hT (fun _ => gok_by (by kernel_rfl))) ?_
            · have := fine_mem fp.1 fp.2 (getD_memD hi)
              exact je_call GT (ja_cons (je_v 3) (ja_cons ((je_fdiv (je_v 1) je_int).is (congrArg D.int (sz_half k))) ja_nil)) ⟨_, rfl, this.1, this.2, rfl⟩ (Nat.le_refl lv)
            · show D.bl _ = D.bl (decide (ps.length = 4) && ps.all (isTreeB k))
              rw [decide_eq_true (show ps.length = 4 by omega), Bool.true_and, all_getD]
        · rw [isSplitB_n fun t' ps e => by cases e; exact hp ⟨_, rfl⟩]
          have ht := (noTup hp).1
          exact jb_ifx (jt_w (jw_or (l := false) (jt_not (jt_val (je_isTup (je_v 2) fp.1.flat))) fun hk => by rw [ht] at hk; cases hk)) (fun hk => jb_ret je_bl rfl) fun hk => by rw [ht] at hk; cases hk
      · rw [isSplitB_n fun t' ps e => by cases e; exact hl rfl]
        refine jb_ifx (k := true) (JT.is (jt_w (jw_or (k := decide (((sz (k + 1) : Nat) : Int) = 2)) (jt_eq (je_v 1) (je_globI mleast)) fun _ => jw_or (jt_not (jt_val (je_isTup (je_v 0)))) fun _ => jw_or (l := false) (jt_ne (je_lenT (je_v 0)) je_int) fun hk => ?_)) ?_) (fun _ => jb_ret je_bl rfl) fun hk => by cases hk
        · exact absurd (by simpa using hk) (show ¬ (xs.length : Int) = 2 by omega)
        · rw [decide_eq_false n2, decide_eq_false (show ¬ (xs.length : Int) = 2 by omega)]
          rfl
    · obtain ⟨ht, _, _, _, hn, _⟩ := noTup h
      rw [hn]
      exact jb_ifx (k := true) (JT.is (jt_w (jw_or (k := decide (((sz (k + 1) : Nat) : Int) = 2)) (jt_eq (je_v 1) (je_globI mleast)) fun _ => jw_or (l := false) (jt_not (jt_val (je_isTup (je_v 0) hv.flat))) fun hk => by rw [ht] at hk; cases hk)) (by rw [decide_eq_false n2, ht]; rfl)) (fun hk => jb_ret je_bl rfl) fun hk => by cases hk
theorem ok_isTree {f : Addr} {fd : FuncData} (k lv : Nat) (h7 : 7 ≤ lv) (F : Fun K "is_tree" "is_tree" sIsTree f fd) (GL : Fn P w K mg base 7 "is_leaf" (det rIsLeaf) T) (GS : Fn P w K mg base lv "is_split" (det (rIsSplit k)) T) : FnOk P w K mg base CX0 (lv + 1) f fd ["value", "n"] (spD K (det (rIsTree k)) T) := by
  refine fn_okd F scIsTree (fun ds d h => ?_) (fun cdv A outer s H E hr ds d h => ?_)
  · obtain ⟨_, rfl, _⟩ := h
    rfl
  · obtain ⟨v, rfl, hv, hw, rfl⟩ := h
    rw [isTreeB_eq]
    exact jb_ret (je_or (je_call GL (ja_cons (je_v 0) (ja_cons (je_v 1) ja_nil)) ⟨_, _, rfl, hv, hw, rfl⟩ h7) fun _ => je_one (je_call GS (ja_cons (je_v 0) (ja_cons (je_v 1) ja_nil)) ⟨_, rfl, hv, hw, rfl⟩ (Nat.le_refl lv))) rfl
theorem ok_some {f c : Addr} {fd : FuncData} (F : FunC K "is_some_band_tree" "is_some_band_tree" sSome f c fd) (B : Tb base mg T c) (misi : mg "isinstance" = none) (mtuple : mg "tuple" = none) (mlen : mg "len" = none) (mall : mg "all" = none) {t1 t2 : Tok} (mblock : mg "BLOCK" = some (.int 8 t1)) (mmost : mg "MOST_BLOCKS" = some (.int 4 t2)) (GT : Fn P w K mg base 14 "is_tree" (det (rIsTree 2)) T) :
    FnOk P w K mg base CX0 16 f fd ["value"] (spD K (det rSome) T) := by
  refine fn_okCd F scSome (fun ds d h => ?_) (fun A outer s H E hr ds d h => ?_)
  · obtain ⟨_, rfl, _⟩ := h
    rfl
  · obtain ⟨v, rfl, hv, hw, rfl⟩ := h
    obtain ⟨Pt, TB, hT⟩ := B.ex
    by_cases h : ∃ xs, v = .tup xs
    · obtain ⟨xs, rfl⟩ := h
      refine jb_ifx (jt_w (jw_or (jt_not (jt_val (je_isTup (je_v 0)))) fun _ => jw_or1 (jt_not (jt_leLe je_int (je_lenT (je_v 0)) (je_globI mmost))))) (fun hk => jb_ret je_bl ?_) fun hk => ?_
      · have e : (decide ((1 : Int) ≤ (xs.length : Int)) && decide ((xs.length : Int) ≤ 4)) = false := by
          simp only [D.isTup, Bool.not_true, Bool.false_or, Bool.not_eq_true'] at hk
          exact hk
        show D.bl false = D.bl ((decide ((1 : Int) ≤ (xs.length : Int)) && decide ((xs.length : Int) ≤ 4)) && xs.all (isTreeB 2))
        rw [e]
        rfl
      · have e : (decide ((1 : Int) ≤ (xs.length : Int)) && decide ((xs.length : Int) ≤ 4)) = true := by
          simp only [D.isTup, Bool.not_true, Bool.false_or, Bool.not_eq_false'] at hk
          exact hk
        refine jb_ret (je_allT (xs := xs) (P := Pt) (fun d => d) .non 1 (fun i => isTreeB 2 (xs.getD i .non)) (Nat.le_of_ble_eq_true rfl) ((je_v 0).is (by rw [List.map_id'])) (fun i hi => ?_) (fun _ => ⟨c, TB, rfl⟩) hT (fun _ => gok_by (by kernel_rfl))) ?_
        · have := fine_mem hv hw (getD_memD hi)
          exact je_call GT (ja_cons (je_v 1) (ja_cons (je_globI mblock) ja_nil)) ⟨_, rfl, this.1, this.2, rfl⟩
        · show D.bl _ = D.bl ((decide ((1 : Int) ≤ (xs.length : Int)) && decide ((xs.length : Int) ≤ 4)) && xs.all (isTreeB 2))
          rw [e, Bool.true_and, all_getD]
    · obtain ⟨ht, _, _, _, _, hn⟩ := noTup h
      rw [hn]
      exact jb_ifx (jt_w (jw_or (l := false) (jt_not (jt_val (je_isTup (je_v 0) hv.flat))) fun hk => by rw [ht] at hk; cases hk)) (fun hk => jb_ret je_bl rfl) fun hk => by rw [ht] at hk; cases hk
end

end T15

set_option maxHeartbeats 4000000
namespace T15
open PySem PySem.Spec PyProof.Rows L2 Qp
/-! ### the law's own look at trees -/
theorem scLInt : FnScope ["value"] ["value"] (defScope sLInt) := ⟨rfl, rfl, rfl, by decide +kernel, rfl, by decide +kernel, by decide +kernel⟩
theorem scLLeafQ : FnScope ["value", "n", "part", "slot", "dy", "dx", "q", "row", "level"] ["value", "n"] (defScope sLLeafQ) := ⟨rfl, rfl, rfl, by decide +kernel, rfl, by decide +kernel, by decide +kernel⟩
theorem scLTreeQ : FnScope ["value", "n", "part"] ["value", "n"] (defScope sLTreeQ) := ⟨rfl, rfl, rfl, by decide +kernel, rfl, by decide +kernel, by decide +kernel⟩
theorem scLBandQ : FnScope ["value", "blocks", "tree"] ["value", "blocks"] (defScope sLBandQ) := ⟨rfl, rfl, rfl, by decide +kernel, rfl, by decide +kernel, by decide +kernel⟩
def rLLeafQ : List D → D → Prop := fun ds d => ∃ (t : Str) (r : List D) (n : Nat), ds = [.tup (.str t :: r), .int n] ∧ Sc 60 (.tup (.str t :: r)) ∧ wA [.tup (.str t :: r)] < 1000000 ∧ d = .bl (isLeafB n (.tup (.str t :: r)))
def isBlocks (n : Int) : D → Bool
  | .tup ds => decide ((ds.length : Int) = n) && ((decide (1 ≤ n) && decide (n ≤ 4)) && ds.all (isTreeB 2))
  | _ => false
def rLBandQ : List D → D → Prop := fun ds d => ∃ (v : D) (n : Int), ds = [v, .int n] ∧ Sc 60 v ∧ wA [v] < 1000000 ∧ d = .bl (isBlocks n v)
theorem leafB_eq (n : Nat) (t : Str) (m s a b q l : D) : isLeafB n (.tup [.str t, m, s, a, b, q, l]) = (decide (t = "leaf") && (told m s a b && (isQ q && isLSq n l))) := rfl
theorem all_no {p : D → Bool} {ds : List D} {d : D} (hm : d ∈ ds) (h : p d = false) : ds.all p = false := by
  rw [List.all_eq_false]
  exact ⟨d, hm, by rw [h]; exact Bool.false_ne_true⟩
theorem noStr {m : D} (h : m.isStr = false) : (∀ s, eqS s m = false) ∧ ∀ ss, isStrIn ss m = false := by
  have h1 : ∀ s, eqS s m = false := fun s => by cases m <;> first | rfl | (cases h)
  refine ⟨h1, fun ss => ?_⟩
  unfold isStrIn
  rw [List.any_eq_false]
  intro s _
  rw [h1]
  exact Bool.false_ne_true
theorem isStrIn_eq (ss : List Str) (x : Str) : isStrIn ss (.str x) = decide (x ∈ ss) := by
  unfold isStrIn
  rw [Bool.eq_iff_iff, List.any_eq_true, decide_eq_true_iff]
  constructor
  · rintro ⟨s, hs, e⟩
    rw [of_decide_eq_true e]
    exact hs
  · intro h
    exact ⟨x, h, decide_eq_true rfl⟩
section
variable {P : Program} {w : World} {K : Fg} {mg : Str → Option Value} {base : Heap} {T : Addr → Prop}
theorem ok_lInt {f : Addr} {fd : FuncData} (F : Fun K "_law_is_integer" "_law_is_integer" sLInt f fd) (misi : mg "isinstance" = none) (mint : mg "int" = none) (mbool : mg "bool" = none) : FnOk P w K mg base CX0 1 f fd ["value"] (spD K (det rInt) T) := by
  refine fn_okd F scLInt (fun ds d h => ?_) (fun cdv A outer s H E hr ds d h => ?_)
  · obtain ⟨_, rfl, _⟩ := h
    rfl
  · obtain ⟨v, rfl, hf, rfl⟩ := h
    rw [← isI_eq hf]
    exact jb_ret (je_and (je_isInt (je_v 0) hf) fun h1 => je_one (je_not (je_isBool (je_v 0) hf))) rfl
theorem isI_ex {v : D} (h : isI v = true) : ∃ i, v = .int i := by
  cases v <;> first | exact ⟨_, rfl⟩ | (cases h)
theorem told_int {m s a b : D} (h : isI s = false ∨ isI a = false ∨ isI b = false) : told m s a b = false := by
  have no : ∀ {v : D} {l : Int}, isI v = false → isNum l v = false ∧ isW l v = false := fun {v l} z => by
    cases v <;> first | exact ⟨rfl, rfl⟩ | (cases z)
  unfold told
  rcases h with h | h | h
  · rw [(no h).1]; rfl
  · rw [(no h).2]; simp
  · rw [(no h).2]; simp
theorem ok_lLeafQ {f : Addr} {fd : FuncData} (F : Fun K "_law_is_leaf" "_law_is_leaf" sLLeafQ f fd) (misi : mg "isinstance" = none) (mtuple : mg "tuple" = none) (mstr : mg "str" = none) (mlen : mg "len" = none) (mabs : mg "abs" = none) (GI : Fn P w K mg base 1 "_law_is_integer" (det rInt) T) :
    FnOk P w K mg base CX0 2 f fd ["value", "n"] (spD K (det rLLeafQ) T) := by
  refine fn_okd F scLLeafQ (fun ds d h => ?_) (fun cdv A outer s H E hr ds d h => ?_)
  · obtain ⟨_, _, _, rfl, _⟩ := h
    rfl
  · obtain ⟨t, r, n, rfl, hv, hw, rfl⟩ := h
    by_cases hl : (D.str t :: r).length = 7
    · obtain ⟨t', m, s, a, b, q, l, e⟩ := len7 hl
      cases e
      have fm : ∀ z ∈ [D.str t, m, s, a, b, q, l], Sc 60 z ∧ wA [z] < 1000000 := fun z hz => fine_mem hv hw hz
      have hm := (fm m (by simp)).1
      rw [leafB_eq]
      generalize hB : (decide (t = "leaf") && (told m s a b && (isQ q && isLSq n l))) = B
      refine jb_ifx (k := !decide (t = "leaf") || !m.isStr) (JT.is (jt_w (jw_or (jt_ne (je_lenT (je_v 0)) je_int) fun _ => jw_or (jt_neS (je_ixT (je_v 0) je_int at_0) je_str) fun _ => jw_or1 (jt_not (jt_val (je_isStr (je_ixT (je_v 0) je_int at_1) hm.flat))))) rfl) (fun hk => jb_ret je_bl ?_) fun hk => ?_
      · show D.bl false = D.bl B
        rw [← hB]
        by_cases ht : t = "leaf"
        · have hs : m.isStr = false := by rw [decide_eq_true ht] at hk; simpa using hk
          have e1 := noStr hs
          unfold told
          rw [e1.1, e1.2]
          simp
        · rw [decide_eq_false ht]; rfl
      have ht : t = "leaf" := by
        by_cases z : t = "leaf"
        · exact z
        · rw [decide_eq_false z] at hk; cases hk
      have hs : m.isStr = true := by rw [decide_eq_true ht] at hk; simpa using hk
      obtain ⟨mm, rfl⟩ : ∃ x, m = .str x := by
        cases m <;> first | exact ⟨_, rfl⟩ | (cases hs)
      rw [decide_eq_true ht, Bool.true_and] at hB
      refine jb_ifx (jt_notInDL (ds := modes5.map D.str) (je_ixT (je_v 0) je_int at_1) (JE.new (jn_lst (ja_cons je_str (ja_cons je_str (ja_cons je_str (ja_cons je_str (ja_cons je_str ja_nil))))))) hm.shp ⟨rfl, by decide +kernel⟩) (fun hk => jb_ret je_bl ?_) fun hk => ?_
      · rw [anyEq_strs rfl] at hk
        have e : isStrIn modes5 (.str mm) = false := by
          rw [Bool.not_eq_true'] at hk
          exact hk
        have e2 : eqS "motion" (.str mm) = false := by
          rw [isStrIn_eq] at e
          have := of_decide_eq_false e
          exact decide_eq_false fun z => this (by rw [z]; decide)
        show D.bl false = D.bl B
        rw [← hB]
        unfold told
        rw [e, e2]
        simp
      have hmode : isStrIn modes5 (.str mm) = true := by
        rw [anyEq_strs rfl, Bool.not_eq_false'] at hk
        exact hk
      have cut : Qp.cutD [D.str t, .str mm, s, a, b, q, l] (some 2) (some 6) = [s, a, b, q] := rfl
      refine jb_cons (fun ls => ls = [.val (.tup [D.str t, .str mm, s, a, b, q, l]), .val (.int n), .any, .any, .any, .any, .any, .any, .any] ∧ ∀ z ∈ [s, a, b, q], isI z = true)
        (js_forT (ds := [s, a, b, q]) 2 (fun i ls => ls = [.val (.tup [D.str t, .str mm, s, a, b, q, l]), .val (.int n), .any, .any, .any, .any, .any, .any, .any] ∧ ∀ j z, j < i → [s, a, b, q][j]? = some z → isI z = true) ((je_sliceA (je_v 0) (jo_some je_int) (jo_some je_int)).is (congrArg D.tup cut)) ⟨rfl, fun _ _ h => absurd h (Nat.not_lt_zero _)⟩ ?_ fun ls h => ⟨h.1, fun z hz => ?_⟩) ?_
      · rintro i z _ hz ⟨rfl, ih⟩
        have hzm : z ∈ [s, a, b, q] := List.mem_of_getElem? hz
        have hzf := (fm z (by simp at hzm; simp; rcases hzm with h | h | h | h <;> simp [h])).1
        refine jb_ifx (jt_not (jt_val (je_call GI (ja_cons (je_v 2) ja_nil) ⟨_, rfl, hzf.flat, rfl⟩))) (fun hk => jb_ret je_bl ?_) fun hk => ?_
        · have e : isI z = false := by simpa using hk
          show D.bl false = D.bl B
          rw [← hB]
          simp only [List.mem_cons, List.not_mem_nil, or_false] at hzm
          rcases hzm with rfl | rfl | rfl | rfl
          · rw [told_int (Or.inl e)]; rfl
          · rw [told_int (Or.inr (Or.inl e))]; rfl
          · rw [told_int (Or.inr (Or.inr e))]; rfl
          · have e4 : isQ z = false := by cases z <;> first | rfl | (cases e)
            rw [e4]; simp
        · refine jb_end [2] ⟨rfl, fun j y hj hy => ?_⟩
          by_cases hji : j = i
          · subst hji
            rw [hz] at hy
            cases hy
            simpa using hk
          · exact ih j y (by omega) hy
      · obtain ⟨j, hj⟩ := List.getElem?_of_mem hz
        exact h.2 j z (List.getElem?_eq_some_iff.mp hj).1 hj
      rintro _ ⟨rfl, hints⟩
      obtain ⟨si, rfl⟩ := isI_ex (hints s (by simp))
      obtain ⟨ai, rfl⟩ := isI_ex (hints a (by simp))
      obtain ⟨bi, rfl⟩ := isI_ex (hints b (by simp))
      obtain ⟨qi, rfl⟩ := isI_ex (hints q (by simp))
      refine jb_un4 3 4 5 6 ((je_sliceA (je_v 0) (jo_some je_int) (jo_some je_int)).is (congrArg D.tup cut)) ?_
      have eq7 : anyEq (.int qi) (iL quanta) = decide (qi ∈ quanta) := anyEq_ints qi quanta
      refine jb_ifx (jt_w (jw_or (jt_lt (je_v 3) je_int) fun _ => jw_or (jt_gt (je_v 3) je_int) fun _ => jw_or (jt_gt (je_abs (je_v 4) mabs) je_int) fun _ => jw_or (jt_gt (je_abs (je_v 5) mabs) je_int) fun _ => jw_or1 ((jt_notInDL (ds := iL quanta) (je_v 6) (JE.new (jn_lst (ja_cons je_int (ja_cons je_int (ja_cons je_int (ja_cons je_int (ja_cons je_int (ja_cons je_int (ja_cons je_int ja_nil))))))))) ⟨rfl, rfl⟩ ⟨rfl, by decide +kernel⟩).is (congrArg Bool.not eq7)))) (fun hk => jb_ret je_bl ?_) fun hk => ?_
      · show D.bl false = D.bl B
        rw [← hB]
        have : told (.str mm) (.int si) (.int ai) (.int bi) = false ∨ isQ (.int qi) = false := by
          simp only [Bool.or_eq_true, decide_eq_true_eq, Bool.not_eq_true', decide_eq_false_iff_not] at hk
          have tt : ¬ (0 ≤ si ∧ si < 3 ∧ -31 ≤ ai ∧ ai ≤ 31 ∧ -31 ≤ bi ∧ bi ≤ 31) → told (.str mm) (.int si) (.int ai) (.int bi) = false := fun z => by
            unfold told isNum isW
            by_cases z1 : (decide (0 ≤ si) && decide (si < 3) && (decide (-31 ≤ ai) && decide (ai ≤ 31) && (decide (-31 ≤ bi) && decide (bi ≤ 31)))) = true
            · simp only [Bool.and_eq_true, decide_eq_true_eq] at z1
              exact absurd ⟨z1.1.1, z1.1.2, z1.2.1.1, z1.2.1.2, z1.2.2.1, z1.2.2.2⟩ z
            · simp only [Bool.not_eq_true] at z1
              rw [← Bool.and_assoc, z1, Bool.false_and]
          rcases hk with h | h | h | h | h
          · exact Or.inl (tt fun z => by omega)
          · exact Or.inl (tt fun z => by omega)
          · exact Or.inl (tt fun z => by omega)
          · exact Or.inl (tt fun z => by omega)
          · exact Or.inr (decide_eq_false h)
        rcases this with e | e
        · rw [e]; rfl
        · rw [e]; simp
      simp only [Bool.or_eq_false_iff, decide_eq_false_iff_not, Bool.not_eq_false', decide_eq_true_eq] at hk
      obtain ⟨k1, k2, k3, k4, k5⟩ := hk
      have e1 : (isNum 3 (.int si) && (isW 31 (.int ai) && isW 31 (.int bi))) = true := by
        unfold isNum isW
        simp only [Bool.and_eq_true, decide_eq_true_eq]
        omega
      have e2 : told (.str mm) (.int si) (.int ai) (.int bi) = (decide (mm = "motion") || zero3 (.int si) (.int ai) (.int bi)) := by
        unfold told
        rw [← Bool.and_assoc, e1, hmode, Bool.true_and, Bool.true_and]
        rfl
      rw [e2, show isQ (.int qi) = true from decide_eq_true k5, Bool.true_and] at hB
      refine jb_ifx (jt_w (jw_and (jt_neS (je_ixT (je_v 0) je_int at_1) je_str) fun _ => jw_and1 (jt_w (jw_or (jt_ne (je_v 3) je_int) fun _ => jw_or (jt_ne (je_v 4) je_int) fun _ => jw_or1 (jt_ne (je_v 5) je_int))))) (fun hk => jb_ret je_bl ?_) fun hk => ?_
      · show D.bl false = D.bl B
        rw [← hB]
        simp only [Bool.and_eq_true, Bool.not_eq_true', decide_eq_false_iff_not] at hk
        rw [decide_eq_false hk.1]
        have hz : zero3 (.int si) (.int ai) (.int bi) = false := by
          show (decide (si = 0) && (decide (ai = 0) && decide (bi = 0))) = false
          rw [Bool.and_eq_false_iff, Bool.and_eq_false_iff]
          simp only [decide_eq_false_iff_not]
          have := hk.2
          simp only [Bool.or_eq_true, Bool.not_eq_true', decide_eq_false_iff_not] at this
          exact this
        rw [hz]; rfl
      have e3 : (decide (mm = "motion") || zero3 (.int si) (.int ai) (.int bi)) = true := by
        by_cases z : mm = "motion"
        · rw [decide_eq_true z]; rfl
        · rw [decide_eq_false z] at hk
          simp only [Bool.not_false, Bool.true_and, Bool.or_eq_false_iff, Bool.not_eq_false', decide_eq_true_eq] at hk
          show (_ || (decide (si = 0) && (decide (ai = 0) && decide (bi = 0)))) = true
          rw [decide_eq_true hk.1, decide_eq_true hk.2.1, decide_eq_true hk.2.2, Bool.or_comm]
          rfl
      rw [e3, Bool.true_and] at hB
      have hlf := fm l (by simp)
      have at6 : atI [D.str t, .str mm, .int si, .int ai, .int bi, .int qi, l] 6 = some l := rfl
      by_cases hlt : ∃ rs, l = .tup rs
      · obtain ⟨rs, rfl⟩ := hlt
        have hB2 : (decide ((rs.length : Int) = (n : Int)) && rs.all (isLRow n)) = B := hB
        refine jb_ifx (jt_w (jw_or (jt_not (jt_val (je_isTup (je_ixT (je_v 0) je_int at6)))) fun _ => jw_or1 (jt_ne (je_lenT (je_ixT (je_v 0) je_int at6)) (je_v 1)))) (fun hk => jb_ret je_bl ?_) fun hk => ?_
        · have e : ¬ (rs.length : Int) = (n : Int) := by simpa [D.isTup] using hk
          show D.bl false = D.bl B
          rw [← hB2, decide_eq_false e]; rfl
        have e : (rs.length : Int) = (n : Int) := by simpa [D.isTup] using hk
        rw [decide_eq_true e, Bool.true_and] at hB2
        let base0 : List Qp.Loc := [.val (.tup [D.str t, .str mm, .int si, .int ai, .int bi, .int qi, .tup rs]), .val (.int n), .any, .val (.int si), .val (.int ai), .val (.int bi), .val (.int qi), .any, .any]
        refine jb_cons (fun ls => ∀ z ∈ rs, isLRow n z = true) (js_forT (ds := rs) 7 (fun i ls => ls = base0 ∧ ∀ j z, j < i → rs[j]? = some z → isLRow n z = true) (je_ixT (je_v 0) je_int at6) ⟨rfl, fun _ _ h => absurd h (Nat.not_lt_zero _)⟩ ?_ fun ls h z hz => ?_) ?_
        · rintro i z _ hz ⟨rfl, ih⟩
          have hzm : z ∈ rs := List.mem_of_getElem? hz
          have hzf := fine_mem hlf.1 hlf.2 hzm
          have out : isLRow n z = false → D.bl false = D.bl B := fun h => by rw [← hB2, all_no hzm h]
          by_cases hzt : ∃ vs, z = .tup vs
          · obtain ⟨vs, rfl⟩ := hzt
            refine jb_ifx (jt_w (jw_or (jt_not (jt_val (je_isTup (je_v 7)))) fun _ => jw_or1 (jt_ne (je_lenT (je_v 7)) (je_v 1)))) (fun hk => jb_ret je_bl (out ?_)) fun hk => ?_
            · have e : ¬ (vs.length : Int) = (n : Int) := by simpa [D.isTup] using hk
              show (decide ((vs.length : Int) = (n : Int)) && vs.all (isW 2000)) = false
              rw [decide_eq_false e]; rfl
            have e5 : (vs.length : Int) = (n : Int) := by simpa [D.isTup] using hk
            refine jb_cons (fun ls => ls = base0.set 7 (.val (.tup vs)) ∧ ∀ y ∈ vs, isW 2000 y = true) (js_forT (ds := vs) 8 (fun i ls => ls = base0.set 7 (.val (.tup vs)) ∧ ∀ j y, j < i → vs[j]? = some y → isW 2000 y = true) (je_v 7) ⟨rfl, fun _ _ h => absurd h (Nat.not_lt_zero _)⟩ ?_ fun ls h => ⟨h.1, fun y hy => ?_⟩) ?_
            · rintro i2 y _ hy ⟨rfl, ih2⟩
              have hym : y ∈ vs := List.mem_of_getElem? hy
              have hyf := fine_mem hzf.1 hzf.2 hym
              have out2 : isW 2000 y = false → D.bl false = D.bl B := fun h => out (by
                show (decide ((vs.length : Int) = (n : Int)) && vs.all (isW 2000)) = false
                rw [all_no hym h, Bool.and_false])
              by_cases hyi : ∃ i, y = .int i
              · obtain ⟨yi, rfl⟩ := hyi
                refine jb_ifx (jt_w (jw_or (jt_not (jt_val (je_call GI (ja_cons (je_v 8) ja_nil) ⟨_, rfl, rfl, rfl⟩))) fun _ => jw_or1 (jt_gt (je_abs (je_v 8) mabs) je_int))) (fun hk => jb_ret je_bl (out2 ?_)) fun hk => ?_
                · have h : (2000 : Int) < (yi.natAbs : Int) := by simpa [isI] using hk
                  show (decide (-2000 ≤ yi) && decide (yi ≤ 2000)) = false
                  rw [Bool.and_eq_false_iff, decide_eq_false_iff_not, decide_eq_false_iff_not]
                  omega
                · refine jb_end [8] ⟨rfl, fun j y hj hy' => ?_⟩
                  by_cases hji : j = i2
                  · subst hji
                    rw [hy] at hy'
                    cases hy'
                    have h : (yi.natAbs : Int) ≤ 2000 := by simpa [isI] using hk
                    show (decide (-2000 ≤ yi) && decide (yi ≤ 2000)) = true
                    rw [Bool.and_eq_true, decide_eq_true_eq, decide_eq_true_eq]
                    omega
                  · exact ih2 j y (by omega) hy'
              · obtain ⟨e6, _, e7⟩ := noInt hyi
                refine jb_ifx (k := true) (JT.is (jt_w (jw_or (l := false) (jt_not (jt_val (je_call GI (ja_cons (je_v 8) ja_nil) ⟨_, rfl, hyf.1.flat, rfl⟩))) fun hk => by rw [e6] at hk; cases hk)) (by rw [e6]; rfl)) (fun hk => jb_ret je_bl (out2 (e7 2000).2)) fun hk => by cases hk
            · obtain ⟨j, hj⟩ := List.getElem?_of_mem hy
              exact h.2 j y (List.getElem?_eq_some_iff.mp hj).1 hj
            · rintro _ ⟨rfl, hall⟩
              refine jb_end [7] ⟨rfl, fun j y hj hy' => ?_⟩
              by_cases hji : j = i
              · subst hji
                rw [hz] at hy'
                cases hy'
                show (decide ((vs.length : Int) = (n : Int)) && vs.all (isW 2000)) = true
                rw [decide_eq_true e5, Bool.true_and, List.all_eq_true]
                exact hall
              · exact ih j y (by omega) hy'
          · obtain ⟨ht2, e6, _⟩ := noTup hzt
            exact jb_ifx (jt_w (jw_or (l := false) (jt_not (jt_val (je_isTup (je_v 7) hzf.1.flat))) fun hk => by rw [ht2] at hk; cases hk)) (fun hk => jb_ret je_bl (out (e6 n))) fun hk => by rw [ht2] at hk; cases hk
        · obtain ⟨j, hj⟩ := List.getElem?_of_mem hz
          exact h.2 j z (List.getElem?_eq_some_iff.mp hj).1 hj
        · intro ls hall
          refine jb_ret je_bl ?_
          show D.bl true = D.bl B
          rw [← hB2, List.all_eq_true.mpr hall]
      · obtain ⟨ht2, _, e6, _⟩ := noTup hlt
        refine jb_ifx (jt_w (jw_or (l := false) (jt_not (jt_val (je_isTup (je_ixT (je_v 0) je_int at6) hlf.1.flat))) fun hk => by rw [ht2] at hk; cases hk)) (fun hk => jb_ret je_bl ?_) fun hk => by rw [ht2] at hk; cases hk
        show D.bl false = D.bl B
        rw [← hB, e6]
    · rw [isLeafB_n fun ds e => by cases e; exact hl]
      refine jb_ifx (k := true) (JT.is (jt_w (jw_or (l := false) (jt_ne (je_lenT (je_v 0)) je_int) fun hk => ?_)) ?_) (fun _ => jb_ret je_bl rfl) fun hk => by cases hk
      · exact absurd (by simpa using hk) (show ¬ ((D.str t :: r).length : Int) = 7 by omega)
      · rw [decide_eq_false (show ¬ ((D.str t :: r).length : Int) = 7 by omega)]
        rfl
end

def rLTreeQ (k : Nat) : List D → D → Prop := fun ds d => ∃ v : D, ds = [v, .int (sz k)] ∧ Sc 60 v ∧ wA [v] < 1000000 ∧ d = .bl (isTreeB k v)
theorem treeB_noStr {k : Nat} {x : D} {r : List D} (h : x.isStr = false) : isTreeB k (.tup (x :: r)) = false := by
  have e := (noStr h).1
  rw [isTreeB_eq]
  have e1 : isLeafB (sz k) (.tup (x :: r)) = false := by
    by_cases hl : (x :: r).length = 7
    · obtain ⟨t, m, s, a, b, q, l, z⟩ := len7 hl
      cases z
      show (eqS "leaf" x && _) = false
      rw [e]; rfl
    · exact isLeafB_n fun ds z => by cases z; exact hl
  have e2 : isSplitB k (.tup (x :: r)) = false := by
    cases k with
    | zero => exact isSplitB_0 _
    | succ k =>
      by_cases h2 : ∃ ps, r = [.tup ps]
      · obtain ⟨ps, rfl⟩ := h2
        rw [isSplitB_s, e]; rfl
      · exact isSplitB_n fun t ps z => by cases z; exact h2 ⟨_, rfl⟩
  rw [e1, e2]; rfl
theorem treeB_leaf {k : Nat} {t : Str} {r : List D} (h : t ≠ "split") : isTreeB k (.tup (.str t :: r)) = isLeafB (sz k) (.tup (.str t :: r)) := by
  rw [isTreeB_eq]
  have e2 : isSplitB k (.tup (.str t :: r)) = false := by
    cases k with
    | zero => exact isSplitB_0 _
    | succ k =>
      by_cases h2 : ∃ ps, r = [.tup ps]
      · obtain ⟨ps, rfl⟩ := h2
        rw [isSplitB_s, show eqS "split" (.str t) = false from decide_eq_false h]; rfl
      · exact isSplitB_n fun t ps z => by cases z; exact h2 ⟨_, rfl⟩
  rw [e2, Bool.or_false]
theorem treeB_split {k : Nat} {r : List D} : isTreeB k (.tup (.str "split" :: r)) = isSplitB k (.tup (.str "split" :: r)) := by
  rw [isTreeB_eq]
  have e1 : isLeafB (sz k) (.tup (.str "split" :: r)) = false := by
    by_cases hl : (D.str "split" :: r).length = 7
    · obtain ⟨t, m, s, a, b, q, l, z⟩ := len7 hl
      cases z
      rfl
    · exact isLeafB_n fun ds z => by cases z; exact hl
  rw [e1, Bool.false_or]
theorem treeB_noTup {k : Nat} {v : D} (h : ¬ ∃ ds, v = .tup ds) : isTreeB k v = false := by
  rw [isTreeB_eq, (noTup h).2.2.2.1, (noTup h).2.2.2.2.1]; rfl
theorem treeB_nil {k : Nat} : isTreeB k (.tup []) = false := by
  rw [isTreeB_eq, isLeafB_n (fun ds z => by cases z; decide), isSplitB_n fun t ps z => by cases z]; rfl
section
variable {P : Program} {w : World} {K : Fg} {mg : Str → Option Value} {base : Heap} {T : Addr → Prop}
theorem ok_lTreeQ {f : Addr} {fd : FuncData} (k lv : Nat) (h2 : 2 ≤ lv) (F : Fun K "_law_is_tree" "_law_is_tree" sLTreeQ f fd) (misi : mg "isinstance" = none) (mtuple : mg "tuple" = none) (mstr : mg "str" = none) (mlen : mg "len" = none)
    (GL : Fn P w K mg base 2 "_law_is_leaf" (det rLLeafQ) T) (GT : ∀ j, k = j + 1 → Fn P w K mg base lv "_law_is_tree" (det (rLTreeQ j)) T) : FnOk P w K mg base CX0 (lv + 1) f fd ["value", "n"] (spD K (det (rLTreeQ k)) T) := by
  refine fn_okd F scLTreeQ (fun ds d h => ?_) (fun cdv A outer s H E hr ds d h => ?_)
  · obtain ⟨_, rfl, _⟩ := h
    rfl
  · obtain ⟨v, rfl, hv, hw, rfl⟩ := h
    by_cases h : ∃ xs, v = .tup xs
    · obtain ⟨xs, rfl⟩ := h
      cases xs with
      | nil =>
        rw [treeB_nil]
        exact jb_ifx (k := true) (JT.is (jt_w (jw_or (jt_not (jt_val (je_isTup (je_v 0)))) fun _ => jw_or (l := false) (jt_eq (je_lenT (je_v 0)) je_int) fun hk => by cases hk)) rfl) (fun _ => jb_ret je_bl rfl) fun hk => by cases hk
      | cons x r =>
        have hx := fine_mem hv hw (v := x) (by simp)
        have n0 : decide (((x :: r).length : Int) = 0) = false := decide_eq_false (by rw [List.length_cons]; omega)
        by_cases hs : x.isStr = true
        · obtain ⟨t, rfl⟩ : ∃ t, x = .str t := by
            cases x <;> first | exact ⟨_, rfl⟩ | (cases hs)
          refine jb_ifx (k := false) (JT.is (jt_w (jw_or (jt_not (jt_val (je_isTup (je_v 0)))) fun _ => jw_or (jt_eq (je_lenT (je_v 0)) je_int) fun _ => jw_or1 (jt_not (jt_val (je_isStr (je_ixT (je_v 0) je_int at_0) rfl))))) (by rw [n0]; rfl)) (fun hk => by cases hk) fun _ => ?_
          refine jb_ifx (jt_neS (je_ixT (je_v 0) je_int at_0) je_str) (fun hk => ?_) fun hk => ?_
          · have ht : t ≠ "split" := by simpa using hk
            exact jb_ret (je_call GL (ja_cons (je_v 0) (ja_cons (je_v 1) ja_nil)) ⟨t, r, _, rfl, hv, hw, rfl⟩ h2) (by rw [treeB_leaf ht])
          have ht : t = "split" := by simpa using hk
          subst ht
          rw [treeB_split]
          cases k with
          | zero =>
            rw [isSplitB_0]
            exact jb_ifx (k := true) (JT.is (jt_w (jw_or (l := false) (jt_eq (je_v 1) je_int) fun hk => by cases hk)) rfl) (fun _ => jb_ret je_bl rfl) fun hk => by cases hk
          | succ k =>
            have n2 := decide_eq_false (sz_ne k)
            have G := GT k rfl
            by_cases hl : (D.str "split" :: r).length = 2
            · obtain ⟨t, p, z⟩ := len2 hl
              cases z
              have fp := fine_mem hv hw (v := p) (by simp)
              by_cases hp : ∃ ps, p = .tup ps
              · obtain ⟨ps, rfl⟩ := hp
                rw [isSplitB_s, show eqS "split" (.str "split") = true from rfl, Bool.true_and]
                refine jb_ifx (k := !decide ((ps.length : Int) = 4)) (JT.is (jt_w (jw_or (jt_eq (je_v 1) je_int) fun _ => jw_or (jt_ne (je_lenT (je_v 0)) je_int) fun _ => jw_or (jt_not (jt_val (je_isTup (je_ixT (je_v 0) je_int at_1)))) fun _ => jw_or1 (jt_ne (je_lenT (je_ixT (je_v 0) je_int at_1)) je_int))) (by rw [n2]; rfl)) (fun hk => jb_ret je_bl ?_) fun hk => ?_
                · have e : ¬ (ps.length : Int) = 4 := by simpa using hk
                  rw [decide_eq_false (show ¬ ps.length = 4 by omega)]; rfl
                have e : (ps.length : Int) = 4 := by simpa using hk
                rw [decide_eq_true (show ps.length = 4 by omega), Bool.true_and]
                refine jb_cons (fun _ => ∀ z ∈ ps, isTreeB k z = true) (js_forT (ds := ps) 2 (fun i ls => ls = [.val (.tup [D.str "split", .tup ps]), .val (.int (sz (k + 1))), .any] ∧ ∀ j z, j < i → ps[j]? = some z → isTreeB k z = true) (je_ixT (je_v 0) je_int at_1) ⟨rfl, fun _ _ h => absurd h (Nat.not_lt_zero _)⟩ ?_ fun ls h z hz => ?_) ?_
                · rintro i z _ hz ⟨rfl, ih⟩
                  have hzm : z ∈ ps := List.mem_of_getElem? hz
                  have hzf := fine_mem fp.1 fp.2 hzm
                  refine jb_ifx (jt_not (jt_val (je_call G (ja_cons (je_v 2) (ja_cons ((je_fdiv (je_v 1) je_int).is (congrArg D.int (sz_half k))) ja_nil)) ⟨_, rfl, hzf.1, hzf.2, rfl⟩ (Nat.le_refl lv)))) (fun hk => jb_ret je_bl ?_) fun hk => ?_
                  · have e : isTreeB k z = false := by simpa using hk
                    rw [all_no hzm e]
                  · refine jb_end [2] ⟨rfl, fun j y hj hy => ?_⟩
                    by_cases hji : j = i
                    · subst hji
                      rw [hz] at hy
                      cases hy
                      simpa using hk
                    · exact ih j y (by omega) hy
                · obtain ⟨j, hj⟩ := List.getElem?_of_mem hz
                  exact h.2 j z (List.getElem?_eq_some_iff.mp hj).1 hj
                · intro ls hall
                  exact jb_ret je_bl (by rw [List.all_eq_true.mpr hall])
              · rw [isSplitB_n fun t' ps e => by cases e; exact hp ⟨_, rfl⟩]
                have ht := (noTup hp).1
                exact jb_ifx (k := true) (JT.is (jt_w (jw_or (jt_eq (je_v 1) je_int) fun _ => jw_or (jt_ne (je_lenT (je_v 0)) je_int) fun _ => jw_or (l := false) (jt_not (jt_val (je_isTup (je_ixT (je_v 0) je_int at_1) fp.1.flat))) fun hk => by rw [ht] at hk; cases hk)) (by rw [n2, ht]; rfl)) (fun hk => jb_ret je_bl rfl) fun hk => by cases hk
            · rw [isSplitB_n fun t' ps e => by cases e; exact hl rfl]
              refine jb_ifx (k := true) (JT.is (jt_w (jw_or (jt_eq (je_v 1) je_int) fun _ => jw_or (l := false) (jt_ne (je_lenT (je_v 0)) je_int) fun hk => ?_)) ?_) (fun _ => jb_ret je_bl rfl) fun hk => by cases hk
              · exact absurd (by simpa using hk) (show ¬ ((D.str "split" :: r).length : Int) = 2 by omega)
              · rw [n2, decide_eq_false (show ¬ ((D.str "split" :: r).length : Int) = 2 by omega)]
                rfl
        · have hs : x.isStr = false := by simpa using hs
          rw [treeB_noStr hs]
          exact jb_ifx (k := true) (JT.is (jt_w (jw_or (jt_not (jt_val (je_isTup (je_v 0)))) fun _ => jw_or (jt_eq (je_lenT (je_v 0)) je_int) fun _ => jw_or1 (jt_not (jt_val (je_isStr (je_ixT (je_v 0) je_int at_0) hx.1.flat))))) (by rw [n0, hs]; rfl)) (fun _ => jb_ret je_bl rfl) fun hk => by cases hk
    · rw [treeB_noTup h]
      have ht := (noTup h).1
      exact jb_ifx (jt_w (jw_or (l := false) (jt_not (jt_val (je_isTup (je_v 0) hv.flat))) fun hk => by rw [ht] at hk; cases hk)) (fun hk => jb_ret je_bl rfl) fun hk => by rw [ht] at hk; cases hk
theorem ok_lBandQ {f : Addr} {fd : FuncData} (F : Fun K "_law_is_band" "_law_is_band" sLBandQ f fd) (misi : mg "isinstance" = none) (mtuple : mg "tuple" = none) (mlen : mg "len" = none) (GT : Fn P w K mg base 5 "_law_is_tree" (det (rLTreeQ 2)) T) : FnOk P w K mg base CX0 6 f fd ["value", "blocks"] (spD K (det rLBandQ) T) := by
  refine fn_okd F scLBandQ (fun ds d h => ?_) (fun cdv A outer s H E hr ds d h => ?_)
  · obtain ⟨_, _, rfl, _⟩ := h
    rfl
  · obtain ⟨v, n, rfl, hv, hw, rfl⟩ := h
    by_cases h : ∃ xs, v = .tup xs
    · obtain ⟨xs, rfl⟩ := h
      show JB _ _ _ (Ret (D.bl (decide ((xs.length : Int) = n) && ((decide (1 ≤ n) && decide (n ≤ 4)) && xs.all (isTreeB 2)))))
      refine jb_ifx (jt_w (jw_or (jt_not (jt_val (je_isTup (je_v 0)))) fun _ => jw_or (jt_ne (je_lenT (je_v 0)) (je_v 1)) fun _ => jw_or (jt_lt (je_v 1) je_int) fun _ => jw_or1 (jt_gt (je_v 1) je_int))) (fun hk => jb_ret je_bl ?_) fun hk => ?_
      · simp only [D.isTup, Bool.not_true, Bool.false_or, Bool.or_eq_true, Bool.not_eq_true', decide_eq_false_iff_not, decide_eq_true_eq] at hk
        show D.bl false = _
        rcases hk with h | h | h
        · rw [decide_eq_false h]; rfl
        · rw [decide_eq_false (show ¬ 1 ≤ n by omega)]; simp
        · rw [decide_eq_false (show ¬ n ≤ 4 by omega)]; simp
      simp only [D.isTup, Bool.not_true, Bool.false_or, Bool.or_eq_false_iff, Bool.not_eq_false', decide_eq_false_iff_not, decide_eq_true_eq] at hk
      obtain ⟨k1, k2, k3⟩ := hk
      rw [decide_eq_true k1, decide_eq_true (show 1 ≤ n by omega), decide_eq_true (show n ≤ 4 by omega), Bool.true_and, Bool.true_and, Bool.true_and]
      refine jb_cons (fun _ => ∀ z ∈ xs, isTreeB 2 z = true) (js_forT (ds := xs) 2 (fun i ls => ls = [.val (.tup xs), .val (.int n), .any] ∧ ∀ j z, j < i → xs[j]? = some z → isTreeB 2 z = true) (je_v 0) ⟨rfl, fun _ _ h => absurd h (Nat.not_lt_zero _)⟩ ?_ fun ls h z hz => ?_) ?_
      · rintro i z _ hz ⟨rfl, ih⟩
        have hzm : z ∈ xs := List.mem_of_getElem? hz
        have hzf := fine_mem hv hw hzm
        refine jb_ifx (jt_not (jt_val (je_call GT (ja_cons (je_v 2) (ja_cons je_int ja_nil)) ⟨_, rfl, hzf.1, hzf.2, rfl⟩))) (fun hk => jb_ret je_bl ?_) fun hk => ?_
        · have e : isTreeB 2 z = false := by simpa using hk
          rw [all_no hzm e]
        · refine jb_end [2] ⟨rfl, fun j y hj hy => ?_⟩
          by_cases hji : j = i
          · subst hji
            rw [hz] at hy
            cases hy
            simpa using hk
          · exact ih j y (by omega) hy
      · obtain ⟨j, hj⟩ := List.getElem?_of_mem hz
        exact h.2 j z (List.getElem?_eq_some_iff.mp hj).1 hj
      · intro ls hall
        exact jb_ret je_bl (by rw [List.all_eq_true.mpr hall])
    · have e : isBlocks n v = false := by cases v <;> first | rfl | exact absurd ⟨_, rfl⟩ h
      rw [e]
      have ht := (noTup h).1
      exact jb_ifx (jt_w (jw_or (l := false) (jt_not (jt_val (je_isTup (je_v 0) hv.flat))) fun hk => by rw [ht] at hk; cases hk)) (fun hk => jb_ret je_bl rfl) fun hk => by rw [ht] at hk; cases hk
end

end T15

set_option maxHeartbeats 4000000
namespace T15
open PySem PySem.Spec PyProof.Rows L2 Qp
section
variable {P : Program} {w : World} {K : Fg} {mg : Str → Option Value} {base : Heap} {T : Addr → Prop}
/-! ### _law_draws (of a script), _law_take -/
theorem scDrw : FnScope ["script", "many", "rests", "draws", "k", "cell", "at", "mixed"] ["script", "many"] (defScope sDrw) := ⟨rfl, rfl, rfl, by decide +kernel, rfl, by decide +kernel, by decide +kernel⟩
theorem scTake : FnScope ["hand", "many", "at", "draws"] ["hand", "many"] (defScope sTake) := ⟨rfl, rfl, rfl, by decide +kernel, rfl, by decide +kernel, by decide +kernel⟩
def rDrw : Rel := fun ds Po => ∃ (ns : List Int) (m : Nat), ds = [.scr ns, .int m] ∧ ns.length ≤ 63 ∧ m < 1000 ∧ Po = fun d => ∃ vs : List Int, d = .lst (iL vs) ∧ vs.length = m
/-- a number from 0 up, below m -/
def below (m : Int) : D → Prop := IntP fun i => 0 ≤ i ∧ i < m
def rTake : Rel := fun ds Po => ∃ (vs : List Int) (n : Nat) (m : Int), ds = [.hand (iL vs) n, .int m] ∧ 0 < m ∧ Po = below m
theorem ok_drw {f : Addr} {fd : FuncData} (F : Fun K "_law_draws" "_law_draws" sDrw f fd) (mabs : mg "abs" = none) (mint : mg "int" = none) (mlen : mg "len" = none) (mrange : mg "range" = none) : FnOk P w K mg base CX0 1 f fd ["script", "many"] (spD K rDrw T) := by
  refine fn_ok F scDrw (fun ds d h => ?_) (fun cdv A outer s H E hr ds Po h => ?_)
  · obtain ⟨_, _, rfl, _⟩ := h
    rfl
  · obtain ⟨ns, m, rfl, hl, hm, rfl⟩ := h
    refine jb_setL 2 ((jl_S 5 (fun i => .int ((ns.getD i 0).natAbs : Int)) (je_v 0) (by omega) (fun i hi => ?_) bok).is ((outs_all _ _).trans (iL_range _ _))) ?_
    · exact je_abs (je_intI (je_v 5) mint) mabs
    refine jb_setN 3 (jn_lst ja_nil) ?_
    refine jb_cons (fun l => ∃ rs vs, l = [.val (.scr ns), .val (.int m), .own (iL rs), .own (iL vs), .any, .any, .any, .any] ∧ vs.length = m) (js_forR 4 (fun i l => ∃ rs vs, l = [.val (.scr ns), .val (.int m), .own (iL rs), .own (iL vs), .any, .any, .any, .any] ∧ rs.length = ns.length ∧ vs.length = i) (je_v 1) (by omega) ⟨_, [], rfl, by rw [List.length_map, List.length_range], rfl⟩ ?_ fun l h => ?_) ?_
    · rintro i _ hi ⟨rs, vs, rfl, hrs, hvs⟩
      have hi' : i < m := by omega
      have hz : (iL vs).length < 1000000 := by rw [iL_len]; omega
      refine jb_set 5 (je_v 4) ?_
      refine jb_if (fun l => ∃ c : Int, l = [.val (.scr ns), .val (.int m), .own (iL rs), .own (iL vs), .val (.int i), .val (.int c), .any, .any]) (jt_gt (je_lenScr (je_v 0) mlen) je_int) (fun hk => ?_) (fun hk => jb_nil ⟨_, rfl⟩) ?_
      · have hn : 0 < ns.length := by have := of_decide_eq_true hk; omega
        have hat : i % ns.length < ns.length := Nat.mod_lt _ hn
        refine jb_set 6 ((je_mod (je_v 4) (je_lenScr (je_v 0) mlen) (by omega)).is (congrArg D.int (Int.natCast_emod i ns.length).symm)) ?_
        refine jb_set 5 (je_intI (je_ixScr (n := ns.getD (i % ns.length) 0) (je_v 0) (je_v 6) (atI_nat (by rw [List.getD_eq_getElem?_getD, List.getElem?_eq_getElem hat]; rfl))) mint) ?_
        have hix : (iL rs)[i % ns.length]? = some (D.int (rs.getD (i % ns.length) 0)) := by
          unfold iL
          rw [List.getElem?_map, List.getD_eq_getElem?_getD, List.getElem?_eq_getElem (by rw [hrs]; exact hat)]
          rfl
        refine jb_one (js_if (jt_w (jw_and (jt_ge (je_v 5) (je_powL 1000000000000000000 je_int je_int)) fun _ => jw_and1 (jt_gt (je_ixL (jc_v 2) (je_v 6) (atI_nat hix)) je_int))) (fun _ => ?_) fun _ => ?_)
        · refine jb_app 3 (je_mod (je_intI (je_ixL (jc_v 2) (je_v 6) (atI_nat hix)) mint) je_int) rfl ?_ hz
          refine jb_cons _ (js_setItem 2 (k := i % ns.length) (je_fdiv (je_intI (je_ixL (jc_v 2) (je_v 6) (atI_nat hix)) mint) je_int) (je_v 6) rfl (by rw [iL_len, hrs]; exact hat) rfl) ?_
          rintro _ rfl
          refine jb_forget 5 (jb_forget 6 (jb_forget 4 (jb_cont ?_)))
          exact ⟨rs.set (i % ns.length) (rs.getD (i % ns.length) 0 / 1000003), vs ++ [rs.getD (i % ns.length) 0 % 1000003], by rw [iL_app, iL_set]; rfl, by rw [List.length_set, hrs], by rw [List.length_append, hvs]; rfl⟩
        · exact jb_end [6] ⟨_, rfl⟩
      rintro _ ⟨c, rfl⟩
      refine jb_set 7 (je_mod (je_intI (je_add (je_add (je_mul (je_v 5) je_int) (je_mul (je_v 4) je_int)) je_int) mint) je_int) ?_
      refine jb_set 7 (je_mod (je_intI (je_add (je_fdiv (je_mul (je_v 7) (je_v 7)) je_int) (je_v 7)) mint) je_int) ?_
      refine jb_app 3 (je_mod (je_intI (je_add (je_fdiv (je_mul (je_v 7) (je_v 7)) je_int) (je_mul (je_v 4) je_int)) mint) je_int) rfl ?_ hz
      exact jb_end [4, 5, 7] ⟨rs, _, by rw [iL_app]; rfl, hrs, by rw [List.length_append, hvs]; rfl⟩
    · obtain ⟨rs, vs, rfl, _, hvs⟩ := h
      exact ⟨rs, vs, rfl, by omega⟩
    · rintro _ ⟨rs, vs, rfl, hvs⟩
      exact jb_thaw 3 rfl (jb_ret (je_v 3) ⟨vs, rfl, hvs⟩)
theorem ok_take {f : Addr} {fd : FuncData} (F : Fun K "_law_take" "_law_take" sTake f fd) (mint : mg "int" = none) (mlen : mg "len" = none) : FnOk P w K mg base CX0 1 f fd ["hand", "many"] (spD K rTake T) := by
  refine fn_ok F scTake (fun ds d h => ?_) (fun cdv A outer s H E hr ds Po h => ?_)
  · obtain ⟨_, _, _, rfl, _⟩ := h
    rfl
  · obtain ⟨vs, n, m, rfl, hm, rfl⟩ := h
    refine jb_setX 2 (jx_hand1 (je_v 0) je_int) ?_
    rintro _ ⟨a, rfl⟩
    refine jb_cons _ (js_handSet (k := 1) 0 (JX.of (je_add (je_v 2) je_int) ⟨_, rfl, fun _ => by omega⟩) je_int rfl (by decide) (by omega) rfl) ?_
    rintro _ rfl
    refine jb_set 3 (je_hand0 (je_v 0) je_int) ?_
    refine jb_ifx (jt_ge (je_v 2) (je_lenL (JC.je (je_v 3)) mlen)) (fun _ => jb_ret je_int ⟨0, rfl, by omega, hm⟩) fun hk => ?_
    have ha : a < vs.length := by
      have := of_decide_eq_false hk
      rw [iL_len] at this
      omega
    refine jb_ret (je_mod (je_fdiv (je_intI (je_ixL (i := (a : Int)) (d := .int (vs.getD a 0)) (JC.je (je_v 3)) (je_v 2) (atI_nat ?_)) mint) je_int) (je_v 1) hm) ⟨_, rfl, Int.emod_nonneg _ (by omega), Int.emod_lt_of_pos _ hm⟩
    unfold iL
    rw [List.getElem?_map, List.getD_eq_getElem?_getD, List.getElem?_eq_getElem ha]
    rfl

end
/-! ### what the law draws: squares, leaves, trees, bands -/
theorem scLevel : FnScope ["hand", "kind"] ["hand"] (defScope sLevel) := ⟨rfl, rfl, rfl, by decide +kernel, rfl, by decide +kernel, by decide +kernel⟩
theorem scSquare : FnScope ["hand", "n", "kind", "rows", "k", "i", "row", "figures"] ["hand", "n"] (defScope sSquare) := ⟨rfl, rfl, rfl, by decide +kernel, rfl, by decide +kernel, by decide +kernel⟩
theorem scShift : FnScope ["hand", "kind"] ["hand"] (defScope sShift) := ⟨rfl, rfl, rfl, by decide +kernel, rfl, by decide +kernel, by decide +kernel⟩
theorem scLeaf : FnScope ["hand", "n", "modes", "mode", "slot", "dy", "dx", "q"] ["hand", "n", "modes"] (defScope sLeaf) := ⟨rfl, rfl, rfl, by decide +kernel, rfl, by decide +kernel, by decide +kernel⟩
theorem scTree : FnScope ["hand", "n", "modes", "k"] ["hand", "n", "modes"] (defScope sTree) := ⟨rfl, rfl, rfl, by decide +kernel, rfl, by decide +kernel, by decide +kernel⟩
theorem scBand : FnScope ["hand", "blocks", "modes", "k"] ["hand", "blocks", "modes"] (defScope sBand) := ⟨rfl, rfl, rfl, by decide +kernel, rfl, by decide +kernel, by decide +kernel⟩
def SqOk (n : Nat) (rows : List (List Int)) : Prop := rows.length = n ∧ ∀ r ∈ rows, r.length = n ∧ ∀ j ∈ r, j.natAbs ≤ 2000
def SqD (n : Nat) (d : D) : Prop := ∃ rows, d = tR rows ∧ SqOk n rows
structure LfOk (m : Str) (s a b q : Int) : Prop where
  m5 : m ∈ modes5
  s0 : 0 ≤ s
  s3 : s < 3
  a31 : a.natAbs ≤ 31
  b31 : b.natAbs ≤ 31
  q7 : q ∈ quanta
  mo : m = "motion" ∨ (s = 0 ∧ a = 0 ∧ b = 0)
def leafD (m : Str) (s a b q : Int) (l : D) : D := .tup [.str "leaf", .str m, .int s, .int a, .int b, .int q, l]
def LeafD (n : Nat) (d : D) : Prop := ∃ (m : Str) (s a b q : Int) (l : D), d = leafD m s a b q l ∧ LfOk m s a b q ∧ SqD n l
inductive TreeD : Nat → D → Prop
  | leaf {k : Nat} {d : D} : LeafD (sz k) d → TreeD k d
  | split {k : Nat} {ds : List D} : ds.length = 4 → (∀ d ∈ ds, TreeD k d) → TreeD (k + 1) (.tup [.str "split", .tup ds])
def BandD (b : Nat) (d : D) : Prop := ∃ ts, d = .tup ts ∧ ts.length = b ∧ ∀ t ∈ ts, TreeD 2 t
theorem sqD_ex (n : Nat) : ∃ d, SqD n d := ⟨_, List.replicate n (List.replicate n 0), rfl, List.length_replicate, fun r hr => by
  rw [List.eq_of_mem_replicate hr]
  exact ⟨List.length_replicate, fun j hj => by rw [List.eq_of_mem_replicate hj]; decide⟩⟩
theorem leafD_ex (n : Nat) : ∃ d, LeafD n d := by
  obtain ⟨l, hl⟩ := sqD_ex n
  exact ⟨_, "flat", 0, 0, 0, 1, l, rfl, ⟨by decide, by decide, by decide, by decide, by decide, by decide, .inr ⟨rfl, rfl, rfl⟩⟩, hl⟩
theorem rows_of {p : List Int → Prop} : ∀ {es : List D}, (∀ (i : Nat) (d : D), es[i]? = some d → ∃ js : List Int, d = .tup (iL js) ∧ p js) → ∃ rows : List (List Int), es = rows.map (fun r => D.tup (iL r)) ∧ ∀ r ∈ rows, p r
  | [], _ => ⟨[], rfl, fun _ h => (List.not_mem_nil h).elim⟩
  | d :: es, h => by
    obtain ⟨js, rfl, hp⟩ := h 0 d rfl
    obtain ⟨rows, rfl, hr⟩ := rows_of (es := es) fun i d hd => h (i + 1) d hd
    exact ⟨js :: rows, rfl, fun r hr' => by
      rcases List.mem_cons.mp hr' with e | hr'
      · rw [e]; exact hp
      · exact hr r hr'⟩
def rLevel : Rel := fun ds Po => ∃ (vs : List Int) (n : Nat), ds = [.hand (iL vs) n] ∧ Po = IntP fun i => i.natAbs ≤ 2000
def rShift : Rel := fun ds Po => ∃ (vs : List Int) (n : Nat), ds = [.hand (iL vs) n] ∧ Po = IntP fun i => i.natAbs ≤ 31
def rSquare : Rel := fun ds Po => ∃ (vs : List Int) (n : Nat), ds = [.hand (iL vs) 2, .int n] ∧ 2 ≤ n ∧ n ≤ 8 ∧ Po = SqD n
def rLeaf : Rel := fun ds Po => ∃ (vs : List Int) (n : Nat) (m : Int), ds = [.hand (iL vs) 2, .int n, .int m] ∧ 2 ≤ n ∧ n ≤ 8 ∧ 0 < m ∧ m ≤ 5 ∧ Po = LeafD n
def rTree (k : Nat) : Rel := fun ds Po => ∃ (vs : List Int) (m : Int), ds = [.hand (iL vs) 2, .int (sz k), .int m] ∧ 0 < m ∧ m ≤ 5 ∧ Po = TreeD k
def rBand : Rel := fun ds Po => ∃ (vs : List Int) (b : Nat) (m : Int), ds = [.hand (iL vs) 2, .int b, .int m] ∧ b ≤ 4 ∧ 0 < m ∧ m ≤ 5 ∧ Po = BandD b
section
variable {P : Program} {w : World} {K : Fg} {mg : Str → Option Value} {base : Heap} {T : Addr → Prop}
theorem ok_level {f : Addr} {fd : FuncData} (F : Fun K "_law_level" "_law_level" sLevel f fd) (GT : Fn P w K mg base 1 "_law_take" rTake T) : FnOk P w K mg base CX0 2 f fd ["hand"] (spD K rLevel T) := by
  refine fn_ok F scLevel (fun ds d h => ?_) (fun cdv A outer s H E hr ds Po h => ?_)
  · obtain ⟨_, _, rfl, _⟩ := h
    rfl
  · obtain ⟨vs, n, rfl, rfl⟩ := h
    refine jb_setX 1 (jx_call1 GT (ja_cons (je_v 0) (ja_cons je_int ja_nil)) ⟨vs, n, 8, rfl, by decide, rfl⟩) ?_
    rintro _ ⟨kd, rfl, _⟩
    refine jb_ifx (jt_eq (je_v 1) je_int) (fun _ => jb_retX (jx_ixX (Po := IntP fun i => i.natAbs ≤ 2000) (JN.jc' (jn_lst (ja_cons je_int (ja_cons (je_neg je_int) (ja_cons je_int (ja_cons (je_neg je_int) ja_nil)))))) (jx_call1 GT (ja_cons (je_v 0) (ja_cons je_int ja_nil)) ⟨vs, n, 4, rfl, by decide, rfl⟩) fun i hi => ?_) fun d h => h) fun _ => ?_
    · have : i = 0 ∨ i = 1 ∨ i = 2 ∨ i = 3 := by omega
      rcases this with rfl | rfl | rfl | rfl <;> exact ⟨_, rfl, _, rfl, by decide⟩
    refine jb_ifx (jt_eq (je_v 1) je_int) (fun _ => jb_retX (jx_sub (jx_call1 GT (ja_cons (je_v 0) (ja_cons je_int ja_nil)) ⟨vs, n, 4001, rfl, by decide, rfl⟩) (JX.int (p := fun i => i = 2000) je_int rfl) fun i j hi hj => by omega) fun d h => h) fun _ => ?_
    exact jb_retX (jx_sub (jx_call1 GT (ja_cons (je_v 0) (ja_cons je_int ja_nil)) ⟨vs, n, 9, rfl, by decide, rfl⟩) (JX.int (p := fun i => i = 4) je_int rfl) fun i j hi hj => by omega) fun d h => h
theorem ok_shift {f : Addr} {fd : FuncData} (F : Fun K "_law_shift" "_law_shift" sShift f fd) (GT : Fn P w K mg base 1 "_law_take" rTake T) : FnOk P w K mg base CX0 2 f fd ["hand"] (spD K rShift T) := by
  refine fn_ok F scShift (fun ds d h => ?_) (fun cdv A outer s H E hr ds Po h => ?_)
  · obtain ⟨_, _, rfl, _⟩ := h
    rfl
  · obtain ⟨vs, n, rfl, rfl⟩ := h
    refine jb_setX 1 (jx_call1 GT (ja_cons (je_v 0) (ja_cons je_int ja_nil)) ⟨vs, n, 4, rfl, by decide, rfl⟩) ?_
    rintro _ ⟨kd, rfl, _⟩
    refine jb_ifx (jt_eq (je_v 1) je_int) (fun _ => jb_retX (jx_ixX (Po := IntP fun i => i.natAbs ≤ 31) (JN.jc' (jn_lst (ja_cons (je_neg je_int) (ja_cons je_int (ja_cons (je_neg je_int) (ja_cons je_int ja_nil)))))) (jx_call1 GT (ja_cons (je_v 0) (ja_cons je_int ja_nil)) ⟨vs, n, 4, rfl, by decide, rfl⟩) fun i hi => ?_) fun d h => h) fun _ => ?_
    · have : i = 0 ∨ i = 1 ∨ i = 2 ∨ i = 3 := by omega
      rcases this with rfl | rfl | rfl | rfl <;> exact ⟨_, rfl, _, rfl, by decide⟩
    refine jb_ifx (jt_eq (je_v 1) je_int) (fun _ => jb_retX (jx_sub (jx_call1 GT (ja_cons (je_v 0) (ja_cons je_int ja_nil)) ⟨vs, n, 63, rfl, by decide, rfl⟩) (JX.int (p := fun i => i = 31) je_int rfl) fun i j hi hj => by omega) fun d h => h) fun _ => ?_
    exact jb_retX (jx_sub (jx_call1 GT (ja_cons (je_v 0) (ja_cons je_int ja_nil)) ⟨vs, n, 7, rfl, by decide, rfl⟩) (JX.int (p := fun i => i = 3) je_int rfl) fun i j hi hj => by omega) fun d h => h
theorem at_const {n : Nat} {d : D} {i : Int} (h : 0 ≤ i ∧ i < n) : atI ((List.range n).map fun _ => d) i = some d := by
  have e : i = ((i.toNat : Nat) : Int) := by omega
  rw [e]
  exact atI_nat (by rw [List.getElem?_map, List.getElem?_range (by omega)]; rfl)
theorem ok_square {f : Addr} {fd : FuncData} (F : Fun K "_law_square" "_law_square" sSquare f fd) (mrange : mg "range" = none) (mtuple : mg "tuple" = none) (mint : mg "int" = none) (GT : Fn P w K mg base 1 "_law_take" rTake T) (GL : Fn P w K mg base 2 "_law_level" rLevel T) : FnOk P w K mg base CX0 3 f fd ["hand", "n"] (spD K rSquare T) := by
  refine fn_ok F scSquare (fun ds d h => ?_) (fun cdv A outer s H E hr ds Po h => ?_)
  · obtain ⟨_, _, rfl, _⟩ := h
    rfl
  · obtain ⟨vs, n, rfl, n2, n8, rfl⟩ := h
    let L : D := .loose n 2000
    have hL : ∀ i d, ((List.range n).map fun _ => L)[i]? = some d → d = L := fun i d h => by
      rw [List.getElem?_map] at h
      cases e : (List.range n)[i]? with
      | none => rw [e] at h; cases h
      | some x => rw [e] at h; cases h; rfl
    refine jb_setX 2 (jx_call1 GT (ja_cons (je_v 0) (ja_cons je_int ja_nil)) ⟨vs, 2, 6, rfl, by decide, rfl⟩) ?_
    rintro _ ⟨kd, rfl, _⟩
    refine jb_setL 3 ((jl_R 5 (fun _ => true) (fun _ => L) (je_v 1) (by omega) (fun i _ => ji_nil) (fun i hi _ => ?_) bok).is ((outs_all _ _).trans (by rw [Int.toNat_natCast]))) ?_
    · refine (je_loose (js := List.replicate n 0) (B := 2000) ((jn_lcR 4 (fun _ => true) (fun _ => .int 0) (je_v 1) (by omega) (fun i _ => ji_nil) (fun i hi _ => je_int) bok).is ((outs_all _ _).trans ?_)) fun j hj => ?_).is (by rw [List.length_replicate])
      · rw [Int.toNat_natCast]
        unfold iL
        apply List.ext_getElem
        · simp
        · intro i h1 h2
          simp
      · rw [List.eq_of_mem_replicate hj]; decide
    refine jb_thaw 3 rfl ?_
    let bs : List Qp.Loc := [.val (.hand (iL vs) 2), .val (.int n), .val (.int kd), .val (.lst ((List.range n).map fun _ => L)), .any, .any, .any, .any]
    refine jb_if (fun l => l = bs) (jt_eq (je_v 2) je_int) (fun _ => ?_) (fun _ => jb_nil rfl) ?_
    · refine jb_setX 6 (jx_ixX (Po := fun d => d = L) (JC.je (je_v 3)) (jx_call1 GT (ja_cons (je_v 0) (ja_cons (je_v 1) ja_nil)) ⟨vs, 2, n, rfl, by omega, rfl⟩) fun i hi => ⟨L, at_const hi, rfl⟩) ?_
      rintro _ rfl
      exact jb_looseSet 6 (jx_call1 GL (ja_cons (je_v 0) ja_nil) ⟨vs, 2, rfl, rfl⟩) (jx_call1 GT (ja_cons (je_v 0) (ja_cons (je_v 1) ja_nil)) ⟨vs, 2, n, rfl, by omega, rfl⟩) rfl (fun j h => h) (fun k h => h) (jb_end [6] rfl)
    rintro _ rfl
    refine jb_if (fun l => l = bs) (jt_eq (je_v 2) je_int) (fun _ => ?_) (fun _ => jb_nil rfl) ?_
    · refine jb_one (js_forR 5 (fun _ l => l = bs) je_int (by decide) rfl ?_ fun l h => h)
      rintro i _ hi rfl
      have hi2 : i < 2 := hi
      refine jb_set 6 (d := L) (je_ixL (JC.je (je_v 3)) (je_v 5) (at_const (by omega))) ?_
      refine jb_cons (fun l => l = (bs.set 5 (.val (.int i))).set 6 (.val L)) (js_forR 4 (fun _ l => l = (bs.set 5 (.val (.int i))).set 6 (.val L)) je_int (by decide) rfl ?_ fun l h => h) ?_
      · rintro k _ hk rfl
        have hk2 : k < 2 := hk
        exact jb_looseSet 6 (jx_call1 GL (ja_cons (je_v 0) ja_nil) ⟨vs, 2, rfl, rfl⟩) (JX.int (p := fun z => z = (k : Int)) (je_v 4) rfl) rfl (fun j h => h) (fun z h => by omega) (jb_end [4] rfl)
      · rintro _ rfl
        exact jb_end [5, 6] rfl
    rintro _ rfl
    refine jb_if (fun l => l = bs) (jt_eq (je_v 2) je_int) (fun _ => ?_) (fun _ => jb_nil rfl) ?_
    · refine jb_one (js_forRX (p := fun z => 1 ≤ z ∧ z < 6) 5 (fun _ _ l => l = bs) (jx_add (JX.int (p := fun z => z = 1) je_int rfl) (jx_call1 GT (ja_cons (je_v 0) (ja_cons je_int ja_nil)) ⟨vs, 2, 5, rfl, by decide, rfl⟩) fun i j hi hj => by omega) (fun m hm => by omega) (fun _ _ => rfl) ?_ fun _ _ l h => h)
      rintro m hm i _ hi rfl
      refine jb_setX 6 (jx_ixX (Po := fun d => d = L) (JC.je (je_v 3)) (jx_call1 GT (ja_cons (je_v 0) (ja_cons (je_v 1) ja_nil)) ⟨vs, 2, n, rfl, by omega, rfl⟩) fun i hi => ⟨L, at_const hi, rfl⟩) ?_
      rintro _ rfl
      exact jb_looseSet 6 (jx_call1 GL (ja_cons (je_v 0) ja_nil) ⟨vs, 2, rfl, rfl⟩) (jx_call1 GT (ja_cons (je_v 0) (ja_cons (je_v 1) ja_nil)) ⟨vs, 2, n, rfl, by omega, rfl⟩) rfl (fun j h => h) (fun k h => h) (jb_end [5, 6] rfl)
    rintro _ rfl
    refine jb_if (fun l => l = bs) (jt_eq (je_v 2) je_int) (fun _ => ?_) (fun _ => jb_nil rfl) ?_
    · refine jb_one (js_forL (ds := (List.range n).map fun _ => L) 6 (fun _ l => l = bs) (je_v 3) rfl ?_ fun l h => h)
      rintro i d _ hd rfl
      obtain rfl := hL i d hd
      refine jb_looseSet 6 (jx_sub (jx_call1 GT (ja_cons (je_v 0) (ja_cons je_int ja_nil)) ⟨vs, 2, 3, rfl, by decide, rfl⟩) (JX.int (p := fun i => i = 1) je_int rfl) (r := fun z => z.natAbs ≤ 2000) fun i j hi hj => by omega) (JX.int (p := fun z => z = 0) je_int rfl) rfl (fun j h => h) (fun z h => by omega) ?_
      exact jb_looseSet 6 (jx_sub (jx_call1 GT (ja_cons (je_v 0) (ja_cons je_int ja_nil)) ⟨vs, 2, 5, rfl, by decide, rfl⟩) (JX.int (p := fun i => i = 2) je_int rfl) (r := fun z => z.natAbs ≤ 2000) fun i j hi hj => by omega) (JX.int (p := fun z => z = (n : Int) - 1) (je_sub (je_v 1) je_int) rfl) rfl (fun j h => h) (fun z h => by omega) (jb_end [6] rfl)
    rintro _ rfl
    refine jb_ifX (fun l => l = bs) (jtx_and (jt_eq (je_v 2) je_int) fun _ => jtx_cmp (p := fun _ => True) (q := fun _ => True) (Pb := fun _ => True) (fun _ => op_ge) ((jx_handK (k := 2) (je_v 0) je_int (by decide) (by decide)).mono fun d ⟨i, e⟩ => ⟨i, e, trivial⟩) (JX.int (je_v 1) trivial) (fun i j H Q _ _ k => ⟨i, j, rfl, rfl, k _ trivial⟩)) (fun _ => ?_) (fun _ => jb_nil rfl) ?_
    · refine jb_cons (fun l => l = bs) (js_handSet 0 (k := 2) ((jx_sub (p := fun _ => True) (q := fun _ => True) (r := fun _ => True) ((jx_handK (k := 2) (je_v 0) je_int (by decide) (by decide)).mono fun d ⟨i, e⟩ => ⟨i, e, trivial⟩) (JX.int (je_v 1) trivial) fun _ _ _ _ => trivial).mono fun d ⟨i, e, _⟩ => ⟨i, e, fun z => absurd z (by decide)⟩) je_int rfl (by decide) (by decide) rfl) ?_
      rintro _ rfl
      refine jb_cons (fun l => l = bs) (js_forL (ds := (List.range n).map fun _ => L) 6 (fun _ l => l = bs) (je_v 3) rfl ?_ fun l h => h) ?_
      · rintro i d _ hd rfl
        obtain rfl := hL i d hd
        refine jb_set 7 je_int ?_
        refine jb_cons (fun l => ∃ c : Int, l = (bs.set 6 (.val L)).set 7 (.val (.int c))) (js_forR 4 (fun _ l => ∃ c : Int, l = (bs.set 6 (.val L)).set 7 (.val (.int c))) (je_v 1) (by omega) ⟨_, rfl⟩ ?_ fun l h => h) ?_
        · rintro k _ hk ⟨c, rfl⟩
          have hk2 : k < n := by omega
          refine jb_if (fun l => ∃ c : Int, l = ((bs.set 6 (.val L)).set 7 (.val (.int c))).set 4 (.val (.int k))) (jt_w (jw_or (jt_eq (je_v 4) je_int) fun _ => jw_or1 (jt_eq (je_v 4) je_int))) (fun _ => jb_setX 7 (jx_call1 GT (ja_cons (je_v 0) (ja_cons je_int ja_nil)) ⟨vs, 2, 625, rfl, by decide, rfl⟩) ?_) (fun _ => jb_nil ⟨c, rfl⟩) ?_
          · rintro _ ⟨c2, rfl, _⟩
            exact jb_nil ⟨c2, rfl⟩
          rintro _ ⟨c2, rfl⟩
          refine jb_looseSet 6 (JX.int (p := fun z => z.natAbs ≤ 2000) (je_sub (je_mod (je_intI (je_v 7) mint) je_int) je_int) (by omega)) (JX.int (p := fun z => z = (k : Int)) (je_v 4) rfl) rfl (fun j h => h) (fun z h => by omega) ?_
          refine jb_set 7 (je_fdiv (je_v 7) je_int) ?_
          exact jb_end [4] ⟨_, rfl⟩
        · rintro _ ⟨c, rfl⟩
          exact jb_end [6, 7] rfl
      rintro _ rfl
      refine jb_setX 6 (jx_ixX (Po := fun d => d = L) (JC.je (je_v 3)) (jx_call1 GT (ja_cons (je_v 0) (ja_cons (je_v 1) ja_nil)) ⟨vs, 2, n, rfl, by omega, rfl⟩) fun i hi => ⟨L, at_const hi, rfl⟩) ?_
      rintro _ rfl
      exact jb_looseSet 6 (jx_call1 GL (ja_cons (je_v 0) ja_nil) ⟨vs, 2, rfl, rfl⟩) (jx_call1 GT (ja_cons (je_v 0) (ja_cons (je_v 1) ja_nil)) ⟨vs, 2, n, rfl, by omega, rfl⟩) rfl (fun j h => h) (fun k h => h) (jb_end [6] rfl)
    rintro _ rfl
    refine jb_retX (jx_tupleX (jnx_lcL 6 (fun _ d => ∃ js : List Int, d = .tup (iL js) ∧ js.length = n ∧ ∀ j ∈ js, j.natAbs ≤ 2000) (je_v 3) (by rw [List.length_map, List.length_range]; omega) (fun i d hd => ?_) bok) mtuple) ?_
    · obtain rfl := hL i d hd
      exact jx_looseTup (je_v 6) mtuple
    · rintro _ ⟨es, rfl, hlen, hes⟩
      obtain ⟨rows, rfl, hr⟩ := rows_of hes
      rw [List.length_map, List.length_map, List.length_range] at hlen
      exact ⟨rows, rfl, hlen, hr⟩
theorem ok_leaf {f : Addr} {fd : FuncData} (F : Fun K "_law_leaf" "_law_leaf" sLeaf f fd) (GT : Fn P w K mg base 1 "_law_take" rTake T) (GS : Fn P w K mg base 2 "_law_shift" rShift T) (GQ : Fn P w K mg base 3 "_law_square" rSquare T) : FnOk P w K mg base CX0 4 f fd ["hand", "n", "modes"] (spD K rLeaf T) := by
  refine fn_ok F scLeaf (fun ds d h => ?_) (fun cdv A outer s H E hr ds Po h => ?_)
  · obtain ⟨_, _, _, rfl, _⟩ := h
    rfl
  · obtain ⟨vs, n, md, rfl, n2, n8, m0, m5, rfl⟩ := h
    refine jb_setX 3 (jx_ixX (Po := fun d => ∃ m : Str, d = .str m ∧ m ∈ modes5) (JN.jc' (jn_lst (ja_cons je_str (ja_cons je_str (ja_cons je_str (ja_cons je_str (ja_cons je_str ja_nil))))))) (jx_call1 GT (ja_cons (je_v 0) (ja_cons (je_v 2) ja_nil)) ⟨vs, 2, md, rfl, m0, rfl⟩) fun i hi => ?_) ?_
    · have : i = 0 ∨ i = 1 ∨ i = 2 ∨ i = 3 ∨ i = 4 := by omega
      rcases this with rfl | rfl | rfl | rfl | rfl <;> exact ⟨_, rfl, _, rfl, by decide⟩
    rintro _ ⟨m, rfl, hm⟩
    refine jb_un3 4 5 6 (je_tup (ja_cons je_int (ja_cons je_int (ja_cons je_int ja_nil)))) ?_
    refine jb_ifX (fun l => ∃ m : Str, m ∈ modes5 ∧ l = [.val (.hand (iL vs) 2), .val (.int n), .val (.int md), .val (.str m), .val (.int 0), .val (.int 0), .val (.int 0), .any]) (jtx_and (jt_eqS (je_v 3) je_str) fun _ => jtx_eq (p := fun _ => True) (q := fun _ => True) (Pb := fun _ => True) ((jx_handK (k := 3) (je_v 0) je_int (by decide) (by decide)).mono fun d ⟨i, e⟩ => ⟨i, e, trivial⟩) (JX.int je_int trivial) (fun _ _ _ _ => trivial)) (fun _ => ?_) (fun _ => jb_nil ⟨m, hm, rfl⟩) ?_
    · exact jb_set 3 je_str (jb_nil ⟨_, by decide, rfl⟩)
    rintro _ ⟨m, hm, rfl⟩
    refine jb_if (fun l => ∃ (m : Str) (s a b : Int), LfOk m s a b 1 ∧ l = [.val (.hand (iL vs) 2), .val (.int n), .val (.int md), .val (.str m), .val (.int s), .val (.int a), .val (.int b), .any]) (jt_eqS (je_v 3) je_str) (fun hk => ?_) (fun hk => jb_nil ⟨m, 0, 0, 0, ⟨hm, by decide, by decide, by decide, by decide, by decide, .inr ⟨rfl, rfl, rfl⟩⟩, rfl⟩) ?_
    · refine jb_cons (fun l => l = [.val (.hand (iL vs) 2), .val (.int n), .val (.int md), .val (.str m), .val (.int 0), .val (.int 0), .val (.int 0), .any]) (js_handSet 0 (k := 3) ((jx_sub (p := fun _ => True) (q := fun _ => True) (r := fun _ => True) ((jx_handK (k := 3) (je_v 0) je_int (by decide) (by decide)).mono fun d ⟨i, e⟩ => ⟨i, e, trivial⟩) (JX.int je_int trivial) fun _ _ _ _ => trivial).mono fun d ⟨i, e, _⟩ => ⟨i, e, fun z => absurd z (by decide)⟩) je_int rfl (by decide) (by decide) rfl) ?_
      rintro _ rfl
      refine jb_par3 4 5 6 (Pa := fun ds => ∃ s a b : Int, ds = [.int s, .int a, .int b] ∧ 0 ≤ s ∧ s < 3 ∧ a.natAbs ≤ 31 ∧ b.natAbs ≤ 31) (jxa_cons (jx_call1 GT (ja_cons (je_v 0) (ja_cons je_int ja_nil)) ⟨vs, 2, 3, rfl, by decide, rfl⟩) (fun d1 h1 => jxa_cons (jx_call1 GS (ja_cons (je_v 0) ja_nil) ⟨vs, 2, rfl, rfl⟩) (fun d2 h2 => jxa_cons (jx_call1 GS (ja_cons (je_v 0) ja_nil) ⟨vs, 2, rfl, rfl⟩) (fun d3 h3 => jxa_nil ?_) ⟨.int 0, 0, rfl, by decide⟩) ⟨.int 0, 0, rfl, by decide⟩) ⟨.int 0, 0, rfl, by decide, by decide⟩) ?_ ?_
      · obtain ⟨s, rfl, hs⟩ := h1
        obtain ⟨a, rfl, ha⟩ := h2
        obtain ⟨b, rfl, hb⟩ := h3
        exact ⟨s, a, b, rfl, hs.1, hs.2, ha, hb⟩
      · rintro _ _ _ ⟨s, a, b, e, h1, h2, h3, h4⟩
        cases e
        exact jb_nil ⟨m, s, a, b, ⟨hm, h1, h2, h3, h4, by decide, .inl (of_decide_eq_true hk)⟩, rfl⟩
      · rintro _ ⟨s, a, b, rfl, _⟩
        rfl
    rintro _ ⟨m, s, a, b, hlf, rfl⟩
    refine jb_setX 7 (jx_ixX (Po := fun d => ∃ q : Int, d = .int q ∧ q ∈ quanta) (JN.jc' (jn_lst (ja_cons je_int (ja_cons je_int (ja_cons je_int (ja_cons je_int (ja_cons je_int (ja_cons je_int (ja_cons je_int ja_nil))))))))) (jx_call1 GT (ja_cons (je_v 0) (ja_cons je_int ja_nil)) ⟨vs, 2, 7, rfl, by decide, rfl⟩) fun i hi => ?_) ?_
    · have : i = 0 ∨ i = 1 ∨ i = 2 ∨ i = 3 ∨ i = 4 ∨ i = 5 ∨ i = 6 := by omega
      rcases this with rfl | rfl | rfl | rfl | rfl | rfl | rfl <;> exact ⟨_, rfl, _, rfl, by decide⟩
    rintro _ ⟨q, rfl, hq⟩
    refine jb_retX (jx_tup (Pa := fun ds => LeafD n (.tup ds)) (jxa_cons (JX.of je_str rfl) (fun d1 h1 => jxa_cons (JX.of (je_v 3) rfl) (fun d2 h2 => jxa_cons (JX.of (je_v 4) rfl) (fun d3 h3 => jxa_cons (JX.of (je_v 5) rfl) (fun d4 h4 => jxa_cons (JX.of (je_v 6) rfl) (fun d5 h5 => jxa_cons (JX.of (je_v 7) rfl) (fun d6 h6 => jxa_cons (jx_call1 GQ (ja_cons (je_v 0) (ja_cons (je_v 1) ja_nil)) ⟨vs, n, rfl, n2, n8, rfl⟩) (fun d7 h7 => jxa_nil ?_) (sqD_ex n)) ⟨_, rfl⟩) ⟨_, rfl⟩) ⟨_, rfl⟩) ⟨_, rfl⟩) ⟨_, rfl⟩) ⟨_, rfl⟩) fun ds h => ?_) fun d h => ?_
    · rw [← h1, ← h2, ← h3, ← h4, ← h5, ← h6]
      exact ⟨m, s, a, b, q, d7, rfl, ⟨hlf.m5, hlf.s0, hlf.s3, hlf.a31, hlf.b31, hq, hlf.mo⟩, h7⟩
    · obtain ⟨_, _, _, _, _, _, e, _⟩ := h
      cases e
      exact Nat.le_of_ble_eq_true rfl
    · obtain ⟨ds, rfl, h⟩ := h
      exact h
end

end T15

set_option maxHeartbeats 4000000
namespace T15
open PySem PySem.Spec PyProof.Rows L2 Qp
section
variable {P : Program} {w : World} {K : Fg} {mg : Str → Option Value} {base : Heap} {T : Addr → Prop}
theorem treeD_ex (k : Nat) : ∃ d, TreeD k d := by
  obtain ⟨d, h⟩ := leafD_ex (sz k)
  exact ⟨d, .leaf h⟩
theorem sz_le {k : Nat} (h : k ≤ 2) : 2 ≤ sz k ∧ sz k ≤ 8 := by
  have : k = 0 ∨ k = 1 ∨ k = 2 := by omega
  rcases this with rfl | rfl | rfl <;> decide
theorem ok_tree {f : Addr} {fd : FuncData} (k lv : Nat) (hk2 : k ≤ 2) (h4 : 4 ≤ lv) (F : Fun K "_law_tree" "_law_tree" sTree f fd) (mtuple : mg "tuple" = none) (mrange : mg "range" = none) (GT : Fn P w K mg base 1 "_law_take" rTake T) (GL : Fn P w K mg base 4 "_law_leaf" rLeaf T) (GR : ∀ j, k = j + 1 → Fn P w K mg base lv "_law_tree" (rTree j) T) : FnOk P w K mg base CX0 (lv + 1) f fd ["hand", "n", "modes"] (spD K (rTree k) T) := by
  refine fn_ok F scTree (fun ds d h => ?_) (fun cdv A outer s H E hr ds Po h => ?_)
  · obtain ⟨_, _, rfl, _⟩ := h
    rfl
  · obtain ⟨vs, md, rfl, m0, m5, rfl⟩ := h
    refine jb_ifxX (jtx_and (jt_gt (je_v 1) je_int) fun _ => jtx_cmp (Pb := fun _ => True) (fun _ => op_gt) (jx_call1 GT (ja_cons (je_v 0) (ja_cons je_int ja_nil)) ⟨vs, 2, 8, rfl, by decide, rfl⟩ (show 1 ≤ lv by omega)) (JX.int (p := fun _ => True) je_int trivial) (fun i j H Q _ _ k => ⟨i, j, rfl, rfl, k _ trivial⟩)) (fun hk => ?_) fun _ => ?_
    · rcases hk with ⟨_, hk⟩ | ⟨hk, _⟩
      · cases hk
      have hn : (2 : Int) < (sz k : Nat) := of_decide_eq_true hk
      cases k with
      | zero => exact absurd hn (by decide)
      | succ k =>
        refine jb_retX (jx_tup (Pa := fun ds => TreeD (k + 1) (.tup ds)) (jxa_cons (JX.of je_str rfl) (fun d1 h1 => jxa_cons (jx_tupleX (jnx_lcR 3 (fun _ d => TreeD k d) je_int (by decide) (fun i hi => ?_) bok) mtuple) (fun d2 h2 => jxa_nil ?_) ?_) ⟨_, rfl⟩) fun ds h => ?_) fun d h => ?_
        · exact jx_call1 (GR k rfl) (ja_cons (je_v 0) (ja_cons ((je_fdiv (je_v 1) je_int).is (congrArg D.int (sz_half k))) (ja_cons (je_v 2) ja_nil))) ⟨vs, md, rfl, m0, m5, rfl⟩ (Nat.le_refl lv)
        · obtain ⟨es, rfl, hl, he⟩ := h2
          rw [← h1]
          refine .split hl fun d hd => ?_
          obtain ⟨i, hi⟩ := List.getElem?_of_mem hd
          exact he i d hi
        · obtain ⟨t, ht⟩ := treeD_ex k
          refine ⟨_, List.replicate 4 t, rfl, rfl, fun i d hd => ?_⟩
          rw [List.eq_of_mem_replicate (List.mem_of_getElem? hd)]
          exact ht
        · have : ∀ {d : D}, TreeD (k + 1) d → ∀ es, d = .tup es → es.length ≤ 1000000 := fun h es e => by
            cases h with
            | leaf h =>
              obtain ⟨_, _, _, _, _, _, e2, _⟩ := h
              rw [e2] at e
              cases e
              exact Nat.le_of_ble_eq_true rfl
            | split _ _ => cases e; exact Nat.le_of_ble_eq_true rfl
          exact this h ds rfl
        · obtain ⟨ds, rfl, h⟩ := h
          exact h
    · have := sz_le hk2
      exact jb_retX (jx_call1 GL (ja_cons (je_v 0) (ja_cons (je_v 1) (ja_cons (je_v 2) ja_nil))) ⟨vs, sz k, md, rfl, this.1, this.2, m0, m5, rfl⟩ h4) fun d h => .leaf h
theorem ok_band {f : Addr} {fd : FuncData} (F : Fun K "_law_band" "_law_band" sBand f fd) (mtuple : mg "tuple" = none) (mrange : mg "range" = none) (GR : Fn P w K mg base 7 "_law_tree" (rTree 2) T) : FnOk P w K mg base CX0 8 f fd ["hand", "blocks", "modes"] (spD K rBand T) := by
  refine fn_ok F scBand (fun ds d h => ?_) (fun cdv A outer s H E hr ds Po h => ?_)
  · obtain ⟨_, _, _, rfl, _⟩ := h
    rfl
  · obtain ⟨vs, b, md, rfl, b4, m0, m5, rfl⟩ := h
    refine jb_retX (jx_tupleX (jnx_lcR 3 (fun _ d => TreeD 2 d) (je_v 1) (by omega) (fun i hi => ?_) bok) mtuple) fun d h => ?_
    · exact jx_call1 GR (ja_cons (je_v 0) (ja_cons je_int (ja_cons (je_v 2) ja_nil))) ⟨vs, md, rfl, m0, m5, rfl⟩
    · obtain ⟨es, rfl, hl, he⟩ := h
      refine ⟨es, rfl, by rw [hl, Int.toNat_natCast], fun d hd => ?_⟩
      obtain ⟨i, hi⟩ := List.getElem?_of_mem hd
      exact he i d hi
end
/-! ### their weights -/
theorem sc_tup' {n m : Nat} {ds : List D} (h : ∀ d ∈ ds, Sc n d) (hm : n + 1 ≤ m) : Sc m (.tup ds) := (sc_tup h).mono hm
theorem sc_iL {js : List Int} (h : ∀ j ∈ js, j.natAbs < 2 ^ 39) : ∀ d ∈ iL js, Sc 0 d := fun d hd => by
  obtain ⟨j, hj, rfl⟩ := List.mem_map.mp hd
  exact sc_int (h j hj)
theorem sqD_fine {n : Nat} {d : D} (h : SqD n d) : Sc 2 d ∧ d.py.weight ≤ n * (n * 12 + 1) := by
  obtain ⟨rows, rfl, hl, hr⟩ := h
  refine ⟨sc_tup' (n := 1) (fun d hd => ?_) (by decide), ?_⟩
  · obtain ⟨r, hr', rfl⟩ := List.mem_map.mp hd
    exact sc_tup' (sc_iL fun j hj => Nat.lt_of_le_of_lt ((hr r hr').2 j hj) (by decide)) (by decide)
  · show (D.tup _).py.weight ≤ _
    rw [w_tup]
    refine Nat.le_trans (wA_le (W := n * 12) fun d hd => ?_) ?_
    · obtain ⟨r, hr', rfl⟩ := List.mem_map.mp hd
      rw [w_tup]
      refine Nat.le_trans (wA_le (W := 11) fun d hd => ?_) ?_
      · obtain ⟨j, hj, rfl⟩ := List.mem_map.mp hd
        exact w_int (Nat.lt_of_le_of_lt ((hr r hr').2 j hj) (by decide)) (by decide)
      · rw [iL_len, (hr r hr').1]
        exact Nat.le_refl _
    · rw [List.length_map, hl]
      exact Nat.le_refl _
theorem mode_ok {m : Str} (h : m ∈ modes5) : PyData.strOk m = true ∧ m.cps.size ≤ 6 := by
  simp only [modes5, List.mem_cons, List.not_mem_nil, or_false] at h
  rcases h with rfl | rfl | rfl | rfl | rfl <;> exact ⟨by decide +kernel, by decide +kernel⟩
theorem leafD_fine {n : Nat} {d : D} (h : LeafD n d) : Sc 3 d ∧ d.py.weight ≤ n * (n * 12 + 1) + 47 := by
  obtain ⟨m, s, a, b, q, l, rfl, hl, hs⟩ := h
  obtain ⟨h1, h2⟩ := sqD_fine hs
  obtain ⟨m1, m2⟩ := mode_ok hl.m5
  have hq : q.natAbs ≤ 64 := by
    have := hl.q7
    simp only [quanta, List.mem_cons, List.not_mem_nil, or_false] at this
    omega
  have e31 : ∀ {i : Int}, i.natAbs ≤ 31 → i.natAbs < 2 ^ 5 := fun h => Nat.lt_of_le_of_lt h (by decide)
  have s5 : s.natAbs < 2 ^ 5 := by have := hl.s0; have := hl.s3; omega
  have q7 : q.natAbs < 2 ^ 7 := Nat.lt_of_le_of_lt hq (by decide)
  have big : ∀ {i : Int} {k : Nat}, i.natAbs < 2 ^ k → k ≤ 7 → i.natAbs < 2 ^ 39 := fun h hk => Nat.lt_of_lt_of_le h (Nat.pow_le_pow_right (by decide) (by omega))
  refine ⟨sc_tup' (n := 2) (fun d hd => ?_) (by decide), ?_⟩
  · simp only [List.mem_cons, List.not_mem_nil, or_false] at hd
    rcases hd with rfl | rfl | rfl | rfl | rfl | rfl | rfl
    · exact (sc_str (by decide +kernel)).mono (by decide)
    · exact (sc_str m1).mono (by decide)
    · exact (sc_int (big s5 (by decide))).mono (by decide)
    · exact (sc_int (big (e31 hl.a31) (by decide))).mono (by decide)
    · exact (sc_int (big (e31 hl.b31) (by decide))).mono (by decide)
    · exact (sc_int (big q7 (by decide))).mono (by decide)
    · exact h1
  · show (D.tup _).py.weight ≤ _
    rw [w_tup]
    simp only [wA_cons, wA_nil, w_str]
    have w1 := w_int s5 (by decide)
    have w2 := w_int (e31 hl.a31) (by decide)
    have w3 := w_int (e31 hl.b31) (by decide)
    have w4 := w_int q7 (by decide)
    have : (Str.ofString "leaf").cps.size = 4 := by decide +kernel
    omega
def tW : Nat → Nat
  | 0 => 100
  | 1 => 420
  | _ => 1700
theorem treeD_fine : ∀ {k : Nat} {d : D}, k ≤ 2 → TreeD k d → Sc (3 + 2 * k) d ∧ d.py.weight ≤ tW k
  | k, _, hk, .leaf h => by
    obtain ⟨h1, h2⟩ := leafD_fine h
    refine ⟨h1.mono (by omega), Nat.le_trans h2 ?_⟩
    have : k = 0 ∨ k = 1 ∨ k = 2 := by omega
    rcases this with rfl | rfl | rfl <;> decide
  | k + 1, _, hk, .split (ds := ds) hl h => by
    have ih : ∀ d ∈ ds, Sc (3 + 2 * k) d ∧ d.py.weight ≤ tW k := fun d hd => treeD_fine (by omega) (h d hd)
    refine ⟨sc_tup' (n := 4 + 2 * k) (fun d hd => ?_) (by omega), ?_⟩
    · simp only [List.mem_cons, List.not_mem_nil, or_false] at hd
      rcases hd with rfl | rfl
      · exact (sc_str (by decide +kernel)).mono (by omega)
      · exact sc_tup' (fun d hd => (ih d hd).1) (by omega)
    · rw [w_tup]
      simp only [wA_cons, wA_nil, w_str, w_tup]
      have h1 := wA_le fun d hd => (ih d hd).2
      rw [hl] at h1
      have : (Str.ofString "split").cps.size = 5 := by decide +kernel
      have hk' : k = 0 ∨ k = 1 := by omega
      rcases hk' with rfl | rfl
      · have e1 : tW 0 = 100 := rfl
        have e2 : tW (0 + 1) = 420 := rfl
        omega
      · have e1 : tW 1 = 420 := rfl
        have e2 : tW (1 + 1) = 1700 := rfl
        omega
theorem bandD_fine {b : Nat} {d : D} (hb : b ≤ 4) (h : BandD b d) : Sc 8 d ∧ d.py.weight ≤ 6900 := by
  obtain ⟨ts, rfl, hl, ht⟩ := h
  refine ⟨sc_tup' (n := 7) (fun d hd => (treeD_fine (Nat.le_refl 2) (ht d hd)).1) (by decide), ?_⟩
  rw [w_tup]
  have h1 := wA_le fun d hd => (treeD_fine (Nat.le_refl 2) (ht d hd)).2
  have e2 : tW 2 = 1700 := rfl
  have : ts.length * (tW 2 + 1) ≤ 4 * (tW 2 + 1) := Nat.mul_le_mul_right _ (by omega)
  omega

end T15

/-! Q44: a tuple turned round; texts joined and cut. -/
namespace Qp
open PySem PySem.Spec PyProof.Rows L2
section
variable {prog : Program} {w : World} {A : Around} {E : Value → Shared → Prop} {s : Shared}
theorem sliceApplied_rev {sl : Addr} {vs : Value} {n : Nat} {Q : Int × Int × Nat → Shared → Prop} (hs : s.heap.IsSliceOf sl .none .none vs) (ps : IsPart vs (some (-1)))
    (h : Q ((n : Int) - 1, -1, n) s) : wpAny (model prog w) A (Builtin.Slice.sliceApplied (.ref sl) (pure (n : Int))) Q E s := by
  obtain ⟨os, hos, hcs, hds⟩ := id hs
  unfold Builtin.Slice.sliceApplied Builtin.Slice.sliceFields
  refine wpAny_bind (wpAny_bind (wpAny_field hos hds (x := .none) rfl (wpAny_bind (wpAny_field hos hds (x := .none) rfl (wpAny_bind (wpAny_field hos hds (x := vs) rfl (wpAny_pure ?_)))))))
  refine wpAny_bind (HT.slicePart_ ps ?_)
  show wpAny _ _ (if ((-1 : Int) == 0) = true then _ else _) _ _ s
  rw [if_neg (by decide)]
  refine wpAny_bind (HT.slicePart_ .none (wpAny_bind (HT.slicePart_ .none (wpAny_bind (wpAny_pure ?_)))))
  show wpAny _ _ (pure ((n : Int) - 1, (-1 : Int), Builtin.Slice.slicePlaces ((n : Int) - 1) (-1) (-1))) _ _ s
  have e : Builtin.Slice.slicePlaces ((n : Int) - 1) (-1) (-1) = n := by
    unfold Builtin.Slice.slicePlaces
    have h1 : ¬ ((-1 : Int) > 0) := by decide
    have h2 : (-(-1) : Int) = 1 := by decide
    simp only [h1, if_false, h2, Int.ediv_one]
    split <;> omega
  rw [e]
  exact wpAny_pure h
theorem pick_rev (xs : Array Value) : ((List.range xs.size).filterMap fun (m : Nat) => xs[((xs.size : Int) - 1 + (m : Int) * -1).toNat]?).toArray = xs.toList.reverse.toArray := by
  have e : (List.range xs.size).filterMap (fun (m : Nat) => xs[((xs.size : Int) - 1 + (m : Int) * -1).toNat]?) = ((List.range xs.size).map fun k => xs.size - 1 - k).filterMap (xs[·]?) := by
    rw [List.filterMap_map]
    have key : ∀ l : List Nat, (∀ m ∈ l, m < xs.size) → l.filterMap (fun (m : Nat) => xs[((xs.size : Int) - 1 + (m : Int) * -1).toNat]?) = l.filterMap ((fun x => xs[x]?) ∘ fun k => xs.size - 1 - k) := by
      intro l
      induction l with
      | nil => intro _; rfl
      | cons m l ih =>
        intro h
        have hm := h m List.mem_cons_self
        have e1 : xs[((xs.size : Int) - 1 + (m : Int) * -1).toNat]? = ((fun x => xs[x]?) ∘ fun k => xs.size - 1 - k) m := by
          show _ = xs[xs.size - 1 - m]?
          congr 1
          omega
        rw [List.filterMap_cons, List.filterMap_cons, e1, ih fun m hm => h m (List.mem_cons_of_mem _ hm)]
    exact key _ fun m hm => List.mem_range.mp hm
  rw [e, PySem.W.krv_range, List.filterMap_reverse, PySem.W.krv_all]
theorem getItem_tuple_rev {t sl : Addr} {items : Array Value} {vs : Value} {Q : Value → Shared → Prop} (ht : IsTup s.heap t items) (hs : s.heap.IsSliceOf sl .none .none vs) (ps : IsPart vs (some (-1)))
    (h : Q (.ref s.heap.objs.size) { s with heap := s.heap.push { cls := .type "tuple", data := .seq items.toList.reverse.toArray } })
    (hsz : items.size ≤ sizeLine) : wpAny (model prog w) A (getItem (.ref t) (.ref sl)) Q E s := by
  have htake : sizeOk (.seq items.toList.reverse.toArray) := by
    show items.toList.reverse.toArray.size ≤ sizeLine
    rw [List.size_toArray, List.length_reverse, Array.length_toList]
    exact hsz
  obtain ⟨os, hos, hcs, hds⟩ := id hs
  have hTs : s.TypeIs (.ref sl) "slice" := ⟨os, hos, hcs⟩
  unfold getItem
  try with_reducible refine wpAny_holding ?_
  first | refine wpAny_bind (wpAny_pure ?_) | skip
  refine wpAny_bind (wpAny_sequenceKey ht.typeIs (by decide) ?_)
  refine wpAny_bind (wpAny_callSpecial?_slot (name := Str.ofString "__getitem__") ht.typeIs PyProof.Rows.slot_tuple_getitem
    (wpAny_call_entry PyProof.Rows.slot_tuple_getitem ht.typeIs entry_tuple_getitem ?_ (args_tuple_getitem _ _)))
  show wpAny _ _ (Builtin.Tuple.tupleItemsOf (.ref t) >>= _) _ _ s
  refine wpAny_bind (tupleItemsOf_ ht ?_)
  refine wpAny_bind (wpAny_typeOf hTs ?_)
  rw [if_pos (by decide)]
  refine wpAny_bind (sliceApplied_rev hs ps ?_)
  have hno : ¬ ((((items.size : Int) - 1) == 0 && (-1 : Int) == 1 && items.size == items.size) = true) := by
    intro q
    rw [Bool.and_eq_true, Bool.and_eq_true] at q
    exact absurd q.1.2 (by decide)
  show wpAny _ _ (if (((items.size : Int) - 1) == 0 && (-1 : Int) == 1 && items.size == items.size) = true then _ else _) _ _ s
  rw [if_neg hno, pick_rev]
  first
    | exact wpAny_bind (m := Builtin.Tuple.tupleExact _) (wpAny_newObj_type (wpAny_pure ⟨_, rfl, wpAny_pure h⟩) htake)
    | exact wpAny_bind (m := Builtin.Tuple.tupleExact _) (wpAny_newObj_type (wpAny_bind (wpAny_pure (wpAny_pure ⟨_, rfl, wpAny_pure h⟩))) htake)
    | exact wpAny_bind (wpAny_bind (m := Builtin.Tuple.tupleExact _) (wpAny_newObj_type (wpAny_pure (wpAny_pure ⟨_, rfl, wpAny_pure h⟩)) htake))
    | exact wpAny_bind (wpAny_bind (m := Builtin.Tuple.tupleExact _) (wpAny_newObj_type (wpAny_pure ⟨_, rfl, wpAny_pure h⟩) htake))
end
def tRevT (K : Fg) (te : TE) : TE := fun σ H Q => te σ H fun x H1 => ∃ a xs, x = .ref a ∧ SqT K H1 a xs ∧ ∀ p, H1 p = none → Q (.ref p) (upd H1 p (.tup xs.reverse))
theorem pe_revT {X : Cx} {e : Expr} {te : TE} {k : Nat} {p1 p2 p3 pos : Pos} (he : PE X e te) : PE X (.Subscript e (.Slice none none (some (.UnaryOp .USub (.Constant (.int 1) k p1) p2)) p3) pos) (tRevT X.K te) := by
  refine ⟨fun pins s σ H Q I h => ?_⟩
  refine Subscript_ (thn (he.run pins s σ H _ I h) fun v s1 ⟨x, H1, I1, r1, q1⟩ => ?_)
  obtain ⟨a, xs, ex, hx, q⟩ := q1
  subst ex
  cases r1
  have hst : PO X (some (.UnaryOp .USub (.Constant (.int 1) k p1) p2)) (tPart (tUn (rU fun i => .int (-i)) (tC (.int 1)))) := po_some (pe_un un_neg pe_int)
  refine wpAny_Slice (thn (po_none.run pins s1 σ H1 (fun o H2 => (o = none ∧ H2 = H1)) I1 ⟨rfl, rfl⟩) fun vl s2 ⟨l, H2, I2, pl, el, e2⟩ => ?_)
  subst el e2
  refine thn (po_none.run pins s2 σ H2 (fun o H3 => o = none ∧ H3 = H2) I2 ⟨rfl, rfl⟩) fun vu s3 ⟨u, H3, I3, pu, eu, e3⟩ => ?_
  subst eu e3
  refine thn (hst.run pins s3 σ H3 (fun o H4 => o = some (-1) ∧ H4 = H3) I3 ⟨1, rfl, -1, rfl, rfl, rfl⟩) fun vs s4 ⟨o, H4, I4, ps, eo, e4⟩ => ?_
  subst eo e4
  cases pl
  cases pu
  have I5 : Inv X pins σ H4 { s4 with heap := s4.heap.push { cls := .type "slice", data := .fields #[.none, .none, vs] } } := I4.kept (t' := s4.toks) fun b ob q => Heap.get?_push_of_some _ q
  obtain ⟨its, r, ht, hz⟩ := I5.tuple hx
  have hlen := r.length
  show wpAny (model X.prog X.w) X.A (subscriptTail e (.Slice none none (some (.UnaryOp .USub (.Constant (.int 1) k p1) p2)) p3) (.ref a) (.ref s4.heap.objs.size)) (EP X pins σ Q) X.xe { s4 with heap := s4.heap.push { cls := .type "slice", data := .fields #[.none, .none, vs] } }
  refine tail_any (ops := [.ref a, .ref s4.heap.objs.size]) ht.typeIs (PyProof.Rows.slot_tuple_getitem.lookup) ?_ (by with_unfolding_all rfl)
  refine getItem_tuple_rev ht (Heap.IsSliceOf.new _ .none .none vs) ps ?_ (by rw [List.size_toArray]; omega)
  refine ⟨.ref _, _, I5.laid (t' := s4.toks) (o := .tup xs.reverse) (fun b ob q => Heap.get?_push_of_some _ q) (Nat.le_refl _) ?_, rfl, q _ (I5.hok.fresh (Nat.le_refl _))⟩
  exact ⟨by rw [List.length_reverse]; exact hz, _, r.reverse, IsTup.new _ _⟩
theorem dqAll_rev {K : Fg} {G : Hp} : ∀ {vs : List V} {ds : List D}, DqAll K G vs ds → DqAll K G vs.reverse ds.reverse
  | _, _, .nil => .nil
  | _, _, .cons h a => by
    rw [List.reverse_cons, List.reverse_cons]
    exact dqAll_app (dqAll_rev a) (.cons h .nil)
section
variable {C : Cs} {ls : List Loc} {e a b : Expr} {ds : List D} {pos p2 : Pos} {x y z : Str}
theorem je_revT {k : Nat} {p1 p2 p3 : Pos} (ha : JE C ls a (.tup ds)) : JE C ls (.Subscript a (.Slice none none (some (.UnaryOp .USub (.Constant (.int 1) k p1) p2)) p3) pos) (.tup ds.reverse) :=
  je_of (fun j => kx (p := fun K => PE (C.X j) _ (tRevT K (eAny C a))) j (pe_revT (pe_any C a j))) fun F G H σ S xx Q q => ha F G H σ S xx _ fun v G1 H1 eg1 eh1 S1 hv => by
    obtain ⟨p, vs, rfl, ht, hd⟩ := dq_tup hv
    exact ⟨p, vs, rfl, ex_t S1.ex ht, ev_lay S1 (dqAll_rev hd) fun v G3 H3 eg3 eh3 S3 hv3 => q v G3 H3 (eg1.trans eg3) (eh1.trans eh3) S3 hv3⟩
theorem je_addS (ha : JE C ls a (.str x)) (hb : JE C ls b (.str y)) (hl : x.length + y.length ≤ sizeLine) : JE C ls (.BinOp a .Add b pos) (.str (x ++ y)) :=
  je_of (fun j => pe_op op_add_str (pe_any C a j) (pe_any C b j)) (ev_op ha hb fun G H v u Q eg hv hu q => ⟨x, y, dq_str hv, dq_str hu, hl, q _ (.str _)⟩)
theorem je_sliceS {lo hi : Option Expr} {l u : Option Int} (ha : JE C ls a (.str z)) (h1 : JO C ls lo l) (h2 : JO C ls hi u) (hl : z.length ≤ sizeLine) : JE C ls (.Subscript a (.Slice lo hi none p2) pos) (.str (cutS z l u)) :=
  je_of (fun j => pe_slice sl_str (pe_any C a j) (po_any C lo j) (po_any C hi j)) fun F G H σ S xx Q q => ha F G H σ S xx _ fun v G1 H1 eg1 eh1 S1 hv => h1 F G1 H1 σ S1 (xx.step eg1 eh1) _ fun G2 H2 eg2 eh2 S2 => h2 F G2 H2 σ S2 ((xx.step eg1 eh1).step eg2 eh2) _ fun G3 H3 eg3 eh3 S3 => ⟨z, dq_str hv, hl, q _ G3 H3 ((eg1.trans eg2).trans eg3) ((eh1.trans eh2).trans eh3) S3 (.str _)⟩
end
theorem strOk_app {a b : Str} (ha : PyData.strOk a = true) (hb : PyData.strOk b = true) : PyData.strOk (a ++ b) = true := by
  unfold PyData.strOk at *
  rw [Str.cps_append, Array.all_append, ha, hb]
  rfl
theorem strOk_cut {z : Str} (hz : PyData.strOk z = true) (lo hi : Option Int) : PyData.strOk (cutS z lo hi) = true := by
  unfold PyData.strOk at *
  rw [Array.all_eq_true'] at *
  intro c hc
  refine hz c ?_
  unfold cutS at hc
  have h1 := Array.mem_toList_iff.mpr hc
  have h2 := List.mem_of_mem_drop (List.mem_of_mem_take (by simpa using h1))
  exact Array.mem_toList_iff.mp h2
theorem size_app (a b : Str) : (a ++ b).cps.size = a.cps.size + b.cps.size := by rw [Str.cps_append, Array.size_append]
theorem size_cut (z : Str) (lo hi : Option Int) : (cutS z lo hi).cps.size ≤ z.cps.size := by
  unfold cutS
  rw [List.size_toArray, List.length_take, List.length_drop, Array.length_toList]
  omega
end Qp

/-! Q45: fine values with small integers. -/
namespace Qp
open PySem PySem.Spec PyProof.Rows L2
mutual
def fineB (k : Nat) : D → Bool
  | .non => true
  | .bl _ => true
  | .int i => decide (i.natAbs < 2 ^ k)
  | .str x => PyData.strOk x
  | .lst xs => fineAll k xs
  | .tup xs => fineAll k xs
  | _ => false
def fineAll (k : Nat) : List D → Bool
  | [] => true
  | d :: ds => fineB k d && fineAll k ds
end
theorem fineAll_mem {k : Nat} : ∀ {ds : List D}, fineAll k ds = true → ∀ d ∈ ds, fineB k d = true
  | [], _ => fun _ h => (List.not_mem_nil h).elim
  | e :: ds, h => fun d hd => by
    rw [fineAll, Bool.and_eq_true] at h
    rcases List.mem_cons.mp hd with z | hd
    · rw [z]; exact h.1
    · exact fineAll_mem h.2 d hd
theorem fineAll_of {k : Nat} : ∀ {ds : List D}, (∀ d ∈ ds, fineB k d = true) → fineAll k ds = true
  | [], _ => by rw [fineAll]
  | e :: ds, h => by
    rw [fineAll, h e List.mem_cons_self, fineAll_of fun d hd => h d (List.mem_cons_of_mem _ hd)]
    rfl
mutual
theorem fineB_mono {k l : Nat} (hk : k ≤ l) : ∀ d : D, fineB k d = true → fineB l d = true
  | .non, _ => rfl
  | .bl _, _ => rfl
  | .int i, h => by
    rw [fineB, decide_eq_true_iff] at *
    exact Nat.lt_of_lt_of_le h (Nat.pow_le_pow_right (by decide) hk)
  | .str x, h => by rw [fineB] at *; exact h
  | .lst xs, h => by rw [fineB] at *; exact fineAll_mono hk xs h
  | .tup xs, h => by rw [fineB] at *; exact fineAll_mono hk xs h
  | .scr _, h => by simp [fineB] at h
  | .ref _, h => by simp [fineB] at h
  | .ty _, h => by simp [fineB] at h
  | .exc _ _ _, h => by simp [fineB] at h
  | .hand _ _, h => by simp [fineB] at h
  | .loose _ _, h => by simp [fineB] at h
theorem fineAll_mono {k l : Nat} (hk : k ≤ l) : ∀ ds : List D, fineAll k ds = true → fineAll l ds = true
  | [], _ => by rw [fineAll]
  | d :: ds, h => by
    rw [fineAll, Bool.and_eq_true] at *
    exact ⟨fineB_mono hk d h.1, fineAll_mono hk ds h.2⟩
end
mutual
theorem fineB_sc {k : Nat} (hk : k ≤ 39) : ∀ d : D, fineB k d = true → Sc d.py.depth d
  | .non, _ => sc_non
  | .bl _, _ => sc_bl
  | .int i, h => by
    rw [fineB, decide_eq_true_iff] at h
    exact sc_int (Nat.lt_of_lt_of_le h (Nat.pow_le_pow_right (by decide) hk))
  | .str x, h => by rw [fineB] at h; exact sc_str h
  | .lst xs, h => by
    rw [fineB] at h
    exact sc_lst fun d hd => (fineAll_sc hk xs h d hd).2
  | .tup xs, h => by
    rw [fineB] at h
    exact sc_tup fun d hd => (fineAll_sc hk xs h d hd).2
  | .scr _, h => by simp [fineB] at h
  | .ref _, h => by simp [fineB] at h
  | .ty _, h => by simp [fineB] at h
  | .exc _ _ _, h => by simp [fineB] at h
  | .hand _ _, h => by simp [fineB] at h
  | .loose _ _, h => by simp [fineB] at h
theorem fineAll_sc {k : Nat} (hk : k ≤ 39) : ∀ ds : List D, fineAll k ds = true → ∀ d ∈ ds, d.py.depth ≤ PyData.depthAll (pyAll ds) ∧ Sc (PyData.depthAll (pyAll ds)) d
  | [], _ => fun _ h => (List.not_mem_nil h).elim
  | e :: ds, h => fun d hd => by
    rw [fineAll, Bool.and_eq_true] at h
    have e1 : PyData.depthAll (pyAll (e :: ds)) = max e.py.depth (PyData.depthAll (pyAll ds)) := rfl
    rw [e1]
    rcases List.mem_cons.mp hd with z | hd
    · rw [z]
      exact ⟨Nat.le_max_left _ _, (fineB_sc hk e h.1).mono (Nat.le_max_left _ _)⟩
    · have := fineAll_sc hk ds h.2 d hd
      exact ⟨Nat.le_trans this.1 (Nat.le_max_right _ _), this.2.mono (Nat.le_max_right _ _)⟩
end
/-- fine: integers below 2 ^ k in size, nested at most n deep, of weight at most W -/
structure Fi (k n W : Nat) (d : D) : Prop where
  fb : fineB k d = true
  dp : d.py.depth ≤ n
  wt : d.py.weight ≤ W
theorem Fi.mono {k n W k' n' W' : Nat} {d : D} (h : Fi k n W d) (h1 : k ≤ k') (h2 : n ≤ n') (h3 : W ≤ W') : Fi k' n' W' d := ⟨fineB_mono h1 d h.fb, Nat.le_trans h.dp h2, Nat.le_trans h.wt h3⟩
theorem Fi.sc {k n W : Nat} {d : D} (h : Fi k n W d) (hk : k ≤ 39) : Sc n d := (fineB_sc hk d h.fb).mono h.dp
theorem Fi.sw {k n W : Nat} {d : D} (h : Fi k n W d) (hk : k ≤ 39) : Sw n W d := (h.sc hk).sw h.wt
theorem fi_non {k n W : Nat} : Fi k n W .non := ⟨rfl, Nat.zero_le _, Nat.zero_le _⟩
theorem fi_bl {k n W : Nat} {b : Bool} : Fi k n W (.bl b) := ⟨rfl, Nat.zero_le _, Nat.zero_le _⟩
theorem fi_int {k n W : Nat} {i : Int} (h : i.natAbs < 2 ^ k) (hk : k ≤ 39) (hW : k ≤ W) : Fi k n W (.int i) := ⟨by rw [fineB]; exact decide_eq_true h, Nat.zero_le _, Nat.le_trans (w_int h hk) hW⟩
theorem fi_str {k n W : Nat} {x : Str} (h : PyData.strOk x = true) (hW : x.cps.size ≤ W) : Fi k n W (.str x) := ⟨by rw [fineB]; exact h, Nat.zero_le _, hW⟩
theorem depthAll_le' {n : Nat} : ∀ {ds : List D}, (∀ d ∈ ds, d.py.depth ≤ n) → PyData.depthAll (pyAll ds) ≤ n
  | [], _ => Nat.zero_le _
  | d :: ds, h => Nat.max_le.mpr ⟨h d List.mem_cons_self, depthAll_le' fun e he => h e (List.mem_cons_of_mem _ he)⟩
theorem depth_mem : ∀ {ds : List D} {d : D}, d ∈ ds → d.py.depth ≤ PyData.depthAll (pyAll ds)
  | e :: ds, d, h => by
    have e1 : PyData.depthAll (pyAll (e :: ds)) = max e.py.depth (PyData.depthAll (pyAll ds)) := rfl
    rw [e1]
    rcases List.mem_cons.mp h with z | h
    · rw [z]; exact Nat.le_max_left _ _
    · exact Nat.le_trans (depth_mem h) (Nat.le_max_right _ _)
theorem fi_tup {k n m W : Nat} {ds : List D} (h : ∀ d ∈ ds, fineB k d = true ∧ d.py.depth ≤ n) (hw : wA ds ≤ W) (hm : n + 1 ≤ m) : Fi k m W (.tup ds) := ⟨by rw [fineB]; exact fineAll_of fun d hd => (h d hd).1, Nat.le_trans (Nat.succ_le_succ (depthAll_le' fun d hd => (h d hd).2)) hm, hw⟩
theorem fi_lst {k n m W : Nat} {ds : List D} (h : ∀ d ∈ ds, fineB k d = true ∧ d.py.depth ≤ n) (hw : wA ds ≤ W) (hm : n + 1 ≤ m) : Fi k m W (.lst ds) := ⟨by rw [fineB]; exact fineAll_of fun d hd => (h d hd).1, Nat.le_trans (Nat.succ_le_succ (depthAll_le' fun d hd => (h d hd).2)) hm, hw⟩
theorem Fi.mem {k n W : Nat} {ds : List D} (h : Fi k n W (.tup ds)) {d : D} (hd : d ∈ ds) : Fi k (n - 1) (W - 1) d := by
  refine ⟨?_, ?_, ?_⟩
  · have := h.fb
    rw [fineB] at this
    exact fineAll_mem this d hd
  · have := h.dp
    have e : (D.tup ds).py.depth = PyData.depthAll (pyAll ds) + 1 := rfl
    have := depth_mem hd
    omega
  · have := h.wt
    rw [w_tup] at this
    have := wA_mem hd
    omega
theorem Fi.w {k n W : Nat} {ds : List D} (h : Fi k n W (.tup ds)) : wA ds ≤ W := h.wt
theorem Fi.len {k n W : Nat} {ds : List D} (h : Fi k n W (.tup ds)) : ds.length ≤ W := Nat.le_trans (wA_len ds) h.wt
theorem Fi.each {k n W : Nat} {ds : List D} (h : Fi k n W (.tup ds)) : ∀ d ∈ ds, fineB k d = true ∧ d.py.depth ≤ n - 1 := fun d hd => ⟨(h.mem hd).fb, (h.mem hd).dp⟩
theorem cut_mem {ds : List D} {l u : Option Int} {d : D} (h : d ∈ Qp.cutD ds l u) : d ∈ ds := List.mem_of_mem_drop (List.mem_of_mem_take h)
theorem wA_cut (ds : List D) (l u : Option Int) : wA (Qp.cutD ds l u) ≤ wA ds := by
  unfold Qp.cutD
  exact Nat.le_trans (wA_take _ _) (wA_drop _ _)
theorem cutD_lo (ds : List D) {n : Nat} (h : n ≤ ds.length) : Qp.cutD ds none (some (n : Int)) = ds.take n := by
  unfold Qp.cutD
  rw [HT.sIx_nat]
  show (ds.drop 0).take (min n ds.length - 0) = _
  rw [List.drop_zero, Nat.sub_zero, Nat.min_eq_left h]
theorem cutD_hi (ds : List D) {n : Nat} (h : n ≤ ds.length) : Qp.cutD ds (some (n : Int)) none = ds.drop n := by
  unfold Qp.cutD
  rw [HT.sIx_nat]
  show (ds.drop (min n ds.length)).take (ds.length - min n ds.length) = _
  rw [Nat.min_eq_left h, List.take_of_length_le (by rw [List.length_drop]; exact Nat.le_refl _)]
end Qp

set_option maxHeartbeats 4000000
namespace T15
open PySem PySem.Spec PyProof.Rows L2 Qp
/-! ### values near trees -/
theorem scWrong : FnScope ["hand", "value", "kind", "far"] ["hand", "value"] (defScope sWrong) := ⟨rfl, rfl, rfl, by decide +kernel, rfl, by decide +kernel, by decide +kernel⟩
theorem scGraft : FnScope ["hand", "band", "small", "n", "odd", "kind", "quarter", "one", "at"] ["hand", "band"] (defScope sGraft) := ⟨rfl, rfl, rfl, by decide +kernel, rfl, by decide +kernel, by decide +kernel⟩
theorem scSpoilt : FnScope ["hand", "value", "depth", "parents", "here", "step", "at", "part", "old"] ["hand", "value", "depth"] (defScope sSpoilt) := ⟨rfl, rfl, rfl, by decide +kernel, rfl, by decide +kernel, by decide +kernel⟩
theorem sqD_fb {n : Nat} {d : D} (h : SqD n d) : fineB 12 d = true := by
  obtain ⟨rows, rfl, hl, hr⟩ := h
  unfold tR
  rw [fineB]
  refine fineAll_of fun d hd => ?_
  obtain ⟨r, hr', rfl⟩ := List.mem_map.mp hd
  rw [fineB]
  refine fineAll_of fun d hd => ?_
  obtain ⟨j, hj, rfl⟩ := List.mem_map.mp hd
  rw [fineB]
  exact decide_eq_true (Nat.lt_of_le_of_lt ((hr r hr').2 j hj) (by decide))
theorem leafD_fb {n : Nat} {d : D} (h : LeafD n d) : fineB 12 d = true := by
  obtain ⟨m, s, a, b, q, l, rfl, hl, hs⟩ := h
  unfold leafD
  rw [fineB]
  have hq : q.natAbs ≤ 64 := by
    have := hl.q7
    simp only [quanta, List.mem_cons, List.not_mem_nil, or_false] at this
    omega
  have := hl.s0; have := hl.s3; have := hl.a31; have := hl.b31
  refine fineAll_of fun d hd => ?_
  simp only [List.mem_cons, List.not_mem_nil, or_false] at hd
  rcases hd with rfl | rfl | rfl | rfl | rfl | rfl | rfl
  · rw [fineB]; decide +kernel
  · rw [fineB]; exact (mode_ok hl.m5).1
  · rw [fineB, decide_eq_true_iff]; exact Nat.lt_of_le_of_lt (show s.natAbs ≤ 3 by omega) (by decide)
  · rw [fineB, decide_eq_true_iff]; exact Nat.lt_of_le_of_lt hl.a31 (by decide)
  · rw [fineB, decide_eq_true_iff]; exact Nat.lt_of_le_of_lt hl.b31 (by decide)
  · rw [fineB, decide_eq_true_iff]; exact Nat.lt_of_le_of_lt hq (by decide)
  · exact sqD_fb hs
theorem treeD_fb : ∀ {k : Nat} {d : D}, TreeD k d → fineB 12 d = true
  | _, _, .leaf h => leafD_fb h
  | _, _, .split (ds := ds) hl h => by
    rw [fineB]
    refine fineAll_of fun d hd => ?_
    simp only [List.mem_cons, List.not_mem_nil, or_false] at hd
    rcases hd with rfl | rfl
    · rw [fineB]; decide +kernel
    · rw [fineB]
      exact fineAll_of fun d hd => treeD_fb (h d hd)
theorem leafD_fi {n : Nat} {d : D} (h : LeafD n d) : Fi 12 3 (n * (n * 12 + 1) + 47) d := ⟨leafD_fb h, (leafD_fine h).1.dp, (leafD_fine h).2⟩
theorem treeD_fi {k : Nat} {d : D} (hk : k ≤ 2) (h : TreeD k d) : Fi 12 (3 + 2 * k) (tW k) d := ⟨treeD_fb h, (treeD_fine hk h).1.dp, (treeD_fine hk h).2⟩
theorem bandD_fi {b : Nat} {d : D} (hb : b ≤ 4) (h : BandD b d) : Fi 12 8 6900 d := by
  refine ⟨?_, (bandD_fine hb h).1.dp, (bandD_fine hb h).2⟩
  obtain ⟨ts, rfl, hl, ht⟩ := h
  rw [fineB]
  exact fineAll_of fun d hd => treeD_fb (ht d hd)
def rWrong : Rel := fun ds Po => ∃ (vs : List Int) (v : D) (k n W : Nat), ds = [.hand (iL vs) 2, v] ∧ Fi k n W v ∧ 12 ≤ k ∧ k ≤ 30 ∧ W ≤ 400000 ∧ Po = Fi (k + 1) (n + 1) (2 * W + 60)
def GraftD (b : Nat) (d : D) : Prop := ∃ ts, d = .tup ts ∧ ts.length = b ∧ Fi 12 12 14000 d
def rGraft : Rel := fun ds Po => ∃ (vs : List Int) (v : D) (b : Nat), ds = [.hand (iL vs) 2, v] ∧ BandD b v ∧ 1 ≤ b ∧ b ≤ 4 ∧ Po = GraftD b
def rSpoilt : Rel := fun ds Po => ∃ (vs : List Int) (v : D) (s k n W : Nat), ds = [.hand (iL vs) 2, v, .int s] ∧ s ≤ 10 ∧ Fi k n W v ∧ 12 ≤ k ∧ k ≤ 30 ∧ n ≤ 40 ∧ W ≤ 400000 ∧ Po = Fi (k + 1) (n + s + 1) (2 * W + 60 + s * (W + 1))
theorem at7 {x0 x1 x2 x3 x4 x5 x6 : D} {q : D → Prop} (h : ∀ d ∈ [x0, x1, x2, x3, x4, x5, x6], q d) {i : Int} (h0 : 0 ≤ i - 7) (h1 : i - 7 < 7) : 0 ≤ i - 7 ∧ i - 7 < ([x0, x1, x2, x3, x4, x5, x6].length : Int) := ⟨h0, by simpa using h1⟩
section
variable {P : Program} {w : World} {K : Fg} {mg : Str → Option Value} {base : Heap} {T : Addr → Prop}
theorem ok_wrong {f : Addr} {fd : FuncData} (F : Fun K "_law_wrong" "_law_wrong" sWrong f fd) (misi : mg "isinstance" = none) (mtuple : mg "tuple" = none) (mstr : mg "str" = none) (mlist : mg "list" = none) (GT : Fn P w K mg base 1 "_law_take" rTake T) (GI : Fn P w K mg base 1 "_law_is_integer" (det rInt) T) : FnOk P w K mg base CX0 2 f fd ["hand", "value"] (spD K rWrong T) := by
  refine fn_ok F scWrong (fun ds d h => ?_) (fun cdv A outer s H E hr ds Po h => ?_)
  · obtain ⟨_, _, _, _, _, rfl, _⟩ := h
    rfl
  · obtain ⟨vs, v, k, n, W, rfl, hv, k12, k30, hW, rfl⟩ := h
    have hsc := hv.sc (by omega)
    have hup : Fi (k + 1) (n + 1) (2 * W + 60) v := hv.mono (by omega) (by omega) (by omega)
    have small : ∀ {i : Int}, i.natAbs < 2 ^ 12 → Fi (k + 1) (n + 1) (2 * W + 60) (.int i) := fun h => (fi_int (k := 12) (n := 0) (W := 12) h (by decide) (by decide)).mono (by omega) (by omega) (by omega)
    have str : ∀ {x : Str}, PyData.strOk x = true → x.cps.size ≤ 60 → Fi (k + 1) (n + 1) (2 * W + 60) (.str x) := fun h1 h2 => fi_str h1 (by omega)
    refine jb_setX 2 (jx_call1 GT (ja_cons (je_v 0) (ja_cons je_int ja_nil)) ⟨vs, 2, 14, rfl, by decide, rfl⟩) ?_
    rintro _ ⟨kd, rfl, hk0, hk1⟩
    refine jb_ifx (jt_lt (je_v 2) je_int) (fun hk => jb_retX (jx_ixD (Fi (k + 1) (n + 1) (2 * W + 60)) (JN.jc' (jn_lst (ja_cons je_non (ja_cons je_bl (ja_cons je_str (ja_cons (je_tup ja_nil) (ja_cons (JE.new (jn_lst ja_nil)) (ja_cons (je_neg je_int) ja_nil)))))))) (je_v 2) ⟨hk0, ?_⟩ fun d hd => ?_) fun d h => h) fun hk => ?_
    · exact of_decide_eq_true hk
    · simp only [List.mem_cons, List.not_mem_nil, or_false] at hd
      rcases hd with rfl | rfl | rfl | rfl | rfl | rfl
      · exact fi_non
      · exact fi_bl
      · exact str (by decide +kernel) (by decide +kernel)
      · exact fi_tup (n := 0) (fun _ h => (List.not_mem_nil h).elim) (Nat.zero_le _) (by omega)
      · exact fi_lst (n := 0) (fun _ h => (List.not_mem_nil h).elim) (Nat.zero_le _) (by omega)
      · exact small (by decide)
    have k6 : ¬ kd < 6 := of_decide_eq_false hk
    refine jb_ifx (jt_eq (je_v 2) je_int) (fun _ => jb_ret (JE.new (jn_lst (ja_cons (je_v 1) ja_nil))) ?_) fun hk => ?_
    · refine fi_lst (n := n) (fun d hd => ?_) ?_ (by omega)
      · rw [List.mem_singleton.mp hd]; exact ⟨fineB_mono (by omega) _ hv.fb, hv.dp⟩
      · rw [wA_cons, wA_nil]
        have := hv.wt
        omega
    have k7 : ¬ kd = 6 := of_decide_eq_false hk
    have hix : JE (Cs.of P w K mg base scWrong.nd "_law_wrong" (defScope sWrong) f cdv A outer s H E hr T) (locs 4 [.hand (iL vs) 2, v] |>.set 2 (.val (.int kd))) (.Name "kind" ⟨0, 0, 0, 0⟩) (.int kd) := je_v 2
    by_cases ht : ∃ xs, v = .tup xs
    · obtain ⟨xs, rfl⟩ := ht
      have hlen := hv.len
      have hw := hv.w
      refine jb_ifx (jt_val (je_isTup (je_v 1))) (fun _ => jb_retX (jx_ixD (Fi (k + 1) (n + 1) (2 * W + 60)) (JN.jc' (jn_lst (ja_cons (JE.new (jn_listT (je_v 1) mlist)) (ja_cons (je_sliceA (je_v 1) jo_none (jo_some (je_neg je_int))) (ja_cons (je_addT (je_v 1) (je_sliceA (je_v 1) (jo_some (je_neg je_int)) jo_none) ?_) (ja_cons (je_addT (je_v 1) (je_tup (ja_cons je_int ja_nil)) ?_) (ja_cons (je_tup (ja_cons (je_v 1) ja_nil)) (ja_cons (je_revT (je_v 1)) (ja_cons (JE.new (jn_listT (je_v 1) mlist)) ja_nil))))))))) (je_sub (je_v 2) je_int) ⟨by omega, ?_⟩ fun d hd => ?_) fun d h => h) fun hk => by cases hk
      · have := Nat.le_trans (wA_len _) (wA_cut xs (some (-1)) none)
        have := wA_len xs
        omega
      · show xs.length + 1 ≤ 1000000
        omega
      · show kd - 7 < 7
        omega
      · have each := hv.each
        have up : ∀ d ∈ xs, fineB (k + 1) d = true ∧ d.py.depth ≤ n - 1 := fun d hd => ⟨fineB_mono (by omega) _ (each d hd).1, (each d hd).2⟩
        simp only [List.mem_cons, List.not_mem_nil, or_false] at hd
        have hli : Fi (k + 1) (n + 1) (2 * W + 60) (.lst xs) := fi_lst up (by omega) (by omega)
        rcases hd with rfl | rfl | rfl | rfl | rfl | rfl | rfl
        · exact hli
        · exact fi_tup (n := n - 1) (fun d hd => up d (cut_mem hd)) (by have := wA_cut xs none (some (-1)); omega) (by omega)
        · refine fi_tup (n := n - 1) (fun d hd => ?_) ?_ (by omega)
          · rcases List.mem_append.mp hd with h | h
            · exact up d h
            · exact up d (cut_mem h)
          · rw [wA_app]
            have := wA_cut xs (some (-1)) none
            omega
        · refine fi_tup (n := n) (fun d hd => ?_) ?_ (by omega)
          · rcases List.mem_append.mp hd with h | h
            · exact ⟨(up d h).1, by have := (up d h).2; omega⟩
            · rw [List.mem_singleton.mp h]
              exact ⟨(small (i := 0) (by decide)).fb, Nat.zero_le _⟩
          · rw [wA_app, wA_cons, wA_nil]
            have : (D.int 0).py.weight = 0 := rfl
            omega
        · refine fi_tup (n := n) (fun d hd => ?_) ?_ (by omega)
          · rw [List.mem_singleton.mp hd]; exact ⟨fineB_mono (by omega) _ hv.fb, hv.dp⟩
          · rw [wA_cons, wA_nil, w_tup]
            omega
        · exact fi_tup (n := n - 1) (fun d hd => up d (List.mem_reverse.mp hd)) (by rw [wA_rev]; omega) (by omega)
        · exact hli
    refine jb_ifx (k := false) ((jt_val (je_isTup (je_v 1) hsc.flat)).is (by cases v <;> first | rfl | exact absurd ⟨_, rfl⟩ ht)) (fun hk => by cases hk) fun _ => ?_
    by_cases hs : ∃ x, v = .str x
    · obtain ⟨x, rfl⟩ := hs
      have hx : PyData.strOk x = true := by have := hv.fb; rw [fineB] at this; exact this
      have hxs : x.cps.size ≤ W := hv.wt
      have hxl : x.length ≤ W := hxs
      have sz1 : ∀ {y : Str}, PyData.strOk y = true → y.cps.size ≤ W + 1 → Fi (k + 1) (n + 1) (2 * W + 60) (.str y) := fun h1 h2 => fi_str h1 (by omega)
      have s1 : (Str.ofString "s").cps.size = 1 := by decide +kernel
      have s1l : (Str.ofString "s").length = 1 := by decide +kernel
      refine jb_ifx (jt_val (je_isStr (je_v 1))) (fun _ => jb_retX (jx_ixD (Fi (k + 1) (n + 1) (2 * W + 60)) (JN.jc' (jn_lst (ja_cons (je_addS (je_v 1) je_str (by rw [s1l]; exact Nat.le_trans (by omega : x.length + 1 ≤ 2000000) (by decide))) (ja_cons (je_sliceS (je_v 1) jo_none (jo_some (je_neg je_int)) (Nat.le_trans (by omega : x.length ≤ 2000000) (by decide))) (ja_cons je_str (ja_cons je_str (ja_cons je_str (ja_cons je_str (ja_cons je_str ja_nil))))))))) (je_sub (je_v 2) je_int) ⟨by omega, ?_⟩ fun d hd => ?_) fun d h => h) fun hk => by cases hk
      · show kd - 7 < 7
        omega
      · simp only [List.mem_cons, List.not_mem_nil, or_false] at hd
        rcases hd with rfl | rfl | rfl | rfl | rfl | rfl | rfl
        · exact sz1 (strOk_app hx (by decide +kernel)) (by rw [size_app, s1]; omega)
        · exact sz1 (strOk_cut hx _ _) (by have := size_cut x none (some (-1)); omega)
        · exact str (by decide +kernel) (by decide +kernel)
        · exact str (by decide +kernel) (by decide +kernel)
        · exact str (by decide +kernel) (by decide +kernel)
        · exact str (by decide +kernel) (by decide +kernel)
        · exact str (by decide +kernel) (by decide +kernel)
    refine jb_ifx (k := false) ((jt_val (je_isStr (je_v 1) hsc.flat)).is (by cases v <;> first | rfl | exact absurd ⟨_, rfl⟩ hs)) (fun hk => by cases hk) fun _ => ?_
    by_cases hi : ∃ i, v = .int i
    · obtain ⟨i, rfl⟩ := hi
      have hi2 : i.natAbs < 2 ^ k := by have := hv.fb; rw [fineB, decide_eq_true_iff] at this; exact this
      have hki : ∀ {j : Int}, j.natAbs ≤ i.natAbs + 1 → Fi (k + 1) (n + 1) (2 * W + 60) (.int j) := fun {j} h => by
        have e : 2 ^ (k + 1) = 2 ^ k * 2 := Nat.pow_succ ..
        have : 0 < 2 ^ k := Nat.pow_pos (by decide)
        exact fi_int (k := k + 1) (by omega) (by omega) (by omega)
      refine jb_ifx (k := false) ((jt_not (jt_val (je_call GI (ja_cons (je_v 1) ja_nil) ⟨_, rfl, rfl, rfl⟩))).is rfl) (fun hk => by cases hk) fun _ => ?_
      refine jb_setX 3 (jx_ixX (Po := IntP fun z => z.natAbs < 2 ^ 12) (JN.jc' (jn_lst (ja_cons je_int (ja_cons (je_neg je_int) (ja_cons je_int (ja_cons (je_neg je_int) (ja_cons je_int (ja_cons je_int (ja_cons je_int (ja_cons je_int (ja_cons je_int (ja_cons je_int (ja_cons je_int ja_nil))))))))))))) (jx_call1 GT (ja_cons (je_v 0) (ja_cons je_int ja_nil)) ⟨vs, 2, 11, rfl, by decide, rfl⟩) fun z hz => ?_) ?_
      · have : z = 0 ∨ z = 1 ∨ z = 2 ∨ z = 3 ∨ z = 4 ∨ z = 5 ∨ z = 6 ∨ z = 7 ∨ z = 8 ∨ z = 9 ∨ z = 10 := by omega
        rcases this with rfl | rfl | rfl | rfl | rfl | rfl | rfl | rfl | rfl | rfl | rfl <;> exact ⟨_, rfl, _, rfl, by decide⟩
      rintro _ ⟨far, rfl, hfar⟩
      refine jb_retX (jx_ixD (Fi (k + 1) (n + 1) (2 * W + 60)) (JN.jc' (jn_lst (ja_cons (je_add (je_v 1) je_int) (ja_cons (je_neg (je_v 1)) (ja_cons (je_v 3) (ja_cons (je_v 3) (ja_cons (je_eq (je_v 1) je_int) (ja_cons (je_sub (je_v 1) je_int) (ja_cons (je_v 3) ja_nil))))))))) (je_sub (je_v 2) je_int) ⟨by omega, ?_⟩ fun d hd => ?_) fun d h => h
      · show kd - 7 < 7
        omega
      · simp only [List.mem_cons, List.not_mem_nil, or_false] at hd
        rcases hd with rfl | rfl | rfl | rfl | rfl | rfl | rfl
        · exact hki (by omega)
        · exact hki (by omega)
        · exact small hfar
        · exact small hfar
        · exact fi_bl
        · exact hki (by omega)
        · exact small hfar
    · have e := (noInt hi).1
      exact jb_ifx (k := true) ((jt_not (jt_val (je_call GI (ja_cons (je_v 1) ja_nil) ⟨_, rfl, hsc.flat, rfl⟩))).is (by rw [e]; rfl)) (fun _ => jb_ret je_non fi_non) fun hk => by cases hk
end

end T15

set_option maxHeartbeats 4000000
namespace T15
open PySem PySem.Spec PyProof.Rows L2 Qp
section
variable {P : Program} {w : World} {K : Fg} {mg : Str → Option Value} {base : Heap} {T : Addr → Prop}
theorem splitFi {k n m W V : Nat} {ds : List D} (h : ∀ d ∈ ds, Fi k n W d) (hl : ds.length = 4) (hk : 12 ≤ k) (hm : n + 2 ≤ m) (hV : 4 * W + 11 ≤ V) : Fi k m V (.tup [.str "split", .tup ds]) := by
  have h1 := wA_le fun d hd => (h d hd).wt
  rw [hl] at h1
  refine fi_tup (n := n + 1) (fun d hd => ?_) ?_ (by omega)
  · simp only [List.mem_cons, List.not_mem_nil, or_false] at hd
    rcases hd with rfl | rfl
    · exact ⟨by rw [fineB]; decide +kernel, Nat.zero_le _⟩
    · have := fi_tup (k := k) (m := n + 1) (W := 4 * (W + 1)) (fun d hd => ⟨(h d hd).fb, (h d hd).dp⟩) h1 (by omega)
      exact ⟨this.fb, this.dp⟩
  · rw [wA_cons, wA_cons, wA_nil, w_str, w_tup]
    have : (Str.ofString "split").cps.size = 5 := by decide +kernel
    omega
theorem mem4 {p : D → Prop} {a b c d : D} (h1 : p a) (h2 : p b) (h3 : p c) (h4 : p d) : ∀ z ∈ [a, b, c, d], p z := fun z hz => by
  simp only [List.mem_cons, List.not_mem_nil, or_false] at hz
  rcases hz with rfl | rfl | rfl | rfl <;> assumption
theorem je_4 {C : Cs} {ls : List Qp.Loc} {e1 e2 e3 e4 : Expr} {d1 d2 d3 d4 : D} {k1 k2 k3 : Nat} {q1 q2 q3 : Pos} (h1 : JE C ls e1 d1) (h2 : JE C ls e2 d2) (h3 : JE C ls e3 d3) (h4 : JE C ls e4 d4) (n1 : NS e1 := by intro _ _; rfl) (n2 : NS e2 := by intro _ _; rfl) (n3 : NS e3 := by intro _ _; rfl) (n4 : NS e4 := by intro _ _; rfl) :
    JE C ls (.Tuple [.Constant (.str "split") k1 q1, .Tuple [e1, e2, e3, e4] k2 q2] k3 q3) (.tup [.str "split", .tup [d1, d2, d3, d4]]) :=
  je_tup (ja_cons je_str (ja_cons (je_tup (ja_cons h1 (ja_cons h2 (ja_cons h3 (ja_cons h4 ja_nil n4) n3) n2) n1)) ja_nil))
theorem ok_graft {f : Addr} {fd : FuncData} (F : Fun K "_law_grafted" "_law_grafted" sGraft f fd) (mlen : mg "len" = none) (GT : Fn P w K mg base 1 "_law_take" rTake T) (GL : Fn P w K mg base 4 "_law_leaf" rLeaf T) : FnOk P w K mg base CX0 5 f fd ["hand", "band"] (spD K rGraft T) := by
  refine fn_ok F scGraft (fun ds d h => ?_) (fun cdv A outer s H E hr ds Po h => ?_)
  · obtain ⟨_, _, _, rfl, _⟩ := h
    rfl
  · obtain ⟨vs, v, b, rfl, hb, b1, b4, rfl⟩ := h
    have hbf := bandD_fi b4 hb
    obtain ⟨ts, rfl, hl, ht⟩ := hb
    refine jb_setX 2 (jx_call1 GL (ja_cons (je_v 0) (ja_cons je_int (ja_cons je_int ja_nil))) ⟨vs, 2, 4, rfl, by decide, by decide, by decide, by decide, rfl⟩) ?_
    intro sm hsm
    have fsm : Fi 12 3 100 sm := (leafD_fi hsm).mono (by decide) (by decide) (by decide)
    refine jb_setX 3 (jx_ixX (Po := fun d => d = .int 2 ∨ d = .int 4) (JN.jc' (jn_lst (ja_cons je_int (ja_cons je_int ja_nil)))) (jx_call1 GT (ja_cons (je_v 0) (ja_cons je_int ja_nil)) ⟨vs, 2, 2, rfl, by decide, rfl⟩) fun i hi => ?_) ?_
    · have : i = 0 ∨ i = 1 := by omega
      rcases this with rfl | rfl
      · exact ⟨_, rfl, Or.inl rfl⟩
      · exact ⟨_, rfl, Or.inr rfl⟩
    intro nd hnd
    obtain ⟨n, rfl, n2, n4⟩ : ∃ n : Nat, nd = .int n ∧ 2 ≤ n ∧ n ≤ 4 := by
      rcases hnd with rfl | rfl
      · exact ⟨2, rfl, by decide, by decide⟩
      · exact ⟨4, rfl, by decide, by decide⟩
    refine jb_setX 4 (jx_call1 GL (ja_cons (je_v 0) (ja_cons (je_v 3) (ja_cons je_int ja_nil))) ⟨vs, n, 4, rfl, n2, by omega, by decide, by decide, rfl⟩) ?_
    intro od hod
    have fod : Fi 12 9 7000 od := (leafD_fi hod).mono (by decide) (by decide) (by
      have : n * 12 + 1 ≤ 49 := by omega
      have := Nat.mul_le_mul n4 this
      omega)
    refine jb_setX 5 (jx_call1 GT (ja_cons (je_v 0) (ja_cons je_int ja_nil)) ⟨vs, 2, 4, rfl, by decide, rfl⟩) ?_
    rintro _ ⟨kd, rfl, _⟩
    refine jb_set 6 (je_4 (je_v 2) (je_v 2) (je_v 2) (je_v 2)) ?_
    generalize hqt : D.tup [.str "split", .tup [sm, sm, sm, sm]] = qt
    have fqt : Fi 12 5 420 qt := by
      rw [← hqt]
      exact splitFi (W := 100) (mem4 fsm fsm fsm fsm) rfl (by decide) (by decide) (by decide)
    have fsq : Fi 12 5 420 sm := fsm.mono (by decide) (by decide) (by decide)
    let bs (od : D) : List Qp.Loc := [.val (.hand (iL vs) 2), .val (.tup ts), .val sm, .val (.int n), .val od, .val (.int kd), .val qt, .any, .any]
    let R : List Qp.Loc → Prop := fun l => ∃ od, Fi 12 9 7000 od ∧ l = bs od
    refine jb_if R (jt_eq (je_v 5) je_int) (fun _ => jb_set 4 (je_4 (je_4 (je_v 2) (je_v 6) (je_v 2) (je_v 2)) (je_v 6) (je_v 6) (je_v 6)) (jb_nil ⟨_, ?_, rfl⟩)) (fun _ => jb_nil ⟨od, fod, rfl⟩) ?_
    · have h1 : Fi 12 7 1700 (.tup [.str "split", .tup [sm, qt, sm, sm]]) := splitFi (W := 420) (mem4 fsq fqt fsq fsq) rfl (by decide) (by decide) (by decide)
      have hq : Fi 12 7 1700 qt := fqt.mono (by decide) (by decide) (by decide)
      exact splitFi (W := 1700) (mem4 h1 hq hq hq) rfl (by decide) (by decide) (by decide)
    rintro _ ⟨od1, fod1, rfl⟩
    refine jb_if R (jt_eq (je_v 5) je_int) (fun _ => jb_setX 4 (jx_tup (Pa := fun ds => Fi 12 9 7000 (.tup ds)) (jxa_cons (JX.of je_str rfl) (fun d1 h1 => jxa_cons (jx_tup (Pa := fun ds => ds.length = 4 ∧ ∀ d ∈ ds, Fi 12 5 420 d) (jxa_cons (jx_call1 GL (ja_cons (je_v 0) (ja_cons je_int (ja_cons je_int ja_nil))) ⟨vs, 4, 4, rfl, by decide, by decide, by decide, by decide, rfl⟩) (fun e1 g1 => jxa_cons (JX.of (je_v 6) rfl) (fun e2 g2 => jxa_cons (JX.of (je_v 2) rfl) (fun e3 g3 => jxa_cons (JX.of (je_v 6) rfl) (fun e4 g4 => jxa_nil ?_) ⟨_, rfl⟩) ⟨_, rfl⟩) ⟨_, rfl⟩) (leafD_ex 4)) fun ds h => by rw [h.1]; decide) (fun d2 h2 => jxa_nil ?_) ?_) ⟨_, rfl⟩) fun ds h => Nat.le_trans h.len (by decide)) fun d h => ?_) (fun _ => jb_nil ⟨od1, fod1, rfl⟩) ?_
    · have g1' : Fi 12 5 420 e1 := (leafD_fi g1).mono (by decide) (by decide) (by decide)
      rw [← g2, ← g3, ← g4]
      exact ⟨rfl, mem4 g1' fqt fsq fqt⟩
    · obtain ⟨ds, rfl, hd4, hdf⟩ := h2
      rw [← h1]
      exact splitFi (W := 420) hdf hd4 (by decide) (by decide) (by decide)
    · exact ⟨_, [sm, sm, sm, sm], rfl, rfl, mem4 fsq fsq fsq fsq⟩
    · obtain ⟨ds, rfl, h⟩ := h
      exact jb_nil ⟨_, h, rfl⟩
    rintro _ ⟨od2, fod2, rfl⟩
    refine jb_if R (jt_eq (je_v 5) je_int) (fun _ => ?_) (fun _ => jb_nil ⟨od2, fod2, rfl⟩) ?_
    · obtain ⟨m, s, a, b', q, l, rfl, hlf, rows, rfl, hr, hrows⟩ := hsm
      obtain ⟨r0, r1, rfl⟩ : ∃ r0 r1, rows = [r0, r1] := by
        match rows, hr with
        | [r0, r1], _ => exact ⟨_, _, rfl⟩
      have hr1 := hrows r1 (by simp)
      obtain ⟨z0, z1, rfl⟩ : ∃ z0 z1, r1 = [z0, z1] := by
        match r1, hr1.1 with
        | [z0, z1], _ => exact ⟨_, _, rfl⟩
      have hz1 : z1.natAbs ≤ 2000 := hr1.2 z1 (by simp)
      refine jb_set 7 (je_tup (ja_cons je_str (ja_cons (je_ixT (d := .str m) (je_v 2) je_int rfl) (ja_cons je_int (ja_cons je_int (ja_cons je_int (ja_cons (je_ixT (d := .int q) (je_v 2) je_int rfl) (ja_cons (je_tup (ja_cons (je_tup (ja_cons (je_ixT (d := .int z1) (je_ixT (d := .tup (iL [z0, z1])) (je_ixT (d := tR [r0, [z0, z1]]) (je_v 2) je_int rfl) je_int rfl) je_int rfl) ja_nil)) ja_nil)) ja_nil)))))))) ?_
      have fone : Fi 12 3 100 (.tup [.str "leaf", .str m, .int 0, .int 0, .int 0, .int q, .tup [.tup [.int z1]]]) := by
        have hq : q.natAbs ≤ 64 := by
          have := hlf.q7
          simp only [quanta, List.mem_cons, List.not_mem_nil, or_false] at this
          omega
        have q7 : q.natAbs < 2 ^ 7 := Nat.lt_of_le_of_lt hq (by decide)
        have z11 : z1.natAbs < 2 ^ 11 := Nat.lt_of_le_of_lt hz1 (by decide)
        have hm := mode_ok hlf.m5
        refine fi_tup (n := 2) (fun d hd => ?_) ?_ (by decide)
        · simp only [List.mem_cons, List.not_mem_nil, or_false] at hd
          rcases hd with rfl | rfl | rfl | rfl | rfl | rfl | rfl
          · exact ⟨by rw [fineB]; decide +kernel, Nat.zero_le _⟩
          · exact ⟨by rw [fineB]; exact hm.1, Nat.zero_le _⟩
          · exact ⟨by rw [fineB]; decide, Nat.zero_le _⟩
          · exact ⟨by rw [fineB]; decide, Nat.zero_le _⟩
          · exact ⟨by rw [fineB]; decide, Nat.zero_le _⟩
          · exact ⟨by rw [fineB, decide_eq_true_iff]; exact Nat.lt_of_le_of_lt hq (by decide), Nat.zero_le _⟩
          · have h1 : fineB 12 (.int z1) = true := by rw [fineB, decide_eq_true_iff]; exact Nat.lt_of_le_of_lt hz1 (by decide)
            refine ⟨?_, Nat.le_refl 2⟩
            simp only [fineB, fineAll, Bool.and_true] at h1 ⊢
            exact h1
        · simp only [wA_cons, wA_nil, w_str, w_tup]
          have w1 := w_int q7 (by decide)
          have w2 := w_int z11 (by decide)
          have w0 : (D.int 0).py.weight = 0 := rfl
          have : (Str.ofString "leaf").cps.size = 4 := by decide +kernel
          have := hm.2
          omega
      have fi1 := splitFi (m := 5) (V := 420) (W := 100) (mem4 fone fone fone fone) rfl (by decide) (by decide) (by decide)
      have fi2 := splitFi (m := 7) (V := 1700) (W := 420) (mem4 fsq fsq fi1 fsq) rfl (by decide) (by decide) (by decide)
      have hq : Fi 12 7 1700 qt := fqt.mono (by decide) (by decide) (by decide)
      exact jb_set 4 (je_4 (je_v 6) (je_4 (je_v 2) (je_v 2) (je_4 (je_v 7) (je_v 7) (je_v 7) (je_v 7)) (je_v 2)) (je_v 6) (je_v 6)) (jb_forget 7 (jb_nil ⟨_, splitFi (W := 1700) (mem4 hq fi2 hq hq) rfl (by decide) (by decide) (by decide), rfl⟩))
    rintro _ ⟨od3, fod3, rfl⟩
    have hpos : 0 < ts.length := by omega
    refine jb_setX 8 (jx_call1 GT (ja_cons (je_v 0) (ja_cons (je_lenT (je_v 1) mlen) ja_nil)) ⟨vs, 2, (ts.length : Int), rfl, by omega, rfl⟩) ?_
    rintro _ ⟨ai, rfl, ha0, ha1⟩
    obtain ⟨at', rfl⟩ : ∃ n : Nat, ai = n := ⟨ai.toNat, by omega⟩
    have hat : at' < ts.length := by omega
    refine jb_ret (je_addT (je_addT (je_sliceA (je_v 1) jo_none (jo_some (je_v 8))) (je_tup (ja_cons (je_v 4) ja_nil)) ?_) (je_sliceA (je_v 1) (jo_some ((je_add (je_v 8) je_int).is (d' := .int ((at' + 1 : Nat) : Int)) (congrArg D.int (by omega)))) jo_none) ?_) ?_
    · rw [cutD_lo ts (by omega), List.length_take]
      show _ + 1 ≤ 1000000
      omega
    · rw [cutD_lo ts (by omega), cutD_hi ts (by omega), List.length_append, List.length_take, List.length_drop]
      show _ + 1 + _ ≤ 1000000
      omega
    · rw [cutD_lo ts (by omega), cutD_hi ts (by omega)]
      refine ⟨_, rfl, ?_, fi_tup (n := 9) (fun d hd => ?_) ?_ (by decide)⟩
      · rw [List.length_append, List.length_append, List.length_take, List.length_drop]
        show min at' ts.length + 1 + (ts.length - (at' + 1)) = b
        omega
      · have each := hbf.each
        rcases List.mem_append.mp hd with h | h
        · rcases List.mem_append.mp h with h | h
          · have := each d (List.mem_of_mem_take h); exact ⟨this.1, by omega⟩
          · rw [List.mem_singleton.mp h]; exact ⟨fod3.fb, fod3.dp⟩
        · have := each d (List.mem_of_mem_drop h); exact ⟨this.1, by omega⟩
      · rw [wA_app, wA_app, wA_cons, wA_nil]
        have := wA_take ts at'
        have := wA_td ts (at' + 1)
        have h1 := wA_td ts at'
        have h2 := hbf.w
        have h3 := fod3.wt
        have : wA (ts.drop (at' + 1)) ≤ wA (ts.drop at') := by
          have e : ts.drop (at' + 1) = (ts.drop at').drop 1 := by rw [List.drop_drop]
          rw [e]
          exact wA_drop _ _
        omega
end

end T15

set_option maxHeartbeats 4000000
namespace T15
open PySem PySem.Spec PyProof.Rows L2 Qp
section
variable {P : Program} {w : World} {K : Fg} {mg : Str → Option Value} {base : Heap} {T : Addr → Prop}
theorem ok_spoilt {f : Addr} {fd : FuncData} (F : Fun K "_law_spoilt" "_law_spoilt" sSpoilt f fd) (misi : mg "isinstance" = none) (mtuple : mg "tuple" = none) (mlen : mg "len" = none) (mrange : mg "range" = none) (GT : Fn P w K mg base 1 "_law_take" rTake T) (GW : Fn P w K mg base 2 "_law_wrong" rWrong T) : FnOk P w K mg base CX0 3 f fd ["hand", "value", "depth"] (spD K rSpoilt T) := by
  refine fn_ok F scSpoilt (fun ds d h => ?_) (fun cdv A outer s H E hr ds Po h => ?_)
  · obtain ⟨_, _, _, _, _, _, rfl, _⟩ := h
    rfl
  · obtain ⟨vs, v, s, k, n, W, rfl, hs, hv, k12, k30, n40, hW, rfl⟩ := h
    let Par : List D → Prop := fun ps => ∀ p ∈ ps, ∃ (xs : List D) (a : Nat), p = .tup [.tup xs, .int a] ∧ a < xs.length ∧ Fi k n W (.tup xs)
    let L : List D → D → List Qp.Loc := fun ps h => [.val (.hand (iL vs) 2), .val v, .val (.int s), .own ps, .val h, .any, .any, .any, .any]
    refine jb_setN 3 (jn_lst ja_nil) (jb_set 4 (je_v 1) ?_)
    refine jb_cons (fun l => ∃ ps h, l = L ps h ∧ ps.length ≤ s ∧ Par ps ∧ Fi k n W h) (js_forR (n := (s : Int)) 5 (fun i l => ∃ ps h, l = L ps h ∧ ps.length ≤ i ∧ Par ps ∧ Fi k n W h) (je_v 2) (by omega) ⟨[], v, rfl, Nat.le_refl _, fun _ h => (List.not_mem_nil h).elim, hv⟩ ?_ fun l ⟨ps, h, e, h1, h2, h3⟩ => ⟨ps, h, e, by omega, h2, h3⟩) ?_
    · rintro i _ hi ⟨ps, h, rfl, hl, hp, hf⟩
      have hi2 : i < s := by omega
      refine jb_if (fun l => ∃ ps h, l = (L ps h).set 5 (.val (.int i)) ∧ ps.length ≤ i + 1 ∧ Par ps ∧ Fi k n W h) (k := match h with | .tup xs => decide (0 < xs.length) | _ => false) ?_ (fun hk => ?_) (fun _ => jb_nil ⟨ps, h, rfl, by omega, hp, hf⟩) ?_
      · by_cases ht : ∃ xs, h = .tup xs
        · obtain ⟨xs, rfl⟩ := ht
          exact (jt_w (jw_and (jt_val (je_isTup (je_v 4))) fun _ => jw_and1 (jt_gt (je_lenT (je_v 4)) je_int))).is (by show (true && decide ((0 : Int) < (xs.length : Int))) = decide (0 < xs.length); rw [Bool.true_and, decide_eq_decide]; omega)
        · have e1 : h.isTup = false := (noTup ht).1
          exact (jt_w (jw_and (l := false) (jt_val (je_isTup (je_v 4) (hf.sc (by omega)).flat)) fun z => by rw [e1] at z; cases z)).is (by
            rw [e1]
            cases h <;> first | rfl | exact absurd ⟨_, rfl⟩ ht)
      · obtain ⟨xs, rfl, hx⟩ : ∃ xs, h = .tup xs ∧ 0 < xs.length := by
          cases h <;> first | exact ⟨_, rfl, of_decide_eq_true hk⟩ | (cases hk)
        have hlen := hf.len
        refine jb_setX 6 (jx_call1 GT (ja_cons (je_v 0) (ja_cons (je_lenT (je_v 4)) ja_nil)) ⟨vs, 2, (xs.length : Int), rfl, by omega, rfl⟩) ?_
        rintro _ ⟨ai, rfl, ha0, ha1⟩
        obtain ⟨a, rfl⟩ : ∃ n : Nat, ai = n := ⟨ai.toNat, by omega⟩
        have ha : a < xs.length := by omega
        refine jb_app 3 (je_tup (ja_cons (je_v 4) (ja_cons (je_v 6) ja_nil))) rfl ?_ (by omega)
        refine jb_set 4 (je_ixT (d := xs[a]) (je_v 4) (je_v 6) (atI_nat (List.getElem?_eq_getElem ha))) ?_
        refine jb_end [6] ⟨ps ++ [.tup [.tup xs, .int a]], xs[a], rfl, by rw [List.length_append]; show _ + 1 ≤ _; omega, fun p hp' => ?_, (hf.mem (List.getElem_mem ha)).mono (by omega) (by omega) (by omega)⟩
        rcases List.mem_append.mp hp' with h | h
        · exact hp p h
        · rw [List.mem_singleton.mp h]; exact ⟨xs, a, rfl, ha, hf⟩
      · rintro _ ⟨ps, h, rfl, h1, h2, h3⟩
        exact jb_end [5] ⟨ps, h, rfl, h1, h2, h3⟩
    rintro _ ⟨ps, h, rfl, hl, hp, hf⟩
    refine jb_setX 7 (jx_call1 GW (ja_cons (je_v 0) (ja_cons (je_v 4) ja_nil)) ⟨vs, h, k, n, W, rfl, hf, k12, k30, hW, rfl⟩) ?_
    intro pt hpt
    let M : D → List Qp.Loc := fun pt => [.val (.hand (iL vs) 2), .val v, .val (.int s), .own ps, .val h, .any, .any, .val pt, .any]
    refine jb_cons (fun l => ∃ pt, l = M pt ∧ Fi (k + 1) (n + s + 1) (2 * W + 60 + s * (W + 1)) pt) (js_forR (n := (ps.length : Int)) 5 (fun j l => ∃ pt, l = M pt ∧ Fi (k + 1) (n + j + 1) (2 * W + 60 + j * (W + 1)) pt) (je_lenL (jc_v 3)) (by omega) ⟨pt, rfl, hpt.mono (by omega) (by omega) (by omega)⟩ ?_ fun l ⟨pt, e, hf⟩ => ⟨pt, e, hf.mono (Nat.le_refl _) (by omega) (Nat.add_le_add_left (Nat.mul_le_mul_right _ (by omega)) _)⟩) ?_
    · rintro j _ hj ⟨pt, rfl, hpf⟩
      have hj2 : j < ps.length := by omega
      have hidx : ps.length - 1 - j < ps.length := by omega
      obtain ⟨xs, a, he, ha, hxf⟩ := hp (ps[ps.length - 1 - j]) (List.getElem_mem hidx)
      have hlen := hxf.len
      refine jb_un2 8 6 (je_ixL (jc_v 3) ((je_sub (je_sub (je_lenL (jc_v 3)) je_int) (je_v 5)).is (d' := .int ((ps.length - 1 - j : Nat) : Int)) (congrArg D.int (by omega))) (atI_nat ((List.getElem?_eq_getElem hidx).trans (congrArg some he)))) ?_
      refine jb_set 7 (je_addT (je_addT (je_sliceA (je_v 8) jo_none (jo_some (je_v 6))) (je_tup (ja_cons (je_v 7) ja_nil)) ?_) (je_sliceA (je_v 8) (jo_some ((je_add (je_v 6) je_int).is (d' := .int ((a + 1 : Nat) : Int)) (congrArg D.int (by omega)))) jo_none) ?_) ?_
      · rw [cutD_lo xs (by omega), List.length_take]
        show _ + 1 ≤ 1000000
        omega
      · rw [cutD_lo xs (by omega), cutD_hi xs (by omega), List.length_append, List.length_take, List.length_drop]
        show _ + 1 + _ ≤ 1000000
        omega
      rw [cutD_lo xs (by omega), cutD_hi xs (by omega)]
      refine jb_end [5, 6, 8] ⟨_, rfl, fi_tup (n := n + j + 1) (fun d hd => ?_) ?_ (by omega)⟩
      · have each := hxf.each
        rcases List.mem_append.mp hd with h | h
        · rcases List.mem_append.mp h with h | h
          · have := each d (List.mem_of_mem_take h); exact ⟨fineB_mono (by omega) _ this.1, by omega⟩
          · rw [List.mem_singleton.mp h]; exact ⟨hpf.fb, hpf.dp⟩
        · have := each d (List.mem_of_mem_drop h); exact ⟨fineB_mono (by omega) _ this.1, by omega⟩
      · rw [wA_app, wA_app, wA_cons, wA_nil]
        have h1 := wA_td xs a
        have h2 := hxf.w
        have h3 := hpf.wt
        have h4 : wA (xs.drop (a + 1)) ≤ wA (xs.drop a) := by
          have e : xs.drop (a + 1) = (xs.drop a).drop 1 := by rw [List.drop_drop]
          rw [e]
          exact wA_drop _ _
        have e : (j + 1) * (W + 1) = j * (W + 1) + (W + 1) := Nat.succ_mul ..
        omega
    · rintro _ ⟨pt, rfl, hpf⟩
      exact jb_ret (je_v 7) hpf
end

end T15

/-! Q46: calls with an argument that is not all known. -/
namespace Qp
open PySem PySem.Spec PyProof.Rows L2
theorem Fn.weak {P : Program} {w : World} {K : Fg} {mg : Str → Option Value} {base : Heap} {k : Nat} {x : Str} {R R2 : Rel} {T : Addr → Prop} (F : Fn P w K mg base k x R T) (h : ∀ ds Po, R2 ds Po → ∃ Po', R ds Po' ∧ ∀ d, Po' d → Po d) : Fn P w K mg base k x R2 T := by
  obtain ⟨f, fd, ps, G, hm, kp, hb⟩ := F.ex
  refine ⟨f, fd, ps, G.imp fun vs H Q E hs => ?_, hm, kp, hb⟩
  obtain ⟨Gh, ds, Po, eg, tb, hv, hR, q⟩ := hs
  obtain ⟨Po', h1, h2⟩ := h ds Po hR
  exact ⟨Gh, ds, Po', eg, tb, hv, h1, fun d hd => q d (h2 d hd)⟩
theorem Fn.up {P : Program} {w : World} {K : Fg} {mg : Str → Option Value} {base : Heap} {k l : Nat} {x : Str} {R : Rel} {T : Addr → Prop} (F : Fn P w K mg base k x R T) (h : k ≤ l) : Fn P w K mg base l x R T := by
  obtain ⟨f, fd, ps, G, hm, kp, hb⟩ := F.ex
  exact ⟨f, fd, ps, G.mono h, hm, kp, hb⟩
section
variable {C : Cs} {ls : List Loc} {e : Expr} {d : D} {ds : List D} {p pos p1 : Pos} {x : Str} {k : Nat} {R : Rel} {Po : D → Prop}
theorem jxa_1 (h : JX C ls e Po) (hs : NS e := by intro _ _; rfl) : JXA C ls [e] fun ds => ∃ d, ds = [d] ∧ Po d := ⟨fun x hx => by rw [List.mem_singleton.mp hx]; exact hs, fun F G H σ S xx Q q => ⟨tCons (eAny C e) (aAny C []), fun j => pa_cons (pe_any C e j) (pa_any C [] j) (hs _ _), h F G H σ S xx _ fun d v G1 H1 hd eg1 eh1 S1 hv => ⟨tNil, fun _ => pa_nil, q [d] [v] G1 H1 ⟨d, rfl, hd⟩ eg1 eh1 S1 (.cons hv .nil)⟩⟩⟩
theorem jx_callW [Cold C] (F : Fn C.P C.w C.K C.mg C.base k x R C.E.T) {es : List Expr} {Pa : List D → Prop} (ha : JXA C ls (e :: es) Pa) (hR : ∀ ds, Pa ds → ∃ Po', R ds Po' ∧ ∀ d, Po' d → Po d) (hk : k ≤ C.k := by exact Nat.le_of_ble_eq_true rfl) (hg : ∀ j, Gl (C.X j) x := by intro _; rfl) (hdb : (x == ("__debug__" : Str)) = false := by decide) :
    JX C ls (.Call (.Name x p) (e :: es) [] pos) Po :=
  jx_call (F.weak (R2 := fun ds P => ∃ Po', R ds Po' ∧ ∀ d, Po' d → P d) fun ds P h => h) ha hR hk hg hdb
end
end Qp

set_option maxHeartbeats 4000000
namespace T15
open PySem PySem.Spec PyProof.Rows L2 Qp
theorem scBandT : FnScope ["value", "blocks"] ["value", "blocks"] (defScope sBandT) := ⟨rfl, rfl, rfl, by decide +kernel, rfl, by decide +kernel, by decide +kernel⟩
theorem scTells : FnScope ["value", "blocks", "before", "found"] ["value", "blocks"] (defScope sTells) := ⟨rfl, rfl, rfl, by decide +kernel, rfl, by decide +kernel, by decide +kernel⟩
theorem scLaw : FnScope ["script", "hand", "blocks", "other", "odd", "band", "k", "bent"] ["script"] (defScope sLaw) := ⟨rfl, rfl, rfl, by decide +kernel, rfl, by decide +kernel, by decide +kernel⟩
def rBandT : List D → D → Prop := fun ds d => ∃ (v : D) (n : Int), ds = [v, .int n] ∧ 1 ≤ n ∧ n ≤ 4 ∧ Sc 60 v ∧ wA [v] < 1000000 ∧ d = .bl (isBlocks n v)
def rTells : List D → D → Prop := fun ds d => ∃ (v : D) (n : Int) (k : Nat), ds = [v, .int n] ∧ 1 ≤ n ∧ n ≤ 4 ∧ k ≤ 39 ∧ Fi k 60 900000 v ∧ d = .bl true
section
variable {P : Program} {w : World} {K : Fg} {mg : Str → Option Value} {base : Heap} {T : Addr → Prop}
theorem blocks_eq {n : Int} {v : D} (h1 : 1 ≤ n) (h4 : n ≤ 4) (hb : isBandB v = false) : isBlocks n v = false := by
  cases v with
  | tup ds =>
    replace hb : ((decide ((1 : Int) ≤ (ds.length : Int)) && decide ((ds.length : Int) ≤ 4)) && ds.all (isTreeB 2)) = false := hb
    show (decide ((ds.length : Int) = n) && ((decide (1 ≤ n) && decide (n ≤ 4)) && ds.all (isTreeB 2))) = false
    by_cases e : (ds.length : Int) = n
    · rw [e] at hb
      rw [hb, Bool.and_false]
    · rw [decide_eq_false e]; rfl
  | _ => rfl
theorem ok_bandT {f : Addr} {fd : FuncData} (F : Fun K "is_band_tree" "is_band_tree" sBandT f fd) (mlen : mg "len" = none) (GS : Fn P w K mg base 16 "is_some_band_tree" (det rSome) T) : FnOk P w K mg base CX0 17 f fd ["value", "blocks"] (spD K (det rBandT) T) := by
  refine fn_okd F scBandT (fun ds d h => ?_) (fun cdv A outer s H E hr ds d h => ?_)
  · obtain ⟨_, _, rfl, _⟩ := h
    rfl
  · obtain ⟨v, n, rfl, h1, h4, hv, hw, rfl⟩ := h
    by_cases hb : isBandB v = true
    · obtain ⟨ds, rfl⟩ : ∃ ds, v = .tup ds := by
        cases v <;> first | exact ⟨_, rfl⟩ | (cases hb)
      refine jb_ret (je_and (je_call GS (ja_cons (je_v 0) ja_nil) ⟨_, rfl, hv, hw, rfl⟩) fun _ => je_one (je_eq (je_lenT (je_v 0)) (je_v 1))) ?_
      show D.bl (isBandB (.tup ds) && decide ((ds.length : Int) = n)) = D.bl (decide ((ds.length : Int) = n) && ((decide (1 ≤ n) && decide (n ≤ 4)) && ds.all (isTreeB 2)))
      rw [hb, Bool.true_and]
      by_cases e : (ds.length : Int) = n
      · have hb : ((decide ((1 : Int) ≤ (ds.length : Int)) && decide ((ds.length : Int) ≤ 4)) && ds.all (isTreeB 2)) = true := hb
        rw [e] at hb
        rw [hb, Bool.and_true]
      · rw [decide_eq_false e]; rfl
    · have hb : isBandB v = false := by simpa using hb
      rw [blocks_eq h1 h4 hb]
      exact jb_ret (je_and (l := false) (je_call GS (ja_cons (je_v 0) ja_nil) ⟨_, rfl, hv, hw, rfl⟩) fun z => by rw [hb] at z; cases z) (by rw [hb]; rfl)
theorem ok_tells {f : Addr} {fd : FuncData} (F : Fun K "_law_tells" "_law_tells" sTells f fd) (mrepr : mg "repr" = none) (misi : mg "isinstance" = none) (mbool : mg "bool" = none) (GK : Fk P w K mg base 17 "is_band_tree" 0 ["value", "blocks"] [0, 1] (det rBandT) T) (GB : Fn P w K mg base 6 "_law_is_band" (det rLBandQ) T) : FnG P w K mg base 18 f fd ["value", "blocks"] (spD K (det rTells) T) := by
  refine fn_okdG F scTells (fun ds d h => ?_) (fun cdv A outer s H E hr gd ds d h => ?_)
  · obtain ⟨_, _, _, rfl, _⟩ := h
    rfl
  · obtain ⟨v, n, k, rfl, h1, h4, hk, hf, rfl⟩ := h
    have hs := hf.sc hk
    have hw : wA [v] < 1000000 := by rw [wA_cons, wA_nil]; have := hf.wt; omega
    refine jb_set 2 (je_repr (je_v 0) (hf.sw hk) gd) ?_
    refine jb_set 3 (je_callK0 GK (jk_cons (je_v 0) (jk_cons (je_v 1) jk_nil)) rfl ⟨v, n, rfl, h1, h4, hs, hw, rfl⟩) ?_
    refine jb_ret (je_and (k := true) (l := true) ((je_isBool (d := .bl (isBlocks n v)) (je_v 3)).is rfl) fun _ => (je_and (k := true) (l := true) ((je_eqD (je_v 3) (je_call GB (ja_cons (je_v 0) (ja_cons (je_v 1) ja_nil)) ⟨v, n, rfl, hs, hw, rfl⟩) ⟨rfl, rfl⟩ ⟨rfl, rfl⟩).is (congrArg D.bl (eqv_self (.bl (isBlocks n v))))) fun _ => je_one ((je_eqS (je_repr (je_v 0) (hf.sw hk) gd) (je_v 2)).is (congrArg D.bl (decide_eq_true rfl))))) rfl
theorem ok_law {f : Addr} {fd : FuncData} (F : Fun K "law" "law" sLaw f fd) (mrange : mg "range" = none) (mlist : mg "list" = none) (GD : Fn P w K mg base 1 "_law_draws" rDrw T) (GT : Fn P w K mg base 1 "_law_take" rTake T)
    (GB : Fn P w K mg base 8 "_law_band" rBand T) (GG : Fn P w K mg base 5 "_law_grafted" rGraft T) (GS : Fn P w K mg base 3 "_law_spoilt" rSpoilt T) (GE : FnGt P w K mg base 18 "_law_tells" (det rTells) T) : FnG P w K mg base 19 f fd ["script"] (spD K rLaw T) := by
  refine fn_okG F scLaw (fun ds d h => ?_) (fun cdv A outer s H E hr gd ds Po h => ?_)
  · obtain ⟨_, _, rfl, _⟩ := h
    rfl
  · obtain ⟨ns, hns, rfl, rfl⟩ := h
    refine jb_setNX (Pa := fun ds => ∃ vs : List Int, ds = [.lst (iL vs), .int 0, .int 16, .int 12]) 1 (jnx_lst (jxa_cons (jx_call1 GD (ja_cons (je_v 0) (ja_cons je_int ja_nil)) ⟨ns, 700, rfl, hns, by decide, rfl⟩) (fun d hd => (JXA.of (ja_cons je_int (ja_cons je_int (ja_cons je_int ja_nil)))).imp fun es he => ?_) ⟨_, List.replicate 700 0, rfl, List.length_replicate⟩) ?_) ?_
    · obtain ⟨vs, rfl, _⟩ := hd
      exact ⟨vs, by rw [he]⟩
    · rintro _ ⟨vs, rfl⟩
      exact Nat.le_of_ble_eq_true rfl
    rintro _ ⟨vs, rfl⟩
    refine jb_mkHand 1 0 (es := iL vs) (js := [16, 12]) rfl ?_
    have p1 : ∀ i j : Int, i = 1 → 0 ≤ j ∧ j < 4 → ∃ b : Nat, i + j = b ∧ 1 ≤ b ∧ b ≤ 4 := fun i j hi hj => ⟨(1 + j).toNat, by omega, by omega, by omega⟩
    refine jb_setX 2 (jx_add (r := fun z => ∃ b : Nat, z = b ∧ 1 ≤ b ∧ b ≤ 4) (JX.int (p := fun i => i = 1) je_int rfl) (jx_call1 GT (ja_cons (je_v 1) (ja_cons je_int ja_nil)) ⟨vs, 2, 4, rfl, by decide, rfl⟩) p1) ?_
    rintro _ ⟨_, rfl, b, rfl, hb1, hb4⟩
    refine jb_setX 3 (jx_add (r := fun z => ∃ b : Nat, z = b ∧ 1 ≤ b ∧ b ≤ 4) (JX.int (p := fun i => i = 1) je_int rfl) (jx_call1 GT (ja_cons (je_v 1) (ja_cons je_int ja_nil)) ⟨vs, 2, 4, rfl, by decide, rfl⟩) p1) ?_
    rintro _ ⟨_, rfl, b2, rfl, hc1, hc4⟩
    refine jb_setX 4 (jx_ixX (Po := Fi 12 60 900000) (JN.jc' (jn_lst (ja_cons je_non (ja_cons je_bl (ja_cons je_int (ja_cons je_str (ja_cons (je_tup ja_nil) (ja_cons (JE.new (jn_lst ja_nil)) (ja_cons (je_tup (ja_cons (je_tup ja_nil) ja_nil)) (ja_cons je_str (ja_cons je_int (ja_cons (je_tup (ja_cons je_str ja_nil)) ja_nil)))))))))))) (jx_call1 GT (ja_cons (je_v 1) (ja_cons je_int ja_nil)) ⟨vs, 2, 10, rfl, by decide, rfl⟩) fun i hi => ?_) ?_
    · have l4 : fineB 12 (.str "leaf") = true := by rw [fineB]; decide +kernel
      have : i = 0 ∨ i = 1 ∨ i = 2 ∨ i = 3 ∨ i = 4 ∨ i = 5 ∨ i = 6 ∨ i = 7 ∨ i = 8 ∨ i = 9 := by omega
      rcases this with rfl | rfl | rfl | rfl | rfl | rfl | rfl | rfl | rfl | rfl
      · exact ⟨_, rfl, fi_non⟩
      · exact ⟨_, rfl, fi_bl⟩
      · exact ⟨_, rfl, fi_int (by decide) (by decide) (by decide)⟩
      · exact ⟨_, rfl, fi_str (by decide +kernel) (by decide +kernel)⟩
      · exact ⟨_, rfl, fi_tup (n := 0) (fun _ h => (List.not_mem_nil h).elim) (Nat.zero_le _) (by decide)⟩
      · exact ⟨_, rfl, fi_lst (n := 0) (fun _ h => (List.not_mem_nil h).elim) (Nat.zero_le _) (by decide)⟩
      · refine ⟨_, rfl, fi_tup (n := 1) (fun d hd => ?_) (by decide) (by decide)⟩
        rw [List.mem_singleton.mp hd]
        exact ⟨by simp [fineB, fineAll], by decide⟩
      · exact ⟨_, rfl, fi_str (by decide +kernel) (by decide +kernel)⟩
      · exact ⟨_, rfl, fi_int (by decide) (by decide) (by decide)⟩
      · refine ⟨_, rfl, fi_tup (n := 1) (fun d hd => ?_) (by decide +kernel) (by decide)⟩
        rw [List.mem_singleton.mp hd]
        exact ⟨l4, Nat.zero_le _⟩
    intro od hod
    refine jb_setX 5 (jx_call1 GB (ja_cons (je_v 1) (ja_cons (je_v 2) (ja_cons je_int ja_nil))) ⟨vs, b, 5, rfl, hb4, by decide, by decide, rfl⟩) ?_
    intro bd hbd
    have fbd := bandD_fi hb4 hbd
    have gbd : Fi 12 60 900000 bd := fbd.mono (by decide) (by decide) (by decide)
    obtain ⟨ts, rfl, hl, hts⟩ := id hbd
    let bs : List Qp.Loc := [.val (.scr ns), .val (.hand (iL vs) 2), .val (.int b), .val (.int b2), .val od, .val (.tup ts), .any, .any]
    have tl : ∀ {v : D} {n : Nat}, Fi 12 60 900000 v → 1 ≤ n → n ≤ 4 → rTells [v, .int n] (.bl true) := fun hv h1 h4 => ⟨_, _, 12, rfl, by omega, by omega, by decide, hv, rfl⟩
    refine jb_ifx (k := false) (JT.is (jt_w (jw_or (jt_not (jt_val (je_callG GE (ja_cons (je_v 5) (ja_cons (je_v 2) ja_nil)) (tl gbd hb1 hb4) gd))) fun _ => jw_or (jt_not (jt_val (je_callG GE (ja_cons (je_v 5) (ja_cons (je_v 3) ja_nil)) (tl gbd hc1 hc4) gd))) fun _ => jw_or1 (jt_not (jt_val (je_callG GE (ja_cons (je_v 4) (ja_cons (je_v 2) ja_nil)) (tl hod hb1 hb4) gd))))) rfl) (fun hk => by cases hk) fun _ => ?_
    have glist : Fi 12 60 900000 (.lst ts) := fi_lst (n := 8) (fun d hd => by have := fbd.each d hd; exact ⟨this.1, by omega⟩) (Nat.le_trans fbd.w (by decide)) (by decide)
    have h0 : 0 < ts.length := by omega
    have g0 : Fi 12 60 900000 ts[0] := (fbd.mem (List.getElem_mem h0)).mono (by decide) (by decide) (by decide)
    refine jb_ifx (k := false) (JT.is (jt_w (jw_or (jt_not (jt_val (je_callG GE (ja_cons (JE.new (jn_listT (je_v 5) mlist)) (ja_cons (je_v 2) ja_nil)) (tl glist hb1 hb4) gd))) fun _ => jw_or1 (jt_not (jt_val (je_callG GE (ja_cons (je_ixT (d := ts[0]) (je_v 5) je_int (atI_nat (j := 0) (List.getElem?_eq_getElem h0))) (ja_cons je_int ja_nil)) (tl (n := 1) g0 (by decide) (by decide)) gd))))) rfl) (fun hk => by cases hk) fun _ => ?_
    refine jb_cons (fun l => l = bs) (js_handSet 1 (k := 1) (JX.of je_int ⟨590, rfl, fun _ => by decide⟩) je_int rfl (by decide) (by decide) rfl) ?_
    rintro _ rfl
    refine jb_ifx (k := false) ((jt_not (jt_val (JX.je (jx_callG GE (Pa := fun ds => ∃ v, ds = [v, .int b] ∧ GraftD b v) (Po := fun d => d = .bl true) (jxa_cons (jx_call1 GG (ja_cons (je_v 1) (ja_cons (je_v 5) ja_nil)) ⟨vs, _, b, rfl, hbd, hb1, hb4, rfl⟩) (fun d hd => (JXA.of (ja_cons (je_v 2) ja_nil)).imp fun es he => ⟨d, by rw [he], hd⟩) ?_) ?_ gd)))).is rfl) (fun hk => by cases hk) fun _ => ?_
    · exact ⟨.tup ts, ts, rfl, hl, fbd.mono (by decide) (by decide) (by decide)⟩
    · rintro _ ⟨v, rfl, ts2, rfl, _, hf⟩
      exact ⟨_, tl (hf.mono (by decide) (by decide) (by decide)) hb1 hb4, rfl⟩
    refine jb_cons (fun l => l = bs) (js_handSet 1 (k := 1) (JX.of je_int ⟨640, rfl, fun _ => by decide⟩) je_int rfl (by decide) (by decide) rfl) ?_
    rintro _ rfl
    have spW : 2 * 6900 + 60 + 10 * (6900 + 1) ≤ 100000 := by decide
    refine jb_cons (fun l => ∃ bt, Fi 13 19 100000 bt ∧ l = bs.set 7 (.val bt)) (js_forR (n := 4) 6 (fun i l => (i = 0 ∧ l = bs) ∨ ∃ bt, Fi 13 19 100000 bt ∧ l = bs.set 7 (.val bt)) je_int (by decide) (Or.inl ⟨rfl, rfl⟩) ?_ fun l h => ?_) ?_
    · have key : ∀ i : Nat, ∀ l : List Qp.Loc, (l = bs ∨ ∃ bt, Fi 13 19 100000 bt ∧ l = bs.set 7 (.val bt)) → l.set 7 .any = bs := fun i l h => by
        rcases h with rfl | ⟨bt, _, rfl⟩ <;> rfl
      intro i l _ hl2
      have hl3 : l.set 7 .any = bs := by
        rcases hl2 with ⟨_, rfl⟩ | ⟨bt, _, rfl⟩ <;> rfl
      refine jb_forget 7 ?_
      rw [show (l.set 6 (Qp.Loc.val (.int i))).set 7 .any = bs.set 6 (.val (.int i)) by rw [List.set_comm _ _ (by decide), hl3]]
      refine jb_setX 7 (Po := Fi 13 19 100000) (jx_callW GS (Pa := fun ds => ∃ s : Nat, s ≤ 10 ∧ ds = [.hand (iL vs) 2, .tup ts, .int s]) (jxa_cons (JX.of (je_v 1) rfl) (fun d1 h1 => jxa_cons (JX.of (je_v 5) rfl) (fun d2 h2 => (jxa_1 (jx_call1 GT (ja_cons (je_v 1) (ja_cons je_int ja_nil)) ⟨vs, 2, 10, rfl, by decide, rfl⟩)).imp fun es he => ?_) ⟨_, rfl⟩) ⟨_, rfl⟩) ?_) ?_
      · obtain ⟨d, rfl, s, rfl, hs0, hs1⟩ := he
        exact ⟨s.toNat, by omega, by rw [← h1, ← h2, Int.toNat_of_nonneg hs0]⟩
      · rintro _ ⟨s, hs, rfl⟩
        refine ⟨_, ⟨vs, .tup ts, s, 12, 8, 6900, rfl, hs, fbd, by decide, by decide, by decide, by decide, rfl⟩, fun d hd => hd.mono (by decide) (by omega) ?_⟩
        have : s * (6900 + 1) ≤ 10 * (6900 + 1) := Nat.mul_le_mul_right _ hs
        omega
      · intro bt hbt
        have gbt : Fi 13 60 900000 bt := hbt.mono (by decide) (by decide) (by decide)
        refine jb_ifx (k := false) ((jt_not (jt_val (je_callG GE (ja_cons (je_v 7) (ja_cons (je_v 2) ja_nil)) ⟨_, _, 13, rfl, by omega, by omega, by decide, gbt, rfl⟩ gd))).is rfl) (fun hk => by cases hk) fun _ => ?_
        exact jb_end [6] (Or.inr ⟨bt, hbt, rfl⟩)
    · rcases h with ⟨h, _⟩ | h
      · exact absurd h (by decide)
      · exact h
    · rintro _ ⟨bt, hbt, rfl⟩
      refine jb_retX (JX.mono (jx_callG GE (Pa := fun ds => ∃ v, ds = [v, .int b] ∧ Fi 14 60 900000 v) (Po := fun d => d = .bl true) (jxa_cons (jx_call1 GS (ja_cons (je_v 1) (ja_cons (je_v 7) (ja_cons je_int ja_nil))) ⟨vs, bt, 3, 13, 19, 100000, rfl, by decide, hbt, by decide, by decide, by decide, by decide, rfl⟩) (fun d hd => (JXA.of (ja_cons (je_v 2) ja_nil)).imp fun es he => ⟨d, by rw [he], hd.mono (by decide) (by decide) (by decide)⟩) ⟨.non, fi_non⟩) ?_ gd) fun d h => h) fun d h => h
      rintro _ ⟨v, rfl, hf⟩
      exact ⟨_, ⟨_, _, 14, rfl, by omega, by omega, by decide, hf, rfl⟩, rfl⟩
end
end T15

set_option maxHeartbeats 4000000
namespace T15
open PySem PySem.Spec PyProof.Rows L2 Qp
theorem all_ok {lp : Program} {w : World} {K : Fg} {mg : Str → Option Value} {fa : Addr} {h0 : Heap} {c0 P0 c1 P1 c2 P2 c3 P3  am aq  : Addr} {k0 k1 k2 k3 k4 k5 k6 : Tok} (hfa : mg "law" = some (.ref fa)) (b0 : Tab0 K h0 (c0, P0)) (b1 : Tab0 K h0 (c1, P1)) (b2 : Tab0 K h0 (c2, P2)) (b3 : Tab0 K h0 (c3, P3)) (d0 : FTC K mg "is_row_of_levels" sLRow c0) (d1 : FTC K mg "is_square_of_levels" sLSq c1) (d2 : FTC K mg "is_split" sIsSplit c2) (d3 : FTC K mg "is_some_band_tree" sSome c3)
    (t0 : FT K mg "is_integer" sInt) (t1 : FT K mg "is_number" sNumb) (t2 : FT K mg "is_number_below" sNum) (t3 : FT K mg "is_integer_within" sWith) (t4 : FT K mg "is_told_prediction" sTold) (t5 : FT K mg "is_leaf" sIsLeaf) (t6 : FT K mg "is_tree" sIsTree) (t7 : FT K mg "is_band_tree" sBandT) (t8 : FT K mg "_law_draws" sDrw) (t9 : FT K mg "_law_take" sTake) (t10 : FT K mg "_law_is_integer" sLInt) (t11 : FT K mg "_law_is_leaf" sLLeafQ) (t12 : FT K mg "_law_is_tree" sLTreeQ) (t13 : FT K mg "_law_is_band" sLBandQ) (t14 : FT K mg "_law_level" sLevel) (t15 : FT K mg "_law_square" sSquare) (t16 : FT K mg "_law_shift" sShift) (t17 : FT K mg "_law_leaf" sLeaf) (t18 : FT K mg "_law_tree" sTree) (t19 : FT K mg "_law_band" sBand) (t20 : FT K mg "_law_wrong" sWrong) (t21 : FT K mg "_law_grafted" sGraft) (t22 : FT K mg "_law_spoilt" sSpoilt) (t23 : FT K mg "_law_tells" sTells) (t24 : FT K mg "law" sLaw)
    (mslots : mg "SLOTS" = some (.int 3 k0)) (mmot : mg "MOST_MOTION" = some (.int 31 k1)) (mlevel : mg "MOST_LEVEL" = some (.int 2000 k2)) (mparts : mg "PARTS_OF_LEAF" = some (.int 7 k3)) (mleast : mg "LEAST" = some (.int 2 k4)) (mblock : mg "BLOCK" = some (.int 8 k5)) (mmost : mg "MOST_BLOCKS" = some (.int 4 k6)) (mmodes : mg "MODES" = some (.ref am)) (hmodes : ∀ G, SqT K G am (modes5.map V.str)) (mq : mg "QUANTA" = some (.ref aq)) (hq : ∀ G, SqT K G aq (quanta.map V.int)) (mqua : Qua K mg)
     (zisinstance : mg "isinstance" = none) (zint : mg "int" = none) (zbool : mg "bool" = none) (ztuple : mg "tuple" = none) (zlen : mg "len" = none) (zall : mg "all" = none) (zabs : mg "abs" = none) (zrange : mg "range" = none) (zstr : mg "str" = none) (zlist : mg "list" = none) (zrepr : mg "repr" = none) :
    ∃ (fd : FuncData) (cs : List (Addr × Addr)), (∀ p ∈ cs, Tab0 K h0 p) ∧ (∀ (s : Shared) (u : Value), BindsTo s fd ⟨[u], []⟩ [("script", u)]) ∧ ∀ base : Heap, K.In base → base.Ns mainGlobals mg → (∀ p ∈ cs, GxR.TabB base mg p.1 p.2) → FnG lp w K mg base 19 fa fd ["script"] (spD K rLaw (tabT cs)) := by
  refine t24.lawG (cs := [(c0, P0), (c1, P1), (c2, P2), (c3, P3)]) hfa (fun p hp => ?_) (fun base hT {f fd} F => ?_) fun _ _ _ _ _ _ _ => rfl
  · simp only [List.mem_cons, List.not_mem_nil, or_false] at hp
    rcases hp with rfl | rfl | rfl | rfl <;> assumption
  generalize hTe : tabT [(c0, P0), (c1, P1), (c2, P2), (c3, P3)] = T
  have B0 : Tb base mg T c0 := ⟨P0, hT (c0, P0) (by simp), by rw [← hTe]; exact ⟨(c0, P0), by simp, rfl⟩⟩
  have B1 : Tb base mg T c1 := ⟨P1, hT (c1, P1) (by simp), by rw [← hTe]; exact ⟨(c1, P1), by simp, rfl⟩⟩
  have B2 : Tb base mg T c2 := ⟨P2, hT (c2, P2) (by simp), by rw [← hTe]; exact ⟨(c2, P2), by simp, rfl⟩⟩
  have B3 : Tb base mg T c3 := ⟨P3, hT (c3, P3) (by simp), by rw [← hTe]; exact ⟨(c3, P3), by simp, rfl⟩⟩
  have GInt : Fn lp w K mg base 1 "is_integer" (det rInt) T := t0.fn (fun F => ok_int F zisinstance zint zbool) fun _ _ _ _ _ _ us hl => match us, hl with | [_], _ => rfl
  have GNumb : Fn lp w K mg base 2 "is_number" (det rNumb) T := t1.fn (fun F => ok_numb F GInt) fun _ _ _ _ _ _ us hl => match us, hl with | [_], _ => rfl
  have GNum : Fn lp w K mg base 3 "is_number_below" (det rNum) T := t2.fn (fun F => ok_num F GNumb) fun _ _ _ _ _ _ us hl => match us, hl with | [_, _], _ => rfl
  have GWith : Fn lp w K mg base 2 "is_integer_within" (det rWith) T := t3.fn (fun F => ok_with F GInt) fun _ _ _ _ _ _ us hl => match us, hl with | [_, _], _ => rfl
  have GTold : Fn lp w K mg base 4 "is_told_prediction" (det rTold) T := t4.fn (fun F => ok_told F mslots mmot mmodes hmodes GNum GWith) fun _ _ _ _ _ _ us hl => match us, hl with | [_, _, _, _], _ => rfl
  have GLRow : Fn lp w K mg base 4 "is_row_of_levels" (det rLRow) T := d0.fn (fun F => ok_lrow F B0 zisinstance ztuple zlen zall mlevel GWith) fun _ _ _ _ _ _ us hl => match us, hl with | [_, _], _ => rfl
  have GLSq : Fn lp w K mg base 6 "is_square_of_levels" (det rLSq) T := d1.fn (fun F => ok_lsq F B1 zisinstance ztuple zlen zall GLRow) fun _ _ _ _ _ _ us hl => match us, hl with | [_, _], _ => rfl
  have GIsLeaf : Fn lp w K mg base 7 "is_leaf" (det rIsLeaf) T := t5.fn (fun F => ok_isLeaf F zisinstance ztuple zlen mparts mq hq GInt GTold GLSq) fun _ _ _ _ _ _ us hl => match us, hl with | [_, _], _ => rfl
  have GSp0 : Fn lp w K mg base 1 "is_split" (det (rIsSplit 0)) T := d2.fn (fun F => ok_isSplit0 F mleast) fun _ _ _ _ _ _ us hl => match us, hl with | [_, _], _ => rfl
  have GTr0 : Fn lp w K mg base 8 "is_tree" (det (rIsTree 0)) T := t6.fn (fun F => ok_isTree 0 7 (by decide) F GIsLeaf (GSp0.up (by decide))) fun _ _ _ _ _ _ us hl => match us, hl with | [_, _], _ => rfl
  have GSp1 : Fn lp w K mg base 10 "is_split" (det (rIsSplit 1)) T := d2.fn (fun F => ok_isSplit 0 8 F B2 zisinstance ztuple zlen zall mleast mqua GTr0) fun _ _ _ _ _ _ us hl => match us, hl with | [_, _], _ => rfl
  have GTr1 : Fn lp w K mg base 11 "is_tree" (det (rIsTree 1)) T := t6.fn (fun F => ok_isTree 1 10 (by decide) F GIsLeaf GSp1) fun _ _ _ _ _ _ us hl => match us, hl with | [_, _], _ => rfl
  have GSp2 : Fn lp w K mg base 13 "is_split" (det (rIsSplit 2)) T := d2.fn (fun F => ok_isSplit 1 11 F B2 zisinstance ztuple zlen zall mleast mqua GTr1) fun _ _ _ _ _ _ us hl => match us, hl with | [_, _], _ => rfl
  have GTr2 : Fn lp w K mg base 14 "is_tree" (det (rIsTree 2)) T := t6.fn (fun F => ok_isTree 2 13 (by decide) F GIsLeaf GSp2) fun _ _ _ _ _ _ us hl => match us, hl with | [_, _], _ => rfl
  have GSome : Fn lp w K mg base 16 "is_some_band_tree" (det rSome) T := d3.fn (fun F => ok_some F B3 zisinstance ztuple zlen zall mblock mmost GTr2) fun _ _ _ _ _ _ us hl => match us, hl with | [_], _ => rfl
  have GK : Fk lp w K mg base 17 "is_band_tree" 0 ["value", "blocks"] [0, 1] (det rBandT) T := t7.fk (ps := ["value", "blocks"]) (fun F => ok_bandT F zlen GSome) (by decide) fun _ _ _ _ _ _ us ws h1 h2 => match us, ws, h1, h2 with | [], [_, _], _, _ => rfl
  have LI : Fn lp w K mg base 1 "_law_is_integer" (det rInt) T := t10.fn (fun F => ok_lInt F zisinstance zint zbool) fun _ _ _ _ _ _ us hl => match us, hl with | [_], _ => rfl
  have LL : Fn lp w K mg base 2 "_law_is_leaf" (det rLLeafQ) T := t11.fn (fun F => ok_lLeafQ F zisinstance ztuple zstr zlen zabs LI) fun _ _ _ _ _ _ us hl => match us, hl with | [_, _], _ => rfl
  have LT0 : Fn lp w K mg base 3 "_law_is_tree" (det (rLTreeQ 0)) T := t12.fn (fun F => ok_lTreeQ 0 2 (by decide) F zisinstance ztuple zstr zlen LL (fun _ h => by cases h)) fun _ _ _ _ _ _ us hl => match us, hl with | [_, _], _ => rfl
  have LT1 : Fn lp w K mg base 4 "_law_is_tree" (det (rLTreeQ 1)) T := t12.fn (fun F => ok_lTreeQ 1 3 (by decide) F zisinstance ztuple zstr zlen LL (fun _ h => by cases h; exact LT0)) fun _ _ _ _ _ _ us hl => match us, hl with | [_, _], _ => rfl
  have LT2 : Fn lp w K mg base 5 "_law_is_tree" (det (rLTreeQ 2)) T := t12.fn (fun F => ok_lTreeQ 2 4 (by decide) F zisinstance ztuple zstr zlen LL (fun _ h => by cases h; exact LT1)) fun _ _ _ _ _ _ us hl => match us, hl with | [_, _], _ => rfl
  have LB : Fn lp w K mg base 6 "_law_is_band" (det rLBandQ) T := t13.fn (fun F => ok_lBandQ F zisinstance ztuple zlen LT2) fun _ _ _ _ _ _ us hl => match us, hl with | [_, _], _ => rfl
  have MD : Fn lp w K mg base 1 "_law_draws" rDrw T := t8.fn (fun F => ok_drw F zabs zint zlen zrange) fun _ _ _ _ _ _ us hl => match us, hl with | [_, _], _ => rfl
  have MT : Fn lp w K mg base 1 "_law_take" rTake T := t9.fn (fun F => ok_take F zint zlen) fun _ _ _ _ _ _ us hl => match us, hl with | [_, _], _ => rfl
  have ML : Fn lp w K mg base 2 "_law_level" rLevel T := t14.fn (fun F => ok_level F MT) fun _ _ _ _ _ _ us hl => match us, hl with | [_], _ => rfl
  have MS : Fn lp w K mg base 2 "_law_shift" rShift T := t16.fn (fun F => ok_shift F MT) fun _ _ _ _ _ _ us hl => match us, hl with | [_], _ => rfl
  have MQ : Fn lp w K mg base 3 "_law_square" rSquare T := t15.fn (fun F => ok_square F zrange ztuple zint MT ML) fun _ _ _ _ _ _ us hl => match us, hl with | [_, _], _ => rfl
  have MF : Fn lp w K mg base 4 "_law_leaf" rLeaf T := t17.fn (fun F => ok_leaf F MT MS MQ) fun _ _ _ _ _ _ us hl => match us, hl with | [_, _, _], _ => rfl
  have MT0 : Fn lp w K mg base 5 "_law_tree" (rTree 0) T := t18.fn (fun F => ok_tree 0 4 (by decide) (by decide) F ztuple zrange MT MF (fun _ h => by cases h)) fun _ _ _ _ _ _ us hl => match us, hl with | [_, _, _], _ => rfl
  have MT1 : Fn lp w K mg base 6 "_law_tree" (rTree 1) T := t18.fn (fun F => ok_tree 1 5 (by decide) (by decide) F ztuple zrange MT MF (fun _ h => by cases h; exact MT0)) fun _ _ _ _ _ _ us hl => match us, hl with | [_, _, _], _ => rfl
  have MT2 : Fn lp w K mg base 7 "_law_tree" (rTree 2) T := t18.fn (fun F => ok_tree 2 6 (by decide) (by decide) F ztuple zrange MT MF (fun _ h => by cases h; exact MT1)) fun _ _ _ _ _ _ us hl => match us, hl with | [_, _, _], _ => rfl
  have MB : Fn lp w K mg base 8 "_law_band" rBand T := t19.fn (fun F => ok_band F ztuple zrange MT2) fun _ _ _ _ _ _ us hl => match us, hl with | [_, _, _], _ => rfl
  have MW : Fn lp w K mg base 2 "_law_wrong" rWrong T := t20.fn (fun F => ok_wrong F zisinstance ztuple zstr zlist MT LI) fun _ _ _ _ _ _ us hl => match us, hl with | [_, _], _ => rfl
  have MG : Fn lp w K mg base 5 "_law_grafted" rGraft T := t21.fn (fun F => ok_graft F zlen MT MF) fun _ _ _ _ _ _ us hl => match us, hl with | [_, _], _ => rfl
  have MP : Fn lp w K mg base 3 "_law_spoilt" rSpoilt T := t22.fn (fun F => ok_spoilt F zisinstance ztuple zlen zrange MT MW) fun _ _ _ _ _ _ us hl => match us, hl with | [_, _, _], _ => rfl
  have GE : FnGt lp w K mg base 18 "_law_tells" (det rTells) T := t23.fnG (fun F => ok_tells F zrepr zisinstance zbool GK LB) fun _ _ _ _ _ _ us hl => match us, hl with | [_, _], _ => rfl
  exact ok_law F zrange zlist MD MT MB MG MP GE
end T15
open PySem PySem.W PyProof.Rows
set_option maxHeartbeats 0 in
theorem PySem.Challenge.cw_picturetide_k15_band_trees_holds : PySem.Challenge.rw_picturetide_k15_band_trees.Holds := by
  w_on; o_law; k_head; (case hw => w_witness2)
  k_fill
  refine Qp.law_endG (l := PySem.Challenge.rw_picturetide_k15_band_trees) (k := 19) (x := "script") rfl rfl ⟨rfl, by decide, by decide⟩ (fun w h Y => PySem.W.kIn_of Y) ?F
  case F =>
    intro w mg fa h KX G hmg TF
    refine' T15.all_ok hmg ?b0 ?b1 ?b2 ?b3 ?d0 ?d1 ?d2 ?d3 ?t0 ?t1 ?t2 ?t3 ?t4 ?t5 ?t6 ?t7 ?t8 ?t9 ?t10 ?t11 ?t12 ?t13 ?t14 ?t15 ?t16 ?t17 ?t18 ?t19 ?t20 ?t21 ?t22 ?t23 ?t24 ?mslots ?mmot ?mlevel ?mparts ?mleast ?mblock ?mmost ?mmodes ?hmodes ?mq ?hq ?mqua ?zisinstance ?zint ?zbool ?ztuple ?zlen ?zall ?zabs ?zrange ?zstr ?zlist ?zrepr
    case b0 => exact Qp.TabFacts.tab TF "is_row_of_levels" (by kernel_rfl) (by k_is) (by k_is) (by rfl) (by k_is) (by rfl) (by rfl)
    case b1 => exact Qp.TabFacts.tab TF "is_square_of_levels" (by kernel_rfl) (by k_is) (by k_is) (by rfl) (by k_is) (by rfl) (by rfl)
    case b2 => exact Qp.TabFacts.tab TF "is_split" (by kernel_rfl) (by k_is) (by k_is) (by rfl) (by k_is) (by rfl) (by rfl)
    case b3 => exact Qp.TabFacts.tab TF "is_some_band_tree" (by kernel_rfl) (by k_is) (by k_is) (by rfl) (by k_is) (by rfl) (by rfl)
    case d0 => refine' Qp.ftc_mk KX G ?a ?l ?c ?k; (case a => k_is); (case l => k_is); (case c => k_is); (case k => k_is)
    case d1 => refine' Qp.ftc_mk KX G ?a ?l ?c ?k; (case a => k_is); (case l => k_is); (case c => k_is); (case k => k_is)
    case d2 => refine' Qp.ftc_mk KX G ?a ?l ?c ?k; (case a => k_is); (case l => k_is); (case c => k_is); (case k => k_is)
    case d3 => refine' Qp.ftc_mk KX G ?a ?l ?c ?k; (case a => k_is); (case l => k_is); (case c => k_is); (case k => k_is)
    case t0 => refine' Qp.ft_mk KX G ?a ?l ?c ?k; (case a => k_is); (case l => k_is); (case c => k_is); (case k => k_is)
    case t1 => refine' Qp.ft_mk KX G ?a ?l ?c ?k; (case a => k_is); (case l => k_is); (case c => k_is); (case k => k_is)
    case t2 => refine' Qp.ft_mk KX G ?a ?l ?c ?k; (case a => k_is); (case l => k_is); (case c => k_is); (case k => k_is)
    case t3 => refine' Qp.ft_mk KX G ?a ?l ?c ?k; (case a => k_is); (case l => k_is); (case c => k_is); (case k => k_is)
    case t4 => refine' Qp.ft_mk KX G ?a ?l ?c ?k; (case a => k_is); (case l => k_is); (case c => k_is); (case k => k_is)
    case t5 => refine' Qp.ft_mk KX G ?a ?l ?c ?k; (case a => k_is); (case l => k_is); (case c => k_is); (case k => k_is)
    case t6 => refine' Qp.ft_mk KX G ?a ?l ?c ?k; (case a => k_is); (case l => k_is); (case c => k_is); (case k => k_is)
    case t7 => refine' Qp.ft_mk KX G ?a ?l ?c ?k; (case a => k_is); (case l => k_is); (case c => k_is); (case k => k_is)
    case t8 => refine' Qp.ft_mk KX G ?a ?l ?c ?k; (case a => k_is); (case l => k_is); (case c => k_is); (case k => k_is)
    case t9 => refine' Qp.ft_mk KX G ?a ?l ?c ?k; (case a => k_is); (case l => k_is); (case c => k_is); (case k => k_is)
    case t10 => refine' Qp.ft_mk KX G ?a ?l ?c ?k; (case a => k_is); (case l => k_is); (case c => k_is); (case k => k_is)
    case t11 => refine' Qp.ft_mk KX G ?a ?l ?c ?k; (case a => k_is); (case l => k_is); (case c => k_is); (case k => k_is)
    case t12 => refine' Qp.ft_mk KX G ?a ?l ?c ?k; (case a => k_is); (case l => k_is); (case c => k_is); (case k => k_is)
    case t13 => refine' Qp.ft_mk KX G ?a ?l ?c ?k; (case a => k_is); (case l => k_is); (case c => k_is); (case k => k_is)
    case t14 => refine' Qp.ft_mk KX G ?a ?l ?c ?k; (case a => k_is); (case l => k_is); (case c => k_is); (case k => k_is)
    case t15 => refine' Qp.ft_mk KX G ?a ?l ?c ?k; (case a => k_is); (case l => k_is); (case c => k_is); (case k => k_is)
    case t16 => refine' Qp.ft_mk KX G ?a ?l ?c ?k; (case a => k_is); (case l => k_is); (case c => k_is); (case k => k_is)
    case t17 => refine' Qp.ft_mk KX G ?a ?l ?c ?k; (case a => k_is); (case l => k_is); (case c => k_is); (case k => k_is)
    case t18 => refine' Qp.ft_mk KX G ?a ?l ?c ?k; (case a => k_is); (case l => k_is); (case c => k_is); (case k => k_is)
    case t19 => refine' Qp.ft_mk KX G ?a ?l ?c ?k; (case a => k_is); (case l => k_is); (case c => k_is); (case k => k_is)
    case t20 => refine' Qp.ft_mk KX G ?a ?l ?c ?k; (case a => k_is); (case l => k_is); (case c => k_is); (case k => k_is)
    case t21 => refine' Qp.ft_mk KX G ?a ?l ?c ?k; (case a => k_is); (case l => k_is); (case c => k_is); (case k => k_is)
    case t22 => refine' Qp.ft_mk KX G ?a ?l ?c ?k; (case a => k_is); (case l => k_is); (case c => k_is); (case k => k_is)
    case t23 => refine' Qp.ft_mk KX G ?a ?l ?c ?k; (case a => k_is); (case l => k_is); (case c => k_is); (case k => k_is)
    case t24 => refine' Qp.ft_mk KX G ?a ?l ?c ?k; (case a => k_is); (case l => k_is); (case c => k_is); (case k => k_is)
    case mslots => refine PySem.W.mg_of KX G ?_; k_is
    case mmot => refine PySem.W.mg_of KX G ?_; k_is
    case mlevel => refine PySem.W.mg_of KX G ?_; k_is
    case mparts => refine PySem.W.mg_of KX G ?_; k_is
    case mleast => refine PySem.W.mg_of KX G ?_; k_is
    case mblock => refine PySem.W.mg_of KX G ?_; k_is
    case mmost => refine PySem.W.mg_of KX G ?_; k_is
    case mmodes => refine PySem.W.mg_of KX G ?_; k_is
    case hmodes => exact fun G => .inr ⟨_, _, _, by k_is, rfl, rfl, by decide, .cons ⟨_, rfl⟩ (.cons ⟨_, rfl⟩ (.cons ⟨_, rfl⟩ (.cons ⟨_, rfl⟩ (.cons ⟨_, rfl⟩ .nil))))⟩
    case mq => refine PySem.W.mg_of KX G ?_; k_is
    case hq => exact fun G => .inr ⟨_, _, _, by k_is, rfl, rfl, by decide, L2.vals_ints (.cons _ _ (.cons _ _ (.cons _ _ (.cons _ _ (.cons _ _ (.cons _ _ (.cons _ _ .nil)))))))⟩
    case mqua => refine' T15.qua_mk ?h ?l ?c ?d ?t1 ?t2 ?t3 ?t4; (case h => refine PySem.W.mg_of KX G ?_; k_is); (case l => k_is); (case c => rfl); (case d => rfl); (case t1 => refine' T15.tup2_mk ?l ?c ?d; (case l => k_is); (case c => rfl); (case d => rfl)); (case t2 => refine' T15.tup2_mk ?l ?c ?d; (case l => k_is); (case c => rfl); (case d => rfl)); (case t3 => refine' T15.tup2_mk ?l ?c ?d; (case l => k_is); (case c => rfl); (case d => rfl)); (case t4 => refine' T15.tup2_mk ?l ?c ?d; (case l => k_is); (case c => rfl); (case d => rfl))
    case zisinstance => refine PySem.W.mg_none_of KX G ?_; k_is
    case zint => refine PySem.W.mg_none_of KX G ?_; k_is
    case zbool => refine PySem.W.mg_none_of KX G ?_; k_is
    case ztuple => refine PySem.W.mg_none_of KX G ?_; k_is
    case zlen => refine PySem.W.mg_none_of KX G ?_; k_is
    case zall => refine PySem.W.mg_none_of KX G ?_; k_is
    case zabs => refine PySem.W.mg_none_of KX G ?_; k_is
    case zrange => refine PySem.W.mg_none_of KX G ?_; k_is
    case zstr => refine PySem.W.mg_none_of KX G ?_; k_is
    case zlist => refine PySem.W.mg_none_of KX G ?_; k_is
    case zrepr => refine PySem.W.mg_none_of KX G ?_; k_is
