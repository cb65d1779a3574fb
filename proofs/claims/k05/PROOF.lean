import PyProof.Rows.All
import Wide.All
import OpenK.AllK
import Wide.FinOn
import HandS.ForMost
import HandS.IsInst
import HandS.NoneIn
import HandS.Style
import HandS.TupAny
import HandS.Evl
import PyProof.ReprRoads
import HandS.Walk
import HandS.TupLe
import HandS.TupSets
import HandS.Zip
import HandS.Conv
import HandS.Rev
import HandS.RevTup
import HandS.ExcValue
import KE.KDictZip
import KE.KTurns
import PyProof.TupleOfGen
import HandS.Style
import HandS.Star
import HandS.Lambda
import HandS.Nested
import HandS.EndTab
import KE.KNestM
import KE.DataMinMax
import KE.SortData
import HandS.Deep
import PySem.Challenge.RW_versionjudge_k05_whole_one_form_of_range
set_option Elab.async false
set_option linter.all false
set_option maxRecDepth 100000
set_option maxHeartbeats 4000000
namespace Zj
open PySem L2
/-! ### frames, the deck -/
def Kp (d l : Addr) (H H' : Hp) : Prop := ∀ b o, b ≠ d → b ≠ l → H b = some o → H' b = some o
def dkv (l : Addr) (m t : Int) : List (Key × V) := [(.inr "left", .ref l), (.inr "mixed", .int m), (.inr "turn", .int t)]
def Deck (d l : Addr) (H : Hp) : Prop := ∃ (ns : List Int) (m t : Int), H d = some (.dK (dkv l m t)) ∧ H l = some (.lst (ns.map V.int)) ∧ ns.length ≤ 63 ∧ 0 ≤ m ∧ m < 2147483647
theorem Kp.refl {d l : Addr} (H : Hp) : Kp d l H H := fun _ _ _ _ h => h
theorem Kp.trans {d l : Addr} {H H1 H2 : Hp} (a : Kp d l H H1) (b : Kp d l H1 H2) : Kp d l H H2 := fun c o h1 h2 h => b c o h1 h2 (a c o h1 h2 h)
theorem Kp.new {d l p : Addr} {H : Hp} {o : HO} (h : H p = none) : Kp d l H (upd H p o) := fun b u _ _ e => by
  rw [upd_ne (ne_of_none e h)]
  exact e
theorem Deck.ned {d l a : Addr} {H : Hp} {xs : List V} (D : Deck d l H) (h : H a = some (.tup xs)) : a ≠ d := by
  obtain ⟨ns, m, t, h1, _⟩ := D
  exact ne_of h h1 (fun q => nomatch q)
theorem Deck.nel {d l a : Addr} {H : Hp} {xs : List V} (D : Deck d l H) (h : H a = some (.tup xs)) : a ≠ l := by
  obtain ⟨ns, m, t, _, h1, _⟩ := D
  exact ne_of h h1 (fun q => nomatch q)
theorem Deck.nedl {d l a : Addr} {H : Hp} {xs : List V} (D : Deck d l H) (h : H a = some (.lst xs)) : a ≠ d := by
  obtain ⟨ns, m, t, h1, _⟩ := D
  exact ne_of h h1 (fun q => nomatch q)
theorem Deck.dl {d l : Addr} {H : Hp} (D : Deck d l H) : d ≠ l := by
  obtain ⟨ns, m, t, h1, h2, _⟩ := D
  exact ne_of h1 h2 (fun q => nomatch q)
theorem Kp.tup {d l a : Addr} {H H' : Hp} {xs : List V} (k : Kp d l H H') (D : Deck d l H) (h : H a = some (.tup xs)) : H' a = some (.tup xs) := k a _ (D.ned h) (D.nel h) h
theorem Kp.lst {d l a : Addr} {H H' : Hp} {xs : List V} (k : Kp d l H H') (D : Deck d l H) (ne : a ≠ l) (h : H a = some (.lst xs)) : H' a = some (.lst xs) := k a _ (D.nedl h) ne h
/-- a tuple, tracked or written -/
theorem Kp.tupS {K : PySem.W.Frag} {d l a : Addr} {H H' : Hp} {xs : List V} (k : Kp d l H H') (D : Deck d l H) (h : SqT K H a xs) : SqT K H' a xs := by
  obtain ⟨ns, m, t, h1, h2, _⟩ := D
  rcases h with (h | ⟨o, h⟩) | h
  · exact .inl (.inl (k a _ (ne_of h h1 (fun q => nomatch q)) (ne_of h h2 (fun q => nomatch q)) h))
  · exact .inl (.inr ⟨o, k a _ (ne_of h h1 (fun q => nomatch q)) (ne_of h h2 (fun q => nomatch q)) h⟩)
  · exact .inr h
theorem tupS_same {K : PySem.W.Frag} {a : Addr} {H H' : Hp} {xs : List V} (s : ∀ b o, H b = some o → H' b = some o) (h : SqT K H a xs) : SqT K H' a xs := by
  rcases h with (h | ⟨o, h⟩) | h
  · exact .inl (.inl (s _ _ h))
  · exact .inl (.inr ⟨o, s _ _ h⟩)
  · exact .inr h
/-- all tuples stay -/
def TKp (K : PySem.W.Frag) (H H' : Hp) : Prop := ∀ a xs, SqT K H a xs → SqT K H' a xs
theorem TKp.trans {K : PySem.W.Frag} {H H1 H2 : Hp} (a : TKp K H H1) (b : TKp K H1 H2) : TKp K H H2 := fun x xs h => b x xs (a x xs h)
theorem TKp.kp {K : PySem.W.Frag} {d l : Addr} {H H' : Hp} (k : Kp d l H H') (D : Deck d l H) : TKp K H H' := fun _ _ h => k.tupS D h
theorem TKp.of {K : PySem.W.Frag} {H H' : Hp} (s : ∀ b o, H b = some o → H' b = some o) : TKp K H H' := fun _ _ h => tupS_same s h
/-- a list is changed -/
theorem TKp.mut {K : PySem.W.Frag} {H : Hp} {p : Addr} {xs ys : List V} (e : H p = some (.lst xs)) : TKp K H (upd H p (.lst ys)) := fun a zs h => by
  rcases h with (h | ⟨o, h⟩) | h
  · exact .inl (.inl (by rw [upd_ne (ne_of h e (fun q => nomatch q))]; exact h))
  · exact .inl (.inr ⟨o, by rw [upd_ne (ne_of h e (fun q => nomatch q))]; exact h⟩)
  · exact .inr h
theorem TKp.new {K : PySem.W.Frag} {H : Hp} {p : Addr} {o : HO} (h : H p = none) : TKp K H (upd H p o) := TKp.of fun b u e => by
  rw [upd_ne (ne_of_none e h)]
  exact e
theorem Deck.new {d l p : Addr} {H : Hp} {o : HO} (D : Deck d l H) (h : H p = none) : Deck d l (upd H p o) := by
  obtain ⟨ns, m, t, h1, h2, r⟩ := D
  exact ⟨ns, m, t, by rw [upd_ne (ne_of_none h1 h)]; exact h1, by rw [upd_ne (ne_of_none h2 h)]; exact h2, r⟩
/-- a store at another place -/
theorem Deck.mut {d l p : Addr} {H : Hp} {o : HO} (D : Deck d l H) (h1 : p ≠ d) (h2 : p ≠ l) : Deck d l (upd H p o) := by
  obtain ⟨ns, m, t, e1, e2, r⟩ := D
  exact ⟨ns, m, t, by rw [upd_ne h1.symm]; exact e1, by rw [upd_ne h2.symm]; exact e2, r⟩
theorem Deck.free {d l p : Addr} {H : Hp} (D : Deck d l H) (h : H p = none) : p ≠ l := by
  obtain ⟨ns, m, t, _, h1, _⟩ := D
  exact (ne_of_none h1 h).symm
/-- an object that H does not know may change -/
theorem Kp.out {d l p : Addr} {H H' : Hp} {o : HO} (k : Kp d l H H') (h : H p = none) : Kp d l H (upd H' p o) := fun b u n1 n2 e => by
  rw [upd_ne (ne_of_none e h)]
  exact k b u n1 n2 e
theorem Deck.mono {d l : Addr} {H H' : Hp} (D : Deck d l H) (s : ∀ b o, H b = some o → H' b = some o) : Deck d l H' := by
  obtain ⟨ns, m, t, h1, h2, r⟩ := D
  exact ⟨ns, m, t, s _ _ h1, s _ _ h2, r⟩
theorem Kp.free_back {d l p : Addr} {H H' : Hp} (k : Kp d l H H') (D : Deck d l H') (h : H' p = none) : H p = none := by
  obtain ⟨ns, m, t, h1, h2, r⟩ := D
  cases q : H p with
  | none => rfl
  | some o =>
    rw [k p o (ne_of_none h1 h).symm (ne_of_none h2 h).symm q] at h
    cases h
theorem nLM : ¬ (("left" : Str) = "mixed") := by decide +kernel
theorem nLT : ¬ (("left" : Str) = "turn") := by decide +kernel
theorem nMT : ¬ (("mixed" : Str) = "turn") := by decide +kernel
theorem inr_ne {a b : Str} (h : ¬ a = b) : ¬ ((Sum.inr a : Key) = Sum.inr b) := fun q => h (Sum.inr.inj q)
section
variable {H : Hp} {d l : Addr} {m t : Int}
theorem val_left : valV (dkv l m t) (.inr "left") = some (.ref l) := by
  unfold valV dkv
  rw [List.find?_cons_of_pos (by simp)]
  rfl
theorem val_mixed : valV (dkv l m t) (.inr "mixed") = some (.int m) := by
  unfold valV dkv
  rw [List.find?_cons_of_neg (by simp [nLM]), List.find?_cons_of_pos (by simp)]
  rfl
theorem val_turn : valV (dkv l m t) (.inr "turn") = some (.int t) := by
  unfold valV dkv
  rw [List.find?_cons_of_neg (by simp [nLT]), List.find?_cons_of_neg (by simp [nMT]), List.find?_cons_of_pos (by simp)]
  rfl
theorem put_turn (t' : Int) : putK (dkv l m t) (.inr "turn") (.int t') = dkv l m t' := by
  simp [putK, dkv, nLT, nMT]
theorem put_mixed (m' : Int) : putK (dkv l m t) (.inr "mixed") (.int m') = dkv l m' t := by
  simp [putK, dkv, nLM, Ne.symm nMT]
theorem get_left (h : H d = some (.dK (dkv l m t))) : DGet H d (.str "left") (some (.ref l)) := by
  have := DGet.k (k := (.inr "left" : Key)) h
  rw [val_left] at this
  exact this
theorem get_mixed (h : H d = some (.dK (dkv l m t))) : DGet H d (.str "mixed") (some (.int m)) := by
  have := DGet.k (k := (.inr "mixed" : Key)) h
  rw [val_mixed] at this
  exact this
theorem get_turn (h : H d = some (.dK (dkv l m t))) : DGet H d (.str "turn") (some (.int t)) := by
  have := DGet.k (k := (.inr "turn" : Key)) h
  rw [val_turn] at this
  exact this
theorem set_turn (t' : Int) (h : H d = some (.dK (dkv l m t))) : DPut H d (.str "turn") (.int t') (upd H d (.dK (dkv l m t'))) := by
  have := DPut.k (k := (.inr "turn" : Key)) (v := .int t') h (by show 3 < sizeLine; decide)
  rw [put_turn] at this
  exact this
theorem set_mixed (m' : Int) (h : H d = some (.dK (dkv l m t))) : DPut H d (.str "mixed") (.int m') (upd H d (.dK (dkv l m' t))) := by
  have := DPut.k (k := (.inr "mixed" : Key)) (v := .int m') h (by show 3 < sizeLine; decide)
  rw [put_mixed] at this
  exact this
end
theorem DpAll.ints {K : PySem.W.Frag} {H : Hp} : ∀ ns : List Int, DpAll K H (ns.map V.int) (ns.map PyData.int)
  | [] => .nil
  | n :: r => .cons (.int n) (DpAll.ints r)
theorem lay_ints : ∀ ns : List Int, PyData.canLayAll0 (ns.map PyData.int) = true
  | [] => rfl
  | n :: r => by show (PyData.canLay0 (.int n) && _) = true; rw [lay_ints r]; rfl
theorem dep_ints : ∀ ns : List Int, PyData.depthAll (ns.map PyData.int) ≤ 1
  | [] => by decide
  | n :: r => by
    have := dep_ints r
    simp only [List.map_cons, PyData.depthAll, PyData.depth]
    omega
theorem sh_ints (ns : List Int) : SeqAt.shaped (.list (ns.map PyData.int)) = true := by
  have h := dep_ints ns
  unfold SeqAt.shaped
  rw [Bool.and_eq_true]
  refine ⟨lay_ints ns, decide_eq_true ?_⟩
  simp only [PyData.depth]
  omega

/-! ### versions as tuples of five ints -/
def IV (K : PySem.W.Frag) (H : Hp) (v : V) (x : List Int) : Prop := ∃ a, v = .ref a ∧ SqT K H a (x.map V.int)
def Ver (B : Int) (x : List Int) : Prop := ∃ a b c k n : Int, x = [a, b, c, k, n] ∧ 0 ≤ a ∧ a ≤ B ∧ 0 ≤ b ∧ b ≤ B ∧ 0 ≤ c ∧ c ≤ B ∧ 0 ≤ k ∧ k ≤ 3 ∧ 0 ≤ n ∧ n ≤ B ∧ (k = 3 → n = 0)
def VV (K : PySem.W.Frag) (B : Int) (H : Hp) (v : V) : Prop := ∃ x, IV K H v x ∧ Ver B x
def nxt : List Int → List Int
  | [a, b, c, k, n] => if k < 3 then [a, b, c, k, n + 1] else [a, b, c + 1, 0, 0]
  | x => x
theorem Ver.nxt {B : Int} {x : List Int} (h : Ver B x) : Ver (B + 1) (nxt x) := by
  obtain ⟨a, b, c, k, n, rfl, h1, h2, h3, h4, h5, h6, h7, h8, h9, h10, h11⟩ := h
  unfold Zj.nxt
  simp only
  split
  · exact ⟨_, _, _, _, _, rfl, by omega, by omega, by omega, by omega, by omega, by omega, by omega, by omega, by omega, by omega, by omega⟩
  · exact ⟨_, _, _, _, _, rfl, by omega, by omega, by omega, by omega, by omega, by omega, by omega, by omega, by omega, by omega, by omega⟩
theorem Ver.mono {B C : Int} {x : List Int} (h : Ver B x) (hc : B ≤ C) : Ver C x := by
  obtain ⟨a, b, c, k, n, rfl, h1, h2, h3, h4, h5, h6, h7, h8, h9, h10, h11⟩ := h
  exact ⟨_, _, _, _, _, rfl, by omega, by omega, by omega, by omega, by omega, by omega, by omega, by omega, by omega, by omega, by omega⟩
theorem VV.mono {K : PySem.W.Frag} {B C : Int} {H : Hp} {v : V} (h : VV K B H v) (hc : B ≤ C) : VV K C H v := by
  obtain ⟨x, h1, h2⟩ := h
  exact ⟨x, h1, h2.mono hc⟩
theorem IV.kp {K : PySem.W.Frag} {d l : Addr} {H H' : Hp} {v : V} {x : List Int} (h : IV K H v x) (k : Kp d l H H') (D : Deck d l H) : IV K H' v x := by
  obtain ⟨a, e, h⟩ := h
  exact ⟨a, e, k.tupS D h⟩
theorem VV.kp {K : PySem.W.Frag} {d l : Addr} {H H' : Hp} {v : V} {B : Int} (h : VV K B H v) (k : Kp d l H H') (D : Deck d l H) : VV K B H' v := by
  obtain ⟨x, h1, h2⟩ := h
  exact ⟨x, h1.kp k D, h2⟩
theorem IV.same {K : PySem.W.Frag} {H H' : Hp} {v : V} {x : List Int} (h : IV K H v x) (k : TKp K H H') : IV K H' v x := by
  obtain ⟨a, e, h⟩ := h
  exact ⟨a, e, k _ _ h⟩
theorem VV.same {K : PySem.W.Frag} {H H' : Hp} {v : V} {B : Int} (h : VV K B H v) (k : TKp K H H') : VV K B H' v := by
  obtain ⟨x, h1, h2⟩ := h
  exact ⟨x, h1.same k, h2⟩
/-- a list is changed, all tuples stay -/
theorem tup_mut {H : Hp} {p : Addr} {xs ys : List V} (h : H p = some (.lst xs)) : ∀ a zs, H a = some (.tup zs) → upd H p (.lst ys) a = some (.tup zs) := fun a zs e => by
  rw [upd_ne (ne_of e h (fun q => nomatch q))]
  exact e
theorem tup_new {H : Hp} {p : Addr} {o : HO} (h : H p = none) : ∀ a zs, H a = some (.tup zs) → upd H p o a = some (.tup zs) := fun a zs e => by
  rw [upd_ne (ne_of_none e h)]
  exact e
/-! ### data -/
def Shp (K : PySem.W.Frag) (H : Hp) (vs : List V) : Prop := ∃ ds, DpAll K H vs ds ∧ SeqAt.shaped (.list ds) = true
theorem dpall_len {K : PySem.W.Frag} {H : Hp} : ∀ {vs : List V} {ds : List PyData}, DpAll K H vs ds → ds.length = vs.length
  | _, _, .nil => rfl
  | _, _, .cons _ h => by rw [List.length_cons, List.length_cons, dpall_len h]
theorem eqv_nil (ds : List PyData) : PyData.eqv (.list ds) (.list []) = ds.isEmpty := by
  cases ds <;> rfl
theorem neNil {K : PySem.W.Frag} {H : Hp} {a b : Addr} {xs : List V} {Q : VK} (ha : SqL K H a xs) (hb : SqL K H b []) (hs : Shp K H xs) (h : Q (.bl (!xs.isEmpty)) H) : rNeD K (.ref a) (.ref b) H Q := by
  obtain ⟨ds, h1, h2⟩ := hs
  refine ⟨_, _, .lst ha h1, .lst hb .nil, h2, by decide, ?_⟩
  have e := dpall_len h1
  rw [eqv_nil]
  have e2 : ds.isEmpty = xs.isEmpty := by
    cases ds <;> cases xs <;> simp at e <;> rfl
  rw [e2]
  exact h
theorem IV.dp {K : PySem.W.Frag} {H : Hp} {v : V} {x : List Int} (h : IV K H v x) : Dp K H v (.tuple (x.map PyData.int)) := by
  obtain ⟨a, rfl, h⟩ := h
  exact .tup h (DpAll.ints x)
theorem shp_of {K : PySem.W.Frag} {H : Hp} : ∀ {vs : List V}, (∀ v ∈ vs, ∃ x, IV K H v x) → ∃ ds, DpAll K H vs ds ∧ PyData.canLayAll0 ds = true ∧ PyData.depthAll ds ≤ 2
  | [], _ => ⟨[], .nil, rfl, by decide⟩
  | v :: vs, h => by
    obtain ⟨x, hx⟩ := h v (List.mem_cons.mpr (.inl rfl))
    obtain ⟨ds, h1, h2, h3⟩ := shp_of (vs := vs) (K := K) fun u hu => h u (List.mem_cons.mpr (.inr hu))
    refine ⟨_, .cons hx.dp h1, ?_, ?_⟩
    · show (PyData.canLayAll0 (x.map PyData.int) && _) = true
      rw [lay_ints, h2]
      rfl
    · have := dep_ints x
      simp only [PyData.depthAll, PyData.depth]
      omega
theorem shp_vv {K : PySem.W.Frag} {H : Hp} {vs : List V} {B : Int} (h : ∀ v ∈ vs, VV K B H v) : Shp K H vs := by
  obtain ⟨ds, h1, h2, h3⟩ := shp_of (K := K) (fun v hv => let ⟨x, hx, _⟩ := h v hv; ⟨x, hx⟩)
  refine ⟨ds, h1, ?_⟩
  unfold SeqAt.shaped
  rw [Bool.and_eq_true]
  refine ⟨h2, decide_eq_true ?_⟩
  simp only [PyData.depth]
  omega
/-- where a def of the text stands -/
structure DefAt (K : PySem.W.Frag) (mg : Str → Option Value) (x : Str) (st : Stmt) (ps : List Str) (f : Addr) (fd : FuncData) : Prop where
  F : Fun K x x st f fd
  g : mg x = some (.ref f)
  b : Binds K fd ps []
theorem pe_globI {X : Cx} {x : Str} {i : Int} {pos : Pos} (hg : Gl X x) (h : ∃ t, X.mg x = some (.int i t)) (hd : (x == ("__debug__" : Str)) = false := by decide) : PE X (.Name x pos) (tC (.int i)) := by
  obtain ⟨t, h⟩ := h
  exact pe_glob hg h ⟨t, rfl⟩ hd
end Zj
namespace Zj
open PySem PySem.Spec PyProof.Rows L2
structure FnG (P : Program) (w : World) (K : PySem.W.Frag) (mg : Str → Option Value) (base : Heap) (k : Nat) (f : Addr) (fd : FuncData) (ps : List Str) (sp : Sp) : Prop where
  len : ∀ vs H Q E, sp vs H Q E → vs.length = ps.length
  go : ∀ (A : Around) (outer : List Env) (s : Shared) (H : Hp) (args : Args) (us : List Value) (vs : List V) (Q : VK), A.guards = some [] → Room k A → Env0 P w K mg base A outer s H → BindsTo s fd args (ps.zip us) → Vals vs us → sp vs H Q E0 →
    codeAny (model P w) A (.call (.ref f) args) (CR CX0 outer P w H s Q E0) s
theorem FnG.of {P : Program} {w : World} {K : PySem.W.Frag} {mg : Str → Option Value} {base : Heap} {k : Nat} {f : Addr} {fd : FuncData} {ps : List Str} {sp : Sp} (F : FnOk P w K mg base CX0 k f fd ps sp) : FnG P w K mg base k f fd ps sp :=
  ⟨F.len, fun A o s H args us vs Q _ => F.run A o s H args us vs Q E0⟩
/-- a def by its body, no repr under way -/
theorem FnG.body {P : Program} {w : World} {K : PySem.W.Frag} {mg : Str → Option Value} {base : Heap} {x qual : Str} {st : Stmt} {f : Addr} {fd : FuncData} {N ps : List Str} {k : Nat} {sp : Sp} (F : Fun K x qual st f fd) (S : FnScope N ps (defScope st))
    (len : ∀ vs H Q E, sp vs H Q E → vs.length = ps.length)
    (hb : ∀ (cdv : Value) (A : Around) (outer : List Env) (s : Shared) (H : Hp) (vs : List V) (Q : VK), A.guards = some [] → Room k (A.deeper (envOfC qual (defScope st) s.heap.objs.size f cdv)) → sp vs H Q E0 →
      ∃ t, PSs (cxOf CX0 P w K mg base N qual (defScope st) f cdv A outer s H E0).nox (defBody st) t ∧ t { nx := fun _ H' => Q .non H', rt := Q } (start N vs) H) : FnG P w K mg base (k + 1) f fd ps sp := by
  obtain ⟨oc, od, kV, doc, pm, an, cdv, ct, osl, rfl, lk, hcd⟩ := F.ex
  refine ⟨len, fun A outer s H args us vs Q hg hr e0 hbn r hsp => ?_⟩
  have hl := len _ _ _ _ hsp
  have kb := fun b o e => (e0.bs b o e).1
  have KX : K.In s.heap := e0.mod.kin.keeps kb
  refine codeAny_call_function hr.depth (KX _ _ lk) rfl S.co S.gen rfl (PySem.W.codeRec_of KX hcd) (hbn _ _ _ _ ?_)
  refine wpAny_newFunctionEnv_cells S.kind (fun y hy => (S.par y.1 (List.of_mem_zip (show (y.1, y.2) ∈ ps.zip us from hy)).1).elim Or.inl fun q => Or.inr ⟨q, PySem.W.cellsFrom_some _ _ _ (.inl q)⟩) fun env he s1 x => ?_
  subst he
  refine ⟨(e0.mod.nolimit.keeps kb).keeps x.toInCall.keep, codeAny_func ?_⟩
  obtain ⟨t, ht, hq⟩ := hb cdv A outer s H vs Q hg (hr.deeper _) hsp
  have I := inv_start (CX := CX0) (E := E0) S hr.hd e0 hl r x
  refine wpAny_mono (ht.nox.run [] s1 (start N vs) H _ I hq) (fun fl s' hs => ?_) fun e s' hs => hs
  cases fl with
  | ret u =>
    obtain ⟨v, σ', H', J, rv, q⟩ := hs
    exact ⟨v, H', J.os, J.bare, J.base, J.hok, rv, q⟩
  | next =>
    obtain ⟨σ', H', J, q⟩ := hs
    exact ⟨V.non, H', J.os, J.bare, J.base, J.hok, rfl, q⟩
  | brk =>
    obtain ⟨_, _, _, q⟩ := hs
    exact q.elim
  | cont =>
    obtain ⟨_, _, _, q⟩ := hs
    exact q.elim
section
variable {X : Cx} {k : Nat} {f : Addr} {fd : FuncData} {ps : List Str} {sp : Sp} {x : Str} {p pos : Pos} {e : Expr} {es : List Expr} {t : TA}
/-- f(e, ..), f such a def -/
theorem pe_callG (F : FnG X.prog X.w X.K X.mg X.base k f fd ps sp) (hgd : X.A.guards = some []) (hr : Room k X.A) (hg : Gl X x) (hm : X.mg x = some (.ref f)) (hk : PySem.W.keepIn X.K (.ref f) = true) (hb : Binds X.K fd ps [])
    (ha : PA X (e :: es) t) (hdb : (x == ("__debug__" : Str)) = false := by decide) (he : starEach (e :: es) X.env = (false, eval e X.env) :: starEach es X.env := by rfl) (hpl : (backTo pos (starEach es X.env)).any (·.1) = false := by rfl) :
    PE X (.Call (.Name x p) (e :: es) [] pos) (tCall sp [] E0 t) := by
  refine ⟨fun pins s σ H Q I h => wpAny_Call_Name_kw (ld_glob I hg hm (PySem.W.callWith_K (h₀ := X.base) I.ok.mod.kin hk (thn (ha.run pos pins s σ H _ I h) fun us s1 ⟨vs, H1, I1, r, q⟩ => ⟨I1.kIn, ?_⟩) he hpl) hdb)⟩
  have r2 : Vals (vs ++ []) (us ++ []) := r.append .nil
  have hl : (us ++ []).length = ps.length := r2.length.symm.trans (F.len _ _ _ _ q)
  refine wpAny_call (codeAny_mono (F.go X.A X.stack s1 H1 ⟨us, []⟩ _ _ Q hgd hr I1.env0 (hb s1 us I1.kIn hl) r2 q) fun r s' hq => ?_)
  cases r with
  | error e => exact hq.elim
  | ok fl =>
    cases fl with
    | ret u => exact I1.after hq
    | next => exact hq.elim
    | brk => exact hq.elim
    | cont => exact hq.elim
/-- f(k = e, ..), all by name -/
theorem pe_callK0 {g : List Value → List Value → List Value} {gV : List V → List V → List V} {kws : List Keyword} {ks : List Str} {tk : TA} (F : FnOk X.prog X.w X.K X.mg X.base CX0 k f fd ps sp) (hr : Room k X.A) (hg : Gl X x) (hm : X.mg x = some (.ref f)) (hk : PySem.W.keepIn X.K (.ref f) = true) (hb : KBinds X.K fd ps ks g gV)
    (hx : Passes CX0 X E0) (hkw : PK X kws tk) (hall : (backToKw pos (keywordEach kws X.env)).all (·.1.isSome) = true := by rfl) (hks : (backToKw pos (keywordEach kws X.env)).filterMap (·.1) = ks := by rfl) (hdb : (x == ("__debug__" : Str)) = false := by decide)
    (hpl : ((backTo pos (starEach [] X.env)).any (·.1) || (backToKw pos (keywordEach kws X.env)).any (·.1.isNone)) = false := by rfl) : PE X (.Call (.Name x p) [] kws pos) (tCallK sp gV E0 tNil tk) := by
  refine ⟨fun pins s σ H Q I h => wpAny_Call_Name_kw (ld_glob I hg hm ?_ hdb)⟩
  refine PySem.W.callWith_KW0 (h₀ := X.base) I.ok.mod.kin hk hall (thn (hkw.run pos pins s σ H _ I h) fun ws s2 ⟨zs, H2, I2, rz, q2⟩ => ⟨I2.kIn, ?_⟩) hpl
  rw [hks]
  exact run_fnk (us := []) (vs := []) F hr hb hx I2 .nil rz q2
def kwG (us ws : List Value) : List Value := match us with | [] => ws | _ => []
def kwV (vs zs : List V) : List V := match vs with | [] => zs | _ => []
theorem kb1 {K : PySem.W.Frag} {q qual : Str} {st : Stmt} {f : Addr} {fd : FuncData} {n : Str} (F : Fun K q qual st f fd)
    (h : ∀ (kV doc pm : Value) (an : Option Addr) (cdv ct v : Value), bindArgs (PySem.W.fnOf q qual (defArgs st) (defBody st) (defScope st) .none kV doc pm an cdv ct) ⟨[], [(n, v)]⟩ = pure [(n, v)]) : KBinds K fd [n] [n] kwG kwV := by
  obtain ⟨oc, od, kV, doc, pm, an, cdv, ct, osl, rfl, lk, hcd⟩ := F.ex
  refine ⟨fun s us ws _ hl => ?_, fun {vs us zs ws} r rz => ?_⟩
  · match us, ws, hl with
    | [], [v], _ => exact .of_eq (h kV doc pm an cdv ct v)
  · cases r with
    | nil => exact rz
    | cons _ _ => exact .nil
/-- repr(x), x data without dicts -/
theorem call_reprD (hgd : X.A.guards = some []) (hu : X.A.units + 64 < cLine) : CallR X (.builtin "repr") (fun xs H Q => ∃ v d, xs = [v] ∧ Dp X.K H v d ∧ d.showable = true ∧ SeqAt.shaped d = true ∧ d.depth < 60 ∧ d.shown.length ≤ sizeLine ∧ Q (.str d.shown) H) := by
  intro pins s σ H xs us Q I r h
  obtain ⟨v, d, rfl, hd, hs, hsh, hdp, hz, q⟩ := h
  obtain ⟨u, rfl, ru⟩ := vals1 r
  obtain ⟨as, rd⟩ := Dp.reads I d v u hd ru
  have nd : d.hasDict = false := PyData.hasDict_of_canLay d (SeqAt.canLay_of_shaped hsh)
  have fin : ∀ (h' : Heap) (t tk : Tok), (∀ b o, s.heap.get? b = some o → h'.get? b = some o) → EP X pins σ Q (.str d.shown t) { s with heap := h', toks := tk } := fun h' t tk hk =>
    ⟨.str _, H, I.kept hk, ⟨_, rfl⟩, q⟩
  cases hd with
  | non =>
    cases ru
    exact PySem.P.repr_of_none (fin _ _ _ fun _ _ h => h)
  | bl b =>
    cases ru
    exact PySem.P.repr_of_bool (fin _ _ _ fun _ _ h => h)
  | int i =>
    obtain ⟨tk, rfl⟩ := ru
    exact PySem.P.repr_of_int (of_decide_eq_true hs) (fin _ _ _ fun _ _ h => h)
  | str z =>
    obtain ⟨tk, rfl⟩ := ru
    exact PySem.P.repr_of_str (fin _ _ _ fun _ _ h => h)
  | lst h1 h2 =>
    cases ru
    exact repr_of_reads' rd hs (fun z => by rw [nd] at z; cases z) hgd (by omega) (fun _ _ z => z) (fun h' t tk hk => fin h' t tk hk) hz
  | tup h1 h2 =>
    cases ru
    exact repr_of_reads' rd hs (fun z => by rw [nd] at z; cases z) hgd (by omega) (fun _ _ z => z) (fun h' t tk hk => fin h' t tk hk) hz
/-! within a comprehension: the written part told outside -/
variable {K : PySem.W.Frag}
theorem op_ltTK (K : PySem.W.Frag) (hu : X.A.units < cLine) (e : X.K = K := by rfl) : OpR X (compareOp .Lt) (rLtT K) := by
  subst e
  exact op_ltT hu
theorem op_eqDK (K : PySem.W.Frag) (hu : X.A.units + 64 < cLine) (e : X.K = K := by rfl) : OpR X (compareOp .Eq) (rEqD K) := by
  subst e
  exact op_eqD hu
theorem op_neDK (K : PySem.W.Frag) (hu : X.A.units + 64 < cLine) (e : X.K = K := by rfl) : OpR X (compareOp .NotEq) (rNeD K) := by
  subst e
  exact op_neD hu
theorem ix_tupK (K : PySem.W.Frag) (e : X.K = K := by rfl) : IxR X (rIxT K) := by
  subst e
  exact ix_tup
theorem ix_listK (K : PySem.W.Frag) (e : X.K = K := by rfl) : IxR X (rIxL K) := by
  subst e
  exact ix_list
theorem sl_tupAK (K : PySem.W.Frag) (e : X.K = K := by rfl) : SlR X (rSlA K) := by
  subst e
  exact sl_tupA
theorem op_catAK (K : PySem.W.Frag) (e : X.K = K := by rfl) : OpR X (binaryOp .Add) (rCatA K) := by
  subst e
  exact op_catA
def rLenSK (K : PySem.W.Frag) : List V → Hp → VK → Prop := fun xs H Q => ∃ p ys, xs = [.ref p] ∧ (SqL K H p ys ∨ SqT K H p ys) ∧ Q (.int ys.length) H
theorem call_len_seqK (K : PySem.W.Frag) (e : X.K = K := by rfl) : CallR X (.builtin "len") (rLenSK K) := by
  subst e
  exact call_len_seq
theorem call_isiKK (K : PySem.W.Frag) (e : X.K = K := by rfl) : CallR X (.builtin "isinstance") (rIsi K) := by
  subst e
  exact call_isi
theorem pg_tupK (K : PySem.W.Frag) {es : List Expr} {k : Nat} {pos : Pos} {t : TGs} {n : Nat} (hc : X.calm = true) (h : PGs X es t) (e : X.K = K := by rfl) (hn : (assignEach es X.env).length = n := by rfl) (hst : (assignEach es X.env).findIdx? (·.1) = none := by rfl) : PG X (.Tuple es k pos) (gTup K n t) := by
  subst e
  exact pg_tup hc h hn hst
theorem pi_tupK (K : PySem.W.Frag) {tg l : Expr} {tl : TE} (hl : PE X l tl) (e : X.K = K := by rfl) : PI X tg l (iTup K tl) := by
  subst e
  exact pi_tup hl
theorem op_leTK (K : PySem.W.Frag) (hu : X.A.units < cLine) (e : X.K = K := by rfl) : OpR X (compareOp .LtE) (rLeT K) := by
  subst e
  exact op_leT hu
def rReprD (K : PySem.W.Frag) : List V → Hp → VK → Prop := fun xs H Q => ∃ v d, xs = [v] ∧ Dp K H v d ∧ d.showable = true ∧ SeqAt.shaped d = true ∧ d.depth < 60 ∧ d.shown.length ≤ sizeLine ∧ Q (.str d.shown) H
theorem call_reprDK (K : PySem.W.Frag) (hgd : X.A.guards = some []) (hu : X.A.units + 64 < cLine) (e : X.K = K := by rfl) : CallR X (.builtin "repr") (rReprD K) := by
  subst e
  exact call_reprD hgd hu
end
end Zj
namespace Zj
open PySem PySem.Spec PyProof.Rows L2
/-- the law's call at the heap behind the top -/
theorem endG {P : Program} {w : World} {K : PySem.W.Frag} {mg mb : Str → Option Value} {k : Nat} {fa a : Addr} {fd : FuncData} {x : Str} {sp : Sp} {s1 : Shared} {vs : List Value} {ns : List Int}
    (KX : K.In s1.heap) (hns : s1.heap.Ns mainGlobals mg) (hb : s1.heap.Ns builtinsNs mb) (hbb : ∀ x : Str, x ≠ "__name__" → mb x = bootBuiltins x) (hlim : s1.heap.NoLimit) (hg : s1.gens = #[])
    (ha : s1.heap.get? a = some { cls := .type "list", data := .seq vs.toArray }) (hi : IntsAre vs ns) (hl : ns.length ≤ sizeLine) (hr : Room k callerA)
    (F : ∀ base : Heap, K.In base → base.Ns mainGlobals mg → FnG P w K mg base k fa fd [x] sp) (hbind : ∀ (s : Shared) (u : Value), BindsTo s fd ⟨[u], []⟩ [(x, u)])
    (hsp : ∀ H : Hp, SqL K H a (ns.map V.int) → sp [.ref a] H (fun v _ => v = .bl true) E0) :
    codeAny (model P w) callerA (.call (.ref fa) ⟨[.ref a], []⟩) (fun r s' => r = .ok (.ret (.bool true)) ∧ OldK s1.heap s'.heap ∧ s'.os = s1.os ∧ AllBare s'.gens) s1 := by
  have rv := vals_ints hi
  have main : ∀ H : Hp, SqL K H a (ns.map V.int) → HOk P w H s1.heap → (∀ b u, H b = some u → b = a ∧ K.lookup a = none ∧ ∃ o z, u = .frz o (.lst z)) →
      codeAny (model P w) callerA (.call (.ref fa) ⟨[.ref a], []⟩) (fun r s' => r = .ok (.ret (.bool true)) ∧ OldK s1.heap s'.heap ∧ s'.os = s1.os ∧ AllBare s'.gens) s1 := by
    intro H hS hok hA
    have free : ∀ {b : Addr} {o : Obj}, s1.heap.get? b = some o → (b = a → (∃ es ep, o.data = .dict es ep) ∨ K.lookup a = some o) → H b = none := fun {b o} e q => by
      cases h : H b with
      | none => rfl
      | some u =>
        obtain ⟨rfl, h2, _⟩ := hA b u h
        rcases q rfl with ⟨es, ep, d⟩ | d
        · rw [ha] at e
          cases e
          cases d
        · rw [h2] at d
          cases d
    have at_ns : ∀ {b : Addr} {m : Str → Option Value}, s1.heap.Ns b m → (hidT s1.heap H).Ns b m := fun ⟨o, es, ep, e, d, r⟩ => ⟨o, es, ep, hidT_get e (free e fun _ => .inl ⟨es, ep, d⟩), d, r⟩
    have KB : K.In (hidT s1.heap H) := fun b o e => hidT_get (KX b o e) (free (KX b o e) fun q => .inr (by rw [← q]; exact e))
    obtain ⟨mc, c1, c2⟩ := hlim
    have env : Env0 P w K mg (hidT s1.heap H) callerA [] s1 H := ⟨rfl, ⟨KB, at_ns hns, ⟨mb, at_ns hb, hbb⟩, ⟨mc, at_ns c1, c2⟩⟩, fun b o e => of_hidT e, Nat.le_of_eq (hidT_size _ _), trivial, (fun b q => nomatch q), hok, .of_eq hg⟩
    refine codeAny_mono ((F _ KB (at_ns hns)).go callerA [] s1 H ⟨[.ref a], []⟩ [.ref a] [.ref a] _ rfl hr env (hbind s1 (.ref a)) (.cons rfl .nil) (hsp H hS)) fun r s' h => ?_
    cases r with
    | error e => exact h.elim
    | ok fl =>
      cases fl with
      | next => exact h.elim
      | brk => exact h.elim
      | cont => exact h.elim
      | ret u =>
        obtain ⟨v, H', os, bare, un, hok', r', q⟩ := h
        obtain rfl : v = .bl true := q
        obtain rfl : u = Value.bool true := r'
        refine ⟨rfl, OldK.of_keep fun b o e => ?_, os, bare⟩
        cases q : H b with
        | none => exact un.keep b o e q (fun z => nomatch z) (fun z => nomatch z)
        | some u =>
          obtain ⟨_, _, o2, z2, rfl⟩ := hA b u q
          have t1 := (hok b _ q).1
          have t2 := (hok' b _ (un.frzs b o2 _ q)).1
          rw [t1] at e
          cases e
          exact t2
  cases hk : K.lookup a with
  | some o =>
    have e := KX a o hk
    rw [ha] at e
    cases e
    exact main (fun _ => none) (.inr ⟨_, vs.toArray, _, hk, rfl, rfl, rfl, by rw [List.size_toArray, hi.length]; exact hl, rv⟩) (fun _ _ z => nomatch z) fun _ _ z => nomatch z
  | none =>
    have one : ∀ (b : Addr) (u : HO), (if b = a then some (HO.frz { cls := .type "list", data := .seq vs.toArray } (.lst (ns.map V.int))) else none) = some u → b = a ∧ u = HO.frz { cls := .type "list", data := .seq vs.toArray } (.lst (ns.map V.int)) := fun b u z => by
      split at z
      · rename_i e
        exact ⟨e, (Option.some.inj z).symm⟩
      · cases z
    refine main (fun b => if b = a then some (.frz { cls := .type "list", data := .seq vs.toArray } (.lst (ns.map V.int))) else none) (.inl (.inr ⟨_, if_pos rfl⟩)) (fun b u z => ?_) fun b u z => ?_
    · obtain ⟨rfl, rfl⟩ := one b u z
      exact ⟨ha, by rw [List.length_map]; exact hl, vs, _, rv, ha⟩
    · obtain ⟨rfl, rfl⟩ := one b u z
      exact ⟨rfl, hk, _, _, rfl⟩
theorem walkG {l : PySem.W.OpenLaw} {n k : Nat} {q : Program} {loose : List Str} {XP : (Str → Option Value) → Heap → Prop} {YP : World → Heap → Prop} {d : DefRec} {K : Params → PySem.W.Frag} {sp : PySem.W.Frag → Sp} {x : Str}
    (hn : l.most = some n) (hn2 : n ≤ sizeLine) (hdf : d.params.defaults = []) (hr : Room k callerA) (hY : ∀ (w : World) (h : Heap), YP w h → (K w.params).In h)
    (F : ∀ (w : World) (mg : Str → Option Value) (fa : Addr) (h : Heap), (K w.params).In h → h.Ns mainGlobals mg → mg d.name = some (.ref fa) →
      ∃ fd : FuncData, (∀ (s : Shared) (u : Value), BindsTo s fd ⟨[u], []⟩ [(x, u)]) ∧ ∀ base : Heap, (K w.params).In base → base.Ns mainGlobals mg → FnG l.prog w (K w.params) mg base k fa fd [x] (sp (K w.params)))
    (hsp : ∀ (K : PySem.W.Frag) (H : Hp) (a : Addr) (ns : List Int), ns.length ≤ n → SqL K H a (ns.map V.int) → sp K [.ref a] H (fun v _ => v = .bl true) E0) :
    PySem.W.WalkO q loose XP YP l.row.toRowW d [] (fun f vs => PySem.call f vs) := by
  refine Att.attach_call hn hdf fun w s0 s1 mg mb fa o pm cd doc a vs ns G Y ho hd hcd hmg hobj hints hlen hg => ?_
  obtain ⟨fd, hb, hF⟩ := F w mg fa _ (hY w _ Y) G.T.g hmg
  exact endG (hY w _ Y) G.T.g G.T.b G.T.builtins G.T.nolimit hg hobj hints (Nat.le_trans hlen hn2) hr hF hb fun H hS => hsp _ H a ns hlen hS
end Zj
namespace Zj
open PySem L2
theorem lx5 (a b c k n a' b' c' k' n' : Int) : HT.lexLt [a, b, c, k, n] [a', b', c', k', n'] = true ↔ (a < a' ∨ (a = a' ∧ (b < b' ∨ (b = b' ∧ (c < c' ∨ (c = c' ∧ (k < k' ∨ (k = k' ∧ n < n')))))))) := by
  simp only [HT.lexLt]
  by_cases h1 : a = a'
  · rw [if_pos h1]
    by_cases h2 : b = b'
    · rw [if_pos h2]
      by_cases h3 : c = c'
      · rw [if_pos h3]
        by_cases h4 : k = k'
        · rw [if_pos h4]
          by_cases h5 : n = n'
          · rw [if_pos h5]
            constructor
            · intro h; cases h
            · omega
          · rw [if_neg h5, decide_eq_true_eq]
            omega
        · rw [if_neg h4, decide_eq_true_eq]
          omega
      · rw [if_neg h3, decide_eq_true_eq]
        omega
    · rw [if_neg h2, decide_eq_true_eq]
      omega
  · rw [if_neg h1, decide_eq_true_eq]
    omega
theorem lx_nxt {B : Int} {x : List Int} (h : Ver B x) : HT.lexLt x (nxt x) = true := by
  obtain ⟨a, b, c, k, n, rfl, h1⟩ := h
  unfold nxt
  simp only
  split
  · rw [lx5]; omega
  · rw [lx5]; omega
theorem lx_gap {B C : Int} {x y : List Int} (h : Ver B x) (h' : Ver C y) (e : HT.lexLt x y = true) : HT.lexLt y (nxt x) = false := by
  obtain ⟨a, b, c, k, n, rfl, h1⟩ := h
  obtain ⟨a', b', c', k', n', rfl, h1'⟩ := h'
  rw [lx5] at e
  cases q : HT.lexLt [a', b', c', k', n'] (nxt [a, b, c, k, n]) with
  | false => rfl
  | true =>
    exfalso
    unfold nxt at q
    simp only at q
    split at q
    · rw [lx5] at q; omega
    · rw [lx5] at q; omega
theorem nxt_early {B : Int} {x : List Int} (h : Ver B x) : ¬ ((nxt x)[3]? = some 3) := by
  obtain ⟨a, b, c, k, n, rfl, h1⟩ := h
  unfold nxt
  simp only
  split
  · simp; omega
  · simp
/-! repr of a tuple of bounded ints -/
theorem short_int {z : Int} (h0 : 0 ≤ z) (h : z < 10 ^ 13) : PyData.leavesShort 13 (.int z) = true := by
  show decide ((PyData.shown (.int z)).length ≤ 13) = true
  exact decide_eq_true (PyProof.Rows.toString_length_le h0 (by decide) h)
theorem short_ints : ∀ {x : List Int}, (∀ z ∈ x, 0 ≤ z ∧ z < 10 ^ 13) → PyData.leavesShortAll 13 (x.map PyData.int) = true
  | [], _ => rfl
  | z :: x, h => by
    have h1 := h z (List.mem_cons.mpr (.inl rfl))
    show (PyData.leavesShort 13 (.int z) && PyData.leavesShortAll 13 (x.map PyData.int)) = true
    rw [short_int h1.1 h1.2, short_ints fun y hy => h y (List.mem_cons.mpr (.inr hy))]
    rfl
theorem bulk_ints : ∀ x : List Int, PyData.bulkAll (x.map PyData.int) = x.length
  | [] => rfl
  | z :: x => by
    show PyData.bulk (.int z) + 1 + PyData.bulkAll (x.map PyData.int) = x.length + 1
    rw [bulk_ints x]
    show 0 + 1 + x.length = x.length + 1
    omega
theorem log_small {z : Int} (h0 : 0 ≤ z) (h : z < 10 ^ 13) : z.natAbs.log2 < 1920 := by
  have : z.natAbs < 2 ^ 1920 := Nat.lt_of_lt_of_le (show z.natAbs < 10 ^ 13 by omega) (by decide)
  by_cases e : z.natAbs = 0
  · rw [e]; decide
  · exact (Nat.log2_lt e).mpr this
theorem showable_ints : ∀ {x : List Int}, (∀ z ∈ x, 0 ≤ z ∧ z < 10 ^ 13) → PyData.showableAll (x.map PyData.int) = true
  | [], _ => rfl
  | z :: x, h => by
    have h1 := h z (List.mem_cons.mpr (.inl rfl))
    show (decide (z.natAbs.log2 < 1920) && PyData.showableAll (x.map PyData.int)) = true
    rw [decide_eq_true (log_small h1.1 h1.2), showable_ints fun y hy => h y (List.mem_cons.mpr (.inr hy))]
    rfl
/-- all that repr asks of a datum -/
def Rp (d : PyData) : Prop := d.showable = true ∧ SeqAt.shaped d = true ∧ d.depth < 60 ∧ d.shown.length ≤ sizeLine
theorem rp_of {d : PyData} (h1 : d.showable = true) (h2 : d.canLay0 = true) (h3 : d.depth < 60) (h4 : d.leavesShort 13 = true) (h5 : d.bulk ≤ 2 ^ 20) : Rp d := by
  refine ⟨h1, ?_, h3, PyData.shown_fits_bulk (by decide) (by decide) h4 h5⟩
  unfold SeqAt.shaped
  rw [Bool.and_eq_true]
  exact ⟨h2, decide_eq_true (by omega)⟩
theorem rp_ints {x : List Int} (h : ∀ z ∈ x, 0 ≤ z ∧ z < 10 ^ 13) (hl : x.length ≤ 100) : Rp (.tuple (x.map PyData.int)) := by
  have dp := dep_ints x
  refine rp_of (showable_ints h) (lay_ints x) ?_ (short_ints h) ?_
  · simp only [PyData.depth]; omega
  · show PyData.bulkAll (x.map PyData.int) ≤ 2 ^ 20
    rw [bulk_ints]; omega
theorem Ver.small {B : Int} {x : List Int} (h : Ver B x) (hB : B < 9999999999999) : ∀ z ∈ x, 0 ≤ z ∧ z < 10 ^ 13 := by
  obtain ⟨a, b, c, k, n, rfl, h1⟩ := h
  intro z hz
  simp only [List.mem_cons, List.not_mem_nil, or_false] at hz
  rcases hz with rfl | rfl | rfl | rfl | rfl <;> omega
theorem rp_ver {B : Int} {x : List Int} (h : Ver B x) (hB : B < 9999999999999) : Rp (.tuple (x.map PyData.int)) := by
  refine rp_ints (h.small hB) ?_
  obtain ⟨a, b, c, k, n, rfl, _⟩ := h
  show 5 ≤ 100
  decide

theorem Same.new {H : Hp} {p : Addr} {o : HO} (h : H p = none) : Same H (upd H p o) := fun b u e => by
  rw [upd_ne (ne_of_none e h)]
  exact e
theorem Same.out {H H' : Hp} {p : Addr} {o : HO} (k : Same H H') (h : H p = none) : Same H (upd H' p o) := fun b u e => by
  rw [upd_ne (ne_of_none e h)]
  exact k b u e
theorem cutV_map (ns : List Int) (lo hi : Option Int) : ∃ ms : List Int, cutV (ns.map V.int) lo hi = ms.map V.int ∧ ms.length ≤ ns.length := by
  refine ⟨(ns.drop (HT.sIx (ns.map V.int).length 0 lo)).take (HT.sIx (ns.map V.int).length (ns.map V.int).length hi - HT.sIx (ns.map V.int).length 0 lo), ?_, ?_⟩
  · unfold cutV
    rw [List.map_take, List.map_drop]
  · rw [List.length_take, List.length_drop]
    omega
theorem map_get {ns : List Int} {i : Nat} {y : V} (h : (ns.map V.int)[i]? = some y) : ∃ z, ns[i]? = some z ∧ y = V.int z := by
  rw [List.getElem?_map] at h
  cases e : ns[i]? with
  | none =>
    rw [e] at h
    cases h
  | some z =>
    rw [e] at h
    exact ⟨z, rfl, (Option.some.inj h).symm⟩
theorem merge_dkv (l : Addr) (m t : Int) : mergeK [] (dkv l m t) = dkv l m t := by
  simp [mergeK, dkv, putK, nLM, nLT, nMT]
theorem rep_all (n : Nat) : (List.replicate n true).all id = true := by
  induction n with
  | zero => rfl
  | succ n ih => rw [List.replicate_succ, List.all_cons, ih]; rfl
theorem rep_snoc {α : Type} (n : Nat) (a : α) : List.replicate n a ++ [a] = List.replicate (n + 1) a := by
  induction n with
  | zero => rfl
  | succ n ih =>
    rw [List.replicate_succ, List.cons_append, ih]
    rfl
theorem Ver.nonneg {B : Int} {x : List Int} (h : Ver B x) : ∀ z ∈ x, 0 ≤ z := by
  obtain ⟨a, b, c, k, n, rfl, h1, h2, h3, h4, h5, h6, h7, h8, h9, h10, h11⟩ := h
  intro z hz
  simp only [List.mem_cons, List.not_mem_nil, or_false] at hz
  rcases hz with rfl | rfl | rfl | rfl | rfl <;> omega
theorem Ver.len {B : Int} {x : List Int} (h : Ver B x) : x.length = 5 := by
  obtain ⟨a, b, c, k, n, rfl, _⟩ := h
  rfl
theorem Kp.same {d l : Addr} {H H' : Hp} (s : Same H H') : Kp d l H H' := fun b o _ _ e => s b o e
theorem notTT {A B : Prop} {x y : V} (e : x = y) (h : B) : if (!decide (x = y)) = true then A else B := iteNS e h
theorem lx_up {B : Int} {a b c k n : Int} (hk : k < 3) : HT.lexLt (nxt [a, b, c, k, n]) [a, b, c, k + 1, 0] = true := by
  have e : nxt [a, b, c, k, n] = [a, b, c, k, n + 1] := if_pos hk
  rw [e, lx5]
  omega
theorem IV.tup {K : PySem.W.Frag} {H : Hp} {p : Addr} {x : List Int} (h : SqT K H p (x.map V.int)) : IV K H (.ref p) x := ⟨p, rfl, h⟩
theorem tyx_tup {K : PySem.W.Frag} {H : Hp} {a : Addr} {xs : List V} (h : SqT K H a xs) : TyX K H (.ref a) (.type "tuple") := by
  rcases h with (h | ⟨o, h⟩) | ⟨o, us, n, h1, h2, _⟩
  · exact .base (.tup h)
  · exact .fTuple h
  · exact .kTuple h1 h2
end Zj

namespace Zj
open PySem L2
/-! ### ranges as data -/
abbrev Vr := List Int
abbrev Pr := Vr × Option Vr
abbrev Rg := List Pr
def HV (K : PySem.W.Frag) (H : Hp) (v : V) : Option Vr → Prop
  | none => v = .non
  | some y => IV K H v y
def PV (K : PySem.W.Frag) (H : Hp) (v : V) (p : Pr) : Prop := ∃ a lo hi, v = .ref a ∧ SqT K H a [lo, hi] ∧ IV K H lo p.1 ∧ HV K H hi p.2
def SV (K : PySem.W.Frag) (H : Hp) (v : V) (r : Rg) : Prop := ∃ a vs, v = .ref a ∧ SqT K H a vs ∧ Paired (PV K H) vs r
theorem HV.tk {K : PySem.W.Frag} {H H' : Hp} {v : V} : ∀ {o : Option Vr}, HV K H v o → TKp K H H' → HV K H' v o
  | none, h, _ => h
  | some _, h, k => h.same k
theorem PV.tk {K : PySem.W.Frag} {H H' : Hp} {v : V} {p : Pr} (h : PV K H v p) (k : TKp K H H') : PV K H' v p := by
  obtain ⟨a, lo, hi, e, h1, h2, h3⟩ := h
  exact ⟨a, lo, hi, e, k _ _ h1, h2.same k, h3.tk k⟩
theorem pvs_tk {K : PySem.W.Frag} {H H' : Hp} (k : TKp K H H') {vs : List V} {r : Rg} (h : Paired (PV K H) vs r) : Paired (PV K H') vs r := L2.Paired.mapP h fun _ _ q => q.tk k
theorem ivs_tk {K : PySem.W.Frag} {H H' : Hp} (k : TKp K H H') {vs : List V} {r : List Vr} (h : Paired (IV K H) vs r) : Paired (IV K H') vs r := L2.Paired.mapP h fun _ _ q => q.same k
theorem SV.tk {K : PySem.W.Frag} {H H' : Hp} {v : V} {r : Rg} (h : SV K H v r) (k : TKp K H H') : SV K H' v r := by
  obtain ⟨a, vs, e, h1, h2⟩ := h
  exact ⟨a, vs, e, k _ _ h1, pvs_tk k h2⟩
theorem paired_get {α β : Type} {F : α → β → Prop} : ∀ {l : List α} {m : List β} {i : Nat} {x : α}, Paired F l m → l[i]? = some x → ∃ y, m[i]? = some y ∧ F x y
  | _, _, _, _, .nil, e => by simp at e
  | _, _, 0, _, .cons r _, e => by
    simp at e
    subst e
    exact ⟨_, rfl, r⟩
  | _, _, i + 1, _, .cons _ t, e => by
    obtain ⟨y, h1, h2⟩ := paired_get (i := i) t (by simpa using e)
    exact ⟨y, by simpa using h1, h2⟩
theorem paired_get2 {α β : Type} {F : α → β → Prop} : ∀ {l : List α} {m : List β} {i : Nat} {y : β}, Paired F l m → m[i]? = some y → ∃ x, l[i]? = some x ∧ F x y
  | _, _, _, _, .nil, e => by simp at e
  | _, _, 0, _, .cons r _, e => by
    simp at e
    subst e
    exact ⟨_, rfl, r⟩
  | _, _, i + 1, _, .cons _ t, e => by
    obtain ⟨y, h1, h2⟩ := paired_get2 (i := i) t (by simpa using e)
    exact ⟨y, by simpa using h1, h2⟩
theorem paired_app {α β : Type} {F : α → β → Prop} : ∀ {l l' : List α} {m m' : List β}, Paired F l m → Paired F l' m' → Paired F (l ++ l') (m ++ m')
  | _, _, _, _, .nil, h => h
  | _, _, _, _, .cons r t, h => .cons r (paired_app t h)
theorem paired_take {α β : Type} {F : α → β → Prop} : ∀ {l : List α} {m : List β} (n : Nat), Paired F l m → Paired F (l.take n) (m.take n)
  | _, _, 0, _ => .nil
  | _, _, _ + 1, .nil => .nil
  | _, _, n + 1, .cons r t => .cons r (paired_take n t)
theorem paired_drop {α β : Type} {F : α → β → Prop} : ∀ {l : List α} {m : List β} (n : Nat), Paired F l m → Paired F (l.drop n) (m.drop n)
  | _, _, 0, h => h
  | _, _, _ + 1, .nil => .nil
  | _, _, n + 1, .cons _ t => paired_drop n t
theorem paired_len {α β : Type} {F : α → β → Prop} : ∀ {l : List α} {m : List β}, Paired F l m → l.length = m.length
  | _, _, .nil => rfl
  | _, _, .cons _ t => congrArg Nat.succ (paired_len t)
theorem paired_mem {α β : Type} {F : α → β → Prop} {l : List α} {m : List β} {x : α} (h : Paired F l m) (hx : x ∈ l) : ∃ y, y ∈ m ∧ F x y := by
  obtain ⟨i, hi⟩ := List.getElem?_of_mem hx
  obtain ⟨y, h1, h2⟩ := paired_get h hi
  exact ⟨y, List.mem_of_getElem? h1, h2⟩
/-- the borders one behind another -/
def flat (r : Rg) : List Vr := r.flatMap fun p => p.1 :: p.2.toList
def PrOK (B : Int) (p : Pr) : Prop := Ver B p.1 ∧ ∀ y, p.2 = some y → Ver B y
def lt (x y : Vr) : Prop := HT.lexLt x y = true
structure RgOK (B : Int) (r : Rg) : Prop where
  ver : ∀ p ∈ r, PrOK B p
  asc : (flat r).Pairwise lt
  fin : ∀ i p, i + 1 < r.length → r[i]? = some p → p.2 ≠ none
def inP (p : Pr) (x : Vr) : Bool := !HT.lexLt x p.1 && (match p.2 with | none => true | some y => HT.lexLt x y)
def inB (r : Rg) (x : Vr) : Bool := r.any fun p => inP p x
theorem le5 {B C : Int} {x y : Vr} (hx : Ver B x) (hy : Ver C y) : Ob.lexAt (fun j => decide (x.getD j 0 = y.getD j 0)) (fun j => decide (x.getD j 0 ≤ y.getD j 0)) (decide (x.length ≤ y.length)) 0 (min x.length y.length) = !HT.lexLt y x := by
  obtain ⟨a, b, c, k, n, rfl, _⟩ := hx
  obtain ⟨a', b', c', k', n', rfl, _⟩ := hy
  show Ob.lexAt _ _ (decide (5 ≤ 5)) 0 5 = _
  have e : HT.lexLt [a', b', c', k', n'] [a, b, c, k, n] = decide (a' < a ∨ (a' = a ∧ (b' < b ∨ (b' = b ∧ (c' < c ∨ (c' = c ∧ (k' < k ∨ (k' = k ∧ n' < n)))))))) := by
    by_cases q : HT.lexLt [a', b', c', k', n'] [a, b, c, k, n] = true
    · rw [q, decide_eq_true ((lx5 _ _ _ _ _ _ _ _ _ _).mp q)]
    · rw [Bool.not_eq_true _ |>.mp q, decide_eq_false fun z => q ((lx5 _ _ _ _ _ _ _ _ _ _).mpr z)]
  rw [e]
  simp only [Ob.lexAt, List.getD_cons_zero, List.getD_cons_succ, decide_eq_true_eq]
  by_cases h1 : a = a'
  · rw [if_pos h1]
    by_cases h2 : b = b'
    · rw [if_pos h2]
      by_cases h3 : c = c'
      · rw [if_pos h3]
        by_cases h4 : k = k'
        · rw [if_pos h4]
          by_cases h5 : n = n'
          · rw [if_pos h5]
            simp only [decide_eq_decide, ← decide_not]
            omega
          · rw [if_neg h5]
            simp only [decide_eq_decide, ← decide_not]
            omega
        · rw [if_neg h4]
          simp only [decide_eq_decide, ← decide_not]
          omega
      · rw [if_neg h3]
        simp only [decide_eq_decide, ← decide_not]
        omega
    · rw [if_neg h2]
      simp only [decide_eq_decide, ← decide_not]
      omega
  · rw [if_neg h1]
    simp only [decide_eq_decide, ← decide_not]
    omega
/-- adjacent ones ascend -/
def zl (xs : List Vr) : List Bool := List.zipWith HT.lexLt xs (xs.drop 1)
def ascB (xs : List Vr) : Bool := (zl xs).all id
theorem asc_of : ∀ {l : List Vr}, l.Pairwise lt → ascB l = true
  | [], _ => rfl
  | [_], _ => rfl
  | x :: y :: l, h => by
    cases h with
    | cons h1 h2 =>
      show (HT.lexLt x y && ascB (y :: l)) = true
      rw [h1 y (List.mem_cons.mpr (.inl rfl)), asc_of h2]
      rfl
theorem flat_snoc {r : Rg} {i : Nat} {p : Pr} (h : r[i]? = some p) : flat (r.take (i + 1)) = flat (r.take i) ++ (p.1 :: p.2.toList) := by
  have e : r.take (i + 1) = r.take i ++ [p] := by rw [List.take_add_one, h]; rfl
  unfold flat
  rw [e, List.flatMap_append]
  simp
theorem cutV_from (us : List V) (k : Nat) : cutV us (some (k : Int)) none = us.drop k := by
  unfold cutV
  rw [HT.sIx_nat, HT.sIx_none]
  by_cases h : k ≤ us.length
  · rw [Nat.min_eq_left h, List.take_of_length_le (by rw [List.length_drop]; omega)]
  · rw [Nat.min_eq_right (by omega), List.drop_of_length_le (Nat.le_refl _), List.drop_of_length_le (by omega)]
    simp
theorem sIx_m1 (n : Nat) : HT.sIx n n (some (-1)) = n - 1 := by
  show (if (-1 : Int) < 0 then (-1 + (n : Int)).toNat else min (-1 : Int).toNat n) = n - 1
  rw [if_pos (by decide)]
  omega
theorem cutV_init (us : List V) : cutV us none (some (-1)) = us.take (us.length - 1) := by
  unfold cutV
  rw [HT.sIx_none]
  show (us.drop 0).take (HT.sIx us.length us.length (some (-1)) - 0) = _
  have e := sIx_m1 us.length
  rw [e, List.drop_zero, Nat.sub_zero]
theorem cutV_to (us : List V) (k : Nat) : cutV us none (some (k : Int)) = us.take k := by
  unfold cutV
  rw [HT.sIx_nat, HT.sIx_none, List.drop_zero, Nat.sub_zero]
  by_cases h : k ≤ us.length
  · rw [Nat.min_eq_left h]
  · rw [Nat.min_eq_right (by omega), List.take_length, List.take_of_length_le (by omega)]
/-- any walk, the body told by its end -/
theorem gen_it {J : It} {n : Nat} {G : Hp → Prop} {Y : Nat → Hp → V → Hp → Prop} (w : Walk J n G Y) {B : V → Hp → (Hp → Prop) → Prop} {H0 : Hp} {Qd : Hp → Prop} (Pv : Nat → Hp → Prop) (h0 : Pv 0 H0) (hG : ∀ i H, i ≤ n → Pv i H → G H)
    (hs : ∀ i x H H', i < n → Pv i H → Y i H x H' → B x H' (Pv (i + 1))) (hd : ∀ H, Pv n H → Qd H) :
    ∃ W : Nat → Nat → Hp → Prop, (∃ m, W 0 m H0) ∧ ∀ i m H, W i m H → (J.stop i H ∧ Qd H) ∨ (J.go i H ∧ ∃ Nx : Hp → Prop, (∀ H', Nx H' → ∃ m', m' < m ∧ W (i + 1) m' H') ∧ ∀ x H', J.yld i H x H' → B x H' Nx) := by
  refine ⟨fun i m H => m = n - i ∧ i ≤ n ∧ Pv i H, ⟨n, rfl, Nat.zero_le _, h0⟩, ?_⟩
  rintro i m H ⟨rfl, hi, p⟩
  by_cases hlt : i < n
  · exact .inr ⟨w.goes i H hlt (hG i H hi p), Pv (i + 1), fun H' p' => ⟨n - (i + 1), by omega, rfl, hlt, p'⟩, fun x H' y => hs i x H H' hlt p (w.yields i H x H' hlt (hG i H hi p) y)⟩
  · obtain rfl : i = n := by omega
    exact .inl ⟨w.stops H (hG _ H hi p), hd H p⟩
/-! ### data of ranges -/
def HD : Option Vr → PyData
  | none => .none
  | some y => .tuple (y.map PyData.int)
def PD (p : Pr) : PyData := .tuple [.tuple (p.1.map PyData.int), HD p.2]
def RD (r : Rg) : PyData := .tuple (r.map PD)
theorem HV.dp {K : PySem.W.Frag} {H : Hp} {v : V} : ∀ {o : Option Vr}, HV K H v o → Dp K H v (HD o)
  | none, h => by
    cases (show v = V.non from h)
    exact .non
  | some y, h => IV.dp (show IV K H v y from h)
theorem PV.dp {K : PySem.W.Frag} {H : Hp} {v : V} {p : Pr} (h : PV K H v p) : Dp K H v (PD p) := by
  obtain ⟨a, lo, hi, rfl, h1, h2, h3⟩ := h
  exact .tup h1 (.cons h2.dp (.cons h3.dp .nil))
theorem pvs_dp {K : PySem.W.Frag} {H : Hp} : ∀ {vs : List V} {r : Rg}, Paired (PV K H) vs r → DpAll K H vs (r.map PD)
  | _, _, .nil => .nil
  | _, _, .cons h t => .cons h.dp (pvs_dp t)
theorem SV.dp {K : PySem.W.Frag} {H : Hp} {v : V} {r : Rg} (h : SV K H v r) : Dp K H v (RD r) := by
  obtain ⟨a, vs, rfl, h1, h2⟩ := h
  exact .tup h1 (pvs_dp h2)
/-- all that repr asks, part by part -/
structure Rq (d : PyData) (k n : Nat) : Prop where
  sh : d.showable = true
  ly : d.canLay0 = true
  dp : d.depth ≤ k
  lv : d.leavesShort 13 = true
  bk : d.bulk ≤ n
theorem Rq.rp {d : PyData} {k n : Nat} (h : Rq d k n) (hk : k < 60) (hn : n ≤ 2 ^ 20) : Rp d := rp_of h.sh h.ly (by have := h.dp; omega) h.lv (by have := h.bk; omega)
theorem Rq.tup0 : Rq (.tuple []) 1 0 := ⟨rfl, rfl, by decide, rfl, by decide⟩
theorem Rq.none : Rq .none 1 0 := ⟨rfl, rfl, by decide, rfl, by decide⟩
theorem Rq.bool (b : Bool) : Rq (.bool b) 1 0 := ⟨rfl, rfl, by simp [PyData.depth], rfl, by simp [PyData.bulk]⟩
theorem Rq.mono {d : PyData} {k n k' n' : Nat} (h : Rq d k n) (h1 : k ≤ k') (h2 : n ≤ n') : Rq d k' n' := ⟨h.sh, h.ly, Nat.le_trans h.dp h1, h.lv, Nat.le_trans h.bk h2⟩
theorem Rq.all {k n : Nat} : ∀ {ds : List PyData}, (∀ d ∈ ds, Rq d k n) → PyData.showableAll ds = true ∧ PyData.canLayAll0 ds = true ∧ PyData.depthAll ds ≤ k ∧ PyData.leavesShortAll 13 ds = true ∧ PyData.bulkAll ds ≤ ds.length * (n + 1)
  | [], _ => ⟨rfl, rfl, by simp [PyData.depthAll], rfl, by simp [PyData.bulkAll]⟩
  | d :: ds, h => by
    have h1 := h d (List.mem_cons.mpr (.inl rfl))
    obtain ⟨a1, a2, a3, a4, a5⟩ := Rq.all (ds := ds) fun e he => h e (List.mem_cons.mpr (.inr he))
    refine ⟨?_, ?_, ?_, ?_, ?_⟩
    · show (d.showable && PyData.showableAll ds) = true
      rw [h1.sh, a1]; rfl
    · show (d.canLay0 && PyData.canLayAll0 ds) = true
      rw [h1.ly, a2]; rfl
    · have := h1.dp
      simp only [PyData.depthAll]
      omega
    · show (d.leavesShort 13 && PyData.leavesShortAll 13 ds) = true
      rw [h1.lv, a4]; rfl
    · have := h1.bk
      simp only [PyData.bulkAll, List.length_cons, Nat.add_mul]
      omega
theorem Rq.tuple {ds : List PyData} {k n m : Nat} (h : ∀ d ∈ ds, Rq d k n) (hl : ds.length * (n + 1) ≤ m) : Rq (.tuple ds) (k + 1) m := by
  obtain ⟨a1, a2, a3, a4, a5⟩ := Rq.all h
  exact ⟨a1, a2, by simp only [PyData.depth]; omega, a4, by show PyData.bulkAll ds ≤ m; omega⟩
theorem Rq.list {ds : List PyData} {k n m : Nat} (h : ∀ d ∈ ds, Rq d k n) (hl : ds.length * (n + 1) ≤ m) : Rq (.list ds) (k + 1) m := by
  obtain ⟨a1, a2, a3, a4, a5⟩ := Rq.all h
  exact ⟨a1, a2, by simp only [PyData.depth]; omega, a4, by show PyData.bulkAll ds ≤ m; omega⟩
theorem rq_int {z : Int} (h0 : 0 ≤ z) (h : z < 10 ^ 13) : Rq (.int z) 1 0 := ⟨decide_eq_true (log_small h0 h), rfl, by simp [PyData.depth], short_int h0 h, by simp [PyData.bulk]⟩
theorem rq_ver {B : Int} {x : Vr} (h : Ver B x) (hB : B < 9999999999999) : Rq (.tuple (x.map PyData.int)) 2 5 := by
  have hs := h.small hB
  refine Rq.tuple (k := 1) (n := 0) (fun d hd => ?_) ?_
  · obtain ⟨z, hz, rfl⟩ := List.mem_map.mp hd
    exact rq_int (hs z hz).1 (hs z hz).2
  · rw [List.length_map, h.len]
    decide
theorem rq_hd {B : Int} {p : Pr} (h : PrOK B p) (hB : B < 9999999999999) : Rq (HD p.2) 2 5 := by
  cases e : p.2 with
  | none => exact Rq.none.mono (by decide) (by decide)
  | some y => exact rq_ver (h.2 y e) hB
theorem rq_pd {B : Int} {p : Pr} (h : PrOK B p) (hB : B < 9999999999999) : Rq (PD p) 3 12 := by
  refine Rq.tuple (k := 2) (n := 5) (fun d hd => ?_) (by show 2 * 6 ≤ 12; decide)
  simp only [List.mem_cons, List.not_mem_nil, or_false] at hd
  rcases hd with rfl | rfl
  · exact rq_ver h.1 hB
  · exact rq_hd h hB
theorem rq_rd {B : Int} {r : Rg} (h : RgOK B r) (hB : B < 9999999999999) (hl : r.length ≤ 1000) : Rq (RD r) 4 13000 := by
  refine Rq.tuple (k := 3) (n := 12) (fun d hd => ?_) ?_
  · obtain ⟨p, hp, rfl⟩ := List.mem_map.mp hd
    exact rq_pd (h.ver p hp) hB
  · rw [List.length_map]
    omega
theorem eqv_nilT (ds : List PyData) : PyData.eqv (.tuple ds) (.tuple []) = ds.isEmpty := by
  cases ds <;> rfl

/-! ### sorted(set(..)) of versions -/
theorem lx_tri {B C : Int} {x y : Vr} (hx : Ver B x) (hy : Ver C y) : HT.lexLt x y = true ∨ x = y ∨ HT.lexLt y x = true := by
  obtain ⟨a, b, c, k, n, rfl, _⟩ := hx
  obtain ⟨a', b', c', k', n', rfl, _⟩ := hy
  rw [lx5, lx5]
  by_cases h : a = a' ∧ b = b' ∧ c = c' ∧ k = k' ∧ n = n'
  · obtain ⟨rfl, rfl, rfl, rfl, rfl⟩ := h
    exact .inr (.inl rfl)
  · omega
theorem lx_code {B : Int} : ∀ {x y : Vr}, x.length = y.length → TS.Bd B x → TS.Bd B y → HT.lexLt x y = true → TS.code B x < TS.code B y
  | [], [], _, _, _, h => by simp [HT.lexLt] at h
  | a :: x, b :: y, hl, hx, hy, h => by
    have hl' : x.length = y.length := by simpa using hl
    have bx : TS.Bd B x := fun m hm => hx m (List.mem_cons.mpr (.inr hm))
    have by' : TS.Bd B y := fun m hm => hy m (List.mem_cons.mpr (.inr hm))
    simp only [HT.lexLt] at h
    by_cases e : a = b
    · rw [if_pos e] at h
      subst e
      have ih := lx_code hl' bx by' h
      have e1 : ∀ z : Vr, TS.code B (a :: z) = a * B ^ z.length + TS.code B z := fun z => by
        first
          | rfl
          | simp [TS.code]
      rw [e1, e1, hl']
      omega
    · rw [if_neg e] at h
      exact TS.code_lt hl' bx by' (of_decide_eq_true h)
theorem Ver.bd {B : Int} {x : Vr} (h : Ver B x) (hB : 3 ≤ B) : TS.Bd (B + 1) x := by
  obtain ⟨a, b, c, k, n, rfl, h1⟩ := h
  intro m hm
  simp only [List.mem_cons, List.not_mem_nil, or_false] at hm
  rcases hm with rfl | rfl | rfl | rfl | rfl <;> omega
theorem perm_paired {α β : Type} {F : α → β → Prop} {l l' : List α} (h : l.Perm l') : ∀ {m' : List β}, Paired F l' m' → ∃ m, m.Perm m' ∧ Paired F l m := by
  induction h with
  | nil => intro m' q; exact ⟨m', .refl _, q⟩
  | cons x _ ih =>
    intro m' q
    cases q with
    | cons r t =>
      obtain ⟨m, h1, h2⟩ := ih t
      exact ⟨_ :: m, h1.cons _, .cons r h2⟩
  | swap x y l =>
    intro m' q
    cases q with
    | cons r t =>
      cases t with
      | cons r2 t2 => exact ⟨_, .swap .., .cons r2 (.cons r t2)⟩
  | trans _ _ ih1 ih2 =>
    intro m' q
    obtain ⟨m2, h1, h2⟩ := ih2 q
    obtain ⟨m1, h3, h4⟩ := ih1 h2
    exact ⟨m1, h3.trans h1, h4⟩
theorem paired_pick {K : PySem.W.Frag} {H : Hp} : ∀ {us : List V} {xs : List Vr}, Paired (IV K H) us xs → ∃ ks : List (Addr × List Int), us = ks.map (fun p => V.ref p.1) ∧ xs = ks.map (·.2) ∧ ∀ p ∈ ks, SqT K H p.1 (p.2.map V.int)
  | _, _, .nil => ⟨[], rfl, rfl, fun _ h => nomatch h⟩
  | _, _, .cons h t => by
    obtain ⟨ks, rfl, rfl, h3⟩ := paired_pick t
    obtain ⟨a, rfl, ha⟩ := h
    exact ⟨(a, _) :: ks, rfl, rfl, fun p hp => by
      rcases List.mem_cons.mp hp with rfl | q
      · exact ha
      · exact h3 p q⟩
theorem nd_le {α : Type} [DecidableEq α] : ∀ {l m : List α}, l.Nodup → (∀ x ∈ l, x ∈ m) → l.length ≤ m.length
  | [], _, _, _ => Nat.zero_le _
  | a :: l, m, h, s => by
    obtain ⟨h1, h2⟩ := List.nodup_cons.mp h
    have ham := s a (List.mem_cons.mpr (.inl rfl))
    have ih := nd_le (m := m.erase a) h2 fun x hx => (List.mem_erase_of_ne (fun e => h1 (by rw [← e]; exact hx))).mpr (s x (List.mem_cons.mpr (.inr hx)))
    rw [List.length_erase_of_mem ham] at ih
    have : 0 < m.length := List.length_pos_of_mem ham
    rw [List.length_cons]
    omega
theorem lx_irr : ∀ x : Vr, HT.lexLt x x = false
  | [] => rfl
  | a :: x => by
    simp only [HT.lexLt]
    rw [if_pos trivial]
    exact lx_irr x
theorem asc_nd {xs : List Vr} (h : xs.Pairwise lt) : xs.Nodup := h.imp fun {a b} q e => by
  subst e
  rw [lt, lx_irr] at q
  cases q
theorem sortset {K : PySem.W.Frag} {P : Program} {w : World} {H : Hp} {l : Addr} {us : List V} {xs : List Vr} {B : Int} {Q : VK} (hl : SqL K H l us) (hu : Paired (IV K H) us xs) (hv : ∀ x ∈ xs, Ver B x) (hB : 3 ≤ B) (hn : xs.length < 64)
    (k : ∀ H' p us' xs', Same H H' → H p = none → H' p = some (.lst us') → Paired (IV K H') us' xs' → xs'.Pairwise lt → (∀ x, x ∈ xs' ↔ x ∈ xs) → (∀ u ∈ us', u ∈ us) → xs'.length ≤ xs.length → Q (.ref p) H') :
    rSetOfT K P w [V.ref l] H (fun v H1 => rSortedT K P w [v] H1 Q) := by
  obtain ⟨ks, rfl, rfl, h3⟩ := paired_pick hu
  refine ⟨l, ks, rfl, hl, h3, by rw [List.length_map] at hn; exact hn, fun a L ha hL1 hL2 => ?_⟩
  have s1 : Same H (upd H a (SetTO P w a L)) := Same.new ha
  refine ⟨a, L, 5, B + 1, rfl, upd_same, fun p hp => tupS_same s1 (h3 p (hL1 p hp)), by decide, fun p hp => ?_, fun L' p perm nd hlen pw hp => ?_⟩
  · have := hv p.2 (List.mem_map.mpr ⟨p, hL1 p hp, rfl⟩)
    exact ⟨this.len, this.bd hB⟩
  · have s2 := s1.trans (Same.new (o := .lst (L'.map fun q => V.ref q.1)) hp)
    have hL : ∀ q ∈ L', q ∈ ks := fun q hq => hL1 q (perm.mem_iff.mp hq)
    have vr : ∀ q ∈ L', Ver B q.2 := fun q hq => hv q.2 (List.mem_map.mpr ⟨q, hL q hq, rfl⟩)
    have asc : (L'.map (·.2)).Pairwise lt := by
      have nd' : L'.Pairwise (fun q r => q.2 ≠ r.2) := List.pairwise_map.mp nd
      refine List.pairwise_map.mpr (List.Pairwise.imp_of_mem (fun {q r} hq hr z => ?_) (pw.and nd'))
      obtain ⟨z1, z2⟩ := z
      rcases lx_tri (vr q hq) (vr r hr) with e | e | e
      · exact e
      · exact absurd e z2
      · exfalso
        have := lx_code ((vr r hr).len.trans (vr q hq).len.symm) ((vr r hr).bd hB) ((vr q hq).bd hB) e
        omega
    have mem : ∀ x, x ∈ L'.map (·.2) ↔ x ∈ ks.map (·.2) := by
      intro x
      constructor
      · intro hx
        obtain ⟨q, hq, rfl⟩ := List.mem_map.mp hx
        exact List.mem_map.mpr ⟨q, hL q hq, rfl⟩
      · intro hx
        obtain ⟨q, hq, rfl⟩ := List.mem_map.mp hx
        have := hL2 q hq
        exact (perm.map (·.2)).mem_iff.mpr this
    refine k _ p _ (L'.map (·.2)) s2 (s1.free hp) upd_same ?_ asc mem ?_ (nd_le (asc_nd asc) fun x hx => (mem x).mp hx)
    · have : ∀ M : List (Addr × List Int), (∀ q ∈ M, SqT K H q.1 (q.2.map V.int)) → Paired (IV K (upd (upd H a (SetTO P w a L)) p (.lst (L'.map fun q => V.ref q.1)))) (M.map fun q => V.ref q.1) (M.map (·.2)) := fun M => by
        induction M with
        | nil => intro _; exact .nil
        | cons q M ih => intro h; exact .cons ⟨q.1, rfl, tupS_same s2 (h q (List.mem_cons.mpr (.inl rfl)))⟩ (ih fun z hz => h z (List.mem_cons.mpr (.inr hz)))
      exact this L' fun q hq => h3 q (hL q hq)
    · intro u hu'
      obtain ⟨q, hq, rfl⟩ := List.mem_map.mp hu'
      exact List.mem_map.mpr ⟨q, hL q hq, rfl⟩
/-! ### pairs out of borders -/
def prs : List Vr → Rg
  | x :: y :: l => (x, some y) :: prs l
  | [x] => [(x, none)]
  | [] => []
theorem prs_flat : ∀ l : List Vr, flat (prs l) = l
  | [] => rfl
  | [x] => rfl
  | x :: y :: l => by
    show x :: y :: flat (prs l) = _
    rw [prs_flat l]
theorem prs_len : ∀ l : List Vr, (prs l).length = (l.length + 1) / 2
  | [] => by simp [prs]
  | [x] => by simp [prs]
  | x :: y :: l => by
    simp only [prs, List.length_cons]
    show (prs l).length + 1 = (l.length + 1 + 1 + 1) / 2
    rw [prs_len l]
    omega
theorem prs_get : ∀ {l : List Vr} {i : Nat} {x y : Vr}, l[2 * i]? = some x → l[2 * i + 1]? = some y → (prs l)[i]? = some (x, some y)
  | [], _, _, _, h, _ => by simp at h
  | [a], i, _, _, _, h => by simp at h
  | a :: b :: l, 0, x, y, h1, h2 => by
    simp at h1 h2
    subst h1 h2
    rfl
  | a :: b :: l, i + 1, x, y, h1, h2 => by
    have e1 : 2 * (i + 1) = 2 * i + 1 + 1 := by omega
    rw [e1, List.getElem?_cons_succ, List.getElem?_cons_succ] at h1
    have e2 : 2 * (i + 1) + 1 = 2 * i + 1 + 1 + 1 := by omega
    rw [e2, List.getElem?_cons_succ, List.getElem?_cons_succ] at h2
    exact prs_get (l := l) h1 h2
theorem prs_odd : ∀ {l : List Vr} {x : Vr}, l.length % 2 = 1 → l[l.length - 1]? = some x → prs l = (prs l).take (l.length / 2) ++ [(x, none)]
  | [], _, h, _ => by simp at h
  | [a], x, _, h => by
    simp at h
    subst h
    simp [prs]
  | a :: b :: l, x, h, e => by
    have h' : l.length % 2 = 1 := by simp at h; omega
    have e' : l[l.length - 1]? = some x := by
      have e1 : (a :: b :: l).length - 1 = (l.length - 1) + 1 + 1 := by simp; omega
      rw [e1, List.getElem?_cons_succ, List.getElem?_cons_succ] at e
      exact e
    have ih := prs_odd h' e'
    have e2 : (a :: b :: l).length / 2 = l.length / 2 + 1 := by simp only [List.length_cons]; omega
    rw [e2]
    simp only [prs]
    show (a, some b) :: prs l = (a, some b) :: ((prs l).take (l.length / 2) ++ [(x, none)])
    rw [← ih]
theorem prs_fin : ∀ (l : List Vr) (i : Nat) (p : Pr), i + 1 < (prs l).length → (prs l)[i]? = some p → p.2 ≠ none
  | [], _, _, h, _ => by simp [prs] at h
  | [x], _, _, h, _ => by simp [prs] at h
  | x :: y :: l, 0, p, _, h => by
    simp [prs] at h
    subst h
    simp
  | x :: y :: l, i + 1, p, hl, h => by
    simp only [prs, List.length_cons, List.getElem?_cons_succ] at hl h
    exact prs_fin l i p (by omega) h
theorem prs_mem : ∀ {l : List Vr} {p : Pr}, p ∈ prs l → p.1 ∈ l ∧ ∀ y, p.2 = some y → y ∈ l
  | [], _, h => by simp [prs] at h
  | [x], p, h => by
    simp [prs] at h
    subst h
    simp
  | x :: y :: l, p, h => by
    simp only [prs, List.mem_cons] at h
    rcases h with rfl | h
    · simp
    · obtain ⟨h1, h2⟩ := prs_mem h
      exact ⟨List.mem_cons_of_mem _ (List.mem_cons_of_mem _ h1), fun z hz => List.mem_cons_of_mem _ (List.mem_cons_of_mem _ (h2 z hz))⟩
theorem prs_ok {B : Int} {l : List Vr} (h : l.Pairwise lt) (hv : ∀ x ∈ l, Ver B x) : RgOK B (prs l) :=
  ⟨fun p hp => ⟨hv _ (prs_mem hp).1, fun y hy => hv y ((prs_mem hp).2 y hy)⟩, by rw [prs_flat]; exact h, prs_fin l⟩
theorem rgc2 {m : Nat} (h : m < 64) : RgC 0 ((m : Int) - 1) 2 (m / 2) := by
  have H : ∀ m : _root_.Fin 64, (Builtin.Range.small 0 ((m.val : Int) - 1) 2 = true ∧ Builtin.Range.rangeSize 0 ((m.val : Int) - 1) 2 = (m.val / 2 : Nat)) := by decide +kernel
  obtain ⟨h1, h2⟩ := H ⟨m, h⟩
  exact ⟨by decide, by decide, h1, h2⟩
end Zj

namespace Zj
open PySem PySem.Spec PyProof.Rows L2

def kwG2 (us ws : List Value) : List Value := match us, ws with | [], [v, s] => [s, v] | _, _ => []
def kwV2 (vs zs : List V) : List V := match vs, zs with | [], [v, s] => [s, v] | _, _ => []
theorem kb2 {K : PySem.W.Frag} {q qual : Str} {st : Stmt} {f : Addr} {fd : FuncData} {n m : Str} (F : Fun K q qual st f fd)
    (h : ∀ (kV doc pm : Value) (an : Option Addr) (cdv ct v s : Value), bindArgs (PySem.W.fnOf q qual (defArgs st) (defBody st) (defScope st) .none kV doc pm an cdv ct) ⟨[], [(n, v), (m, s)]⟩ = pure [(m, s), (n, v)]) : KBinds K fd [m, n] [n, m] kwG2 kwV2 := by
  obtain ⟨oc, od, kV, doc, pm, an, cdv, ct, osl, rfl, lk, hcd⟩ := F.ex
  refine ⟨fun s us ws _ hl => ?_, fun {vs us zs ws} r rz => ?_⟩
  · match us, ws, hl with
    | [], [v, s], _ => exact .of_eq (h kV doc pm an cdv ct v s)
  · cases r with
    | nil =>
      cases rz with
      | nil => exact .nil
      | cons r1 t1 =>
        cases t1 with
        | nil => exact .nil
        | cons r2 t2 =>
          cases t2 with
          | nil => exact .cons r2 (.cons r1 .nil)
          | cons _ _ => exact .nil
    | cons _ _ =>
      cases rz <;> exact .nil
theorem PrOK.mono {B C : Int} {p : Pr} (h : PrOK B p) (hc : B ≤ C) : PrOK C p := ⟨h.1.mono hc, fun y hy => (h.2 y hy).mono hc⟩
theorem RgOK.mono {B C : Int} {r : Rg} (h : RgOK B r) (hc : B ≤ C) : RgOK C r := ⟨fun p hp => (h.ver p hp).mono hc, h.asc, h.fin⟩
theorem eqv_ints : ∀ x y : Vr, PyData.eqv (.tuple (y.map PyData.int)) (.tuple (x.map PyData.int)) = decide (y = x) := by
  have H : ∀ x y : Vr, PyData.eqvAll (y.map PyData.int) (x.map PyData.int) = decide (y = x) := fun x => by
    induction x with
    | nil => intro y; cases y <;> rfl
    | cons a x ih =>
      intro y
      cases y with
      | nil => rfl
      | cons b y =>
        show (PyData.eqv (.int b) (.int a) && PyData.eqvAll (y.map PyData.int) (x.map PyData.int)) = _
        rw [ih y]
        have : PyData.eqv (.int b) (.int a) = decide (b = a) := by
          show (b == a) = _
          rfl
        rw [this]
        by_cases e1 : b = a
        · by_cases e2 : y = x
          · rw [decide_eq_true e1, decide_eq_true e2, decide_eq_true (by rw [e1, e2])]; rfl
          · rw [decide_eq_true e1, decide_eq_false e2, decide_eq_false (fun q => e2 (List.cons.inj q).2)]; rfl
        · rw [decide_eq_false e1, decide_eq_false (fun q => e1 (List.cons.inj q).1)]; rfl
  exact fun x y => H x y
theorem only_in {B C : Int} {x y : Vr} (hx : Ver B x) (hy : Ver C y) : inB [(x, some (nxt x))] y = decide (y = x) := by
  show (inP (x, some (nxt x)) y || false) = _
  rw [Bool.or_false]
  show (!HT.lexLt y x && HT.lexLt y (nxt x)) = _
  by_cases e : y = x
  · subst e
    rw [lx_irr, lx_nxt hy, decide_eq_true rfl]
    rfl
  · rw [decide_eq_false e]
    rcases lx_tri hx hy with q | q | q
    · rw [lx_gap hx hy q, Bool.and_false]
    · exact absurd q.symm e
    · rw [q]; rfl
theorem only_ok {B : Int} {x : Vr} (hx : Ver B x) : RgOK (B + 1) [(x, some (nxt x))] :=
  prs_ok (l := [x, nxt x]) (List.pairwise_cons.mpr ⟨fun y hy => by rw [List.mem_singleton.mp hy]; exact lx_nxt hx, List.pairwise_singleton _ _⟩) (fun y hy => by
    simp only [List.mem_cons, List.not_mem_nil, or_false] at hy
    rcases hy with rfl | rfl
    · exact hx.mono (by omega)
    · exact hx.nxt)
theorem whole_ok {B : Int} (hB : 3 ≤ B) : RgOK B [([0, 0, 0, 0, 0], none)] :=
  prs_ok (l := [[0, 0, 0, 0, 0]]) (List.pairwise_singleton _ _) (fun x hx => by
    rw [List.mem_singleton.mp hx]
    exact ⟨0, 0, 0, 0, 0, rfl, by omega⟩)
theorem empty_ok {B : Int} : RgOK B [] := ⟨(fun _ h => nomatch h), List.Pairwise.nil, (fun i p h _ => absurd h (by simp))⟩
theorem whole_in {B : Int} {x : Vr} (hx : Ver B x) : inB [([0, 0, 0, 0, 0], none)] x = true := by
  show (inP _ x || false) = true
  rw [Bool.or_false]
  show (!HT.lexLt x [0, 0, 0, 0, 0] && true) = true
  obtain ⟨a, b, c, k, n, rfl, h⟩ := hx
  cases q : HT.lexLt [a, b, c, k, n] [0, 0, 0, 0, 0] with
  | false => rfl
  | true =>
    rw [lx5] at q
    omega
theorem flat_len (r : Rg) : (flat r).length ≤ 2 * r.length := by
  induction r with
  | nil => exact Nat.le_refl _
  | cons p r ih =>
    have e : flat (p :: r) = (p.1 :: p.2.toList) ++ flat r := rfl
    rw [e, List.length_append, List.length_cons, List.length_cons]
    have : p.2.toList.length ≤ 1 := by cases p.2 <;> simp
    omega
end Zj

namespace Zj
open PySem L2
/-! ### operations on ranges -/
theorem lx_trans : ∀ {x y z : Vr}, HT.lexLt x y = true → HT.lexLt y z = true → HT.lexLt x z = true
  | [], [], _, h, _ => by simp [HT.lexLt] at h
  | [], _ :: _, [], _, h => by simp [HT.lexLt] at h
  | [], _ :: _, _ :: _, _, _ => rfl
  | _ :: _, [], _, h, _ => by simp [HT.lexLt] at h
  | _ :: _, _ :: _, [], _, h => by simp [HT.lexLt] at h
  | a :: x, b :: y, c :: z, h, k => by
    simp only [HT.lexLt] at h k ⊢
    by_cases e : a = b
    · subst e
      rw [if_pos rfl] at h
      by_cases e2 : a = c
      · subst e2
        rw [if_pos rfl] at k ⊢
        exact lx_trans h k
      · rw [if_neg e2] at k ⊢
        exact k
    · rw [if_neg e] at h
      have h := of_decide_eq_true h
      by_cases e2 : b = c
      · subst e2
        rw [if_neg e]
        exact decide_eq_true h
      · rw [if_neg e2] at k
        have k := of_decide_eq_true k
        rw [if_neg (by omega)]
        exact decide_eq_true (by omega)
/-- b is not above x -/
def le (b x : Vr) : Bool := !HT.lexLt x b
theorem le_f {b x : Vr} : le b x = false ↔ HT.lexLt x b = true := by unfold le; simp
theorem le_t {b x : Vr} : le b x = true ↔ HT.lexLt x b = false := by unfold le; simp
theorem le_rfl (b : Vr) : le b b = true := le_t.mpr (lx_irr b)
theorem le_back {b c x : Vr} (h : lt b c) (k : le c x = true) : le b x = true := by
  rw [le_t] at k ⊢
  cases e : HT.lexLt x b with
  | false => rfl
  | true => rw [lx_trans e h] at k; cases k
theorem lx_tot : ∀ x y : Vr, HT.lexLt x y = true ∨ x = y ∨ HT.lexLt y x = true
  | [], [] => .inr (.inl rfl)
  | [], _ :: _ => .inl rfl
  | _ :: _, [] => .inr (.inr rfl)
  | a :: x, b :: y => by
    simp only [HT.lexLt]
    by_cases e : a = b
    · subst e
      rw [if_pos rfl, if_pos rfl]
      rcases lx_tot x y with q | q | q
      · exact .inl q
      · exact .inr (.inl (by rw [q]))
      · exact .inr (.inr q)
    · rw [if_neg e, if_neg (fun z => e z.symm)]
      by_cases h : a < b
      · exact .inl (decide_eq_true h)
      · exact .inr (.inr (decide_eq_true (by omega)))
theorem le_trans {c b x : Vr} (h : le c b = true) (k : le b x = true) : le c x = true := by
  rcases lx_tot c b with q | q | q
  · exact le_back q k
  · rw [q]; exact k
  · rw [le_t.mp h] at q; cases q
theorem le_of_lt {b c : Vr} (h : lt b c) : le b c = true := le_back h (le_rfl c)
theorem lt_not {b c : Vr} (h : lt b c) : le c b = false := le_f.mpr h
/-- how many borders are not above x: odd -/
def par : List Vr → Vr → Bool
  | [], _ => false
  | b :: l, x => Bool.xor (le b x) (par l x)
theorem par_above : ∀ {l : List Vr} {x : Vr}, (∀ b ∈ l, le b x = false) → par l x = false
  | [], _, _ => rfl
  | b :: l, x, h => by
    show Bool.xor (le b x) (par l x) = false
    rw [h b (List.mem_cons.mpr (.inl rfl)), par_above fun c hc => h c (List.mem_cons.mpr (.inr hc))]
    rfl
theorem par_congr : ∀ {l : List Vr} {x y : Vr}, (∀ b ∈ l, le b x = le b y) → par l x = par l y
  | [], _, _, _ => rfl
  | b :: l, x, y, h => by
    show Bool.xor (le b x) (par l x) = Bool.xor (le b y) (par l y)
    rw [h b (List.mem_cons.mpr (.inl rfl)), par_congr fun c hc => h c (List.mem_cons.mpr (.inr hc))]
theorem prs_par : ∀ {l : List Vr} {x : Vr}, l.Pairwise lt → inB (prs l) x = par l x
  | [], _, _ => rfl
  | [b], x, _ => by
    show ((le b x && true) || false) = Bool.xor (le b x) false
    cases le b x <;> rfl
  | b :: c :: l, x, h => by
    obtain ⟨h1, h⟩ := List.pairwise_cons.mp h
    obtain ⟨h2, h3⟩ := List.pairwise_cons.mp h
    show ((le b x && HT.lexLt x c) || inB (prs l) x) = Bool.xor (le b x) (Bool.xor (le c x) (par l x))
    rw [prs_par h3]
    have bc := h1 c (List.mem_cons.mpr (.inl rfl))
    cases e : le c x with
    | true =>
      rw [le_back bc e, le_t.mp e]
      cases par l x <;> rfl
    | false =>
      rw [le_f.mp e, par_above fun d hd => le_f.mpr (lx_trans (le_f.mp e) (h2 d hd))]
      cases le b x <;> rfl
theorem prs_of : ∀ {r : Rg}, (∀ i p, i + 1 < r.length → r[i]? = some p → p.2 ≠ none) → r = prs (flat r)
  | [], _ => rfl
  | [(b, none)], _ => rfl
  | [(b, some c)], _ => rfl
  | (b, none) :: q :: r, h => absurd rfl (h 0 (b, none) (by simp) rfl)
  | (b, some c) :: q :: r, h => by
    show _ = (b, some c) :: prs (flat (q :: r))
    rw [← prs_of (r := q :: r) fun i p hi hp => h (i + 1) p (by simpa using hi) (by simpa using hp)]
theorem RgOK.par {B : Int} {r : Rg} (h : RgOK B r) (x : Vr) : inB r x = par (flat r) x := by
  have e := prs_of h.fin
  exact (congrArg (fun s => inB s x) e).trans (prs_par h.asc)
theorem par_ext {B C : Int} : ∀ {l m : List Vr}, l.Pairwise lt → m.Pairwise lt → (∀ x ∈ l, Ver B x) → (∀ x ∈ m, Ver C x) → (∀ x, par l x = par m x) → l = m
  | [], [], _, _, _, _, _ => rfl
  | [], b :: m, _, hm, _, _, h => by
    have e := h b
    have e1 : par (b :: m) b = true := by
      show Bool.xor (le b b) (par m b) = true
      rw [le_rfl, par_above fun d hd => lt_not ((List.pairwise_cons.mp hm).1 d hd)]
      rfl
    rw [e1] at e
    cases e
  | b :: l, [], hl, _, _, _, h => by
    have e := h b
    have e1 : par (b :: l) b = true := by
      show Bool.xor (le b b) (par l b) = true
      rw [le_rfl, par_above fun d hd => lt_not ((List.pairwise_cons.mp hl).1 d hd)]
      rfl
    rw [e1] at e
    cases e
  | a :: l, b :: m, hl, hm, vl, vm, h => by
    have hl' := List.pairwise_cons.mp hl
    have hm' := List.pairwise_cons.mp hm
    have pa : par (a :: l) a = true := by
      show Bool.xor (le a a) (par l a) = true
      rw [le_rfl, par_above fun d hd => lt_not (hl'.1 d hd)]
      rfl
    have pb : par (b :: m) b = true := by
      show Bool.xor (le b b) (par m b) = true
      rw [le_rfl, par_above fun d hd => lt_not (hm'.1 d hd)]
      rfl
    rcases lx_tri (vl a (List.mem_cons.mpr (.inl rfl))) (vm b (List.mem_cons.mpr (.inl rfl))) with q | q | q
    · have e := h a
      rw [pa, par_above fun d hd => by
        rcases List.mem_cons.mp hd with z | z
        · rw [z]; exact lt_not q
        · exact lt_not (lx_trans q (hm'.1 d z))] at e
      cases e
    · subst q
      congr 1
      refine par_ext hl'.2 hm'.2 (fun x hx => vl x (List.mem_cons.mpr (.inr hx))) (fun x hx => vm x (List.mem_cons.mpr (.inr hx))) fun x => ?_
      have e : Bool.xor (le a x) (par l x) = Bool.xor (le a x) (par m x) := h x
      cases q1 : le a x <;> cases q2 : par l x <;> cases q3 : par m x <;> rw [q1, q2, q3] at e <;> first | rfl | cases e
    · have e := h b
      rw [pb, par_above fun d hd => by
        rcases List.mem_cons.mp hd with z | z
        · rw [z]; exact lt_not q
        · exact lt_not (lx_trans q (hl'.1 d z))] at e
      cases e
theorem flat_ver {B : Int} {r : Rg} (h : RgOK B r) : ∀ x ∈ flat r, Ver B x := fun x hx => by
  obtain ⟨p, hp, hq⟩ := List.mem_flatMap.mp hx
  rcases List.mem_cons.mp hq with z | z
  · rw [z]; exact (h.ver p hp).1
  · exact (h.ver p hp).2 x (by
      cases e : p.2 with
      | none => rw [e] at z; cases z
      | some y =>
        rw [e] at z
        rcases List.mem_cons.mp z with q | q
        · rw [q]
        · cases q)
/-- equal exactly if the same versions are in them -/
theorem rg_ext {B C : Int} {r s : Rg} (hr : RgOK B r) (hs : RgOK C s) (h : ∀ x, inB r x = inB s x) : r = s := by
  have e := par_ext hr.asc hs.asc (flat_ver hr) (flat_ver hs) fun x => by rw [← hr.par x, ← hs.par x]; exact h x
  rw [prs_of hr.fin, prs_of hs.fin, e]
/-- where g changes -/
def turns (g : Vr → Bool) : Bool → List Vr → List Vr
  | _, [] => []
  | i, b :: l => if (g b != i) = true then b :: turns g (!i) l else turns g i l
def lastB (g : Vr → Bool) (x : Vr) : Bool → List Vr → Bool
  | i, [] => i
  | i, b :: l => if le b x = true then lastB g x (g b) l else i
theorem turns_sub (g : Vr → Bool) : ∀ (i : Bool) (l : List Vr), List.Sublist (turns g i l) l
  | _, [] => .slnil
  | i, b :: l => by
    show List.Sublist (if (g b != i) = true then b :: turns g (!i) l else turns g i l) (b :: l)
    by_cases q : (g b != i) = true
    · rw [if_pos q]
      exact (turns_sub g _ l).cons_cons b
    · rw [if_neg q]
      exact (turns_sub g _ l).cons b
theorem turns_par (g : Vr → Bool) (x : Vr) : ∀ (i : Bool) {l : List Vr}, l.Pairwise lt → par (turns g i l) x = Bool.xor i (lastB g x i l)
  | i, [], _ => by cases i <;> rfl
  | i, b :: l, h => by
    obtain ⟨h1, h2⟩ := List.pairwise_cons.mp h
    show par (if (g b != i) = true then b :: turns g (!i) l else turns g i l) x = Bool.xor i (if le b x = true then lastB g x (g b) l else i)
    by_cases q : (g b != i) = true
    · rw [if_pos q]
      show Bool.xor (le b x) (par (turns g (!i) l) x) = _
      have eg : g b = !i := by cases e : g b <;> cases i <;> rw [e] at q <;> first | rfl | cases q
      by_cases k : le b x = true
      · rw [if_pos k, k, turns_par g x (!i) h2, eg]
        cases i <;> cases lastB g x _ l <;> rfl
      · rw [if_neg k, (Bool.not_eq_true _).mp k, par_above fun d hd => by
          have hd' := (turns_sub g _ l).subset hd
          exact le_f.mpr (lx_trans (le_f.mp ((Bool.not_eq_true _).mp k)) (h1 d hd'))]
        cases i <;> rfl
    · rw [if_neg q]
      have eg : g b = i := by cases e : g b <;> cases i <;> rw [e] at q <;> first | rfl | exact absurd rfl q
      by_cases k : le b x = true
      · rw [if_pos k, eg]
        exact turns_par g x i h2
      · rw [if_neg k, par_above fun d hd => by
          have hd' := (turns_sub g _ l).subset hd
          exact le_f.mpr (lx_trans (le_f.mp ((Bool.not_eq_true _).mp k)) (h1 d hd'))]
        cases i <;> rfl
theorem lastB_eq (g : Vr → Bool) (x : Vr) (C : List Vr) (Q : ∀ b, le b x = true → (∀ c ∈ C, le c x = true → le c b = true) → g b = g x) :
    ∀ (i : Bool) {l : List Vr}, l.Pairwise lt → (∀ c ∈ C, le c x = true → c ∈ l ∨ ∀ b ∈ l, le c b = true) → (i = g x ∨ ∃ b ∈ l, le b x = true) → lastB g x i l = g x
  | i, [], _, _, h => by
    rcases h with h | ⟨b, hb, _⟩
    · exact h
    · cases hb
  | i, b :: l, hl, hC, h => by
    obtain ⟨h1, h2⟩ := List.pairwise_cons.mp hl
    show (if le b x = true then lastB g x (g b) l else i) = g x
    by_cases k : le b x = true
    · rw [if_pos k]
      refine lastB_eq g x C Q (g b) h2 (fun c hc hx => ?_) ?_
      · rcases hC c hc hx with z | z
        · rcases List.mem_cons.mp z with q | q
          · exact .inr fun d hd => by rw [q]; exact le_of_lt (h1 d hd)
          · exact .inl q
        · exact .inr fun d hd => z d (List.mem_cons.mpr (.inr hd))
      · by_cases e : ∃ d ∈ l, le d x = true
        · exact .inr e
        · refine .inl (Q b k fun c hc hx => ?_)
          rcases hC c hc hx with z | z
          · rcases List.mem_cons.mp z with q | q
            · rw [q]; exact le_rfl b
            · exact absurd ⟨c, q, hx⟩ e
          · exact z b (List.mem_cons.mpr (.inl rfl))
    · rw [if_neg k]
      rcases h with h | ⟨d, hd, hx⟩
      · exact h
      · rcases List.mem_cons.mp hd with q | q
        · rw [q] at hx
          exact absurd hx k
        · exact absurd (le_back (h1 d q) hx) k
/-- what both ways of putting two ranges together make -/
theorem op_ok {B : Int} {r s : Rg} (w : Bool → Bool → Bool) (w0 : w false false = false) (hr : RgOK B r) (hs : RgOK B s) {l : List Vr} (hl : l.Pairwise lt) (hv : ∀ b ∈ l, Ver B b) (hm : ∀ c ∈ flat r ++ flat s, c ∈ l) :
    RgOK B (prs (turns (fun b => w (inB r b) (inB s b)) false l)) ∧ ∀ x, inB (prs (turns (fun b => w (inB r b) (inB s b)) false l)) x = w (inB r x) (inB s x) := by
  have sub := turns_sub (fun b => w (inB r b) (inB s b)) false l
  have asc := hl.sublist sub
  refine ⟨prs_ok asc fun x hx => hv x (sub.subset hx), fun x => ?_⟩
  rw [prs_par asc, turns_par _ x false hl]
  have eg : ∀ {t : Rg}, RgOK B t → (∀ c ∈ flat t, c ∈ flat r ++ flat s) → ∀ b, le b x = true → (∀ c ∈ flat r ++ flat s, le c x = true → le c b = true) → inB t b = inB t x := fun {t} ht hc b kb q => by
    rw [ht.par b, ht.par x]
    refine par_congr fun c hc' => ?_
    have hcx := q c (hc c hc')
    cases e : le c x with
    | true => exact hcx e
    | false =>
      have h1 := le_f.mp e
      cases e2 : le c b with
      | false => rfl
      | true =>
        exact absurd (le_trans e2 kb) (by rw [e]; decide)
  rw [lastB_eq (fun b => w (inB r b) (inB s b)) x (flat r ++ flat s) ?_ false hl (fun c hc _ => .inl (hm c hc)) ?_]
  · cases w (inB r x) (inB s x) <;> rfl
  · intro b kb q
    show w (inB r b) (inB s b) = w (inB r x) (inB s x)
    rw [eg hr (fun c hc => List.mem_append.mpr (.inl hc)) b kb q, eg hs (fun c hc => List.mem_append.mpr (.inr hc)) b kb q]
  · by_cases e : ∃ b ∈ l, le b x = true
    · exact .inr e
    · left
      have z : ∀ {t : Rg}, RgOK B t → (∀ c ∈ flat t, c ∈ flat r ++ flat s) → inB t x = false := fun {t} ht hc => by
        rw [ht.par x]
        exact par_above fun c hc' => (Bool.not_eq_true _).mp fun k => e ⟨c, hm c (hc c hc'), k⟩
      show false = w (inB r x) (inB s x)
      rw [z hr (fun c hc => List.mem_append.mpr (.inl hc)), z hs (fun c hc => List.mem_append.mpr (.inr hc)), w0]
end Zj

namespace Zj
open PySem PySem.Spec PyProof.Rows
/-! ### tuple(zip(x, y)), x and y lists -/
theorem zip_nolen : typeLookup (.type "zip") "__len__" = pure none := am_miss_of_fast (by decide +kernel)
theorem zip_nohint : typeLookup (.type "zip") "__length_hint__" = pure none := am_miss_of_fast (by decide +kernel)
theorem ne_lo {a T : Addr} {b0 : Nat} (h : (a : Nat) < b0) (k : b0 ≤ (T : Nat)) : T ≠ a := fun q => by
  subst q
  exact absurd h (Nat.not_lt.mpr k)
/-- how the zip at z stands before its turn i; b0: all that it needs lies below -/
structure ZSt (h : Heap) (z TI TO i1 i2 l1 l2 : Addr) (xs ys : Array Value) (i : Nat) : Prop where
  zip : (IsZip h z TI TO .none ∧ ∃ a b, IsPair h TO a b) ∨ ∃ T f oT, IsZipHeld h z TI TO T f ∧ h.get? T = some oT ∧ T ≠ z ∧ T ≠ i1 ∧ T ≠ i2
  ti : IsPair h TI (.ref i1) (.ref i2)
  h1 : h.IsListIter i1 l1 i
  h2 : h.IsListIter i2 l2 i
  x1 : h.IsList l1 xs
  x2 : h.IsList l2 ys
section
variable {prog : Program} {w : World} {A : Around} {E : Value → Shared → Prop} {s : Shared} {z TI TO i1 i2 l1 l2 : Addr} {xs ys : Array Value} {i : Nat}
theorem ZSt.zlt {h : Heap} (a : ZSt h z TI TO i1 i2 l1 l2 xs ys i) : z < h.objs.size := by
  rcases a.zip with ⟨e, _⟩ | ⟨_, _, _, e, _⟩
  · exact Heap.lt_size e
  · exact Heap.lt_size e
theorem ZSt.ilt {h : Heap} (a : ZSt h z TI TO i1 i2 l1 l2 xs ys i) : i1 < h.objs.size ∧ i2 < h.objs.size := by
  obtain ⟨_, e1, _⟩ := a.h1
  obtain ⟨_, e2, _⟩ := a.h2
  exact ⟨Heap.lt_size e1, Heap.lt_size e2⟩
theorem znext {x y : Value} {Q : Option Value → Shared → Prop} (D : ZipApart z TI TO i1 i2 l1 l2) (st : ZSt s.heap z TI TO i1 i2 l1 l2 xs ys i) (hx : xs[i]? = some x) (hy : ys[i]? = some y)
    (hQ : ∀ h', ZSt h' z TI TO i1 i2 l1 l2 xs ys (i + 1) → IsPair h' s.heap.objs.size x y → h'.objs.size = s.heap.objs.size + 1 → (∀ c o, c ≠ z → c ≠ TO → c ≠ i1 → c ≠ i2 → s.heap.get? c = some o → h'.get? c = some o) → Q (some (.ref s.heap.objs.size)) { s with heap := h' }) :
    wpAny (model prog w) A (pyNext (.ref z)) Q E s := by
  have nz := Nat.ne_of_gt st.zlt
  have n1 := Nat.ne_of_gt st.ilt.1
  have n2 := Nat.ne_of_gt st.ilt.2
  rcases st.zip with ⟨e, a, b, e2⟩ | ⟨T, f, oT, e, e2, t1, t2, t3⟩
  · exact wpAny_pyNext_zip_item D e st.ti e2 st.h1 st.h2 st.x1 st.x2 hx hy fun h' a1 a2 a3 a4 a5 a6 a7 =>
      hQ h' ⟨.inr ⟨_, false, _, a1, a5, nz, n1, n2⟩, a7 _ _ D.TIz D.TITO D.TIi1 D.TIi2 st.ti, a3, a4, st.x1.at fun o q => a7 _ o D.l1z D.l1TO D.l1i1 D.l1i2 q, st.x2.at fun o q => a7 _ o D.l2z D.l2TO D.l2i1 D.l2i2 q⟩ a5 a6 a7
  · exact wpAny_pyNext_zip_item_held D e e2 st.ti st.h1 st.h2 st.x1 st.x2 hx hy fun h' a1 a3 a4 a5 a6 a7 =>
      hQ h' ⟨.inr ⟨T, true, oT, a1, a7 _ _ t1 t2 t3 e2, t1, t2, t3⟩, a7 _ _ D.TIz D.TIi1 D.TIi2 st.ti, a3, a4, st.x1.at fun o q => a7 _ o D.l1z D.l1i1 D.l1i2 q, st.x2.at fun o q => a7 _ o D.l2z D.l2i1 D.l2i2 q⟩ a5 a6 fun c o c1 _ c3 c4 q => a7 c o c1 c3 c4 q
theorem zstop {Q : Option Value → Shared → Prop} (hh : A.handled = none) (D : ZipApart z TI TO i1 i2 l1 l2) (st : ZSt s.heap z TI TO i1 i2 l1 l2 xs ys i) (hend : xs[i]? = none ∨ ys[i]? = none)
    (hQ : ∀ h', (∀ c o, c ≠ z → c ≠ TO → c ≠ i1 → c ≠ i2 → s.heap.get? c = some o → h'.get? c = some o) → Q none { s with heap := h' }) : wpAny (model prog w) A (pyNext (.ref z)) Q E s := by
  rcases st.zip with ⟨e, a, b, e2⟩ | ⟨T, f, oT, e, e2, t1, t2, t3⟩
  · exact wpAny_pyNext_zip_end hh D e st.ti e2 st.h1 st.h2 st.x1 st.x2 hend hQ
  · exact wpAny_pyNext_zip_end_held hh D e e2 st.ti st.h1 st.h2 st.x1 st.x2 hend fun h' a7 => hQ h' fun c o c1 _ c3 c4 q => a7 c o c1 c3 c4 q
/-- the pairs that are made: b0 and above, one behind another -/
structure Made (h : Heap) (b0 : Nat) (xs ys : Array Value) (Ts : List Addr) : Prop where
  lt : ∀ T ∈ Ts, b0 ≤ (T : Nat)
  nd : Ts.Nodup
  at_ : ∀ (j : Nat) (T : Addr), Ts[j]? = some T → ∃ x y, xs[j]? = some x ∧ ys[j]? = some y ∧ IsPair h T x y
theorem Made.keep {h h' : Heap} {b0 : Nat} {Ts : List Addr} (m : Made h b0 xs ys Ts) (k : ∀ T ∈ Ts, ∀ o, h.get? T = some o → h'.get? T = some o) : Made h' b0 xs ys Ts :=
  ⟨m.lt, m.nd, fun j T e => by
    obtain ⟨x, y, h1, h2, h3⟩ := m.at_ j T e
    exact ⟨x, y, h1, h2, k T (List.mem_of_getElem? e) _ h3⟩⟩
theorem Made.hi {h : Heap} {b0 : Nat} {Ts : List Addr} (m : Made h b0 xs ys Ts) : h.objs.size ∉ Ts := fun q => by
  obtain ⟨j, hj⟩ := List.getElem?_of_mem q
  obtain ⟨x, y, _, _, h3⟩ := m.at_ j _ hj
  exact absurd (Heap.lt_size h3) (Nat.lt_irrefl _)
theorem Made.snoc {h : Heap} {b0 : Nat} {Ts : List Addr} {T : Addr} {x y : Value} (m : Made h b0 xs ys Ts) (hT : b0 ≤ (T : Nat)) (hn : T ∉ Ts) (hx : xs[Ts.length]? = some x) (hy : ys[Ts.length]? = some y) (hp : IsPair h T x y) : Made h b0 xs ys (Ts ++ [T]) := by
  refine ⟨fun U hU => ?_, ?_, fun j U e => ?_⟩
  · rcases List.mem_append.mp hU with q | q
    · exact m.lt U q
    · rw [List.mem_singleton.mp q]; exact hT
  · refine List.nodup_append.mpr ⟨m.nd, by simp, fun a ha b hb e => ?_⟩
    rw [List.mem_singleton.mp hb] at e
    rw [e] at ha
    exact hn ha
  · rw [List.getElem?_append] at e
    split at e
    · exact m.at_ j U e
    · rename_i q
      have e1 : j - Ts.length = 0 := by
        by_cases q2 : j - Ts.length = 0
        · exact q2
        · rw [List.getElem?_eq_none (by simp; omega)] at e
          cases e
      have e2 : j = Ts.length := by omega
      rw [e1] at e
      cases e
      rw [e2]
      exact ⟨x, y, hx, hy, hp⟩
variable {S : Addr} {n b0 : Nat} {res : Value} {R : Result → Shared → Prop}
theorem zip_loop (hh : A.handled = none) (D : ZipApart z TI TO i1 i2 l1 l2) (hxs : xs.size = n) (hys : ys.size = n) (hn : n ≤ sizeLine) (nS : S ≠ z ∧ S ≠ TI ∧ S ≠ TO ∧ S ≠ i1 ∧ S ≠ i2 ∧ S ≠ l1 ∧ S ≠ l2) (lo : z < b0 ∧ TO < b0 ∧ i1 < b0 ∧ i2 < b0 ∧ S < b0) :
    ∀ (k i : Nat) (s : Shared) (Ts : List Addr) (c : Nat), i + k = n → Ts.length = i → ZSt s.heap z TI TO i1 i2 l1 l2 xs ys i → Made s.heap b0 xs ys Ts → b0 ≤ s.heap.objs.size → s.heap.get? S = some { cls := .type "list", data := .seq (Ts.map Value.ref).toArray c } →
    (∀ h' tk Ts' c', Ts'.length = n → Made h' b0 xs ys Ts' → h'.get? S = some { cls := .type "list", data := .seq (Ts'.map Value.ref).toArray c' } → (∀ b o, b ≠ z → b ≠ TO → b ≠ i1 → b ≠ i2 → b ≠ S → s.heap.get? b = some o → h'.get? b = some o) → R (.ok (.ret res)) { s with heap := h', toks := tk }) →
    codeAny (model prog w) A (.builtin "list.extend.loop" ⟨[.ref S, .ref z, res], []⟩) R s := by
  intro k
  induction k with
  | zero =>
    intro i s Ts c hk hl st mk hb hS hR
    refine codeAny_builtin F.entry_extend_loop ?_
    rw [Around.under_plainId F.plain_extend_loop _]
    show wpAny _ A.in1 (pyNext (.ref z) >>= _) _ _ s
    refine wpAny_bind (zstop hh D st (.inl (by rw [Array.getElem?_eq_none (by omega)])) fun h' kp => ?_)
    have kT : ∀ T ∈ Ts, ∀ o, s.heap.get? T = some o → h'.get? T = some o := fun T hT o e => kp T o (ne_lo lo.1 (mk.lt T hT)) (ne_lo lo.2.1 (mk.lt T hT)) (ne_lo lo.2.2.1 (mk.lt T hT)) (ne_lo lo.2.2.2.1 (mk.lt T hT)) e
    exact wpAny_pure (hR h' s.toks Ts c (by omega) (mk.keep kT) (kp S _ nS.1 nS.2.2.1 nS.2.2.2.1 nS.2.2.2.2.1 hS) fun b o q1 q2 q3 q4 _ q => kp b o q1 q2 q3 q4 q)
  | succ k ih =>
    intro i s Ts c hk hl st mk hb hS hR
    obtain ⟨x, hx⟩ : ∃ x, xs[i]? = some x := ⟨_, Array.getElem?_eq_getElem (by omega)⟩
    obtain ⟨y, hy⟩ : ∃ y, ys[i]? = some y := ⟨_, Array.getElem?_eq_getElem (by omega)⟩
    refine codeAny_builtin F.entry_extend_loop ?_
    rw [Around.under_plainId F.plain_extend_loop _]
    show wpAny _ A.in1 (pyNext (.ref z) >>= _) _ _ s
    refine wpAny_bind (znext D st hx hy fun h' st' hp hs' kp => ?_)
    have kT : ∀ T ∈ Ts, ∀ o, s.heap.get? T = some o → h'.get? T = some o := fun T hT o e => kp T o (ne_lo lo.1 (mk.lt T hT)) (ne_lo lo.2.1 (mk.lt T hT)) (ne_lo lo.2.2.1 (mk.lt T hT)) (ne_lo lo.2.2.2.1 (mk.lt T hT)) e
    have hS' := kp S _ nS.1 nS.2.2.1 nS.2.2.2.1 nS.2.2.2.2.1 hS
    have nT := mk.hi
    have mk' : Made h' b0 xs ys (Ts ++ [s.heap.objs.size]) := (mk.keep kT).snoc hb nT (by rw [hl]; exact hx) (by rw [hl]; exact hy) hp
    show wpAny _ A.in1 (updateSeq S (·.push (Value.ref s.heap.objs.size)) >>= _) _ _ _
    refine wpAny_bind ?_
    have ne : ∀ b : Addr, b ≠ S → ∀ o, h'.get? b = some o → (h'.update S (Obj.mapSeq (·.push (Value.ref s.heap.objs.size)))).get? b = some o := fun b q o e => (Heap.get?_update_other _ _ q.symm).trans e
    have hS2 := Heap.get?_update_self (Obj.mapSeq (·.push (Value.ref s.heap.objs.size))) hS' rfl
    have eA : ((Ts.map Value.ref).toArray).push (Value.ref s.heap.objs.size) = ((Ts ++ [s.heap.objs.size]).map Value.ref).toArray := by simp
    have hS3 : ∃ c2, (h'.update S (Obj.mapSeq (·.push (Value.ref s.heap.objs.size)))).get? S = some { cls := .type "list", data := .seq ((Ts ++ [s.heap.objs.size]).map Value.ref).toArray c2 } := ⟨_, by rw [hS2, ← eA]; rfl⟩
    obtain ⟨c2, hS3⟩ := hS3
    refine wpAny_updateSeq hS' rfl (wpAny_pure ⟨plainId_quiet F.plain_extend_loop _, ih (i + 1) { s with heap := h'.update S (Obj.mapSeq (·.push (Value.ref s.heap.objs.size))) } (Ts ++ [s.heap.objs.size]) c2 (by omega) (by simp [hl]) ?_ (mk'.keep fun T hT => ne T ?_) ?_ hS3 fun h2 tk Ts' c' e1 e2 e3 e4 => ?_⟩) ?_ ?_
    · exact ⟨by
        rcases st'.zip with ⟨e, a, b, e2⟩ | ⟨T, f, oT, e, e2, t1, t2, t3⟩
        · exact .inl ⟨ne _ nS.1.symm _ e, a, b, ne _ nS.2.2.1.symm _ e2⟩
        · by_cases q : T = S
          · subst q
            exact .inr ⟨T, f, _, ne _ nS.1.symm _ e, hS3, t1, t2, t3⟩
          · exact .inr ⟨T, f, oT, ne _ nS.1.symm _ e, ne _ q _ e2, t1, t2, t3⟩,
        ne _ nS.2.1.symm _ st'.ti, st'.h1.at (ne _ nS.2.2.2.1.symm), st'.h2.at (ne _ nS.2.2.2.2.1.symm), st'.x1.at (ne _ nS.2.2.2.2.2.1.symm), st'.x2.at (ne _ nS.2.2.2.2.2.2.symm)⟩
    · exact ne_lo lo.2.2.2.2 (mk'.lt T hT)
    · show b0 ≤ (h'.update S _).objs.size
      have sz : (h'.update S (Obj.mapSeq (·.push (Value.ref s.heap.objs.size)))).objs.size = h'.objs.size := by simp [Heap.update]
      rw [sz, hs']
      omega
    · exact hR h2 tk Ts' c' e1 e2 e3 fun b o q1 q2 q3 q4 q5 q => e4 b o q1 q2 q3 q4 q5 (ne b q5 o (kp b o q1 q2 q3 q4 q))
    · simp only [List.size_toArray, List.length_map]
      omega
    · simp only [Array.size_push, List.size_toArray, List.length_map]
      omega
theorem zip_collect {Q : List Value → Shared → Prop} (hh : A.handled = none) (D : ZipApart z TI TO i1 i2 l1 l2) (hxs : xs.size = n) (hys : ys.size = n) (hn : n ≤ sizeLine) (hz : IsZip s.heap z TI TO .none) (st : ZSt s.heap z TI TO i1 i2 l1 l2 xs ys 0) (lo : (z : Nat) < s.heap.objs.size ∧ (TI : Nat) < s.heap.objs.size ∧ (TO : Nat) < s.heap.objs.size ∧ (i1 : Nat) < s.heap.objs.size ∧ (i2 : Nat) < s.heap.objs.size ∧ (l1 : Nat) < s.heap.objs.size ∧ (l2 : Nat) < s.heap.objs.size)
    (hQ : ∀ h' tk Ts, Ts.length = n → Made h' s.heap.objs.size xs ys Ts → (∀ b o, b ≠ z → b ≠ TO → b ≠ i1 → b ≠ i2 → s.heap.get? b = some o → h'.get? b = some o) → Q (Ts.map Value.ref) { s with heap := h', toks := tk }) : wpAny (model prog w) A (collect (.ref z)) Q E s := by
  have nS : ∀ a : Addr, (a : Nat) < s.heap.objs.size → (s.heap.objs.size : Addr) ≠ a := fun a q => ne_lo q (Nat.le_refl _)
  unfold collect
  refine wpAny_bind (wpAny_runValue (codeAny_builtin F.entry_proto_collect ?_))
  rw [Around.under_plainId F.plain_proto_collect _]
  show wpAny _ A.in1 (newList [] >>= fun a => again (.builtin "list.__iadd__" ⟨[a, .ref z], []⟩)) _ _ s
  refine wpAny_bind (wpAny_newObj_type (wpAny_pure ⟨plainId_quiet F.plain_list_iadd _, codeAny_builtin F.entry_list_iadd ?_⟩))
  rw [Around.under_plainId F.plain_list_iadd _]
  have g0 : (s.heap.push { cls := .type "list", data := .seq ([] : List Value).toArray }).get? s.heap.objs.size = some { cls := .type "list", data := .seq ([] : List Value).toArray } := Heap.get?_push_size _ rfl
  have kp : ∀ b o, s.heap.get? b = some o → (s.heap.push { cls := .type "list", data := .seq ([] : List Value).toArray }).get? b = some o := fun b o e => Heap.get?_push_of_some _ e
  have gz := kp _ _ hz
  have ty : ({ s with heap := s.heap.push { cls := .type "list", data := .seq ([] : List Value).toArray } } : Shared).TypeIs (.ref z) "zip" := ⟨_, gz, rfl⟩
  show wpAny _ A.in1 (Builtin.List.listExtendWith (.ref s.heap.objs.size) (.ref z) (.ref s.heap.objs.size)) _ _ _
  unfold Builtin.List.listExtendWith
  refine wpAny_bind (wpAny_typeOf ty ?_)
  have b1 : Builtin.List.listSameRef (.ref s.heap.objs.size) (.ref z) = false := by simp [Builtin.List.listSameRef, nS z lo.1]
  rw [if_neg (by rw [b1]; decide)]
  refine wpAny_bind (wpAny_pyIter_zip (s := { s with heap := s.heap.push { cls := .type "list", data := .seq ([] : List Value).toArray } }) gz ?_)
  refine wpAny_bind (wpAny_holding ?_)
  unfold Builtin.List.listLengthHint
  refine wpAny_bind (wpAny_specialOf ty zip_nolen ?_)
  show wpAny _ A.in1 (specialOf (Value.ref z) (Str.ofString "__length_hint__") >>= _) _ _ _
  refine wpAny_bind (wpAny_specialOf ty zip_nohint (wpAny_pure ?_))
  show wpAny _ A.in1 (rule "list.extend.makes-room" >>= fun _ => Builtin.List.listTouch (.ref s.heap.objs.size) >>= fun _ => again (.builtin "list.extend.loop" ⟨[.ref s.heap.objs.size, .ref z, .ref s.heap.objs.size], []⟩)) _ _ _
  refine wpAny_bind (wpAny_rule (wpAny_bind ?_))
  show wpAny _ A.in1 (updateSeq s.heap.objs.size (·.push .none) >>= fun _ => updateSeq s.heap.objs.size (·.pop)) _ _ _
  refine wpAny_bind (wpAny_updateSeq g0 rfl ?_)
  have g1 := Heap.get?_update_self (Obj.mapSeq (·.push Value.none)) g0 rfl
  refine wpAny_updateSeq g1 rfl ?_
  have g2 := Heap.get?_update_self (Obj.mapSeq (·.pop)) g1 rfl
  have ne : ∀ b o, (s.heap.objs.size : Addr) ≠ b → s.heap.get? b = some o → (((s.heap.push { cls := .type "list", data := .seq ([] : List Value).toArray }).update s.heap.objs.size (Obj.mapSeq (·.push Value.none))).update s.heap.objs.size (Obj.mapSeq (·.pop))).get? b = some o :=
    fun b o q e => (Heap.get?_update_other _ _ q).trans ((Heap.get?_update_other _ _ q).trans (kp b o e))
  have sz : (((s.heap.push { cls := .type "list", data := .seq ([] : List Value).toArray }).update s.heap.objs.size (Obj.mapSeq (·.push Value.none))).update s.heap.objs.size (Obj.mapSeq (·.pop))).objs.size = s.heap.objs.size + 1 := by simp [Heap.update, Heap.size_push]
  have lt1 : ∀ a : Addr, (a : Nat) < s.heap.objs.size → (a : Nat) < s.heap.objs.size + 1 := fun a q => Nat.lt_succ_of_lt q
  obtain ⟨o1, o2, o3, o4, o5, o6, o7⟩ := lo
  refine wpAny_pure ⟨plainId_quiet F.plain_extend_loop _, zip_loop (b0 := s.heap.objs.size + 1) hh D hxs hys hn ⟨nS z o1, nS TI o2, nS TO o3, nS i1 o4, nS i2 o5, nS l1 o6, nS l2 o7⟩ ⟨lt1 z o1, lt1 TO o3, lt1 i1 o4, lt1 i2 o5, Nat.lt_succ_self _⟩ n 0 _ [] _ (by omega) rfl ?_ ⟨(fun _ q => nomatch q), List.nodup_nil, fun j T q => by simp at q⟩ (Nat.le_of_eq sz.symm) g2 fun h' tk Ts c' e1 e2 e3 e4 => ?_⟩
  · have zz := ne _ _ (nS z o1) hz
    refine ⟨.inl ⟨zz, ?_⟩, ne _ _ (nS TI o2) st.ti, st.h1.at fun o => ne _ o (nS i1 o4), st.h2.at fun o => ne _ o (nS i2 o5), st.x1.at fun o => ne _ o (nS l1 o6), st.x2.at fun o => ne _ o (nS l2 o7)⟩
    rcases st.zip with ⟨_, a, b, e2⟩ | ⟨T, f, oT, e, _⟩
    · exact ⟨a, b, ne _ _ (nS TO o3) e2⟩
    · exfalso
      have q := congrArg Obj.data (Option.some.inj ((show s.heap.get? z = some _ from e).symm.trans hz))
      simp [rawInt] at q
  · show wpAny _ A (load s.heap.objs.size >>= _) _ _ _
    refine wpAny_bind (wpAny_load e3 (wpAny_pure ?_))
    have m : Made h' s.heap.objs.size xs ys Ts := ⟨fun T hT => Nat.le_of_succ_le (e2.lt T hT), e2.nd, e2.at_⟩
    exact hQ h' tk Ts e1 m fun b o q1 q2 q3 q4 q => e4 b o q1 q2 q3 q4 (fun y => absurd (Heap.lt_size q) (by rw [y]; exact Nat.lt_irrefl _)) (ne b o (fun y => absurd (Heap.lt_size q) (by rw [← y]; exact Nat.lt_irrefl _)) q)
theorem zip_tupnew {Q : Value → Shared → Prop} (hh : A.handled = none) (D : ZipApart z TI TO i1 i2 l1 l2) (hxs : xs.size = n) (hys : ys.size = n) (hn : n ≤ sizeLine) (hz : IsZip s.heap z TI TO .none) (st : ZSt s.heap z TI TO i1 i2 l1 l2 xs ys 0) (lo : (z : Nat) < s.heap.objs.size ∧ (TI : Nat) < s.heap.objs.size ∧ (TO : Nat) < s.heap.objs.size ∧ (i1 : Nat) < s.heap.objs.size ∧ (i2 : Nat) < s.heap.objs.size ∧ (l1 : Nat) < s.heap.objs.size ∧ (l2 : Nat) < s.heap.objs.size)
    (hQ : ∀ h' tk Ts, Ts.length = n → Made h' s.heap.objs.size xs ys Ts → (∀ b o, b ≠ z → b ≠ TO → b ≠ i1 → b ≠ i2 → s.heap.get? b = some o → h'.get? b = some o) → Q (.ref h'.objs.size) { s with heap := h'.push { cls := .type "tuple", data := .seq (Ts.map Value.ref).toArray }, toks := tk }) :
    codeAny (model prog w) A (.call (.builtin "tuple.__new__") ⟨[.type "tuple", .ref z], []⟩) (wants Q E) s := by
  refine codeAny_of_tree ?_
  show wpAny _ A.in1 (do checkBuiltinCall "tuple.__new__" ⟨[.type "tuple", .ref z], []⟩; again (.builtin "tuple.__new__" ⟨[.type "tuple", .ref z], []⟩)) _ _ s
  refine wpAny_bind (wpAny_of_eq (F.newCall_tuple_1 _) (wpAny_pure ⟨plainId_quiet F.plain_tuple_new _, codeAny_builtin F.entry_tuple_new ?_⟩))
  rw [Around.under_plainId F.plain_tuple_new _]
  have hTI : s.TypeIs (.ref z) "zip" := ⟨_, hz, rfl⟩
  have q1 := sub_tuple_self
  have q2 := init_tuple_lookup
  have q3 := madeHere_tuple
  have q4 : A.in1.handled = none := hh
  wp_walk using wpAny_typeOf hTI, zip_collect (A := A.in1) q4 D hxs hys hn hz st lo
  intro h' tk Ts e1 e2 e3
  show wpAny _ _ (Builtin.Tuple.tupleExact (Ts.map Value.ref).toArray >>= fun u => ret u) _ _ _
  unfold Builtin.Tuple.tupleExact
  exact wpAny_bind (wpAny_newObj_type (wpAny_pure (hQ h' tk Ts e1 e2 e3)) (by show (Ts.map Value.ref).toArray.size ≤ sizeLine; rw [List.size_toArray, List.length_map, e1]; exact hn))
theorem zip_calltup {Q : Value → Shared → Prop} (hh : A.handled = none) (D : ZipApart z TI TO i1 i2 l1 l2) (hxs : xs.size = n) (hys : ys.size = n) (hn : n ≤ sizeLine) (hz : IsZip s.heap z TI TO .none) (st : ZSt s.heap z TI TO i1 i2 l1 l2 xs ys 0) (lo : (z : Nat) < s.heap.objs.size ∧ (TI : Nat) < s.heap.objs.size ∧ (TO : Nat) < s.heap.objs.size ∧ (i1 : Nat) < s.heap.objs.size ∧ (i2 : Nat) < s.heap.objs.size ∧ (l1 : Nat) < s.heap.objs.size ∧ (l2 : Nat) < s.heap.objs.size)
    (hQ : ∀ h' tk Ts, Ts.length = n → Made h' s.heap.objs.size xs ys Ts → (∀ b o, b ≠ z → b ≠ TO → b ≠ i1 → b ≠ i2 → s.heap.get? b = some o → h'.get? b = some o) → Q (.ref h'.objs.size) { s with heap := h'.push { cls := .type "tuple", data := .seq (Ts.map Value.ref).toArray }, toks := tk }) :
    wpAny (model prog w) A (call (.type "tuple") [.ref z]) Q E s := by
  refine callType_codes (Q₁ := fun u s1 => s1.TypeIs u "tuple" ∧ Q u s1) F.called_tuple (F.typeCall_tuple_1 _) F.entry_object_init (zip_tupnew (A := A.in1) hh D hxs hys hn hz st lo fun h' tk Ts e1 e2 e3 => ⟨⟨_, Heap.get?_push_size _ rfl, rfl⟩, hQ h' tk Ts e1 e2 e3⟩) fun u s1 q => ?_
  exact ⟨q.1, F.args_object_init_2 u _, object_init_meets F.called_tuple.init.lookup F.called_tuple.made (by decide) prog w A.in1 _ s1 ⟨q.1, rfl, q.2⟩⟩
end
end Zj
namespace Zj
open PySem PySem.Spec PyProof.Rows L2 RT
/-! ### several tuples laid at once -/
def addT (H : Hp) : List (Addr × List V) → Hp
  | [] => H
  | p :: L => upd (addT H L) p.1 (.tup p.2)
theorem addT_out {H : Hp} {b : Addr} : ∀ {L : List (Addr × List V)}, b ∉ L.map (·.1) → addT H L b = H b
  | [], _ => rfl
  | p :: L, h => by
    have h' : b ≠ p.1 ∧ b ∉ L.map (·.1) := by simpa using h
    show upd (addT H L) p.1 (.tup p.2) b = H b
    rw [upd_ne h'.1, addT_out h'.2]
theorem addT_in {H : Hp} {p : Addr × List V} : ∀ {L : List (Addr × List V)}, (L.map (·.1)).Nodup → p ∈ L → addT H L p.1 = some (.tup p.2)
  | q :: L, nd, h => by
    have nd' := List.nodup_cons.mp (show (q.1 :: L.map (·.1)).Nodup from nd)
    show upd (addT H L) q.1 (.tup q.2) p.1 = _
    rcases List.mem_cons.mp h with e | e
    · rw [e, upd_same]
    · rw [upd_ne fun y => nd'.1 (by rw [← y]; exact List.mem_map.mpr ⟨p, e, rfl⟩), addT_in nd'.2 e]
theorem addT_ok {P : Program} {w : World} {H : Hp} {h h' : Heap} (x : HOk P w H h) (k : ∀ b u, h.get? b = some u → h'.get? b = some u) : ∀ {L : List (Addr × List V)}, (L.map (·.1)).Nodup → (∀ p ∈ L, H p.1 = none ∧ p.2.length ≤ sizeLine ∧ ∃ its : List Value, Vals p.2 its ∧ IsTup h' p.1 its.toArray) → HOk P w (addT H L) h'
  | [], _, _ => x.kept k
  | p :: L, nd, hL => by
    have nd' := List.nodup_cons.mp (show (p.1 :: L.map (·.1)).Nodup from nd)
    have ih := addT_ok x k nd'.2 fun q hq => hL q (List.mem_cons.mpr (.inr hq))
    obtain ⟨h1, h2, h3⟩ := hL p (List.mem_cons.mpr (.inl rfl))
    exact HOk.laidN ih (fun _ _ e => e) ((addT_out nd'.1).trans h1) (show ObjOk P w _ _ _ (.tup p.2) from ⟨h2, h3⟩)
theorem inv_addT {X : Cx} {pins : List (Addr × Obj)} {σ : L2.St} {H : Hp} {s : Shared} {h' : Heap} {t' : Nat} {L : List (Addr × List V)} (I : Inv X pins σ H s) (k : ∀ b u, s.heap.get? b = some u → h'.get? b = some u) (nd : (L.map (·.1)).Nodup) (lo : ∀ p ∈ L, s.heap.objs.size ≤ (p.1 : Nat))
    (hL : ∀ p ∈ L, p.2.length ≤ sizeLine ∧ ∃ its : List Value, Vals p.2 its ∧ IsTup h' p.1 its.toArray) : Inv X pins σ (addT H L) { s with heap := h', toks := t' } := by
  have fr : ∀ p ∈ L, H p.1 = none := fun p hp => I.hok.fresh (lo p hp)
  have out : ∀ b u, H b = some u → addT H L b = some u := fun b u e => by
    rw [addT_out, e]
    intro q
    obtain ⟨p, hp, y⟩ := List.mem_map.mp q
    have := fr p hp
    rw [y, e] at this
    cases this
  refine I.un ⟨fun b o e _ _ _ => k b o e, fun b o e _ _ _ => ⟨o.slots, k b o e⟩, fun b o e n _ => ?_, fun b o e _ => ⟨o, k b o e⟩, fun b xs e => out b _ e, fun b o u e => out b _ e, fun b ps e => ⟨#[], by rw [out b _ e]; simp⟩⟩ (addT_ok I.hok k nd fun p hp => ⟨fr p hp, hL p hp⟩)
  rw [addT_out, n]
  intro q
  obtain ⟨p, hp, y⟩ := List.mem_map.mp q
  have := lo p hp
  rw [y] at this
  exact absurd (Heap.lt_size e) (Nat.not_lt.mpr this)
/-- the pairs, with their addresses -/
def zipL : List Addr → List V → List V → List (Addr × List V)
  | T :: Ts, x :: xs, y :: ys => (T, [x, y]) :: zipL Ts xs ys
  | _, _, _ => []
theorem zipL_fst : ∀ {Ts : List Addr} {xs ys : List V}, Ts.length = xs.length → xs.length = ys.length → (zipL Ts xs ys).map (·.1) = Ts
  | [], _, _, _, _ => rfl
  | T :: Ts, [], _, h, _ => by simp at h
  | T :: Ts, x :: xs, [], _, h => by simp at h
  | T :: Ts, x :: xs, y :: ys, h, h2 => by
    show T :: (zipL Ts xs ys).map (·.1) = _
    rw [zipL_fst (by simpa using h) (by simpa using h2)]
theorem zipL_mem : ∀ {Ts : List Addr} {xs ys : List V} {p : Addr × List V}, p ∈ zipL Ts xs ys → ∃ (j : Nat) (x y : V), Ts[j]? = some p.1 ∧ xs[j]? = some x ∧ ys[j]? = some y ∧ p.2 = [x, y]
  | T :: Ts, x :: xs, y :: ys, p, h => by
    rcases List.mem_cons.mp h with e | e
    · exact ⟨0, x, y, by rw [e]; rfl, rfl, rfl, by rw [e]⟩
    · obtain ⟨j, a, b, h1, h2, h3, h4⟩ := zipL_mem e
      exact ⟨j + 1, a, b, h1, h2, h3, h4⟩
  | [], _, _, _, h => by simp [zipL] at h
  | _ :: _, [], _, _, h => by simp [zipL] at h
  | _ :: _, _ :: _, [], _, h => by simp [zipL] at h
/-- the reading: q the new tuple, Ts its pairs -/
def tTupZip (K : PySem.W.Frag) (ta : TA) : TE := fun σ H Q => ta σ H fun vs H1 => ∃ a b xs ys, vs = [.ref a, .ref b] ∧ SqL K H1 a xs ∧ SqL K H1 b ys ∧ xs.length = ys.length ∧
  ∀ H' q Ts, (∀ c o, H1 c = some o → H' c = some o) → H1 q = none → H' q = some (.tup (Ts.map V.ref)) → Ts.length = xs.length → (∀ p ∈ zipL Ts xs ys, H' p.1 = some (.tup p.2)) → Q (.ref q) H'
set_option maxHeartbeats 400000 in
theorem pe_tupZip {X : Cx} {e1 e2 : Expr} {ta : TA} {p p2 pos pos2 : Pos} (hc : X.calm = true) (hg : Gl X "tuple") (hm : X.mg "tuple" = none) (hg2 : Gl X "zip") (hm2 : X.mg "zip" = none) (ha : PA X [e1, e2] ta)
    (hs : starEach [e1, e2] X.env = (false, eval e1 X.env) :: starEach [e2] X.env := by rfl) (hpl : (backTo pos2 (starEach [e2] X.env)).any (·.1) = false := by rfl)
    (hs2 : starEach [.Call (.Name "zip" p2) [e1, e2] [] pos2] X.env = (false, eval (.Call (.Name "zip" p2) [e1, e2] [] pos2) X.env) :: starEach [] X.env := by rfl) :
    PE X (.Call (.Name "tuple" p) [.Call (.Name "zip" p2) [e1, e2] [] pos2] [] pos) (tTupZip X.K ta) := by
  refine ⟨fun pins s σ H Q I h => ?_⟩
  refine Call_ (ld_blt I hg hm boot_tuple (PyProof.Rows.callWith_type1 ?_ hs2 rfl))
  refine args_cons ?_ hs2
  refine Call_ (ld_blt I hg2 hm2 PyProof.Rows.boot_zip (PyProof.Rows.callWith_type1 ?_ hs hpl))
  refine thn (ha.run pos2 pins s σ H _ I h) fun us s1 ⟨vs, H1, I1, r1, q1⟩ => ?_
  obtain ⟨a, b, xs, ys, ex, hqx, hqy, hl, q⟩ := q1
  subst ex
  obtain ⟨u1, u2, rfl, ru1, ru2⟩ : ∃ u1 u2, us = [u1, u2] ∧ u1 = Value.ref a ∧ u2 = Value.ref b := by
    cases r1 with
    | cons r rr =>
      cases rr with
      | cons r' rr =>
        cases rr
        exact ⟨_, _, rfl, r, r'⟩
  subst ru1 ru2
  obtain ⟨its, rv, p1, hz1⟩ := I1.list hqx
  obtain ⟨its2, rv2, p2', hz2⟩ := I1.list hqy
  have la := p1.lt
  have lb := p2'.lt
  refine call_zip_2 p1.isList p2'.isList fun h' hz hTI hTO h1 h2 hsz hk => args_nil ?_
  have lt5 : ∀ i : Nat, i < 5 → s1.heap.objs.size + i < h'.objs.size := fun i hi => by rw [hsz]; omega
  have e1 := rv.length
  have e2 := rv2.length
  refine zip_calltup (s := { s1 with heap := h' }) (n := its.length) (I1.ok.hd hc) (PySem.W.ktu_apart s1.heap.objs.size a b la lb) (by simp) (by simp only [List.size_toArray]; omega) (by omega) hz
    ⟨.inl ⟨hz, _, _, hTO⟩, hTI, h1, h2, p1.isList.at fun o => hk _ o, p2'.isList.at fun o => hk _ o⟩ ⟨lt5 4 (by decide), lt5 2 (by decide), lt5 3 (by decide), lt5 0 (by decide), lt5 1 (by decide), Nat.lt_trans la (lt5 0 (by decide)), Nat.lt_trans lb (lt5 0 (by decide))⟩ fun h2' tk Ts lT mT kT => ?_
  have kk : ∀ c o, s1.heap.get? c = some o → (h2'.push { cls := .type "tuple", data := .seq (Ts.map Value.ref).toArray }).get? c = some o := fun c o e => by
    have hlt : (c : Nat) < s1.heap.objs.size := Heap.lt_size e
    exact Heap.get?_push_of_some _ (kT c o (Nat.ne_of_lt (Nat.lt_of_lt_of_le hlt (Nat.le_add_right _ _))) (Nat.ne_of_lt (Nat.lt_of_lt_of_le hlt (Nat.le_add_right _ _))) (Nat.ne_of_lt hlt) (Nat.ne_of_lt (Nat.lt_of_lt_of_le hlt (Nat.le_add_right _ _))) (hk c o e))
  have big : s1.heap.objs.size ≤ h2'.objs.size := by
    have D := PySem.W.ktu_apart s1.heap.objs.size a b la lb
    have g := kT _ _ D.TIz D.TITO D.TIi1 D.TIi2 hTI
    have := Heap.lt_size g
    exact Nat.le_of_lt (Nat.lt_of_le_of_lt (Nat.le_add_right _ 2) this)
  have lz : Ts.length = xs.length := lT.trans e1.symm
  have fst := zipL_fst (ys := ys) lz hl
  have nd : (((h2'.objs.size, Ts.map V.ref) :: zipL Ts xs ys : List (Addr × List V)).map (·.1)).Nodup := by
    show (h2'.objs.size :: (zipL Ts xs ys).map (·.1)).Nodup
    rw [fst]
    exact List.nodup_cons.mpr ⟨mT.hi, mT.nd⟩
  have vr : ∀ l : List Addr, Vals (l.map V.ref) (l.map Value.ref) := fun l => by
    induction l with
    | nil => exact .nil
    | cons x l ih => exact .cons rfl ih
  have J := inv_addT (t' := tk) (L := (h2'.objs.size, Ts.map V.ref) :: zipL Ts xs ys) I1 kk nd (fun p hp => ?_) (fun p hp => ?_)
  · refine ⟨.ref h2'.objs.size, _, J, rfl, q _ h2'.objs.size Ts (fun c o e => ?_) (I1.hok.fresh big) (addT_in nd (List.mem_cons.mpr (.inl rfl))) lz fun p hp => addT_in nd (List.mem_cons.mpr (.inr hp))⟩
    rw [addT_out, e]
    intro y
    obtain ⟨p, hp, ep⟩ := List.mem_map.mp y
    have hlo : H1 p.1 = none := by
      rcases List.mem_cons.mp hp with z | z
      · rw [z]; exact I1.hok.fresh big
      · obtain ⟨j, x, y', g1, _⟩ := zipL_mem z
        exact I1.hok.fresh (Nat.le_trans (by rw [hsz]; exact Nat.le_add_right _ _) (mT.lt p.1 (List.mem_of_getElem? g1)))
    rw [ep, e] at hlo
    cases hlo
  · rcases List.mem_cons.mp hp with z | z
    · rw [z]; exact big
    · obtain ⟨j, x, y', g1, _⟩ := zipL_mem z
      exact Nat.le_trans (by rw [hsz]; exact Nat.le_add_right _ _) (mT.lt p.1 (List.mem_of_getElem? g1))
  · rcases List.mem_cons.mp hp with z | z
    · rw [z]
      exact ⟨by rw [List.length_map]; omega, _, vr Ts, _, Heap.get?_push_size _ rfl, rfl, 0, rfl⟩
    · obtain ⟨j, x, y', g1, g2, g3, g4⟩ := zipL_mem z
      obtain ⟨x2, y2, m1, m2, m3⟩ := mT.at_ j p.1 g1
      obtain ⟨u, w1, w2⟩ := rv.get g2
      obtain ⟨u', w3, w4⟩ := rv2.get g3
      rw [List.getElem?_toArray, w1] at m1
      rw [List.getElem?_toArray, w3] at m2
      cases m1
      cases m2
      rw [g4]
      exact ⟨by show 2 ≤ sizeLine; decide, [x2, y2], .cons w2 (.cons w4 .nil), _, Heap.get?_push_of_some _ m3, rfl, 0, rfl⟩
end Zj

namespace Zj
open PySem PySem.Spec PyProof.Rows L2
/-! ### every other item of a list -/
def evens {α : Type} : List α → List α
  | [] => []
  | [a] => [a]
  | a :: _ :: l => a :: evens l
theorem evens_pick {α : Type} : ∀ (l : List α) (m : Nat), m = (l.length + 1) / 2 → (List.range m).filterMap (fun k => l[2 * k]?) = evens l
  | [], m, h => by
    obtain rfl : m = 0 := by simpa using h
    rfl
  | [a], m, h => by
    obtain rfl : m = 1 := by simpa using h
    rfl
  | a :: b :: l, m, h => by
    obtain ⟨m', rfl⟩ : ∃ m', m = m' + 1 := ⟨m - 1, by simp only [List.length_cons] at h; omega⟩
    rw [List.range_succ_eq_map, List.filterMap_cons, List.filterMap_map]
    show a :: _ = a :: evens l
    rw [← evens_pick l m' (by simp only [List.length_cons] at h; omega)]
    rfl
theorem sl2 (n s : Nat) (hs : s ≤ n) : sliceRange (s : Int) (n : Int) 2 = (List.range ((n - s + 1) / 2)).map fun k => s + 2 * k := by
  unfold sliceRange
  have h1 : (2 : Int) > 0 := by decide
  simp only [h1, if_true]
  by_cases h : (s : Int) < n
  · have e : ((n : Int) - s + 2 - 1) / 2 = (((n - s + 1) / 2 : Nat) : Int) := by omega
    simp only [h, if_true, e, Int.toNat_natCast]
    apply List.map_congr_left
    intro k hk
    omega
  · have e : n - s = 0 := by omega
    simp only [h, if_false, e]
    rfl
theorem pick0 (its : List Value) : slicePick its.toArray none none (some 2) = (evens its).toArray := by
  unfold slicePick
  have e : sliceBounds none none (some 2) its.toArray.size = (((0 : Nat) : Int), (its.length : Int), (2 : Int)) := by simp [sliceBounds]
  rw [e]
  show ((sliceRange ((0 : Nat) : Int) (its.length : Int) 2).filterMap fun i => its.toArray[i]?).toArray = _
  rw [sl2 _ _ (Nat.zero_le _), List.filterMap_map, ← evens_pick its _ rfl]
  simp [Function.comp_def]
theorem pick1 (its : List Value) : slicePick its.toArray (some 1) none (some 2) = (evens (its.drop 1)).toArray := by
  unfold slicePick
  have e : sliceBounds (some 1) none (some 2) its.toArray.size = (((min 1 its.length : Nat) : Int), (its.length : Int), (2 : Int)) := by
    have e1 : max (0 : Int) (min 1 (its.length : Int)) = ((min 1 its.length : Nat) : Int) := by omega
    rw [← e1]
    simp [sliceBounds]
  rw [e]
  show ((sliceRange ((min 1 its.length : Nat) : Int) (its.length : Int) 2).filterMap fun i => its.toArray[i]?).toArray = _
  rw [sl2 _ _ (Nat.min_le_right _ _), List.filterMap_map]
  cases its with
  | nil => rfl
  | cons a l =>
    rw [← evens_pick (List.drop 1 (a :: l)) _ rfl]
    have e1 : min 1 (a :: l).length = 1 := by simp
    rw [e1]
    congr 1
    have e2 : ((a :: l).length - 1 + 1) / 2 = ((List.drop 1 (a :: l)).length + 1) / 2 := by simp
    rw [e2]
    have e3 : ((fun i => (a :: l).toArray[i]?) ∘ fun k => 1 + 2 * k) = fun k => (List.drop 1 (a :: l))[2 * k]? := by
      funext k
      show (a :: l).toArray[1 + 2 * k]? = (List.drop 1 (a :: l))[2 * k]?
      rw [List.getElem?_toArray, List.getElem?_drop]
    rw [e3]
theorem vals_evens {n : Nat} : ∀ {xs : List V} {its : List Value}, Vals xs its → Vals (evens xs) (evens its)
  | _, _, .nil => .nil
  | _, _, .cons r .nil => .cons r .nil
  | _, _, .cons r (.cons _ t) => .cons r (vals_evens (n := n) t)
theorem evens_len {α : Type} : ∀ l : List α, (evens l).length = (l.length + 1) / 2
  | [] => by simp [evens]
  | [_] => by simp [evens]
  | _ :: _ :: l => by
    show (evens l).length + 1 = _
    rw [evens_len l]
    simp only [List.length_cons]
    omega
/-- x[::2] -/
def tSl2 (K : PySem.W.Frag) (te : TE) : TE := fun σ H Q => te σ H fun x H1 => ∃ a xs, x = .ref a ∧ SqL K H1 a xs ∧ ∀ p, H1 p = none → Q (.ref p) (upd H1 p (.lst (evens xs)))
theorem pe_sl02 {X : Cx} {e : Expr} {te : TE} {k : Nat} {p1 p3 pos : Pos} (he : PE X e te) : PE X (.Subscript e (.Slice none none (some (.Constant (.int 2) k p1)) p3) pos) (tSl2 X.K te) := by
  refine ⟨fun pins s σ H Q I h => ?_⟩
  refine Subscript_ (thn (he.run pins s σ H _ I h) fun v s1 ⟨x, H1, I1, r1, a, xs, ex, hx, q⟩ => ?_)
  subst ex
  cases r1
  have hst : PO X (some (.Constant (.int 2) k p1)) (tPart (tC (.int 2))) := po_some pe_int
  refine wpAny_Slice (thn (po_none.run pins s1 σ H1 (fun o H2 => o = none ∧ H2 = H1) I1 ⟨rfl, rfl⟩) fun vl s2 ⟨l, H2, I2, pl, el, e2⟩ => ?_)
  subst el e2
  refine thn (po_none.run pins s2 σ H2 (fun o H3 => o = none ∧ H3 = H2) I2 ⟨rfl, rfl⟩) fun vu s3 ⟨u, H3, I3, pu, eu, e3⟩ => ?_
  subst eu e3
  refine thn (hst.run pins s3 σ H3 (fun o H4 => o = some 2 ∧ H4 = H3) I3 ⟨2, rfl, rfl, rfl⟩) fun vs s4 ⟨o, H4, I4, ps, eo, e4⟩ => ?_
  subst eo e4
  have J5 : Inv X pins σ H4 { s4 with heap := s4.heap.push { cls := .type "slice", data := .fields #[vl, vu, vs] } } := I4.kept (t' := s4.toks) fun b ob q => Heap.get?_push_of_some _ q
  obtain ⟨its, r, ht, hz⟩ := J5.list hx
  have lenr := r.length
  show wpAny (model X.prog X.w) X.A (subscriptTail e (.Slice none none (some (.Constant (.int 2) k p1)) p3) (.ref a) (.ref s4.heap.objs.size)) (EP X pins σ Q) X.xe { s4 with heap := s4.heap.push { cls := .type "slice", data := .fields #[vl, vu, vs] } }
  refine tail_any (ops := [.ref a, .ref s4.heap.objs.size]) ht.isList.typeIs (PySem.slot_list_getitem.lookup) ?_ (by with_unfolding_all rfl)
  refine wpAny_getItem_list_slice ht.isList (Heap.IsSliceOf.new _ vl vu vs) pl pu ps (by decide) ?_ (by rw [List.size_toArray]; omega)
  rw [pick0]
  exact ⟨.ref _, _, J5.laid (t' := s4.toks) (o := .lst (evens xs)) (fun b ob q => Heap.get?_push_of_some _ q) (Nat.le_refl _) ⟨by rw [evens_len]; omega, _, 0, vals_evens (n := 0) r, Heap.get?_push_size _ rfl⟩, rfl, q _ (J5.hok.fresh (Nat.le_refl _))⟩
/-- x[1::2] -/
def tSl12 (K : PySem.W.Frag) (te : TE) : TE := fun σ H Q => te σ H fun x H1 => ∃ a xs, x = .ref a ∧ SqL K H1 a xs ∧ ∀ p, H1 p = none → Q (.ref p) (upd H1 p (.lst (evens (xs.drop 1))))
theorem pe_sl12 {X : Cx} {e : Expr} {te : TE} {k k0 : Nat} {p0 p1 p3 pos : Pos} (he : PE X e te) : PE X (.Subscript e (.Slice (some (.Constant (.int 1) k0 p0)) none (some (.Constant (.int 2) k p1)) p3) pos) (tSl12 X.K te) := by
  refine ⟨fun pins s σ H Q I h => ?_⟩
  refine Subscript_ (thn (he.run pins s σ H _ I h) fun v s1 ⟨x, H1, I1, r1, a, xs, ex, hx, q⟩ => ?_)
  subst ex
  cases r1
  have hst : PO X (some (.Constant (.int 2) k p1)) (tPart (tC (.int 2))) := po_some pe_int
  have hlo : PO X (some (.Constant (.int 1) k0 p0)) (tPart (tC (.int 1))) := po_some pe_int
  refine wpAny_Slice (thn (hlo.run pins s1 σ H1 (fun o H2 => o = some 1 ∧ H2 = H1) I1 ⟨1, rfl, rfl, rfl⟩) fun vl s2 ⟨l, H2, I2, pl, el, e2⟩ => ?_)
  subst el e2
  refine thn (po_none.run pins s2 σ H2 (fun o H3 => o = none ∧ H3 = H2) I2 ⟨rfl, rfl⟩) fun vu s3 ⟨u, H3, I3, pu, eu, e3⟩ => ?_
  subst eu e3
  refine thn (hst.run pins s3 σ H3 (fun o H4 => o = some 2 ∧ H4 = H3) I3 ⟨2, rfl, rfl, rfl⟩) fun vs s4 ⟨o, H4, I4, ps, eo, e4⟩ => ?_
  subst eo e4
  have J5 : Inv X pins σ H4 { s4 with heap := s4.heap.push { cls := .type "slice", data := .fields #[vl, vu, vs] } } := I4.kept (t' := s4.toks) fun b ob q => Heap.get?_push_of_some _ q
  obtain ⟨its, r, ht, hz⟩ := J5.list hx
  have lenr := r.length
  show wpAny (model X.prog X.w) X.A (subscriptTail e (.Slice (some (.Constant (.int 1) k0 p0)) none (some (.Constant (.int 2) k p1)) p3) (.ref a) (.ref s4.heap.objs.size)) (EP X pins σ Q) X.xe { s4 with heap := s4.heap.push { cls := .type "slice", data := .fields #[vl, vu, vs] } }
  refine tail_any (ops := [.ref a, .ref s4.heap.objs.size]) ht.isList.typeIs (PySem.slot_list_getitem.lookup) ?_ (by with_unfolding_all rfl)
  refine wpAny_getItem_list_slice ht.isList (Heap.IsSliceOf.new _ vl vu vs) pl pu ps (by decide) ?_ (by rw [List.size_toArray]; omega)
  rw [pick1]
  have rd : Vals (xs.drop 1) (its.drop 1) := paired_drop 1 r
  exact ⟨.ref _, _, J5.laid (t' := s4.toks) (o := .lst (evens (xs.drop 1))) (fun b ob q => Heap.get?_push_of_some _ q) (Nat.le_refl _) ⟨by rw [evens_len, List.length_drop]; omega, _, 0, vals_evens (n := 0) rd, Heap.get?_push_size _ rfl⟩, rfl, q _ (J5.hok.fresh (Nat.le_refl _))⟩
end Zj

namespace Zj
open PySem PySem.Spec PyProof.Rows L2 LamX NdefX
/-! ### a lambda with parameters that captures nothing: made, handed on, called -/
def LamO (f : Addr) (F : NF) (b : Expr) : HO := .ext fun h => ∃ pm ctv : Value, h.get? f = some (PySem.W.kla_obj F.name F.qual F.params b F.scope F.cl pm F.c ctv)
theorem lamO_nt {f : Addr} {F : NF} {b : Expr} (q : Array Value) : LamO f F b ≠ .tbl q := fun z => by unfold LamO at z; cases z
theorem lamO_get {P : Program} {w : World} {H : Hp} {h : Heap} {f : Addr} {F : NF} {b : Expr} (k : HOk P w H h) (e : H f = some (LamO f F b)) : ∃ pm ctv : Value, h.get? f = some (PySem.W.kla_obj F.name F.qual F.params b F.scope F.cl pm F.c ctv) := (k f _ e).1
section
variable {X : Cx} {pins : List (Addr × Obj)} {σ : L2.St} {H : Hp} {s : Shared}
theorem inv_lam {F : NF} {b : Expr} {t' : Nat} {pm ctv : Value} (I : Inv X pins σ H s) :
    Inv X pins σ (upd H s.heap.objs.size (LamO s.heap.objs.size F b)) { s with heap := s.heap.push (PySem.W.kla_obj F.name F.qual F.params b F.scope F.cl pm F.c ctv), toks := t' } := by
  have g : (s.heap.push (PySem.W.kla_obj F.name F.qual F.params b F.scope F.cl pm F.c ctv)).get? s.heap.objs.size = some (PySem.W.kla_obj F.name F.qual F.params b F.scope F.cl pm F.c ctv) := Heap.get?_push_size _ rfl
  exact I.laid (a := s.heap.objs.size) (fun d v q => Heap.get?_push_of_some _ q) (Nat.le_refl _) ⟨⟨pm, ctv, g⟩, ⟨_, g⟩, fun h1 h2 ⟨a1, a2, z⟩ st => ⟨a1, a2, st _ z⟩⟩
abbrev lamF (X : Cx) (params : Arguments) (scope : Scope) (c' : Addr) : NF := ⟨"<lambda>", X.env.qual ++ "<lambda>", params, [], scope, cloFrom X.env.cells scope.names [], c'⟩
theorem lam_mk {T : List (Addr × Str)} {c P : Addr} {params : Arguments} {body : Expr} {scope : Scope} {pos : Pos} {E Q : Value → Shared → Prop} (I : Inv X pins σ H s) (TB : TabB X.base X.mg c P) (hcode : X.env.code = .ref c) (hT : Tabs T H)
    (hm : (P, X.env.qual ++ "<lambda>") ∈ T) (hu : ∀ p ∈ T, p.1 = P → p.2 = X.env.qual ++ "<lambda>") (hdef : defaultsOf params X.env = ([], [])) (hfree : ∀ y ∈ scope.names, y.2 = .free → ∃ c, X.env.cells.lookup y.1 = some c)
    (h : ∀ (f c' : Addr) (H1 : Hp) (s' : Shared), Inv X pins σ H1 s' → ExtN H H1 → Tabs T H1 → H f = none → H1 f = some (LamO f (lamF X params scope c') body) → H1 c' = some (CodeO c' (X.env.qual ++ "<lambda>")) → Q (.ref f) s') :
    wpAny (model X.prog X.w) X.A (eval (.Lambda params body scope pos) X.env) Q E s := by
  have tb := hT _ hm
  obtain ⟨ps, e1, e2, e3⟩ := tb
  have hP := I.hok P _ e1
  have bP := TB.bm.keeps I.bk
  refine PySem.W.kla_eval hdef ?_
  rcases hc : codeAmong pos ps.toList with _ | cv
  · refine PySem.W.kla_makeFunction (c := c) (P := P) (mg := X.mg) (ps := ps) (closure_ok hfree) I.ok.glob (I.mod.glob.keeps I.bk) hcode (TB.code.keeps I.bk) hP e2 hc TB.gP bP fun c' ctv h' tk hx hge hlt hrec htb => ?_
    obtain ⟨_, oc, vs, t, q1, q2, q3, q4⟩ := hrec
    cases q1
    have nC := I.hok.fresh hge
    have nPc := ne_of_none e1 nC
    have J := inv_table (t' := tk) (more := #[rawInt pos.line, rawInt pos.col, .ref c']) I e1 (fun d v n q => hx d v n q) htb hge ⟨oc, vs, t, q2, q3, q4⟩
    have nF := J.hok.fresh (Nat.le_refl _)
    have J2 := inv_lam (F := lamF X params scope c') (b := body) (t' := tk) (pm := (X.mg "__name__").getD .none) (ctv := ctv) J
    have x1 : ExtN H (upd (upd H P (.tbl (ps ++ #[rawInt pos.line, rawInt pos.col, .ref c']))) c' (CodeO c' (X.env.qual ++ "<lambda>"))) := fun d v q n => by
      have nd : d ≠ P := fun z => by
        rw [z, e1] at q
        exact n ps (Option.some.inj q).symm
      rw [upd_ne (ne_of_none q nC), upd_ne nd, q]
    have eT : (ps ++ #[rawInt pos.line, rawInt pos.col, Value.ref c']).toList = ps.toList ++ [rawInt pos.line, rawInt pos.col, .ref c'] := by simp
    have T1 : Tabs T (upd (upd H P (.tbl (ps ++ #[rawInt pos.line, rawInt pos.col, .ref c']))) c' (CodeO c' (X.env.qual ++ "<lambda>"))) := by
      intro p hp
      obtain ⟨qs, a1, a2, a3⟩ := hT p hp
      by_cases z : p.1 = P
      · refine ⟨ps ++ #[rawInt pos.line, rawInt pos.col, .ref c'], by rw [z, upd_ne nPc, upd_same], ?_, fun p' cv hcv => ?_⟩
        · rw [eT]
          exact PySem.TriplesOk_snoc _ _ _ _ e2
        · rw [eT] at hcv
          rw [hu p hp z]
          rcases among_app _ e2 hcv with y | y
          · obtain ⟨d, y1, y2⟩ := e3 p' cv y
            exact ⟨d, y1, x1 _ _ y2 codeO_ne⟩
          · exact ⟨c', y, upd_same⟩
      · refine ⟨qs, by rw [upd_ne (ne_of_none a1 nC), upd_ne z, a1], a2, fun p' cv hcv => ?_⟩
        obtain ⟨d, y1, y2⟩ := a3 p' cv hcv
        exact ⟨d, y1, x1 _ _ y2 codeO_ne⟩
    refine h h'.objs.size c' _ _ J2 (fun d v q n => ?_) (T1.ext fun d v q => ?_) (I.hok.fresh (Nat.le_trans hge (Nat.le_of_lt hlt))) upd_same ?_
    · have y := x1 d v q n
      rw [upd_ne (ne_of_none y nF), y]
    · rw [upd_ne (ne_of_none q nF), q]
    · rw [upd_ne (Nat.ne_of_lt hlt), upd_same]
  · obtain ⟨c', rfl, e4⟩ := e3 pos cv hc
    refine PySem.W.kla_makeFunctionHit (c := c) (P := P) (mg := X.mg) (ps := ps) (closure_ok hfree) I.ok.glob (I.mod.glob.keeps I.bk) hcode (TB.code.keeps I.bk) hP e2 hc bP fun ctv h' tk hx _ => ?_
    have J : Inv X pins σ H { s with heap := h', toks := tk } := I.kept hx
    have nF := J.hok.fresh (Nat.le_refl _)
    have J2 := inv_lam (F := lamF X params scope c') (b := body) (t' := tk) (pm := (X.mg "__name__").getD .none) (ctv := ctv) J
    have st : ∀ d v, H d = some v → upd H h'.objs.size (LamO h'.objs.size (lamF X params scope c') body) d = some v := fun d v q => by rw [upd_ne (ne_of_none q nF), q]
    exact h h'.objs.size c' _ _ J2 (fun d v q _ => st d v q) (hT.ext st) nF upd_same (st _ _ e4)
end
/-- what such a lambda promises -/
structure LOk (P : Program) (w : World) (K : PySem.W.Frag) (mg : Str → Option Value) (base : Heap) (k : Nat) (f : Addr) (F : NF) (b : Expr) (ps : List Str) (sp : Sp) : Prop where
  len : ∀ vs H Q E, sp vs H Q E → vs.length = ps.length
  go : ∀ (A : Around) (outer : List Env) (s : Shared) (H : Hp) (us : List Value) (vs : List V) (Q : VK), Room k A → Env0 P w K mg base A outer s H → H f = some (LamO f F b) → H F.c = some (CodeO F.c F.qual) → Vals vs us → sp vs H Q E0 →
    codeAny (model P w) A (.call (.ref f) ⟨us, []⟩) (CR CX0 outer P w H s Q E0) s
theorem lok_of {P : Program} {w : World} {K : PySem.W.Frag} {mg : Str → Option Value} {base : Heap} {N ps : List Str} {F : NF} {b : Expr} {f : Addr} {k : Nat} {sp : Sp} (S : NScope N ps [] F.scope) (hcl : F.cl = [])
    (hb : ∀ (pm ctv : Value) (us : List Value), us.length = ps.length → bindArgs (PySem.W.kla_fn F.name F.qual F.params b F.scope F.cl pm (.ref F.c) ctv) ⟨us, []⟩ = pure (ps.zip us)) (len : ∀ vs H Q E, sp vs H Q E → vs.length = ps.length)
    (body : ∀ (A : Around) (outer : List Env) (s : Shared) (H : Hp) (vs : List V) (Q : VK), Room k (A.deeper (envF F f s.heap.objs.size)) → sp vs H Q E0 → ∃ t, PE (ncx CX0 P w K mg base N F f A outer s H E0) b t ∧ t (startF N vs []) H Q) :
    LOk P w K mg base (k + 1) f F b ps sp := by
  refine ⟨len, fun A outer s H us vs Q hr e0 hf hc r q => ?_⟩
  have hl := len _ _ _ _ q
  have C : CellsAt F.cl [] [] s.heap H := by
    rw [hcl]
    exact ⟨rfl, (fun y c z => by cases z), (fun x y c z => by cases z), fun i y z => by simp at z⟩
  obtain ⟨pm, ctv, ho⟩ := lamO_get e0.hok hf
  refine PySem.W.kla_callFunE hr.depth ho rfl S.co S.gen rfl (codeO_at e0.hok hc) ?_
  rw [hb pm ctv us (r.length.symm.trans hl)]
  refine wpAny_pure (wpAny_newFunctionEnv S.nocell (fun y hy => S.par y.1 (List.of_mem_zip (show (y.1, y.2) ∈ ps.zip us from hy)).1) (fun g hns hsb => ⟨(e0.mod.nolimit.keeps fun d v z => (e0.bs d v z).1).fresh _ hsb, ?_⟩) S.kind)
  show codeAny _ _ (.expr b (envF F f s.heap.objs.size)) _ _
  obtain ⟨t, ht, hq⟩ := body A outer s H vs Q (hr.deeper _) q
  have I : Inv (ncx CX0 P w K mg base N F f A outer s H E0) [] (startF N vs []) H { s with heap := g, toks := s.toks + (ps.zip us).length } :=
    inv_startN S hr.hd e0 hl r C hns fun d v z => hsb.extBut d v (Nat.ne_of_lt (Heap.lt_size z)) (Heap.get?_push_of_some _ z)
  refine PySem.W.kla_codeExpr (wpAny_mono (ht.run [] _ _ H Q I hq) (fun v s' z => ?_) fun e s' z => z)
  obtain ⟨v', H', J, rv, q'⟩ := z
  exact ⟨v', H', J.os, J.bare, J.base, J.hok, rv, q'⟩
/-- f is a function of two bools that answers as g does -/
def Wn (P : Program) (w : World) (K : PySem.W.Frag) (mg : Str → Option Value) (base : Heap) (H : Hp) (f : Addr) (g : Bool → Bool → Bool) : Prop :=
  ∃ (F : NF) (b : Expr) (ps : List Str), H f = some (LamO f F b) ∧ H F.c = some (CodeO F.c F.qual) ∧ LOk P w K mg base 1 f F b ps (fun vs H Q _ => ∃ x y, vs = [.bl x, .bl y] ∧ Q (.bl (g x y)) H)
theorem Wn.ext {P : Program} {w : World} {K : PySem.W.Frag} {mg : Str → Option Value} {base : Heap} {H H' : Hp} {f : Addr} {g : Bool → Bool → Bool} (h : Wn P w K mg base H f g) (e : ExtN H H') : Wn P w K mg base H' f g := by
  obtain ⟨F, b, ps, h1, h2, h3⟩ := h
  exact ⟨F, b, ps, e _ _ h1 lamO_nt, e _ _ h2 codeO_ne, h3⟩
/-- a local name that holds such a function, called -/
def tCallW (P : Program) (w : World) (K : PySem.W.Frag) (mg : Str → Option Value) (base : Heap) (i : Nat) (t : TA) : TE := fun σ H Q => ∃ f g, σ[i]? = some (some (.ref f)) ∧ Wn P w K mg base H f g ∧ t σ H fun vs H1 => Wn P w K mg base H1 f g ∧ ∃ x y, vs = [.bl x, .bl y] ∧ Q (.bl (g x y)) H1
section
variable {X : Cx} {i j : Nat} {x : Str} {t : TA} {e : Expr} {es : List Expr} {p pos : Pos}
theorem Wn.fn {pins : List (Addr × Obj)} {σ : L2.St} {H : Hp} {s : Shared} {P : Program} {w : World} {K : PySem.W.Frag} {mg : Str → Option Value} {base : Heap} {f : Addr} {g : Bool → Bool → Bool} (h : Wn P w K mg base H f g) (I : Inv X pins σ H s) : PySem.W.FnAt f s.heap := by
  obtain ⟨F, b, ps, h1, _⟩ := h
  obtain ⟨pm, ctv, ho⟩ := lamO_get I.hok h1
  exact ⟨_, _, _, _, ho⟩
theorem pe_callW (hr : Room j X.A) (hj : 1 ≤ j) (hN : X.N[i]? = some x) (hv : Vis X.env.scope x) (ha : PA X (e :: es) t) (hd : (x == ("__debug__" : Str)) = false := by decide) (hcd : (x == ("__classdict__" : Str)) = false := by decide)
    (he : starEach (e :: es) X.env = (false, eval e X.env) :: starEach es X.env := by rfl) (hpl : (backTo pos (starEach es X.env)).any (·.1) = false := by rfl) : PE X (.Call (.Name x p) (e :: es) [] pos) (tCallW X.prog X.w X.K X.mg X.base i t) := by
  refine ⟨fun pins s σ H Q I ⟨f, g, hs, hW, ht⟩ => ?_⟩
  have pv' := (pe_var (X := X) (pos := p) hN hv hd hcd).run pins s σ H (fun v H1 => v = .ref f ∧ H1 = H) I ⟨.ref f, hs, rfl, rfl⟩
  refine wpAny_Call_Name_kw (thn pv' fun u s1 ⟨v, H1, I1, r1, ev, eH⟩ => ?_)
  subst ev
  rw [eH] at I1
  obtain rfl : u = Value.ref f := r1
  refine PySem.W.callWith_F (first := []) (hW.fn I1) (thn (ha.run pos pins s1 σ H _ I1 ht) fun us s2 ⟨vs, H2, I2, r, h1, q⟩ => ⟨h1.fn I2, ?_⟩) he hpl
  show wpAny _ _ (call (.ref f) us) _ _ _
  obtain ⟨F, b, ps, w1, w2, w3⟩ := h1
  refine wpAny_call (codeAny_mono (w3.go X.A X.stack s2 H2 us vs Q (hr.mono hj) I2.env0 w1 w2 r q) fun z s' hq => ?_)
  cases z with
  | error e => exact hq.elim
  | ok fl =>
    cases fl with
    | ret u => exact I2.after hq
    | next => exact hq.elim
    | brk => exact hq.elim
    | cont => exact hq.elim
/-- the making -/
def tLamV (T : List (Addr × Str)) (mk : Addr → NF) (b : Expr) : TE := fun σ H Q => Tabs T H ∧ ∀ f c' H1, ExtN H H1 → Tabs T H1 → H f = none → H1 f = some (LamO f (mk c') b) → H1 c' = some (CodeO c' (mk c').qual) → Q (.ref f) H1
theorem pe_lamV {T : List (Addr × Str)} {c P : Addr} {params : Arguments} {b : Expr} {scope : Scope} (TB : TabB X.base X.mg c P) (hcode : X.env.code = .ref c) (hm : (P, X.env.qual ++ "<lambda>") ∈ T) (hu : ∀ p ∈ T, p.1 = P → p.2 = X.env.qual ++ "<lambda>")
    (hdef : defaultsOf params X.env = ([], [])) (hfree : ∀ y ∈ scope.names, y.2 = .free → ∃ c, X.env.cells.lookup y.1 = some c) : PE X (.Lambda params b scope pos) (tLamV T (lamF X params scope) b) :=
  ⟨fun pins s σ H Q I ⟨hT, h⟩ => lam_mk I TB hcode hT hm hu hdef hfree fun f c' H1 s' J e1 e2 e3 e4 e5 => ⟨.ref f, H1, J, rfl, h f c' H1 e1 e2 e3 e4 e5⟩⟩
end
end Zj

namespace Zj
open PySem PySem.Spec PyProof.Rows L2 LamX
/-- the law's call at the heap behind the top, some tables of code objects told -/
theorem endT {P : Program} {w : World} {K : PySem.W.Frag} {mg mb : Str → Option Value} {k : Nat} {fa a : Addr} {cs : List (Addr × Addr)} {fd : FuncData} {x : Str} {sp : Sp} {s1 : Shared} {vs : List Value} {ns : List Int}
    (KX : K.In s1.heap) (hns : s1.heap.Ns mainGlobals mg) (hb : s1.heap.Ns builtinsNs mb) (hbb : ∀ x : Str, x ≠ "__name__" → mb x = bootBuiltins x) (hlim : s1.heap.NoLimit) (hg : s1.gens = #[])
    (tE : ∀ q ∈ cs, s1.heap.get? q.2 = some (PySem.W.tabObj #[])) (tK : ∀ q ∈ cs, K.lookup q.2 = none) (tC : ∀ q ∈ cs, PySem.W.CodeHd s1.heap q.1 q.2)
    (hbm : ∃ (bm : Addr) (ob : Obj), mg "__builtins__" = some (.ref bm) ∧ bm ≠ builtinsNs ∧ s1.heap.get? bm = some ob ∧ ob.cls = .type "module" ∧ ob.dict = some builtinsNs ∧ ob.data = .plain)
    (ha : s1.heap.get? a = some { cls := .type "list", data := .seq vs.toArray }) (hi : IntsAre vs ns) (hl : ns.length ≤ sizeLine) (hr : Room k callerA)
    (F : ∀ base : Heap, K.In base → base.Ns mainGlobals mg → (∀ q ∈ cs, TabB base mg q.1 q.2) → FnG P w K mg base k fa fd [x] sp) (hbind : ∀ (s : Shared) (u : Value), BindsTo s fd ⟨[u], []⟩ [(x, u)])
    (hsp : ∀ H : Hp, (∀ q ∈ cs, H q.2 = some (.tbl #[])) → SqL K H a (ns.map V.int) → sp [.ref a] H (fun v _ => v = .bl true) E0) :
    codeAny (model P w) callerA (.call (.ref fa) ⟨[.ref a], []⟩) (fun r s' => r = .ok (.ret (.bool true)) ∧ OldK s1.heap s'.heap ∧ s'.os = s1.os ∧ AllBare s'.gens) s1 := by
  have rv := vals_ints hi
  have ntb : ∀ q ∈ cs, q.2 ≠ a := fun q hq z => by
    have e := tE q hq
    rw [z, ha] at e
    cases e
  have main : ∀ H : Hp, SqL K H a (ns.map V.int) → HOk P w H s1.heap → (∀ q ∈ cs, H q.2 = some (.tbl #[])) → (∀ b u, H b = some u → (b = a ∧ K.lookup a = none ∧ ∃ o z, u = .frz o (.lst z)) ∨ (u = .tbl #[] ∧ ∃ q ∈ cs, q.2 = b)) →
      codeAny (model P w) callerA (.call (.ref fa) ⟨[.ref a], []⟩) (fun r s' => r = .ok (.ret (.bool true)) ∧ OldK s1.heap s'.heap ∧ s'.os = s1.os ∧ AllBare s'.gens) s1 := by
    intro H hS hok hT hA
    -- what is no list and no empty table, or stands in K, is not tracked
    have free : ∀ {b : Addr} {o : Obj}, s1.heap.get? b = some o → ((∀ z n, o.data ≠ .seq z n) ∧ o.data ≠ .fields #[]) ∨ K.lookup b = some o → H b = none := fun {b o} e q => by
      cases h : H b with
      | none => rfl
      | some u =>
        rcases hA b u h with ⟨rfl, h2, _⟩ | ⟨_, t, ht, rfl⟩
        · rcases q with ⟨q, _⟩ | q
          · rw [ha] at e
            cases e
            exact (q _ _ rfl).elim
          · rw [h2] at q
            cases q
        · rcases q with ⟨_, q⟩ | q
          · rw [tE t ht] at e
            cases e
            exact (q rfl).elim
          · rw [tK t ht] at q
            cases q
    have at_ns : ∀ {b : Addr} {m : Str → Option Value}, s1.heap.Ns b m → (hidT s1.heap H).Ns b m := fun ⟨o, es, ep, e, d, r⟩ => ⟨o, es, ep, hidT_get e (free e (.inl ⟨(fun z n y => by rw [d] at y; cases y), (fun y => by rw [d] at y; cases y)⟩)), d, r⟩
    have KB : K.In (hidT s1.heap H) := fun b o e => hidT_get (KX b o e) (free (KX b o e) (.inr e))
    obtain ⟨mc, c1, c2⟩ := hlim
    have TB : ∀ q ∈ cs, TabB (hidT s1.heap H) mg q.1 q.2 := fun q hq => by
      have e1 := tE q hq
      refine ⟨?_, ?_, fun z => ?_⟩
      · obtain ⟨o, us, d1, d2, d3, d4, d5, d6, d7, g, y1, y2, y3, y⟩ := tC q hq
        exact ⟨o, us, d1, d2, d3, d4, d5, d6, d7, hidT_get g (free g (.inl ⟨(fun z n i => by rw [y2] at i; cases i), (fun i => by rw [y2] at i; cases i; simp at y3)⟩)), y1, y2, y3, y⟩
      · obtain ⟨bm, ob, b1, b2, b3, b4, b5, b6⟩ := hbm
        refine ⟨bm, ob, b1, b2, fun i => ?_, fun i => ?_, hidT_get b3 (free b3 (.inl ⟨(fun z n i => by rw [b6] at i; cases i), (fun i => by rw [b6] at i; cases i)⟩)), b4, b5, b6⟩
        · obtain ⟨o, es, ep, e, d, _⟩ := hns
          rw [i, e] at b3
          cases b3
          rw [d] at b6
          cases b6
        · rw [i, e1] at b3
          cases b3
          cases b6
      · obtain ⟨o, es, ep, e, d, _⟩ := hns
        rw [z, e1] at e
        cases e
        cases d
    have env : Env0 P w K mg (hidT s1.heap H) callerA [] s1 H := ⟨rfl, ⟨KB, at_ns hns, ⟨mb, at_ns hb, hbb⟩, ⟨mc, at_ns c1, c2⟩⟩, fun b o e => of_hidT e, Nat.le_of_eq (hidT_size _ _), trivial, (fun b q => nomatch q), hok, .of_eq hg⟩
    refine codeAny_mono ((F _ KB (at_ns hns) TB).go callerA [] s1 H ⟨[.ref a], []⟩ [.ref a] [.ref a] _ rfl hr env (hbind s1 (.ref a)) (.cons rfl .nil) (hsp H hT hS)) fun r s' h => ?_
    cases r with
    | error e => exact h.elim
    | ok fl =>
      cases fl with
      | next => exact h.elim
      | brk => exact h.elim
      | cont => exact h.elim
      | ret u =>
        obtain ⟨v, H', os, bare, un, hok', r', q⟩ := h
        obtain rfl : v = .bl true := q
        obtain rfl : u = Value.bool true := r'
        have each : ∀ b o, s1.heap.get? b = some o → s'.heap.get? b = some o ∨ ∃ t ∈ cs, t.2 = b := fun b o e => by
          cases q : H b with
          | none => exact .inl (un.keep b o e q (fun z => nomatch z) (fun z => nomatch z))
          | some u =>
            rcases hA b u q with ⟨_, _, o2, z2, rfl⟩ | ⟨_, t, ht, z⟩
            · have t1 := (hok b _ q).1
              have t2 := (hok' b _ (un.frzs b o2 _ q)).1
              rw [t1] at e
              cases e
              exact .inl t2
            · exact .inr ⟨t, ht, z⟩
        have grown : ∀ t ∈ cs, ∃ more : Array Value, s'.heap.get? t.2 = some (PySem.W.tabObj (#[] ++ more)) := fun t ht => by
          obtain ⟨more, z⟩ := un.tbls t.2 #[] (hT t ht)
          exact ⟨more, hok' t.2 _ z⟩
        refine ⟨rfl, ⟨fun b o e => ?_, fun b o e => ?_⟩, os, bare⟩
        · rcases each b o e with z | ⟨t, ht, rfl⟩
          · exact .inl z
          · obtain ⟨more, z⟩ := grown t ht
            have e1 := tE t ht
            rw [e1] at e
            cases e
            exact .inr (.inl ⟨((tC t ht).tab e1).isCodeTable, rfl, #[], more, rfl, z⟩)
        · rcases each b o e with z | ⟨t, ht, rfl⟩
          · exact ⟨o, z⟩
          · obtain ⟨more, z⟩ := grown t ht
            exact ⟨_, z⟩
  have tb : ∀ b : Addr, Decidable (∃ q ∈ cs, q.2 = b) := fun b => inferInstance
  cases hk : K.lookup a with
  | some o =>
    have e := KX a o hk
    rw [ha] at e
    cases e
    have one : ∀ (b : Addr) (u : HO), (if ∃ q ∈ cs, q.2 = b then some (HO.tbl #[]) else none) = some u → u = .tbl #[] ∧ ∃ q ∈ cs, q.2 = b := fun b u z => by
      split at z
      · rename_i y
        exact ⟨(Option.some.inj z).symm, y⟩
      · cases z
    refine main (fun b => if ∃ q ∈ cs, q.2 = b then some (.tbl #[]) else none) (.inr ⟨_, vs.toArray, _, hk, rfl, rfl, rfl, by rw [List.size_toArray, hi.length]; exact hl, rv⟩) (fun b u z => ?_) (fun q hq => if_pos ⟨q, hq, rfl⟩) fun b u z => .inr (one b u z)
    obtain ⟨rfl, q, hq, rfl⟩ := one b u z
    exact tE q hq
  | none =>
    have one : ∀ (b : Addr) (u : HO), (if b = a then some (HO.frz { cls := .type "list", data := .seq vs.toArray } (.lst (ns.map V.int))) else if ∃ q ∈ cs, q.2 = b then some (HO.tbl #[]) else none) = some u →
        (b = a ∧ u = HO.frz { cls := .type "list", data := .seq vs.toArray } (.lst (ns.map V.int))) ∨ (u = .tbl #[] ∧ ∃ q ∈ cs, q.2 = b) := fun b u z => by
      split at z
      · rename_i e
        exact .inl ⟨e, (Option.some.inj z).symm⟩
      · split at z
        · rename_i y
          exact .inr ⟨(Option.some.inj z).symm, y⟩
        · cases z
    refine main (fun b => if b = a then some (.frz { cls := .type "list", data := .seq vs.toArray } (.lst (ns.map V.int))) else if ∃ q ∈ cs, q.2 = b then some (.tbl #[]) else none) (.inl (.inr ⟨_, if_pos rfl⟩)) (fun b u z => ?_) (fun q hq => ?_) fun b u z => ?_
    · rcases one b u z with ⟨rfl, rfl⟩ | ⟨rfl, q, hq, rfl⟩
      · exact ⟨ha, by rw [List.length_map]; exact hl, vs, _, rv, ha⟩
      · exact tE q hq
    · show (if q.2 = a then _ else if ∃ p ∈ cs, p.2 = q.2 then some (HO.tbl #[]) else none) = _
      rw [if_neg (ntb q hq), if_pos ⟨q, hq, rfl⟩]
    · rcases one b u z with ⟨rfl, rfl⟩ | y
      · exact .inl ⟨rfl, hk, _, _, rfl⟩
      · exact .inr y
theorem walkT {l : PySem.W.OpenLaw} {n k : Nat} {q : Program} {loose : List Str} {XP : (Str → Option Value) → Heap → Prop} {YP : World → Heap → Prop} {d : DefRec} {K : Params → PySem.W.Frag} {cs : List (Addr × Addr)} {sp : PySem.W.Frag → Sp} {x : Str}
    (hn : l.most = some n) (hn2 : n ≤ sizeLine) (hdf : d.params.defaults = []) (hr : Room k callerA) (hY : ∀ (w : World) (h : Heap), YP w h → (K w.params).In h)
    (hT : ∀ (w : World) (h : Heap), YP w h → ∀ p ∈ cs, h.get? p.2 = some (PySem.W.tabObj #[])) (hK : ∀ w : World, ∀ p ∈ cs, (K w.params).lookup p.2 = none ∧ PySem.W.codeHdIn (K w.params) p.1 p.2 = true)
    (F : ∀ (w : World) (mg : Str → Option Value) (fa : Addr) (h : Heap), (K w.params).In h → h.Ns mainGlobals mg → mg d.name = some (.ref fa) →
      ∃ fd : FuncData, (∀ (s : Shared) (u : Value), BindsTo s fd ⟨[u], []⟩ [(x, u)]) ∧ ∀ base : Heap, (K w.params).In base → base.Ns mainGlobals mg → (∀ p ∈ cs, TabB base mg p.1 p.2) → FnG l.prog w (K w.params) mg base k fa fd [x] (sp (K w.params)))
    (hsp : ∀ (K : PySem.W.Frag) (H : Hp) (a : Addr) (ns : List Int), ns.length ≤ n → (∀ p ∈ cs, H p.2 = some (.tbl #[])) → SqL K H a (ns.map V.int) → sp K [.ref a] H (fun v _ => v = .bl true) E0) :
    PySem.W.WalkO q loose XP YP l.row.toRowW d [] (fun f vs => PySem.call f vs) := by
  refine Att.attach_call hn hdf fun w s0 s1 mg mb fa o pm cd doc a vs ns G Y ho hd hcd hmg hobj hints hlen hg => ?_
  have KX := hY w _ Y
  obtain ⟨fd, hb, hF⟩ := F w mg fa _ KX G.T.g hmg
  exact endT KX G.T.g G.T.b G.T.builtins G.T.nolimit hg (hT w _ Y) (fun p hp => (hK w p hp).1) (fun p hp => PySem.W.codeHd_of_K KX (hK w p hp).2) G.T.bmain hobj hints (Nat.le_trans hlen hn2) hr hF hb fun H hH hS => hsp _ H a ns hlen hH hS
end Zj

namespace Zj
open PySem PySem.Spec PyProof.Rows L2
/-- the statements within one -/
def inner : Stmt → List Stmt
  | .For _ _ b _ _ => b
  | .If _ b _ _ => b
  | _ => []
/-! ### min of a list of versions -/
theorem dl_ints : ∀ {x y : List Int}, x.length = y.length → PyProof.Rows.lexLt itemOrd (PySem.W.keyToksAll (x.map PyData.int)) (PySem.W.keyToksAll (y.map PyData.int)) = HT.lexLt x y
  | [], [], _ => lex_irrefl _
  | a :: x, b :: y, h => by
    rw [List.map_cons, List.map_cons, PySem.W.dataLt_cons (by simp [PySem.W.alike]), dl_ints (by simpa using h), PySem.W.dataLt_int]
    simp only [HT.lexLt]
    have e : PyData.eqv (.int a) (.int b) = decide (a = b) := rfl
    rw [e]
    by_cases q : a = b
    · rw [decide_eq_true q, if_pos rfl, if_pos q]
    · rw [decide_eq_false q, if_neg (by decide), if_neg q]
abbrev TD (x : Vr) : PyData := .tuple (x.map PyData.int)
theorem dl_td {x y : Vr} (h : x.length = y.length) : PySem.W.dataLt (TD x) (TD y) = HT.lexLt x y := by
  rw [PySem.W.dataLt_tuple, dl_ints h]
def minV (x : Vr) (xs : List Vr) : Vr := xs.foldl (fun a y => if HT.lexLt y a then y else a) x
theorem minV_all : ∀ {xs : List Vr} {x : Vr} {n : Nat}, x.length = n → (∀ y ∈ xs, y.length = n) → PySem.W.minD (TD x) (xs.map TD) = TD (minV x xs) ∧ (minV x xs = x ∨ minV x xs ∈ xs) ∧ HT.lexLt x (minV x xs) = false ∧ ∀ y ∈ xs, HT.lexLt y (minV x xs) = false
  | [], x, n, _, _ => ⟨rfl, .inl rfl, lx_irr x, fun _ h => nomatch h⟩
  | y :: ys, x, n, hx, hy => by
    have hy0 := hy y (List.mem_cons.mpr (.inl rfl))
    have e1 : PySem.W.minD (TD x) ((y :: ys).map TD) = PySem.W.minD (TD (if HT.lexLt y x then y else x)) (ys.map TD) := by
      show PySem.W.minD (if PySem.W.dataLt (TD y) (TD x) then TD y else TD x) (ys.map TD) = _
      rw [dl_td (hy0.trans hx.symm)]
      cases HT.lexLt y x <;> rfl
    have e2 : minV x (y :: ys) = minV (if HT.lexLt y x then y else x) ys := rfl
    have hl : (if HT.lexLt y x then y else x).length = n := by
      split
      · exact hy0
      · exact hx
    obtain ⟨a1, a2, a3, a4⟩ := minV_all (xs := ys) (x := if HT.lexLt y x then y else x) hl fun z hz => hy z (List.mem_cons.mpr (.inr hz))
    rw [e1, e2]
    refine ⟨a1, ?_, ?_, fun z hz => ?_⟩
    · rcases a2 with q | q
      · rw [q]
        cases HT.lexLt y x with
        | true => exact .inr (List.mem_cons.mpr (.inl rfl))
        | false => exact .inl rfl
      · exact .inr (List.mem_cons.mpr (.inr q))
    · cases q : HT.lexLt y x with
      | false =>
        rw [q] at a3
        exact a3
      | true =>
        rw [q, if_pos rfl] at a3
        rw [if_pos rfl]
        cases q2 : HT.lexLt x (minV y ys) with
        | false => rfl
        | true => rw [lx_trans q q2] at a3; cases a3
    · rcases List.mem_cons.mp hz with q | q
      · subst q
        cases q : HT.lexLt z x with
        | true =>
          rw [q] at a3
          exact a3
        | false =>
          rw [q, if_neg (by decide)] at a3
          rw [if_neg (by decide)]
          cases q2 : HT.lexLt z (minV x ys) with
          | false => rfl
          | true =>
            rcases lx_tot z x with t | t | t
            · rw [t] at q; cases q
            · rw [t, a3] at q2; cases q2
            · rw [lx_trans t q2] at a3; cases a3
      · exact a4 z q
def rMinV (K : PySem.W.Frag) : List V → Hp → VK → Prop := fun vs H Q => ∃ (a : Addr) (us : List V) (xs : List Vr), vs = [V.ref a] ∧ SqL K H a us ∧ Paired (IV K H) us xs ∧ xs ≠ [] ∧ (∀ x ∈ xs, x.length = 5) ∧ ∀ v x, IV K H v x → x ∈ xs → (∀ y ∈ xs, HT.lexLt y x = false) → Q v H
theorem alike_ints : ∀ x y : List Int, PySem.W.alikeAll (x.map PyData.int) (y.map PyData.int) = true
  | [], y => by cases y <;> simp [PySem.W.alikeAll]
  | a :: x, [] => by simp [PySem.W.alikeAll]
  | a :: x, b :: y => by
    rw [List.map_cons, List.map_cons, PySem.W.alikeAll, alike_ints x y]
    simp [PySem.W.alike]
theorem dep_td : ∀ xs : List Vr, PyData.depthAll (xs.map TD) ≤ 2
  | [] => by simp [PyData.depthAll]
  | x :: xs => by
    have h1 := dep_td xs
    have h2 := dep_ints x
    simp only [List.map_cons, PyData.depthAll, PyData.depth]
    omega
theorem ivs_dp {K : PySem.W.Frag} {H : Hp} : ∀ {us : List V} {xs : List Vr}, Paired (IV K H) us xs → DpAll K H us (xs.map TD)
  | _, _, .nil => .nil
  | _, _, .cons h t => .cons h.dp (ivs_dp t)
theorem td_inj {x y : Vr} (h : TD x = TD y) : x = y := by
  have h : x.map PyData.int = y.map PyData.int := by injection h
  exact List.map_inj_right (fun a b e => by injection e) |>.mp h
theorem call_minV {X : Cx} (hc : X.calm = true) (hu : X.A.units + 64 < cLine) : CallR X (.builtin "min") (rMinV X.K) := by
  intro pins s σ H vs uvs Q I r h
  obtain ⟨a, us, xs, rfl, hs, hp, hne, h5, q⟩ := h
  obtain ⟨its, rv, hl, _⟩ := I.list hs
  rw [Vals.ref1 r]
  cases xs with
  | nil => exact absurd rfl hne
  | cons x xs =>
    obtain ⟨as, rd⟩ := Dp.readsAll I ((x :: xs).map TD) us its (ivs_dp hp) rv
    obtain ⟨m1, m2, m3, m4⟩ := minV_all (h5 x (List.mem_cons.mpr (.inl rfl))) fun y hy => h5 y (List.mem_cons.mpr (.inr hy))
    refine PySem.W.min_list_data (I.ok.hd hc) hl.isList rd ⟨fun d hd e he => ?_, fun d hd => ?_⟩ ?_ fun i v h' tk bs hi hr hk => ?_
    · obtain ⟨y, _, rfl⟩ := List.mem_map.mp (show d ∈ (x :: xs).map TD from hd)
      obtain ⟨z, _, rfl⟩ := List.mem_map.mp (show e ∈ (x :: xs).map TD from he)
      rw [PySem.W.alike]
      exact alike_ints y z
    · obtain ⟨y, _, rfl⟩ := List.mem_map.mp (show d ∈ (x :: xs).map TD from hd)
      exact fun e => nomatch e
    · have := dep_td (x :: xs)
      have e : PyData.depthAll (TD x :: xs.map TD) = PyData.depthAll ((x :: xs).map TD) := rfl
      rw [e]
      omega
    · have hi' : its[i]? = some v := by
        rw [← hi]
        exact (List.getElem?_toArray ..).symm
      obtain ⟨z, hz, rz⟩ := paired_get2 rv hi'
      obtain ⟨y, hy, iy⟩ := paired_get hp hz
      obtain ⟨cs, rc⟩ := Dp.reads I (TD y) z v iy.dp rz
      have e := PySem.SeqAt.Reads.unique _ _ _ _ _ (show PyData.canLay0 (TD y) = true from lay_ints y) (PySem.W.reads_keeps hk rc) hr
      rw [m1] at e
      have e := td_inj e
      have hm : minV x xs ∈ x :: xs := m2.elim (fun q => by rw [q]; exact List.mem_cons.mpr (.inl rfl)) fun q => List.mem_cons.mpr (.inr q)
      exact ⟨z, H, I.kept hk, rz, q z y iy (by rw [e]; exact hm) fun w hw => by
        rw [e]
        rcases List.mem_cons.mp hw with t | t
        · rw [t]; exact m3
        · exact m4 w t⟩
/-! ### where a range's least version lies -/
theorem max_le : ∀ {l : List Vr}, l ≠ [] → ∃ m ∈ l, ∀ c ∈ l, le c m = true
  | [], h => absurd rfl h
  | [a], _ => ⟨a, by simp, fun c hc => by rw [List.mem_singleton.mp hc]; exact le_rfl a⟩
  | a :: b :: l, _ => by
    obtain ⟨m, hm, hl⟩ := max_le (l := b :: l) (by simp)
    cases q : le a m with
    | true => exact ⟨m, List.mem_cons.mpr (.inr hm), fun c hc => (List.mem_cons.mp hc).elim (fun e => by rw [e]; exact q) (hl c)⟩
    | false =>
      have h1 := le_of_lt (le_f.mp q)
      exact ⟨a, List.mem_cons.mpr (.inl rfl), fun c hc => (List.mem_cons.mp hc).elim (fun e => by rw [e]; exact le_rfl a) fun e => le_trans (hl c e) h1⟩
theorem first_in {B : Int} {p : Pr} {t : Rg} (h : RgOK B (p :: t)) : inB (p :: t) p.1 = true := by
  show (inP p p.1 || inB t p.1) = true
  have e : inP p p.1 = true := by
    show (!HT.lexLt p.1 p.1 && _) = true
    rw [lx_irr]
    cases q : p.2 with
    | none => rfl
    | some y =>
      have := h.asc
      have e : flat (p :: t) = p.1 :: (p.2.toList ++ flat t) := rfl
      rw [e, q] at this
      exact (List.pairwise_cons.mp this).1 y (List.mem_cons.mpr (.inl rfl))
  rw [e]
  rfl
theorem first_least {B : Int} {p : Pr} {t : Rg} (h : RgOK B (p :: t)) {x : Vr} (hx : inB (p :: t) x = true) : HT.lexLt x p.1 = false := by
  cases q : HT.lexLt x p.1 with
  | false => rfl
  | true =>
    rw [h.par x] at hx
    have e : flat (p :: t) = p.1 :: (p.2.toList ++ flat t) := rfl
    have asc := h.asc
    rw [e] at asc hx
    rw [par_above fun b hb => le_f.mpr (by
      rcases List.mem_cons.mp hb with z | z
      · rw [z]; exact q
      · exact lx_trans q ((List.pairwise_cons.mp asc).1 b z))] at hx
    cases hx
/-- the least version of what g makes of two ranges is a border of one of them -/
theorem first_border {B C : Int} {r s t : Rg} {p : Pr} (g : Bool → Bool → Bool) (g0 : g false false = false) (hr : RgOK B r) (hs : RgOK B s) (ht : RgOK C (p :: t)) (i : ∀ x, inB (p :: t) x = g (inB r x) (inB s x)) : p.1 ∈ flat r ++ flat s := by
  have f1 := first_in ht
  have ne : (flat r ++ flat s).filter (fun c => le c p.1) ≠ [] := fun q => by
    have z : ∀ c ∈ flat r ++ flat s, le c p.1 = false := fun c hc => by
      cases e : le c p.1 with
      | false => rfl
      | true =>
        have := (List.mem_filter (p := fun c => le c p.1)).mpr ⟨hc, e⟩
        rw [q] at this
        cases this
    rw [i, hr.par, hs.par, par_above fun c hc => z c (List.mem_append.mpr (.inl hc)), par_above fun c hc => z c (List.mem_append.mpr (.inr hc)), g0] at f1
    cases f1
  obtain ⟨m, hm, hl⟩ := max_le ne
  obtain ⟨hmC, hml⟩ := List.mem_filter.mp hm
  have same : ∀ c ∈ flat r ++ flat s, le c m = le c p.1 := fun c hc => by
    cases e : le c p.1 with
    | true => exact hl c ((List.mem_filter (p := fun c => le c p.1)).mpr ⟨hc, e⟩)
    | false =>
      cases e2 : le c m with
      | false => rfl
      | true => rw [le_trans e2 hml] at e; cases e
  have im : inB (p :: t) m = true := by
    rw [i, hr.par, hs.par, par_congr fun c hc => same c (List.mem_append.mpr (.inl hc)), par_congr fun c hc => same c (List.mem_append.mpr (.inr hc)), ← hr.par, ← hs.par, ← i]
    exact f1
  have h1 := first_least ht im
  rcases lx_tot m p.1 with q | q | q
  · rw [q] at h1; cases h1
  · rw [← q]; exact hmC
  · rw [le_t.mp hml] at q; cases q
theorem vv_paired {K : PySem.W.Frag} {H : Hp} {B : Int} : ∀ {us : List V}, (∀ v ∈ us, VV K B H v) → ∃ xs, Paired (IV K H) us xs ∧ ∀ x ∈ xs, Ver B x
  | [], _ => ⟨[], .nil, fun _ h => nomatch h⟩
  | v :: us, h => by
    obtain ⟨x, h1, h2⟩ := h v (List.mem_cons.mpr (.inl rfl))
    obtain ⟨xs, h3, h4⟩ := vv_paired (us := us) fun u hu => h u (List.mem_cons.mpr (.inr hu))
    exact ⟨x :: xs, .cons h1 h3, fun y hy => (List.mem_cons.mp hy).elim (fun e => by rw [e]; exact h2) (h4 y)⟩
theorem vv_paired_at {K : PySem.W.Frag} {H : Hp} {B : Int} {x0 : Vr} (h0 : Ver B x0) : ∀ {us : List V}, (∀ v ∈ us, VV K B H v) → ∃ xs, Paired (IV K H) us xs ∧ (∀ x ∈ xs, Ver B x) ∧ ((∃ v ∈ us, IV K H v x0) → x0 ∈ xs)
  | [], _ => ⟨[], .nil, (fun _ h => nomatch h), fun ⟨_, h, _⟩ => nomatch h⟩
  | v :: us, h => by
    obtain ⟨xs, h3, h4, h5⟩ := vv_paired_at h0 (us := us) fun u hu => h u (List.mem_cons.mpr (.inr hu))
    by_cases q : IV K H v x0
    · exact ⟨x0 :: xs, .cons q h3, fun y hy => (List.mem_cons.mp hy).elim (fun e => by rw [e]; exact h0) (h4 y), fun _ => List.mem_cons.mpr (.inl rfl)⟩
    · obtain ⟨x, h1, h2⟩ := h v (List.mem_cons.mpr (.inl rfl))
      exact ⟨x :: xs, .cons h1 h3, fun y hy => (List.mem_cons.mp hy).elim (fun e => by rw [e]; exact h2) (h4 y), fun ⟨u, hu, hi⟩ => List.mem_cons.mpr (.inr (h5 ⟨u, (List.mem_cons.mp hu).elim (fun e => absurd (by rw [← e]; exact hi) q) id, hi⟩))⟩
end Zj

namespace Zj
open PySem L2
/-! ### how many borders two differences have -/
def insV (b : Vr) : List Vr → List Vr
  | [] => [b]
  | c :: l => if HT.lexLt b c = true then b :: c :: l else if b = c then c :: l else c :: insV b l
theorem insV_mem {b x : Vr} : ∀ {l : List Vr}, x ∈ insV b l ↔ x = b ∨ x ∈ l
  | [] => by simp [insV]
  | c :: l => by
    unfold insV
    by_cases h : HT.lexLt b c = true
    · rw [if_pos h, List.mem_cons]
    · rw [if_neg h]
      by_cases e : b = c
      · rw [if_pos e, e]
        simp
      · rw [if_neg e, List.mem_cons, insV_mem (l := l), List.mem_cons]
        constructor
        · rintro (h | h | h)
          · exact .inr (.inl h)
          · exact .inl h
          · exact .inr (.inr h)
        · rintro (h | h | h)
          · exact .inr (.inl h)
          · exact .inl h
          · exact .inr (.inr h)
theorem insV_asc {b : Vr} : ∀ {l : List Vr}, l.Pairwise lt → (insV b l).Pairwise lt
  | [], _ => List.pairwise_singleton _ _
  | c :: l, h => by
    obtain ⟨h1, h2⟩ := List.pairwise_cons.mp h
    unfold insV
    by_cases q : HT.lexLt b c = true
    · rw [if_pos q]
      refine List.pairwise_cons.mpr ⟨fun x hx => ?_, h⟩
      rcases List.mem_cons.mp hx with e | e
      · rw [e]; exact q
      · exact lx_trans q (h1 x e)
    · rw [if_neg q]
      by_cases e : b = c
      · rw [if_pos e]; exact h
      · rw [if_neg e]
        refine List.pairwise_cons.mpr ⟨fun x hx => ?_, insV_asc h2⟩
        rcases insV_mem.mp hx with z | z
        · rw [z]
          rcases lx_tot b c with t | t | t
          · exact absurd t q
          · exact absurd t e
          · exact t
        · exact h1 x z
def sortV (l : List Vr) : List Vr := l.foldr insV []
theorem sortV_asc : ∀ l : List Vr, (sortV l).Pairwise lt
  | [] => .nil
  | _ :: l => insV_asc (sortV_asc l)
theorem sortV_mem {x : Vr} : ∀ {l : List Vr}, x ∈ sortV l ↔ x ∈ l
  | [] => Iff.rfl
  | b :: l => by
    show x ∈ insV b (sortV l) ↔ _
    rw [insV_mem, sortV_mem (l := l), List.mem_cons]
theorem turns_cons (g : Vr → Bool) (i : Bool) (b : Vr) (l : List Vr) : (turns g i (b :: l)).length = (if (g b != i) = true then 1 else 0) + (turns g (g b) l).length := by
  show (if (g b != i) = true then b :: turns g (!i) l else turns g i l).length = _
  cases e : g b <;> cases i <;> simp [Nat.add_comm]
theorem sum_turns (f g : Vr → Bool) : ∀ (l : List Vr) (i j : Bool), (turns (fun b => f b && !g b) (i && !j) l).length + (turns (fun b => g b && !f b) (j && !i) l).length ≤ (turns f i l).length + (turns g j l).length
  | [], _, _ => Nat.le_refl _
  | b :: l, i, j => by
    rw [turns_cons, turns_cons, turns_cons, turns_cons]
    have ih := sum_turns f g l (f b) (g b)
    have h : (if ((f b && !g b) != (i && !j)) = true then 1 else 0) + (if ((g b && !f b) != (j && !i)) = true then 1 else 0) ≤ (if (f b != i) = true then 1 else 0) + (if (g b != j) = true then (1 : Nat) else 0) := by
      cases f b <;> cases g b <;> cases i <;> cases j <;> decide
    omega
theorem flat_op {B C : Int} {r s t : Rg} (w : Bool → Bool → Bool) (w0 : w false false = false) (hr : RgOK B r) (hs : RgOK B s) (ht : RgOK C t) (i : ∀ x, inB t x = w (inB r x) (inB s x)) : flat t = turns (fun b => w (inB r b) (inB s b)) false (sortV (flat r ++ flat s)) := by
  obtain ⟨o1, o2⟩ := op_ok w w0 hr hs (sortV_asc (flat r ++ flat s)) (fun b hb => (List.mem_append.mp (sortV_mem.mp hb)).elim (flat_ver hr b) (flat_ver hs b)) fun c hc => sortV_mem.mpr hc
  rw [rg_ext ht o1 fun x => by rw [i, o2], prs_flat]
/-- what is in one alone of two: no more borders than both -/
theorem diff_len {B C D : Int} {r s t u : Rg} (hr : RgOK B r) (hs : RgOK B s) (ht : RgOK C t) (hu : RgOK D u) (i : ∀ x, inB t x = (inB r x && !inB s x)) (j : ∀ x, inB u x = (inB s x && !inB r x)) : (flat t).length + (flat u).length ≤ (flat r).length + (flat s).length := by
  have e1 := flat_op (fun a b => a && !b) rfl hr hs ht i
  have e2 := flat_op (fun a b => b && !a) rfl hr hs hu (fun x => j x)
  have e3 := flat_op (fun a _ => a) rfl hr hs hr (fun x => rfl)
  have e4 := flat_op (fun _ b => b) rfl hr hs hs (fun x => rfl)
  rw [congrArg List.length e1, congrArg List.length e2, congrArg List.length e3, congrArg List.length e4]
  exact sum_turns (inB r) (inB s) (sortV (flat r ++ flat s)) false false
theorem eqv_hd : ∀ o o' : Option Vr, PyData.eqv (HD o) (HD o') = decide (o = o')
  | none, none => rfl
  | none, some y => rfl
  | some x, none => rfl
  | some x, some y => by
    show PyData.eqv (.tuple (x.map PyData.int)) (.tuple (y.map PyData.int)) = _
    rw [eqv_ints]
    by_cases e : x = y
    · rw [decide_eq_true e, decide_eq_true (by rw [e])]
    · rw [decide_eq_false e, decide_eq_false (fun q => e (Option.some.inj q))]
theorem eqv_pd (p q : Pr) : PyData.eqv (PD p) (PD q) = decide (p = q) := by
  show (PyData.eqv (.tuple (p.1.map PyData.int)) (.tuple (q.1.map PyData.int)) && (PyData.eqv (HD p.2) (HD q.2) && true)) = _
  rw [eqv_ints, eqv_hd, Bool.and_true]
  by_cases e1 : p.1 = q.1
  · by_cases e2 : p.2 = q.2
    · rw [decide_eq_true e1, decide_eq_true e2, decide_eq_true (Prod.ext e1 e2)]; rfl
    · rw [decide_eq_false e2, Bool.and_false, decide_eq_false (fun z => e2 (by rw [z]))]
  · rw [decide_eq_false e1, Bool.false_and, decide_eq_false (fun z => e1 (by rw [z]))]
theorem eqv_rds : ∀ r s : Rg, PyData.eqvAll (r.map PD) (s.map PD) = decide (r = s)
  | [], [] => rfl
  | [], _ :: _ => rfl
  | _ :: _, [] => rfl
  | p :: r, q :: s => by
    show (PyData.eqv (PD p) (PD q) && PyData.eqvAll (r.map PD) (s.map PD)) = _
    rw [eqv_pd, eqv_rds r s]
    by_cases e1 : p = q
    · by_cases e2 : r = s
      · rw [decide_eq_true e1, decide_eq_true e2, decide_eq_true (by rw [e1, e2])]; rfl
      · rw [decide_eq_false e2, Bool.and_false, decide_eq_false (fun z => e2 (List.cons.inj z).2)]
    · rw [decide_eq_false e1, Bool.false_and, decide_eq_false (fun z => e1 (List.cons.inj z).1)]
theorem eqv_rd (r s : Rg) : PyData.eqv (RD r) (RD s) = decide (r = s) := eqv_rds r s
end Zj

namespace Zj
open PySem PySem.Spec PyProof.Rows L2
theorem u65 {k : Nat} {A : Around} (r : Room k A) : A.units + 65 < cLine := by have := r.un; omega
theorem op_notInDK {X : Cx} (K : PySem.W.Frag) (hu : X.A.units + 65 < cLine) (e : X.K = K := by rfl) : OpR X (compareOp .NotIn) (rNotInD K) := by
  subst e
  exact op_notInD hu
theorem sl_listK {X : Cx} (K : PySem.W.Frag) (e : X.K = K := by rfl) : SlR X (rSlL K) := by
  subst e
  exact sl_list
/-! ### stretches between borders -/
theorem marks_fn : ∀ {xs : List Vr} {ms : List Bool}, xs.Nodup → xs.length = ms.length → ∃ g : Vr → Bool, xs.map g = ms
  | [], [], _, _ => ⟨fun _ => false, rfl⟩
  | [], _ :: _, _, h => by simp at h
  | _ :: _, [], _, h => by simp at h
  | x :: xs, m :: ms, hn, h => by
    obtain ⟨h1, h2⟩ := List.nodup_cons.mp hn
    obtain ⟨g, hg⟩ := marks_fn h2 (by simpa using h)
    refine ⟨fun b => if b = x then m else g b, ?_⟩
    rw [List.map_cons, if_pos rfl, ← hg]
    congr 1
    refine List.map_congr_left fun b hb => ?_
    rw [if_neg fun e => h1 (by rw [← e]; exact hb)]
theorem lastB_no (g : Vr → Bool) (x : Vr) (i : Bool) {l : List Vr} (h : ∀ c, l[0]? = some c → le c x = false) : lastB g x i l = i := by
  cases l with
  | nil => rfl
  | cons b l =>
    show (if le b x = true then _ else i) = i
    rw [h b rfl]
    rfl
theorem lastB_idx (g : Vr → Bool) (x : Vr) : ∀ (i : Bool) {l : List Vr} {j : Nat} {b : Vr}, l.Pairwise lt → l[j]? = some b → le b x = true → (∀ c, l[j + 1]? = some c → le c x = false) → lastB g x i l = g b
  | _, [], _, _, _, h, _, _ => by simp at h
  | i, a :: l, 0, b, _, h, h1, h2 => by
    obtain rfl : a = b := Option.some.inj h
    show (if le a x = true then lastB g x (g a) l else i) = g a
    rw [if_pos h1]
    exact lastB_no g x (g a) fun c hc => h2 c hc
  | i, a :: l, j + 1, b, hl, h, h1, h2 => by
    obtain ⟨q1, q2⟩ := List.pairwise_cons.mp hl
    have hb : l[j]? = some b := h
    show (if le a x = true then lastB g x (g a) l else i) = g b
    rw [if_pos (le_back (q1 b (List.mem_of_getElem? hb)) h1)]
    exact lastB_idx g x (g a) q2 hb h1 h2
theorem lastB_true (g : Vr → Bool) (x : Vr) : ∀ (i : Bool) {l : List Vr}, l.Pairwise lt → lastB g x i l = true → (i = true ∧ ∀ c, l[0]? = some c → le c x = false) ∨ ∃ j b, l[j]? = some b ∧ le b x = true ∧ (∀ c, l[j + 1]? = some c → le c x = false) ∧ g b = true
  | i, [], _, h => .inl ⟨h, fun c hc => by simp at hc⟩
  | i, a :: l, hl, h => by
    obtain ⟨q1, q2⟩ := List.pairwise_cons.mp hl
    have h : (if le a x = true then lastB g x (g a) l else i) = true := h
    cases e : le a x with
    | false =>
      rw [e] at h
      exact .inl ⟨h, fun c hc => by obtain rfl : a = c := Option.some.inj hc; exact e⟩
    | true =>
      rw [e, if_pos rfl] at h
      rcases lastB_true g x (g a) q2 h with ⟨z1, z2⟩ | ⟨j, b, z1, z2, z3, z4⟩
      · exact .inr ⟨0, a, rfl, e, fun c hc => z2 c hc, z1⟩
      · exact .inr ⟨j + 1, b, z1, z2, fun c hc => z3 c hc, z4⟩
theorem seg_find {x : Vr} {l : List Vr} : ∀ (n : Nat) {i k : Nat} {b : Vr}, k - i = n → i ≤ k → k < l.length → l[i]? = some b → le b x = true → (∀ c, l[k + 1]? = some c → le c x = false) → ∃ j c, i ≤ j ∧ j ≤ k ∧ l[j]? = some c ∧ le c x = true ∧ ∀ e, l[j + 1]? = some e → le e x = false
  | 0, i, k, b, hn, hik, _, hb, hle, hk => by
    obtain rfl : i = k := by omega
    exact ⟨i, b, Nat.le_refl _, Nat.le_refl _, hb, hle, hk⟩
  | n + 1, i, k, b, hn, hik, hkl, hb, hle, hk => by
    have h1 : i + 1 < l.length := by omega
    cases e : le l[i + 1] x with
    | false => exact ⟨i, b, Nat.le_refl _, hik, hb, hle, fun c hc => by
        rw [List.getElem?_eq_getElem h1] at hc
        rw [← Option.some.inj hc]
        exact e⟩
    | true =>
      obtain ⟨j, c, z1, z2, z⟩ := seg_find n (i := i + 1) (k := k) (by omega) (by omega) hkl (List.getElem?_eq_getElem h1) e hk
      exact ⟨j, c, by omega, z2, z⟩
theorem seg_in {b : Vr} {o : Option Vr} {x : Vr} : inB [(b, o)] x = true ↔ le b x = true ∧ ∀ c, o = some c → le c x = false := by
  show ((le b x && _) || false) = true ↔ _
  rw [Bool.or_false, Bool.and_eq_true]
  cases o with
  | none => exact ⟨fun h => ⟨h.1, fun c hc => by cases hc⟩, fun h => ⟨h.1, rfl⟩⟩
  | some c => exact ⟨fun h => ⟨h.1, fun d hd => by rw [← Option.some.inj hd]; exact le_f.mpr h.2⟩, fun h => ⟨h.1, le_f.mp (h.2 c rfl)⟩⟩
/-- a stretch of marked ones lies in what is marked -/
theorem seg_sound {g : Vr → Bool} {l : List Vr} (hl : l.Pairwise lt) {i k : Nat} {b : Vr} (hik : i ≤ k) (hkl : k < l.length) (hb : l[i]? = some b) (hm : ∀ t c, i ≤ t → t ≤ k → l[t]? = some c → g c = true) {x : Vr} (h : inB [(b, l[k + 1]?)] x = true) : lastB g x false l = true := by
  obtain ⟨h1, h2⟩ := seg_in.mp h
  obtain ⟨j, c, z1, z2, z3, z4, z5⟩ := seg_find _ rfl hik hkl hb h1 h2
  rw [lastB_idx g x false hl z3 z4 z5]
  exact hm j c z1 z2 z3
theorem seg_cover {g : Vr → Bool} {l : List Vr} (hl : l.Pairwise lt) {x : Vr} (h : lastB g x false l = true) : ∃ j b, l[j]? = some b ∧ g b = true ∧ inB [(b, l[j + 1]?)] x = true := by
  rcases lastB_true g x false hl h with ⟨z, _⟩ | ⟨j, b, z1, z2, z3, z4⟩
  · cases z
  · exact ⟨j, b, z1, z4, seg_in.mpr ⟨z2, z3⟩⟩
theorem seg_ok {B : Int} {l : List Vr} (hl : l.Pairwise lt) (hv : ∀ x ∈ l, Ver B x) {i k : Nat} {b : Vr} (hik : i ≤ k) (hb : l[i]? = some b) : RgOK B [(b, l[k + 1]?)] := by
  cases e : l[k + 1]? with
  | none => exact prs_ok (l := [b]) (List.pairwise_singleton _ _) (fun x hx => by rw [List.mem_singleton.mp hx]; exact hv b (List.mem_of_getElem? hb))
  | some c =>
    have hlt : lt b c := by
      obtain ⟨h1, e1⟩ := List.getElem?_eq_some_iff.mp hb
      obtain ⟨h2, e2⟩ := List.getElem?_eq_some_iff.mp e
      have := List.pairwise_iff_getElem.mp hl i (k + 1) h1 h2 (by omega)
      rw [e1, e2] at this
      exact this
    refine prs_ok (l := [b, c]) (List.pairwise_cons.mpr ⟨fun y hy => by rw [List.mem_singleton.mp hy]; exact hlt, List.pairwise_singleton _ _⟩) (fun x hx => ?_)
    simp only [List.mem_cons, List.not_mem_nil, or_false] at hx
    rcases hx with rfl | rfl
    · exact hv _ (List.mem_of_getElem? hb)
    · exact hv _ (List.mem_of_getElem? e)
theorem seg_len (b : Vr) (o : Option Vr) : (flat [(b, o)]).length ≤ 2 := by
  cases o <;> simp [flat]
theorem made_in {g : Vr → Bool} {l : List Vr} (hl : l.Pairwise lt) (x : Vr) : inB (prs (turns g false l)) x = lastB g x false l := by
  rw [prs_par (hl.sublist (turns_sub g false l)), turns_par g x false hl]
  cases lastB g x false l <;> rfl
theorem made_ok {B : Int} {g : Vr → Bool} {l : List Vr} (hl : l.Pairwise lt) (hv : ∀ x ∈ l, Ver B x) : RgOK B (prs (turns g false l)) :=
  prs_ok (hl.sublist (turns_sub g false l)) fun x hx => hv x ((turns_sub g false l).subset hx)
theorem lastB_neg {g : Vr → Bool} {l : List Vr} (hl : l.Pairwise lt) {a : Vr} (ha : l[0]? = some a) (x : Vr) : lastB (fun b => !g b) x false l = (le a x && !lastB g x false l) := by
  cases e : le a x with
  | false =>
    rw [lastB_no _ x false (fun c hc => by rw [ha] at hc; rw [← Option.some.inj hc]; exact e)]
    rfl
  | true =>
    have h0 : 0 < l.length := (List.getElem?_eq_some_iff.mp ha).1
    obtain ⟨j, c, _, _, z3, z4, z5⟩ := seg_find (x := x) (l := l) _ rfl (Nat.zero_le (l.length - 1)) (by omega) ha e (fun c hc => by
      have := (List.getElem?_eq_some_iff.mp hc).1
      omega)
    rw [lastB_idx _ x false hl z3 z4 z5, lastB_idx g x false hl z3 z4 z5]
    rfl
theorem lastB_first {g : Vr → Bool} {l : List Vr} (hl : l.Pairwise lt) {a : Vr} (ha : l[0]? = some a) {x : Vr} (h : lastB g x false l = true) : le a x = true := by
  cases e : le a x with
  | true => rfl
  | false =>
    rw [lastB_no g x false (fun c hc => by rw [ha] at hc; rw [← Option.some.inj hc]; exact e)] at h
    cases h
theorem cutV_mid (us : List V) {a b : Nat} (h1 : a ≤ b) (h2 : b ≤ us.length) : cutV us (some (a : Int)) (some (b : Int)) = (us.drop a).take (b - a) := by
  unfold cutV
  rw [HT.sIx_nat, HT.sIx_nat, Nat.min_eq_left (Nat.le_trans h1 h2), Nat.min_eq_left h2]
/-- the first of borders with the first version -/
theorem first_zero {B : Int} {l : List Vr} (hl : l.Pairwise lt) (hv : ∀ x ∈ l, Ver B x) (h0 : [0, 0, 0, 0, 0] ∈ l) : l[0]? = some [0, 0, 0, 0, 0] := by
  cases l with
  | nil => cases h0
  | cons a l =>
    rcases List.mem_cons.mp h0 with e | e
    · rw [e]; rfl
    · exfalso
      have h := (List.pairwise_cons.mp hl).1 _ e
      obtain ⟨a0, b, c, k, n, rfl, q⟩ := hv a (List.mem_cons.mpr (.inl rfl))
      have := (lx5 _ _ _ _ _ _ _ _ _ _).mp h
      omega
end Zj
namespace Zj
open PySem L2
def top (i : Nat) : Stmt := PySem.Challenge.pw_versionjudge_k05_whole_one_form_of_range.main.body.getD i (.Pass ⟨0, 0, 0, 0⟩)
structure Blt (K : PySem.W.Frag) (mg : Str → Option Value) : Prop where
  isinstance : mg "isinstance" = none
  tuple : mg "tuple" = none
  bool : mg "bool" = none
  all : mg "all" = none
  any : mg "any" = none
  list : mg "list" = none
  repr : mg "repr" = none
  enumerate : mg "enumerate" = none
  int : mg "int" = none
  max : mg "max" = none
  len : mg "len" = none
  range : mg "range" = none
  set : mg "set" = none
  sorted : mg "sorted" = none
  zip : mg "zip" = none
  g_WHOLE : ∃ t, mg "WHOLE" = some (.int 3 t)
  g_FIRST : ∃ f, mg "FIRST" = some (.ref f) ∧ ∀ H : Hp, SqT K H f (([0, 0, 0, 0, 0] : List Int).map V.int)

abbrev sLDraw : Stmt := top 26
abbrev nLDraw : List Str := ["_law_deck_here", "_law_below", "_law_figure", "_law_cell"]
abbrev pLDraw : List Str := ["_law_deck_here", "_law_below"]
theorem scLDraw : FnScope nLDraw pLDraw (defScope sLDraw) := ⟨rfl, rfl, rfl, by decide +kernel, rfl, by decide +kernel, by decide +kernel⟩
def spLDraw : Sp := fun vs H Q _ => ∃ (d l : Addr) (m : Int), vs = [.ref d, .int m] ∧ Deck d l H ∧ 0 < m ∧ m < 1073741824 ∧ ∀ (H' : Hp) (r : Int), Kp d l H H' → Deck d l H' → 0 ≤ r → r < m → Q (.int r) H'
section
variable {P : Program} {w : World} {K : PySem.W.Frag} {mg : Str → Option Value} {base : Heap}
theorem ok_LDraw {f : Addr} {fd : FuncData} (Z : Blt K mg) (D : DefAt K mg "_law_draw" sLDraw pLDraw f fd) : FnOk P w K mg base CX0 1 f fd pLDraw spLDraw := by
  refine D.F.ok scLDraw (fun vs H Q E h => ?_) (fun cdv A outer s0 H vs Q E hr h => ?_)
  · obtain ⟨d, l, m, rfl, _⟩ := h
    rfl
  have hu := hu_of hr
  obtain ⟨d, l, m, rfl, Dk, hm0, hm1, k⟩ := h
  refine ⟨_, (pss_cons (ps_dput hu (pv 0) pe_str (pe_op op_add (pe_dget hu (pv 0) pe_str (fun _ _ => rfl)) pe_int) rfl)
    (pss_cons (ps_set (i := 2) scLDraw.nd rfl (Or.inl rfl) (pe_op op_add (pe_dget hu (pv 0) pe_str (fun _ _ => rfl)) (pe_op op_mul pe_int (pe_dget hu (pv 0) pe_str (fun _ _ => rfl)))))
    (Evl.pss_cut (ps_if (pt_cmpR (op_neD hr.units) (pe_dget hu (pv 0) pe_str (fun _ _ => rfl)) (pe_lst pa_nil) (nomark _))
    (pss_cons (ps_set (i := 3) scLDraw.nd rfl (Or.inl rfl) (pe_bm0 PySem.F.plainAttrs_list PySem.F.slot_list_pop PySem.F.type_list_pop mt_pop (pe_dget hu (pv 0) pe_str (fun _ _ => rfl))))
      (pss_cons (ps_if (pt_cmpR op_ge (pv 3) (pe_op op_pow pe_int pe_int) (nomark _))
      (pss_cons (ps_expr (pe_bm PySem.F.plainAttrs_list PySem.F.slot_list_append PySem.F.type_list_append mt_append (pe_dget hu (pv 0) pe_str (fun _ _ => rfl)) (pa_cons (pe_op op_fdivN (pv 3) (pe_callB (call_max2 rfl) (by rfl) Z.max (by decide +kernel) (pa_cons pe_int (pa_cons (pv 1) pa_nil)))) pa_nil)))
        (pss_one (ps_ret (pe_op op_mod (pe_callTy call_int1 (by rfl) Z.int (by decide +kernel) (pa_cons (pv 3) pa_nil)) (pv 1)))))
      pss_nil)
      (pss_cons (ps_dput hu (pv 0) pe_str (pe_op op_mod (pe_callTy call_int1 (by rfl) Z.int (by decide +kernel) (pa_cons (pe_op op_add (pe_op op_add (pe_op op_mul (pe_dget hu (pv 0) pe_str (fun _ _ => rfl)) pe_int) (pe_op op_mod (pe_callTy call_int1 (by rfl) Z.int (by decide +kernel) (pa_cons (pv 3) pa_nil)) pe_int)) pe_int) pa_nil)) pe_int) rfl)
      (pss_one (ps_set (i := 2) scLDraw.nd rfl (Or.inl rfl) (pe_op op_add (pv 2) (pe_op op_mod (pe_callTy call_int1 (by rfl) Z.int (by decide +kernel) (pa_cons (pv 3) pa_nil)) pe_int)))))))
    pss_nil)
    (pss_cons (ps_set (i := 2) scLDraw.nd rfl (Or.inl rfl) (pe_op op_mod (pe_callTy call_int1 (by rfl) Z.int (by decide +kernel) (pa_cons (pe_op op_add (pe_op op_mul (pv 2) pe_int) pe_int) pa_nil)) pe_int))
    (pss_cons (ps_set (i := 2) scLDraw.nd rfl (Or.inl rfl) (pe_op op_mod (pe_callTy call_int1 (by rfl) Z.int (by decide +kernel) (pa_cons (pe_op op_add (pe_op op_add (pe_op op_mul (pv 2) (pv 2)) (pe_op op_mul pe_int (pe_dget hu (pv 0) pe_str (fun _ _ => rfl)))) pe_int) pa_nil)) pe_int))
    (pss_cons (ps_set (i := 2) scLDraw.nd rfl (Or.inl rfl) (pe_op op_mod (pe_callTy call_int1 (by rfl) Z.int (by decide +kernel) (pa_cons (pe_op op_add (pe_op op_mul (pv 2) pe_int) pe_int) pa_nil)) pe_int))
    (pss_one (ps_ret (pe_op op_mod (pe_callTy call_int1 (by rfl) Z.int (by decide +kernel) (pa_cons (pe_op op_fdiv (pv 2) pe_int) pa_nil)) (pv 1)))))))))), ?_⟩
  obtain ⟨ns, mx, t, h1, h2, hl, a0, a1⟩ := Dk
  have ndl : d ≠ l := ne_of h1 h2 (fun q => nomatch q)
  refine ⟨_, rfl, d, _, rfl, get_turn h1, _, _, rfl, rfl, _, rfl, d, _, rfl, set_turn _ h1, ?_⟩
  have h1' := (upd_same (H := H) (a := d) (o := .dK (dkv l mx (t + 1))))
  have h2' : upd H d (.dK (dkv l mx (t + 1))) l = some (.lst (ns.map V.int)) := by rw [upd_ne ndl.symm]; exact h2
  have k1 : Kp d l H (upd H d (.dK (dkv l mx (t + 1)))) := fun b o n1 _ e => by rw [upd_ne n1]; exact e
  generalize upd H d (.dK (dkv l mx (t + 1))) = H1 at *
  refine ⟨_, rfl, d, _, rfl, get_mixed h1', _, rfl, d, _, rfl, get_turn h1', _, _, rfl, rfl, .inl (by decide), _, _, rfl, rfl, ?_⟩
  refine ⟨fun σ' H' => ∃ (fig : Int) (v3 : Option V), σ' = [some (.ref d), some (.int m), some (.int fig), v3] ∧ Deck d l H' ∧ Kp d l H H', ?_, ?_⟩
  · refine ⟨_, rfl, d, _, rfl, get_left h1', Nat.zero_le _, fun p hp => ?_⟩
    have h3 : upd H1 p (.lst []) d = some (.dK (dkv l mx (t + 1))) := by rw [upd_ne (ne_of_none h1' hp)]; exact h1'
    have h4 : upd H1 p (.lst []) l = some (.lst (ns.map V.int)) := by rw [upd_ne (ne_of_none h2' hp)]; exact h2'
    have h5 : upd H1 p (.lst []) p = some (.lst []) := upd_same
    have k2 : Kp d l H (upd H1 p (.lst [])) := k1.trans (Kp.new hp)
    generalize upd H1 p (.lst []) = H2 at *
    refine ⟨_, _, .lst (SqL.of h4) (DpAll.ints ns), .lst (SqL.of h5) .nil, sh_ints ns, by decide, _, rfl, ?_⟩
    cases ns with
    | nil =>
      refine iteF ?_
      exact ⟨_, none, rfl, ⟨[], mx, t + 1, h3, h4, hl, a0, a1⟩, k2⟩
    | cons n0 nr =>
      refine iteT ?_
      generalize hz : (n0 :: nr : List Int) = zs at *
      have hzl : zs ≠ [] := by rw [← hz]; exact List.cons_ne_nil _ _
      obtain ⟨z, hzz⟩ : ∃ z, zs = zs.dropLast ++ [z] := ⟨zs.getLast hzl, (List.dropLast_concat_getLast hzl).symm⟩
      have hget : (zs.map V.int)[(zs.map V.int).length - 1]? = some (V.int z) := by
        rw [hzz]; simp
      have hdl : (zs.map V.int).dropLast = zs.dropLast.map V.int := by simp
      refine ⟨_, rfl, d, _, rfl, get_left h3, .inl ⟨rfl, _, SqL.of h4⟩, l, _, _, rfl, rfl, h4, hget, ?_⟩
      rw [hdl]
      have h6 : upd H2 l (.lst (zs.dropLast.map V.int)) d = some (.dK (dkv l mx (t + 1))) := by rw [upd_ne ndl]; exact h3
      have h7 : upd H2 l (.lst (zs.dropLast.map V.int)) l = some (.lst (zs.dropLast.map V.int)) := upd_same
      have k3 : Kp d l H (upd H2 l (.lst (zs.dropLast.map V.int))) := fun b o n1 n2 e => by rw [upd_ne n2]; exact k2 b o n1 n2 e
      have hl2 : zs.dropLast.length + 1 ≤ 63 := by
        have := congrArg List.length hzz
        rw [List.length_append, List.length_singleton] at this
        omega
      generalize upd H2 l (.lst (zs.dropLast.map V.int)) = H3 at *
      generalize zs.dropLast = ws at *
      refine ⟨_, rfl, _, _, rfl, rfl, ⟨by decide, by decide, by decide⟩, _, _, rfl, rfl, _, rfl, ?_⟩
      refine ite2 (fun _ => ?_) (fun _ => ?_)
      · refine ⟨_, rfl, d, _, rfl, get_left h6, .inl ⟨rfl, _, SqL.of h7⟩, _, rfl, _, rfl, _, _, rfl, _, _, rfl, rfl, ⟨?_, ?_⟩, l, _, _, rfl, rfl, h7, ?_, ?_⟩
        · split <;> omega
        · split <;> omega
        · rw [List.length_map]; exact small1000 (by omega)
        · have h8 : upd H3 l (.lst (ws.map V.int ++ [V.int (z.fdiv (if m > 2 then m else 2))])) d = some (.dK (dkv l mx (t + 1))) := by rw [upd_ne ndl]; exact h6
          refine ⟨_, rfl, .inl ⟨_, rfl, _, rfl, _, _, rfl, rfl, hm0, ?_⟩⟩
          refine k _ _ ?_ ?_ (Int.emod_nonneg _ (by omega)) (Int.emod_lt_of_pos _ hm0)
          · intro b o n1 n2 e
            rw [upd_ne n2]
            exact k3 b o n1 n2 e
          · refine ⟨ws ++ [z.fdiv (if m > 2 then m else 2)], mx, t + 1, h8, ?_, ?_, a0, a1⟩
            · rw [upd_same, List.map_append]; rfl
            · rw [List.length_append, List.length_singleton]; exact hl2
      · refine ⟨_, rfl, d, _, rfl, get_mixed h6, _, _, rfl, rfl, .inr (by decide), _, rfl, .inl ⟨_, rfl, _, _, rfl, rfl, (by show (0 : Int) < 2147483587; decide), _, _, rfl, rfl, _, _, rfl, rfl, .inl ⟨_, rfl, _, _, rfl, rfl, (by show (0 : Int) < 2147483647; decide), _, rfl, d, _, rfl, set_mixed _ h6, ?_⟩⟩⟩
        have hm2 : (mx * 16807 + z % 2147483587 + 3) % 2147483647 < 2147483647 := Int.emod_lt_of_pos _ (by decide)
        have hm3 : 0 ≤ (mx * 16807 + z % 2147483587 + 3) % 2147483647 := Int.emod_nonneg _ (by decide)
        generalize (mx * 16807 + z % 2147483587 + 3) % 2147483647 = mx2 at *
        refine ⟨_, rfl, _, rfl, .inl ⟨_, rfl, _, _, rfl, rfl, (by show (0 : Int) < 2147483563; decide), _, _, rfl, rfl, ?_⟩⟩
        refine ⟨_, _, rfl, ⟨ws, mx2, t + 1, upd_same, by rw [upd_ne ndl.symm]; exact h7, by omega, hm3, hm2⟩, fun b o n1 n2 e => ?_⟩
        rw [upd_ne n1]
        exact k3 b o n1 n2 e
  · rintro σ' H' ⟨fig, v3, rfl, ⟨ns', mx', t', g1, g2, g3, g4, g5⟩, k4⟩
    refine ⟨_, rfl, _, _, rfl, rfl, .inr (by decide), _, _, rfl, rfl, .inl ⟨_, rfl, _, _, rfl, rfl, (by show (0 : Int) < 2147483629; decide), ?_⟩⟩
    have b1 : (fig * 40014 + 19) % 2147483629 < 2147483629 := Int.emod_lt_of_pos _ (by decide)
    have b2 : 0 ≤ (fig * 40014 + 19) % 2147483629 := Int.emod_nonneg _ (by decide)
    generalize (fig * 40014 + 19) % 2147483629 = f1 at *
    refine ⟨_, rfl, _, rfl, _, _, rfl, rfl, .inl ⟨by omega, by omega⟩, _, rfl, d, _, rfl, get_turn g1, _, _, rfl, rfl, .inl (by decide), _, _, rfl, rfl, _, _, rfl, rfl, .inl ⟨_, rfl, _, _, rfl, rfl, (by show (0 : Int) < 2147483587; decide), ?_⟩⟩
    generalize (f1 * f1 + 77773 * t' + 5) % 2147483587 = f2 at *
    refine ⟨_, rfl, _, _, rfl, rfl, .inr (by decide), _, _, rfl, rfl, .inl ⟨_, rfl, _, _, rfl, rfl, (by show (0 : Int) < 2147483563; decide), ?_⟩⟩
    generalize (f2 * 40692 + 3) % 2147483563 = f3 at *
    refine ⟨_, rfl, _, _, rfl, rfl, ⟨by decide, by decide⟩, .inl ⟨_, rfl, _, rfl, _, _, rfl, rfl, hm0, ?_⟩⟩
    exact k _ _ k4 ⟨ns', mx', t', g1, g2, g3, g4, g5⟩ (Int.emod_nonneg _ (by omega)) (Int.emod_lt_of_pos _ hm0)
end
abbrev sLPick : Stmt := top 27
abbrev nLPick : List Str := ["_law_deck_here", "_law_some"]
abbrev pLPick : List Str := ["_law_deck_here", "_law_some"]
theorem scLPick : FnScope nLPick pLPick (defScope sLPick) := ⟨rfl, rfl, rfl, by decide +kernel, rfl, by decide +kernel, by decide +kernel⟩
abbrev sLNumber : Stmt := top 29
abbrev nLNumber : List Str := ["_law_deck_here"]
abbrev pLNumber : List Str := ["_law_deck_here"]
theorem scLNumber : FnScope nLNumber pLNumber (defScope sLNumber) := ⟨rfl, rfl, rfl, by decide +kernel, rfl, by decide +kernel, by decide +kernel⟩
abbrev sLVersion : Stmt := top 30
abbrev nLVersion : List Str := ["_law_deck_here", "_law_near", "_law_k", "_law_a", "_law_b", "_law_c", "_law_n", "_law_turn", "_law_other"]
abbrev pLVersion : List Str := ["_law_deck_here", "_law_near"]
theorem scLVersion : FnScope nLVersion pLVersion (defScope sLVersion) := ⟨rfl, rfl, rfl, by decide +kernel, rfl, by decide +kernel, by decide +kernel⟩
abbrev sLVersions : Stmt := top 31
abbrev nLVersions : List Str := ["_law_deck_here", "_law_many", "_law_found", "_law_turn", "_law_version_here"]
abbrev pLVersions : List Str := ["_law_deck_here", "_law_many"]
theorem scLVersions : FnScope nLVersions pLVersions (defScope sLVersions) := ⟨rfl, rfl, rfl, by decide +kernel, rfl, by decide +kernel, by decide +kernel⟩
abbrev sLNext : Stmt := top 32
abbrev nLNext : List Str := ["_law_version_here", "_law_a", "_law_b", "_law_c", "_law_k", "_law_n"]
abbrev pLNext : List Str := ["_law_version_here"]
theorem scLNext : FnScope nLNext pLNext (defScope sLNext) := ⟨rfl, rfl, rfl, by decide +kernel, rfl, by decide +kernel, by decide +kernel⟩
def spLPick : Sp := fun vs H Q _ => ∃ (d l s : Addr) (xs : List V), vs = [.ref d, .ref s] ∧ Deck d l H ∧ H s = some (.lst xs) ∧ s ≠ l ∧ 0 < xs.length ∧ xs.length < 1000000 ∧ ∀ (H' : Hp) (v : V), Kp d l H H' → Deck d l H' → v ∈ xs → Q v H'
def spLNumber : Sp := fun vs H Q _ => ∃ (d l : Addr), vs = [.ref d] ∧ Deck d l H ∧ ∀ (H' : Hp) (r : Int), Kp d l H H' → Deck d l H' → 0 ≤ r → r ≤ 1000000000 → Q (.int r) H'
def spLVersion (K : PySem.W.Frag) : Sp := fun vs H Q _ => ∃ (d l s : Addr) (xs : List V) (B : Int), vs = [.ref d, .ref s] ∧ Deck d l H ∧ H s = some (.lst xs) ∧ s ≠ l ∧ xs.length < 1000000 ∧ 1000000000 ≤ B ∧ (∀ v ∈ xs, VV K B H v) ∧ ∀ (H' : Hp) (v : V), Kp d l H H' → Deck d l H' → VV K B H' v → Q v H'
section
variable {P : Program} {w : World} {K : PySem.W.Frag} {mg : Str → Option Value} {base : Heap}
theorem ok_LPick {f : Addr} {fd : FuncData} {fLDraw : Addr} {fdLDraw : FuncData} (Z : Blt K mg) (D : DefAt K mg "_law_pick" sLPick pLPick f fd) (DLDraw : DefAt K mg "_law_draw" sLDraw pLDraw fLDraw fdLDraw) (GLDraw : FnOk P w K mg base CX0 1 fLDraw fdLDraw pLDraw spLDraw) : FnOk P w K mg base CX0 2 f fd pLPick spLPick := by
  refine D.F.ok scLPick (fun vs H Q E h => ?_) (fun cdv A outer s0 H vs Q E hr h => ?_)
  · obtain ⟨d, l, s, xs, rfl, _⟩ := h
    rfl
  have hu := hu_of hr
  obtain ⟨d, l, s, xs, rfl, Dk, hs, nsl, h0, h1, k⟩ := h
  refine ⟨_, (pss_one (ps_ret (pe_ix ix_list (pv 1) (pe_call GLDraw (hr.mono (by decide)) rfl DLDraw.g DLDraw.F.kp DLDraw.b .nil pass0 (pa_cons (pv 0) (pa_cons (pe_callB call_len_seq (by rfl) Z.len (by decide +kernel) (pa_cons (pv 1) pa_nil)) pa_nil))) (fun _ _ => rfl)))), ?_⟩
  refine ⟨_, rfl, _, rfl, _, rfl, s, xs, rfl, .inl (SqL.of hs), d, l, _, rfl, Dk, by omega, by omega, fun H' r k1 D1 r0 r1 => ?_⟩
  have hs' := k1.lst Dk nsl hs
  obtain ⟨n, rfl⟩ : ∃ n : Nat, r = (n : Int) := ⟨r.toNat, by omega⟩
  have hn : n < xs.length := by omega
  exact ⟨s, xs, _, xs[n], rfl, rfl, SqL.of hs', atI_nat (List.getElem?_eq_getElem hn), k _ _ k1 D1 (List.getElem_mem hn)⟩
theorem ok_LNumber {f : Addr} {fd : FuncData} {fLDraw : Addr} {fdLDraw : FuncData} {fLPick : Addr} {fdLPick : FuncData} (Z : Blt K mg) (D : DefAt K mg "_law_number" sLNumber pLNumber f fd) (DLDraw : DefAt K mg "_law_draw" sLDraw pLDraw fLDraw fdLDraw) (GLDraw : FnOk P w K mg base CX0 1 fLDraw fdLDraw pLDraw spLDraw) (DLPick : DefAt K mg "_law_pick" sLPick pLPick fLPick fdLPick) (GLPick : FnOk P w K mg base CX0 2 fLPick fdLPick pLPick spLPick) : FnOk P w K mg base CX0 3 f fd pLNumber spLNumber := by
  refine D.F.ok scLNumber (fun vs H Q E h => ?_) (fun cdv A outer s0 H vs Q E hr h => ?_)
  · obtain ⟨d, l, rfl, _⟩ := h
    rfl
  have hu := hu_of hr
  obtain ⟨d, l, rfl, Dk, k⟩ := h
  refine ⟨_, (pss_one (ps_ret (pe_call GLPick (hr.mono (by decide)) rfl DLPick.g DLPick.F.kp DLPick.b .nil pass0 (pa_cons (pv 0) (pa_cons (pe_lst (pa_cons pe_int (pa_cons pe_int (pa_cons pe_int (pa_cons pe_int (pa_cons pe_int (pa_cons pe_int (pa_cons pe_int (pa_cons pe_int (pa_cons pe_int (pa_cons pe_int (pa_cons pe_int (pa_cons (pe_op op_sub (pe_op op_pow pe_int pe_int) pe_int) (pa_cons (pe_call GLDraw (hr.mono (by decide)) rfl DLDraw.g DLDraw.F.kp DLDraw.b .nil pass0 (pa_cons (pv 0) (pa_cons (pe_op op_pow pe_int pe_int) pa_nil))) pa_nil)))))))))))))) pa_nil))))), ?_⟩
  refine ⟨_, rfl, _, _, rfl, rfl, ⟨by decide, by decide, by decide⟩, _, _, rfl, rfl, _, rfl, _, _, rfl, rfl, ⟨by decide, by decide, by decide⟩, d, l, _, rfl, Dk, by decide, by decide, fun H1 r k1 D1 r0 r1 => ?_⟩
  refine ⟨by show 13 ≤ sizeLine; decide, fun p hp => ?_⟩
  have D2 := D1.new (o := .lst [.int 0, .int 0, .int 0, .int 1, .int 1, .int 2, .int 3, .int 9, .int 10, .int 19, .int 100, .int (10 ^ (9 : Int).toNat - 30), .int r]) hp
  refine ⟨d, l, p, _, rfl, D2, upd_same, ?_, by show 0 < 13; decide, by show 13 < 1000000; decide, fun H2 v k2 D3 hv => ?_⟩
  · intro e
    obtain ⟨_, _, _, _, q, _⟩ := D1
    rw [← e, hp] at q
    cases q
  · have k3 := (k1.trans (Kp.new hp)).trans k2
    have r2 : (10 : Int) ^ (9 : Int).toNat = 1000000000 := by decide
    have r3 : (10 : Int) ^ (6 : Int).toNat = 1000000 := by decide
    rw [r2] at hv
    rw [r3] at r1
    simp only [List.mem_cons, List.not_mem_nil, or_false] at hv
    rcases hv with rfl | rfl | rfl | rfl | rfl | rfl | rfl | rfl | rfl | rfl | rfl | rfl | rfl
    all_goals exact k _ _ k3 D3 (by omega) (by omega)
theorem ok_LVersion {f : Addr} {fd : FuncData} {fLDraw : Addr} {fdLDraw : FuncData} {fLNumber : Addr} {fdLNumber : FuncData} {fLPick : Addr} {fdLPick : FuncData} (Z : Blt K mg) (D : DefAt K mg "_law_version" sLVersion pLVersion f fd) (DLDraw : DefAt K mg "_law_draw" sLDraw pLDraw fLDraw fdLDraw) (GLDraw : FnOk P w K mg base CX0 1 fLDraw fdLDraw pLDraw spLDraw) (DLNumber : DefAt K mg "_law_number" sLNumber pLNumber fLNumber fdLNumber) (GLNumber : FnOk P w K mg base CX0 3 fLNumber fdLNumber pLNumber spLNumber) (DLPick : DefAt K mg "_law_pick" sLPick pLPick fLPick fdLPick) (GLPick : FnOk P w K mg base CX0 2 fLPick fdLPick pLPick spLPick) : FnOk P w K mg base CX0 4 f fd pLVersion (spLVersion K) := by
  refine D.F.ok scLVersion (fun vs H Q E h => ?_) (fun cdv A outer s0 H vs Q E hr h => ?_)
  · obtain ⟨d, l, s, xs, B, rfl, _⟩ := h
    rfl
  have hu := hu_of hr
  obtain ⟨d, l, s, xs, B, rfl, Dk, hs, nsl, hl, hB, hv, k⟩ := h
  refine ⟨_, (pss_cons (ps_set (i := 2) scLVersion.nd rfl (Or.inl rfl) (pe_call GLPick (hr.mono (by decide)) rfl DLPick.g DLPick.F.kp DLPick.b .nil pass0 (pa_cons (pv 0) (pa_cons (pe_lst (pa_cons pe_int (pa_cons pe_int (pa_cons pe_int (pa_cons pe_int (pa_cons pe_int (pa_cons pe_int pa_nil))))))) pa_nil))))
    (pss_cons (ps_asg (pe_lc (own := [("_law_turn", 7)]) (g := gName 7) (tt := tYes) rfl scLVersion.nd (pi_range1 (by rfl) Z.range (pa_cons pe_int pa_nil)) (blkOk_by (own := [("_law_turn", 7)]) (N := nLVersion) (sc := defScope sLVersion) (by decide +kernel)) (fun _ _ _ _ _ => (pg_name (i := 7) scLVersion.nd rfl (Or.inl rfl))) (fun _ _ _ _ _ => pts_nil) (fun _ _ _ _ _ => (pe_call GLNumber (hr.mono (by decide)) rfl DLNumber.g DLNumber.F.kp DLNumber.b .nil pass0 (pa_cons (pv 0) pa_nil)))) (pg_unl rfl (pgs_cons (pg_name (i := 3) scLVersion.nd rfl (Or.inl rfl)) (pgs_cons (pg_name (i := 4) scLVersion.nd rfl (Or.inl rfl)) (pgs_cons (pg_name (i := 5) scLVersion.nd rfl (Or.inl rfl)) (pgs_cons (pg_name (i := 6) scLVersion.nd rfl (Or.inl rfl)) pgs_nil))))))
    (Evl.pss_cut (ps_if (PW.pt (pw_and (pt_cmpR (op_neD hr.units) (pv 1) (pe_lst pa_nil) (nomark _)) (pw_and1 (pt_cmpR op_gt (pe_call GLDraw (hr.mono (by decide)) rfl DLDraw.g DLDraw.F.kp DLDraw.b .nil pass0 (pa_cons (pv 0) (pa_cons pe_int pa_nil))) pe_int (nomark _)))))
    (pss_cons (ps_set (i := 8) scLVersion.nd rfl (Or.inl rfl) (pe_call GLPick (hr.mono (by decide)) rfl DLPick.g DLPick.F.kp DLPick.b .nil pass0 (pa_cons (pv 0) (pa_cons (pv 1) pa_nil))))
      (Evl.pss_cut (ps_set (i := 3) scLVersion.nd rfl (Or.inl rfl) (pe_ifExp (pt_cmpR op_gt (pe_call GLDraw (hr.mono (by decide)) rfl DLDraw.g DLDraw.F.kp DLDraw.b .nil pass0 (pa_cons (pv 0) (pa_cons pe_int pa_nil))) pe_int (nomark _)) (pe_ix ix_tup (pv 8) pe_int (fun _ _ => rfl)) (pv 3)))
      (Evl.pss_cut (ps_set (i := 4) scLVersion.nd rfl (Or.inl rfl) (pe_ifExp (pt_cmpR op_gt (pe_call GLDraw (hr.mono (by decide)) rfl DLDraw.g DLDraw.F.kp DLDraw.b .nil pass0 (pa_cons (pv 0) (pa_cons pe_int pa_nil))) pe_int (nomark _)) (pe_ix ix_tup (pv 8) pe_int (fun _ _ => rfl)) (pv 4)))
      (Evl.pss_cut (ps_set (i := 5) scLVersion.nd rfl (Or.inl rfl) (pe_ifExp (pt_cmpR op_gt (pe_call GLDraw (hr.mono (by decide)) rfl DLDraw.g DLDraw.F.kp DLDraw.b .nil pass0 (pa_cons (pv 0) (pa_cons pe_int pa_nil))) pe_int (nomark _)) (pe_ix ix_tup (pv 8) pe_int (fun _ _ => rfl)) (pv 5)))
      (pss_one (ps_set (i := 6) scLVersion.nd rfl (Or.inl rfl) (pe_ifExp (pt_cmpR op_gt (pe_call GLDraw (hr.mono (by decide)) rfl DLDraw.g DLDraw.F.kp DLDraw.b .nil pass0 (pa_cons (pv 0) (pa_cons pe_int pa_nil))) pe_int (nomark _)) (pe_ix ix_tup (pv 8) pe_int (fun _ _ => rfl)) (pv 6))))))))
    pss_nil)
    (pss_one (ps_ret (pe_tup (pa_cons (pv 3) (pa_cons (pv 4) (pa_cons (pv 5) (pa_cons (pv 2) (pa_cons (pe_ifExp (pt_cmpR op_eq (pv 2) pe_int (nomark _)) pe_int (pv 6)) pa_nil))))))))))), ?_⟩
  refine ⟨_, rfl, by show 6 ≤ sizeLine; decide, fun p hp => ?_⟩
  have D1 := Dk.new (o := .lst [.int 3, .int 3, .int 3, .int 0, .int 1, .int 2]) hp
  have k1 : Kp d l H _ := Kp.new (o := .lst [.int 3, .int 3, .int 3, .int 0, .int 1, .int 2]) hp
  refine ⟨d, l, p, _, rfl, D1, upd_same, Dk.free hp, by show 0 < 6; decide, by show 6 < 1000000; decide, fun H2 kv k2 D2 hk => ?_⟩
  have kk := k1.trans k2
  obtain ⟨kn, rfl, kn0, kn3⟩ : ∃ kn : Int, kv = .int kn ∧ 0 ≤ kn ∧ kn ≤ 3 := by
    simp only [List.mem_cons, List.not_mem_nil, or_false] at hk
    rcases hk with rfl | rfl | rfl | rfl | rfl | rfl
    all_goals exact ⟨_, rfl, by decide, by decide⟩
  clear hk k1 k2 D1
  refine ⟨_, rfl, by decide, by decide, fun L hL => lc_range (lo := 0) (n := 4) (fun i H' => ∃ rs : List Int, rs.length = i ∧ (∀ r ∈ rs, 0 ≤ r ∧ r ≤ 1000000000) ∧ H' L = some (.lst (rs.map V.int)) ∧ Kp d l H2 H' ∧ Deck d l H') ⟨[], rfl, by simp, upd_same, Kp.new hL, D2.new hL⟩ ?_ ?_⟩
  · rintro i H3 hi ⟨rs, e1, e2, e3, k3, D3⟩
    refine ⟨rfl, ?_⟩
    refine ⟨_, rfl, d, l, rfl, D3, fun H4 r k4 D4 r0 r1 => ?_⟩
    have nL : L ≠ l := D2.free hL
    have nd : L ≠ d := D3.nedl e3
    refine ⟨_, k4.lst D3 nL e3, by rw [List.length_map]; exact small1000 (by omega), rs ++ [r], by rw [List.length_append, e1]; rfl, ?_, by rw [upd_same, List.map_append]; rfl, ?_, D4.mut nd nL⟩
    · intro r' hr'
      rcases List.mem_append.mp hr' with q | q
      · exact e2 _ q
      · rw [List.mem_singleton.mp q]
        exact ⟨r0, r1⟩
    · exact (k3.trans k4).out hL
  · rintro H3 ⟨rs, e1, e2, e3, k3, D3⟩
    obtain ⟨a, b, c, n, rfl⟩ : ∃ a b c n, rs = [a, b, c, n] := by
      match rs, e1 with
      | [a, b, c, n], _ => exact ⟨a, b, c, n, rfl⟩
    have ha := e2 a (by simp)
    have hb := e2 b (by simp)
    have hc := e2 c (by simp)
    have hn := e2 n (by simp)
    clear e2
    refine ⟨L, _, rfl, SqL.of e3, rfl, _, _, rfl, _, _, rfl, _, _, rfl, _, _, rfl, rfl, ?_⟩
    have k5 := kk.trans k3
    have hs5 := k5.lst Dk nsl hs
    have hv5 : ∀ v ∈ xs, VV K B H3 v := fun v q => (hv v q).kp k5 Dk
    refine ⟨fun σ' H' => ∃ (a b c n : Int) (v7 v8 : Option V), σ' = [some (.ref d), some (.ref s), some (.int kn), some (.int a), some (.int b), some (.int c), some (.int n), v7, v8] ∧ (0 ≤ a ∧ a ≤ B) ∧ (0 ≤ b ∧ b ≤ B) ∧ (0 ≤ c ∧ c ≤ B) ∧ (0 ≤ n ∧ n ≤ B) ∧ Kp d l H H' ∧ Deck d l H', ?_, ?_⟩
    · refine ⟨_, rfl, Nat.zero_le _, fun q hq => ?_⟩
      have D6 := D3.new (o := .lst []) hq
      have k6 := k5.trans (Kp.new (o := .lst []) hq)
      have hs6 := (Kp.new (d := d) (l := l) (o := .lst []) hq).lst D3 nsl hs5
      have hv6 : ∀ v ∈ xs, VV K B (upd H3 q (.lst [])) v := fun v z => (hv5 v z).same (TKp.new hq)
      refine neNil (SqL.of hs6) (SqL.of upd_same) (shp_vv hv6) ⟨_, rfl, ?_⟩
      cases xs with
      | nil => exact iteF (iteF ⟨a, b, c, n, _, _, rfl, by omega, by omega, by omega, by omega, k6, D6⟩)
      | cons x0 xr =>
        refine iteT ?_
        refine ⟨_, rfl, d, l, _, rfl, D6, by decide, by decide, fun H7 r k7 D7 r0 r1 => ⟨_, _, rfl, rfl, _, rfl, ?_⟩⟩
        have kk7 := k6.trans k7
        refine ite2 (fun _ => ?_) (fun _ => ⟨a, b, c, n, _, _, rfl, by omega, by omega, by omega, by omega, kk7, D7⟩)
        refine ⟨_, rfl, _, rfl, d, l, s, _, rfl, D7, k7.lst D6 nsl hs6, nsl, by simp, hl, fun H8 u k8 D8 hu => ?_⟩
        obtain ⟨x, ⟨ax, rfl, hx⟩, z0, z1, z2, z3, z4, rfl, w1, w2, w3, w4, w5, w6, w7, w8, w9, w10, w11⟩ := (hv6 u hu).kp (k7.trans k8) D6
        have kk8 := kk7.trans k8
        clear kk7 k7 k8 hv6 hv5 hv k6 D6 D7 hs6 hs5 k5
        have at0 : atI ([z0, z1, z2, z3, z4].map V.int) 0 = some (.int z0) := atI_nat rfl
        have at1 : atI ([z0, z1, z2, z3, z4].map V.int) 1 = some (.int z1) := atI_nat rfl
        have at2 : atI ([z0, z1, z2, z3, z4].map V.int) 2 = some (.int z2) := atI_nat rfl
        have at4 : atI ([z0, z1, z2, z3, z4].map V.int) 4 = some (.int z4) := atI_nat rfl
        let M : L2.St → Hp → Prop := fun σ' H' => ∃ (a b c n : Int) (v7 : Option V), σ' = [some (.ref d), some (.ref s), some (.int kn), some (.int a), some (.int b), some (.int c), some (.int n), v7, some (.ref ax)] ∧ (0 ≤ a ∧ a ≤ B) ∧ (0 ≤ b ∧ b ≤ B) ∧ (0 ≤ c ∧ c ≤ B) ∧ (0 ≤ n ∧ n ≤ B) ∧ Kp d l H H' ∧ Deck d l H' ∧ SqT K H' ax ([z0, z1, z2, z3, z4].map V.int)
        refine ⟨M, ?_, ?_⟩
        · refine ⟨_, rfl, d, l, _, rfl, D8, by decide, by decide, fun H9 r9 k9 D9 _ _ => ⟨_, _, rfl, rfl, _, rfl, ?_⟩⟩
          refine ite2 (fun _ => ⟨_, rfl, ax, _, _, _, rfl, rfl, (k9.tupS D8 hx), at0, ?_⟩) (fun _ => ⟨_, rfl, ?_⟩)
          · exact ⟨z0, b, c, n, _, rfl, by omega, by omega, by omega, by omega, kk8.trans k9, D9, k9.tupS D8 hx⟩
          · exact ⟨a, b, c, n, _, rfl, by omega, by omega, by omega, by omega, kk8.trans k9, D9, k9.tupS D8 hx⟩
        rintro σ' H8 ⟨a, b, c, n, v7, rfl, ha, hb, hc, hn, kk8, D8, hx⟩
        refine ⟨M, ?_, ?_⟩
        · refine ⟨_, rfl, d, l, _, rfl, D8, by decide, by decide, fun H9 r9 k9 D9 _ _ => ⟨_, _, rfl, rfl, _, rfl, ?_⟩⟩
          refine ite2 (fun _ => ⟨_, rfl, ax, _, _, _, rfl, rfl, (k9.tupS D8 hx), at1, ?_⟩) (fun _ => ⟨_, rfl, ?_⟩)
          · exact ⟨a, z1, c, n, _, rfl, by omega, by omega, by omega, by omega, kk8.trans k9, D9, k9.tupS D8 hx⟩
          · exact ⟨a, b, c, n, _, rfl, by omega, by omega, by omega, by omega, kk8.trans k9, D9, k9.tupS D8 hx⟩
        rintro σ' H8 ⟨a, b, c, n, v7, rfl, ha, hb, hc, hn, kk8, D8, hx⟩
        refine ⟨M, ?_, ?_⟩
        · refine ⟨_, rfl, d, l, _, rfl, D8, by decide, by decide, fun H9 r9 k9 D9 _ _ => ⟨_, _, rfl, rfl, _, rfl, ?_⟩⟩
          refine ite2 (fun _ => ⟨_, rfl, ax, _, _, _, rfl, rfl, (k9.tupS D8 hx), at2, ?_⟩) (fun _ => ⟨_, rfl, ?_⟩)
          · exact ⟨a, b, z2, n, _, rfl, by omega, by omega, by omega, by omega, kk8.trans k9, D9, k9.tupS D8 hx⟩
          · exact ⟨a, b, c, n, _, rfl, by omega, by omega, by omega, by omega, kk8.trans k9, D9, k9.tupS D8 hx⟩
        rintro σ' H8 ⟨a, b, c, n, v7, rfl, ha, hb, hc, hn, kk8, D8, hx⟩
        refine ⟨_, rfl, d, l, _, rfl, D8, by decide, by decide, fun H9 r9 k9 D9 _ _ => ⟨_, _, rfl, rfl, _, rfl, ?_⟩⟩
        refine ite2 (fun _ => ⟨_, rfl, ax, _, _, _, rfl, rfl, (k9.tupS D8 hx), at4, ?_⟩) (fun _ => ⟨_, rfl, ?_⟩)
        · exact ⟨a, b, c, z4, _, _, rfl, by omega, by omega, by omega, by omega, kk8.trans k9, D9⟩
        · exact ⟨a, b, c, n, _, _, rfl, by omega, by omega, by omega, by omega, kk8.trans k9, D9⟩
    · rintro σ' H' ⟨a, b, c, n, v7, v8, rfl, g1, g2, g3, g4, g5, D9⟩
      refine ⟨_, rfl, _, rfl, _, rfl, _, rfl, _, rfl, rfl, _, rfl, ?_⟩
      refine ite2 (fun e => ⟨by show 5 ≤ sizeLine; decide, fun p hp => ?_⟩) (fun e => ⟨_, rfl, by show 5 ≤ sizeLine; decide, fun p hp => ?_⟩)
      · exact k _ _ (g5.trans (Kp.new hp)) (D9.new hp) ⟨[a, b, c, kn, 0], ⟨p, rfl, SqT.of upd_same⟩, a, b, c, kn, 0, rfl, by omega, by omega, by omega, by omega, by omega, by omega, by omega, by omega, by omega, by omega, fun _ => rfl⟩
      · have ek : kn ≠ 3 := fun z => e (decide_eq_true (by rw [z]))
        exact k _ _ (g5.trans (Kp.new hp)) (D9.new hp) ⟨[a, b, c, kn, n], ⟨p, rfl, SqT.of upd_same⟩, a, b, c, kn, n, rfl, by omega, by omega, by omega, by omega, by omega, by omega, by omega, by omega, by omega, by omega, fun z => absurd z ek⟩
end
def spLNext (K : PySem.W.Frag) : Sp := fun vs H Q _ => ∃ (a : Addr) (x : List Int) (B : Int), vs = [.ref a] ∧ SqT K H a (x.map V.int) ∧ Ver B x ∧ ∀ p, H p = none → Q (.ref p) (upd H p (.tup ((nxt x).map V.int)))
def spLVersions (K : PySem.W.Frag) : Sp := fun vs H Q _ => ∃ (d l : Addr) (n : Nat), vs = [.ref d, .int (n : Int)] ∧ Deck d l H ∧ n ≤ 100 ∧ ∀ (H' : Hp) (p : Addr) (xs : List V), Kp d l H H' → Deck d l H' → H p = none → H' p = some (.lst xs) → xs.length = n → (∀ v ∈ xs, VV K (1000000000 + (n : Int)) H' v) → Q (.ref p) H'
section
variable {P : Program} {w : World} {K : PySem.W.Frag} {mg : Str → Option Value} {base : Heap}
theorem ok_LNext {f : Addr} {fd : FuncData} (Z : Blt K mg) (D : DefAt K mg "_law_next" sLNext pLNext f fd) : FnOk P w K mg base CX0 1 f fd pLNext (spLNext K) := by
  refine D.F.ok scLNext (fun vs H Q E h => ?_) (fun cdv A outer s0 H vs Q E hr h => ?_)
  · obtain ⟨a, x, B, rfl, _⟩ := h
    rfl
  have hu := hu_of hr
  obtain ⟨a, x, B, rfl, ha, hx, k⟩ := h
  refine ⟨_, (pss_cons (ps_asg (pv 0) (pg_tup rfl (pgs_cons (pg_name (i := 1) scLNext.nd rfl (Or.inl rfl)) (pgs_cons (pg_name (i := 2) scLNext.nd rfl (Or.inl rfl)) (pgs_cons (pg_name (i := 3) scLNext.nd rfl (Or.inl rfl)) (pgs_cons (pg_name (i := 4) scLNext.nd rfl (Or.inl rfl)) (pgs_cons (pg_name (i := 5) scLNext.nd rfl (Or.inl rfl)) pgs_nil)))))))
    (pss_one (ps_ret (pe_ifExp (pt_cmpR op_lt (pv 4) pe_int (nomark _)) (pe_tup (pa_cons (pv 1) (pa_cons (pv 2) (pa_cons (pv 3) (pa_cons (pv 4) (pa_cons (pe_op op_add (pv 5) pe_int) pa_nil)))))) (pe_tup (pa_cons (pv 1) (pa_cons (pv 2) (pa_cons (pe_op op_add (pv 3) pe_int) (pa_cons pe_int (pa_cons pe_int pa_nil)))))))))), ?_⟩
  obtain ⟨z0, z1, z2, z3, z4, rfl, h1, h2, h3, h4, h5, h6, h7, h8, h9, h10, h11⟩ := hx
  refine ⟨_, rfl, a, _, rfl, ha, rfl, _, _, rfl, _, _, rfl, _, _, rfl, _, _, rfl, _, _, rfl, rfl, _, rfl, _, _, rfl, rfl, _, rfl, ?_⟩
  refine ite2 (fun e => ?_) (fun e => ?_)
  · have e := of_decide_eq_true e
    refine ⟨_, rfl, _, rfl, _, rfl, _, rfl, _, rfl, _, _, rfl, rfl, by show 5 ≤ sizeLine; decide, fun p hp => ?_⟩
    have q := k p hp
    have eq : nxt [z0, z1, z2, z3, z4] = [z0, z1, z2, z3, z4 + 1] := if_pos e
    rw [eq] at q
    exact q
  · have e : ¬ z3 < 3 := fun z => e (decide_eq_true z)
    refine ⟨_, rfl, _, rfl, _, rfl, _, _, rfl, rfl, by show 5 ≤ sizeLine; decide, fun p hp => ?_⟩
    have q := k p hp
    have eq : nxt [z0, z1, z2, z3, z4] = [z0, z1, z2 + 1, 0, 0] := if_neg e
    rw [eq] at q
    exact q
theorem ok_LVersions {f : Addr} {fd : FuncData} {fLDraw : Addr} {fdLDraw : FuncData} {fLNext : Addr} {fdLNext : FuncData} {fLPick : Addr} {fdLPick : FuncData} {fLVersion : Addr} {fdLVersion : FuncData} (Z : Blt K mg) (D : DefAt K mg "_law_versions" sLVersions pLVersions f fd) (DLDraw : DefAt K mg "_law_draw" sLDraw pLDraw fLDraw fdLDraw) (GLDraw : FnOk P w K mg base CX0 1 fLDraw fdLDraw pLDraw spLDraw) (DLNext : DefAt K mg "_law_next" sLNext pLNext fLNext fdLNext) (GLNext : FnOk P w K mg base CX0 1 fLNext fdLNext pLNext (spLNext K)) (DLPick : DefAt K mg "_law_pick" sLPick pLPick fLPick fdLPick) (GLPick : FnOk P w K mg base CX0 2 fLPick fdLPick pLPick spLPick) (DLVersion : DefAt K mg "_law_version" sLVersion pLVersion fLVersion fdLVersion) (GLVersion : FnOk P w K mg base CX0 4 fLVersion fdLVersion pLVersion (spLVersion K)) : FnOk P w K mg base CX0 5 f fd pLVersions (spLVersions K) := by
  refine D.F.ok scLVersions (fun vs H Q E h => ?_) (fun cdv A outer s0 H vs Q E hr h => ?_)
  · obtain ⟨d, l, n, rfl, _⟩ := h
    rfl
  have hu := hu_of hr
  obtain ⟨d, l, n, rfl, Dk, hn, k⟩ := h
  refine ⟨_, (pss_cons (ps_set (i := 2) scLVersions.nd rfl (Or.inl rfl) (pe_lst pa_nil))
    (pss_cons (ps_for PassesOwn.never rfl (pi_range1 (by rfl) Z.range (pa_cons (pv 1) pa_nil)) (pg_name (i := 3) scLVersions.nd rfl (Or.inl rfl))
    (pss_cons (ps_set (i := 4) scLVersions.nd rfl (Or.inl rfl) (pe_call GLVersion (hr.mono (by decide)) rfl DLVersion.g DLVersion.F.kp DLVersion.b .nil pass0 (pa_cons (pv 0) (pa_cons (pv 2) pa_nil))))
      (Evl.pss_cut (ps_if (PW.pt (pw_and (pt_cmpR (op_neD hr.units) (pv 2) (pe_lst pa_nil) (nomark _)) (pw_and1 (pt_cmpR op_eq (pe_call GLDraw (hr.mono (by decide)) rfl DLDraw.g DLDraw.F.kp DLDraw.b .nil pass0 (pa_cons (pv 0) (pa_cons pe_int pa_nil))) pe_int (nomark _)))))
      (pss_one (ps_set (i := 4) scLVersions.nd rfl (Or.inl rfl) (pe_call GLNext (hr.mono (by decide)) rfl DLNext.g DLNext.F.kp DLNext.b .nil pass0 (pa_cons (pe_call GLPick (hr.mono (by decide)) rfl DLPick.g DLPick.F.kp DLPick.b .nil pass0 (pa_cons (pv 0) (pa_cons (pv 2) pa_nil))) pa_nil))))
      pss_nil)
      (pss_one (ps_expr (pe_bm PySem.F.plainAttrs_list PySem.F.slot_list_append PySem.F.type_list_append mt_append (pv 2) (pa_cons (pv 4) pa_nil)))))))
    (pss_one (ps_ret (pv 2))))), ?_⟩
  refine ⟨Nat.zero_le _, fun p hp => ?_⟩
  have npl := Dk.free hp
  refine ⟨_, rfl, _, rfl, by omega, by omega, for_range (lo := 0) (n := n) (fun i σ H' => ∃ (xs : List V) (v3 v4 : Option V), σ = [some (.ref d), some (.int (n : Int)), some (.ref p), v3, v4] ∧ H' p = some (.lst xs) ∧ xs.length = i ∧ (∀ v ∈ xs, VV K (1000000000 + (i : Int)) H' v) ∧ Kp d l H H' ∧ Deck d l H') ⟨[], _, _, rfl, upd_same, rfl, by simp, Kp.new hp, Dk.new hp⟩ ?_ ?_⟩
  · rintro i σ H1 hi ⟨xs, v3, v4, rfl, e1, e2, e3, k1, D1⟩
    refine ⟨_, rfl, _, rfl, d, l, p, xs, 1000000000 + (i : Int), rfl, D1, e1, npl, by omega, by omega, e3, fun H2 v k2 D2 hv => ?_⟩
    have e1' := k2.lst D1 npl e1
    have e3' : ∀ v ∈ xs, VV K (1000000000 + (i : Int)) H2 v := fun u hu => (e3 u hu).kp k2 D1
    have kk := k1.trans k2
    clear e1 e3 k1 k2 D1
    refine ⟨fun σ' H' => ∃ v, σ' = [some (.ref d), some (.int (n : Int)), some (.ref p), some (.int (0 + (i : Int))), some v] ∧ H' p = some (.lst xs) ∧ (∀ v ∈ xs, VV K (1000000000 + (i : Int)) H' v) ∧ Kp d l H H' ∧ Deck d l H' ∧ VV K (1000000000 + (i : Int) + 1) H' v, ?_, ?_⟩
    · refine ⟨_, rfl, Nat.zero_le _, fun q hq => ?_⟩
      have s3 := (Kp.new (d := d) (l := l) (o := .lst []) hq)
      have D3 := D2.new (o := .lst []) hq
      have e4 := s3.lst D2 npl e1'
      have e5 : ∀ v ∈ xs, VV K (1000000000 + (i : Int)) (upd H2 q (.lst [])) v := fun u hu => (e3' u hu).kp s3 D2
      refine neNil (SqL.of e4) (SqL.of upd_same) (shp_vv e5) ⟨_, rfl, ?_⟩
      have k3 := kk.trans s3
      have hv3 := (hv.kp s3 D2).mono (show 1000000000 + (i : Int) ≤ 1000000000 + (i : Int) + 1 by omega)
      cases xs with
      | nil => exact iteF (iteF ⟨v, rfl, e4, e5, k3, D3, hv3⟩)
      | cons x0 xr =>
        refine iteT ?_
        refine ⟨_, rfl, d, l, _, rfl, D3, by decide, by decide, fun H4 r k4 D4 _ _ => ⟨rfl, _, rfl, ?_⟩⟩
        have e6 := k4.lst D3 npl e4
        have e7 : ∀ v ∈ x0 :: xr, VV K (1000000000 + (i : Int)) H4 v := fun u hu => (e5 u hu).kp k4 D3
        refine ite2 (fun _ => ?_) (fun _ => ⟨v, rfl, e6, e7, k3.trans k4, D4, hv3.kp k4 D3⟩)
        refine ⟨_, rfl, _, rfl, d, l, p, _, rfl, D4, e6, npl, by simp, by simp only [List.length_cons] at e2 ⊢; omega, fun H5 u k5 D5 hu => ?_⟩
        obtain ⟨x, ⟨ax, rfl, hx⟩, hb⟩ := (e7 u hu).kp k5 D4
        refine ⟨ax, x, _, rfl, hx, hb, fun t ht => ?_⟩
        have s5 := (Kp.new (d := d) (l := l) (o := .tup ((nxt x).map V.int)) ht)
        refine ⟨_, rfl, s5.lst D5 npl (k5.lst D4 npl e6), fun u hu => ((e7 u hu).kp k5 D4).kp s5 D5, ((k3.trans k4).trans k5).trans s5, D5.new ht, _, ⟨t, rfl, SqT.of upd_same⟩, hb.nxt⟩
    · rintro σ' H3 ⟨v, rfl, e4, e5, k3, D3, hv⟩
      refine ⟨_, rfl, .inl ⟨rfl, _, SqL.of e4⟩, _, rfl, p, _, _, rfl, rfl, e4, small1000 (by omega), ?_⟩
      refine ⟨_, _, _, rfl, upd_same, by rw [List.length_append, e2]; rfl, ?_, k3.out hp, D3.mut (D3.nedl e4) npl⟩
      intro u hu
      rcases List.mem_append.mp hu with z | z
      · exact ((e5 u z).same (TKp.mut e4)).mono (by omega)
      · rw [List.mem_singleton.mp z]
        exact (hv.same (TKp.mut e4)).mono (by omega)
  · rintro σ H1 ⟨xs, v3, v4, rfl, e1, e2, e3, k1, D1⟩
    exact ⟨_, rfl, k _ p xs k1 D1 hp e1 e2 e3⟩
end
abbrev sLDeck : Stmt := top 25
abbrev nLDeck : List Str := ["_law_script", "_law_mixed_here", "_law_cell"]
abbrev pLDeck : List Str := ["_law_script"]
theorem scLDeck : FnScope nLDeck pLDeck (defScope sLDeck) := ⟨rfl, rfl, rfl, by decide +kernel, rfl, by decide +kernel, by decide +kernel⟩
def spLDeck (K : PySem.W.Frag) : Sp := fun vs H Q _ => ∃ (a : Addr) (ns : List Int), vs = [.ref a] ∧ SqL K H a (ns.map V.int) ∧ ns.length ≤ 63 ∧ ∀ (H' : Hp) (d l : Addr), Same H H' → H d = none → H l = none → Deck d l H' → Q (.ref d) H'
section
variable {P : Program} {w : World} {K : PySem.W.Frag} {mg : Str → Option Value} {base : Heap}
theorem ok_LDeck {f : Addr} {fd : FuncData} (Z : Blt K mg) (D : DefAt K mg "_law_deck" sLDeck pLDeck f fd) : FnOk P w K mg base CX0 1 f fd pLDeck (spLDeck K) := by
  refine D.F.ok scLDeck (fun vs H Q E h => ?_) (fun cdv A outer s0 H vs Q E hr h => ?_)
  · obtain ⟨a, ns, rfl, _⟩ := h
    rfl
  have hu := hu_of hr
  obtain ⟨a, ns, rfl, ha, hl, k⟩ := h
  refine ⟨_, (pss_cons (ps_set (i := 1) scLDeck.nd rfl (Or.inl rfl) pe_int)
    (pss_cons (ps_for PassesOwn.never rfl (pi_list (pe_slice sl_list (pv 0) po_none (po_some pe_int))) (pg_name (i := 2) scLDeck.nd rfl (Or.inl rfl))
    (pss_one (ps_set (i := 1) scLDeck.nd rfl (Or.inl rfl) (pe_op op_mod (pe_callTy call_int1 (by rfl) Z.int (by decide +kernel) (pa_cons (pe_op op_add (pe_op op_add (pe_op op_mul (pv 1) pe_int) (pe_op op_mod (pe_callTy call_int1 (by rfl) Z.int (by decide +kernel) (pa_cons (pv 2) pa_nil)) pe_int)) pe_int) pa_nil)) pe_int))))
    (pss_one (ps_ret (pe_disp (pps_cons pe_str (pe_revL (pe_lc (own := [("_law_cell", 2)]) (g := gName 2) (tt := tYes) rfl scLDeck.nd (pi_list (pe_slice sl_list (pv 0) po_none (po_some pe_int))) (blkOk_by (own := [("_law_cell", 2)]) (N := nLDeck) (sc := defScope sLDeck) (by decide +kernel)) (fun _ _ _ _ _ => (pg_name (i := 2) scLDeck.nd rfl (Or.inl rfl))) (fun _ _ _ _ _ => pts_nil) (fun _ _ _ _ _ => (pe_callTy call_int1 (by rfl) Z.int (by decide +kernel) (pa_cons (pv 2) pa_nil))))) (pps_cons pe_str (pv 1) (pps_cons pe_str pe_int pps_nil))) (by rfl) (by rfl) (fun z => by cases z) (by decide)))))), ?_⟩
  obtain ⟨ms, em, lm⟩ := cutV_map ns none (some 63)
  refine ⟨_, rfl, 63, rfl, a, _, rfl, ha, fun p hp => ?_⟩
  rw [em]
  have s1 : Same H (upd H p (.lst (ms.map V.int))) := Same.new hp
  have hp1 : upd H p (.lst (ms.map V.int)) p = some (.lst (ms.map V.int)) := upd_same
  generalize upd H p (.lst (ms.map V.int)) = H1 at *
  refine ⟨p, rfl, ⟨_, SqL.of hp1⟩, for_list (K := K) (a := p) (xs := ms.map V.int) (fun i σ H' => ∃ (m : Int) (v : Option V), σ = [some (.ref a), some (.int m), v] ∧ 0 ≤ m ∧ m < 2147483647 ∧ Same H1 H') ⟨_, none, rfl, by decide, by decide, Same.refl _⟩ (fun i σ H' _ ⟨_, _, _, _, _, s⟩ => SqL.of (s _ _ hp1)) ?_ ?_⟩
  · rintro i y σ H' hi ⟨m, v, rfl, m0, m1, s2⟩
    obtain ⟨z, _, rfl⟩ := map_get hi
    refine ⟨_, rfl, _, _, rfl, rfl, .inr (by decide), _, rfl, .inl ⟨_, rfl, _, _, rfl, rfl, (by show (0 : Int) < 2147483629; decide), _, _, rfl, rfl, _, _, rfl, rfl, .inl ⟨_, rfl, _, _, rfl, rfl, (by show (0 : Int) < 2147483647; decide), ?_⟩⟩⟩
    exact ⟨_, _, rfl, Int.emod_nonneg _ (by decide), Int.emod_lt_of_pos _ (by decide), s2⟩
  · rintro σ H2 ⟨m, v, rfl, m0, m1, s2⟩
    have s3 := s1.trans s2
    intro d hd
    have s4 : Same H2 (upd H2 d (.dK [])) := Same.new hd
    have hd4 : upd H2 d (.dK []) d = some (.dK []) := upd_same
    have s5 := s3.trans s4
    generalize upd H2 d (.dK []) = H4 at *
    refine ⟨_, rfl, 63, rfl, a, _, rfl, s5.seq ha, fun q hq => ?_⟩
    rw [em]
    have s6 : Same H4 (upd H4 q (.lst (ms.map V.int))) := Same.new hq
    have hq6 : upd H4 q (.lst (ms.map V.int)) q = some (.lst (ms.map V.int)) := upd_same
    generalize upd H4 q (.lst (ms.map V.int)) = H6 at *
    refine ⟨q, rfl, ⟨_, SqL.of hq6⟩, fun L hL => lc_list (K := K) (a := q) (xs := ms.map V.int) (fun i H' => ∃ rs : List Int, rs.length = i ∧ H' L = some (.lst (rs.map V.int)) ∧ Same H6 H') ⟨[], rfl, upd_same, Same.new hL⟩ (fun i H' _ ⟨_, _, _, s⟩ => SqL.of (s _ _ hq6)) ?_ ?_⟩
    · rintro i y H7 hi ⟨rs, e1, e2, s7⟩
      obtain ⟨z, hz, rfl⟩ := map_get hi
      refine ⟨rfl, ?_⟩
      refine ⟨_, rfl, .inl ⟨_, rfl, rs.map V.int, e2, ?_, rs ++ [z], by rw [List.length_append, e1]; rfl, by rw [upd_same, List.map_append]; rfl, Same.out s7 hL⟩⟩
      have := (List.getElem?_eq_some_iff.mp hz).1
      rw [List.length_map]
      exact small1000 (by omega)
    · rintro H7 ⟨rs, e1, e2, s7⟩
      refine ⟨L, _, rfl, SqL.of e2, fun l hl7 => ?_⟩
      have s8 : Same H7 (upd H7 l (.lst (rs.map V.int).reverse)) := Same.new hl7
      refine ⟨_, rfl, ?_⟩
      have hd8 := s8 _ _ (s7 _ _ (s6 _ _ hd4))
      refine ⟨hd8, dkv l m 0, rfl, by show 3 ≤ 15; decide, ?_⟩
      rw [merge_dkv]
      have nld : l ≠ d := (ne_of_none (s7 _ _ (s6 _ _ hd4)) hl7).symm
      have hdH : H d = none := s3.free hd
      refine k _ d l ?_ hdH (((s5.trans s6).trans s7).free hl7) ⟨rs.reverse, m, 0, upd_same, ?_, ?_, m0, m1⟩
      · exact Same.out (((s5.trans s6).trans s7).trans s8) hdH
      · rw [upd_ne nld, upd_same, List.map_reverse]
      · rw [List.length_reverse, e1, List.length_map]
        omega
end


abbrev sIsInteger : Stmt := top 4
abbrev nIsInteger : List Str := ["thing"]
abbrev pIsInteger : List Str := ["thing"]
theorem scIsInteger : FnScope nIsInteger pIsInteger (defScope sIsInteger) := ⟨rfl, rfl, rfl, by decide +kernel, rfl, by decide +kernel, by decide +kernel⟩
abbrev sIsVersion : Stmt := top 9
abbrev nIsVersion : List Str := ["thing", "item", "sort", "number"]
abbrev pIsVersion : List Str := ["thing"]
theorem scIsVersion : FnScope nIsVersion pIsVersion (defScope sIsVersion) := ⟨rfl, rfl, rfl, by decide +kernel, rfl, by decide +kernel, by decide +kernel⟩
def spIsInteger : Sp := fun vs H Q _ => ∃ (i : Int), vs = [.int i] ∧ Q (.bl true) H
def spIsVersion (K : PySem.W.Frag) : Sp := fun vs H Q _ => ∃ (a : Addr) (x : List Int) (B : Int), vs = [.ref a] ∧ SqT K H a (x.map V.int) ∧ Ver B x ∧ ∀ H', Same H H' → Q (.bl true) H'
def spCheckVersion (K : PySem.W.Frag) : Sp := fun vs H Q _ => ∃ (a : Addr) (x : List Int) (B : Int), vs = [.ref a] ∧ SqT K H a (x.map V.int) ∧ Ver B x ∧ ∀ H', Same H H' → Q .non H'
def spNextVersion (K : PySem.W.Frag) : Sp := fun vs H Q _ => ∃ (a : Addr) (x : List Int) (B : Int), vs = [.ref a] ∧ SqT K H a (x.map V.int) ∧ Ver B x ∧ ∀ H' p, Same H H' → H p = none → H' p = some (.tup ((nxt x).map V.int)) → Q (.ref p) H'
section
variable {P : Program} {w : World} {K : PySem.W.Frag} {mg : Str → Option Value} {base : Heap}
theorem ok_IsInteger {f : Addr} {fd : FuncData} (Z : Blt K mg) (D : DefAt K mg "is_integer" sIsInteger pIsInteger f fd) : FnOk P w K mg base CX0 1 f fd pIsInteger spIsInteger := by
  refine D.F.ok scIsInteger (fun vs H Q E h => ?_) (fun cdv A outer s0 H vs Q E hr h => ?_)
  · obtain ⟨i, rfl, _⟩ := h
    rfl
  have hu := hu_of hr
  obtain ⟨i, rfl, k⟩ := h
  refine ⟨_, (pss_one (ps_ret (pe_and (pe_callB call_isi (by rfl) Z.isinstance (by decide +kernel) (pa_cons (pv 0) (pa_cons (pe_bltn (v := .ty "int") (u := Value.type "int") (by rfl) Z.int (by decide +kernel) rfl) pa_nil))) (pe_one (pe_not (pe_callB call_isi (by rfl) Z.isinstance (by decide +kernel) (pa_cons (pv 0) (pa_cons (pe_bltn (v := .ty "bool") (u := Value.type "bool") (by rfl) Z.bool (by decide +kernel) rfl) pa_nil)))))))), ?_⟩
  exact ⟨_, rfl, _, _, _, _, true, rfl, .ty "int", .base (.int i), kit_ty (by decide +kernel), true, rfl, _, rfl, _, _, _, _, false, rfl, .ty "bool", .base (.int i), kit_ty (by decide +kernel), false, rfl, k⟩
theorem ok_IsVersion {f : Addr} {fd : FuncData} {fIsInteger : Addr} {fdIsInteger : FuncData} (Z : Blt K mg) (D : DefAt K mg "is_version" sIsVersion pIsVersion f fd) (DIsInteger : DefAt K mg "is_integer" sIsInteger pIsInteger fIsInteger fdIsInteger) (GIsInteger : FnOk P w K mg base CX0 1 fIsInteger fdIsInteger pIsInteger spIsInteger) : FnOk P w K mg base CX0 2 f fd pIsVersion (spIsVersion K) := by
  refine D.F.ok scIsVersion (fun vs H Q E h => ?_) (fun cdv A outer s0 H vs Q E hr h => ?_)
  · obtain ⟨a, x, B, rfl, _⟩ := h
    rfl
  have hu := hu_of hr
  obtain ⟨a, x, B, rfl, ha, hx, k⟩ := h
  refine ⟨_, (pss_cons (ps_if (PW.pt (pw_or (pt_not (pt_val (pe_callB call_isi (by rfl) Z.isinstance (by decide +kernel) (pa_cons (pv 0) (pa_cons (pe_bltn (v := .ty "tuple") (u := Value.type "tuple") (by rfl) Z.tuple (by decide +kernel) rfl) pa_nil))))) (pw_or1 (pt_cmpR op_ne (pe_callB call_len_seq (by rfl) Z.len (by decide +kernel) (pa_cons (pv 0) pa_nil)) pe_int (nomark _)))))
    (pss_one (ps_ret pe_bl))
    pss_nil)
    (pss_cons (ps_if (pt_not (pt_val (pe_callB (cr_all rfl) (by rfl) Z.all (by decide +kernel) (pa_cons (pe_lc (own := [("item", 1)]) (g := gName 1) (tt := tYes) rfl scIsVersion.nd (pi_tup (pv 0)) (blkOk_by (own := [("item", 1)]) (N := nIsVersion) (sc := defScope sIsVersion) (by decide +kernel)) (fun _ _ _ _ _ => (pg_name (i := 1) scIsVersion.nd rfl (Or.inl rfl))) (fun _ _ _ _ _ => pts_nil) (fun _ _ _ _ _ => (pe_and (pe_call GIsInteger (hr.mono (by decide)) rfl DIsInteger.g DIsInteger.F.kp DIsInteger.b .nil pass0 (pa_cons (pv 1) pa_nil)) (pe_one (pe_cmpR op_ge (pv 1) pe_int (nomark _)))))) pa_nil))))
    (pss_one (ps_ret pe_bl))
    pss_nil)
    (pss_cons (ps_asg (pe_slice sl_tupA (pv 0) (po_some pe_int) po_none) (pg_tup rfl (pgs_cons (pg_name (i := 2) scIsVersion.nd rfl (Or.inl rfl)) (pgs_cons (pg_name (i := 3) scIsVersion.nd rfl (Or.inl rfl)) pgs_nil))))
    (pss_one (ps_ret (pe_or (pe_cmpR op_lt (pv 2) (pe_globI rfl Z.g_WHOLE) (nomark _)) (pe_one (pe_and (pe_cmpR op_eq (pv 2) (pe_globI rfl Z.g_WHOLE) (nomark _)) (pe_one (pe_cmpR op_eq (pv 3) pe_int (nomark _))))))))))), ?_⟩
  have hlen := hx.len
  have hnn := hx.nonneg
  refine ⟨_, rfl, _, _, _, _, true, rfl, .ty "tuple", (tyx_tup ha), kit_ty (by decide +kernel), true, rfl, ?_⟩
  refine ⟨_, rfl, a, _, rfl, .inr ha, rfl, _, rfl, ?_⟩
  rw [List.length_map, hlen]
  refine iteF ?_
  refine ⟨_, rfl, a, rfl, ⟨_, ha⟩, fun L hL => lc_tup (K := K) (a := a) (xs := x.map V.int) (fun i H' => H' L = some (.lst ((List.replicate i true).map V.bl)) ∧ Same H H') ⟨upd_same, Same.new hL⟩ (fun i H' _ ⟨_, s⟩ => (tupS_same s ha)) ?_ ?_⟩
  · rintro i y H' hi ⟨e, s1⟩
    obtain ⟨z, hz, rfl⟩ := map_get hi
    refine ⟨rfl, ?_⟩
    have z0 := hnn z (List.mem_of_getElem? hz)
    have hi5 := (List.getElem?_eq_some_iff.mp hz).1
    refine ⟨_, rfl, z, rfl, true, rfl, _, rfl, _, _, rfl, rfl, _, e, by rw [List.length_map, List.length_replicate]; exact small1000 (by omega), ?_, Same.out s1 hL⟩
    have ez : decide (0 ≤ z) = true := decide_eq_true z0
    rw [upd_same]
    show some (HO.lst (_ ++ [V.bl (decide (0 ≤ z))])) = _
    rw [ez, ← rep_snoc, List.map_append]
    rfl
  · rintro H1 ⟨e, s1⟩
    refine ⟨L, _, rfl, SqL.of e, _, rfl, ?_⟩
    rw [rep_all]
    refine iteF ?_
    obtain ⟨z0, z1, z2, z3, z4, rfl, h1, h2, h3, h4, h5, h6, h7, h8, h9, h10, h11⟩ := hx
    refine ⟨_, rfl, 3, rfl, a, _, rfl, (tupS_same s1 ha), fun q => absurd q.1 (show ¬ HT.sIx 5 0 (some 3) = 0 by decide), fun _ p hp => ?_⟩
    refine ⟨p, _, rfl, SqT.of upd_same, rfl, _, _, rfl, _, _, rfl, rfl, ?_⟩
    have s2 := s1.trans (Same.new (o := .tup [.int z3, .int z4]) hp)
    refine ⟨_, rfl, _, _, rfl, rfl, _, rfl, ?_⟩
    refine ite2 (fun _ => k _ s2) (fun e1 => ?_)
    have e3 : z3 = 3 := by
      have : ¬ z3 < 3 := fun z => e1 (decide_eq_true z)
      omega
    have e4 := h11 e3
    subst e3 e4
    exact ⟨_, rfl, rfl, _, rfl, _, rfl, rfl, k _ s2⟩
end


abbrev sIsPair : Stmt := top 12
abbrev nIsPair : List Str := ["thing", "low", "high"]
abbrev pIsPair : List Str := ["thing"]
theorem scIsPair : FnScope nIsPair pIsPair (defScope sIsPair) := ⟨rfl, rfl, rfl, by decide +kernel, rfl, by decide +kernel, by decide +kernel⟩
abbrev sBorders : Stmt := top 13
abbrev nBorders : List Str := ["span", "pair", "border"]
abbrev pBorders : List Str := ["span"]
theorem scBorders : FnScope nBorders pBorders (defScope sBorders) := ⟨rfl, rfl, rfl, by decide +kernel, rfl, by decide +kernel, by decide +kernel⟩
abbrev sIsAscending : Stmt := top 5
abbrev nIsAscending : List Str := ["things", "one", "other"]
abbrev pIsAscending : List Str := ["things"]
theorem scIsAscending : FnScope nIsAscending pIsAscending (defScope sIsAscending) := ⟨rfl, rfl, rfl, by decide +kernel, rfl, by decide +kernel, by decide +kernel⟩
abbrev sIsRange : Stmt := top 11
abbrev nIsRange : List Str := ["thing", "pair", "_", "high"]
abbrev pIsRange : List Str := ["thing"]
theorem scIsRange : FnScope nIsRange pIsRange (defScope sIsRange) := ⟨rfl, rfl, rfl, by decide +kernel, rfl, by decide +kernel, by decide +kernel⟩
abbrev sCheckRange : Stmt := top 15
abbrev nCheckRange : List Str := ["span"]
abbrev pCheckRange : List Str := ["span"]
theorem scCheckRange : FnScope nCheckRange pCheckRange (defScope sCheckRange) := ⟨rfl, rfl, rfl, by decide +kernel, rfl, by decide +kernel, by decide +kernel⟩
abbrev sIsIn : Stmt := top 17
abbrev nIsIn : List Str := ["span", "version", "low", "high"]
abbrev pIsIn : List Str := ["span", "version"]
theorem scIsIn : FnScope nIsIn pIsIn (defScope sIsIn) := ⟨rfl, rfl, rfl, by decide +kernel, rfl, by decide +kernel, by decide +kernel⟩
abbrev sEvery : Stmt := top 16
abbrev nEvery : List Str := []
abbrev pEvery : List Str := []
theorem scEvery : FnScope nEvery pEvery (defScope sEvery) := ⟨rfl, rfl, rfl, by decide +kernel, rfl, by decide +kernel, by decide +kernel⟩
abbrev sLeastIn : Stmt := top 18
abbrev nLeastIn : List Str := ["span"]
abbrev pLeastIn : List Str := ["span"]
theorem scLeastIn : FnScope nLeastIn pLeastIn (defScope sLeastIn) := ⟨rfl, rfl, rfl, by decide +kernel, rfl, by decide +kernel, by decide +kernel⟩
def spIsPair (K : PySem.W.Frag) : Sp := fun vs H Q _ => ∃ (v : V) (p : Pr) (B : Int), vs = [v] ∧ PV K H v p ∧ PrOK B p ∧ ∀ H', Same H H' → Q (.bl true) H'
def spBorders (K : PySem.W.Frag) : Sp := fun vs H Q _ => ∃ (v : V) (r : Rg), vs = [v] ∧ SV K H v r ∧ r.length ≤ 1000 ∧ ∀ H' p us, Same H H' → H p = none → H' p = some (.lst us) → Paired (IV K H') us (flat r) → Q (.ref p) H'
def spIsAscending (K : PySem.W.Frag) : Sp := fun vs H Q _ => ∃ (a : Addr) (us : List V) (xs : List Vr), vs = [.ref a] ∧ SqL K H a us ∧ Paired (IV K H) us xs ∧ xs.length ≤ 3000 ∧ ∀ H', Same H H' → Q (.bl (ascB xs)) H'
def spIsRange (K : PySem.W.Frag) : Sp := fun vs H Q _ => ∃ (v : V) (r : Rg) (B : Int), vs = [v] ∧ SV K H v r ∧ RgOK B r ∧ r.length ≤ 1000 ∧ ∀ H', Same H H' → Q (.bl true) H'
def spCheckRange (K : PySem.W.Frag) : Sp := fun vs H Q _ => ∃ (v : V) (r : Rg) (B : Int), vs = [v] ∧ SV K H v r ∧ RgOK B r ∧ r.length ≤ 1000 ∧ ∀ H', Same H H' → Q .non H'
def spIsIn (K : PySem.W.Frag) : Sp := fun vs H Q _ => ∃ (v u : V) (r : Rg) (x : Vr) (B : Int), vs = [v, u] ∧ SV K H v r ∧ (∀ p ∈ r, PrOK B p) ∧ r.length ≤ 1000 ∧ IV K H u x ∧ Ver B x ∧ ∀ H', Same H H' → Q (.bl (inB r x)) H'
def spHas (K : PySem.W.Frag) : Sp := fun vs H Q _ => ∃ (v u : V) (r : Rg) (x : Vr) (B : Int), vs = [v, u] ∧ SV K H v r ∧ RgOK B r ∧ r.length ≤ 1000 ∧ IV K H u x ∧ Ver B x ∧ ∀ H', Same H H' → Q (.bl (inB r x)) H'
def spEvery (K : PySem.W.Frag) : Sp := fun vs H Q _ => vs = [] ∧ ∀ H' p, Same H H' → H p = none → SV K H' (.ref p) [([0, 0, 0, 0, 0], none)] → Q (.ref p) H'
def spOnly (K : PySem.W.Frag) : Sp := fun vs H Q _ => ∃ (u : V) (x : Vr) (B : Int), vs = [u] ∧ IV K H u x ∧ Ver B x ∧ ∀ H' p, Same H H' → H p = none → SV K H' (.ref p) [(x, some (nxt x))] → Q (.ref p) H'
def leastV : Rg → Option Vr
  | [] => none
  | p :: _ => some p.1
def spLeastIn (K : PySem.W.Frag) : Sp := fun vs H Q _ => ∃ (v : V) (r : Rg) (B : Int), vs = [v] ∧ SV K H v r ∧ RgOK B r ∧ B < 9999999999999 ∧ r.length ≤ 1000 ∧ ∀ H' y, Same H H' → HV K H' y (leastV r) → Q y H'
section
variable {P : Program} {w : World} {K : PySem.W.Frag} {mg : Str → Option Value} {base : Heap}
theorem ok_IsPair {f : Addr} {fd : FuncData} {fIsVersion : Addr} {fdIsVersion : FuncData} (Z : Blt K mg) (D : DefAt K mg "is_pair" sIsPair pIsPair f fd) (DIsVersion : DefAt K mg "is_version" sIsVersion pIsVersion fIsVersion fdIsVersion) (GIsVersion : FnOk P w K mg base CX0 2 fIsVersion fdIsVersion pIsVersion (spIsVersion K)) : FnOk P w K mg base CX0 3 f fd pIsPair (spIsPair K) := by
  refine D.F.ok scIsPair (fun vs H Q E h => ?_) (fun cdv A outer s0 H vs Q E hr h => ?_)
  · obtain ⟨v, p, B, rfl, _⟩ := h
    rfl
  have hu := hu_of hr
  obtain ⟨v, p, B, rfl, ⟨a, lo, hi, rfl, h1, ⟨alo, rfl, hlo⟩, hhi⟩, hp, k⟩ := h
  refine ⟨_, (pss_cons (ps_if (PW.pt (pw_or (pt_not (pt_val (pe_callB call_isi (by rfl) Z.isinstance (by decide +kernel) (pa_cons (pv 0) (pa_cons (pe_bltn (v := .ty "tuple") (u := Value.type "tuple") (by rfl) Z.tuple (by decide +kernel) rfl) pa_nil))))) (pw_or1 (pt_cmpR op_ne (pe_callB call_len_seq (by rfl) Z.len (by decide +kernel) (pa_cons (pv 0) pa_nil)) pe_int (nomark _)))))
    (pss_one (ps_ret pe_bl))
    pss_nil)
    (pss_cons (ps_asg (pv 0) (pg_tup rfl (pgs_cons (pg_name (i := 1) scIsPair.nd rfl (Or.inl rfl)) (pgs_cons (pg_name (i := 2) scIsPair.nd rfl (Or.inl rfl)) pgs_nil))))
    (pss_one (ps_ret (pe_and (pe_call GIsVersion (hr.mono (by decide)) rfl DIsVersion.g DIsVersion.F.kp DIsVersion.b .nil pass0 (pa_cons (pv 1) pa_nil)) (pe_one (pe_or (pe_cmpR op_isN (pv 2) pe_non (nomark _)) (pe_one (pe_call GIsVersion (hr.mono (by decide)) rfl DIsVersion.g DIsVersion.F.kp DIsVersion.b .nil pass0 (pa_cons (pv 2) pa_nil)))))))))), ?_⟩
  refine ⟨_, rfl, _, _, _, _, true, rfl, .ty "tuple", tyx_tup h1, kit_ty (by decide +kernel), true, rfl, ?_⟩
  refine ⟨_, rfl, a, _, rfl, .inr h1, rfl, _, rfl, notTT rfl ?_⟩
  refine ⟨_, rfl, a, _, rfl, h1, rfl, _, _, rfl, _, _, rfl, rfl, ?_⟩
  refine ⟨_, rfl, alo, p.1, B, rfl, hlo, hp.1, fun H1 s1 => ⟨true, rfl, ?_⟩⟩
  refine iteT ?_
  refine ⟨_, rfl, rfl, _, rfl, ?_⟩
  cases e : p.2 with
  | none =>
    rw [e] at hhi
    obtain rfl : hi = .non := hhi
    exact k _ s1
  | some y =>
    rw [e] at hhi
    obtain ⟨ay, rfl, hy⟩ := (show IV K H hi y from hhi)
    refine iteF ?_
    exact ⟨_, rfl, ay, y, B, rfl, tupS_same s1 hy, hp.2 y e, fun H2 s2 => k _ (s1.trans s2)⟩
theorem ok_Borders {f : Addr} {fd : FuncData} (Z : Blt K mg) (D : DefAt K mg "borders" sBorders pBorders f fd) : FnOk P w K mg base CX0 1 f fd pBorders (spBorders K) := by
  refine D.F.ok scBorders (fun vs H Q E h => ?_) (fun cdv A outer s0 H vs Q E hr h => ?_)
  · obtain ⟨v, r, rfl, _⟩ := h
    rfl
  have hu := hu_of hr
  obtain ⟨v, r, rfl, ⟨a, vs, rfl, h1, h2⟩, hl, k⟩ := h
  refine ⟨_, (pss_one (ps_ret (pe_lc2 (own := [("pair", 1), ("border", 2)]) (vs1 := [2]) (g := gName 1) (g1 := gName 2) (tt := tYes) rfl scBorders.nd (pi_tup (pv 0)) (blkOk_by (own := [("pair", 1), ("border", 2)]) (N := nBorders) (sc := defScope sBorders) (by decide +kernel)) (by decide) (fun _ _ _ _ _ => (pg_name (i := 1) scBorders.nd rfl (Or.inl rfl))) (fun _ _ _ _ _ => pts_nil) (fun _ _ _ _ _ => ((pi_tupK K) (pv 1))) (fun _ _ _ _ _ => (pg_name (i := 2) scBorders.nd rfl (Or.inl rfl))) (fun _ _ _ _ _ => (pts_one (pt_cmpR op_notN (pv 2) pe_non (nomark _)))) (fun _ _ _ _ _ => (pv 2))))), ?_⟩
  refine ⟨_, rfl, a, rfl, ⟨_, h1⟩, fun D hD => gen_it (walk_tup (K := K) (a := a) (xs := vs)) (fun i H' => ∃ us, H' D = some (.lst us) ∧ Paired (IV K H) us (flat (r.take i)) ∧ us.length ≤ 2 * i ∧ Same H H') ⟨[], upd_same, .nil, Nat.le_refl _, Same.new hD⟩ (fun i H' _ ⟨_, _, _, _, s⟩ => tupS_same s h1) ?_ ?_⟩
  · rintro i x H1 _ hi ⟨us, e1, e2, e3, s1⟩ ⟨rfl, hx⟩
    obtain ⟨p, hr, ap, lo, hi', rfl, g1, g2, g3⟩ := paired_get h2 hx
    refine ⟨rfl, ?_⟩
    refine ⟨_, rfl, ap, rfl, ⟨_, tupS_same s1 g1⟩, gen_it (walk_tup (K := K) (a := ap) (xs := [lo, hi'])) (fun j H' => ∃ us, H' D = some (.lst us) ∧ Paired (IV K H) us (flat (r.take i) ++ (p.1 :: p.2.toList).take j) ∧ us.length ≤ 2 * i + j ∧ Same H H') ⟨us, e1, by simpa using e2, e3, s1⟩ (fun j H' _ ⟨_, _, _, _, s⟩ => tupS_same s g1) ?_ ?_⟩
    · rintro j y H2 _ hj ⟨us, e1, e2, e3, s2⟩ ⟨rfl, hy⟩
      refine ⟨rfl, _, rfl, rfl, _, rfl, ?_⟩
      have sz : us.length < sizeLine := by
        have := paired_len h2
        have := (List.getElem?_eq_some_iff.mp hr).1
        have hj2 : j < 2 := hj
        have : sizeLine = 16777216 := by decide
        omega
      match j, hj, hy with
      | 0, _, hy =>
        obtain rfl : lo = y := Option.some.inj hy
        obtain ⟨alo, rfl, hlo⟩ := id g2
        refine iteT ?_
        refine ⟨_, rfl, us, e1, sz, us ++ [.ref alo], upd_same, ?_, by rw [List.length_append, List.length_singleton]; omega, Same.out s2 hD⟩
        have e2' : Paired (IV K H) us (flat (r.take i)) := by simpa using e2
        exact paired_app e2' (.cons g2 .nil)
      | 1, _, hy =>
        obtain rfl : hi' = y := Option.some.inj hy
        cases e : p.2 with
        | none =>
          rw [e] at g3 e2
          obtain rfl : hi' = .non := g3
          refine iteF ?_
          exact ⟨us, e1, e2, by omega, s2⟩
        | some z =>
          rw [e] at g3 e2
          obtain ⟨ah, rfl, hh⟩ := (show IV K H hi' z from g3)
          refine iteT ?_
          refine ⟨_, rfl, us, e1, sz, us ++ [.ref ah], upd_same, ?_, by rw [List.length_append, List.length_singleton]; omega, Same.out s2 hD⟩
          have := paired_app e2 (.cons g3 .nil)
          rw [List.append_assoc] at this
          exact this
    · rintro H2 ⟨us, e1, e2, e3, s2⟩
      refine ⟨us, e1, ?_, by show us.length ≤ 2 * (i + 1); simp only [List.length_cons, List.length_nil] at e3; omega, s2⟩
      rw [flat_snoc hr]
      have : (p.1 :: p.2.toList).take ([lo, hi'] : List V).length = p.1 :: p.2.toList := by
        cases p.2 <;> rfl
      rw [this] at e2
      exact e2
  · rintro H1 ⟨us, e1, e2, e3, s1⟩
    have : r.take vs.length = r := by rw [paired_len h2, List.take_length]
    rw [this] at e2
    exact k _ D us s1 hD e1 (ivs_tk (TKp.of s1) e2)
theorem ok_IsAscending {f : Addr} {fd : FuncData} (Z : Blt K mg) (D : DefAt K mg "is_ascending" sIsAscending pIsAscending f fd) : FnOk P w K mg base CX0 1 f fd pIsAscending (spIsAscending K) := by
  refine D.F.ok scIsAscending (fun vs H Q E h => ?_) (fun cdv A outer s0 H vs Q E hr h => ?_)
  · obtain ⟨a, us, xs, rfl, _⟩ := h
    rfl
  have hu := hu_of hr
  obtain ⟨a, us, xs, rfl, h1, h2, hl, k⟩ := h
  refine ⟨_, (pss_one (ps_ret (pe_callB (cr_all rfl) (by rfl) Z.all (by decide +kernel) (pa_cons (pe_lc (own := [("one", 1), ("other", 2)]) (tt := tYes) rfl scIsAscending.nd (pi_zip (by rfl) Z.zip (pa_cons (pv 0) (pa_cons (pe_slice sl_list (pv 0) (po_some pe_int) po_none) pa_nil))) (blkOk_by (own := [("one", 1), ("other", 2)]) (N := nIsAscending) (sc := defScope sIsAscending) (by decide +kernel)) (fun _ _ _ _ _ => (pg_tupK K (n := 2) rfl (pgs_cons (pg_name (i := 1) scIsAscending.nd rfl (Or.inl rfl)) (pgs_cons (pg_name (i := 2) scIsAscending.nd rfl (Or.inl rfl)) pgs_nil)))) (fun _ _ _ _ _ => pts_nil) (fun _ _ _ _ _ => (pe_cmpR (op_ltTK K hr.units0) (pv 1) (pv 2) (nomark _)))) pa_nil)))), ?_⟩
  have lu := paired_len h2
  refine ⟨_, rfl, _, rfl, 1, rfl, a, us, rfl, h1, fun p hp => ?_⟩
  have ec : cutV us (some 1) none = us.drop 1 := cutV_from us 1
  rw [ec]
  have s1 : Same H (upd H p (.lst (us.drop 1))) := Same.new hp
  have hp1 : upd H p (.lst (us.drop 1)) p = some (.lst (us.drop 1)) := upd_same
  generalize upd H p (.lst (us.drop 1)) = H1 at s1 hp1
  refine ⟨a, p, us, us.drop 1, rfl, s1.seq h1, SqL.of hp1, fun L hL => lc_it (walk_zip (K := K) (a := a) (b := p) (xs := us) (ys := us.drop 1) (n := (zl xs).length) (by unfold zl; rw [List.length_zipWith, List.length_drop, List.length_drop, lu])) (fun i H' => H' L = some (.lst (((zl xs).take i).map V.bl)) ∧ Same H1 H') ⟨upd_same, Same.new hL⟩ (fun i H' _ ⟨_, s⟩ => ⟨(s1.trans s).seq h1, SqL.of (s _ _ hp1)⟩) ?_ ?_⟩
  · rintro i _ H2 _ hi ⟨e1, s2⟩ ⟨T, y1, y2, rfl, hT, rfl, q1, q2⟩
    obtain ⟨x1, r1, b1, rfl, g1⟩ := paired_get h2 q1
    obtain ⟨x2, r2, b2, rfl, g2⟩ := paired_get (paired_drop 1 h2) q2
    have s3 := (s1.trans s2).trans (Same.new (o := .tup [V.ref b1, .ref b2]) hT)
    have eL := Same.new (o := .tup [V.ref b1, .ref b2]) hT _ _ e1
    refine ⟨T, _, rfl, SqT.of upd_same, rfl, _, _, rfl, _, _, rfl, rfl, ?_⟩
    refine ⟨rfl, ?_⟩
    refine ⟨_, rfl, _, rfl, b1, b2, x1, x2, rfl, rfl, tupS_same s3 g1, tupS_same s3 g2, _, eL, ?_, ?_, ?_⟩
    · rw [List.length_map, List.length_take]
      have : sizeLine = 16777216 := by decide
      have : (zl xs).length ≤ xs.length := by unfold zl; rw [List.length_zipWith]; omega
      omega
    · have z : (zl xs)[i]? = some (HT.lexLt x1 x2) := by
        unfold zl
        rw [List.getElem?_zipWith, r1, r2]
      rw [upd_same, List.take_add_one, z, List.map_append]
      rfl
    · exact Same.out (s2.trans (Same.new hT)) hL
  · rintro H2 ⟨e1, s2⟩
    rw [List.take_length] at e1
    exact ⟨L, _, rfl, SqL.of e1, k _ (s1.trans s2)⟩
theorem ok_IsRange {f : Addr} {fd : FuncData} {fBorders : Addr} {fdBorders : FuncData} {fIsAscending : Addr} {fdIsAscending : FuncData} {fIsPair : Addr} {fdIsPair : FuncData} (Z : Blt K mg) (D : DefAt K mg "is_range" sIsRange pIsRange f fd) (DBorders : DefAt K mg "borders" sBorders pBorders fBorders fdBorders) (GBorders : FnOk P w K mg base CX0 1 fBorders fdBorders pBorders (spBorders K)) (DIsAscending : DefAt K mg "is_ascending" sIsAscending pIsAscending fIsAscending fdIsAscending) (GIsAscending : FnOk P w K mg base CX0 1 fIsAscending fdIsAscending pIsAscending (spIsAscending K)) (DIsPair : DefAt K mg "is_pair" sIsPair pIsPair fIsPair fdIsPair) (GIsPair : FnOk P w K mg base CX0 3 fIsPair fdIsPair pIsPair (spIsPair K)) : FnOk P w K mg base CX0 4 f fd pIsRange (spIsRange K) := by
  refine D.F.ok scIsRange (fun vs H Q E h => ?_) (fun cdv A outer s0 H vs Q E hr h => ?_)
  · obtain ⟨v, r, B, rfl, _⟩ := h
    rfl
  have hu := hu_of hr
  obtain ⟨v, r, B, rfl, ⟨a, vs, rfl, h1, h2⟩, ho, hl, k⟩ := h
  refine ⟨_, (pss_cons (ps_if (PW.pt (pw_or (pt_not (pt_val (pe_callB call_isi (by rfl) Z.isinstance (by decide +kernel) (pa_cons (pv 0) (pa_cons (pe_bltn (v := .ty "tuple") (u := Value.type "tuple") (by rfl) Z.tuple (by decide +kernel) rfl) pa_nil))))) (pw_or1 (pt_not (pt_val (pe_callB (cr_all rfl) (by rfl) Z.all (by decide +kernel) (pa_cons (pe_lc (own := [("pair", 1)]) (g := gName 1) (tt := tYes) rfl scIsRange.nd (pi_tup (pv 0)) (blkOk_by (own := [("pair", 1)]) (N := nIsRange) (sc := defScope sIsRange) (by decide +kernel)) (fun _ _ _ _ _ => (pg_name (i := 1) scIsRange.nd rfl (Or.inl rfl))) (fun _ _ _ _ _ => pts_nil) (fun _ _ _ _ _ => (pe_call GIsPair (hr.mono (by decide)) rfl DIsPair.g DIsPair.F.kp DIsPair.b .nil pass0 (pa_cons (pv 1) pa_nil)))) pa_nil)))))))
    (pss_one (ps_ret pe_bl))
    pss_nil)
    (pss_cons (ps_if (pt_val (pe_callB (cr_any rfl) (by rfl) Z.any (by decide +kernel) (pa_cons (pe_lc (own := [("_", 2), ("high", 3)]) (tt := tYes) rfl scIsRange.nd (pi_tup (pe_slice sl_tupA (pv 0) po_none (po_some (pe_un un_neg pe_int)))) (blkOk_by (own := [("_", 2), ("high", 3)]) (N := nIsRange) (sc := defScope sIsRange) (by decide +kernel)) (fun _ _ _ _ _ => (pg_tupK K (n := 2) rfl (pgs_cons (pg_name (i := 2) scIsRange.nd rfl (Or.inl rfl)) (pgs_cons (pg_name (i := 3) scIsRange.nd rfl (Or.inl rfl)) pgs_nil)))) (fun _ _ _ _ _ => pts_nil) (fun _ _ _ _ _ => (pe_cmpR op_isN (pv 3) pe_non (nomark _)))) pa_nil)))
    (pss_one (ps_ret pe_bl))
    pss_nil)
    (pss_one (ps_ret (pe_call GIsAscending (hr.mono (by decide)) rfl DIsAscending.g DIsAscending.F.kp DIsAscending.b .nil pass0 (pa_cons (pe_call GBorders (hr.mono (by decide)) rfl DBorders.g DBorders.F.kp DBorders.b .nil pass0 (pa_cons (pv 0) pa_nil)) pa_nil)))))), ?_⟩
  have lv := paired_len h2
  refine ⟨_, rfl, _, _, _, _, true, rfl, .ty "tuple", tyx_tup h1, kit_ty (by decide +kernel), true, rfl, ?_⟩
  refine ⟨_, rfl, a, rfl, ⟨_, h1⟩, fun L hL => lc_tup (K := K) (a := a) (xs := vs) (fun i H' => H' L = some (.lst ((List.replicate i true).map V.bl)) ∧ Same H H') ⟨upd_same, Same.new hL⟩ (fun i H' _ ⟨_, s⟩ => tupS_same s h1) ?_ ?_⟩
  · rintro i y H1 hi ⟨e, s1⟩
    obtain ⟨p, hr, hp⟩ := paired_get h2 hi
    refine ⟨rfl, ?_⟩
    refine ⟨_, rfl, y, p, B, rfl, hp.tk (TKp.of s1), ho.ver p (List.mem_of_getElem? hr), fun H2 s2 => ⟨_, s2 _ _ e, ?_, ?_, ?_⟩⟩
    · have := (List.getElem?_eq_some_iff.mp hr).1
      rw [List.length_map, List.length_replicate]
      have : sizeLine = 16777216 := by decide
      omega
    · rw [upd_same, ← rep_snoc, List.map_append]
      rfl
    · exact Same.out (s1.trans s2) hL
  · rintro H1 ⟨e, s1⟩
    refine ⟨L, _, rfl, SqL.of e, _, rfl, ?_⟩
    rw [rep_all]
    refine iteF ?_
    refine ⟨_, rfl, 1, rfl, _, rfl, a, _, rfl, tupS_same s1 h1, fun q => ?_, fun _ b hb => ?_⟩
    · have hv0 : vs = [] := by
        have q2 := q.2
        cases vs with
        | nil => rfl
        | cons v0 vr =>
          exfalso
          have := sIx_m1 (v0 :: vr).length
          have q3 : HT.sIx (v0 :: vr).length (v0 :: vr).length (some (-1)) = (v0 :: vr).length := q2
          rw [this, List.length_cons] at q3
          omega
      subst hv0
      cases h2
      have h1' := tupS_same s1 h1
      refine ⟨a, rfl, ⟨_, h1'⟩, fun M hM => lc_tup (K := K) (a := a) (xs := []) (fun i H' => H' M = some (.lst []) ∧ Same H1 H') ⟨upd_same, Same.new hM⟩ (fun i H' _ ⟨_, s⟩ => tupS_same s h1') (fun i y H' hi => by simp at hi) ?_⟩
      rintro H2 ⟨e2, s2⟩
      refine ⟨M, [], rfl, SqL.of e2, _, rfl, iteF ?_⟩
      refine ⟨_, rfl, .ref a, [], rfl, ⟨a, [], rfl, tupS_same s2 h1', .nil⟩, by decide, fun H3 p us s3 hp hp3 hu => ⟨p, us, flat [], rfl, SqL.of hp3, hu, by decide, fun H4 s4 => ?_⟩⟩
      have := k _ (((s1.trans s2).trans s3).trans s4)
      exact this
    · have ec : cutV vs none (some (-1)) = vs.take (vs.length - 1) := cutV_init vs
      rw [show cutV vs none (some (-1)) = vs.take (vs.length - 1) from ec]
      have s2 := s1.trans (Same.new (o := .tup (vs.take (vs.length - 1))) hb)
      have eb : upd H1 b (.tup (vs.take (vs.length - 1))) b = some (.tup (vs.take (vs.length - 1))) := upd_same
      generalize upd H1 b (.tup (vs.take (vs.length - 1))) = H2 at s2 eb
      refine ⟨b, rfl, ⟨_, SqT.of eb⟩, fun M hM => lc_tup (K := K) (a := b) (xs := vs.take (vs.length - 1)) (fun i H' => H' M = some (.lst ((List.replicate i false).map V.bl)) ∧ Same H2 H') ⟨upd_same, Same.new hM⟩ (fun i H' _ ⟨_, s⟩ => SqT.of (s _ _ eb)) ?_ ?_⟩
      · rintro i y H3 hi ⟨e3, s3⟩
        have hi1 := (List.getElem?_eq_some_iff.mp hi).1
        rw [List.length_take] at hi1
        rw [List.getElem?_take_of_lt (by omega)] at hi
        obtain ⟨p, hr, ap, lo, hi', rfl, g1, g2, g3⟩ := paired_get h2 hi
        have hf := ho.fin i p (by omega) hr
        obtain ⟨z, hz⟩ := Option.ne_none_iff_exists'.mp hf
        rw [hz] at g3
        obtain ⟨az, rfl, hzz⟩ := (show IV K H hi' z from g3)
        refine ⟨ap, _, rfl, tupS_same (s2.trans s3) g1, rfl, _, _, rfl, _, _, rfl, rfl, rfl, _, rfl, rfl, _, e3, ?_, ?_, Same.out s3 hM⟩
        · rw [List.length_map, List.length_replicate]
          have : sizeLine = 16777216 := by decide
          omega
        · rw [upd_same, ← rep_snoc, List.map_append]
          rfl
      · rintro H3 ⟨e3, s3⟩
        refine ⟨M, _, rfl, SqL.of e3, _, rfl, ?_⟩
        have ra : ∀ n : Nat, (List.replicate n false).any id = false := fun n => by
          induction n with
          | zero => rfl
          | succ n ih => rw [List.replicate_succ, List.any_cons, ih]; rfl
        rw [ra]
        refine iteF ?_
        refine ⟨_, rfl, .ref a, r, rfl, ⟨a, vs, rfl, tupS_same (s2.trans s3) h1, pvs_tk (TKp.of (s2.trans s3)) h2⟩, hl, fun H4 p us s4 hp hp4 hu => ⟨p, us, flat r, rfl, SqL.of hp4, hu, ?_, fun H5 s5 => ?_⟩⟩
        · have f2 : (flat r).length ≤ 2 * r.length := by
            clear ho h2 hl k hu lv
            induction r with
            | nil => exact Nat.le_refl _
            | cons p r ih =>
              have e : flat (p :: r) = (p.1 :: p.2.toList) ++ flat r := rfl
              rw [e, List.length_append, List.length_cons, List.length_cons]
              have : p.2.toList.length ≤ 1 := by cases p.2 <;> simp
              omega
          omega
        · have := k _ (((s2.trans s3).trans s4).trans s5)
          rw [asc_of ho.asc]
          exact this
theorem ok_CheckRange {f : Addr} {fd : FuncData} {fIsRange : Addr} {fdIsRange : FuncData} (Z : Blt K mg) (D : DefAt K mg "check_range" sCheckRange pCheckRange f fd) (DIsRange : DefAt K mg "is_range" sIsRange pIsRange fIsRange fdIsRange) (GIsRange : FnOk P w K mg base CX0 4 fIsRange fdIsRange pIsRange (spIsRange K)) : FnOk P w K mg base CX0 5 f fd pCheckRange (spCheckRange K) := by
  refine D.F.ok scCheckRange (fun vs H Q E h => ?_) (fun cdv A outer s0 H vs Q E hr h => ?_)
  · obtain ⟨v, r, B, rfl, _⟩ := h
    rfl
  have hu := hu_of hr
  obtain ⟨v, r, B, rfl, h1, ho, hl, k⟩ := h
  refine ⟨_, (pss_one (ps_if (pt_not (pt_val (pe_call GIsRange (hr.mono (by decide)) rfl DIsRange.g DIsRange.F.kp DIsRange.b .nil pass0 (pa_cons (pv 0) pa_nil))))
    (pss_one ps_never)
    pss_nil)), ?_⟩
  exact ⟨_, rfl, v, r, B, rfl, h1, ho, hl, fun H' s => ⟨_, rfl, iteF (k _ s)⟩⟩
theorem ok_IsIn {f : Addr} {fd : FuncData} (Z : Blt K mg) (D : DefAt K mg "is_in" sIsIn pIsIn f fd) : FnOk P w K mg base CX0 1 f fd pIsIn (spIsIn K) := by
  refine D.F.ok scIsIn (fun vs H Q E h => ?_) (fun cdv A outer s0 H vs Q E hr h => ?_)
  · obtain ⟨v, u, r, x, B, rfl, _⟩ := h
    rfl
  have hu := hu_of hr
  obtain ⟨v, u, r, x, B, rfl, ⟨a, vs, rfl, h1, h2⟩, ho, hl, ⟨au, rfl, hu1⟩, hx, k⟩ := h
  refine ⟨_, (pss_one (ps_ret (pe_callB (cr_any rfl) (by rfl) Z.any (by decide +kernel) (pa_cons (pe_lc (own := [("low", 2), ("high", 3)]) (tt := tYes) rfl scIsIn.nd (pi_tup (pv 0)) (blkOk_by (own := [("low", 2), ("high", 3)]) (N := nIsIn) (sc := defScope sIsIn) (by decide +kernel)) (fun _ _ _ _ _ => (pg_tupK K (n := 2) rfl (pgs_cons (pg_name (i := 2) scIsIn.nd rfl (Or.inl rfl)) (pgs_cons (pg_name (i := 3) scIsIn.nd rfl (Or.inl rfl)) pgs_nil)))) (fun _ _ _ _ _ => pts_nil) (fun _ _ _ _ _ => (pe_and (pe_cmpR (op_leTK K hr.units0) (pv 2) (pv 1) (nomark _)) (pe_one (pe_or (pe_cmpR op_isN (pv 3) pe_non (nomark _)) (pe_one (pe_cmpR (op_ltTK K hr.units0) (pv 1) (pv 3) (nomark _)))))))) pa_nil)))), ?_⟩
  have lv := paired_len h2
  refine ⟨_, rfl, a, rfl, ⟨_, h1⟩, fun L hL => lc_tup (K := K) (a := a) (xs := vs) (fun i H' => H' L = some (.lst (((r.take i).map fun p => inP p x).map V.bl)) ∧ Same H H') ⟨upd_same, Same.new hL⟩ (fun i H' _ ⟨_, s⟩ => tupS_same s h1) ?_ ?_⟩
  · rintro i y H1 hi ⟨e1, s1⟩
    obtain ⟨p, hr, ap, lo, hi', rfl, g1, ⟨al, rfl, g2⟩, g3⟩ := paired_get h2 hi
    have hp := ho p (List.mem_of_getElem? hr)
    refine ⟨ap, _, rfl, tupS_same s1 g1, rfl, _, _, rfl, _, _, rfl, rfl, rfl, ?_⟩
    have fin : ∀ (b : Bool), b = inP p x → ∃ acc, H1 L = some (.lst acc) ∧ acc.length < sizeLine ∧ (upd H1 L (.lst (acc ++ [.bl b])) L = some (.lst (((r.take (i + 1)).map fun p => inP p x).map V.bl)) ∧ Same H (upd H1 L (.lst (acc ++ [.bl b])))) := by
      rintro b rfl
      refine ⟨_, e1, ?_, ?_, Same.out s1 hL⟩
      · have := (List.getElem?_eq_some_iff.mp hr).1
        rw [List.length_map, List.length_map, List.length_take]
        have : sizeLine = 16777216 := by decide
        omega
      · have e : r.take (i + 1) = r.take i ++ [p] := by rw [List.take_add_one, hr]; rfl
        rw [upd_same, e, List.map_append, List.map_append]
        rfl
    refine ⟨_, rfl, _, rfl, al, au, p.1, x, rfl, rfl, tupS_same s1 g2, tupS_same s1 hu1, ?_⟩
    rw [le5 hp.1 hx]
    refine ⟨_, rfl, ?_⟩
    cases c1 : HT.lexLt x p.1 with
    | true =>
      refine iteF ?_
      exact fin false (by unfold inP; rw [c1]; rfl)
    | false =>
      refine iteT ?_
      refine ⟨_, rfl, rfl, _, rfl, ?_⟩
      cases e : p.2 with
      | none =>
        rw [e] at g3
        obtain rfl : hi' = .non := g3
        refine iteT ?_
        exact fin true (by unfold inP; rw [c1, e]; rfl)
      | some z =>
        rw [e] at g3
        obtain ⟨az, rfl, hz⟩ := (show IV K H hi' z from g3)
        refine iteF ?_
        exact ⟨_, rfl, _, rfl, au, az, x, z, rfl, rfl, tupS_same s1 hu1, tupS_same s1 hz, fin _ (by unfold inP; rw [c1, e]; rfl)⟩
  · rintro H1 ⟨e1, s1⟩
    rw [lv, List.take_length] at e1
    have q := k _ s1
    have eb : (r.map fun p => inP p x).any id = inB r x := by
      unfold inB
      rw [List.any_map]
      rfl
    rw [← eb] at q
    exact ⟨L, _, rfl, SqL.of e1, q⟩
theorem ok_Every {f : Addr} {fd : FuncData} (Z : Blt K mg) (D : DefAt K mg "every" sEvery pEvery f fd) : FnOk P w K mg base CX0 1 f fd pEvery (spEvery K) := by
  refine D.F.ok scEvery (fun vs H Q E h => ?_) (fun cdv A outer s0 H vs Q E hr h => ?_)
  · obtain ⟨rfl, _⟩ := h
    rfl
  have hu := hu_of hr
  obtain ⟨rfl, k⟩ := h
  obtain ⟨a_FIRST, hg_FIRST, hF0⟩ := Z.g_FIRST
  refine ⟨_, (pss_one (ps_ret (pe_tup (pa_cons (pe_tup (pa_cons (pe_glob (v := .ref a_FIRST) rfl hg_FIRST rfl) (pa_cons pe_non pa_nil))) pa_nil)))), ?_⟩
  refine ⟨by show 2 ≤ sizeLine; decide, fun t ht => ⟨by show 1 ≤ sizeLine; decide, fun p hp => ?_⟩⟩
  have s1 := Same.new (o := .tup [V.ref a_FIRST, .non]) ht
  have s2 := Same.new (o := .tup [V.ref t]) hp
  exact k _ p (s1.trans s2) (s1.free hp) ⟨p, _, rfl, SqT.of upd_same, .cons ⟨t, _, _, rfl, SqT.of (s2 _ _ upd_same), ⟨a_FIRST, rfl, hF0 _⟩, rfl⟩ .nil⟩
theorem ok_LeastIn {f : Addr} {fd : FuncData} {fCheckRange : Addr} {fdCheckRange : FuncData} (Z : Blt K mg) (D : DefAt K mg "least_in" sLeastIn pLeastIn f fd) (DCheckRange : DefAt K mg "check_range" sCheckRange pCheckRange fCheckRange fdCheckRange) (GCheckRange : FnOk P w K mg base CX0 5 fCheckRange fdCheckRange pCheckRange (spCheckRange K)) : FnOk P w K mg base CX0 6 f fd pLeastIn (spLeastIn K) := by
  refine D.F.ok scLeastIn (fun vs H Q E h => ?_) (fun cdv A outer s0 H vs Q E hr h => ?_)
  · obtain ⟨v, r, B, rfl, _⟩ := h
    rfl
  have hu := hu_of hr
  obtain ⟨v, r, B, rfl, h1, ho, hB, hl, k⟩ := h
  refine ⟨_, (pss_cons (ps_expr (pe_call GCheckRange (hr.mono (by decide)) rfl DCheckRange.g DCheckRange.F.kp DCheckRange.b .nil pass0 (pa_cons (pv 0) pa_nil)))
    (pss_cons (ps_if (pt_cmpR (op_eqD hr.units) (pv 0) (pe_tup pa_nil) (nomark _))
    (pss_one (ps_ret pe_non))
    pss_nil)
    (pss_one (ps_ret (pe_ix ix_tup (pe_ix ix_tup (pv 0) pe_int (fun _ _ => rfl)) pe_int (fun _ _ => rfl)))))), ?_⟩
  refine ⟨_, rfl, v, r, B, rfl, h1, ho, hl, fun H1 s1 => ?_⟩
  refine ⟨_, rfl, Nat.zero_le _, fun t ht => ?_⟩
  have s2 := s1.trans (Same.new (o := .tup []) ht)
  have et : upd H1 t (.tup []) t = some (.tup []) := upd_same
  generalize upd H1 t (.tup []) = H2 at s2 et
  have h2 := h1.tk (TKp.of (K := K) s2)
  have rp := (rq_rd ho hB hl).rp (by decide) (by decide)
  refine ⟨RD r, .tuple [], h2.dp, .tup (SqT.of et) .nil, rp.2.1, by decide, _, rfl, ?_⟩
  have eq : PyData.eqv (RD r) (.tuple []) = r.isEmpty := by
    unfold RD
    rw [eqv_nilT]
    cases r <;> rfl
  rw [eq]
  cases r with
  | nil => exact iteT (k _ .non s2 rfl)
  | cons p r =>
    refine iteF ?_
    obtain ⟨a, vs, rfl, g1, g2⟩ := h2
    cases g2 with
    | cons gp gr =>
      obtain ⟨ap, lo, hi, rfl, q1, q2, q3⟩ := gp
      exact ⟨_, rfl, a, _, _, _, rfl, rfl, g1, atI_nat (j := 0) rfl, ap, _, _, _, rfl, rfl, q1, atI_nat (j := 0) rfl, k _ lo s2 q2⟩
end


abbrev sLMixed : Stmt := top 28
abbrev nLMixed : List Str := ["_law_deck_here", "_law_some", "_law_marks", "_law_at", "_law_mark"]
abbrev pLMixed : List Str := ["_law_deck_here", "_law_some"]
theorem scLMixed : FnScope nLMixed pLMixed (defScope sLMixed) := ⟨rfl, rfl, rfl, by decide +kernel, rfl, by decide +kernel, by decide +kernel⟩
abbrev sLIn : Stmt := top 33
abbrev nLIn : List Str := ["_law_span", "_law_version_here", "_law_low", "_law_high"]
abbrev pLIn : List Str := ["_law_span", "_law_version_here"]
theorem scLIn : FnScope nLIn pLIn (defScope sLIn) := ⟨rfl, rfl, rfl, by decide +kernel, rfl, by decide +kernel, by decide +kernel⟩
abbrev sLBorders : Stmt := top 34
abbrev nLBorders : List Str := ["_law_spans", "_law_found", "_law_span", "_law_low", "_law_high"]
abbrev pLBorders : List Str := ["_law_spans"]
theorem scLBorders : FnScope nLBorders pLBorders (defScope sLBorders) := ⟨rfl, rfl, rfl, by decide +kernel, rfl, by decide +kernel, by decide +kernel⟩
def spLMixed : Sp := fun vs H Q _ => ∃ (d l s : Addr) (xs : List V), vs = [.ref d, .ref s] ∧ Deck d l H ∧ H s = some (.lst xs) ∧ s ≠ l ∧ xs.length ≤ 3000 ∧ ∀ H' p ys, Kp d l H H' → Deck d l H' → H p = none → H' p = some (.lst ys) → ys.Perm xs → Q (.ref p) H'
def spLIn (K : PySem.W.Frag) : Sp := fun vs H Q _ => ∃ (v u : V) (r : Rg) (x : Vr) (B : Int), vs = [v, u] ∧ SV K H v r ∧ (∀ p ∈ r, PrOK B p) ∧ r.length ≤ 1000 ∧ IV K H u x ∧ Ver B x ∧ ∀ H', Same H H' → Q (.bl (inB r x)) H'
def spLBorders (K : PySem.W.Frag) : Sp := fun vs H Q _ => ∃ (a : Addr) (ss : List V) (rs : List Rg) (B : Int), vs = [.ref a] ∧ H a = some (.lst ss) ∧ Paired (SV K H) ss rs ∧ (∀ r ∈ rs, (∀ p ∈ r, PrOK B p) ∧ r.length ≤ 1000) ∧ 3 ≤ B ∧ (rs.flatMap flat).length + 1 < 64 ∧ ∀ H' p us xs, Same H H' → H p = none → H' p = some (.lst us) → Paired (IV K H') us xs → xs.Pairwise lt → (∀ x, x ∈ xs ↔ x = [0, 0, 0, 0, 0] ∨ x ∈ rs.flatMap flat) → xs.length < 64 → Q (.ref p) H'
theorem small3000 {n : Nat} (h : n ≤ 10000) : n < sizeLine := Nat.lt_of_le_of_lt h (by decide)
section
variable {P : Program} {w : World} {K : PySem.W.Frag} {mg : Str → Option Value} {base : Heap}
theorem ok_LMixed {f : Addr} {fd : FuncData} {fLDraw : Addr} {fdLDraw : FuncData} (Z : Blt K mg) (D : DefAt K mg "_law_mixed" sLMixed pLMixed f fd) (DLDraw : DefAt K mg "_law_draw" sLDraw pLDraw fLDraw fdLDraw) (GLDraw : FnOk P w K mg base CX0 1 fLDraw fdLDraw pLDraw spLDraw) : FnOk P w K mg base CX0 2 f fd pLMixed spLMixed := by
  refine D.F.ok scLMixed (fun vs H Q E h => ?_) (fun cdv A outer s0 H vs Q E hr h => ?_)
  · obtain ⟨d, l, s, xs, rfl, _⟩ := h
    rfl
  have hu := hu_of hr
  obtain ⟨d, l, s, xs, rfl, Dk, hs, nsl, hl, k⟩ := h
  refine ⟨_, (pss_cons (ps_set (i := 2) scLMixed.nd rfl (Or.inl rfl) (pe_callB cr_sortedP (by rfl) Z.sorted (by decide +kernel) (pa_cons (pe_lc (own := [("_law_at", 3)]) (g := gName 3) (tt := tYes) rfl scLMixed.nd (pi_range1 (by rfl) Z.range (pa_cons (pe_callB call_len_seq (by rfl) Z.len (by decide +kernel) (pa_cons (pv 1) pa_nil)) pa_nil)) (blkOk_by (own := [("_law_at", 3)]) (N := nLMixed) (sc := defScope sLMixed) (by decide +kernel)) (fun _ _ _ _ _ => (pg_name (i := 3) scLMixed.nd rfl (Or.inl rfl))) (fun _ _ _ _ _ => pts_nil) (fun _ _ _ _ _ => (pe_tup (pa_cons (pe_call GLDraw (hr.mono (by decide)) rfl DLDraw.g DLDraw.F.kp DLDraw.b .nil pass0 (pa_cons (pv 0) (pa_cons pe_int pa_nil))) (pa_cons (pv 3) pa_nil))))) pa_nil)))
    (pss_one (ps_ret (pe_lc (own := [("_law_mark", 4), ("_law_at", 3)]) (tt := tYes) rfl scLMixed.nd (pi_list (pv 2)) (blkOk_by (own := [("_law_mark", 4), ("_law_at", 3)]) (N := nLMixed) (sc := defScope sLMixed) (by decide +kernel)) (fun _ _ _ _ _ => (pg_tupK K (n := 2) rfl (pgs_cons (pg_name (i := 4) scLMixed.nd rfl (Or.inl rfl)) (pgs_cons (pg_name (i := 3) scLMixed.nd rfl (Or.inl rfl)) pgs_nil)))) (fun _ _ _ _ _ => pts_nil) (fun _ _ _ _ _ => (pe_ix (ix_listK K) (pv 1) (pv 3) (fun _ _ => rfl))))))), ?_⟩
  refine ⟨_, rfl, s, _, rfl, .inl (SqL.of hs), (xs.length : Int), rfl, by omega, by omega, fun L hL => ?_⟩
  have nL : L ≠ l := Dk.free hL
  refine lc_range (lo := 0) (n := (xs.length : Int).toNat) (fun i H' => ∃ ts, H' L = some (.lst ts) ∧ Paired (fun t j => ∃ a r, t = V.ref a ∧ H' a = some (.tup [.int r, .int ((j : Nat) : Int)])) ts (List.range i) ∧ Kp d l H H' ∧ Deck d l H') ⟨[], upd_same, .nil, Kp.new hL, Dk.new hL⟩ ?_ ?_
  · rintro i H1 hi ⟨ts, e1, e2, k1, D1⟩
    have lts := (paired_len e2).trans List.length_range
    refine ⟨rfl, ?_⟩
    refine ⟨_, rfl, d, l, _, rfl, D1, by decide, by decide, fun H2 r k2 D2 _ _ => ⟨_, rfl, by show 2 ≤ sizeLine; decide, fun t ht => ?_⟩⟩
    have e1' := k2.lst D1 nL e1
    have nLt : L ≠ t := ne_of_none e1' ht
    have s3 : Same H2 (upd H2 t (.tup [.int r, .int (0 + (i : Int))])) := Same.new ht
    have et : upd H2 t (.tup [.int r, .int (0 + (i : Int))]) t = some (.tup [.int r, .int ((i : Nat) : Int)]) := by rw [upd_same, Int.zero_add]
    have D3 := D2.new (o := .tup [.int r, .int (0 + (i : Int))]) ht
    have k3 : Kp d l H2 (upd H2 t (.tup [.int r, .int (0 + (i : Int))])) := Kp.new ht
    generalize upd H2 t (.tup [.int r, .int (0 + (i : Int))]) = H3 at s3 et D3 k3
    have e3 := s3 _ _ e1'
    refine ⟨ts, e3, by rw [lts]; exact small3000 (by omega), ts ++ [.ref t], upd_same, ?_, ((k1.trans k2).trans k3).out hL, D3.mut (D3.nedl e3) nL⟩
    rw [List.range_succ]
    refine paired_app ?_ (.cons ⟨t, r, rfl, by rw [upd_ne nLt.symm]; exact et⟩ .nil)
    refine L2.Paired.mapP e2 fun u j hu => ?_
    obtain ⟨a, r', rfl, ha⟩ := hu
    refine ⟨a, r', rfl, ?_⟩
    rw [upd_ne (ne_of ha e1 (fun q => nomatch q))]
    exact s3 _ _ (k2.tup D1 ha)
  · rintro H1 ⟨ts, e1, e2, k1, D1⟩
    refine ⟨L, ts, rfl, SqL.of e1, fun x hx => ?_, fun ys p perm hp => ?_⟩
    · obtain ⟨j, _, a, r, rfl, ha⟩ := paired_mem e2 hx
      exact ⟨a, r, _, rfl, ha⟩
    · obtain ⟨is, pi, hi⟩ := perm_paired perm e2
      have s2 : Same H1 (upd H1 p (.lst ys)) := Same.new hp
      have ep : upd H1 p (.lst ys) p = some (.lst ys) := upd_same
      have D2 := D1.new (o := .lst ys) hp
      have k2 : Kp d l H1 (upd H1 p (.lst ys)) := Kp.new hp
      generalize upd H1 p (.lst ys) = H2 at s2 ep D2 k2
      have hs2 := (k1.trans k2).lst Dk nsl hs
      have lis : is.length = xs.length := by rw [pi.length_eq, List.length_range]; omega
      refine ⟨_, rfl, p, rfl, ⟨_, SqL.of ep⟩, fun M hM => lc_list (K := K) (a := p) (xs := ys) (fun i H' => H' M = some (.lst ((is.take i).map fun j => xs.getD j .non)) ∧ Same H2 H') ⟨upd_same, Same.new hM⟩ (fun i H' _ ⟨_, s⟩ => SqL.of (s _ _ ep)) ?_ ?_⟩
      · rintro i y H3 hy ⟨e3, s3⟩
        obtain ⟨j, hj, a, r, rfl, ha⟩ := paired_get hi hy
        have hjn : j < xs.length := by
          have := pi.mem_iff.mp (List.mem_of_getElem? hj)
          have := List.mem_range.mp this
          omega
        refine ⟨a, _, rfl, SqT.of (s3 _ _ (s2 _ _ ha)), rfl, _, _, rfl, _, _, rfl, rfl, rfl, ?_⟩
        refine ⟨_, rfl, _, rfl, s, xs, _, xs[j], rfl, rfl, SqL.of (s3 _ _ hs2), atI_nat (List.getElem?_eq_getElem hjn), _, e3, ?_, ?_, Same.out s3 hM⟩
        · rw [List.length_map, List.length_take]
          exact small3000 (by omega)
        · rw [upd_same, List.take_add_one, hj, List.map_append]
          show _ = some (HO.lst (_ ++ [xs.getD j .non]))
          rw [List.getD_eq_getElem?_getD, List.getElem?_eq_getElem hjn]
          rfl
      · rintro H3 ⟨e3, s3⟩
        have e4 : ys.length = is.length := paired_len hi
        rw [e4, List.take_length] at e3
        refine k H3 M _ ((k1.trans k2).trans (Kp.same s3)) (D2.mono s3) ?_ e3 ?_
        · exact (k1.trans k2).free_back D2 hM
        · have p2 : (is.map fun j => xs.getD j V.non).Perm ((List.range xs.length).map fun j => xs.getD j V.non) := by
            have e5 : (xs.length : Int).toNat = xs.length := by omega
            rw [e5] at pi
            exact pi.map _
          have e6 : ((List.range xs.length).map fun j => xs.getD j V.non) = xs := by
            refine List.ext_getElem (by simp) fun j h1 h2 => ?_
            simp [List.getD_eq_getElem?_getD, h2]
          rw [e6] at p2
          exact p2
theorem ok_LIn {f : Addr} {fd : FuncData} (Z : Blt K mg) (D : DefAt K mg "_law_in" sLIn pLIn f fd) : FnOk P w K mg base CX0 1 f fd pLIn (spLIn K) := by
  refine D.F.ok scLIn (fun vs H Q E h => ?_) (fun cdv A outer s0 H vs Q E hr h => ?_)
  · obtain ⟨v, u, r, x, B, rfl, _⟩ := h
    rfl
  have hu := hu_of hr
  obtain ⟨v, u, r, x, B, rfl, ⟨a, vs, rfl, h1, h2⟩, ho, hl, ⟨au, rfl, hu1⟩, hx, k⟩ := h
  refine ⟨_, (pss_one (ps_ret (pe_cmpR (op_neD hr.units) (pe_lc (own := [("_law_low", 2), ("_law_high", 3)]) rfl scLIn.nd (pi_tup (pv 0)) (blkOk_by (own := [("_law_low", 2), ("_law_high", 3)]) (N := nLIn) (sc := defScope sLIn) (by decide +kernel)) (fun _ _ _ _ _ => (pg_tupK K (n := 2) rfl (pgs_cons (pg_name (i := 2) scLIn.nd rfl (Or.inl rfl)) (pgs_cons (pg_name (i := 3) scLIn.nd rfl (Or.inl rfl)) pgs_nil)))) (fun _ _ _ _ _ => (pts_one (PW.pt (pw_and (pt_cmpR (op_leTK K hr.units0) (pv 2) (pv 1) (nomark _)) (pw_and1 (PW.pt (pw_or (pt_cmpR op_isN (pv 3) pe_non (nomark _)) (pw_or1 (pt_cmpR (op_ltTK K hr.units0) (pv 1) (pv 3) (nomark _)))))))))) (fun _ _ _ _ _ => pe_int)) (pe_lst pa_nil) (nomark _)))), ?_⟩
  have lv := paired_len h2
  refine ⟨_, rfl, a, rfl, ⟨_, h1⟩, fun L hL => lc_tup (K := K) (a := a) (xs := vs) (fun i H' => H' L = some (.lst (((r.take i).filter fun p => inP p x).map fun _ => V.int 1)) ∧ Same H H') ⟨upd_same, Same.new hL⟩ (fun i H' _ ⟨_, s⟩ => tupS_same s h1) ?_ ?_⟩
  · rintro i y H1 hi ⟨e1, s1⟩
    obtain ⟨p, hr, ap, lo, hi', rfl, g1, ⟨al, rfl, g2⟩, g3⟩ := paired_get h2 hi
    have hp := ho p (List.mem_of_getElem? hr)
    have et : r.take (i + 1) = r.take i ++ [p] := by rw [List.take_add_one, hr]; rfl
    refine ⟨ap, _, rfl, tupS_same s1 g1, rfl, _, _, rfl, _, _, rfl, rfl, rfl, ?_⟩
    have yes : inP p x = true → ∃ acc, H1 L = some (.lst acc) ∧ acc.length < sizeLine ∧ (upd H1 L (.lst (acc ++ [.int 1])) L = some (.lst (((r.take (i + 1)).filter fun p => inP p x).map fun _ => V.int 1)) ∧ Same H (upd H1 L (.lst (acc ++ [.int 1])))) := by
      intro hb
      refine ⟨_, e1, ?_, ?_, Same.out s1 hL⟩
      · have := (List.getElem?_eq_some_iff.mp hr).1
        have := List.length_filter_le (fun p => inP p x) (r.take i)
        rw [List.length_take] at this
        rw [List.length_map]
        exact small3000 (by omega)
      · rw [upd_same, et, List.filter_append, List.map_append, List.filter_cons, hb]
        rfl
    have no : inP p x = false → (H1 L = some (.lst (((r.take (i + 1)).filter fun p => inP p x).map fun _ => V.int 1)) ∧ Same H H1) := by
      intro hb
      refine ⟨?_, s1⟩
      rw [et, List.filter_append, List.filter_cons, hb]
      simp only [Bool.false_eq_true, if_false, List.filter_nil, List.append_nil]
      exact e1
    refine ⟨_, rfl, _, rfl, al, au, p.1, x, rfl, rfl, tupS_same s1 g2, tupS_same s1 hu1, ?_⟩
    rw [le5 hp.1 hx]
    refine ⟨_, rfl, ?_⟩
    cases c1 : HT.lexLt x p.1 with
    | true =>
      refine iteF ?_
      exact no (by unfold inP; rw [c1]; rfl)
    | false =>
      refine iteT ?_
      refine ⟨_, rfl, rfl, _, rfl, ?_⟩
      cases e : p.2 with
      | none =>
        rw [e] at g3
        obtain rfl : hi' = .non := g3
        refine iteT ?_
        exact yes (by unfold inP; rw [c1, e]; rfl)
      | some z =>
        rw [e] at g3
        obtain ⟨az, rfl, hz⟩ := (show IV K H hi' z from g3)
        refine iteF ?_
        refine ⟨_, rfl, _, rfl, au, az, x, z, rfl, rfl, tupS_same s1 hu1, tupS_same s1 hz, _, rfl, ?_⟩
        cases c2 : HT.lexLt x z with
        | true => exact yes (by unfold inP; rw [c1, e]; exact c2)
        | false => exact no (by unfold inP; rw [c1, e]; exact c2)
  · rintro H1 ⟨e1, s1⟩
    rw [lv, List.take_length] at e1
    refine ⟨Nat.zero_le _, fun q hq => ?_⟩
    have s2 := s1.trans (Same.new (o := .lst []) hq)
    have e2 := Same.new (o := .lst []) hq _ _ e1
    refine neNil (SqL.of e2) (SqL.of upd_same) ?_ ?_
    · have := sh_ints ((r.filter fun p => inP p x).map fun _ => (1 : Int))
      refine ⟨_, ?_, this⟩
      have e3 : ((r.filter fun p => inP p x).map fun _ => V.int 1) = ((r.filter fun p => inP p x).map fun _ => (1 : Int)).map V.int := by rw [List.map_map]; rfl
      rw [e3]
      exact DpAll.ints _
    · have q := k _ s2
      have eb : (!((r.filter fun p => inP p x).map fun _ => V.int 1).isEmpty) = inB r x := by
        unfold inB
        clear k h2 e1 hl lv ho q e2 s2 s1 hq
        induction r with
        | nil => rfl
        | cons p r ih =>
          rw [List.filter_cons, List.any_cons]
          cases c : inP p x with
          | true => rfl
          | false =>
            simp only [Bool.false_eq_true, if_false, Bool.false_or]
            exact ih
      rw [eb]
      exact q
theorem ok_LBorders {f : Addr} {fd : FuncData} (Z : Blt K mg) (D : DefAt K mg "_law_borders" sLBorders pLBorders f fd) : FnOk P w K mg base CX0 1 f fd pLBorders (spLBorders K) := by
  refine D.F.ok scLBorders (fun vs H Q E h => ?_) (fun cdv A outer s0 H vs Q E hr h => ?_)
  · obtain ⟨a, ss, rs, B, rfl, _⟩ := h
    rfl
  have hu := hu_of hr
  obtain ⟨a, ss, rs, B, rfl, h1, h2, ho, hB, hn, k⟩ := h
  refine ⟨_, (pss_cons (ps_set (i := 1) scLBorders.nd rfl (Or.inl rfl) (pe_lst (pa_cons (pe_tup (pa_cons pe_int (pa_cons pe_int (pa_cons pe_int (pa_cons pe_int (pa_cons pe_int pa_nil)))))) pa_nil)))
    (pss_cons (ps_for PassesOwn.never rfl (pi_list (pv 0)) (pg_name (i := 2) scLBorders.nd rfl (Or.inl rfl))
    (pss_one (ps_for PassesOwn.never rfl (pi_tup (pv 2)) (pg_tup rfl (pgs_cons (pg_name (i := 3) scLBorders.nd rfl (Or.inl rfl)) (pgs_cons (pg_name (i := 4) scLBorders.nd rfl (Or.inl rfl)) pgs_nil)))
      (pss_one (ps_expr (pe_bm PySem.F.plainAttrs_list PySem.F.slot_list_extend PySem.F.type_list_extend mt_extend (pv 1) (pa_cons (pe_ifExp (pt_cmpR op_isN (pv 4) pe_non (nomark _)) (pe_lst (pa_cons (pv 3) pa_nil)) (pe_lst (pa_cons (pv 3) (pa_cons (pv 4) pa_nil)))) pa_nil)))))))
    (pss_one (ps_ret (pe_callB (cr_sortedT rfl) (by rfl) Z.sorted (by decide +kernel) (pa_cons (pe_callTy (cr_setOfT rfl hr.units) (by rfl) Z.set (by decide +kernel) (pa_cons (pv 1) pa_nil)) pa_nil)))))), ?_⟩
  refine ⟨by show 5 ≤ sizeLine; decide, fun z hz => ?_⟩
  have s1 : Same H (upd H z (.tup [.int 0, .int 0, .int 0, .int 0, .int 0])) := Same.new hz
  have ez : upd H z (.tup [.int 0, .int 0, .int 0, .int 0, .int 0]) z = some (.tup (([0, 0, 0, 0, 0] : Vr).map V.int)) := upd_same
  generalize upd H z (.tup [.int 0, .int 0, .int 0, .int 0, .int 0]) = H1 at s1 ez
  refine ⟨by show 1 ≤ sizeLine; decide, fun F hF => ?_⟩
  have s2 : Same H1 (upd H1 F (.lst [.ref z])) := Same.new hF
  have eF : upd H1 F (.lst [.ref z]) F = some (.lst [.ref z]) := upd_same
  have hFH := s1.free hF
  generalize upd H1 F (.lst [.ref z]) = H2 at s2 eF
  have ez2 := s2 _ _ ez
  have s12 := s1.trans s2
  refine ⟨_, rfl, a, rfl, ⟨_, SqL.of (s12 _ _ h1)⟩, for_list (K := K) (a := a) (xs := ss) (fun i σ H' => ∃ (us : List V) (v3 v4 v5 : Option V), σ = [some (.ref a), some (.ref F), v3, v4, v5] ∧ H' F = some (.lst us) ∧ Paired (IV K H') us ([0, 0, 0, 0, 0] :: (rs.take i).flatMap flat) ∧ Same H H')
    ⟨[.ref z], none, none, none, rfl, eF, .cons ⟨z, rfl, SqT.of ez2⟩ .nil, s12⟩ (fun i σ H' _ ⟨_, _, _, _, _, _, _, s⟩ => SqL.of (s _ _ h1)) ?_ ?_⟩
  · rintro i y σ H3 hi ⟨us, v3, v4, v5, rfl, e1, e2, s3⟩
    obtain ⟨r, hr, b, vs, rfl, q1, q2⟩ := paired_get h2 hi
    have hro := ho r (List.mem_of_getElem? hr)
    have q1' := tupS_same s3 q1
    have bound : ([0, 0, 0, 0, 0] :: (rs.take i).flatMap flat).length + (flat r).length ≤ 63 := by
      have e : rs = rs.take i ++ r :: rs.drop (i + 1) := by
        obtain ⟨hlt, hg⟩ := List.getElem?_eq_some_iff.mp hr
        rw [← hg, List.getElem_cons_drop, List.take_append_drop]
      rw [e, List.flatMap_append, List.length_append, List.flatMap_cons, List.length_append] at hn
      rw [List.length_cons]
      omega
    refine ⟨_, rfl, b, rfl, ⟨_, q1'⟩, for_tup (K := K) (a := b) (xs := vs) (fun j σ H' => ∃ (us : List V) (v4 v5 : Option V), σ = [some (.ref a), some (.ref F), some (.ref b), v4, v5] ∧ H' F = some (.lst us) ∧ Paired (IV K H') us (([0, 0, 0, 0, 0] :: (rs.take i).flatMap flat) ++ flat (r.take j)) ∧ Same H H')
      ⟨us, v4, v5, rfl, e1, by simpa [flat] using e2, s3⟩ (fun j σ H' _ ⟨_, _, _, _, _, _, s⟩ => tupS_same s q1) ?_ ?_⟩
    · rintro j y σ H4 hj ⟨us, v4, v5, rfl, e1, e2, s4⟩
      obtain ⟨p, hp, ap, lo, hi', rfl, g1, g2, g3⟩ := paired_get q2 hj
      have tk4 := TKp.of (K := K) s4
      have b2 : us.length + 2 ≤ 64 := by
        have := paired_len e2
        have e : flat r = flat (r.take j) ++ (p.1 :: p.2.toList) ++ flat (r.drop (j + 1)) := by
          obtain ⟨hlt, hg⟩ := List.getElem?_eq_some_iff.mp hp
          have e : r = r.take j ++ p :: r.drop (j + 1) := by rw [← hg, List.getElem_cons_drop, List.take_append_drop]
          conv => lhs; rw [e]
          unfold flat
          simp
        rw [e] at bound
        simp only [List.length_append, List.length_cons] at bound this
        omega
      refine ⟨ap, _, rfl, tk4 _ _ g1, rfl, _, _, rfl, _, _, rfl, rfl, ?_⟩
      refine ⟨_, rfl, .inl ⟨rfl, _, SqL.of e1⟩, _, rfl, rfl, _, rfl, ?_⟩
      obtain ⟨al, rfl, gl⟩ := id g2
      cases e : p.2 with
      | none =>
        rw [e] at g3
        obtain rfl : hi' = .non := g3
        refine iteT ?_
        refine ⟨_, rfl, by show 1 ≤ sizeLine; decide, fun x hx => ?_⟩
        have s5 : Same H4 (upd H4 x (.lst [.ref al])) := Same.new hx
        have ex : upd H4 x (.lst [.ref al]) x = some (.lst [.ref al]) := upd_same
        generalize upd H4 x (.lst [.ref al]) = H5 at s5 ex
        have e1' := s5 _ _ e1
        refine ⟨F, x, us, _, rfl, rfl, e1', ex, ?_, ?_⟩
        · have : sizeLine = 16777216 := by decide
          show us.length + 1 ≤ sizeLine
          omega
        · refine ⟨_, _, _, rfl, upd_same, ?_, Same.out (s4.trans s5) hFH⟩
          rw [flat_snoc hp, e, ← List.append_assoc]
          have tk : TKp K H4 _ := (TKp.of s5).trans (TKp.mut (ys := us ++ [V.ref al]) e1')
          exact paired_app (ivs_tk tk e2) (.cons ((g2.same tk4).same tk) .nil)
      | some z' =>
        rw [e] at g3
        obtain ⟨ah, rfl, gh⟩ := (show IV K H hi' z' from g3)
        refine iteF ?_
        refine ⟨_, rfl, _, rfl, by show 2 ≤ sizeLine; decide, fun x hx => ?_⟩
        have s5 : Same H4 (upd H4 x (.lst [.ref al, .ref ah])) := Same.new hx
        have ex : upd H4 x (.lst [.ref al, .ref ah]) x = some (.lst [.ref al, .ref ah]) := upd_same
        generalize upd H4 x (.lst [.ref al, .ref ah]) = H5 at s5 ex
        have e1' := s5 _ _ e1
        refine ⟨F, x, us, _, rfl, rfl, e1', ex, ?_, ?_⟩
        · have : sizeLine = 16777216 := by decide
          show us.length + 2 ≤ sizeLine
          omega
        · refine ⟨_, _, _, rfl, upd_same, ?_, Same.out (s4.trans s5) hFH⟩
          rw [flat_snoc hp, e, ← List.append_assoc]
          have tk : TKp K H4 _ := (TKp.of s5).trans (TKp.mut (ys := us ++ [V.ref al, .ref ah]) e1')
          exact paired_app (ivs_tk tk e2) (.cons ((g2.same tk4).same tk) (.cons ((IV.same ⟨ah, rfl, gh⟩ tk4).same tk) .nil))
    · rintro σ H4 ⟨us, v4, v5, rfl, e1, e2, s4⟩
      refine ⟨us, _, _, _, rfl, e1, ?_, s4⟩
      have e3 : r.take vs.length = r := by rw [paired_len q2, List.take_length]
      rw [e3] at e2
      have e4 : rs.take (i + 1) = rs.take i ++ [r] := by rw [List.take_add_one, hr]; rfl
      rw [e4, List.flatMap_append]
      simpa using e2
  · rintro σ H3 ⟨us, v3, v4, v5, rfl, e1, e2, s3⟩
    have e3 : rs.take ss.length = rs := by rw [paired_len h2, List.take_length]
    rw [e3] at e2
    have hv : ∀ x ∈ ([0, 0, 0, 0, 0] :: rs.flatMap flat), Ver B x := by
      intro x hx
      rcases List.mem_cons.mp hx with rfl | hx
      · exact ⟨0, 0, 0, 0, 0, rfl, by omega⟩
      · obtain ⟨r, hr, hx⟩ := List.mem_flatMap.mp hx
        obtain ⟨p, hp, hx⟩ := List.mem_flatMap.mp hx
        have hpo := (ho r hr).1 p hp
        rcases List.mem_cons.mp hx with rfl | hx
        · exact hpo.1
        · exact hpo.2 x (by simpa using hx)
    refine ⟨_, rfl, ?_⟩
    refine sortset (SqL.of e1) e2 hv hB (by rw [List.length_cons]; exact hn) fun H' p us' xs' s4 hp ep hu asc iff _ hl => k H' p us' xs' (s3.trans s4) (s3.free hp) ep hu asc (fun x => ?_) (by rw [List.length_cons] at hl; omega)
    rw [iff x, List.mem_cons]
end


def spLRange (K : PySem.W.Frag) : Sp := fun vs H Q _ => ∃ (d l s : Addr) (xs : List V) (B : Int) (m : Nat), vs = [.ref d, .ref s, .int (m : Int)] ∧ Deck d l H ∧ H s = some (.lst xs) ∧ s ≠ l ∧ xs.length < 1000000 ∧ 1000000000 ≤ B ∧ (∀ v ∈ xs, VV K B H v) ∧ 1 ≤ m ∧ m ≤ 20 ∧ ∀ H' v r, Kp d l H H' → Deck d l H' → SV K H' v r → RgOK B r → r.length ≤ m → Q v H'
def LVs (K : PySem.W.Frag) (B : Int) (H : Hp) (p : Addr) (us : List V) (ys : List Vr) : Prop := H p = some (.lst us) ∧ Paired (IV K H) us ys ∧ ys.Pairwise lt ∧ (∀ y ∈ ys, Ver B y)
section
variable {P : Program} {w : World} {K : PySem.W.Frag} {mg : Str → Option Value} {base : Heap}
end


abbrev sLPool : Stmt := top 36
abbrev nLPool : List Str := ["_law_deck_here", "_law_spans", "_law_more", "_law_found", "_law_version_here", "_law_turn"]
abbrev pLPool : List Str := ["_law_deck_here", "_law_spans", "_law_more"]
theorem scLPool : FnScope nLPool pLPool (defScope sLPool) := ⟨rfl, rfl, rfl, by decide +kernel, rfl, by decide +kernel, by decide +kernel⟩
def spLPool (K : PySem.W.Frag) : Sp := fun vs H Q _ => ∃ (d l a b : Addr) (ss ms : List V) (rs : List Rg) (B : Int), vs = [.ref d, .ref a, .ref b] ∧ Deck d l H ∧ H a = some (.lst ss) ∧ Paired (SV K H) ss rs ∧ (∀ r ∈ rs, (∀ p ∈ r, PrOK B p) ∧ r.length ≤ 1000) ∧ H b = some (.lst ms) ∧ (∀ v ∈ ms, VV K B H v) ∧ ms.length ≤ 1000 ∧ 1000000000 ≤ B ∧ (rs.flatMap flat).length + 1 < 64 ∧
  ∀ H' p us, Kp d l H H' → Deck d l H' → H p = none → H' p = some (.lst us) → (∀ v ∈ us, VV K (B + 2) H' v) → (∀ x ∈ rs.flatMap flat, ∃ v ∈ us, IV K H' v x) → us.length ≤ 2000 → 4 ≤ us.length → Q (.ref p) H'
section
variable {P : Program} {w : World} {K : PySem.W.Frag} {mg : Str → Option Value} {base : Heap}
theorem ok_LPool {f : Addr} {fd : FuncData} {fLBorders : Addr} {fdLBorders : FuncData} {fLNext : Addr} {fdLNext : FuncData} {fLVersion : Addr} {fdLVersion : FuncData} (Z : Blt K mg) (D : DefAt K mg "_law_pool" sLPool pLPool f fd) (DLBorders : DefAt K mg "_law_borders" sLBorders pLBorders fLBorders fdLBorders) (GLBorders : FnOk P w K mg base CX0 1 fLBorders fdLBorders pLBorders (spLBorders K)) (DLNext : DefAt K mg "_law_next" sLNext pLNext fLNext fdLNext) (GLNext : FnOk P w K mg base CX0 1 fLNext fdLNext pLNext (spLNext K)) (DLVersion : DefAt K mg "_law_version" sLVersion pLVersion fLVersion fdLVersion) (GLVersion : FnOk P w K mg base CX0 4 fLVersion fdLVersion pLVersion (spLVersion K)) : FnOk P w K mg base CX0 5 f fd pLPool (spLPool K) := by
  refine D.F.ok scLPool (fun vs H Q E h => ?_) (fun cdv A outer s0 H vs Q E hr h => ?_)
  · obtain ⟨d, l, a, b, ss, ms, rs, B, rfl, _⟩ := h
    rfl
  have hu := hu_of hr
  obtain ⟨d, l, a, b, ss, ms, rs, B, rfl, Dk, h1, h2, ho, h3, h4, hml, hB, hn, k⟩ := h
  refine ⟨_, (pss_cons (ps_set (i := 3) scLPool.nd rfl (Or.inr rfl) (pe_callTy call_list_of (by rfl) Z.list (by decide +kernel) (pa_cons (pv 2) pa_nil)))
    (pss_cons (ps_for PassesOwn.never rfl (pi_list (pe_call GLBorders (hr.mono (by decide)) rfl DLBorders.g DLBorders.F.kp DLBorders.b .nil pass0 (pa_cons (pv 1) pa_nil))) (pg_name (i := 4) scLPool.nd rfl (Or.inl rfl))
    (pss_cons (ps_expr (pe_bm PySem.F.plainAttrs_list PySem.F.slot_list_extend PySem.F.type_list_extend mt_extend (pv 3) (pa_cons (pe_lst (pa_cons (pv 4) (pa_cons (pe_call GLNext (hr.mono (by decide)) rfl DLNext.g DLNext.F.kp DLNext.b .nil pass0 (pa_cons (pv 4) pa_nil)) (pa_cons (pe_call GLNext (hr.mono (by decide)) rfl DLNext.g DLNext.F.kp DLNext.b .nil pass0 (pa_cons (pe_call GLNext (hr.mono (by decide)) rfl DLNext.g DLNext.F.kp DLNext.b .nil pass0 (pa_cons (pv 4) pa_nil)) pa_nil)) (pa_cons (pe_op op_catA (pe_slice sl_tupA (pv 4) po_none (po_some pe_int)) (pe_tup (pa_cons pe_int (pa_cons pe_int pa_nil)))) pa_nil))))) pa_nil)))
      (pss_one (ps_if (pt_cmpR op_gt (pe_ix ix_tup (pv 4) pe_int (fun _ _ => rfl)) pe_int (nomark _))
      (pss_one (ps_expr (pe_bm PySem.F.plainAttrs_list PySem.F.slot_list_append PySem.F.type_list_append mt_append (pv 3) (pa_cons (pe_op op_catA (pe_slice sl_tupA (pv 4) po_none (po_some pe_int)) (pe_tup (pa_cons (pe_op op_sub (pe_ix ix_tup (pv 4) pe_int (fun _ _ => rfl)) pe_int) pa_nil))) pa_nil))))
      (pss_one (ps_if (PW.pt (pw_and (pt_cmpR op_gt (pe_ix ix_tup (pv 4) pe_int (fun _ _ => rfl)) pe_int (nomark _)) (pw_and1 (pt_cmpR op_eq (pe_ix ix_tup (pv 4) pe_int (fun _ _ => rfl)) pe_int (nomark _)))))
        (pss_one (ps_expr (pe_bm PySem.F.plainAttrs_list PySem.F.slot_list_append PySem.F.type_list_append mt_append (pv 3) (pa_cons (pe_op op_catA (pe_slice sl_tupA (pv 4) po_none (po_some pe_int)) (pe_tup (pa_cons (pe_op op_sub (pe_ix ix_tup (pv 4) pe_int (fun _ _ => rfl)) pe_int) (pa_cons pe_int (pa_cons pe_int pa_nil))))) pa_nil))))
        pss_nil))))))
    (pss_one (ps_ret (pe_op op_cat (pv 3) (pe_lc (own := [("_law_turn", 5)]) (g := gName 5) (tt := tYes) rfl scLPool.nd (pi_range1 (by rfl) Z.range (pa_cons pe_int pa_nil)) (blkOk_by (own := [("_law_turn", 5)]) (N := nLPool) (sc := defScope sLPool) (by decide +kernel)) (fun _ _ _ _ _ => (pg_name (i := 5) scLPool.nd rfl (Or.inl rfl))) (fun _ _ _ _ _ => pts_nil) (fun _ _ _ _ _ => (pe_call GLVersion (hr.mono (by decide)) rfl DLVersion.g DLVersion.F.kp DLVersion.b .nil pass0 (pa_cons (pv 0) (pa_cons (pv 3) pa_nil)))))))))), ?_⟩
  refine ⟨_, rfl, b, ms, rfl, .inl (SqL.of h3), fun F hF => ?_⟩
  have sH1 : Same H (upd H F (.lst ms)) := Same.new hF
  have eH1 : upd H F (.lst ms) F = some (.lst ms) := upd_same
  generalize upd H F (.lst ms) = H1 at sH1 eH1
  have nFl : F ≠ l := Dk.free hF
  refine ⟨_, rfl, a, ss, rs, B, rfl, sH1 _ _ h1, L2.Paired.mapP h2 (fun _ _ q => q.tk (TKp.of sH1)), ho, by omega, hn, fun H2 p0 us0 xs0 s2 hp0 e0 hu0 asc0 iff0 hl0 => ?_⟩
  have sH2 := sH1.trans s2
  have eF2 := s2 _ _ eH1
  have np0 : p0 ≠ F := (ne_of_none eH1 hp0).symm
  have hv0 : ∀ x ∈ xs0, Ver B x := by
    intro x hx
    rcases (iff0 x).mp hx with rfl | hx
    · exact ⟨0, 0, 0, 0, 0, rfl, by omega⟩
    · obtain ⟨r, hr, hx⟩ := List.mem_flatMap.mp hx
      obtain ⟨p, hp, hx⟩ := List.mem_flatMap.mp hx
      have hpo := (ho r hr).1 p hp
      rcases List.mem_cons.mp hx with rfl | hx
      · exact hpo.1
      · exact hpo.2 x (by simpa using hx)
  refine ⟨p0, rfl, ⟨_, SqL.of e0⟩, for_list (K := K) (a := p0) (xs := us0) (fun i σ H' => ∃ (us : List V) (v4 : Option V), σ = [some (.ref d), some (.ref a), some (.ref b), some (.ref F), v4, none] ∧ H' F = some (.lst us) ∧ (∀ v ∈ us, VV K (B + 2) H' v) ∧ (∀ x ∈ xs0.take i, ∃ v ∈ us, IV K H' v x) ∧ us.length ≤ ms.length + 5 * i ∧ Same H H' ∧ H' p0 = some (.lst us0) ∧ TKp K H2 H')
    ⟨ms, none, rfl, eF2, fun v hv => ((h4 v hv).same (TKp.of sH2)).mono (by omega), (fun x hx => absurd hx (by simp)), by omega, sH2, e0, fun _ _ h => h⟩ (fun i σ H' _ ⟨_, _, _, _, _, _, _, _, q, _⟩ => SqL.of q) ?_ ?_⟩
  · rintro i y σ G hi ⟨us, v4, rfl, e1, e2, e3, e4, sG, ep, tG⟩
    obtain ⟨x, hx0, hy⟩ := paired_get hu0 hi
    obtain ⟨ay, rfl, hx⟩ := hy.same tG
    have hver := hv0 x (List.mem_of_getElem? hx0)
    have il : i < 64 := by
      have := (List.getElem?_eq_some_iff.mp hx0).1
      omega
    have usz : us.length + 5 ≤ sizeLine := by
      have : sizeLine = 16777216 := by decide
      omega
    refine ⟨_, rfl, .inl ⟨rfl, _, SqL.of e1⟩, _, rfl, _, rfl, ay, x, _, rfl, hx, hver, fun n1 hn1 => ?_⟩
    have sG1 : Same G (upd G n1 (.tup ((nxt x).map V.int))) := Same.new hn1
    have eG1 : upd G n1 (.tup ((nxt x).map V.int)) n1 = some (.tup ((nxt x).map V.int)) := upd_same
    generalize upd G n1 (.tup ((nxt x).map V.int)) = G1 at sG1 eG1
    refine ⟨_, rfl, ay, x, _, rfl, tupS_same sG1 hx, hver, fun n2 hn2 => ?_⟩
    have sG2 : Same G1 (upd G1 n2 (.tup ((nxt x).map V.int))) := Same.new hn2
    have eG2 : upd G1 n2 (.tup ((nxt x).map V.int)) n2 = some (.tup ((nxt x).map V.int)) := upd_same
    generalize upd G1 n2 (.tup ((nxt x).map V.int)) = G2 at sG2 eG2
    refine ⟨n2, nxt x, _, rfl, SqT.of eG2, hver.nxt, fun n3 hn3 => ?_⟩
    have sG3 : Same G2 (upd G2 n3 (.tup ((nxt (nxt x)).map V.int))) := Same.new hn3
    have eG3 : upd G2 n3 (.tup ((nxt (nxt x)).map V.int)) n3 = some (.tup ((nxt (nxt x)).map V.int)) := upd_same
    generalize upd G2 n3 (.tup ((nxt (nxt x)).map V.int)) = G3 at sG3 eG3
    have s3 := (sG1.trans sG2).trans sG3
    have hx3 := tupS_same s3 hx
    obtain ⟨z0, z1, z2, z3, z4, rfl, hz⟩ := id hver
    refine ⟨_, rfl, 3, rfl, ay, _, rfl, hx3, fun q => absurd q.2 (show ¬ HT.sIx 5 5 (some 3) = 5 by decide), fun _ q1 hq1 => ?_⟩
    have sG4 : Same G3 (upd G3 q1 (.tup (cutV (([z0, z1, z2, z3, z4] : List Int).map V.int) none (some 3)))) := Same.new hq1
    have eG4 : upd G3 q1 (.tup (cutV (([z0, z1, z2, z3, z4] : List Int).map V.int) none (some 3))) q1 = some (.tup (cutV (([z0, z1, z2, z3, z4] : List Int).map V.int) none (some 3))) := upd_same
    generalize upd G3 q1 (.tup (cutV (([z0, z1, z2, z3, z4] : List Int).map V.int) none (some 3))) = G4 at sG4 eG4
    refine ⟨by show 2 ≤ sizeLine; decide, fun q2 hq2 => ?_⟩
    have sG5 : Same G4 (upd G4 q2 (.tup [.int 3, .int 0])) := Same.new hq2
    have eG5 : upd G4 q2 (.tup [.int 3, .int 0]) q2 = some (.tup [.int 3, .int 0]) := upd_same
    generalize upd G4 q2 (.tup [.int 3, .int 0]) = G5 at sG5 eG5
    refine ⟨q1, q2, _, _, rfl, rfl, SqT.of (sG5 _ _ eG4), SqT.of eG5, by show 3 + 2 ≤ sizeLine; decide, (fun q => nomatch q), (fun _ q => nomatch q), fun _ _ q3 hq3 => ?_⟩
    have sG6 : Same G5 (upd G5 q3 (.tup (cutV (([z0, z1, z2, z3, z4] : List Int).map V.int) none (some 3) ++ [.int 3, .int 0]))) := Same.new hq3
    have eG6 : upd G5 q3 (.tup (cutV (([z0, z1, z2, z3, z4] : List Int).map V.int) none (some 3) ++ [.int 3, .int 0])) q3 = some (.tup (cutV (([z0, z1, z2, z3, z4] : List Int).map V.int) none (some 3) ++ [.int 3, .int 0])) := upd_same
    generalize upd G5 q3 (.tup (cutV (([z0, z1, z2, z3, z4] : List Int).map V.int) none (some 3) ++ [.int 3, .int 0])) = G6 at sG6 eG6
    refine ⟨by show 4 ≤ sizeLine; decide, fun ex hex => ?_⟩
    have sG7 : Same G6 (upd G6 ex (.lst [.ref ay, .ref n1, .ref n3, .ref q3])) := Same.new hex
    have eG7 : upd G6 ex (.lst [.ref ay, .ref n1, .ref n3, .ref q3]) ex = some (.lst [.ref ay, .ref n1, .ref n3, .ref q3]) := upd_same
    generalize upd G6 ex (.lst [.ref ay, .ref n1, .ref n3, .ref q3]) = G7 at sG7 eG7
    have s47 := ((sG4.trans sG5).trans sG6).trans sG7
    have s7 := s3.trans s47
    have e7 := s7 _ _ e1
    refine ⟨F, ex, us, _, rfl, rfl, e7, eG7, by show us.length + 4 ≤ sizeLine; omega, ?_⟩
    have tk7 := (TKp.of (K := K) s7).trans (TKp.mut (ys := us ++ [V.ref ay, .ref n1, .ref n3, .ref q3]) e7)
    have e8 : upd G7 F (.lst (us ++ [V.ref ay, .ref n1, .ref n3, .ref q3])) F = some (.lst (us ++ [V.ref ay, .ref n1, .ref n3, .ref q3])) := upd_same
    have tm : ∀ (v : V) (x : Vr), IV K G7 v x → IV K (upd G7 F (.lst (us ++ [V.ref ay, .ref n1, .ref n3, .ref q3]))) v x := fun v x h => h.same (TKp.mut e7)
    have i1 := tm (.ref n1) _ ⟨n1, rfl, SqT.of (s47 _ _ (sG3 _ _ (sG2 _ _ eG1)))⟩
    have i3 := tm (.ref n3) _ ⟨n3, rfl, SqT.of (s47 _ _ eG3)⟩
    have i4 := tm (.ref q3) [z0, z1, z2, 3, 0] ⟨q3, rfl, SqT.of (sG7 _ _ eG6)⟩
    have s8 : Same H (upd G7 F (.lst (us ++ [V.ref ay, .ref n1, .ref n3, .ref q3]))) := Same.out (sG.trans s7) hF
    have ep8 : upd G7 F (.lst (us ++ [V.ref ay, .ref n1, .ref n3, .ref q3])) p0 = some (.lst us0) := by rw [upd_ne np0]; exact s7 _ _ ep
    generalize upd G7 F (.lst (us ++ [V.ref ay, .ref n1, .ref n3, .ref q3])) = G8 at tk7 e8 i1 i3 i4 s8 ep8
    have hx8 := tk7 _ _ hx
    have all8 : ∀ v ∈ us ++ [V.ref ay, .ref n1, .ref n3, .ref q3], VV K (B + 2) G8 v := by
      intro v hv
      rcases List.mem_append.mp hv with z | z
      · exact (e2 v z).same tk7
      · simp only [List.mem_cons, List.not_mem_nil, or_false] at z
        rcases z with rfl | rfl | rfl | rfl
        · exact ⟨_, ⟨ay, rfl, hx8⟩, hver.mono (by omega)⟩
        · exact ⟨_, i1, hver.nxt.mono (by omega)⟩
        · exact ⟨_, i3, hver.nxt.nxt.mono (by omega)⟩
        · exact ⟨_, i4, z0, z1, z2, 3, 0, rfl, by omega⟩
    have has8 : ∀ x ∈ xs0.take (i + 1), ∃ v ∈ us ++ [V.ref ay, .ref n1, .ref n3, .ref q3], IV K G8 v x := by
      intro x hx'
      have et : xs0.take (i + 1) = xs0.take i ++ [[z0, z1, z2, z3, z4]] := by rw [List.take_add_one, hx0]; rfl
      rw [et] at hx'
      rcases List.mem_append.mp hx' with z | z
      · obtain ⟨v, hv, hvx⟩ := e3 x z
        exact ⟨v, List.mem_append.mpr (.inl hv), hvx.same tk7⟩
      · rw [List.mem_singleton.mp z]
        exact ⟨.ref ay, List.mem_append.mpr (.inr (by simp)), ay, rfl, hx8⟩
    have len8 : (us ++ [V.ref ay, .ref n1, .ref n3, .ref q3]).length = us.length + 4 := by rw [List.length_append]; rfl
    have t8 := tG.trans tk7
    generalize us ++ [V.ref ay, .ref n1, .ref n3, .ref q3] = us8 at e8 all8 has8 len8
    clear e1 e2 e3 hx tk7 s7 s47 s3 hx3 tG ep
    -- what is appended, if anything
    have app : ∀ (G' : Hp) (v : V) (x : Vr), Same G8 G' → IV K G' v x → Ver B x → ∃ (us : List V) (v4 : Option V), [some (V.ref d), some (.ref a), some (.ref b), some (.ref F), some (.ref ay), none] = [some (.ref d), some (.ref a), some (.ref b), some (.ref F), v4, none] ∧ upd G' F (.lst (us8 ++ [v])) F = some (.lst us) ∧ (∀ v' ∈ us, VV K (B + 2) (upd G' F (.lst (us8 ++ [v]))) v') ∧ (∀ x ∈ xs0.take (i + 1), ∃ v' ∈ us, IV K (upd G' F (.lst (us8 ++ [v]))) v' x) ∧ us.length ≤ ms.length + 5 * (i + 1) ∧ Same H (upd G' F (.lst (us8 ++ [v]))) ∧ upd G' F (.lst (us8 ++ [v])) p0 = some (.lst us0) ∧ TKp K H2 (upd G' F (.lst (us8 ++ [v]))) := by
      intro G' v x s hv hver'
      have ef := s _ _ e8
      have tk := (TKp.of (K := K) s).trans (TKp.mut (ys := us8 ++ [v]) ef)
      refine ⟨us8 ++ [v], _, rfl, upd_same, ?_, ?_, by rw [List.length_append, len8]; show us.length + 4 + 1 ≤ _; omega, Same.out (s8.trans s) hF, by rw [upd_ne np0]; exact s _ _ ep8, t8.trans tk⟩
      · intro v' hv'
        rcases List.mem_append.mp hv' with z | z
        · exact (all8 v' z).same tk
        · rw [List.mem_singleton.mp z]
          exact ⟨x, hv.same (TKp.mut ef), hver'.mono (by omega)⟩
      · intro x hx
        obtain ⟨v', hv', hvx⟩ := has8 x hx
        exact ⟨v', List.mem_append.mpr (.inl hv'), hvx.same tk⟩
    have sz8 : us8.length < sizeLine := by omega
    refine ⟨_, rfl, ay, _, _, _, rfl, rfl, hx8, atI_nat (j := 4) rfl, _, _, rfl, rfl, _, rfl, ?_⟩
    refine ite2 (fun c4 => ?_) (fun _ => ?_)
    · have c4 := of_decide_eq_true c4
      refine ⟨_, rfl, .inl ⟨rfl, _, SqL.of e8⟩, _, rfl, 4, rfl, ay, _, rfl, hx8, fun q => absurd q.2 (show ¬ HT.sIx 5 5 (some 4) = 5 by decide), fun _ r1 hr1 => ?_⟩
      have sK1 : Same G8 (upd G8 r1 (.tup (cutV (([z0, z1, z2, z3, z4] : List Int).map V.int) none (some 4)))) := Same.new hr1
      have eK1 : upd G8 r1 (.tup (cutV (([z0, z1, z2, z3, z4] : List Int).map V.int) none (some 4))) r1 = some (.tup (cutV (([z0, z1, z2, z3, z4] : List Int).map V.int) none (some 4))) := upd_same
      generalize upd G8 r1 (.tup (cutV (([z0, z1, z2, z3, z4] : List Int).map V.int) none (some 4))) = K1 at sK1 eK1
      refine ⟨_, rfl, ay, _, _, _, rfl, rfl, tupS_same sK1 hx8, atI_nat (j := 4) rfl, _, _, rfl, rfl, by show 1 ≤ sizeLine; decide, fun r2 hr2 => ?_⟩
      have sK2 : Same K1 (upd K1 r2 (.tup [.int (z4 - 1)])) := Same.new hr2
      have eK2 : upd K1 r2 (.tup [.int (z4 - 1)]) r2 = some (.tup [.int (z4 - 1)]) := upd_same
      generalize upd K1 r2 (.tup [.int (z4 - 1)]) = K2 at sK2 eK2
      refine ⟨r1, r2, _, _, rfl, rfl, SqT.of (sK2 _ _ eK1), SqT.of eK2, by show 4 + 1 ≤ sizeLine; decide, (fun q => nomatch q), (fun _ q => nomatch q), fun _ _ r3 hr3 => ?_⟩
      have sK3 : Same K2 (upd K2 r3 (.tup (cutV (([z0, z1, z2, z3, z4] : List Int).map V.int) none (some 4) ++ [.int (z4 - 1)]))) := Same.new hr3
      have eK3 : upd K2 r3 (.tup (cutV (([z0, z1, z2, z3, z4] : List Int).map V.int) none (some 4) ++ [.int (z4 - 1)])) r3 = some (.tup (cutV (([z0, z1, z2, z3, z4] : List Int).map V.int) none (some 4) ++ [.int (z4 - 1)])) := upd_same
      generalize upd K2 r3 (.tup (cutV (([z0, z1, z2, z3, z4] : List Int).map V.int) none (some 4) ++ [.int (z4 - 1)])) = K3 at sK3 eK3
      have s := (sK1.trans sK2).trans sK3
      exact ⟨F, us8, _, rfl, rfl, s _ _ e8, sz8, app K3 (.ref r3) [z0, z1, z2, z3, z4 - 1] s ⟨r3, rfl, SqT.of eK3⟩ ⟨z0, z1, z2, z3, z4 - 1, rfl, by omega⟩⟩
    · have stay : ∃ (us : List V) (v4 : Option V), [some (V.ref d), some (.ref a), some (.ref b), some (.ref F), some (.ref ay), none] = [some (.ref d), some (.ref a), some (.ref b), some (.ref F), v4, none] ∧ G8 F = some (.lst us) ∧ (∀ v' ∈ us, VV K (B + 2) G8 v') ∧ (∀ x ∈ xs0.take (i + 1), ∃ v' ∈ us, IV K G8 v' x) ∧ us.length ≤ ms.length + 5 * (i + 1) ∧ Same H G8 ∧ G8 p0 = some (.lst us0) ∧ TKp K H2 G8 := ⟨us8, _, rfl, e8, all8, has8, by rw [len8]; omega, s8, ep8, t8⟩
      refine ⟨_, rfl, ay, _, _, _, rfl, rfl, hx8, atI_nat (j := 2) rfl, _, _, rfl, rfl, _, rfl, ?_⟩
      refine ite2 (fun c2 => ?_) (fun _ => iteF stay)
      have c2 := of_decide_eq_true c2
      refine ⟨_, rfl, ay, _, _, _, rfl, rfl, hx8, atI_nat (j := 3) rfl, rfl, _, rfl, ?_⟩
      refine ite2 (fun c3 => ?_) (fun _ => stay)
      refine ⟨_, rfl, .inl ⟨rfl, _, SqL.of e8⟩, _, rfl, 2, rfl, ay, _, rfl, hx8, fun q => absurd q.2 (show ¬ HT.sIx 5 5 (some 2) = 5 by decide), fun _ r1 hr1 => ?_⟩
      have sK1 : Same G8 (upd G8 r1 (.tup (cutV (([z0, z1, z2, z3, z4] : List Int).map V.int) none (some 2)))) := Same.new hr1
      have eK1 : upd G8 r1 (.tup (cutV (([z0, z1, z2, z3, z4] : List Int).map V.int) none (some 2))) r1 = some (.tup (cutV (([z0, z1, z2, z3, z4] : List Int).map V.int) none (some 2))) := upd_same
      generalize upd G8 r1 (.tup (cutV (([z0, z1, z2, z3, z4] : List Int).map V.int) none (some 2))) = K1 at sK1 eK1
      refine ⟨_, rfl, ay, _, _, _, rfl, rfl, tupS_same sK1 hx8, atI_nat (j := 2) rfl, _, _, rfl, rfl, by show 3 ≤ sizeLine; decide, fun r2 hr2 => ?_⟩
      have sK2 : Same K1 (upd K1 r2 (.tup [.int (z2 - 1), .int 3, .int 0])) := Same.new hr2
      have eK2 : upd K1 r2 (.tup [.int (z2 - 1), .int 3, .int 0]) r2 = some (.tup [.int (z2 - 1), .int 3, .int 0]) := upd_same
      generalize upd K1 r2 (.tup [.int (z2 - 1), .int 3, .int 0]) = K2 at sK2 eK2
      refine ⟨r1, r2, _, _, rfl, rfl, SqT.of (sK2 _ _ eK1), SqT.of eK2, by show 2 + 3 ≤ sizeLine; decide, (fun q => nomatch q), (fun _ q => nomatch q), fun _ _ r3 hr3 => ?_⟩
      have sK3 : Same K2 (upd K2 r3 (.tup (cutV (([z0, z1, z2, z3, z4] : List Int).map V.int) none (some 2) ++ [.int (z2 - 1), .int 3, .int 0]))) := Same.new hr3
      have eK3 : upd K2 r3 (.tup (cutV (([z0, z1, z2, z3, z4] : List Int).map V.int) none (some 2) ++ [.int (z2 - 1), .int 3, .int 0])) r3 = some (.tup (cutV (([z0, z1, z2, z3, z4] : List Int).map V.int) none (some 2) ++ [.int (z2 - 1), .int 3, .int 0])) := upd_same
      generalize upd K2 r3 (.tup (cutV (([z0, z1, z2, z3, z4] : List Int).map V.int) none (some 2) ++ [.int (z2 - 1), .int 3, .int 0])) = K3 at sK3 eK3
      have s := (sK1.trans sK2).trans sK3
      exact ⟨F, us8, _, rfl, rfl, s _ _ e8, sz8, app K3 (.ref r3) [z0, z1, z2 - 1, 3, 0] s ⟨r3, rfl, SqT.of eK3⟩ ⟨z0, z1, z2 - 1, 3, 0, rfl, by omega⟩⟩
  · rintro σ G ⟨us, v4, rfl, e1, e2, e3, e4, sG, ep, tG⟩
    have DG := Dk.mono sG
    have l64 := paired_len hu0
    refine ⟨_, rfl, 4, rfl, by decide, by decide, fun L hL => ?_⟩
    have nL : L ≠ l := DG.free hL
    refine lc_range (lo := 0) (n := 4) (fun i H' => ∃ ws, H' L = some (.lst ws) ∧ ws.length = i ∧ (∀ v ∈ ws, VV K (B + 2) H' v) ∧ Kp d l G H' ∧ Deck d l H') ⟨[], upd_same, rfl, (fun _ h => nomatch h), Kp.new hL, DG.new hL⟩ ?_ ?_
    · rintro i G1 hi ⟨ws, f1, f2, f3, k1, D1⟩
      refine ⟨rfl, ?_⟩
      refine ⟨_, rfl, _, rfl, d, l, F, us, B + 2, rfl, D1, k1.lst DG nFl e1, nFl, by omega, by omega, fun v z => (e2 v z).kp k1 DG, fun G2 v k2 D2 hvv => ?_⟩
      have f1' := k2.lst D1 nL f1
      refine ⟨ws, f1', small1000 (by omega), ws ++ [v], upd_same, by rw [List.length_append, f2]; rfl, ?_, (k1.trans k2).out hL, D2.mut (D2.nedl f1') nL⟩
      intro u hu
      rcases List.mem_append.mp hu with z | z
      · exact ((f3 u z).kp k2 D1).same (TKp.mut f1')
      · rw [List.mem_singleton.mp z]
        exact hvv.same (TKp.mut f1')
    · rintro G1 ⟨ws, f1, f2, f3, k1, D1⟩
      have eF := k1.lst DG nFl e1
      refine ⟨F, L, us, ws, rfl, rfl, eF, f1, ?_, fun p hp => ?_⟩
      · have : sizeLine = 16777216 := by decide
        omega
      have s2 : Same G1 (upd G1 p (.lst (us ++ ws))) := Same.new hp
      have tk := TKp.of (K := K) s2
      refine k _ p (us ++ ws) (((Kp.same sG).trans k1).trans (Kp.same s2)) (D1.mono s2) ?_ upd_same ?_ ?_ ?_ ?_
      · exact ((Kp.same sG).trans k1).free_back D1 hp
      · intro v hv
        rcases List.mem_append.mp hv with z | z
        · exact ((e2 v z).kp k1 DG).same tk
        · exact (f3 v z).same tk
      · intro x hx
        have hx0 : x ∈ xs0 := (iff0 x).mpr (.inr hx)
        have et : xs0.take us0.length = xs0 := by rw [l64, List.take_length]
        rw [et] at e3
        obtain ⟨v, hv, hvx⟩ := e3 x hx0
        exact ⟨v, List.mem_append.mpr (.inl hv), (hvx.kp k1 DG).same tk⟩
      · rw [List.length_append]
        omega
      · rw [List.length_append]
        omega
end


abbrev sRangeBetween : Stmt := top 14
abbrev nRangeBetween : List Str := ["turns", "highs"]
abbrev pRangeBetween : List Str := ["turns"]
theorem scRangeBetween : FnScope nRangeBetween pRangeBetween (defScope sRangeBetween) := ⟨rfl, rfl, rfl, by decide +kernel, rfl, by decide +kernel, by decide +kernel⟩
def his : List V → List V
  | [] => []
  | [_] => [.non]
  | _ :: b :: l => b :: his l
theorem evens_cons {α : Type} (b : α) : ∀ l : List α, evens (b :: l) = b :: evens (l.drop 1)
  | [] => by simp [evens]
  | _ :: _ => rfl
theorem his_eq : ∀ us : List V, his us = evens (us.drop 1) ++ (if us.length % 2 = 1 then [.non] else [])
  | [] => by simp [his, evens]
  | [_] => by simp [his, evens]
  | a :: b :: l => by
    have e := his_eq l
    show b :: his l = evens (b :: l) ++ _
    rw [evens_cons, e]
    have e2 : (a :: b :: l).length % 2 = l.length % 2 := by simp only [List.length_cons]; omega
    rw [e2]
    rfl
theorem his_len : ∀ us : List V, (his us).length = (evens us).length
  | [] => by simp [his, evens]
  | [_] => by simp [his, evens]
  | _ :: _ :: l => congrArg Nat.succ (his_len l)
theorem prs_pv {K : PySem.W.Frag} {H' : Hp} (n : Nat) : ∀ (us : List V) (xs : List Vr) (Ts : List Addr), us.length ≤ n → Paired (IV K H') us xs → Ts.length = (evens us).length → (∀ p ∈ zipL Ts (evens us) (his us), H' p.1 = some (.tup p.2)) → Paired (PV K H') (Ts.map V.ref) (prs xs) := by
  induction n with
  | zero =>
    intro us xs Ts hn h hl hz
    cases us with
    | cons _ _ => simp at hn
    | nil =>
      cases h
      cases Ts with
      | nil => exact .nil
      | cons _ _ => simp [evens] at hl
  | succ n ih =>
    intro us xs Ts hn h hl hz
    cases us with
    | nil =>
      cases h
      cases Ts with
      | nil => exact .nil
      | cons _ _ => simp [evens] at hl
    | cons a l =>
      cases Ts with
      | nil => cases l <;> simp [evens] at hl
      | cons T Ts =>
        cases h with
        | cons h t =>
          cases l with
          | nil =>
            cases t
            cases Ts with
            | cons _ _ => simp [evens] at hl
            | nil => exact .cons ⟨T, a, .non, rfl, SqT.of (hz (T, [a, .non]) (List.mem_cons.mpr (.inl rfl))), h, rfl⟩ .nil
          | cons b l =>
            cases t with
            | cons h2 t =>
              exact .cons ⟨T, a, b, rfl, SqT.of (hz (T, [a, b]) (List.mem_cons.mpr (.inl rfl))), h, h2⟩ (ih l _ Ts (by simp only [List.length_cons] at hn; omega) t (by simpa [evens] using hl) fun p hp => hz p (List.mem_cons.mpr (.inr hp)))
def spRangeBetween (K : PySem.W.Frag) : Sp := fun vs H Q _ => ∃ (a : Addr) (us : List V) (xs : List Vr), vs = [.ref a] ∧ H a = some (.lst us) ∧ Paired (IV K H) us xs ∧ xs.length < 64 ∧ ∀ H' y, Same H H' → SV K H' y (prs xs) → Q y H'
section
variable {P : Program} {w : World} {K : PySem.W.Frag} {mg : Str → Option Value} {base : Heap}
theorem ok_RangeBetween {f : Addr} {fd : FuncData} (Z : Blt K mg) (D : DefAt K mg "range_between" sRangeBetween pRangeBetween f fd) : FnOk P w K mg base CX0 1 f fd pRangeBetween (spRangeBetween K) := by
  refine D.F.ok scRangeBetween (fun vs H Q E h => ?_) (fun cdv A outer s0 H vs Q E hr h => ?_)
  · obtain ⟨a, us, xs, rfl, _⟩ := h
    rfl
  have hu := hu_of hr
  obtain ⟨a, us, xs, rfl, h1, h2, hl, k⟩ := h
  refine ⟨_, (pss_cons (ps_set (i := 1) scRangeBetween.nd rfl (Or.inl rfl) (pe_sl12 (pv 0)))
    (Evl.pss_cut (ps_if (pt_cmpR op_eq (pe_op op_mod (pe_callB call_len_seq (by rfl) Z.len (by decide +kernel) (pa_cons (pv 0) pa_nil)) pe_int) pe_int (nomark _))
    (pss_one (ps_set (i := 1) scRangeBetween.nd rfl (Or.inl rfl) (pe_lst (StX.pa_star (pv 1) (pa_cons pe_non pa_nil)))))
    pss_nil)
    (pss_one (ps_ret (pe_tupZip rfl (by rfl) Z.tuple (by rfl) Z.zip (pa_cons (pe_sl02 (pv 0)) (pa_cons (pv 1) pa_nil))))))), ?_⟩
  have lu := paired_len h2
  refine ⟨_, rfl, a, us, rfl, SqL.of h1, fun q hq => ?_⟩
  have s1 : Same H (upd H q (.lst (evens (us.drop 1)))) := Same.new hq
  have e1 : upd H q (.lst (evens (us.drop 1))) q = some (.lst (evens (us.drop 1))) := upd_same
  generalize upd H q (.lst (evens (us.drop 1))) = H1 at s1 e1
  refine ⟨fun σ' H' => ∃ b, σ' = [some (.ref a), some (.ref b)] ∧ Same H H' ∧ H' b = some (.lst (his us)), ?_, ?_⟩
  · refine ⟨_, rfl, a, us, rfl, .inl (SqL.of (s1 _ _ h1)), _, _, rfl, rfl, (show (0 : Int) < 2 by decide), rfl, _, rfl, ?_⟩
    refine ite2 (fun e => ?_) (fun e => ?_)
    · have e' : us.length % 2 = 1 := by
        have : (us.length : Int) % 2 = 1 := V.int.inj (of_decide_eq_true e)
        omega
      refine ⟨_, rfl, q, _, rfl, .inr (SqL.of e1), ?_, fun b hb => ?_⟩
      · have : sizeLine = 16777216 := by decide
        rw [List.length_append, evens_len, List.length_drop, List.length_singleton]
        omega
      · refine ⟨b, rfl, Same.out s1 ?_, ?_⟩
        · exact s1.free hb
        · rw [his_eq, if_pos e']
          exact upd_same
    · have e' : ¬ us.length % 2 = 1 := fun z => e (decide_eq_true (by show V.int ((us.length : Int) % 2) = V.int 1; congr 1; omega))
      refine ⟨q, rfl, s1, ?_⟩
      rw [his_eq, if_neg e', List.append_nil]
      exact e1
  · rintro σ' H2 ⟨b, rfl, s2, e2⟩
    refine ⟨_, rfl, a, us, rfl, SqL.of (s2 _ _ h1), fun p hp => ?_⟩
    have s3 : Same H2 (upd H2 p (.lst (evens us))) := Same.new hp
    have e3 : upd H2 p (.lst (evens us)) p = some (.lst (evens us)) := upd_same
    generalize upd H2 p (.lst (evens us)) = H3 at s3 e3
    refine ⟨_, rfl, p, b, _, _, rfl, SqL.of e3, SqL.of (s3 _ _ e2), (his_len us).symm, fun H4 r Ts s4 hr er lT hz => ?_⟩
    have sA := (s2.trans s3).trans s4
    exact k _ _ sA ⟨r, _, rfl, SqT.of er, prs_pv _ _ _ _ (Nat.le_refl _) (ivs_tk (TKp.of sA) h2) lT hz⟩
end


abbrev sCombined : Stmt := top 19
abbrev nCombined : List Str := ["one", "other", "wanted", "turns", "inside", "border"]
abbrev pCombined : List Str := ["one", "other", "wanted"]
theorem scCombined : FnScope nCombined pCombined (defScope sCombined) := ⟨rfl, rfl, rfl, by decide +kernel, rfl, by decide +kernel, by decide +kernel⟩
theorem rg_flat : ∀ r : Rg, r.length ≤ (flat r).length
  | [] => Nat.le_refl _
  | p :: r => by
    have := rg_flat r
    show r.length + 1 ≤ ((p.1 :: p.2.toList) ++ flat r).length
    rw [List.length_append, List.length_cons]
    omega
theorem sortset2 {σ : St} {K : PySem.W.Frag} {P : Program} {w : World} {H : Hp} {l : Addr} {us : List V} {xs : List Vr} {B : Int} {Q : VK} (hl : SqL K H l us) (hu : Paired (IV K H) us xs) (hv : ∀ x ∈ xs, Ver B x) (hB : 3 ≤ B) (hn : xs.length < 64)
    (k : ∀ H' p us' xs', Same H H' → H p = none → H' p = some (.lst us') → Paired (IV K H') us' xs' → xs'.Pairwise lt → (∀ x, x ∈ xs' ↔ x ∈ xs) → (∀ u ∈ us', u ∈ us) → xs'.length ≤ xs.length → Q (.ref p) H') :
    tNil σ H fun zs H2 => (fun vs H1 => rSetOfT K P w vs H1 fun x H1 => tNil σ H1 fun zs H2 => (fun vs H1 => rSortedT K P w vs H1 Q) (x :: zs) H2) (V.ref l :: zs) H2 := sortset hl hu hv hB hn k
def spCombined (P : Program) (w : World) (K : PySem.W.Frag) (mg : Str → Option Value) (base : Heap) : Sp := fun vs H Q _ => ∃ (v u : V) (f : Addr) (r s : Rg) (B : Int) (g : Bool → Bool → Bool), vs = [v, u, .ref f] ∧ SV K H v r ∧ SV K H u s ∧ RgOK B r ∧ RgOK B s ∧ 3 ≤ B ∧ (flat r).length + (flat s).length < 63 ∧ g false false = false ∧ Wn P w K mg base H f g ∧
  ∀ H' y t, Same H H' → SV K H' y t → RgOK B t → (∀ x, inB t x = g (inB r x) (inB s x)) → (flat t).length ≤ (flat r).length + (flat s).length → Q y H'
section
variable {P : Program} {w : World} {K : PySem.W.Frag} {mg : Str → Option Value} {base : Heap}
theorem ok_Combined {f : Addr} {fd : FuncData} {fBorders : Addr} {fdBorders : FuncData} {fCheckRange : Addr} {fdCheckRange : FuncData} {fIsIn : Addr} {fdIsIn : FuncData} {fRangeBetween : Addr} {fdRangeBetween : FuncData} (Z : Blt K mg) (D : DefAt K mg "combined" sCombined pCombined f fd) (DBorders : DefAt K mg "borders" sBorders pBorders fBorders fdBorders) (GBorders : FnOk P w K mg base CX0 1 fBorders fdBorders pBorders (spBorders K)) (DCheckRange : DefAt K mg "check_range" sCheckRange pCheckRange fCheckRange fdCheckRange) (GCheckRange : FnOk P w K mg base CX0 5 fCheckRange fdCheckRange pCheckRange (spCheckRange K)) (DIsIn : DefAt K mg "is_in" sIsIn pIsIn fIsIn fdIsIn) (GIsIn : FnOk P w K mg base CX0 1 fIsIn fdIsIn pIsIn (spIsIn K)) (DRangeBetween : DefAt K mg "range_between" sRangeBetween pRangeBetween fRangeBetween fdRangeBetween) (GRangeBetween : FnOk P w K mg base CX0 1 fRangeBetween fdRangeBetween pRangeBetween (spRangeBetween K)) : FnOk P w K mg base CX0 6 f fd pCombined (spCombined P w K mg base) := by
  refine D.F.ok scCombined (fun vs H Q E h => ?_) (fun cdv A outer s0 H vs Q E hr h => ?_)
  · obtain ⟨v, u, f, r, s, B, g, rfl, _⟩ := h
    rfl
  have hu := hu_of hr
  obtain ⟨v, u, fa, r, s, B, g, rfl, h1, h2, ok1, ok2, hB, hn, g0, hW, k⟩ := h
  refine ⟨_, (pss_cons (ps_expr (pe_call GCheckRange (hr.mono (by decide)) rfl DCheckRange.g DCheckRange.F.kp DCheckRange.b .nil pass0 (pa_cons (pv 0) pa_nil)))
    (pss_cons (ps_expr (pe_call GCheckRange (hr.mono (by decide)) rfl DCheckRange.g DCheckRange.F.kp DCheckRange.b .nil pass0 (pa_cons (pv 1) pa_nil)))
    (pss_cons (ps_set (i := 3) scCombined.nd rfl (Or.inl rfl) (pe_lst pa_nil))
    (pss_cons (ps_set (i := 4) scCombined.nd rfl (Or.inl rfl) pe_bl)
    (pss_cons (ps_for PassesOwn.never rfl (pi_list (pe_callB (cr_sortedT rfl) (by rfl) Z.sorted (by decide +kernel) (pa_cons (pe_callTy (cr_setOfT rfl hr.units) (by rfl) Z.set (by decide +kernel) (pa_cons (pe_op op_cat (pe_call GBorders (hr.mono (by decide)) rfl DBorders.g DBorders.F.kp DBorders.b .nil pass0 (pa_cons (pv 0) pa_nil)) (pe_call GBorders (hr.mono (by decide)) rfl DBorders.g DBorders.F.kp DBorders.b .nil pass0 (pa_cons (pv 1) pa_nil))) pa_nil)) pa_nil))) (pg_name (i := 5) scCombined.nd rfl (Or.inl rfl))
    (pss_one (ps_if (pt_cmpR (op_neD hr.units) (pe_callW (i := 2) hr (by decide) rfl (Or.inl rfl) (pa_cons (pe_call GIsIn (hr.mono (by decide)) rfl DIsIn.g DIsIn.F.kp DIsIn.b .nil pass0 (pa_cons (pv 0) (pa_cons (pv 5) pa_nil))) (pa_cons (pe_call GIsIn (hr.mono (by decide)) rfl DIsIn.g DIsIn.F.kp DIsIn.b .nil pass0 (pa_cons (pv 1) (pa_cons (pv 5) pa_nil))) pa_nil))) (pv 4) (nomark _))
      (pss_cons (ps_expr (pe_bm PySem.F.plainAttrs_list PySem.F.slot_list_append PySem.F.type_list_append mt_append (pv 3) (pa_cons (pv 5) pa_nil)))
        (pss_one (ps_set (i := 4) scCombined.nd rfl (Or.inl rfl) (pe_not (pv 4)))))
      pss_nil)))
    (pss_one (ps_ret (pe_call GRangeBetween (hr.mono (by decide)) rfl DRangeBetween.g DRangeBetween.F.kp DRangeBetween.b .nil pass0 (pa_cons (pv 3) pa_nil))))))))), ?_⟩
  have l1 := rg_flat r
  have l2 := rg_flat s
  have xt : ∀ {A B : Hp}, Same A B → LamX.ExtN A B := fun q => LamX.ExtN.of q
  refine ⟨_, rfl, v, r, B, rfl, h1, ok1, by omega, fun H1 s1 => ?_⟩
  refine ⟨_, rfl, u, s, B, rfl, h2.tk (TKp.of s1), ok2, by omega, fun H2 s2 => ?_⟩
  have s12 := s1.trans s2
  refine ⟨Nat.zero_le _, fun D hD => ?_⟩
  have s3 : Same H2 (upd H2 D (.lst [])) := Same.new hD
  have e3 : upd H2 D (.lst []) D = some (.lst []) := upd_same
  have hDH := s12.free hD
  generalize upd H2 D (.lst []) = H3 at s3 e3
  have s13 := s12.trans s3
  refine ⟨_, rfl, v, r, rfl, h1.tk (TKp.of s13), by omega, fun H4 p us s4 hp ep hu => ?_⟩
  have s14 := s13.trans s4
  refine ⟨_, rfl, u, s, rfl, h2.tk (TKp.of s14), by omega, fun H5 p2 us2 s5 hp2 ep2 hu2 => ?_⟩
  have s15 := s14.trans s5
  have hu' := ivs_tk (TKp.of (K := K) s5) hu
  have lu := paired_len hu
  have lu2 := paired_len hu2
  refine ⟨p, p2, us, us2, rfl, rfl, s5 _ _ ep, ep2, ?_, fun c hc => ?_⟩
  · have : sizeLine = 16777216 := by decide
    omega
  have s6 : Same H5 (upd H5 c (.lst (us ++ us2))) := Same.new hc
  have e6 : upd H5 c (.lst (us ++ us2)) c = some (.lst (us ++ us2)) := upd_same
  generalize upd H5 c (.lst (us ++ us2)) = H6 at s6 e6
  have hv : ∀ x ∈ flat r ++ flat s, Ver B x := fun x hx => (List.mem_append.mp hx).elim (flat_ver ok1 x) (flat_ver ok2 x)
  refine sortset2 (SqL.of e6) (ivs_tk (TKp.of (K := K) s6) (paired_app hu' hu2)) hv hB (by rw [List.length_append]; omega) fun H7 m ms xs s7 hm em hms asc iff _ hl => ?_
  have s17 := (s15.trans s6).trans s7
  have s37 := ((s4.trans s5).trans s6).trans s7
  have eD := s37 _ _ e3
  have nDm : m ≠ D := fun q => by
    rw [q] at hm
    have := s6 _ _ (s5 _ _ (s4 _ _ e3))
    rw [hm] at this
    cases this
  have full := turns_sub (fun b => g (inB r b) (inB s b)) false xs
  have hvx : ∀ b ∈ xs, Ver B b := fun b hb => hv b ((iff b).mp hb)
  refine ⟨m, rfl, ⟨_, SqL.of em⟩, for_list (K := K) (a := m) (xs := ms) (fun i σ H' => ∃ (ins : Bool) (b5 : Option V) (ts : List V) (dn : List Vr), σ = [some v, some u, some (.ref fa), some (.ref D), some (.bl ins), b5] ∧ H' D = some (.lst ts) ∧ H' m = some (.lst ms) ∧ Paired (IV K H') ts dn ∧ turns (fun b => g (inB r b) (inB s b)) false xs = dn ++ turns (fun b => g (inB r b) (inB s b)) ins (xs.drop i) ∧ Same H H' ∧ TKp K H7 H')
    ⟨false, none, [], [], rfl, eD, em, .nil, rfl, s17, fun _ _ z => z⟩ (fun i σ H' _ ⟨_, _, _, _, _, _, e, _⟩ => SqL.of e) ?_ ?_⟩
  · rintro i y σ G hi ⟨ins, b5, ts, dn, rfl, eT, eM, hts, ef, sG, tG⟩
    obtain ⟨b, hb, hy⟩ := paired_get hms hi
    have hvb := hvx b (List.mem_of_getElem? hb)
    have hyG := hy.same tG
    have ed : xs.drop i = b :: xs.drop (i + 1) := by
      obtain ⟨hlt, hg⟩ := List.getElem?_eq_some_iff.mp hb
      rw [← hg, List.getElem_cons_drop]
    rw [ed] at ef
    refine ⟨fa, g, rfl, hW.ext (xt sG), _, rfl, _, rfl, v, y, r, b, B, rfl, h1.tk (TKp.of sG), ok1.ver, by omega, hyG, hvb, fun G1 t1 => ?_⟩
    refine ⟨_, rfl, _, rfl, u, y, s, b, B, rfl, h2.tk (TKp.of (sG.trans t1)), ok2.ver, by omega, hyG.same (TKp.of t1), hvb, fun G2 t2 => ?_⟩
    have sG2 := (sG.trans t1).trans t2
    have t12 := t1.trans t2
    refine ⟨hW.ext (xt sG2), _, _, rfl, _, rfl, .bool (g (inB r b) (inB s b)), .bool ins, .bl _, .bl _, ?_⟩
    refine ⟨by cases (g (inB r b) (inB s b)) <;> rfl, by cases ins <;> rfl, _, rfl, ?_⟩
    have ev : (!PyData.eqv (.bool (g (inB r b) (inB s b))) (.bool ins)) = (g (inB r b) (inB s b) != ins) := by cases (g (inB r b) (inB s b)) <;> cases ins <;> rfl
    rw [ev]
    have eT2 := t12 _ _ eT
    have eM2 := t12 _ _ eM
    have et : turns (fun b => g (inB r b) (inB s b)) ins (b :: xs.drop (i + 1)) = if (g (inB r b) (inB s b) != ins) = true then b :: turns (fun b => g (inB r b) (inB s b)) (!ins) (xs.drop (i + 1)) else turns (fun b => g (inB r b) (inB s b)) ins (xs.drop (i + 1)) := rfl
    rw [et] at ef
    by_cases q : (g (inB r b) (inB s b) != ins) = true
    · rw [if_pos q] at ef
      rw [q]
      refine iteT ?_
      have lts := paired_len hts
      have lfull := full.length_le
      rw [ef, List.length_append] at lfull
      rw [List.length_append] at hl
      have sz : ts.length < sizeLine := by
        have : sizeLine = 16777216 := by decide
        omega
      have nDH : H D = none := hDH
      refine ⟨_, rfl, .inl ⟨rfl, _, SqL.of eT2⟩, _, rfl, D, ts, y, rfl, rfl, eT2, sz, _, rfl, ?_⟩
      have tk := (TKp.of (K := K) t12).trans (TKp.mut (ys := ts ++ [y]) eT2)
      refine ⟨_, rfl, !ins, _, ts ++ [y], dn ++ [b], rfl, upd_same, ?_, paired_app (ivs_tk tk hts) (.cons (hyG.same tk) .nil), ?_, Same.out sG2 nDH, fun z1 z2 z3 => tk z1 z2 (tG z1 z2 z3)⟩
      · rw [upd_ne nDm]
        exact eM2
      · rw [ef, List.append_assoc]
        rfl
    · rw [if_neg q] at ef
      rw [(Bool.not_eq_true _).mp q]
      refine iteF ?_
      exact ⟨ins, _, ts, dn, rfl, eT2, eM2, ivs_tk (TKp.of t12) hts, ef, sG2, fun z1 z2 z3 => TKp.of (K := K) t12 z1 z2 (tG z1 z2 z3)⟩
  · rintro σ G ⟨ins, b5, ts, dn, rfl, eT, eM, hts, ef, sG, tG⟩
    have lm := paired_len hms
    rw [lm, List.drop_length] at ef
    have ef' : turns (fun b => g (inB r b) (inB s b)) false xs = dn := by rw [ef]; exact List.append_nil _
    obtain ⟨o1, o2⟩ := op_ok g g0 ok1 ok2 asc hvx (fun c hc => (iff c).mpr hc)
    have fl := full.length_le
    rw [ef'] at o1 o2 fl
    rw [List.length_append] at hl
    refine ⟨_, rfl, D, ts, dn, rfl, eT, hts, by omega, fun G1 y t1 sv => k G1 y _ (sG.trans t1) sv o1 o2 ?_⟩
    rw [prs_flat]
    omega
end


abbrev sJoined : Stmt := top 20
abbrev nJoined : List Str := ["one", "other"]
abbrev pJoined : List Str := ["one", "other"]
theorem scJoined : FnScope nJoined pJoined (defScope sJoined) := ⟨rfl, rfl, rfl, by decide +kernel, rfl, by decide +kernel, by decide +kernel⟩
abbrev sWithout : Stmt := top 21
abbrev nWithout : List Str := ["one", "other"]
abbrev pWithout : List Str := ["one", "other"]
theorem scWithout : FnScope nWithout pWithout (defScope sWithout) := ⟨rfl, rfl, rfl, by decide +kernel, rfl, by decide +kernel, by decide +kernel⟩
section
open LamX NdefX PyProof.Rows PySem.Spec
/-- the maker of a lambda: its code object c, the table Pt -/
structure Mkr (T : List (Addr × Str)) (base : Heap) (mg : Str → Option Value) (c Pt : Addr) (x : Str) : Prop where
  tb : TabB base mg c Pt
  mem : (Pt, (x ++ (".<locals>." : Str)) ++ ("<lambda>" : Str)) ∈ T
  un : ∀ p ∈ T, p.1 = Pt → p.2 = (x ++ (".<locals>." : Str)) ++ ("<lambda>" : Str)
theorem nofree {ns : List (Str × NameKind)} {C : Str × NameKind → Prop} (h : ns.all (fun y => !decide (y.2 = NameKind.free)) = true) : ∀ y ∈ ns, y.2 = NameKind.free → C y := fun y hy e => by
  have z := List.all_eq_true.mp h y hy
  rw [e] at z
  cases z
theorem okC {P : Program} {w : World} {K : PySem.W.Frag} {mg : Str → Option Value} {base : Heap} {x qual : Str} {st : Stmt} {f c : Addr} {fd : FuncData} {N ps : List Str} {k : Nat} {sp : Sp} (F : Fun K x qual st f fd) (hc : fd.code = .ref c) (S : FnScope N ps (defScope st))
    (len : ∀ vs H Q E, sp vs H Q E → vs.length = ps.length)
    (hb : ∀ (A : Around) (outer : List Env) (s : Shared) (H : Hp) (vs : List V) (Q : VK) (E : XK), Room k (A.deeper (envOfC qual (defScope st) s.heap.objs.size f (.ref c))) → sp vs H Q E →
      ∃ t, PSs (cxOf CX0 P w K mg base N qual (defScope st) f (.ref c) A outer s H E).nox (defBody st) t ∧ t { nx := fun _ H' => Q .non H', rt := Q } (L2.start N vs) H) : FnOk P w K mg base CX0 (k + 1) f fd ps sp := by
  obtain ⟨oc, od, kV, doc, pm, an, cdv, ct, osl, rfl, lk, hcd⟩ := F.ex
  obtain rfl : cdv = .ref c := hc
  refine ⟨len, fun A outer s H args us vs Q E hr e0 hbn r hsp => ?_⟩
  have hl := len _ _ _ _ hsp
  have kb := fun b o e => (e0.bs b o e).1
  have KX : K.In s.heap := e0.mod.kin.keeps kb
  refine codeAny_call_function hr.depth (KX _ _ lk) rfl S.co S.gen rfl (PySem.W.codeRec_of KX hcd) (hbn _ _ _ _ ?_)
  refine wpAny_newFunctionEnv_cells S.kind (fun y hy => (S.par y.1 (List.of_mem_zip (show (y.1, y.2) ∈ ps.zip us from hy)).1).elim Or.inl fun q => Or.inr ⟨q, PySem.W.cellsFrom_some _ _ _ (.inl q)⟩) fun env he s1 x => ?_
  subst he
  refine ⟨(e0.mod.nolimit.keeps kb).keeps x.toInCall.keep, codeAny_func ?_⟩
  obtain ⟨t, ht, hq⟩ := hb A outer s H vs Q E (hr.deeper _) hsp
  have I := inv_start (CX := CX0) (E := E) S hr.hd e0 hl r x
  refine wpAny_mono (ht.nox.run [] s1 (L2.start N vs) H _ I hq) (fun fl s' hs => ?_) fun e s' hs => hs
  cases fl with
  | ret u =>
    obtain ⟨v, σ', H', J, rv, q⟩ := hs
    exact ⟨v, H', J.os, J.bare, J.base, J.hok, rv, q⟩
  | next =>
    obtain ⟨σ', H', J, q⟩ := hs
    exact ⟨V.non, H', J.os, J.bare, J.base, J.hok, rfl, q⟩
  | brk =>
    obtain ⟨_, _, _, q⟩ := hs
    exact q.elim
  | cont =>
    obtain ⟨_, _, _, q⟩ := hs
    exact q.elim
def lamSc : Scope := { kind := .function, names := [("in_one", .local), ("in_other", .local)], isGenerator := false, isCoroutine := false }
theorem lamS : NScope ["in_one", "in_other"] ["in_one", "in_other"] [] lamSc := nscope_by (by decide +kernel)
def spOp (K : PySem.W.Frag) (T : List (Addr × Str)) (g : Bool → Bool → Bool) : Sp := fun vs H Q _ => ∃ (v u : V) (r s : Rg) (B : Int), vs = [v, u] ∧ SV K H v r ∧ SV K H u s ∧ RgOK B r ∧ RgOK B s ∧ 3 ≤ B ∧ (flat r).length + (flat s).length < 63 ∧ Tabs T H ∧
  ∀ H' y t, ExtN H H' → Tabs T H' → SV K H' y t → RgOK B t → (∀ x, inB t x = g (inB r x) (inB s x)) → (flat t).length ≤ (flat r).length + (flat s).length → Q y H'
theorem TKp.ext {K : PySem.W.Frag} {H H' : Hp} (e : ExtN H H') : TKp K H H' := fun a xs h => by
  rcases h with (h | ⟨o, h⟩) | h
  · exact .inl (.inl (e _ _ h fun _ q => nomatch q))
  · exact .inl (.inr ⟨o, e _ _ h fun _ q => nomatch q⟩)
  · exact .inr h
variable {P : Program} {w : World} {K : PySem.W.Frag} {mg : Str → Option Value} {base : Heap} {TT : List (Addr × Str)}
theorem ok_Joined {f fCombined c Pt : Addr} {fd fdCombined : FuncData} (Z : Blt K mg) (D : DefAt K mg "joined" sJoined pJoined f fd) (hcd : fd.code = .ref c) (M : Mkr TT base mg c Pt "joined") (DCombined : DefAt K mg "combined" sCombined pCombined fCombined fdCombined) (GCombined : FnOk P w K mg base CX0 6 fCombined fdCombined pCombined (spCombined P w K mg base)) : FnOk P w K mg base CX0 7 f fd pJoined (spOp K TT (· || ·)) := by
  refine okC D.F hcd scJoined (fun vs H Q E h => ?_) (fun A outer s0 H vs Q E hr h => ?_)
  · obtain ⟨v, u, r, s, B, rfl, _⟩ := h
    rfl
  have hu := hu_of hr
  obtain ⟨v, u, r, s, B, rfl, h1, h2, ok1, ok2, hB, hn, hT, k⟩ := h
  refine ⟨_, (pss_one (ps_ret (pe_call GCombined (hr.mono (by decide)) rfl DCombined.g DCombined.F.kp DCombined.b .nil pass0 (pa_cons (pv 0) (pa_cons (pv 1) (pa_cons (pe_lamV M.tb rfl M.mem M.un rfl (nofree rfl)) pa_nil)))))), ?_⟩
  refine ⟨_, rfl, _, rfl, hT, fun fa c' H1 e1 T1 nf ef ec => ?_⟩
  have W : Wn P w K mg base H1 fa (· || ·) := ⟨_, _, ["in_one", "in_other"], ef, ec, lok_of (N := ["in_one", "in_other"]) lamS rfl (fun pm ctv us hl => match us, hl with | [_, _], _ => rfl) (fun vs H Q E h => by obtain ⟨x, y, rfl, _⟩ := h; rfl) fun A outer s H vs Q hr q => by
    obtain ⟨x, y, rfl, q⟩ := q
    refine ⟨_, pe_or (pv 0) (pe_one (pv 1)), ?_⟩
    cases x with
    | true => exact ⟨_, rfl, true, rfl, iteT q⟩
    | false => exact ⟨_, rfl, false, rfl, iteF ⟨_, rfl, q⟩⟩⟩
  have tk := TKp.ext (K := K) e1
  exact ⟨v, u, fa, r, s, B, _, rfl, h1.tk tk, h2.tk tk, ok1, ok2, hB, hn, rfl, W, fun H2 y t s2 sv o1 o2 o3 => k H2 y t (e1.trans (ExtN.of s2)) (T1.ext s2) sv o1 o2 o3⟩
theorem ok_Without {f fCombined c Pt : Addr} {fd fdCombined : FuncData} (Z : Blt K mg) (D : DefAt K mg "without" sWithout pWithout f fd) (hcd : fd.code = .ref c) (M : Mkr TT base mg c Pt "without") (DCombined : DefAt K mg "combined" sCombined pCombined fCombined fdCombined) (GCombined : FnOk P w K mg base CX0 6 fCombined fdCombined pCombined (spCombined P w K mg base)) : FnOk P w K mg base CX0 7 f fd pWithout (spOp K TT (fun a b => a && !b)) := by
  refine okC D.F hcd scWithout (fun vs H Q E h => ?_) (fun A outer s0 H vs Q E hr h => ?_)
  · obtain ⟨v, u, r, s, B, rfl, _⟩ := h
    rfl
  have hu := hu_of hr
  obtain ⟨v, u, r, s, B, rfl, h1, h2, ok1, ok2, hB, hn, hT, k⟩ := h
  refine ⟨_, (pss_one (ps_ret (pe_call GCombined (hr.mono (by decide)) rfl DCombined.g DCombined.F.kp DCombined.b .nil pass0 (pa_cons (pv 0) (pa_cons (pv 1) (pa_cons (pe_lamV M.tb rfl M.mem M.un rfl (nofree rfl)) pa_nil)))))), ?_⟩
  refine ⟨_, rfl, _, rfl, hT, fun fa c' H1 e1 T1 nf ef ec => ?_⟩
  have W : Wn P w K mg base H1 fa (fun a b => a && !b) := ⟨_, _, ["in_one", "in_other"], ef, ec, lok_of (N := ["in_one", "in_other"]) lamS rfl (fun pm ctv us hl => match us, hl with | [_, _], _ => rfl) (fun vs H Q E h => by obtain ⟨x, y, rfl, _⟩ := h; rfl) fun A outer s H vs Q hr q => by
    obtain ⟨x, y, rfl, q⟩ := q
    refine ⟨_, pe_and (pv 0) (pe_one (pe_not (pv 1))), ?_⟩
    cases x with
    | true => exact ⟨_, rfl, true, rfl, iteT ⟨_, rfl, _, rfl, q⟩⟩
    | false => exact ⟨_, rfl, false, rfl, iteF q⟩⟩
  have tk := TKp.ext (K := K) e1
  exact ⟨v, u, fa, r, s, B, _, rfl, h1.tk tk, h2.tk tk, ok1, ok2, hB, hn, rfl, W, fun H2 y t s2 sv o1 o2 o3 => k H2 y t (e1.trans (ExtN.of s2)) (T1.ext s2) sv o1 o2 o3⟩
end


abbrev sLMade : Stmt := top 35
abbrev nLMade : List Str := ["_law_borders_here", "_law_marks", "_law_found", "_law_begun", "_law_border", "_law_is_in"]
abbrev pLMade : List Str := ["_law_borders_here", "_law_marks"]
theorem scLMade : FnScope nLMade pLMade (defScope sLMade) := ⟨rfl, rfl, rfl, by decide +kernel, rfl, by decide +kernel, by decide +kernel⟩
def spLMade (K : PySem.W.Frag) : Sp := fun vs H Q _ => ∃ (a b : Addr) (us : List V) (xs : List Vr) (g : Vr → Bool), vs = [.ref a, .ref b] ∧ H a = some (.lst us) ∧ Paired (IV K H) us xs ∧ H b = some (.lst ((xs.map g).map V.bl)) ∧ xs.length < 64 ∧ ∀ H' y, Same H H' → SV K H' y (prs (turns g false xs)) → Q y H'
theorem prs_two : ∀ {l : List Vr} {x y : Vr}, l.length % 2 = 0 → prs (l ++ [x, y]) = prs l ++ [(x, some y)]
  | [], _, _, _ => rfl
  | [a], _, _, h => by simp at h
  | a :: b :: l, x, y, h => by
    show (a, some b) :: prs (l ++ [x, y]) = (a, some b) :: (prs l ++ [(x, some y)])
    rw [prs_two (by simp only [List.length_cons] at h; omega)]
theorem prs_one : ∀ {l : List Vr} {x : Vr}, l.length % 2 = 0 → prs (l ++ [x]) = prs l ++ [(x, none)]
  | [], _, _ => rfl
  | [a], _, h => by simp at h
  | a :: b :: l, x, h => by
    show (a, some b) :: prs (l ++ [x]) = (a, some b) :: (prs l ++ [(x, none)])
    rw [prs_one (by simp only [List.length_cons] at h; omega)]
section
variable {P : Program} {w : World} {K : PySem.W.Frag} {mg : Str → Option Value} {base : Heap}
theorem ok_LMade {f : Addr} {fd : FuncData} (Z : Blt K mg) (D : DefAt K mg "_law_made" sLMade pLMade f fd) : FnOk P w K mg base CX0 1 f fd pLMade (spLMade K) := by
  refine D.F.ok scLMade (fun vs H Q E h => ?_) (fun cdv A outer s0 H vs Q E hr h => ?_)
  · obtain ⟨a, b, us, xs, g, rfl, _⟩ := h
    rfl
  have hu := hu_of hr
  obtain ⟨a, b, us, xs, g, rfl, h1, h2, h3, hn, k⟩ := h
  refine ⟨_, (pss_cons (ps_par (i := 2) (j := 3) (by rfl) scLMade.nd rfl rfl (by decide) rfl rfl (pa_cons (pe_lst pa_nil) (pa_cons pe_non pa_nil)) (by rfl))
    (pss_cons (ps_for PassesOwn.never rfl (pi_zip (by rfl) Z.zip (pa_cons (pv 0) (pa_cons (pv 1) pa_nil))) (pg_tup rfl (pgs_cons (pg_name (i := 4) scLMade.nd rfl (Or.inl rfl)) (pgs_cons (pg_name (i := 5) scLMade.nd rfl (Or.inl rfl)) pgs_nil)))
    (Evl.pss_cut (ps_if (PW.pt (pw_and (pt_val (pv 5)) (pw_and1 (pt_cmpR op_isN (pv 3) pe_non (nomark _)))))
      (pss_one (ps_set (i := 3) scLMade.nd rfl (Or.inl rfl) (pv 4)))
      pss_nil)
      (pss_one (ps_if (PW.pt (pw_and (pt_not (pt_val (pv 5))) (pw_and1 (pt_cmpR op_notN (pv 3) pe_non (nomark _)))))
      (pss_cons (ps_expr (pe_bm PySem.F.plainAttrs_list PySem.F.slot_list_append PySem.F.type_list_append mt_append (pv 2) (pa_cons (pe_tup (pa_cons (pv 3) (pa_cons (pv 4) pa_nil))) pa_nil)))
        (pss_one (ps_set (i := 3) scLMade.nd rfl (Or.inl rfl) pe_non)))
      pss_nil))))
    (Evl.pss_cut (ps_if (pt_cmpR op_notN (pv 3) pe_non (nomark _))
    (pss_one (ps_expr (pe_bm PySem.F.plainAttrs_list PySem.F.slot_list_append PySem.F.type_list_append mt_append (pv 2) (pa_cons (pe_tup (pa_cons (pv 3) (pa_cons pe_non pa_nil))) pa_nil))))
    pss_nil)
    (pss_one (ps_ret (pe_callTy call_tuple_of (by rfl) Z.tuple (by decide +kernel) (pa_cons (pv 2) pa_nil))))))), ?_⟩
  have lu := paired_len h2
  have full := turns_sub g false xs
  have flen := full.length_le
  refine ⟨Nat.zero_le _, fun F hF => ?_⟩
  have s1 : Same H (upd H F (.lst [])) := Same.new hF
  have e1 : upd H F (.lst []) F = some (.lst []) := upd_same
  generalize upd H F (.lst []) = H1 at s1 e1
  have nF : ∀ c ys, H c = some (.lst ys) → c ≠ F := fun c ys q z => by
    rw [z, hF] at q
    cases q
  refine ⟨.ref F, .non, rfl, _, rfl, _, rfl, a, b, us, _, rfl, SqL.of (s1 _ _ h1), SqL.of (s1 _ _ h3), for_it (walk_zip (K := K) (a := a) (b := b) (xs := us) (ys := (xs.map g).map V.bl) (n := us.length) (by rw [List.length_map, List.length_map, lu, Nat.min_self])) (fun i σ H' => ∃ (dn : List Vr) (o : Option Vr) (bv : V) (ts : List V) (v4 v5 : Option V), σ = [some (.ref a), some (.ref b), some (.ref F), some bv, v4, v5] ∧ H' F = some (.lst ts) ∧ Paired (PV K H') ts (prs dn) ∧ dn.length % 2 = 0 ∧ HV K H' bv o ∧ turns g false xs = dn ++ (o.toList ++ turns g o.isSome (xs.drop i)) ∧ Same H H')
    ⟨[], none, .non, [], none, none, rfl, e1, .nil, rfl, rfl, rfl, s1⟩ (fun i σ H' _ ⟨_, _, _, _, _, _, _, _, _, _, _, _, s⟩ => ⟨SqL.of (s _ _ h1), SqL.of (s _ _ h3)⟩) ?_ ?_⟩
  · rintro i _ σ G _ hi ⟨dn, o, bv, ts, v4, v5, rfl, eF, hts, ev, hbv, ef, sG⟩ ⟨T, y1, y2, rfl, hT, rfl, q1, q2⟩
    obtain ⟨x, hx, hv⟩ := paired_get h2 q1
    obtain rfl : V.bl (g x) = y2 := by
      have q2' : ((xs.map g).map V.bl)[i]? = some y2 := q2
      rw [List.getElem?_map, List.getElem?_map, hx] at q2'
      exact Option.some.inj q2'
    have sN : Same G (upd G T (.tup [y1, .bl (g x)])) := Same.new hT
    refine ⟨T, _, rfl, SqT.of upd_same, rfl, _, _, rfl, _, _, rfl, rfl, ?_⟩
    generalize upd G T (.tup [y1, .bl (g x)]) = G6 at sN
    have eF6 := sN _ _ eF
    have hts6 := pvs_tk (TKp.of (K := K) sN) hts
    have hbv6 := hbv.tk (TKp.of sN)
    have s6 := sG.trans sN
    have hv6 := hv.same (TKp.of s6)
    have ed : xs.drop i = x :: xs.drop (i + 1) := by
      obtain ⟨hlt, hg⟩ := List.getElem?_eq_some_iff.mp hx
      rw [← hg, List.getElem_cons_drop]
    rw [ed] at ef
    have et : ∀ ins, turns g ins (x :: xs.drop (i + 1)) = if (g x != ins) = true then x :: turns g (!ins) (xs.drop (i + 1)) else turns g ins (xs.drop (i + 1)) := fun _ => rfl
    rw [et] at ef
    generalize g x = m at *
    refine ⟨fun σ' H' => ∃ o' bv', σ' = [some (.ref a), some (.ref b), some (.ref F), some bv', some y1, some (.bl m)] ∧ H' = G6 ∧ HV K G6 bv' o' ∧ (o' = if m = true ∧ o = none then some x else o), ?_, ?_⟩
    · refine ⟨_, rfl, m, rfl, ?_⟩
      cases m with
      | false =>
        refine iteF ?_
        exact ⟨o, bv, rfl, rfl, hbv6, rfl⟩
      | true =>
        refine iteT ⟨_, rfl, rfl, _, rfl, ?_⟩
        cases o with
        | none =>
          obtain rfl : bv = .non := hbv6
          refine iteT ?_
          exact ⟨_, rfl, some x, y1, rfl, rfl, hv6, rfl⟩
        | some z =>
          obtain ⟨az, rfl, hz⟩ := (show IV K G6 bv z from hbv6)
          refine iteF ?_
          exact ⟨some z, _, rfl, rfl, hbv6, rfl⟩
    · rintro σ' G8 ⟨o', bv', rfl, rfl, hb', eo⟩
      have pl := prs_len dn
      have lts := paired_len hts6
      cases m with
      | true =>
        refine ⟨_, rfl, true, rfl, ?_⟩
        refine ⟨dn, o', bv', ts, _, _, rfl, eF6, hts6, ev, hb', ?_, s6⟩
        rw [ef, eo]
        cases o <;> rfl
      | false =>
        refine ⟨_, rfl, false, rfl, _, rfl, rfl, _, rfl, ?_⟩
        obtain rfl : o' = o := eo
        cases o' with
        | none =>
          obtain rfl : bv' = .non := hb'
          refine iteF ?_
          exact ⟨dn, none, .non, ts, _, _, rfl, eF6, hts6, ev, rfl, ef, s6⟩
        | some z =>
          obtain ⟨az, rfl, hz⟩ := (show IV K G8 bv' z from hb')
          refine iteT ?_
          refine ⟨_, rfl, .inl ⟨rfl, _, SqL.of eF6⟩, _, rfl, _, rfl, by show 2 ≤ sizeLine; decide, fun t ht => ?_⟩
          have st : Same G8 (upd G8 t (.tup [.ref az, y1])) := Same.new ht
          have et' : upd G8 t (.tup [.ref az, y1]) t = some (.tup [.ref az, y1]) := upd_same
          generalize upd G8 t (.tup [.ref az, y1]) = G7 at st et'
          have eF7 := st _ _ eF6
          have tk := (TKp.of (K := K) st).trans (TKp.mut (ys := ts ++ [V.ref t]) eF7)
          have lfull : dn.length ≤ xs.length := by
            rw [ef, List.length_append] at flen
            omega
          refine ⟨F, ts, _, rfl, rfl, eF7, ?_, ?_⟩
          · have : sizeLine = 16777216 := by decide
            omega
          · refine ⟨dn ++ [z, x], none, .non, ts ++ [.ref t], _, _, rfl, upd_same, ?_, ?_, rfl, ?_, Same.out (s6.trans st) hF⟩
            · rw [prs_two ev]
              exact paired_app (pvs_tk tk hts6) (.cons ⟨t, .ref az, y1, rfl, TKp.mut eF7 _ _ (SqT.of et'), (IV.same ⟨az, rfl, hz⟩ tk), hv6.same tk⟩ .nil)
            · rw [List.length_append]
              show (dn.length + 2) % 2 = 0
              omega
            · rw [ef]
              simp
  · rintro σ G ⟨dn, o, bv, ts, v4, v5, rfl, eF, hts, ev, hbv, ef, sG⟩
    have ed : xs.drop us.length = [] := by rw [lu, List.drop_length]
    rw [ed] at ef
    have ef' : turns g false xs = dn ++ o.toList := by
      rw [ef]
      cases o <;> rfl
    have pl := prs_len dn
    have lts := paired_len hts
    have lfull : dn.length ≤ xs.length := by
      rw [ef', List.length_append] at flen
      omega
    refine ⟨fun σ' H' => ∃ ts', σ' = [some (.ref a), some (.ref b), some (.ref F), some bv, v4, v5] ∧ H' F = some (.lst ts') ∧ Paired (PV K H') ts' (prs (turns g false xs)) ∧ Same H H', ?_, ?_⟩
    · refine ⟨_, rfl, rfl, _, rfl, ?_⟩
      cases o with
      | none =>
        obtain rfl : bv = .non := hbv
        refine iteF ?_
        refine ⟨ts, rfl, eF, ?_, sG⟩
        rw [ef', show (none : Option Vr).toList = [] from rfl, List.append_nil]
        exact hts
      | some z =>
        obtain ⟨az, rfl, hz⟩ := (show IV K G bv z from hbv)
        refine iteT ?_
        refine ⟨_, rfl, .inl ⟨rfl, _, SqL.of eF⟩, _, rfl, by show 2 ≤ sizeLine; decide, fun t ht => ?_⟩
        have st : Same G (upd G t (.tup [.ref az, .non])) := Same.new ht
        have et' : upd G t (.tup [.ref az, .non]) t = some (.tup [.ref az, .non]) := upd_same
        generalize upd G t (.tup [.ref az, .non]) = G7 at st et'
        have eF7 := st _ _ eF
        have tk := (TKp.of (K := K) st).trans (TKp.mut (ys := ts ++ [V.ref t]) eF7)
        refine ⟨F, ts, _, rfl, rfl, eF7, ?_, ?_⟩
        · have : sizeLine = 16777216 := by decide
          omega
        · refine ⟨ts ++ [.ref t], rfl, upd_same, ?_, Same.out (sG.trans st) hF⟩
          rw [ef', show (some z).toList = [z] from rfl, prs_one ev]
          exact paired_app (pvs_tk tk hts) (.cons ⟨t, .ref az, .non, rfl, TKp.mut eF7 _ _ (SqT.of et'), IV.same ⟨az, rfl, hz⟩ tk, rfl⟩ .nil)
    · rintro σ' G2 ⟨ts', rfl, e2, h5, s5⟩
      refine ⟨_, rfl, F, ts', rfl, .inl ⟨SqL.of e2, fun l hl => ?_⟩⟩
      exact k _ _ (s5.trans (Same.new hl)) ⟨l, ts', rfl, SqT.of upd_same, pvs_tk (TKp.of (Same.new hl)) h5⟩
end


def spLOp (K : PySem.W.Frag) (g : Bool → Bool → Bool) : Sp := fun vs H Q _ => ∃ (v u : V) (r s : Rg) (B : Int), vs = [v, u] ∧ SV K H v r ∧ SV K H u s ∧ RgOK B r ∧ RgOK B s ∧ 3 ≤ B ∧ (flat r).length + (flat s).length < 63 ∧
  ∀ H' y t, Same H H' → SV K H' y t → RgOK B t → (∀ x, inB t x = g (inB r x) (inB s x)) → (flat t).length ≤ (flat r).length + (flat s).length + 1 → Q y H'
abbrev spLJoined (K : PySem.W.Frag) : Sp := spLOp K (· || ·)
abbrev spLCut (K : PySem.W.Frag) : Sp := spLOp K (· && ·)
abbrev spLWithout (K : PySem.W.Frag) : Sp := spLOp K (fun a b => a && !b)
section
variable {P : Program} {w : World} {K : PySem.W.Frag} {mg : Str → Option Value} {base : Heap}
end


section
open LamX NdefX PyProof.Rows PySem.Spec
abbrev spJoined (K : PySem.W.Frag) (T : List (Addr × Str)) : Sp := spOp K T (· || ·)
abbrev spCut (K : PySem.W.Frag) (T : List (Addr × Str)) : Sp := spOp K T (· && ·)
abbrev spWithout (K : PySem.W.Frag) (T : List (Addr × Str)) : Sp := spOp K T (fun a b => a && !b)
/-- all but the deck and the tables stay -/
def Kn (d l : Addr) (H H' : Hp) : Prop := ∀ b o, b ≠ d → b ≠ l → (∀ q, o ≠ .tbl q) → H b = some o → H' b = some o
section
variable {d l : Addr} {H H' H1 H2 : Hp}
theorem Kn.refl (H : Hp) : Kn d l H H := fun _ _ _ _ _ h => h
theorem Kn.trans (a : Kn d l H H1) (b : Kn d l H1 H2) : Kn d l H H2 := fun c o h1 h2 n h => b c o h1 h2 n (a c o h1 h2 n h)
theorem Kn.kp (k : Kp d l H H') : Kn d l H H' := fun c o h1 h2 _ h => k c o h1 h2 h
theorem Kn.ext (e : ExtN H H') : Kn d l H H' := fun c o _ _ n h => e c o h n
theorem Kn.same (s : Same H H') : Kn d l H H' := Kn.kp (Kp.same s)
theorem Kn.lst {a : Addr} {xs : List V} (k : Kn d l H H') (D : Deck d l H) (ne : a ≠ l) (h : H a = some (.lst xs)) : H' a = some (.lst xs) := k a _ (D.nedl h) ne (fun _ q => nomatch q) h
theorem Kn.tk {K : PySem.W.Frag} (k : Kn d l H H') (D : Deck d l H) : TKp K H H' := fun a xs h => by
  obtain ⟨ns, m, t, h1, h2, _⟩ := D
  rcases h with (h | ⟨o, h⟩) | h
  · exact .inl (.inl (k a _ (ne_of h h1 (fun q => nomatch q)) (ne_of h h2 (fun q => nomatch q)) (fun _ q => nomatch q) h))
  · exact .inl (.inr ⟨o, k a _ (ne_of h h1 (fun q => nomatch q)) (ne_of h h2 (fun q => nomatch q)) (fun _ q => nomatch q) h⟩)
  · exact .inr h
theorem Deck.ext (D : Deck d l H) (e : ExtN H H') : Deck d l H' := by
  obtain ⟨ns, m, t, h1, h2, r⟩ := D
  exact ⟨ns, m, t, e _ _ h1 (fun _ q => nomatch q), e _ _ h2 (fun _ q => nomatch q), r⟩
theorem tabs_kp {T : List (Addr × Str)} (t : Tabs T H) (k : Kp d l H H') (D : Deck d l H) : Tabs T H' := fun p hp => by
  obtain ⟨ns, m, tt, h1, h2, _⟩ := D
  obtain ⟨ps, e1, e2, e3⟩ := t p hp
  refine ⟨ps, k _ _ (ne_of e1 h1 (fun q => nomatch q)) (ne_of e1 h2 (fun q => nomatch q)) e1, e2, fun pos cv hc => ?_⟩
  obtain ⟨c, y1, y2⟩ := e3 pos cv hc
  exact ⟨c, y1, k _ _ (ne_of y2 h1 (fun q => by unfold CodeO at q; cases q)) (ne_of y2 h2 (fun q => by unfold CodeO at q; cases q)) y2⟩
end
theorem tabs_mut {T : List (Addr × Str)} {H : Hp} {p : Addr} {xs ys : List V} (t : Tabs T H) (e : H p = some (.lst xs)) : Tabs T (upd H p (.lst ys)) := fun q hq => by
  obtain ⟨ps, e1, e2, e3⟩ := t q hq
  refine ⟨ps, by rw [upd_ne (ne_of e1 e (fun z => nomatch z))]; exact e1, e2, fun pos cv hc => ?_⟩
  obtain ⟨c, y1, y2⟩ := e3 pos cv hc
  exact ⟨c, y1, by rw [upd_ne (ne_of y2 e (fun z => by unfold CodeO at z; cases z))]; exact y2⟩
/-- a value that is a range, its borders so many at most -/
structure RR (K : PySem.W.Frag) (H : Hp) (v : V) (r : Rg) (n : Nat) : Prop where
  sv : SV K H v r
  ok : RgOK 1000000010 r
  len : (flat r).length ≤ n
section
variable {K : PySem.W.Frag} {H H' : Hp} {v u : V} {r s : Rg} {n m : Nat}
theorem RR.tk (h : RR K H v r n) (k : TKp K H H') : RR K H' v r n := ⟨h.sv.tk k, h.ok, h.len⟩
theorem RR.same (h : RR K H v r n) (k : Same H H') : RR K H' v r n := h.tk (TKp.of k)
theorem RR.ext (h : RR K H v r n) (k : ExtN H H') : RR K H' v r n := h.tk (TKp.ext k)
theorem RR.mono (h : RR K H v r n) (k : n ≤ m) : RR K H v r m := ⟨h.sv, h.ok, Nat.le_trans h.len k⟩
theorem RR.eq (a : RR K H v r n) (b : RR K H' u s m) (h : ∀ x, inB r x = inB s x) : r = s := rg_ext a.ok b.ok h
theorem RR.rl (a : RR K H v r n) : r.length ≤ n := Nat.le_trans (rg_flat r) a.len
theorem RR.rq (a : RR K H v r n) (hn : n ≤ 1000 := by decide) : Rq (RD r) 4 13000 := rq_rd a.ok (by decide) (Nat.le_trans a.rl hn)
theorem RR.every (h : SV K H v [([0, 0, 0, 0, 0], none)]) : RR K H v [([0, 0, 0, 0, 0], none)] 1 := ⟨h, whole_ok (by decide), by decide⟩
theorem Rp.bool (b : Bool) : Rp (.bool b) := (Rq.bool b).rp (by decide) (by decide)
theorem rp_1 (a : Rq (RD r) 4 13000) : Rp (RD r) := a.rp (by decide) (by decide)
theorem rp_2 (a : Rq (RD r) 4 13000) (b : Rq (RD s) 4 13000) : Rp (.tuple [RD r, RD s]) := (Rq.tuple (k := 4) (n := 13000) (m := 40000) (fun d hd => by
  simp only [List.mem_cons, List.not_mem_nil, or_false] at hd
  rcases hd with rfl | rfl
  · exact a
  · exact b) (by show 2 * 13001 ≤ 40000; decide)).rp (by decide) (by decide)
theorem rp_3 {t : Rg} (a : Rq (RD r) 4 13000) (b : Rq (RD s) 4 13000) (c : Rq (RD t) 4 13000) : Rp (.tuple [RD r, RD s, RD t]) := (Rq.tuple (k := 4) (n := 13000) (m := 40000) (fun d hd => by
  simp only [List.mem_cons, List.not_mem_nil, or_false] at hd
  rcases hd with rfl | rfl | rfl
  · exact a
  · exact b
  · exact c) (by show 3 * 13001 ≤ 40000; decide)).rp (by decide) (by decide)
theorem useOp {T : List (Addr × Str)} {g : Bool → Bool → Bool} {Q : VK} (h1 : RR K H v r n) (h2 : RR K H u s m) (hT : Tabs T H)
    (k : ∀ H' y t, ExtN H H' → Tabs T H' → RR K H' y t (n + m) → (∀ x, inB t x = g (inB r x) (inB s x)) → Q y H') (hn : n + m < 63 := by decide) : spOp K T g [v, u] H Q E0 :=
  ⟨v, u, r, s, _, rfl, h1.sv, h2.sv, h1.ok, h2.ok, by decide, by have := h1.len; have := h2.len; omega, hT, fun H' y t e T' sv ok i l => k H' y t e T' ⟨sv, ok, by have := h1.len; have := h2.len; omega⟩ i⟩
theorem useLOp {g : Bool → Bool → Bool} {Q : VK} (h1 : RR K H v r n) (h2 : RR K H u s m)
    (k : ∀ H' y t, Same H H' → RR K H' y t (n + m + 1) → (∀ x, inB t x = g (inB r x) (inB s x)) → Q y H') (hn : n + m < 63 := by decide) : spLOp K g [v, u] H Q E0 :=
  ⟨v, u, r, s, _, rfl, h1.sv, h2.sv, h1.ok, h2.ok, by decide, by have := h1.len; have := h2.len; omega, fun H' y t e sv ok i l => k H' y t e ⟨sv, ok, by have := h1.len; have := h2.len; omega⟩ i⟩
theorem useJ {T : List (Addr × Str)} {Q : VK} (h1 : RR K H v r n) (h2 : RR K H u s m) (hT : Tabs T H)
    (k : ∀ H' y t, ExtN H H' → Tabs T H' → RR K H' y t (n + m) → (∀ x, inB t x = (inB r x || inB s x)) → Q y H') (hn : n + m < 63 := by decide) : spJoined K T [v, u] H Q E0 := useOp (g := (· || ·)) h1 h2 hT k hn
theorem useLJ {Q : VK} (h1 : RR K H v r n) (h2 : RR K H u s m)
    (k : ∀ H' y t, Same H H' → RR K H' y t (n + m + 1) → (∀ x, inB t x = (inB r x || inB s x)) → Q y H') (hn : n + m < 63 := by decide) : spLJoined K [v, u] H Q E0 := useLOp (g := (· || ·)) h1 h2 k hn
theorem useC {T : List (Addr × Str)} {Q : VK} (h1 : RR K H v r n) (h2 : RR K H u s m) (hT : Tabs T H)
    (k : ∀ H' y t, ExtN H H' → Tabs T H' → RR K H' y t (n + m) → (∀ x, inB t x = (inB r x && inB s x)) → Q y H') (hn : n + m < 63 := by decide) : spCut K T [v, u] H Q E0 := useOp (g := (· && ·)) h1 h2 hT k hn
theorem useLC {Q : VK} (h1 : RR K H v r n) (h2 : RR K H u s m)
    (k : ∀ H' y t, Same H H' → RR K H' y t (n + m + 1) → (∀ x, inB t x = (inB r x && inB s x)) → Q y H') (hn : n + m < 63 := by decide) : spLCut K [v, u] H Q E0 := useLOp (g := (· && ·)) h1 h2 k hn
theorem useW {T : List (Addr × Str)} {Q : VK} (h1 : RR K H v r n) (h2 : RR K H u s m) (hT : Tabs T H)
    (k : ∀ H' y t, ExtN H H' → Tabs T H' → RR K H' y t (n + m) → (∀ x, inB t x = (inB r x && !inB s x)) → Q y H') (hn : n + m < 63 := by decide) : spWithout K T [v, u] H Q E0 := useOp (g := (fun a b => a && !b)) h1 h2 hT k hn
theorem useLW {Q : VK} (h1 : RR K H v r n) (h2 : RR K H u s m)
    (k : ∀ H' y t, Same H H' → RR K H' y t (n + m + 1) → (∀ x, inB t x = (inB r x && !inB s x)) → Q y H') (hn : n + m < 63 := by decide) : spLWithout K [v, u] H Q E0 := useLOp (g := (fun a b => a && !b)) h1 h2 k hn
/-- what the three operations make of r and s -/
def Told (K : PySem.W.Frag) (H : Hp) (tv : V) (r s : Rg) : Prop := ∃ (a : Addr) (ys : List V) (t1 t2 t3 : Rg), tv = .ref a ∧ SqT K H a ys ∧ Paired (fun y t => RR K H y t 28) ys [t1, t2, t3] ∧
  (∀ x, inB t1 x = (inB r x || inB s x)) ∧ (∀ x, inB t2 x = (inB r x && inB s x)) ∧ (∀ x, inB t3 x = (inB r x && !inB s x))
theorem Told.tk {tv : V} (h : Told K H tv r s) (k : TKp K H H') : Told K H' tv r s := by
  obtain ⟨a, ys, t1, t2, t3, e, h1, h2, h3⟩ := h
  exact ⟨a, ys, t1, t2, t3, e, k _ _ h1, L2.Paired.mapP h2 fun _ _ q => q.tk k, h3⟩
end
end


abbrev sCertificateOf : Stmt := top 23
abbrev nCertificateOf : List Str := ["word", "against"]
abbrev pCertificateOf : List Str := ["word", "against"]
theorem scCertificateOf : FnScope nCertificateOf pCertificateOf (defScope sCertificateOf) := ⟨rfl, rfl, rfl, by decide +kernel, rfl, by decide +kernel, by decide +kernel⟩
/-- certificates about two ranges -/
inductive Ct
  | word (w : Str)
  | ver (x : Vr)
def CV (K : PySem.W.Frag) (H : Hp) (v : V) : Ct → Prop
  | .word w => ∃ a, v = .ref a ∧ SqT K H a [.str w]
  | .ver x => ∃ a u, v = .ref a ∧ SqT K H a [.str "version", u] ∧ IV K H u x
def CD : Ct → PyData
  | .word w => .tuple [.str w]
  | .ver x => .tuple [.str "version", TD x]
def CtOK (B : Int) : Ct → Prop
  | .word w => w = "within" ∨ w = "same"
  | .ver x => Ver B x
def ctOf (w : Str) : Rg → Ct
  | [] => .word w
  | p :: _ => .ver p.1
theorem CV.tk {K : PySem.W.Frag} {H H' : Hp} {v : V} (k : TKp K H H') : ∀ {c : Ct}, CV K H v c → CV K H' v c
  | .word _, ⟨a, e, h⟩ => ⟨a, e, k _ _ h⟩
  | .ver _, ⟨a, u, e, h, i⟩ => ⟨a, u, e, k _ _ h, i.same k⟩
theorem CV.dp {K : PySem.W.Frag} {H : Hp} {v : V} : ∀ {c : Ct}, CV K H v c → Dp K H v (CD c)
  | .word _, ⟨a, e, h⟩ => by
    subst e
    exact .tup h (.cons (.str _) .nil)
  | .ver _, ⟨a, u, e, h, i⟩ => by
    subst e
    exact .tup h (.cons (.str _) (.cons i.dp .nil))
theorem rq_str {w : Str} (h : w = "within" ∨ w = "same" ∨ w = "version") : Rq (.str w) 1 10 := by
  rcases h with rfl | rfl | rfl
  · exact ⟨by decide +kernel, by decide +kernel, by decide, by decide +kernel, by decide⟩
  · exact ⟨by decide +kernel, by decide +kernel, by decide, by decide +kernel, by decide⟩
  · exact ⟨by decide +kernel, by decide +kernel, by decide, by decide +kernel, by decide⟩
theorem rq_ct {B : Int} {c : Ct} (h : CtOK B c) (hB : B < 9999999999999) : Rq (CD c) 3 30 := by
  cases c with
  | word w => exact (Rq.tuple (k := 1) (n := 10) (m := 11) (fun d hd => by rw [List.mem_singleton.mp hd]; exact rq_str (h.elim .inl fun q => .inr (.inl q))) (by show 1 * 11 ≤ 11; decide)).mono (by decide) (by decide)
  | ver x => exact Rq.tuple (k := 2) (n := 10) (fun d hd => by
      simp only [List.mem_cons, List.not_mem_nil, or_false] at hd
      rcases hd with rfl | rfl
      · exact (rq_str (.inr (.inr rfl))).mono (by decide) (by decide)
      · exact (rq_ver h hB).mono (by decide) (by decide)) (by show 2 * 11 ≤ 30; decide)
theorem Rq.shp {d : PyData} {k n : Nat} (h : Rq d k n) (hk : k < 60) : SeqAt.shaped d = true := by
  unfold SeqAt.shaped
  rw [Bool.and_eq_true]
  exact ⟨h.ly, decide_eq_true (by have := h.dp; omega)⟩
theorem ctOf_ok {B : Int} {w : Str} {t : Rg} (h : RgOK B t) (hw : w = "within" ∨ w = "same") : CtOK B (ctOf w t) := by
  cases t with
  | nil => exact hw
  | cons p t => exact (h.ver p (List.mem_cons.mpr (.inl rfl))).1
theorem CtOK.mono {B C : Int} {c : Ct} (h : CtOK B c) (hc : B ≤ C) : CtOK C c := by
  cases c with
  | word w => exact h
  | ver x => exact Ver.mono h hc
def spCertificateOf (K : PySem.W.Frag) : Sp := fun vs H Q _ => ∃ (w : Str) (v : V) (r : Rg) (B : Int), vs = [.str w, v] ∧ SV K H v r ∧ RgOK B r ∧ B < 9999999999999 ∧ r.length ≤ 1000 ∧ ∀ H' y, Same H H' → CV K H' y (ctOf w r) → Q y H'
def spIsCertificate (K : PySem.W.Frag) : Sp := fun vs H Q _ => ∃ (v u : V) (c e : Ct) (B : Int), vs = [v, u] ∧ CV K H v c ∧ CV K H u e ∧ CtOK B c ∧ CtOK B e ∧ B < 9999999999999 ∧ ∀ H', Same H H' → Q (.bl (PyData.eqv (CD c) (CD e))) H'
section
variable {P : Program} {w : World} {K : PySem.W.Frag} {mg : Str → Option Value} {base : Heap}
theorem ok_CertificateOf {f : Addr} {fd : FuncData} {fLeastIn : Addr} {fdLeastIn : FuncData} (Z : Blt K mg) (D : DefAt K mg "certificate_of" sCertificateOf pCertificateOf f fd) (DLeastIn : DefAt K mg "least_in" sLeastIn pLeastIn fLeastIn fdLeastIn) (GLeastIn : FnOk P w K mg base CX0 6 fLeastIn fdLeastIn pLeastIn (spLeastIn K)) : FnOk P w K mg base CX0 7 f fd pCertificateOf (spCertificateOf K) := by
  refine D.F.ok scCertificateOf (fun vs H Q E h => ?_) (fun cdv A outer s0 H vs Q E hr h => ?_)
  · obtain ⟨w, v, r, B, rfl, _⟩ := h
    rfl
  have hu := hu_of hr
  obtain ⟨wd, v, r, B, rfl, h1, ho, hB, hl, k⟩ := h
  refine ⟨_, (pss_cons (ps_if (pt_cmpR (op_eqD hr.units) (pv 1) (pe_tup pa_nil) (nomark _))
    (pss_one (ps_ret (pe_tup (pa_cons (pv 0) pa_nil))))
    pss_nil)
    (pss_one (ps_ret (pe_tup (pa_cons pe_str (pa_cons (pe_call GLeastIn (hr.mono (by decide)) rfl DLeastIn.g DLeastIn.F.kp DLeastIn.b .nil pass0 (pa_cons (pv 1) pa_nil)) pa_nil)))))), ?_⟩
  refine ⟨_, rfl, Nat.zero_le _, fun t ht => ?_⟩
  have s2 : Same H (upd H t (.tup [])) := Same.new ht
  have et : upd H t (.tup []) t = some (.tup []) := upd_same
  generalize upd H t (.tup []) = H2 at s2 et
  have h2 := h1.tk (TKp.of (K := K) s2)
  have rp := (rq_rd ho hB hl).rp (by decide) (by decide)
  refine ⟨RD r, .tuple [], h2.dp, .tup (SqT.of et) .nil, rp.2.1, by decide, _, rfl, ?_⟩
  have eq : PyData.eqv (RD r) (.tuple []) = r.isEmpty := by
    unfold RD
    rw [eqv_nilT]
    cases r <;> rfl
  rw [eq]
  cases r with
  | nil =>
    refine iteT ⟨_, rfl, by show 1 ≤ sizeLine; decide, fun c hc => ?_⟩
    exact k _ _ (s2.trans (Same.new hc)) ⟨c, rfl, SqT.of upd_same⟩
  | cons p r =>
    refine iteF ⟨_, rfl, v, _, B, rfl, h2, ho, hB, hl, fun H3 y s3 hy => ⟨by show 2 ≤ sizeLine; decide, fun c hc => ?_⟩⟩
    have s4 : Same H3 _ := Same.new (o := .tup [.str "version", y]) hc
    exact k _ _ ((s2.trans s3).trans s4) ⟨c, y, rfl, SqT.of upd_same, IV.same (show IV K H3 y p.1 from hy) (TKp.of s4)⟩
end
/-- a certificate, of any kind -/
def CTs (K : PySem.W.Frag) (H : Hp) (y : V) : Prop := ∃ c, CV K H y c ∧ CtOK 1000000020 c
theorem CTs.tk {K : PySem.W.Frag} {H H' : Hp} {y : V} (h : CTs K H y) (k : TKp K H H') : CTs K H' y := by
  obtain ⟨c, h1, h2⟩ := h
  exact ⟨c, h1.tk k, h2⟩
abbrev sJudgeSame : Stmt := top 22
abbrev nJudgeSame : List Str := ["one", "other"]
abbrev pJudgeSame : List Str := ["one", "other"]
theorem scJudgeSame : FnScope nJudgeSame pJudgeSame (defScope sJudgeSame) := ⟨rfl, rfl, rfl, by decide +kernel, rfl, by decide +kernel, by decide +kernel⟩
section
open LamX NdefX PyProof.Rows PySem.Spec
def spJudge (K : PySem.W.Frag) (TT : List (Addr × Str)) (w : Str) (g : Bool → Bool → Bool) : Sp := fun vs H Q _ => ∃ (v u : V) (r s : Rg) (n m : Nat), vs = [v, u] ∧ RR K H v r n ∧ RR K H u s m ∧ n + m < 63 ∧ Tabs TT H ∧
  ∀ H' y t, ExtN H H' → Tabs TT H' → RgOK 1000000010 t → (∀ x, inB t x = g (inB r x) (inB s x)) → CV K H' y (ctOf w t) → Q y H'
def spHolds (K : PySem.W.Frag) (TT : List (Addr × Str)) (w : Str) (g : Bool → Bool → Bool) : Sp := fun vs H Q _ => ∃ (v u z : V) (r s : Rg) (n m : Nat) (c : Ct), vs = [v, u, z] ∧ RR K H v r n ∧ RR K H u s m ∧ n + m < 63 ∧ Tabs TT H ∧ CV K H z c ∧ CtOK 1000000020 c ∧
  ∀ H' t, ExtN H H' → Tabs TT H' → RgOK 1000000010 t → (∀ x, inB t x = g (inB r x) (inB s x)) → Q (.bl (PyData.eqv (CD c) (CD (ctOf w t)))) H'
abbrev spJudgeWithin (K : PySem.W.Frag) (TT : List (Addr × Str)) : Sp := spJudge K TT "within" (fun a b => a && !b)
abbrev spJudgeSame (K : PySem.W.Frag) (TT : List (Addr × Str)) : Sp := spJudge K TT "same" (fun a b => a != b)
abbrev spWithinHolds (K : PySem.W.Frag) (TT : List (Addr × Str)) : Sp := spHolds K TT "within" (fun a b => a && !b)
abbrev spSameHolds (K : PySem.W.Frag) (TT : List (Addr × Str)) : Sp := spHolds K TT "same" (fun a b => a != b)
variable {P : Program} {w : World} {K : PySem.W.Frag} {mg : Str → Option Value} {base : Heap} {TT : List (Addr × Str)}
theorem ok_JudgeSame {f fCertificateOf fCombined c Pt : Addr} {fd fdCertificateOf fdCombined : FuncData} (Z : Blt K mg) (D : DefAt K mg "judge_same" sJudgeSame pJudgeSame f fd) (hcd : fd.code = .ref c) (M : Mkr TT base mg c Pt "judge_same") (DCertificateOf : DefAt K mg "certificate_of" sCertificateOf pCertificateOf fCertificateOf fdCertificateOf) (GCertificateOf : FnOk P w K mg base CX0 7 fCertificateOf fdCertificateOf pCertificateOf (spCertificateOf K)) (DCombined : DefAt K mg "combined" sCombined pCombined fCombined fdCombined) (GCombined : FnOk P w K mg base CX0 6 fCombined fdCombined pCombined (spCombined P w K mg base)) : FnOk P w K mg base CX0 8 f fd pJudgeSame (spJudgeSame K TT) := by
  refine okC D.F hcd scJudgeSame (fun vs H Q E h => ?_) (fun A outer s0 H vs Q E hr h => ?_)
  · obtain ⟨v, u, r, s, n, m, rfl, _⟩ := h
    rfl
  have hu := hu_of hr
  obtain ⟨v, u, r, s, n, m, rfl, h1, h2, hn, hT, k⟩ := h
  refine ⟨_, (pss_one (ps_ret (pe_call GCertificateOf (hr.mono (by decide)) rfl DCertificateOf.g DCertificateOf.F.kp DCertificateOf.b .nil pass0 (pa_cons pe_str (pa_cons (pe_call GCombined (hr.mono (by decide)) rfl DCombined.g DCombined.F.kp DCombined.b .nil pass0 (pa_cons (pv 0) (pa_cons (pv 1) (pa_cons (pe_lamV M.tb rfl M.mem M.un rfl (nofree rfl)) pa_nil)))) pa_nil))))), ?_⟩
  refine ⟨_, rfl, _, rfl, hT, fun fa c' H1 e1 T1 nf ef ec => ?_⟩
  have W : Wn P w K mg base H1 fa (· != ·) := ⟨_, _, ["in_one", "in_other"], ef, ec, lok_of (N := ["in_one", "in_other"]) lamS rfl (fun pm ctv us hl => match us, hl with | [_, _], _ => rfl) (fun vs H Q E h => by obtain ⟨x, y, rfl, _⟩ := h; rfl) fun A outer s H vs Q hr q => by
    obtain ⟨x, y, rfl, q⟩ := q
    refine ⟨_, pe_cmpR op_ne (pv 0) (pv 1) (nomark _), ?_⟩
    refine ⟨_, rfl, _, rfl, rfl, ?_⟩
    have e : (!decide (V.bl x = V.bl y)) = (x != y) := by cases x <;> cases y <;> rfl
    rw [e]
    exact q⟩
  have tk := TKp.ext (K := K) e1
  have l1 := h1.len
  have l2 := h2.len
  refine ⟨v, u, fa, r, s, _, _, rfl, h1.sv.tk tk, h2.sv.tk tk, h1.ok, h2.ok, by decide, by omega, rfl, W, fun H2 y t s2 sv o1 o2 o3 => ?_⟩
  have lt := rg_flat t
  exact ⟨_, y, t, _, rfl, sv, o1, by decide, by omega, fun H3 z s3 hz => k H3 z t (e1.trans (ExtN.of (s2.trans s3))) (T1.ext (s2.trans s3)) o1 o2 hz⟩
end


abbrev sLStretches : Stmt := top 37
abbrev nLStretches : List Str := ["_law_deck_here", "_law_borders_here", "_law_marks", "_law_found", "_law_at", "_law_border", "_law_high", "_law_over", "_law_spot"]
abbrev pLStretches : List Str := ["_law_deck_here", "_law_borders_here", "_law_marks"]
theorem scLStretches : FnScope nLStretches pLStretches (defScope sLStretches) := ⟨rfl, rfl, rfl, by decide +kernel, rfl, by decide +kernel, by decide +kernel⟩
def spLStretches (K : PySem.W.Frag) : Sp := fun vs H Q _ => ∃ (d l b m : Addr) (us : List V) (xs : List Vr) (g : Vr → Bool), vs = [.ref d, .ref b, .ref m] ∧ Deck d l H ∧ H b = some (.lst us) ∧ b ≠ l ∧ Paired (IV K H) us xs ∧ xs.Pairwise lt ∧ (∀ x ∈ xs, Ver 1000000010 x) ∧ H m = some (.lst ((xs.map g).map V.bl)) ∧ m ≠ l ∧ xs.length ≤ 10 ∧
  ∀ H' q ys rs, Kp d l H H' → Deck d l H' → H q = none → H' q = some (.lst ys) → Paired (fun y r => RR K H' y r 2) ys rs → (∀ r ∈ rs, ∀ x, inB r x = true → lastB g x false xs = true) → (∀ x, lastB g x false xs = true → ∃ r ∈ rs, inB r x = true) → ys.length ≤ 20 → Q (.ref q) H'
section
open PyProof.Rows PySem.Spec
variable {P : Program} {w : World} {K : PySem.W.Frag} {mg : Str → Option Value} {base : Heap}
theorem ok_LStretches {f : Addr} {fd : FuncData} {fLMixed : Addr} {fdLMixed : FuncData} {fLPick : Addr} {fdLPick : FuncData} (Z : Blt K mg) (D : DefAt K mg "_law_stretches" sLStretches pLStretches f fd) (DLMixed : DefAt K mg "_law_mixed" sLMixed pLMixed fLMixed fdLMixed) (GLMixed : FnOk P w K mg base CX0 2 fLMixed fdLMixed pLMixed spLMixed) (DLPick : DefAt K mg "_law_pick" sLPick pLPick fLPick fdLPick) (GLPick : FnOk P w K mg base CX0 2 fLPick fdLPick pLPick spLPick) : FnOk P w K mg base CX0 3 f fd pLStretches (spLStretches K) := by
  refine D.F.ok scLStretches (fun vs H Q E h => ?_) (fun cdv A outer s0 H vs Q E hr h => ?_)
  · obtain ⟨d, l, b, m, us, xs, g, rfl, _⟩ := h
    rfl
  have hu := hu_of hr
  obtain ⟨d, l, b, m, us, xs, g, rfl, Dk, hb, nbl, hu, asc, hv, hm, nml, hl, k⟩ := h
  refine ⟨_, (pss_cons (ps_set (i := 3) scLStretches.nd rfl (Or.inl rfl) (pe_lst pa_nil))
    (pss_cons (ps_for PassesOwn.never rfl (pi_enum (by rfl) Z.enumerate (pa_cons (pv 1) pa_nil)) (pg_tup rfl (pgs_cons (pg_name (i := 4) scLStretches.nd rfl (Or.inr rfl)) (pgs_cons (pg_name (i := 5) scLStretches.nd rfl (Or.inl rfl)) pgs_nil)))
    (Evl.pss_cut (ps_set (i := 6) scLStretches.nd rfl (Or.inl rfl) (pe_ifExp (pt_cmpR op_lt (pe_op op_add (pv 4) pe_int) (pe_callB call_len_seq (by rfl) Z.len (by decide +kernel) (pa_cons (pv 1) pa_nil)) (nomark _)) (pe_ix ix_list (pv 1) (pe_op op_add (pv 4) pe_int) (fun _ _ => rfl)) pe_non))
      (pss_one (ps_if (pt_val (pe_ix ix_list (pv 2) (pv 4) (fun _ _ => rfl)))
      (pss_cons (ps_expr (pe_bm PySem.F.plainAttrs_list PySem.F.slot_list_append PySem.F.type_list_append mt_append (pv 3) (pa_cons (pe_tup (pa_cons (pe_tup (pa_cons (pv 5) (pa_cons (pv 6) pa_nil))) pa_nil)) pa_nil)))
        (pss_cons (ps_setLc (i := 7) (own := [("_law_spot", 8)]) (g := gName 8) rfl scLStretches.nd rfl rfl (sw_true rfl rfl rfl (by decide +kernel)) (pi_range1 (by rfl) Z.range (pa_cons (pe_op op_add (pv 4) pe_int) pa_nil)) (blkOk_by (own := [("_law_spot", 8)]) (N := nLStretches) (sc := defScope sLStretches) (by decide +kernel)) (fun _ _ _ _ _ => (pg_name (i := 8) scLStretches.nd rfl (Or.inl rfl))) (fun _ _ _ _ _ => (pts_one (pt_cmpR (op_notInDK K (u65 hr)) pe_bl (pe_slice (sl_listK K) (pv 2) (po_some (pv 8)) (po_some (pe_op op_add (pv 4) pe_int))) (by rfl)))) (fun _ _ _ _ _ => (pv 8)))
        (pss_one (ps_expr (pe_bm PySem.F.plainAttrs_list PySem.F.slot_list_append PySem.F.type_list_append mt_append (pv 3) (pa_cons (pe_tup (pa_cons (pe_tup (pa_cons (pe_ix ix_list (pv 1) (pe_call GLPick (hr.mono (by decide)) rfl DLPick.g DLPick.F.kp DLPick.b .nil pass0 (pa_cons (pv 0) (pa_cons (pv 7) pa_nil))) (fun _ _ => rfl)) (pa_cons (pv 6) pa_nil))) pa_nil)) pa_nil))))))
      pss_nil))))
    (pss_one (ps_ret (pe_call GLMixed (hr.mono (by decide)) rfl DLMixed.g DLMixed.F.kp DLMixed.b .nil pass0 (pa_cons (pv 0) (pa_cons (pv 3) pa_nil))))))), ?_⟩
  have lu := paired_len hu
  refine ⟨Nat.zero_le _, fun F hF => ?_⟩
  have s1 : Same H (upd H F (.lst [])) := Same.new hF
  have e1 : upd H F (.lst []) F = some (.lst []) := upd_same
  have nF : F ≠ l := Dk.free hF
  have nFb : b ≠ F := ne_of_none hb hF
  have nFm : m ≠ F := ne_of_none hm hF
  generalize upd H F (.lst []) = H1 at s1 e1
  refine ⟨_, rfl, b, us, rfl, SqL.of (s1 _ _ hb), for_it (walk_enum (K := K) (a := b) (xs := us)) (fun i σ H' => ∃ (v4 v5 v6 v7 : Option V) (ts : List V) (rs : List Rg), σ = [some (.ref d), some (.ref b), some (.ref m), some (.ref F), v4, v5, v6, v7, none] ∧ H' F = some (.lst ts) ∧ Paired (fun y r => RR K H' y r 2) ts rs ∧ (∀ r ∈ rs, ∀ x, inB r x = true → lastB g x false xs = true) ∧ (∀ j x, j < i → xs[j]? = some x → g x = true → [(x, xs[j + 1]?)] ∈ rs) ∧ ts.length ≤ 2 * i ∧ Kp d l H H' ∧ Deck d l H')
    ⟨none, none, none, none, [], [], rfl, e1, .nil, (fun _ h => nomatch h), (fun _ _ h => absurd h (Nat.not_lt_zero _)), Nat.le_refl _, Kp.same s1, Dk.mono s1⟩ (fun i σ H' _ ⟨_, _, _, _, _, _, _, _, _, _, _, _, kk, _⟩ => SqL.of (kk.lst Dk nbl hb)) ?_ ?_⟩
  · rintro i _ σ G5 _ hi ⟨v4, v5, v6, v7, ts, rs, rfl, eF, hts, snd, cov, htl, k5, D5⟩ ⟨T, x1, y1, rfl, hT, rfl, q1, q2⟩
    obtain rfl : V.int (i : Nat) = x1 := Option.some.inj q1
    obtain ⟨x, hx, hy5⟩ := paired_get (ivs_tk (TKp.kp (K := K) k5 Dk) hu) q2
    have ixs : i < xs.length := (List.getElem?_eq_some_iff.mp hx).1
    refine ⟨T, _, rfl, SqT.of upd_same, rfl, _, _, rfl, _, _, rfl, rfl, ?_⟩
    have s6 : Same G5 (upd G5 T (.tup [.int (i : Nat), y1])) := Same.new hT
    generalize upd G5 T (.tup [.int (i : Nat), y1]) = G6 at s6
    have k6 := k5.trans (Kp.same s6)
    have D6 := D5.mono s6
    have eF6 := s6 _ _ eF
    have hy6 := hy5.same (TKp.of s6)
    have hb6 := k6.lst Dk nbl hb
    have hm6 := k6.lst Dk nml hm
    have hu6 := ivs_tk (TKp.kp (K := K) k6 Dk) hu
    have hts6 := L2.Paired.mapP hts fun _ _ q => q.same s6
    refine ⟨fun σ' H' => ∃ hi', σ' = [some (.ref d), some (.ref b), some (.ref m), some (.ref F), some (.int (i : Nat)), some y1, some hi', v7, none] ∧ HV K G6 hi' xs[i + 1]? ∧ H' = G6, ?_, ?_⟩
    · refine ⟨_, rfl, _, _, rfl, rfl, _, rfl, b, us, rfl, .inl (SqL.of hb6), _, _, rfl, rfl, _, rfl, ?_⟩
      refine ite2 (fun e => ?_) (fun e => ?_)
      · have e := of_decide_eq_true e
        have hlt : i + 1 < us.length := by omega
        obtain ⟨x2, hx2, hy2⟩ := paired_get hu6 (List.getElem?_eq_getElem hlt)
        refine ⟨_, rfl, _, rfl, _, _, rfl, rfl, b, us, _, _, rfl, rfl, SqL.of hb6, at_of (j := i + 1) (by omega) (List.getElem?_eq_getElem hlt), ?_⟩
        exact ⟨_, rfl, by rw [hx2]; exact hy2, rfl⟩
      · have e : ¬ ((i : Int) + 1 < (us.length : Int)) := fun z => e (decide_eq_true z)
        have e2 : xs[i + 1]? = none := List.getElem?_eq_none (by omega)
        exact ⟨_, rfl, by rw [e2]; rfl, rfl⟩
    · rintro σ' G7 ⟨hi', rfl, hhi, rfl⟩
      have hmi : ((xs.map g).map V.bl)[i]? = some (.bl (g x)) := by rw [List.getElem?_map, List.getElem?_map, hx]; rfl
      refine ⟨_, rfl, _, rfl, m, _, _, _, rfl, rfl, SqL.of hm6, atI_nat (j := i) hmi, g x, rfl, ?_⟩
      cases eg : g x with
      | false =>
        refine iteF (A := True) ?_
        refine ⟨_, _, _, _, ts, rs, rfl, eF6, hts6, snd, fun j y hj hy hg => ?_, by omega, k6, D6⟩
        by_cases z : j = i
        · subst z
          rw [hx] at hy
          obtain rfl : x = y := Option.some.inj hy
          rw [eg] at hg
          cases hg
        · exact cov j y (by omega) hy hg
      | true =>
        refine iteT (B := True) ?_
        refine ⟨_, rfl, .inl ⟨rfl, _, SqL.of eF6⟩, _, rfl, _, rfl, by show 2 ≤ sizeLine; decide, fun t1 ht1 => ?_⟩
        have s7 : Same G7 (upd G7 t1 (.tup [y1, hi'])) := Same.new ht1
        have e7 : upd G7 t1 (.tup [y1, hi']) t1 = some (.tup [y1, hi']) := upd_same
        generalize upd G7 t1 (.tup [y1, hi']) = G8 at s7 e7
        refine ⟨by show 1 ≤ sizeLine; decide, fun t2 ht2 => ?_⟩
        have s8 : Same G8 (upd G8 t2 (.tup [.ref t1])) := Same.new ht2
        have e8 : upd G8 t2 (.tup [.ref t1]) t2 = some (.tup [.ref t1]) := upd_same
        generalize upd G8 t2 (.tup [.ref t1]) = G9 at s8 e8
        have s79 := s7.trans s8
        have eF9 := s79 _ _ eF6
        have szt : ts.length + 1 < sizeLine := by
          have : sizeLine = 16777216 := by decide
          omega
        refine ⟨F, ts, _, rfl, rfl, eF9, Nat.lt_of_succ_lt szt, ?_⟩
        have tkm := TKp.mut (K := K) (ys := ts ++ [V.ref t2]) eF9
        have tk9 := (TKp.of (K := K) s79).trans tkm
        have g9 : RR K (upd G9 F (.lst (ts ++ [.ref t2]))) (.ref t2) [(x, xs[i + 1]?)] 2 := ⟨⟨t2, _, rfl, tkm _ _ (SqT.of e8), .cons ⟨t1, _, _, rfl, tkm _ _ (SqT.of (s8 _ _ e7)), hy6.same tk9, hhi.tk tk9⟩ .nil⟩, seg_ok asc hv (Nat.le_refl i) hx, seg_len _ _⟩
        have hts9 : Paired (fun y r => RR K (upd G9 F (.lst (ts ++ [.ref t2]))) y r 2) (ts ++ [.ref t2]) (rs ++ [[(x, xs[i + 1]?)]]) := paired_app (L2.Paired.mapP hts6 fun _ _ q => q.tk tk9) (.cons g9 .nil)
        have k9 : Kp d l H (upd G9 F (.lst (ts ++ [.ref t2]))) := (k6.trans (Kp.same s79)).out hF
        have D9 : Deck d l (upd G9 F (.lst (ts ++ [.ref t2]))) := (D6.mono s79).mut ((D6.mono s79).nedl eF9) nF
        have eF10 : upd G9 F (.lst (ts ++ [.ref t2])) F = some (.lst (ts ++ [.ref t2])) := upd_same
        have hhi9 := hhi.tk tk9
        generalize upd G9 F (.lst (ts ++ [.ref t2])) = G10 at g9 hts9 k9 D9 eF10 hhi9
        have hm9 := k9.lst Dk nml hm
        have hb9 := k9.lst Dk nbl hb
        have hu9 := ivs_tk (TKp.kp (K := K) k9 Dk) hu
        refine ⟨_, rfl, _, _, rfl, rfl, (i : Int) + 1, rfl, by omega, by omega, fun L hL => ?_⟩
        have nL : L ≠ l := D9.free hL
        refine lc_range (lo := 0) (n := ((i : Int) + 1).toNat) (fun j H' => ∃ os, H' L = some (.lst os) ∧ (∀ v ∈ os, ∃ q : Nat, v = .int (q : Int) ∧ q ≤ i ∧ ∀ t c, q ≤ t → t ≤ i → xs[t]? = some c → g c = true) ∧ (i < j → V.int (i : Int) ∈ os) ∧ os.length ≤ j ∧ Same G10 H') ⟨[], upd_same, (fun _ h => nomatch h), (fun h => absurd h (Nat.not_lt_zero _)), Nat.le_refl _, Same.new hL⟩ ?_ ?_
        · rintro j H' hj ⟨os, o1, o2, o3, o4, sL⟩
          refine ⟨rfl, ?_⟩
          have hj' : j ≤ i := by omega
          have h1 : (0 + (j : Int)) = ((j : Nat) : Int) := by omega
          have h2 : (i : Int) + 1 = ((i + 1 : Nat) : Int) := by omega
          have hml : ((xs.map g).map V.bl).length = xs.length := by rw [List.length_map, List.length_map]
          have hcut : cutV ((xs.map g).map V.bl) (some (0 + (j : Int))) (some ((i : Int) + 1)) = ((((xs.map g).drop j).take (i + 1 - j)).map V.bl) := by
            rw [h1, h2, cutV_mid _ (by omega) (by omega), List.map_take, List.map_drop]
          have hbs : ∀ t c, j ≤ t → t ≤ i → xs[t]? = some c → g c ∈ ((xs.map g).drop j).take (i + 1 - j) := fun t c ht1 ht2 hc => by
            refine List.mem_of_getElem? (i := t - j) ?_
            rw [List.getElem?_take_of_lt (by omega), List.getElem?_drop, List.getElem?_map, show j + (t - j) = t by omega, hc]
            rfl
          have hone : i = j → ∀ z ∈ ((xs.map g).drop j).take (i + 1 - j), z = true := fun e z hz => by
            subst e
            have hd : (xs.map g).drop i = g x :: (xs.map g).drop (i + 1) := by
              have hlt : i < (xs.map g).length := by rw [List.length_map]; exact ixs
              rw [List.drop_eq_getElem_cons hlt]
              congr 1
              obtain ⟨h1, h2⟩ := List.getElem?_eq_some_iff.mp hx
              rw [List.getElem_map, h2]
            rw [hd, show i + 1 - i = 1 by omega] at hz
            rw [List.mem_singleton.mp hz]
            exact eg
          have hbl : (((xs.map g).drop j).take (i + 1 - j)).length ≤ 10 := by
            rw [List.length_take, List.length_drop, List.length_map]
            omega
          refine ⟨_, rfl, _, rfl, _, rfl, _, rfl, _, _, rfl, rfl, _, rfl, m, _, rfl, SqL.of (sL _ _ hm9), fun p hp => ?_⟩
          have sP : Same H' (upd H' p (.lst (cutV ((xs.map g).map V.bl) (some (0 + (j : Int))) (some ((i : Int) + 1))))) := Same.new hp
          have eP : upd H' p (.lst (cutV ((xs.map g).map V.bl) (some (0 + (j : Int))) (some ((i : Int) + 1)))) p = some (.lst ((((xs.map g).drop j).take (i + 1 - j)).map V.bl)) := by rw [upd_same, hcut]
          generalize upd H' p (.lst (cutV ((xs.map g).map V.bl) (some (0 + (j : Int))) (some ((i : Int) + 1)))) = H2 at sP eP
          generalize ((xs.map g).drop j).take (i + 1 - j) = bs at eP hbs hbl hone
          have dpb : ∀ zs : List Bool, DpAll K H2 (zs.map V.bl) (zs.map PyData.bool) := fun zs => by
            induction zs with
            | nil => exact .nil
            | cons z zs ih => exact .cons (.bl z) ih
          have shb : SeqAt.shaped (.list (bs.map PyData.bool)) = true := (Rq.list (k := 1) (n := 0) (m := 10) (fun d hd => by
            obtain ⟨z, _, rfl⟩ := List.mem_map.mp hd
            exact Rq.bool z) (by rw [List.length_map]; omega)).shp (by decide)
          refine ⟨.bool false, _, .bl false, .lst (SqL.of eP) (dpb bs), rfl, shb, _, rfl, ?_⟩
          have any_eq : (bs.map PyData.bool).any (fun z => PyData.eqv z (.bool false)) = bs.any fun z => !z := by
            rw [List.any_map]
            congr 1
            funext z
            cases z <;> rfl
          rw [any_eq]
          have o1' := sP _ _ o1
          cases ea : bs.any fun z => !z with
          | true =>
            refine iteF (A := True) ?_
            refine ⟨os, o1', o2, fun h => ?_, by omega, sL.trans sP⟩
            by_cases z : i < j
            · exact o3 z
            · exfalso
              obtain rfl : i = j := by omega
              obtain ⟨z0, hz0, hz1⟩ := List.any_eq_true.mp ea
              rw [hone rfl z0 hz0] at hz1
              cases hz1
          | false =>
            refine iteT (B := True) ?_
            have allT : ∀ z ∈ bs, z = true := fun z hz => by
              cases z with
              | true => rfl
              | false =>
                have := List.any_eq_false.mp ea false hz
                simp at this
            have szo : os.length < sizeLine := by
              have : sizeLine = 16777216 := by decide
              omega
            refine ⟨_, rfl, os, o1', szo, os ++ [.int (0 + (j : Int))], upd_same, fun v hv' => ?_, fun h => ?_, by rw [List.length_append]; show os.length + 1 ≤ j + 1; omega, Same.out (sL.trans sP) hL⟩
            · rcases List.mem_append.mp hv' with z | z
              · exact o2 v z
              · rw [List.mem_singleton.mp z]
                exact ⟨j, by rw [h1], hj', fun t c ht1 ht2 hc => allT _ (hbs t c ht1 ht2 hc)⟩
            · by_cases z : i < j
              · exact List.mem_append.mpr (.inl (o3 z))
              · have e : i = j := by omega
                exact List.mem_append.mpr (.inr (by rw [e, h1]; exact List.mem_singleton.mpr rfl))
        · rintro H' ⟨os, o1, o2, o3, o4, sL⟩
          have hin := o3 (by omega)
          have DL := D9.mono sL
          have osp : 0 < os.length := List.length_pos_of_mem hin
          have osl : os.length < 1000000 := by omega
          have eFL := sL _ _ eF10
          refine ⟨_, rfl, .inl ⟨rfl, _, SqL.of eFL⟩, ?_⟩
          refine ⟨_, rfl, _, rfl, _, rfl, d, l, L, os, rfl, DL, o1, nL, osp, osl, fun H2 v k2 D2 hvm => ?_⟩
          obtain ⟨q, rfl, hqi, hqm⟩ := o2 v hvm
          have hql : q < us.length := by omega
          have k29 := (Kp.same (d := d) (l := l) sL).trans k2
          have k2H := k9.trans k29
          have hb2 := k2H.lst Dk nbl hb
          have hu2 := ivs_tk (TKp.kp (K := K) k2H Dk) hu
          obtain ⟨xq, hxq, hyq⟩ := paired_get hu2 (List.getElem?_eq_getElem hql)
          have eF2 := k2.lst DL nF eFL
          have tk29 := TKp.kp (K := K) k29 D9
          refine ⟨b, us, _, _, rfl, rfl, SqL.of hb2, atI_nat (j := q) (List.getElem?_eq_getElem hql), ?_⟩
          have hhi2 := hhi9.tk tk29
          generalize us[q] = yq at hyq
          refine ⟨_, rfl, by show 2 ≤ sizeLine; decide, fun t3 ht3 => ?_⟩
          have s3 : Same H2 (upd H2 t3 (.tup [yq, hi'])) := Same.new ht3
          have e3 : upd H2 t3 (.tup [yq, hi']) t3 = some (.tup [yq, hi']) := upd_same
          generalize upd H2 t3 (.tup [yq, hi']) = H3 at s3 e3
          refine ⟨by show 1 ≤ sizeLine; decide, fun t4 ht4 => ?_⟩
          have s4 : Same H3 (upd H3 t4 (.tup [.ref t3])) := Same.new ht4
          have e4 : upd H3 t4 (.tup [.ref t3]) t4 = some (.tup [.ref t3]) := upd_same
          generalize upd H3 t4 (.tup [.ref t3]) = H4 at s4 e4
          have s24 := s3.trans s4
          have eF4 := s24 _ _ eF2
          have tkm4 := TKp.mut (K := K) (ys := (ts ++ [V.ref t2]) ++ [V.ref t4]) eF4
          have tk24 := (TKp.of (K := K) s24).trans tkm4
          refine ⟨F, ts ++ [.ref t2], _, rfl, rfl, eF4, ?_, ?_⟩
          · rw [List.length_append]
            exact szt
          · refine ⟨_, _, _, _, (ts ++ [.ref t2]) ++ [.ref t4], (rs ++ [[(x, xs[i + 1]?)]]) ++ [[(xq, xs[i + 1]?)]], rfl, upd_same, ?_, ?_, ?_, ?_, ((k2H.trans (Kp.same s24)).out hF), (D2.mono s24).mut ((D2.mono s24).nedl eF4) nF⟩
            · refine paired_app (L2.Paired.mapP hts9 fun _ _ z => (z.tk tk29).tk tk24) (.cons ?_ .nil)
              exact ⟨⟨t4, _, rfl, tkm4 _ _ (SqT.of e4), .cons ⟨t3, _, _, rfl, tkm4 _ _ (SqT.of (s4 _ _ e3)), hyq.same tk24, hhi2.tk tk24⟩ .nil⟩, seg_ok asc hv hqi hxq, seg_len _ _⟩
            · intro r hr y hy
              rcases List.mem_append.mp hr with z | z
              · rcases List.mem_append.mp z with z | z
                · exact snd r z y hy
                · rw [List.mem_singleton.mp z] at hy
                  exact seg_sound asc (Nat.le_refl i) ixs hx (fun t c h1 h2 hc => by
                    obtain rfl : t = i := by omega
                    rw [hx] at hc
                    rw [← Option.some.inj hc]
                    exact eg) hy
              · rw [List.mem_singleton.mp z] at hy
                exact seg_sound asc hqi ixs hxq hqm hy
            · intro j y hj hy hg
              refine List.mem_append.mpr (.inl ?_)
              by_cases z : j = i
              · subst z
                rw [hx] at hy
                obtain rfl : x = y := Option.some.inj hy
                exact List.mem_append.mpr (.inr (List.mem_singleton.mpr rfl))
              · exact List.mem_append.mpr (.inl (cov j y (by omega) hy hg))
            · rw [List.length_append, List.length_append]
              show ts.length + 1 + 1 ≤ _
              omega
  · rintro σ G ⟨v4, v5, v6, v7, ts, rs, rfl, eF, hts, snd, cov, htl, kG, DG⟩
    refine ⟨_, rfl, _, rfl, d, l, F, ts, rfl, DG, eF, nF, by omega, fun H' p ys k' D' hp ep perm => ?_⟩
    have tk' := TKp.kp (K := K) k' DG
    obtain ⟨rs', hperm, hpr⟩ := perm_paired perm hts
    have hlen := perm.length_eq
    refine k H' p ys rs' (kG.trans k') D' ((kG.free_back DG) hp) ep (L2.Paired.mapP hpr fun _ _ z => z.tk tk') (fun r hr => snd r (hperm.mem_iff.mp hr)) (fun x hx => ?_) (by omega)
    obtain ⟨j, c, h1, h2, h3⟩ := seg_cover asc hx
    have hj := (List.getElem?_eq_some_iff.mp h1).1
    exact ⟨_, hperm.mem_iff.mpr (cov j c (by omega) h1 h2), h3⟩
end


abbrev sLaw : Stmt := top 38
abbrev nLaw : List Str := ["_law_script", "_law_deck_here", "_law_versions_here", "_law_borders_here", "_law_spans", "_law_turn", "_law_few", "_law_marks", "_law_border", "_law_due", "_law_now", "_law_left", "_law_at", "_law_span", "_law_mark", "_law_pool_here", "_law_one", "_law_other", "_law_same", "_law_version_here"]
abbrev pLaw : List Str := ["_law_script"]
theorem scLaw : FnScope nLaw pLaw (defScope sLaw) := ⟨rfl, rfl, rfl, by decide +kernel, rfl, by decide +kernel, by decide +kernel⟩
section
open LamX NdefX PyProof.Rows PySem.Spec
variable {P : Program} {w : World} {K : PySem.W.Frag} {mg : Str → Option Value} {base : Heap} {TT : List (Addr × Str)}
abbrev Ev : Rg := [([0, 0, 0, 0, 0], none)]
/-- where the loop stands -/
structure LF (K : PySem.W.Frag) (TT : List (Addr × Str)) (d l p b so : Addr) (vs us ws : List V) (xs : List Vr) (rs : List Rg) (H : Hp) : Prop where
  dk : Deck d l H
  hp : H p = some (.lst vs)
  np : p ≠ l
  lv : vs.length = 7
  hv : ∀ v ∈ vs, VV K 1000000007 H v
  hb : H b = some (.lst us)
  nb : b ≠ l
  hu : Paired (IV K H) us xs
  asc : xs.Pairwise lt
  ver : ∀ x ∈ xs, Ver 1000000010 x
  zero : xs[0]? = some [0, 0, 0, 0, 0]
  lx : xs.length ≤ 10
  hs : H so = some (.lst ws)
  ns : so ≠ l
  nsp : p ≠ so
  nsb : b ≠ so
  hw : Paired (fun v r => RR K H v r 10) ws rs
  tb : Tabs TT H
theorem LF.kn {d l p b so : Addr} {vs us ws : List V} {xs : List Vr} {rs : List Rg} {H H' : Hp} (W : LF K TT d l p b so vs us ws xs rs H) (k : Kn d l H H') (D : Deck d l H') (T : Tabs TT H') : LF K TT d l p b so vs us ws xs rs H' :=
  ⟨D, k.lst W.dk W.np W.hp, W.np, W.lv, fun v z => (W.hv v z).same (k.tk W.dk), k.lst W.dk W.nb W.hb, W.nb, ivs_tk (k.tk W.dk) W.hu, W.asc, W.ver, W.zero, W.lx, k.lst W.dk W.ns W.hs, W.ns, W.nsp, W.nsb, L2.Paired.mapP W.hw fun _ _ q => q.tk (k.tk W.dk), T⟩
theorem LF.ext {d l p b so : Addr} {vs us ws : List V} {xs : List Vr} {rs : List Rg} {H H' : Hp} (W : LF K TT d l p b so vs us ws xs rs H) (e : ExtN H H') (T : Tabs TT H') : LF K TT d l p b so vs us ws xs rs H' := W.kn (Kn.ext e) (W.dk.ext e) T
theorem LF.same {d l p b so : Addr} {vs us ws : List V} {xs : List Vr} {rs : List Rg} {H H' : Hp} (W : LF K TT d l p b so vs us ws xs rs H) (e : Same H H') : LF K TT d l p b so vs us ws xs rs H' := W.ext (ExtN.of e) (W.tb.ext e)
theorem LF.kp {d l p b so : Addr} {vs us ws : List V} {xs : List Vr} {rs : List Rg} {H H' : Hp} (W : LF K TT d l p b so vs us ws xs rs H) (k : Kp d l H H') (D : Deck d l H') : LF K TT d l p b so vs us ws xs rs H' := W.kn (Kn.kp k) D (tabs_kp W.tb k W.dk)
def spLaw (K : PySem.W.Frag) (TT : List (Addr × Str)) : Sp := fun vs H Q _ => ∃ (a : Addr) (ns : List Int), vs = [.ref a] ∧ SqL K H a (ns.map V.int) ∧ ns.length ≤ 63 ∧ Tabs TT H ∧ ∀ H', Q (.bl true) H'
theorem take_any {rs : List Rg} {j : Nat} {r : Rg} (h : rs[j]? = some r) (x : Vr) : ((rs.take (j + 1)).any fun r => inB r x) = (((rs.take j).any fun r => inB r x) || inB r x) := by
  rw [List.take_add_one, h, List.any_append]
  show (_ || (inB r x || false)) = _
  rw [Bool.or_false]
theorem st_lk0 {f : Addr} {fLDeck : Addr} {fdLDeck : FuncData} {fLDraw : Addr} {fdLDraw : FuncData} {fLIn : Addr} {fdLIn : FuncData} {fLMade : Addr} {fdLMade : FuncData} {fLPool : Addr} {fdLPool : FuncData} {fLStretches : Addr} {fdLStretches : FuncData} {fLVersions : Addr} {fdLVersions : FuncData} {fEvery : Addr} {fdEvery : FuncData} {fIsRange : Addr} {fdIsRange : FuncData} {fJoined : Addr} {fdJoined : FuncData} {fJudgeSame : Addr} {fdJudgeSame : FuncData} {fWithout : Addr} {fdWithout : FuncData} (Z : Blt K mg) (DLDeck : DefAt K mg "_law_deck" sLDeck pLDeck fLDeck fdLDeck) (GLDeck : FnOk P w K mg base CX0 1 fLDeck fdLDeck pLDeck (spLDeck K)) (DLDraw : DefAt K mg "_law_draw" sLDraw pLDraw fLDraw fdLDraw) (GLDraw : FnOk P w K mg base CX0 1 fLDraw fdLDraw pLDraw spLDraw) (DLIn : DefAt K mg "_law_in" sLIn pLIn fLIn fdLIn) (GLIn : FnOk P w K mg base CX0 1 fLIn fdLIn pLIn (spLIn K)) (DLMade : DefAt K mg "_law_made" sLMade pLMade fLMade fdLMade) (GLMade : FnOk P w K mg base CX0 1 fLMade fdLMade pLMade (spLMade K)) (DLPool : DefAt K mg "_law_pool" sLPool pLPool fLPool fdLPool) (GLPool : FnOk P w K mg base CX0 5 fLPool fdLPool pLPool (spLPool K)) (DLStretches : DefAt K mg "_law_stretches" sLStretches pLStretches fLStretches fdLStretches) (GLStretches : FnOk P w K mg base CX0 3 fLStretches fdLStretches pLStretches (spLStretches K)) (DLVersions : DefAt K mg "_law_versions" sLVersions pLVersions fLVersions fdLVersions) (GLVersions : FnOk P w K mg base CX0 5 fLVersions fdLVersions pLVersions (spLVersions K)) (DEvery : DefAt K mg "every" sEvery pEvery fEvery fdEvery) (GEvery : FnOk P w K mg base CX0 1 fEvery fdEvery pEvery (spEvery K)) (DIsRange : DefAt K mg "is_range" sIsRange pIsRange fIsRange fdIsRange) (GIsRange : FnOk P w K mg base CX0 4 fIsRange fdIsRange pIsRange (spIsRange K)) (DJoined : DefAt K mg "joined" sJoined pJoined fJoined fdJoined) (GJoined : FnOk P w K mg base CX0 7 fJoined fdJoined pJoined (spJoined K TT)) (DJudgeSame : DefAt K mg "judge_same" sJudgeSame pJudgeSame fJudgeSame fdJudgeSame) (GJudgeSame : FnOk P w K mg base CX0 8 fJudgeSame fdJudgeSame pJudgeSame (spJudgeSame K TT)) (DWithout : DefAt K mg "without" sWithout pWithout fWithout fdWithout) (GWithout : FnOk P w K mg base CX0 7 fWithout fdWithout pWithout (spWithout K TT)) (kbJoined : KBinds K fdJoined pJoined ["other", "one"] kwG2 kwV2) (cdv : Value) (A : Around) (outer : List Env) (s0 : Shared) (H0 : Hp) (hgd : A.guards = some []) (hr : Room 8 (A.deeper (PyProof.Rows.envOfC "law" (defScope sLaw) s0.heap.objs.size f cdv))) : ∃ t, PS (cxOf CX0 P w K mg base nLaw "law" (defScope sLaw) f cdv A outer s0 H0 E0).nox ((inner ((defBody sLaw).getD 4 (.Pass ⟨0, 0, 0, 0⟩))).getD 0 (.Pass ⟨0, 0, 0, 0⟩)) t ∧ ∀ (Dn : Ends) (σ : L2.St) (H : Hp), (∃ (a : V) (d l p b so : Addr) (vs us ws : List V) (xs : List Vr) (rs : List Rg) (wturn wfew wmarks wbd wdue wnow wleft wat wspan wmark wpool wone wother wsame wver : Option V) , σ = [some a, some (.ref d), some (.ref p), some (.ref b), some (.ref so), wturn, wfew, wmarks, wbd, wdue, wnow, wleft, wat, wspan, wmark, wpool, wone, wother, wsame, wver] ∧ LF K TT d l p b so vs us ws xs rs H ∧ ∀ H' (r : Int), Kp d l H H' → Deck d l H' → Dn.nx [some a, some (.ref d), some (.ref p), some (.ref b), some (.ref so), wturn, some (.int r), wmarks, wbd, wdue, wnow, wleft, wat, wspan, wmark, wpool, wone, wother, wsame, wver] H') → t Dn σ H := by
  have hu := hu_of hr
  refine ⟨_, (ps_set (i := 6) scLaw.nd rfl (Or.inr rfl) (pe_op op_add pe_int (pe_call GLDraw (hr.mono (by decide)) rfl DLDraw.g DLDraw.F.kp DLDraw.b .nil pass0 (pa_cons (pv 1) (pa_cons pe_int pa_nil))))), ?_⟩
  rintro Dn σ H ⟨a, d, l, p, b, so, vs, us, ws, xs, rs, wturn, wfew, wmarks, wbd, wdue, wnow, wleft, wat, wspan, wmark, wpool, wone, wother, wsame, wver, rfl, W, k⟩
  refine ⟨_, rfl, d, l, 4, rfl, W.dk, by decide, by decide, fun H1 r k1 D1 _ _ => ?_⟩
  exact ⟨_, _, rfl, rfl, k H1 _ k1 D1⟩
theorem st_lk1 {f : Addr} {fLDeck : Addr} {fdLDeck : FuncData} {fLDraw : Addr} {fdLDraw : FuncData} {fLIn : Addr} {fdLIn : FuncData} {fLMade : Addr} {fdLMade : FuncData} {fLPool : Addr} {fdLPool : FuncData} {fLStretches : Addr} {fdLStretches : FuncData} {fLVersions : Addr} {fdLVersions : FuncData} {fEvery : Addr} {fdEvery : FuncData} {fIsRange : Addr} {fdIsRange : FuncData} {fJoined : Addr} {fdJoined : FuncData} {fJudgeSame : Addr} {fdJudgeSame : FuncData} {fWithout : Addr} {fdWithout : FuncData} (Z : Blt K mg) (DLDeck : DefAt K mg "_law_deck" sLDeck pLDeck fLDeck fdLDeck) (GLDeck : FnOk P w K mg base CX0 1 fLDeck fdLDeck pLDeck (spLDeck K)) (DLDraw : DefAt K mg "_law_draw" sLDraw pLDraw fLDraw fdLDraw) (GLDraw : FnOk P w K mg base CX0 1 fLDraw fdLDraw pLDraw spLDraw) (DLIn : DefAt K mg "_law_in" sLIn pLIn fLIn fdLIn) (GLIn : FnOk P w K mg base CX0 1 fLIn fdLIn pLIn (spLIn K)) (DLMade : DefAt K mg "_law_made" sLMade pLMade fLMade fdLMade) (GLMade : FnOk P w K mg base CX0 1 fLMade fdLMade pLMade (spLMade K)) (DLPool : DefAt K mg "_law_pool" sLPool pLPool fLPool fdLPool) (GLPool : FnOk P w K mg base CX0 5 fLPool fdLPool pLPool (spLPool K)) (DLStretches : DefAt K mg "_law_stretches" sLStretches pLStretches fLStretches fdLStretches) (GLStretches : FnOk P w K mg base CX0 3 fLStretches fdLStretches pLStretches (spLStretches K)) (DLVersions : DefAt K mg "_law_versions" sLVersions pLVersions fLVersions fdLVersions) (GLVersions : FnOk P w K mg base CX0 5 fLVersions fdLVersions pLVersions (spLVersions K)) (DEvery : DefAt K mg "every" sEvery pEvery fEvery fdEvery) (GEvery : FnOk P w K mg base CX0 1 fEvery fdEvery pEvery (spEvery K)) (DIsRange : DefAt K mg "is_range" sIsRange pIsRange fIsRange fdIsRange) (GIsRange : FnOk P w K mg base CX0 4 fIsRange fdIsRange pIsRange (spIsRange K)) (DJoined : DefAt K mg "joined" sJoined pJoined fJoined fdJoined) (GJoined : FnOk P w K mg base CX0 7 fJoined fdJoined pJoined (spJoined K TT)) (DJudgeSame : DefAt K mg "judge_same" sJudgeSame pJudgeSame fJudgeSame fdJudgeSame) (GJudgeSame : FnOk P w K mg base CX0 8 fJudgeSame fdJudgeSame pJudgeSame (spJudgeSame K TT)) (DWithout : DefAt K mg "without" sWithout pWithout fWithout fdWithout) (GWithout : FnOk P w K mg base CX0 7 fWithout fdWithout pWithout (spWithout K TT)) (kbJoined : KBinds K fdJoined pJoined ["other", "one"] kwG2 kwV2) (cdv : Value) (A : Around) (outer : List Env) (s0 : Shared) (H0 : Hp) (hgd : A.guards = some []) (hr : Room 8 (A.deeper (PyProof.Rows.envOfC "law" (defScope sLaw) s0.heap.objs.size f cdv))) : ∃ t, PS (cxOf CX0 P w K mg base nLaw "law" (defScope sLaw) f cdv A outer s0 H0 E0).nox ((inner ((defBody sLaw).getD 4 (.Pass ⟨0, 0, 0, 0⟩))).getD 1 (.Pass ⟨0, 0, 0, 0⟩)) t ∧ ∀ (Dn : Ends) (σ : L2.St) (H : Hp), (∃ (a : V) (d l p b so : Addr) (vs us ws : List V) (xs : List Vr) (rs : List Rg) (wturn wmarks wbd wdue wnow wleft wat wspan wmark wpool wone wother wsame wver : Option V) (fw : Int), σ = [some a, some (.ref d), some (.ref p), some (.ref b), some (.ref so), wturn, some (.int fw), wmarks, wbd, wdue, wnow, wleft, wat, wspan, wmark, wpool, wone, wother, wsame, wver] ∧ LF K TT d l p b so vs us ws xs rs H ∧ ∀ H' (m : Addr) (ms : List Bool), Kp d l H H' → Deck d l H' → H m = none → H' m = some (.lst (ms.map V.bl)) → xs.length = ms.length → Dn.nx [some a, some (.ref d), some (.ref p), some (.ref b), some (.ref so), wturn, some (.int fw), some (.ref m), wbd, wdue, wnow, wleft, wat, wspan, wmark, wpool, wone, wother, wsame, wver] H') → t Dn σ H := by
  have hu := hu_of hr
  refine ⟨_, (ps_setLc (i := 7) (own := [("_law_border", 8)]) (g := gName 8) (tt := tYes) rfl scLaw.nd rfl rfl (sw_true rfl rfl rfl (by decide +kernel)) (pi_list (pv 3)) (blkOk_by (own := [("_law_border", 8)]) (N := nLaw) (sc := defScope sLaw) (by decide +kernel)) (fun _ _ _ _ _ => (pg_name (i := 8) scLaw.nd rfl (Or.inl rfl))) (fun _ _ _ _ _ => pts_nil) (fun _ _ _ _ _ => (pe_cmpR op_lt (pe_call GLDraw (hr.mono (by decide)) rfl DLDraw.g DLDraw.F.kp DLDraw.b .nil pass0 (pa_cons (pv 1) (pa_cons pe_int pa_nil))) (pv 6) (nomark _)))), ?_⟩
  rintro Dn σ H ⟨a, d, l, p, b, so, vs, us, ws, xs, rs, wturn, wmarks, wbd, wdue, wnow, wleft, wat, wspan, wmark, wpool, wone, wother, wsame, wver, fw, rfl, W, k⟩
  have lu := paired_len W.hu
  refine ⟨_, rfl, b, rfl, ⟨_, SqL.of W.hb⟩, fun L hL => lc_list (K := K) (a := b) (xs := us) (fun i H' => ∃ ms : List Bool, H' L = some (.lst (ms.map V.bl)) ∧ ms.length = i ∧ Kp d l H H' ∧ Deck d l H') ⟨[], upd_same, rfl, Kp.new hL, W.dk.new hL⟩ (fun i H' _ ⟨_, _, _, kk, _⟩ => SqL.of (kk.lst W.dk W.nb W.hb)) ?_ ?_⟩
  · rintro i y H1 hi ⟨ms, e1, e2, k1, D1⟩
    have nL : L ≠ l := W.dk.free hL
    have lx := W.lx
    have il := (List.getElem?_eq_some_iff.mp hi).1
    refine ⟨rfl, ?_⟩
    refine ⟨_, rfl, d, l, 5, rfl, D1, by decide, by decide, fun H2 r k2 D2 _ _ => ?_⟩
    have e1' := k2.lst D1 nL e1
    refine ⟨_, rfl, _, _, rfl, rfl, _, e1', ?_, ms ++ [decide (r < fw)], ?_, by rw [List.length_append, e2]; rfl, (k1.trans k2).out hL, D2.mut (D2.nedl e1') nL⟩
    · rw [List.length_map]
      exact small3000 (by omega)
    · rw [upd_same, List.map_append]
      rfl
  · rintro H1 ⟨ms, e1, e2, k1, D1⟩
    exact k H1 L ms k1 D1 hL e1 (by omega)
theorem st_lk2 {f : Addr} {fLDeck : Addr} {fdLDeck : FuncData} {fLDraw : Addr} {fdLDraw : FuncData} {fLIn : Addr} {fdLIn : FuncData} {fLMade : Addr} {fdLMade : FuncData} {fLPool : Addr} {fdLPool : FuncData} {fLStretches : Addr} {fdLStretches : FuncData} {fLVersions : Addr} {fdLVersions : FuncData} {fEvery : Addr} {fdEvery : FuncData} {fIsRange : Addr} {fdIsRange : FuncData} {fJoined : Addr} {fdJoined : FuncData} {fJudgeSame : Addr} {fdJudgeSame : FuncData} {fWithout : Addr} {fdWithout : FuncData} (Z : Blt K mg) (DLDeck : DefAt K mg "_law_deck" sLDeck pLDeck fLDeck fdLDeck) (GLDeck : FnOk P w K mg base CX0 1 fLDeck fdLDeck pLDeck (spLDeck K)) (DLDraw : DefAt K mg "_law_draw" sLDraw pLDraw fLDraw fdLDraw) (GLDraw : FnOk P w K mg base CX0 1 fLDraw fdLDraw pLDraw spLDraw) (DLIn : DefAt K mg "_law_in" sLIn pLIn fLIn fdLIn) (GLIn : FnOk P w K mg base CX0 1 fLIn fdLIn pLIn (spLIn K)) (DLMade : DefAt K mg "_law_made" sLMade pLMade fLMade fdLMade) (GLMade : FnOk P w K mg base CX0 1 fLMade fdLMade pLMade (spLMade K)) (DLPool : DefAt K mg "_law_pool" sLPool pLPool fLPool fdLPool) (GLPool : FnOk P w K mg base CX0 5 fLPool fdLPool pLPool (spLPool K)) (DLStretches : DefAt K mg "_law_stretches" sLStretches pLStretches fLStretches fdLStretches) (GLStretches : FnOk P w K mg base CX0 3 fLStretches fdLStretches pLStretches (spLStretches K)) (DLVersions : DefAt K mg "_law_versions" sLVersions pLVersions fLVersions fdLVersions) (GLVersions : FnOk P w K mg base CX0 5 fLVersions fdLVersions pLVersions (spLVersions K)) (DEvery : DefAt K mg "every" sEvery pEvery fEvery fdEvery) (GEvery : FnOk P w K mg base CX0 1 fEvery fdEvery pEvery (spEvery K)) (DIsRange : DefAt K mg "is_range" sIsRange pIsRange fIsRange fdIsRange) (GIsRange : FnOk P w K mg base CX0 4 fIsRange fdIsRange pIsRange (spIsRange K)) (DJoined : DefAt K mg "joined" sJoined pJoined fJoined fdJoined) (GJoined : FnOk P w K mg base CX0 7 fJoined fdJoined pJoined (spJoined K TT)) (DJudgeSame : DefAt K mg "judge_same" sJudgeSame pJudgeSame fJudgeSame fdJudgeSame) (GJudgeSame : FnOk P w K mg base CX0 8 fJudgeSame fdJudgeSame pJudgeSame (spJudgeSame K TT)) (DWithout : DefAt K mg "without" sWithout pWithout fWithout fdWithout) (GWithout : FnOk P w K mg base CX0 7 fWithout fdWithout pWithout (spWithout K TT)) (kbJoined : KBinds K fdJoined pJoined ["other", "one"] kwG2 kwV2) (cdv : Value) (A : Around) (outer : List Env) (s0 : Shared) (H0 : Hp) (hgd : A.guards = some []) (hr : Room 8 (A.deeper (PyProof.Rows.envOfC "law" (defScope sLaw) s0.heap.objs.size f cdv))) : ∃ t, PS (cxOf CX0 P w K mg base nLaw "law" (defScope sLaw) f cdv A outer s0 H0 E0).nox ((inner ((defBody sLaw).getD 4 (.Pass ⟨0, 0, 0, 0⟩))).getD 2 (.Pass ⟨0, 0, 0, 0⟩)) t ∧ ∀ (Dn : Ends) (σ : L2.St) (H : Hp), (∃ (a : V) (d l p b so : Addr) (vs us ws : List V) (xs : List Vr) (rs : List Rg) (wturn wfew wbd wdue wnow wleft wat wspan wmark wpool wone wother wsame wver : Option V) (m : Addr) (g : Vr → Bool), σ = [some a, some (.ref d), some (.ref p), some (.ref b), some (.ref so), wturn, wfew, some (.ref m), wbd, wdue, wnow, wleft, wat, wspan, wmark, wpool, wone, wother, wsame, wver] ∧ LF K TT d l p b so vs us ws xs rs H ∧ H m = some (.lst ((xs.map g).map V.bl)) ∧ ∀ H' y z t, Same H H' → RR K H' y (prs (turns g false xs)) 10 → RR K H' z [] 0 → RR K H' t Ev 1 → Dn.nx [some a, some (.ref d), some (.ref p), some (.ref b), some (.ref so), wturn, wfew, some (.ref m), wbd, some y, some z, some t, wat, wspan, wmark, wpool, wone, wother, wsame, wver] H') → t Dn σ H := by
  have hu := hu_of hr
  refine ⟨_, (ps_par3 (i := 9) (j := 10) (l := 11) rfl scLaw.nd rfl rfl rfl (by decide) (by decide) (by decide) rfl rfl rfl (pa_cons (pe_call GLMade (hr.mono (by decide)) rfl DLMade.g DLMade.F.kp DLMade.b .nil pass0 (pa_cons (pv 3) (pa_cons (pv 7) pa_nil))) (pa_cons (pe_tup pa_nil) (pa_cons (pe_call0 GEvery (hr.mono (by decide)) rfl DEvery.g DEvery.F.kp DEvery.b .nil pass0) pa_nil))) (by rfl)), ?_⟩
  rintro Dn σ H ⟨a, d, l, p, b, so, vs, us, ws, xs, rs, wturn, wfew, wbd, wdue, wnow, wleft, wat, wspan, wmark, wpool, wone, wother, wsame, wver, m, g, rfl, W, em, k⟩
  have lx := W.lx
  refine ⟨_, rfl, _, rfl, b, m, us, xs, g, rfl, W.hb, W.hu, em, by omega, fun H1 y s1 sv => ?_⟩
  refine ⟨Nat.zero_le _, fun z hz => ?_⟩
  have sH2 : Same H1 (upd H1 z (.tup [])) := Same.new hz
  have eH2 : upd H1 z (.tup []) z = some (.tup []) := upd_same
  generalize upd H1 z (.tup []) = H2 at sH2 eH2
  refine ⟨rfl, fun H3 t s3 _ sv3 => ?_⟩
  have sl := (turns_sub g false xs).length_le
  exact ⟨_, _, _, rfl, k H3 y (.ref z) (.ref t) ((s1.trans sH2).trans s3) ⟨(sv.tk (TKp.of sH2)).tk (TKp.of s3), made_ok W.asc W.ver, by rw [prs_flat]; omega⟩ ⟨⟨z, [], rfl, SqT.of (s3 _ _ eH2), .nil⟩, empty_ok, Nat.le_refl _⟩ (RR.every sv3)⟩
theorem st_lk3 {f : Addr} {fLDeck : Addr} {fdLDeck : FuncData} {fLDraw : Addr} {fdLDraw : FuncData} {fLIn : Addr} {fdLIn : FuncData} {fLMade : Addr} {fdLMade : FuncData} {fLPool : Addr} {fdLPool : FuncData} {fLStretches : Addr} {fdLStretches : FuncData} {fLVersions : Addr} {fdLVersions : FuncData} {fEvery : Addr} {fdEvery : FuncData} {fIsRange : Addr} {fdIsRange : FuncData} {fJoined : Addr} {fdJoined : FuncData} {fJudgeSame : Addr} {fdJudgeSame : FuncData} {fWithout : Addr} {fdWithout : FuncData} (Z : Blt K mg) (DLDeck : DefAt K mg "_law_deck" sLDeck pLDeck fLDeck fdLDeck) (GLDeck : FnOk P w K mg base CX0 1 fLDeck fdLDeck pLDeck (spLDeck K)) (DLDraw : DefAt K mg "_law_draw" sLDraw pLDraw fLDraw fdLDraw) (GLDraw : FnOk P w K mg base CX0 1 fLDraw fdLDraw pLDraw spLDraw) (DLIn : DefAt K mg "_law_in" sLIn pLIn fLIn fdLIn) (GLIn : FnOk P w K mg base CX0 1 fLIn fdLIn pLIn (spLIn K)) (DLMade : DefAt K mg "_law_made" sLMade pLMade fLMade fdLMade) (GLMade : FnOk P w K mg base CX0 1 fLMade fdLMade pLMade (spLMade K)) (DLPool : DefAt K mg "_law_pool" sLPool pLPool fLPool fdLPool) (GLPool : FnOk P w K mg base CX0 5 fLPool fdLPool pLPool (spLPool K)) (DLStretches : DefAt K mg "_law_stretches" sLStretches pLStretches fLStretches fdLStretches) (GLStretches : FnOk P w K mg base CX0 3 fLStretches fdLStretches pLStretches (spLStretches K)) (DLVersions : DefAt K mg "_law_versions" sLVersions pLVersions fLVersions fdLVersions) (GLVersions : FnOk P w K mg base CX0 5 fLVersions fdLVersions pLVersions (spLVersions K)) (DEvery : DefAt K mg "every" sEvery pEvery fEvery fdEvery) (GEvery : FnOk P w K mg base CX0 1 fEvery fdEvery pEvery (spEvery K)) (DIsRange : DefAt K mg "is_range" sIsRange pIsRange fIsRange fdIsRange) (GIsRange : FnOk P w K mg base CX0 4 fIsRange fdIsRange pIsRange (spIsRange K)) (DJoined : DefAt K mg "joined" sJoined pJoined fJoined fdJoined) (GJoined : FnOk P w K mg base CX0 7 fJoined fdJoined pJoined (spJoined K TT)) (DJudgeSame : DefAt K mg "judge_same" sJudgeSame pJudgeSame fJudgeSame fdJudgeSame) (GJudgeSame : FnOk P w K mg base CX0 8 fJudgeSame fdJudgeSame pJudgeSame (spJudgeSame K TT)) (DWithout : DefAt K mg "without" sWithout pWithout fWithout fdWithout) (GWithout : FnOk P w K mg base CX0 7 fWithout fdWithout pWithout (spWithout K TT)) (kbJoined : KBinds K fdJoined pJoined ["other", "one"] kwG2 kwV2) (cdv : Value) (A : Around) (outer : List Env) (s0 : Shared) (H0 : Hp) (hgd : A.guards = some []) (hr : Room 8 (A.deeper (PyProof.Rows.envOfC "law" (defScope sLaw) s0.heap.objs.size f cdv))) : ∃ t, PS (cxOf CX0 P w K mg base nLaw "law" (defScope sLaw) f cdv A outer s0 H0 E0).nox ((inner ((defBody sLaw).getD 4 (.Pass ⟨0, 0, 0, 0⟩))).getD 3 (.Pass ⟨0, 0, 0, 0⟩)) t ∧ ∀ (Dn : Ends) (σ : L2.St) (H : Hp), (∃ (a : V) (d l p b so : Addr) (vs us ws : List V) (xs : List Vr) (rs : List Rg) (wturn wfew wbd wat wspan wmark wpool wone wother wsame wver : Option V) (m : Addr) (g : Vr → Bool) (yd vn vl : V), σ = [some a, some (.ref d), some (.ref p), some (.ref b), some (.ref so), wturn, wfew, some (.ref m), wbd, some yd, some vn, some vl, wat, wspan, wmark, wpool, wone, wother, wsame, wver] ∧ LF K TT d l p b so vs us ws xs rs H ∧ H m = some (.lst ((xs.map g).map V.bl)) ∧ m ≠ l ∧ RR K H vn [] 0 ∧ RR K H vl Ev 1 ∧ ∀ H' vn' vl' rn rl j1 j2, Kn d l H H' → Deck d l H' → Tabs TT H' → RR K H' vn' rn 50 → RR K H' vl' rl 50 → (∀ x, inB rn x = lastB g x false xs) → (∀ x, inB rl x = (inB Ev x && !lastB g x false xs)) → Dn.nx [some a, some (.ref d), some (.ref p), some (.ref b), some (.ref so), wturn, wfew, some (.ref m), wbd, some yd, some vn', some vl', j1, j2, wmark, wpool, wone, wother, wsame, wver] H') → t Dn σ H := by
  have hu := hu_of hr
  refine ⟨_, (ps_for PassesOwn.never rfl (pi_enum (by rfl) Z.enumerate (pa_cons (pe_call GLStretches (hr.mono (by decide)) rfl DLStretches.g DLStretches.F.kp DLStretches.b .nil pass0 (pa_cons (pv 1) (pa_cons (pv 3) (pa_cons (pv 7) pa_nil)))) pa_nil)) (pg_tup rfl (pgs_cons (pg_name (i := 12) scLaw.nd rfl (Or.inl rfl)) (pgs_cons (pg_name (i := 13) scLaw.nd rfl (Or.inl rfl)) pgs_nil)))
    (Evl.pss_cut (ps_set (i := 10) scLaw.nd rfl (Or.inl rfl) (pe_ifExp (pt_cmpR op_gt (pe_op op_mod (pe_callTy call_int1 (by rfl) Z.int (by decide +kernel) (pa_cons (pv 12) pa_nil)) pe_int) pe_int (nomark _)) (pe_call GJoined (hr.mono (by decide)) rfl DJoined.g DJoined.F.kp DJoined.b .nil pass0 (pa_cons (pv 10) (pa_cons (pv 13) pa_nil))) (pe_callK0 GJoined (hr.mono (by decide)) rfl DJoined.g DJoined.F.kp kbJoined pass0 (pk_cons (pv 13) (pk_cons (pv 10) pk_nil)))))
      (pss_one (ps_set (i := 11) scLaw.nd rfl (Or.inl rfl) (pe_call GWithout (hr.mono (by decide)) rfl DWithout.g DWithout.F.kp DWithout.b .nil pass0 (pa_cons (pv 11) (pa_cons (pv 13) pa_nil))))))), ?_⟩
  rintro Dn σ H ⟨a, d, l, p, b, so, vs, us, ws, xs, rs, wturn, wfew, wbd, wat, wspan, wmark, wpool, wone, wother, wsame, wver, m, g, yd, vn, vl, rfl, W, em, nm, gn, gl, k⟩
  refine ⟨_, rfl, _, rfl, _, rfl, d, l, b, m, us, xs, g, rfl, W.dk, W.hb, W.nb, W.hu, W.asc, W.ver, em, nm, W.lx, fun H1 q ys qs k1 D1 hq eq hys snd cov hyl => ?_⟩
  have W1 := W.kp k1 D1
  have tk1 := TKp.kp (K := K) k1 W.dk
  have nq : q ≠ l := W.dk.free hq
  have ly := paired_len hys
  refine ⟨q, _, rfl, SqL.of eq, for_it (walk_enum (K := K) (a := q) (xs := ys)) (fun j σ H' => ∃ (vn vl : V) (rn rl : Rg) (wat wspan : Option V), σ = [some a, some (.ref d), some (.ref p), some (.ref b), some (.ref so), wturn, wfew, some (.ref m), wbd, some yd, some vn, some vl, wat, wspan, wmark, wpool, wone, wother, wsame, wver] ∧ RR K H' vn rn (2 * j) ∧ RR K H' vl rl (1 + 2 * j) ∧ (∀ x, inB rn x = (qs.take j).any fun r => inB r x) ∧ (∀ x, inB rl x = (inB Ev x && !((qs.take j).any fun r => inB r x))) ∧ ExtN H1 H' ∧ Tabs TT H')
    ⟨vn, vl, [], Ev, _, _, rfl, gn.tk tk1, gl.tk tk1, fun _ => rfl, fun x => by show _ = (_ && !false); rw [Bool.not_false, Bool.and_true], ExtN.refl _, W1.tb⟩ (fun j σ H' _ ⟨_, _, _, _, _, _, _, _, _, _, _, e, _⟩ => SqL.of (e _ _ eq (fun _ z => nomatch z))) ?_ ?_⟩
  · rintro j _ σ G5 hjn hj ⟨vn, vl, rn, rl, wat, wspan, rfl, g5, h5, i5, j5, e5, T5⟩ ⟨T, x1, y1, rfl, hT, rfl, q1, q2⟩
    obtain rfl : V.int (j : Nat) = x1 := Option.some.inj q1
    obtain ⟨r, hr, gr⟩ := paired_get hys q2
    have jl : j < 20 := by
      have := (List.getElem?_eq_some_iff.mp q2).1
      omega
    refine ⟨T, _, rfl, SqT.of upd_same, rfl, _, _, rfl, _, _, rfl, rfl, ?_⟩
    have s6 : Same G5 (upd G5 T (.tup [.int (j : Nat), y1])) := Same.new hT
    generalize upd G5 T (.tup [.int (j : Nat), y1]) = G6 at s6
    have e6 := e5.trans (ExtN.of s6)
    have T6 := T5.ext s6
    have gr6 := gr.ext e6
    refine ⟨fun σ' H' => ∃ (vn2 : V) (rn2 : Rg), σ' = [some a, some (.ref d), some (.ref p), some (.ref b), some (.ref so), wturn, wfew, some (.ref m), wbd, some yd, some vn2, some vl, some (.int (j : Nat)), some y1, wmark, wpool, wone, wother, wsame, wver] ∧ RR K H' vn2 rn2 (2 * j + 2) ∧ (∀ x, inB rn2 x = (inB rn x || inB r x)) ∧ ExtN G6 H' ∧ Tabs TT H', ?_, ?_⟩
    · refine ⟨_, rfl, .inl ⟨_, rfl, _, _, rfl, rfl, (by show (0 : Int) < 3; decide), _, _, rfl, rfl, _, rfl, ?_⟩⟩
      refine ite2 (fun _ => ?_) (fun _ => ?_)
      · refine ⟨_, rfl, _, rfl, ?_⟩
        exact useJ (g5.same s6) gr6 T6 (fun H2 z t e2 T2 h2 i2 => ⟨z, t, rfl, h2, i2, e2, T2⟩) (by omega)
      · refine ⟨_, rfl, _, rfl, ?_⟩
        exact useJ (g5.same s6) gr6 T6 (fun H2 z t e2 T2 h2 i2 => ⟨z, t, rfl, h2, i2, e2, T2⟩) (by omega)
    · rintro σ' G7 ⟨vn2, rn2, rfl, g7, i7, e7, T7⟩
      refine ⟨_, rfl, _, rfl, ?_⟩
      refine useW ((h5.same s6).ext e7) (gr6.ext e7) T7 (fun H2 z t e2 T2 h2 i2 => ?_) (by omega)
      refine ⟨vn2, z, rn2, t, _, _, rfl, (g7.ext e2).mono (by omega), h2.mono (by omega), fun x => ?_, fun x => ?_, e6.trans (e7.trans e2), T2⟩
      · rw [i7, i5, take_any hr]
      · rw [i2, j5, take_any hr, Bool.not_or, Bool.and_assoc]
  · rintro σ G5 ⟨vn, vl, rn, rl, wat, wspan, rfl, g5, h5, i5, j5, e5, T5⟩
    have et : qs.take ys.length = qs := by rw [ly, List.take_length]
    rw [et] at i5 j5
    have ea : ∀ x, (qs.any fun r => inB r x) = lastB g x false xs := fun x => by
      cases e : lastB g x false xs with
      | true =>
        obtain ⟨r, h1, h2⟩ := cov x e
        exact List.any_eq_true.mpr ⟨r, h1, h2⟩
      | false =>
        refine List.any_eq_false.mpr fun r hr => ?_
        intro h
        have := snd r hr x h
        rw [e] at this
        cases this
    exact k _ vn vl rn rl _ _ ((Kn.kp k1).trans (Kn.ext e5)) (W1.dk.ext e5) T5 (g5.mono (by omega)) (h5.mono (by omega)) (fun x => by rw [i5, ea]) (fun x => by rw [j5, ea])
theorem st_lk4 {f : Addr} {fLDeck : Addr} {fdLDeck : FuncData} {fLDraw : Addr} {fdLDraw : FuncData} {fLIn : Addr} {fdLIn : FuncData} {fLMade : Addr} {fdLMade : FuncData} {fLPool : Addr} {fdLPool : FuncData} {fLStretches : Addr} {fdLStretches : FuncData} {fLVersions : Addr} {fdLVersions : FuncData} {fEvery : Addr} {fdEvery : FuncData} {fIsRange : Addr} {fdIsRange : FuncData} {fJoined : Addr} {fdJoined : FuncData} {fJudgeSame : Addr} {fdJudgeSame : FuncData} {fWithout : Addr} {fdWithout : FuncData} (Z : Blt K mg) (DLDeck : DefAt K mg "_law_deck" sLDeck pLDeck fLDeck fdLDeck) (GLDeck : FnOk P w K mg base CX0 1 fLDeck fdLDeck pLDeck (spLDeck K)) (DLDraw : DefAt K mg "_law_draw" sLDraw pLDraw fLDraw fdLDraw) (GLDraw : FnOk P w K mg base CX0 1 fLDraw fdLDraw pLDraw spLDraw) (DLIn : DefAt K mg "_law_in" sLIn pLIn fLIn fdLIn) (GLIn : FnOk P w K mg base CX0 1 fLIn fdLIn pLIn (spLIn K)) (DLMade : DefAt K mg "_law_made" sLMade pLMade fLMade fdLMade) (GLMade : FnOk P w K mg base CX0 1 fLMade fdLMade pLMade (spLMade K)) (DLPool : DefAt K mg "_law_pool" sLPool pLPool fLPool fdLPool) (GLPool : FnOk P w K mg base CX0 5 fLPool fdLPool pLPool (spLPool K)) (DLStretches : DefAt K mg "_law_stretches" sLStretches pLStretches fLStretches fdLStretches) (GLStretches : FnOk P w K mg base CX0 3 fLStretches fdLStretches pLStretches (spLStretches K)) (DLVersions : DefAt K mg "_law_versions" sLVersions pLVersions fLVersions fdLVersions) (GLVersions : FnOk P w K mg base CX0 5 fLVersions fdLVersions pLVersions (spLVersions K)) (DEvery : DefAt K mg "every" sEvery pEvery fEvery fdEvery) (GEvery : FnOk P w K mg base CX0 1 fEvery fdEvery pEvery (spEvery K)) (DIsRange : DefAt K mg "is_range" sIsRange pIsRange fIsRange fdIsRange) (GIsRange : FnOk P w K mg base CX0 4 fIsRange fdIsRange pIsRange (spIsRange K)) (DJoined : DefAt K mg "joined" sJoined pJoined fJoined fdJoined) (GJoined : FnOk P w K mg base CX0 7 fJoined fdJoined pJoined (spJoined K TT)) (DJudgeSame : DefAt K mg "judge_same" sJudgeSame pJudgeSame fJudgeSame fdJudgeSame) (GJudgeSame : FnOk P w K mg base CX0 8 fJudgeSame fdJudgeSame pJudgeSame (spJudgeSame K TT)) (DWithout : DefAt K mg "without" sWithout pWithout fWithout fdWithout) (GWithout : FnOk P w K mg base CX0 7 fWithout fdWithout pWithout (spWithout K TT)) (kbJoined : KBinds K fdJoined pJoined ["other", "one"] kwG2 kwV2) (cdv : Value) (A : Around) (outer : List Env) (s0 : Shared) (H0 : Hp) (hgd : A.guards = some []) (hr : Room 8 (A.deeper (PyProof.Rows.envOfC "law" (defScope sLaw) s0.heap.objs.size f cdv))) : ∃ t, PS (cxOf CX0 P w K mg base nLaw "law" (defScope sLaw) f cdv A outer s0 H0 E0).nox ((inner ((defBody sLaw).getD 4 (.Pass ⟨0, 0, 0, 0⟩))).getD 4 (.Pass ⟨0, 0, 0, 0⟩)) t ∧ ∀ (Dn : Ends) (σ : L2.St) (H : Hp), (∃ (a : V) (d l p b so : Addr) (vs us ws : List V) (xs : List Vr) (rs : List Rg) (wturn wfew wmarks wbd wat wspan wmark wpool wone wother wsame wver : Option V) (g : Vr → Bool) (yd vn vl : V) (rl : Rg), σ = [some a, some (.ref d), some (.ref p), some (.ref b), some (.ref so), wturn, wfew, wmarks, wbd, some yd, some vn, some vl, wat, wspan, wmark, wpool, wone, wother, wsame, wver] ∧ LF K TT d l p b so vs us ws xs rs H ∧ RR K H yd (prs (turns g false xs)) 10 ∧ RR K H vn (prs (turns g false xs)) 10 ∧ RR K H vl rl 50 ∧ (∀ x, inB rl x = (inB Ev x && !lastB g x false xs)) ∧ ∀ H', ExtN H H' → Tabs TT H' → Dn.nx [some a, some (.ref d), some (.ref p), some (.ref b), some (.ref so), wturn, wfew, wmarks, wbd, some yd, some vn, some vl, wat, wspan, wmark, wpool, wone, wother, wsame, wver] H') → t Dn σ H := by
  have hu := hu_of hr
  refine ⟨_, (ps_if (PW.pt (pw_or (pt_cmpR op_ne (pe_callB (call_reprD hgd hr.units) (by rfl) Z.repr (by decide +kernel) (pa_cons (pv 10) pa_nil)) (pe_callB (call_reprD hgd hr.units) (by rfl) Z.repr (by decide +kernel) (pa_cons (pv 9) pa_nil)) (nomark _)) (pw_or (pt_cmpR op_notBl (pe_call GIsRange (hr.mono (by decide)) rfl DIsRange.g DIsRange.F.kp DIsRange.b .nil pass0 (pa_cons (pv 10) pa_nil)) pe_bl (nomark _)) (pw_or1 (pt_cmpR op_ne (pe_callB (call_reprD hgd hr.units) (by rfl) Z.repr (by decide +kernel) (pa_cons (pe_call GWithout (hr.mono (by decide)) rfl DWithout.g DWithout.F.kp DWithout.b .nil pass0 (pa_cons (pe_call0 GEvery (hr.mono (by decide)) rfl DEvery.g DEvery.F.kp DEvery.b .nil pass0) (pa_cons (pv 11) pa_nil))) pa_nil)) (pe_callB (call_reprD hgd hr.units) (by rfl) Z.repr (by decide +kernel) (pa_cons (pv 9) pa_nil)) (nomark _))))))
    (pss_one (ps_ret pe_bl))
    pss_nil), ?_⟩
  rintro Dn σ H ⟨a, d, l, p, b, so, vs, us, ws, xs, rs, wturn, wfew, wmarks, wbd, wat, wspan, wmark, wpool, wone, wother, wsame, wver, g, yd, vn, vl, rl, rfl, W, gd, gn, gl, il, k⟩
  have iq := fun x => made_in (g := g) W.asc x
  have hz : ∀ x, lastB g x false xs = true → inB Ev x = true := fun x h => by
    have := lastB_first W.asc W.zero h
    show ((le [0, 0, 0, 0, 0] x && true) || false) = true
    rw [this]
    rfl
  generalize prs (turns g false xs) = q at *
  have rp := rp_1 gd.rq
  have lq := gn.rl
  refine ⟨_, rfl, _, _, rfl, gn.sv.dp, rp.1, rp.2.1, rp.2.2.1, rp.2.2.2, ?_⟩
  refine ⟨_, rfl, _, _, rfl, gd.sv.dp, rp.1, rp.2.1, rp.2.2.1, rp.2.2.2, rfl, _, rfl, notTT rfl ?_⟩
  refine ⟨_, rfl, vn, q, _, rfl, gn.sv, gn.ok, by omega, fun H1 s1 => ?_⟩
  refine ⟨true, true, rfl, rfl, _, rfl, iteF (A := True) ?_⟩
  refine ⟨rfl, fun H2 t s2 _ sv2 => ?_⟩
  have s12 := s1.trans s2
  refine ⟨_, rfl, ?_⟩
  refine useW (RR.every sv2) (gl.same s12) (W.tb.ext s12) fun H3 z f e3 T3 h3 i3 => ?_
  obtain rfl : q = f := gd.eq h3 fun x => by
    rw [i3, il, iq]
    cases e : lastB g x false xs with
    | true => rw [hz x e]; rfl
    | false => cases inB Ev x <;> rfl
  refine ⟨_, _, rfl, h3.sv.dp, rp.1, rp.2.1, rp.2.2.1, rp.2.2.2, ?_⟩
  have e13 := (ExtN.of s12).trans e3
  refine ⟨_, rfl, _, _, rfl, (gd.ext e13).sv.dp, rp.1, rp.2.1, rp.2.2.1, rp.2.2.2, rfl, _, rfl, notTT rfl ?_⟩
  exact k _ e13 T3
theorem st_lk5 {f : Addr} {fLDeck : Addr} {fdLDeck : FuncData} {fLDraw : Addr} {fdLDraw : FuncData} {fLIn : Addr} {fdLIn : FuncData} {fLMade : Addr} {fdLMade : FuncData} {fLPool : Addr} {fdLPool : FuncData} {fLStretches : Addr} {fdLStretches : FuncData} {fLVersions : Addr} {fdLVersions : FuncData} {fEvery : Addr} {fdEvery : FuncData} {fIsRange : Addr} {fdIsRange : FuncData} {fJoined : Addr} {fdJoined : FuncData} {fJudgeSame : Addr} {fdJudgeSame : FuncData} {fWithout : Addr} {fdWithout : FuncData} (Z : Blt K mg) (DLDeck : DefAt K mg "_law_deck" sLDeck pLDeck fLDeck fdLDeck) (GLDeck : FnOk P w K mg base CX0 1 fLDeck fdLDeck pLDeck (spLDeck K)) (DLDraw : DefAt K mg "_law_draw" sLDraw pLDraw fLDraw fdLDraw) (GLDraw : FnOk P w K mg base CX0 1 fLDraw fdLDraw pLDraw spLDraw) (DLIn : DefAt K mg "_law_in" sLIn pLIn fLIn fdLIn) (GLIn : FnOk P w K mg base CX0 1 fLIn fdLIn pLIn (spLIn K)) (DLMade : DefAt K mg "_law_made" sLMade pLMade fLMade fdLMade) (GLMade : FnOk P w K mg base CX0 1 fLMade fdLMade pLMade (spLMade K)) (DLPool : DefAt K mg "_law_pool" sLPool pLPool fLPool fdLPool) (GLPool : FnOk P w K mg base CX0 5 fLPool fdLPool pLPool (spLPool K)) (DLStretches : DefAt K mg "_law_stretches" sLStretches pLStretches fLStretches fdLStretches) (GLStretches : FnOk P w K mg base CX0 3 fLStretches fdLStretches pLStretches (spLStretches K)) (DLVersions : DefAt K mg "_law_versions" sLVersions pLVersions fLVersions fdLVersions) (GLVersions : FnOk P w K mg base CX0 5 fLVersions fdLVersions pLVersions (spLVersions K)) (DEvery : DefAt K mg "every" sEvery pEvery fEvery fdEvery) (GEvery : FnOk P w K mg base CX0 1 fEvery fdEvery pEvery (spEvery K)) (DIsRange : DefAt K mg "is_range" sIsRange pIsRange fIsRange fdIsRange) (GIsRange : FnOk P w K mg base CX0 4 fIsRange fdIsRange pIsRange (spIsRange K)) (DJoined : DefAt K mg "joined" sJoined pJoined fJoined fdJoined) (GJoined : FnOk P w K mg base CX0 7 fJoined fdJoined pJoined (spJoined K TT)) (DJudgeSame : DefAt K mg "judge_same" sJudgeSame pJudgeSame fJudgeSame fdJudgeSame) (GJudgeSame : FnOk P w K mg base CX0 8 fJudgeSame fdJudgeSame pJudgeSame (spJudgeSame K TT)) (DWithout : DefAt K mg "without" sWithout pWithout fWithout fdWithout) (GWithout : FnOk P w K mg base CX0 7 fWithout fdWithout pWithout (spWithout K TT)) (kbJoined : KBinds K fdJoined pJoined ["other", "one"] kwG2 kwV2) (cdv : Value) (A : Around) (outer : List Env) (s0 : Shared) (H0 : Hp) (hgd : A.guards = some []) (hr : Room 8 (A.deeper (PyProof.Rows.envOfC "law" (defScope sLaw) s0.heap.objs.size f cdv))) : ∃ t, PS (cxOf CX0 P w K mg base nLaw "law" (defScope sLaw) f cdv A outer s0 H0 E0).nox ((inner ((defBody sLaw).getD 4 (.Pass ⟨0, 0, 0, 0⟩))).getD 5 (.Pass ⟨0, 0, 0, 0⟩)) t ∧ ∀ (Dn : Ends) (σ : L2.St) (H : Hp), (∃ (a : V) (d l p b so : Addr) (vs us ws : List V) (xs : List Vr) (rs : List Rg) (wturn wfew wbd wdue wnow wat wspan wmark wpool wone wother wsame wver : Option V) (m : Addr) (g : Vr → Bool) (vl : V) (rl : Rg), σ = [some a, some (.ref d), some (.ref p), some (.ref b), some (.ref so), wturn, wfew, some (.ref m), wbd, wdue, wnow, some vl, wat, wspan, wmark, wpool, wone, wother, wsame, wver] ∧ LF K TT d l p b so vs us ws xs rs H ∧ H m = some (.lst ((xs.map g).map V.bl)) ∧ RR K H vl rl 50 ∧ (∀ x, inB rl x = (inB Ev x && !lastB g x false xs)) ∧ ∀ H', Same H H' → Dn.nx [some a, some (.ref d), some (.ref p), some (.ref b), some (.ref so), wturn, wfew, some (.ref m), wbd, wdue, wnow, some vl, wat, wspan, wmark, wpool, wone, wother, wsame, wver] H') → t Dn σ H := by
  have hu := hu_of hr
  refine ⟨_, (ps_if (pt_cmpR op_ne (pe_callB (call_reprD hgd hr.units) (by rfl) Z.repr (by decide +kernel) (pa_cons (pv 11) pa_nil)) (pe_callB (call_reprD hgd hr.units) (by rfl) Z.repr (by decide +kernel) (pa_cons (pe_call GLMade (hr.mono (by decide)) rfl DLMade.g DLMade.F.kp DLMade.b .nil pass0 (pa_cons (pv 3) (pa_cons (pe_lc (own := [("_law_mark", 14)]) (g := gName 14) (tt := tYes) rfl scLaw.nd (pi_list (pv 7)) (blkOk_by (own := [("_law_mark", 14)]) (N := nLaw) (sc := defScope sLaw) (by decide +kernel)) (fun _ _ _ _ _ => (pg_name (i := 14) scLaw.nd rfl (Or.inl rfl))) (fun _ _ _ _ _ => pts_nil) (fun _ _ _ _ _ => (pe_not (pv 14)))) pa_nil))) pa_nil)) (nomark _))
    (pss_one (ps_ret pe_bl))
    pss_nil), ?_⟩
  rintro Dn σ H ⟨a, d, l, p, b, so, vs, us, ws, xs, rs, wturn, wfew, wbd, wdue, wnow, wat, wspan, wmark, wpool, wone, wother, wsame, wver, m, g, vl, rl, rfl, W, em, gl, il, k⟩
  have lx := W.lx
  have rp := rp_1 gl.rq
  refine ⟨_, rfl, _, _, rfl, gl.sv.dp, rp.1, rp.2.1, rp.2.2.1, rp.2.2.2, ?_⟩
  refine ⟨_, rfl, _, rfl, m, rfl, ⟨_, SqL.of em⟩, fun L hL => lc_list (K := K) (a := m) (xs := (xs.map g).map V.bl) (fun i H' => H' L = some (.lst (((xs.take i).map fun b => !g b).map V.bl)) ∧ Same H H') ⟨upd_same, Same.new hL⟩ (fun i H' _ ⟨_, s⟩ => SqL.of (s _ _ em)) ?_ ?_⟩
  · rintro i y H1 hi ⟨e1, s1⟩
    rw [List.getElem?_map, List.getElem?_map] at hi
    cases hx : xs[i]? with
    | none =>
      rw [hx] at hi
      cases hi
    | some x =>
      rw [hx] at hi
      obtain rfl : V.bl (g x) = y := Option.some.inj hi
      refine ⟨rfl, ?_⟩
      refine ⟨_, rfl, _, rfl, _, e1, ?_, ?_, Same.out s1 hL⟩
      · rw [List.length_map, List.length_map, List.length_take]
        exact small3000 (by omega)
      · rw [upd_same, List.take_add_one, hx, List.map_append, List.map_append]
        rfl
  · rintro H1 ⟨e1, s1⟩
    rw [show ((xs.map g).map V.bl).length = xs.length by rw [List.length_map, List.length_map], List.take_length] at e1
    refine ⟨b, L, us, xs, _, rfl, s1 _ _ W.hb, ivs_tk (TKp.of s1) W.hu, e1, by omega, fun H2 y s2 sv => ?_⟩
    have ok := made_ok (g := fun b => !g b) W.asc W.ver
    have e : rl = prs (turns (fun b => !g b) false xs) := rg_ext gl.ok ok fun x => by
      rw [il, made_in W.asc, lastB_neg W.asc W.zero]
      show ((le [0, 0, 0, 0, 0] x && true || false) && _) = _
      rw [Bool.and_true, Bool.or_false]
    rw [← e] at sv
    refine ⟨_, _, rfl, sv.dp, rp.1, rp.2.1, rp.2.2.1, rp.2.2.2, rfl, _, rfl, notTT rfl ?_⟩
    exact k _ (s1.trans s2)
theorem st_lk6 {f : Addr} {fLDeck : Addr} {fdLDeck : FuncData} {fLDraw : Addr} {fdLDraw : FuncData} {fLIn : Addr} {fdLIn : FuncData} {fLMade : Addr} {fdLMade : FuncData} {fLPool : Addr} {fdLPool : FuncData} {fLStretches : Addr} {fdLStretches : FuncData} {fLVersions : Addr} {fdLVersions : FuncData} {fEvery : Addr} {fdEvery : FuncData} {fIsRange : Addr} {fdIsRange : FuncData} {fJoined : Addr} {fdJoined : FuncData} {fJudgeSame : Addr} {fdJudgeSame : FuncData} {fWithout : Addr} {fdWithout : FuncData} (Z : Blt K mg) (DLDeck : DefAt K mg "_law_deck" sLDeck pLDeck fLDeck fdLDeck) (GLDeck : FnOk P w K mg base CX0 1 fLDeck fdLDeck pLDeck (spLDeck K)) (DLDraw : DefAt K mg "_law_draw" sLDraw pLDraw fLDraw fdLDraw) (GLDraw : FnOk P w K mg base CX0 1 fLDraw fdLDraw pLDraw spLDraw) (DLIn : DefAt K mg "_law_in" sLIn pLIn fLIn fdLIn) (GLIn : FnOk P w K mg base CX0 1 fLIn fdLIn pLIn (spLIn K)) (DLMade : DefAt K mg "_law_made" sLMade pLMade fLMade fdLMade) (GLMade : FnOk P w K mg base CX0 1 fLMade fdLMade pLMade (spLMade K)) (DLPool : DefAt K mg "_law_pool" sLPool pLPool fLPool fdLPool) (GLPool : FnOk P w K mg base CX0 5 fLPool fdLPool pLPool (spLPool K)) (DLStretches : DefAt K mg "_law_stretches" sLStretches pLStretches fLStretches fdLStretches) (GLStretches : FnOk P w K mg base CX0 3 fLStretches fdLStretches pLStretches (spLStretches K)) (DLVersions : DefAt K mg "_law_versions" sLVersions pLVersions fLVersions fdLVersions) (GLVersions : FnOk P w K mg base CX0 5 fLVersions fdLVersions pLVersions (spLVersions K)) (DEvery : DefAt K mg "every" sEvery pEvery fEvery fdEvery) (GEvery : FnOk P w K mg base CX0 1 fEvery fdEvery pEvery (spEvery K)) (DIsRange : DefAt K mg "is_range" sIsRange pIsRange fIsRange fdIsRange) (GIsRange : FnOk P w K mg base CX0 4 fIsRange fdIsRange pIsRange (spIsRange K)) (DJoined : DefAt K mg "joined" sJoined pJoined fJoined fdJoined) (GJoined : FnOk P w K mg base CX0 7 fJoined fdJoined pJoined (spJoined K TT)) (DJudgeSame : DefAt K mg "judge_same" sJudgeSame pJudgeSame fJudgeSame fdJudgeSame) (GJudgeSame : FnOk P w K mg base CX0 8 fJudgeSame fdJudgeSame pJudgeSame (spJudgeSame K TT)) (DWithout : DefAt K mg "without" sWithout pWithout fWithout fdWithout) (GWithout : FnOk P w K mg base CX0 7 fWithout fdWithout pWithout (spWithout K TT)) (kbJoined : KBinds K fdJoined pJoined ["other", "one"] kwG2 kwV2) (cdv : Value) (A : Around) (outer : List Env) (s0 : Shared) (H0 : Hp) (hgd : A.guards = some []) (hr : Room 8 (A.deeper (PyProof.Rows.envOfC "law" (defScope sLaw) s0.heap.objs.size f cdv))) : ∃ t, PS (cxOf CX0 P w K mg base nLaw "law" (defScope sLaw) f cdv A outer s0 H0 E0).nox ((inner ((defBody sLaw).getD 4 (.Pass ⟨0, 0, 0, 0⟩))).getD 6 (.Pass ⟨0, 0, 0, 0⟩)) t ∧ ∀ (Dn : Ends) (σ : L2.St) (H : Hp), (∃ (a : V) (d l p b so : Addr) (vs us ws : List V) (xs : List Vr) (rs : List Rg) (wturn wfew wmarks wbd wdue wleft wat wspan wmark wpool wone wother wsame wver : Option V) (vn : V) (q : Rg), σ = [some a, some (.ref d), some (.ref p), some (.ref b), some (.ref so), wturn, wfew, wmarks, wbd, wdue, some vn, wleft, wat, wspan, wmark, wpool, wone, wother, wsame, wver] ∧ LF K TT d l p b so vs us ws xs rs H ∧ RR K H vn q 10 ∧ ws.length ≤ 100 ∧ ∀ H' ws' rs', LF K TT d l p b so vs us ws' xs rs' H' → ws'.length = ws.length + 1 → Dn.nx [some a, some (.ref d), some (.ref p), some (.ref b), some (.ref so), wturn, wfew, wmarks, wbd, wdue, some vn, wleft, wat, wspan, wmark, wpool, wone, wother, wsame, wver] H') → t Dn σ H := by
  have hu := hu_of hr
  refine ⟨_, (ps_expr (pe_bm PySem.F.plainAttrs_list PySem.F.slot_list_append PySem.F.type_list_append mt_append (pv 4) (pa_cons (pv 10) pa_nil))), ?_⟩
  rintro Dn σ H ⟨a, d, l, p, b, so, vs, us, ws, xs, rs, wturn, wfew, wmarks, wbd, wdue, wleft, wat, wspan, wmark, wpool, wone, wother, wsame, wver, vn, q, rfl, W, gn, hwl, k⟩
  refine ⟨_, rfl, .inl ⟨rfl, _, SqL.of W.hs⟩, ?_⟩
  have sz : ws.length < sizeLine := by
    have : sizeLine = 16777216 := by decide
    omega
  refine ⟨_, rfl, so, ws, _, rfl, rfl, W.hs, sz, ?_⟩
  have tkm := TKp.mut (K := K) (ys := ws ++ [vn]) W.hs
  exact k _ (ws ++ [vn]) (rs ++ [q]) ⟨W.dk.mut (W.dk.nedl W.hs) W.ns, by rw [upd_ne W.nsp]; exact W.hp, W.np, W.lv, fun v z => (W.hv v z).same tkm, by rw [upd_ne W.nsb]; exact W.hb, W.nb, ivs_tk tkm W.hu, W.asc, W.ver, W.zero, W.lx, upd_same, W.ns, W.nsp, W.nsb, paired_app (L2.Paired.mapP W.hw fun _ _ z => z.tk tkm) (.cons (gn.tk tkm) .nil), tabs_mut W.tb W.hs⟩ (by rw [List.length_append]; rfl)
end


section
open LamX NdefX PyProof.Rows PySem.Spec
variable {P : Program} {w : World} {K : PySem.W.Frag} {mg : Str → Option Value} {base : Heap} {TT : List (Addr × Str)}
theorem same_ct (q : Rg) : PyData.eqv (CD (ctOf "same" q)) (CD (.word "same")) = q.isEmpty := by
  cases q with
  | nil => decide +kernel
  | cons p0 t =>
    show (PyData.eqv (.str "version") (.str "same") && false) = false
    rw [Bool.and_false]
theorem sym_empty {B C : Int} {r s t : Rg} (hr : RgOK B r) (hs : RgOK B s) (ht : RgOK C t) (i : ∀ x, inB t x = (inB r x != inB s x)) : t.isEmpty = decide (r = s) := by
  cases t with
  | nil =>
    have : r = s := rg_ext hr hs fun x => by
      have h : inB [] x = (inB r x != inB s x) := i x
      have h0 : inB [] x = false := rfl
      rw [h0] at h
      cases e : inB r x <;> cases e' : inB s x <;> rw [e, e'] at h <;> first | rfl | cases h
    exact (decide_eq_true this).symm
  | cons p0 t =>
    refine (decide_eq_false fun e => ?_).symm
    have h := first_in ht
    rw [i, e] at h
    cases e' : inB s p0.1 <;> rw [e'] at h <;> cases h
/-- a pool with all borders tells two ranges apart -/
theorem pool_tells {K : PySem.W.Frag} {H : Hp} {B C : Int} {r s : Rg} {us : List V} (hr : RgOK B r) (hs : RgOK B s) (hBC : B ≤ C) (hv : ∀ v ∈ us, VV K C H v) (hf : ∀ x ∈ flat r ++ flat s, ∃ v ∈ us, IV K H v x) :
    ∃ zs, Paired (IV K H) us zs ∧ (∀ z ∈ zs, Ver C z) ∧ (zs.filter fun z => inB r z != inB s z).isEmpty = decide (r = s) := by
  obtain ⟨o1, o2⟩ := op_ok (fun a b => a != b) rfl hr hs (sortV_asc (flat r ++ flat s)) (fun b hb => (List.mem_append.mp (sortV_mem.mp hb)).elim (flat_ver hr b) (flat_ver hs b)) fun c hc => sortV_mem.mpr hc
  have em := sym_empty hr hs o1 fun x => o2 x
  generalize prs (turns (fun b => inB r b != inB s b) false (sortV (flat r ++ flat s))) = t at o1 o2 em
  cases t with
  | nil =>
    obtain ⟨zs, h1, h2⟩ := vv_paired hv
    refine ⟨zs, h1, h2, ?_⟩
    have : r = s := of_decide_eq_true em.symm
    subst this
    rw [decide_eq_true rfl]
    have e : (zs.filter fun z => inB r z != inB r z) = [] := List.filter_eq_nil_iff.mpr fun z _ => by simp
    rw [e]
    rfl
  | cons p0 t =>
    have hb := first_border (fun a b => a != b) rfl hr hs o1 fun x => o2 x
    have hv0 : Ver C p0.1 := (o1.ver p0 (List.mem_cons.mpr (.inl rfl))).1.mono hBC
    obtain ⟨zs, h1, h2, h3⟩ := vv_paired_at hv0 hv
    refine ⟨zs, h1, h2, ?_⟩
    rw [← em]
    have hz := h3 (hf _ hb)
    have hg : (inB r p0.1 != inB s p0.1) = true := by rw [← o2]; exact first_in o1
    have hm : p0.1 ∈ zs.filter fun z => inB r z != inB s z := List.mem_filter.mpr ⟨hz, hg⟩
    cases e : zs.filter fun z => inB r z != inB s z with
    | nil => rw [e] at hm; cases hm
    | cons a l => rfl
theorem len30 {K : PySem.W.Frag} {H : Hp} : ∀ {ws : List V} {rs : List Rg}, Paired (fun v r => RR K H v r 10) ws rs → (rs.flatMap flat).length ≤ 10 * ws.length
  | _, _, .nil => Nat.le_refl _
  | _, _, .cons h t => by
    have := len30 t
    have := h.len
    rw [List.flatMap_cons, List.length_append, List.length_cons]
    omega
theorem st_lk7 {f : Addr} {fLDeck : Addr} {fdLDeck : FuncData} {fLDraw : Addr} {fdLDraw : FuncData} {fLIn : Addr} {fdLIn : FuncData} {fLMade : Addr} {fdLMade : FuncData} {fLPool : Addr} {fdLPool : FuncData} {fLStretches : Addr} {fdLStretches : FuncData} {fLVersions : Addr} {fdLVersions : FuncData} {fEvery : Addr} {fdEvery : FuncData} {fIsRange : Addr} {fdIsRange : FuncData} {fJoined : Addr} {fdJoined : FuncData} {fJudgeSame : Addr} {fdJudgeSame : FuncData} {fWithout : Addr} {fdWithout : FuncData} (Z : Blt K mg) (DLDeck : DefAt K mg "_law_deck" sLDeck pLDeck fLDeck fdLDeck) (GLDeck : FnOk P w K mg base CX0 1 fLDeck fdLDeck pLDeck (spLDeck K)) (DLDraw : DefAt K mg "_law_draw" sLDraw pLDraw fLDraw fdLDraw) (GLDraw : FnOk P w K mg base CX0 1 fLDraw fdLDraw pLDraw spLDraw) (DLIn : DefAt K mg "_law_in" sLIn pLIn fLIn fdLIn) (GLIn : FnOk P w K mg base CX0 1 fLIn fdLIn pLIn (spLIn K)) (DLMade : DefAt K mg "_law_made" sLMade pLMade fLMade fdLMade) (GLMade : FnOk P w K mg base CX0 1 fLMade fdLMade pLMade (spLMade K)) (DLPool : DefAt K mg "_law_pool" sLPool pLPool fLPool fdLPool) (GLPool : FnOk P w K mg base CX0 5 fLPool fdLPool pLPool (spLPool K)) (DLStretches : DefAt K mg "_law_stretches" sLStretches pLStretches fLStretches fdLStretches) (GLStretches : FnOk P w K mg base CX0 3 fLStretches fdLStretches pLStretches (spLStretches K)) (DLVersions : DefAt K mg "_law_versions" sLVersions pLVersions fLVersions fdLVersions) (GLVersions : FnOk P w K mg base CX0 5 fLVersions fdLVersions pLVersions (spLVersions K)) (DEvery : DefAt K mg "every" sEvery pEvery fEvery fdEvery) (GEvery : FnOk P w K mg base CX0 1 fEvery fdEvery pEvery (spEvery K)) (DIsRange : DefAt K mg "is_range" sIsRange pIsRange fIsRange fdIsRange) (GIsRange : FnOk P w K mg base CX0 4 fIsRange fdIsRange pIsRange (spIsRange K)) (DJoined : DefAt K mg "joined" sJoined pJoined fJoined fdJoined) (GJoined : FnOk P w K mg base CX0 7 fJoined fdJoined pJoined (spJoined K TT)) (DJudgeSame : DefAt K mg "judge_same" sJudgeSame pJudgeSame fJudgeSame fdJudgeSame) (GJudgeSame : FnOk P w K mg base CX0 8 fJudgeSame fdJudgeSame pJudgeSame (spJudgeSame K TT)) (DWithout : DefAt K mg "without" sWithout pWithout fWithout fdWithout) (GWithout : FnOk P w K mg base CX0 7 fWithout fdWithout pWithout (spWithout K TT)) (kbJoined : KBinds K fdJoined pJoined ["other", "one"] kwG2 kwV2) (cdv : Value) (A : Around) (outer : List Env) (s0 : Shared) (H0 : Hp) (hgd : A.guards = some []) (hr : Room 8 (A.deeper (PyProof.Rows.envOfC "law" (defScope sLaw) s0.heap.objs.size f cdv))) : ∃ t, PS (cxOf CX0 P w K mg base nLaw "law" (defScope sLaw) f cdv A outer s0 H0 E0).nox ((defBody sLaw).getD 2 (.Pass ⟨0, 0, 0, 0⟩)) t ∧ ∀ (Dn : Ends) (σ : L2.St) (H : Hp), (∃ (a : V) (d l p : Addr) (vs : List V), σ = [some a, some (.ref d), some (.ref p), none, none, none, none, none, none, none, none, none, none, none, none, none, none, none, none, none] ∧ Deck d l H ∧ H p = some (.lst vs) ∧ vs.length = 7 ∧ (∀ v ∈ vs, VV K 1000000007 H v) ∧ ∀ H' b us xs, Same H H' → H b = none → H' b = some (.lst us) → Paired (IV K H') us xs → xs.Pairwise lt → (∀ x ∈ xs, Ver 1000000010 x) → xs[0]? = some [0, 0, 0, 0, 0] → xs.length ≤ 10 → Dn.nx [some a, some (.ref d), some (.ref p), some (.ref b), none, none, none, none, none, none, none, none, none, none, none, none, none, none, none, none] H') → t Dn σ H := by
  have hu := hu_of hr
  refine ⟨_, (ps_set (i := 3) scLaw.nd rfl (Or.inl rfl) (pe_callB (cr_sortedT rfl) (by rfl) Z.sorted (by decide +kernel) (pa_cons (pe_callTy (cr_setOfT rfl hr.units) (by rfl) Z.set (by decide +kernel) (pa_cons (pe_op op_cat (pe_lst (pa_cons (pe_tup (pa_cons pe_int (pa_cons pe_int (pa_cons pe_int (pa_cons pe_int (pa_cons pe_int pa_nil)))))) pa_nil)) (pv 2)) pa_nil)) pa_nil))), ?_⟩
  rintro Dn σ H ⟨a, d, l, p, vs, rfl, Dk, hp, lv, hv, k⟩
  refine ⟨by show 5 ≤ sizeLine; decide, fun z hz => ?_⟩
  have sH1 : Same H (upd H z (.tup [.int 0, .int 0, .int 0, .int 0, .int 0])) := Same.new hz
  have eH1 : upd H z (.tup [.int 0, .int 0, .int 0, .int 0, .int 0]) z = some (.tup [.int 0, .int 0, .int 0, .int 0, .int 0]) := upd_same
  generalize upd H z (.tup [.int 0, .int 0, .int 0, .int 0, .int 0]) = H1 at sH1 eH1
  refine ⟨by show 1 ≤ sizeLine; decide, fun F hF => ?_⟩
  have sH2 : Same H1 (upd H1 F (.lst [.ref z])) := Same.new hF
  have eH2 : upd H1 F (.lst [.ref z]) F = some (.lst [.ref z]) := upd_same
  generalize upd H1 F (.lst [.ref z]) = H2 at sH2 eH2
  have s12 := sH1.trans sH2
  refine ⟨_, rfl, F, p, _, vs, rfl, rfl, eH2, s12 _ _ hp, ?_, fun C hC => ?_⟩
  · have : sizeLine = 16777216 := by decide
    show 1 + vs.length ≤ sizeLine
    omega
  have s5 : Same H2 (upd H2 C (.lst ([.ref z] ++ vs))) := Same.new hC
  have eC : upd H2 C (.lst ([.ref z] ++ vs)) C = some (.lst ([.ref z] ++ vs)) := upd_same
  generalize upd H2 C (.lst ([.ref z] ++ vs)) = H3 at s5 eC
  obtain ⟨zs, hz, hzv⟩ := vv_paired fun v q => (hv v q).same (TKp.of (s12.trans s5))
  have hu5 : Paired (IV K H3) ([V.ref z] ++ vs) ([0, 0, 0, 0, 0] :: zs) := .cons ⟨z, rfl, SqT.of (s5 _ _ (sH2 _ _ eH1))⟩ hz
  have lz := paired_len hz
  have hv5 : ∀ x ∈ ([0, 0, 0, 0, 0] :: zs), Ver 1000000007 x := fun x hx => by
    rcases List.mem_cons.mp hx with rfl | hx
    · exact ⟨0, 0, 0, 0, 0, rfl, by omega⟩
    · exact hzv x hx
  refine sortset2 (SqL.of eC) hu5 hv5 (by decide) (by rw [List.length_cons]; omega) fun H' b us xs s6 hb eb hu asc iff _ hl => ?_
  have s26 := (s12.trans s5).trans s6
  have ver : ∀ x ∈ xs, Ver 1000000010 x := fun x hx => (hv5 x ((iff x).mp hx)).mono (by decide)
  rw [List.length_cons] at hl
  exact k H' b us xs s26 ((s12.trans s5).free hb) eb hu asc ver (first_zero asc ver ((iff _).mpr (List.mem_cons.mpr (.inl rfl)))) (by omega)
theorem st_lk8 {f : Addr} {fLDeck : Addr} {fdLDeck : FuncData} {fLDraw : Addr} {fdLDraw : FuncData} {fLIn : Addr} {fdLIn : FuncData} {fLMade : Addr} {fdLMade : FuncData} {fLPool : Addr} {fdLPool : FuncData} {fLStretches : Addr} {fdLStretches : FuncData} {fLVersions : Addr} {fdLVersions : FuncData} {fEvery : Addr} {fdEvery : FuncData} {fIsRange : Addr} {fdIsRange : FuncData} {fJoined : Addr} {fdJoined : FuncData} {fJudgeSame : Addr} {fdJudgeSame : FuncData} {fWithout : Addr} {fdWithout : FuncData} (Z : Blt K mg) (DLDeck : DefAt K mg "_law_deck" sLDeck pLDeck fLDeck fdLDeck) (GLDeck : FnOk P w K mg base CX0 1 fLDeck fdLDeck pLDeck (spLDeck K)) (DLDraw : DefAt K mg "_law_draw" sLDraw pLDraw fLDraw fdLDraw) (GLDraw : FnOk P w K mg base CX0 1 fLDraw fdLDraw pLDraw spLDraw) (DLIn : DefAt K mg "_law_in" sLIn pLIn fLIn fdLIn) (GLIn : FnOk P w K mg base CX0 1 fLIn fdLIn pLIn (spLIn K)) (DLMade : DefAt K mg "_law_made" sLMade pLMade fLMade fdLMade) (GLMade : FnOk P w K mg base CX0 1 fLMade fdLMade pLMade (spLMade K)) (DLPool : DefAt K mg "_law_pool" sLPool pLPool fLPool fdLPool) (GLPool : FnOk P w K mg base CX0 5 fLPool fdLPool pLPool (spLPool K)) (DLStretches : DefAt K mg "_law_stretches" sLStretches pLStretches fLStretches fdLStretches) (GLStretches : FnOk P w K mg base CX0 3 fLStretches fdLStretches pLStretches (spLStretches K)) (DLVersions : DefAt K mg "_law_versions" sLVersions pLVersions fLVersions fdLVersions) (GLVersions : FnOk P w K mg base CX0 5 fLVersions fdLVersions pLVersions (spLVersions K)) (DEvery : DefAt K mg "every" sEvery pEvery fEvery fdEvery) (GEvery : FnOk P w K mg base CX0 1 fEvery fdEvery pEvery (spEvery K)) (DIsRange : DefAt K mg "is_range" sIsRange pIsRange fIsRange fdIsRange) (GIsRange : FnOk P w K mg base CX0 4 fIsRange fdIsRange pIsRange (spIsRange K)) (DJoined : DefAt K mg "joined" sJoined pJoined fJoined fdJoined) (GJoined : FnOk P w K mg base CX0 7 fJoined fdJoined pJoined (spJoined K TT)) (DJudgeSame : DefAt K mg "judge_same" sJudgeSame pJudgeSame fJudgeSame fdJudgeSame) (GJudgeSame : FnOk P w K mg base CX0 8 fJudgeSame fdJudgeSame pJudgeSame (spJudgeSame K TT)) (DWithout : DefAt K mg "without" sWithout pWithout fWithout fdWithout) (GWithout : FnOk P w K mg base CX0 7 fWithout fdWithout pWithout (spWithout K TT)) (kbJoined : KBinds K fdJoined pJoined ["other", "one"] kwG2 kwV2) (cdv : Value) (A : Around) (outer : List Env) (s0 : Shared) (H0 : Hp) (hgd : A.guards = some []) (hr : Room 8 (A.deeper (PyProof.Rows.envOfC "law" (defScope sLaw) s0.heap.objs.size f cdv))) : ∃ t, PS (cxOf CX0 P w K mg base nLaw "law" (defScope sLaw) f cdv A outer s0 H0 E0).nox ((defBody sLaw).getD 5 (.Pass ⟨0, 0, 0, 0⟩)) t ∧ ∀ (Dn : Ends) (σ : L2.St) (H : Hp), (∃ (a : V) (d l p b so : Addr) (vs us ws : List V) (xs : List Vr) (rs : List Rg) (wturn wfew wmarks wbd wdue wnow wleft wat wspan wmark wpool wone wother wsame wver : Option V) , σ = [some a, some (.ref d), some (.ref p), some (.ref b), some (.ref so), wturn, wfew, wmarks, wbd, wdue, wnow, wleft, wat, wspan, wmark, wpool, wone, wother, wsame, wver] ∧ LF K TT d l p b so vs us ws xs rs H ∧ ws.length = 3 ∧ ∀ H' po zs, Kp d l H H' → Deck d l H' → H' po = some (.lst zs) → po ≠ l → (∀ v ∈ zs, VV K 1000000012 H' v) → (∀ x ∈ rs.flatMap flat, ∃ v ∈ zs, IV K H' v x) → zs.length ≤ 2000 → Dn.nx [some a, some (.ref d), some (.ref p), some (.ref b), some (.ref so), wturn, wfew, wmarks, wbd, wdue, wnow, wleft, wat, wspan, wmark, some (.ref po), wone, wother, wsame, wver] H') → t Dn σ H := by
  have hu := hu_of hr
  refine ⟨_, (ps_set (i := 15) scLaw.nd rfl (Or.inl rfl) (pe_call GLPool (hr.mono (by decide)) rfl DLPool.g DLPool.F.kp DLPool.b .nil pass0 (pa_cons (pv 1) (pa_cons (pv 4) (pa_cons (pv 2) pa_nil))))), ?_⟩
  rintro Dn σ H ⟨a, d, l, p, b, so, vs, us, ws, xs, rs, wturn, wfew, wmarks, wbd, wdue, wnow, wleft, wat, wspan, wmark, wpool, wone, wother, wsame, wver, rfl, W, lw, k⟩
  have l30 := len30 W.hw
  have lr := paired_len W.hw
  refine ⟨_, rfl, _, rfl, _, rfl, d, l, so, p, ws, vs, rs, 1000000010, rfl, W.dk, W.hs, L2.Paired.mapP W.hw (fun _ _ q => q.sv), (fun r hr => ?_), W.hp, (fun v z => (W.hv v z).mono (by decide)), (by have := W.lv; omega), by decide, by omega, fun H2 po zs k2 D2 hpo epo hvz hfl hzl _ => ?_⟩
  · obtain ⟨i, hi⟩ := List.getElem?_of_mem hr
    obtain ⟨v, _, g⟩ := paired_get2 W.hw hi
    have := g.rl
    exact ⟨g.ok.ver, by omega⟩
  · exact k H2 po zs k2 D2 epo (W.dk.free hpo) hvz hfl hzl
theorem st_lk9 {f : Addr} {fLDeck : Addr} {fdLDeck : FuncData} {fLDraw : Addr} {fdLDraw : FuncData} {fLIn : Addr} {fdLIn : FuncData} {fLMade : Addr} {fdLMade : FuncData} {fLPool : Addr} {fdLPool : FuncData} {fLStretches : Addr} {fdLStretches : FuncData} {fLVersions : Addr} {fdLVersions : FuncData} {fEvery : Addr} {fdEvery : FuncData} {fIsRange : Addr} {fdIsRange : FuncData} {fJoined : Addr} {fdJoined : FuncData} {fJudgeSame : Addr} {fdJudgeSame : FuncData} {fWithout : Addr} {fdWithout : FuncData} (Z : Blt K mg) (DLDeck : DefAt K mg "_law_deck" sLDeck pLDeck fLDeck fdLDeck) (GLDeck : FnOk P w K mg base CX0 1 fLDeck fdLDeck pLDeck (spLDeck K)) (DLDraw : DefAt K mg "_law_draw" sLDraw pLDraw fLDraw fdLDraw) (GLDraw : FnOk P w K mg base CX0 1 fLDraw fdLDraw pLDraw spLDraw) (DLIn : DefAt K mg "_law_in" sLIn pLIn fLIn fdLIn) (GLIn : FnOk P w K mg base CX0 1 fLIn fdLIn pLIn (spLIn K)) (DLMade : DefAt K mg "_law_made" sLMade pLMade fLMade fdLMade) (GLMade : FnOk P w K mg base CX0 1 fLMade fdLMade pLMade (spLMade K)) (DLPool : DefAt K mg "_law_pool" sLPool pLPool fLPool fdLPool) (GLPool : FnOk P w K mg base CX0 5 fLPool fdLPool pLPool (spLPool K)) (DLStretches : DefAt K mg "_law_stretches" sLStretches pLStretches fLStretches fdLStretches) (GLStretches : FnOk P w K mg base CX0 3 fLStretches fdLStretches pLStretches (spLStretches K)) (DLVersions : DefAt K mg "_law_versions" sLVersions pLVersions fLVersions fdLVersions) (GLVersions : FnOk P w K mg base CX0 5 fLVersions fdLVersions pLVersions (spLVersions K)) (DEvery : DefAt K mg "every" sEvery pEvery fEvery fdEvery) (GEvery : FnOk P w K mg base CX0 1 fEvery fdEvery pEvery (spEvery K)) (DIsRange : DefAt K mg "is_range" sIsRange pIsRange fIsRange fdIsRange) (GIsRange : FnOk P w K mg base CX0 4 fIsRange fdIsRange pIsRange (spIsRange K)) (DJoined : DefAt K mg "joined" sJoined pJoined fJoined fdJoined) (GJoined : FnOk P w K mg base CX0 7 fJoined fdJoined pJoined (spJoined K TT)) (DJudgeSame : DefAt K mg "judge_same" sJudgeSame pJudgeSame fJudgeSame fdJudgeSame) (GJudgeSame : FnOk P w K mg base CX0 8 fJudgeSame fdJudgeSame pJudgeSame (spJudgeSame K TT)) (DWithout : DefAt K mg "without" sWithout pWithout fWithout fdWithout) (GWithout : FnOk P w K mg base CX0 7 fWithout fdWithout pWithout (spWithout K TT)) (kbJoined : KBinds K fdJoined pJoined ["other", "one"] kwG2 kwV2) (cdv : Value) (A : Around) (outer : List Env) (s0 : Shared) (H0 : Hp) (hgd : A.guards = some []) (hr : Room 8 (A.deeper (PyProof.Rows.envOfC "law" (defScope sLaw) s0.heap.objs.size f cdv))) : ∃ t, PS (cxOf CX0 P w K mg base nLaw "law" (defScope sLaw) f cdv A outer s0 H0 E0).nox ((inner ((inner ((defBody sLaw).getD 6 (.Pass ⟨0, 0, 0, 0⟩))).getD 0 (.Pass ⟨0, 0, 0, 0⟩))).getD 0 (.Pass ⟨0, 0, 0, 0⟩)) t ∧ ∀ (Dn : Ends) (σ : L2.St) (H : Hp), (∃ (a : V) (d l p b so : Addr) (vs us ws : List V) (xs : List Vr) (rs : List Rg) (wturn wfew wmarks wbd wdue wnow wleft wat wspan wmark wsame wver : Option V) (po : Addr) (zs : List V) (v1 v2 : V) (r1 r2 : Rg), σ = [some a, some (.ref d), some (.ref p), some (.ref b), some (.ref so), wturn, wfew, wmarks, wbd, wdue, wnow, wleft, wat, wspan, wmark, some (.ref po), some v1, some v2, wsame, wver] ∧ H po = some (.lst zs) ∧ (∀ v ∈ zs, VV K 1000000012 H v) ∧ zs.length ≤ 2000 ∧ RR K H v1 r1 10 ∧ RR K H v2 r2 10 ∧ (∀ x ∈ flat r1 ++ flat r2, ∃ v ∈ zs, IV K H v x) ∧ ∀ H', Same H H' → Dn.nx [some a, some (.ref d), some (.ref p), some (.ref b), some (.ref so), wturn, wfew, wmarks, wbd, wdue, wnow, wleft, wat, wspan, wmark, some (.ref po), some v1, some v2, some (.bl (decide (r1 = r2))), wver] H') → t Dn σ H := by
  have hu := hu_of hr
  refine ⟨_, (ps_set (i := 18) scLaw.nd rfl (Or.inl rfl) (pe_cmpR (op_eqD hr.units) (pe_lc (own := [("_law_version_here", 19)]) (g := gName 19) rfl scLaw.nd (pi_list (pv 15)) (blkOk_by (own := [("_law_version_here", 19)]) (N := nLaw) (sc := defScope sLaw) (by decide +kernel)) (fun _ _ _ _ _ => (pg_name (i := 19) scLaw.nd rfl (Or.inl rfl))) (fun _ _ _ _ _ => (pts_one (pt_cmpR op_ne (pe_call GLIn (hr.mono (by decide)) rfl DLIn.g DLIn.F.kp DLIn.b .nil pass0 (pa_cons (pv 16) (pa_cons (pv 19) pa_nil))) (pe_call GLIn (hr.mono (by decide)) rfl DLIn.g DLIn.F.kp DLIn.b .nil pass0 (pa_cons (pv 17) (pa_cons (pv 19) pa_nil))) (nomark _)))) (fun _ _ _ _ _ => (pv 19))) (pe_lst pa_nil) (nomark _))), ?_⟩
  rintro Dn σ H ⟨a, d, l, p, b, so, vs, us, ws, xs, rs, wturn, wfew, wmarks, wbd, wdue, wnow, wleft, wat, wspan, wmark, wsame, wver, po, zs, v1, v2, r1, r2, rfl, epo, hvz, hzl, g1, g2, hf, k⟩
  obtain ⟨ys, hz, hv, hemp⟩ := pool_tells g1.ok g2.ok (by decide) hvz hf
  have l1 := g1.rl
  have l2 := g2.rl
  have ok1 := (g1.ok).mono (show (1000000010 : Int) ≤ 1000000012 by decide)
  have ok2 := (g2.ok).mono (show (1000000010 : Int) ≤ 1000000012 by decide)
  have lz := paired_len hz
  refine ⟨_, rfl, po, rfl, ⟨_, SqL.of epo⟩, fun L hL => lc_list (K := K) (a := po) (xs := zs) (fun i H' => ∃ ws, H' L = some (.lst ws) ∧ Paired (IV K H') ws ((ys.take i).filter fun z => inB r1 z != inB r2 z) ∧ Same H H') ⟨[], upd_same, .nil, Same.new hL⟩ (fun i H' _ ⟨_, _, _, s⟩ => SqL.of (s _ _ epo)) ?_ ?_⟩
  · rintro i y H1 hi ⟨ws, e1, e2, s1⟩
    obtain ⟨x, hx, hy⟩ := paired_get hz hi
    have hver := hv x (List.mem_of_getElem? hx)
    have et : ys.take (i + 1) = ys.take i ++ [x] := by rw [List.take_add_one, hx]; rfl
    have lw : ws.length = ((ys.take i).filter fun z => inB r1 z != inB r2 z).length := paired_len e2
    have lf : ((ys.take i).filter fun z => inB r1 z != inB r2 z).length ≤ (ys.take i).length := List.length_filter_le _ _
    rw [List.length_take] at lf
    refine ⟨rfl, ?_⟩
    refine ⟨_, rfl, _, rfl, v1, y, r1, x, _, rfl, g1.sv.tk (TKp.of s1), ok1.ver, by omega, hy.same (TKp.of s1), hver, fun H2 s2 => ?_⟩
    have s12 := s1.trans s2
    refine ⟨_, rfl, _, rfl, v2, y, r2, x, _, rfl, g2.sv.tk (TKp.of s12), ok2.ver, by omega, hy.same (TKp.of s12), hver, fun H3 s3 => ?_⟩
    have s23 := s2.trans s3
    refine ⟨rfl, _, rfl, ?_⟩
    have e0 : (!decide (V.bl (inB r1 x) = V.bl (inB r2 x))) = (inB r1 x != inB r2 x) := by cases inB r1 x <;> cases inB r2 x <;> rfl
    rw [e0]
    have e1' := s23 _ _ e1
    cases e : (inB r1 x != inB r2 x) with
    | false =>
      refine iteF (A := True) ⟨ws, e1', ?_, s1.trans s23⟩
      rw [et, List.filter_append, List.filter_cons, e]
      simp only [Bool.false_eq_true, if_false, List.filter_nil, List.append_nil]
      exact ivs_tk (TKp.of s23) e2
    | true =>
      refine iteT (B := True) ?_
      have tk := (TKp.of (K := K) s23).trans (TKp.mut (ys := ws ++ [y]) e1')
      refine ⟨_, rfl, ws, e1', small3000 (by omega), ws ++ [y], upd_same, ?_, Same.out (s1.trans s23) hL⟩
      rw [et, List.filter_append, List.filter_cons, e]
      exact paired_app (ivs_tk tk e2) (.cons (((hy.same (TKp.of s1)).same (TKp.of s23)).same (TKp.mut e1')) .nil)
  · rintro H1 ⟨ws, e1, e2, s1⟩
    rw [lz, List.take_length] at e2
    have hl : (ys.filter fun z => inB r1 z != inB r2 z).length ≤ 2000 := Nat.le_trans (List.length_filter_le _ _) (by omega)
    have hvf : ∀ x ∈ ys.filter (fun z => inB r1 z != inB r2 z), Ver 1000000012 x := fun x hx => hv x (List.mem_filter.mp hx).1
    generalize (ys.filter fun z => inB r1 z != inB r2 z) = fs at *
    refine ⟨Nat.zero_le _, fun t ht => ?_⟩
    have sH2 : Same H1 (upd H1 t (.lst [])) := Same.new ht
    have eH2 : upd H1 t (.lst []) t = some (.lst []) := upd_same
    generalize upd H1 t (.lst []) = H2 at sH2 eH2
    have shf : SeqAt.shaped (.list (fs.map TD)) = true := (Rq.list (k := 2) (n := 5) (m := 12000) (fun dd hd => by
      obtain ⟨x, hx, rfl⟩ := List.mem_map.mp hd
      exact rq_ver (hvf x hx) (by decide)) (by rw [List.length_map]; omega)).shp (by decide)
    refine ⟨.list (fs.map TD), .list [], .lst (SqL.of (sH2 _ _ e1)) (ivs_dp (ivs_tk (TKp.of sH2) e2)), .lst (SqL.of eH2) .nil, shf, by decide, ?_⟩
    have eb : PyData.eqv (.list (fs.map TD)) (.list []) = decide (r1 = r2) := by
      rw [eqv_nil, ← hemp]
      cases fs <;> rfl
    rw [eb]
    exact k _ (s1.trans sH2)
theorem st_lk10 {f : Addr} {fLDeck : Addr} {fdLDeck : FuncData} {fLDraw : Addr} {fdLDraw : FuncData} {fLIn : Addr} {fdLIn : FuncData} {fLMade : Addr} {fdLMade : FuncData} {fLPool : Addr} {fdLPool : FuncData} {fLStretches : Addr} {fdLStretches : FuncData} {fLVersions : Addr} {fdLVersions : FuncData} {fEvery : Addr} {fdEvery : FuncData} {fIsRange : Addr} {fdIsRange : FuncData} {fJoined : Addr} {fdJoined : FuncData} {fJudgeSame : Addr} {fdJudgeSame : FuncData} {fWithout : Addr} {fdWithout : FuncData} (Z : Blt K mg) (DLDeck : DefAt K mg "_law_deck" sLDeck pLDeck fLDeck fdLDeck) (GLDeck : FnOk P w K mg base CX0 1 fLDeck fdLDeck pLDeck (spLDeck K)) (DLDraw : DefAt K mg "_law_draw" sLDraw pLDraw fLDraw fdLDraw) (GLDraw : FnOk P w K mg base CX0 1 fLDraw fdLDraw pLDraw spLDraw) (DLIn : DefAt K mg "_law_in" sLIn pLIn fLIn fdLIn) (GLIn : FnOk P w K mg base CX0 1 fLIn fdLIn pLIn (spLIn K)) (DLMade : DefAt K mg "_law_made" sLMade pLMade fLMade fdLMade) (GLMade : FnOk P w K mg base CX0 1 fLMade fdLMade pLMade (spLMade K)) (DLPool : DefAt K mg "_law_pool" sLPool pLPool fLPool fdLPool) (GLPool : FnOk P w K mg base CX0 5 fLPool fdLPool pLPool (spLPool K)) (DLStretches : DefAt K mg "_law_stretches" sLStretches pLStretches fLStretches fdLStretches) (GLStretches : FnOk P w K mg base CX0 3 fLStretches fdLStretches pLStretches (spLStretches K)) (DLVersions : DefAt K mg "_law_versions" sLVersions pLVersions fLVersions fdLVersions) (GLVersions : FnOk P w K mg base CX0 5 fLVersions fdLVersions pLVersions (spLVersions K)) (DEvery : DefAt K mg "every" sEvery pEvery fEvery fdEvery) (GEvery : FnOk P w K mg base CX0 1 fEvery fdEvery pEvery (spEvery K)) (DIsRange : DefAt K mg "is_range" sIsRange pIsRange fIsRange fdIsRange) (GIsRange : FnOk P w K mg base CX0 4 fIsRange fdIsRange pIsRange (spIsRange K)) (DJoined : DefAt K mg "joined" sJoined pJoined fJoined fdJoined) (GJoined : FnOk P w K mg base CX0 7 fJoined fdJoined pJoined (spJoined K TT)) (DJudgeSame : DefAt K mg "judge_same" sJudgeSame pJudgeSame fJudgeSame fdJudgeSame) (GJudgeSame : FnOk P w K mg base CX0 8 fJudgeSame fdJudgeSame pJudgeSame (spJudgeSame K TT)) (DWithout : DefAt K mg "without" sWithout pWithout fWithout fdWithout) (GWithout : FnOk P w K mg base CX0 7 fWithout fdWithout pWithout (spWithout K TT)) (kbJoined : KBinds K fdJoined pJoined ["other", "one"] kwG2 kwV2) (cdv : Value) (A : Around) (outer : List Env) (s0 : Shared) (H0 : Hp) (hgd : A.guards = some []) (hr : Room 8 (A.deeper (PyProof.Rows.envOfC "law" (defScope sLaw) s0.heap.objs.size f cdv))) : ∃ t, PS (cxOf CX0 P w K mg base nLaw "law" (defScope sLaw) f cdv A outer s0 H0 E0).nox ((inner ((inner ((defBody sLaw).getD 6 (.Pass ⟨0, 0, 0, 0⟩))).getD 0 (.Pass ⟨0, 0, 0, 0⟩))).getD 1 (.Pass ⟨0, 0, 0, 0⟩)) t ∧ ∀ (Dn : Ends) (σ : L2.St) (H : Hp), (∃ (a : V) (d l p b so : Addr) (vs us ws : List V) (xs : List Vr) (rs : List Rg) (wturn wfew wmarks wbd wdue wnow wleft wat wspan wmark wpool wver : Option V) (v1 v2 : V) (r1 r2 : Rg), σ = [some a, some (.ref d), some (.ref p), some (.ref b), some (.ref so), wturn, wfew, wmarks, wbd, wdue, wnow, wleft, wat, wspan, wmark, wpool, some v1, some v2, some (.bl (decide (r1 = r2))), wver] ∧ RR K H v1 r1 10 ∧ RR K H v2 r2 10 ∧ Tabs TT H ∧ ∀ H', ExtN H H' → Tabs TT H' → Dn.nx [some a, some (.ref d), some (.ref p), some (.ref b), some (.ref so), wturn, wfew, wmarks, wbd, wdue, wnow, wleft, wat, wspan, wmark, wpool, some v1, some v2, some (.bl (decide (r1 = r2))), wver] H') → t Dn σ H := by
  have hu := hu_of hr
  refine ⟨_, (ps_if (PW.pt (pw_or (pt_cmpR op_ne (pv 18) (pe_cmpR (op_eqD hr.units) (pv 16) (pv 17) (nomark _)) (nomark _)) (pw_or1 (pt_cmpR op_ne (pe_cmpR (op_eqD hr.units) (pe_call GJudgeSame (hr.mono (by decide)) rfl DJudgeSame.g DJudgeSame.F.kp DJudgeSame.b .nil pass0 (pa_cons (pv 16) (pa_cons (pv 17) pa_nil))) (pe_tup (pa_cons pe_str pa_nil)) (nomark _)) (pv 18) (nomark _)))))
    (pss_one (ps_ret pe_bl))
    pss_nil), ?_⟩
  rintro Dn σ H ⟨a, d, l, p, b, so, vs, us, ws, xs, rs, wturn, wfew, wmarks, wbd, wdue, wnow, wleft, wat, wspan, wmark, wpool, wver, v1, v2, r1, r2, rfl, g1, g2, hT, k⟩
  refine ⟨_, rfl, _, rfl, _, rfl, RD r1, RD r2, g1.sv.dp, g2.sv.dp, (g1.rq).shp (by decide), (g2.rq).shp (by decide), ?_⟩
  rw [eqv_rd]
  refine ⟨rfl, _, rfl, notTT rfl ?_⟩
  refine ⟨_, rfl, _, rfl, v1, v2, r1, r2, 10, 10, rfl, g1, g2, by decide, hT, fun H1 y t e1 T1 ok i cv => ?_⟩
  refine ⟨by show 1 ≤ sizeLine; decide, fun c hc => ?_⟩
  have sH2 : Same H1 (upd H1 c (.tup [.str "same"])) := Same.new hc
  have eH2 : upd H1 c (.tup [.str "same"]) c = some (.tup [.str "same"]) := upd_same
  generalize upd H1 c (.tup [.str "same"]) = H2 at sH2 eH2
  have cok := rq_ct (ctOf_ok (w := "same") ok (.inr rfl)) (by decide)
  have wok := rq_ct (B := 3) (c := .word "same") (.inr rfl) (by decide)
  refine ⟨CD (ctOf "same" t), CD (.word "same"), (cv.tk (TKp.of sH2)).dp, .tup (SqT.of eH2) (.cons (.str _) .nil), cok.shp (by decide), wok.shp (by decide), ?_⟩
  rw [same_ct, sym_empty g1.ok g2.ok ok i]
  refine ⟨_, rfl, rfl, _, rfl, notTT rfl ?_⟩
  exact k _ (e1.trans (ExtN.of sH2)) (T1.ext sH2)
theorem ok_Law {f : Addr} {fd : FuncData} {fLDeck : Addr} {fdLDeck : FuncData} {fLDraw : Addr} {fdLDraw : FuncData} {fLIn : Addr} {fdLIn : FuncData} {fLMade : Addr} {fdLMade : FuncData} {fLPool : Addr} {fdLPool : FuncData} {fLStretches : Addr} {fdLStretches : FuncData} {fLVersions : Addr} {fdLVersions : FuncData} {fEvery : Addr} {fdEvery : FuncData} {fIsRange : Addr} {fdIsRange : FuncData} {fJoined : Addr} {fdJoined : FuncData} {fJudgeSame : Addr} {fdJudgeSame : FuncData} {fWithout : Addr} {fdWithout : FuncData} (Z : Blt K mg) (D : DefAt K mg "law" sLaw pLaw f fd) (DLDeck : DefAt K mg "_law_deck" sLDeck pLDeck fLDeck fdLDeck) (GLDeck : FnOk P w K mg base CX0 1 fLDeck fdLDeck pLDeck (spLDeck K)) (DLDraw : DefAt K mg "_law_draw" sLDraw pLDraw fLDraw fdLDraw) (GLDraw : FnOk P w K mg base CX0 1 fLDraw fdLDraw pLDraw spLDraw) (DLIn : DefAt K mg "_law_in" sLIn pLIn fLIn fdLIn) (GLIn : FnOk P w K mg base CX0 1 fLIn fdLIn pLIn (spLIn K)) (DLMade : DefAt K mg "_law_made" sLMade pLMade fLMade fdLMade) (GLMade : FnOk P w K mg base CX0 1 fLMade fdLMade pLMade (spLMade K)) (DLPool : DefAt K mg "_law_pool" sLPool pLPool fLPool fdLPool) (GLPool : FnOk P w K mg base CX0 5 fLPool fdLPool pLPool (spLPool K)) (DLStretches : DefAt K mg "_law_stretches" sLStretches pLStretches fLStretches fdLStretches) (GLStretches : FnOk P w K mg base CX0 3 fLStretches fdLStretches pLStretches (spLStretches K)) (DLVersions : DefAt K mg "_law_versions" sLVersions pLVersions fLVersions fdLVersions) (GLVersions : FnOk P w K mg base CX0 5 fLVersions fdLVersions pLVersions (spLVersions K)) (DEvery : DefAt K mg "every" sEvery pEvery fEvery fdEvery) (GEvery : FnOk P w K mg base CX0 1 fEvery fdEvery pEvery (spEvery K)) (DIsRange : DefAt K mg "is_range" sIsRange pIsRange fIsRange fdIsRange) (GIsRange : FnOk P w K mg base CX0 4 fIsRange fdIsRange pIsRange (spIsRange K)) (DJoined : DefAt K mg "joined" sJoined pJoined fJoined fdJoined) (GJoined : FnOk P w K mg base CX0 7 fJoined fdJoined pJoined (spJoined K TT)) (DJudgeSame : DefAt K mg "judge_same" sJudgeSame pJudgeSame fJudgeSame fdJudgeSame) (GJudgeSame : FnOk P w K mg base CX0 8 fJudgeSame fdJudgeSame pJudgeSame (spJudgeSame K TT)) (DWithout : DefAt K mg "without" sWithout pWithout fWithout fdWithout) (GWithout : FnOk P w K mg base CX0 7 fWithout fdWithout pWithout (spWithout K TT)) (kbJoined : KBinds K fdJoined pJoined ["other", "one"] kwG2 kwV2) : FnG P w K mg base 9 f fd pLaw (spLaw K TT) := by
  refine FnG.body D.F scLaw (fun vs H Q E h => ?_) (fun cdv A outer s0 H vs Q hgd hr h => ?_)
  · obtain ⟨a, ns, rfl, _⟩ := h
    rfl
  have hu := hu_of hr
  obtain ⟨a, ns, rfl, ha, hl, hT, k⟩ := h
  obtain ⟨t0, q0, p0⟩ := st_lk0 (P := P) (w := w) (base := base) (TT := TT) Z DLDeck GLDeck DLDraw GLDraw DLIn GLIn DLMade GLMade DLPool GLPool DLStretches GLStretches DLVersions GLVersions DEvery GEvery DIsRange GIsRange DJoined GJoined DJudgeSame GJudgeSame DWithout GWithout kbJoined cdv A outer s0 H hgd hr
  obtain ⟨t1, q1, p1⟩ := st_lk1 (P := P) (w := w) (base := base) (TT := TT) Z DLDeck GLDeck DLDraw GLDraw DLIn GLIn DLMade GLMade DLPool GLPool DLStretches GLStretches DLVersions GLVersions DEvery GEvery DIsRange GIsRange DJoined GJoined DJudgeSame GJudgeSame DWithout GWithout kbJoined cdv A outer s0 H hgd hr
  obtain ⟨t2, q2, p2⟩ := st_lk2 (P := P) (w := w) (base := base) (TT := TT) Z DLDeck GLDeck DLDraw GLDraw DLIn GLIn DLMade GLMade DLPool GLPool DLStretches GLStretches DLVersions GLVersions DEvery GEvery DIsRange GIsRange DJoined GJoined DJudgeSame GJudgeSame DWithout GWithout kbJoined cdv A outer s0 H hgd hr
  obtain ⟨t3, q3, p3⟩ := st_lk3 (P := P) (w := w) (base := base) (TT := TT) Z DLDeck GLDeck DLDraw GLDraw DLIn GLIn DLMade GLMade DLPool GLPool DLStretches GLStretches DLVersions GLVersions DEvery GEvery DIsRange GIsRange DJoined GJoined DJudgeSame GJudgeSame DWithout GWithout kbJoined cdv A outer s0 H hgd hr
  obtain ⟨t4, q4, p4⟩ := st_lk4 (P := P) (w := w) (base := base) (TT := TT) Z DLDeck GLDeck DLDraw GLDraw DLIn GLIn DLMade GLMade DLPool GLPool DLStretches GLStretches DLVersions GLVersions DEvery GEvery DIsRange GIsRange DJoined GJoined DJudgeSame GJudgeSame DWithout GWithout kbJoined cdv A outer s0 H hgd hr
  obtain ⟨t5, q5, p5⟩ := st_lk5 (P := P) (w := w) (base := base) (TT := TT) Z DLDeck GLDeck DLDraw GLDraw DLIn GLIn DLMade GLMade DLPool GLPool DLStretches GLStretches DLVersions GLVersions DEvery GEvery DIsRange GIsRange DJoined GJoined DJudgeSame GJudgeSame DWithout GWithout kbJoined cdv A outer s0 H hgd hr
  obtain ⟨t6, q6, p6⟩ := st_lk6 (P := P) (w := w) (base := base) (TT := TT) Z DLDeck GLDeck DLDraw GLDraw DLIn GLIn DLMade GLMade DLPool GLPool DLStretches GLStretches DLVersions GLVersions DEvery GEvery DIsRange GIsRange DJoined GJoined DJudgeSame GJudgeSame DWithout GWithout kbJoined cdv A outer s0 H hgd hr
  obtain ⟨t7, q7, p7⟩ := st_lk7 (P := P) (w := w) (base := base) (TT := TT) Z DLDeck GLDeck DLDraw GLDraw DLIn GLIn DLMade GLMade DLPool GLPool DLStretches GLStretches DLVersions GLVersions DEvery GEvery DIsRange GIsRange DJoined GJoined DJudgeSame GJudgeSame DWithout GWithout kbJoined cdv A outer s0 H hgd hr
  obtain ⟨t8, q8, p8⟩ := st_lk8 (P := P) (w := w) (base := base) (TT := TT) Z DLDeck GLDeck DLDraw GLDraw DLIn GLIn DLMade GLMade DLPool GLPool DLStretches GLStretches DLVersions GLVersions DEvery GEvery DIsRange GIsRange DJoined GJoined DJudgeSame GJudgeSame DWithout GWithout kbJoined cdv A outer s0 H hgd hr
  obtain ⟨t9, q9, p9⟩ := st_lk9 (P := P) (w := w) (base := base) (TT := TT) Z DLDeck GLDeck DLDraw GLDraw DLIn GLIn DLMade GLMade DLPool GLPool DLStretches GLStretches DLVersions GLVersions DEvery GEvery DIsRange GIsRange DJoined GJoined DJudgeSame GJudgeSame DWithout GWithout kbJoined cdv A outer s0 H hgd hr
  obtain ⟨t10, q10, p10⟩ := st_lk10 (P := P) (w := w) (base := base) (TT := TT) Z DLDeck GLDeck DLDraw GLDraw DLIn GLIn DLMade GLMade DLPool GLPool DLStretches GLStretches DLVersions GLVersions DEvery GEvery DIsRange GIsRange DJoined GJoined DJudgeSame GJudgeSame DWithout GWithout kbJoined cdv A outer s0 H hgd hr
  refine ⟨_, (pss_cons (ps_set (i := 1) scLaw.nd rfl (Or.inr rfl) (pe_call GLDeck (hr.mono (by decide)) rfl DLDeck.g DLDeck.F.kp DLDeck.b .nil pass0 (pa_cons (pv 0) pa_nil)))
    (pss_cons (ps_set (i := 2) scLaw.nd rfl (Or.inl rfl) (pe_call GLVersions (hr.mono (by decide)) rfl DLVersions.g DLVersions.F.kp DLVersions.b .nil pass0 (pa_cons (pv 1) (pa_cons pe_int pa_nil))))
    (pss_cons q7
    (pss_cons (ps_set (i := 4) scLaw.nd rfl (Or.inl rfl) (pe_lst pa_nil))
    (pss_cons (ps_for PassesOwn.never rfl (pi_range1 (by rfl) Z.range (pa_cons pe_int pa_nil)) (pg_name (i := 5) scLaw.nd rfl (Or.inl rfl))
    (pss_cons q0
      (pss_cons q1
      (pss_cons q2
      (pss_cons q3
      (pss_cons q4
      (pss_cons q5
      (pss_one q6))))))))
    (pss_cons q8
    (pss_cons (ps_for PassesOwn.never rfl (pi_list (pv 4)) (pg_name (i := 16) scLaw.nd rfl (Or.inr rfl))
    (pss_one (ps_for PassesOwn.never rfl (pi_list (pv 4)) (pg_name (i := 17) scLaw.nd rfl (Or.inr rfl))
      (pss_cons q9
        (pss_one q10)))))
    (pss_one (ps_ret pe_bl))))))))), ?_⟩
  refine ⟨_, rfl, a, ns, rfl, ha, hl, fun H1 d l s1 hd hlN D1 => ?_⟩
  refine ⟨_, rfl, d, l, 7, rfl, D1, by decide, fun H2 p vs k2 D2 hp e2 len2 hv2 => ?_⟩
  have npl : p ≠ l := D1.free hp
  have T2 := tabs_kp (hT.ext s1) k2 D1
  refine p7 _ _ _ ⟨_, d, l, p, vs, rfl, D2, e2, len2, hv2, fun H3 b us xs s3 hb eb hu asc ver zero lx => ?_⟩
  have nbl : b ≠ l := D2.free hb
  have D3 := D2.mono s3
  refine ⟨Nat.zero_le _, fun so hso => ?_⟩
  have s4 : Same H3 (upd H3 so (.lst [])) := Same.new hso
  have e4 : upd H3 so (.lst []) so = some (.lst []) := upd_same
  have nsl : so ≠ l := D3.free hso
  have nps : p ≠ so := ne_of_none (s3 _ _ e2) hso
  have nbs : b ≠ so := ne_of_none eb hso
  generalize upd H3 so (.lst []) = H4 at s4 e4
  have s34 := s3.trans s4
  have W0 : LF K TT d l p b so vs us [] xs [] H4 := ⟨D2.mono s34, s34 _ _ e2, npl, len2, fun v z => (hv2 v z).same (TKp.of s34), s4 _ _ eb, nbl, ivs_tk (TKp.of s4) hu, asc, ver, zero, lx, e4, nsl, nps, nbs, .nil, T2.ext s34⟩
  refine ⟨3, rfl, by decide, by decide, for_range (lo := 0) (n := 3) (fun i σ H' => ∃ (wturn wfew wmarks wbd wdue wnow wleft wat wspan wmark wpool wone wother wsame wver : Option V) (ws : List V) (rs : List Rg), σ = [some (.ref a), some (.ref d), some (.ref p), some (.ref b), some (.ref so), wturn, wfew, wmarks, wbd, wdue, wnow, wleft, wat, wspan, wmark, wpool, wone, wother, wsame, wver] ∧ LF K TT d l p b so vs us ws xs rs H' ∧ ws.length = i) ⟨none, none, none, none, none, none, none, none, none, none, none, none, none, none, none, [], [], rfl, W0, rfl⟩ ?_ ?_⟩
  · rintro i σ G hi ⟨wturn, wfew, wmarks, wbd, wdue, wnow, wleft, wat, wspan, wmark, wpool, wone, wother, wsame, wver, ws, rs, rfl, W, lw⟩
    refine p0 _ _ _ ⟨_, d, l, p, b, so, vs, us, ws, xs, rs, _, _, _, _, _, _, _, _, _, _, _, _, _, _, _, rfl, W, fun G1 r k1 D1 => ?_⟩
    have W1 := W.kp k1 D1
    refine p1 _ _ _ ⟨_, d, l, p, b, so, vs, us, ws, xs, rs, _, _, _, _, _, _, _, _, _, _, _, _, _, _, _, rfl, W1, fun G2 m ms k2 D2 hm em lm => ?_⟩
    have W2 := W1.kp k2 D2
    have nm : m ≠ l := W1.dk.free hm
    obtain ⟨g, rfl⟩ := marks_fn (asc_nd asc) lm
    refine p2 _ _ _ ⟨_, d, l, p, b, so, vs, us, ws, xs, rs, _, _, _, _, _, _, _, _, _, _, _, _, _, _, m, g, rfl, W2, em, fun G3 y z t s3 gy gz gt => ?_⟩
    have W3 := W2.same s3
    refine p3 _ _ _ ⟨_, d, l, p, b, so, vs, us, ws, xs, rs, _, _, _, _, _, _, _, _, _, _, _, m, g, y, z, t, rfl, W3, s3 _ _ em, nm, gz, gt, fun G4 vn vl rn rl j1 j2 kn4 D4 T4 gn gl i1 i2 => ?_⟩
    have W4 := W3.kn kn4 D4 T4
    have tk4 := kn4.tk (K := K) W3.dk
    have em4 := kn4.lst W3.dk nm (s3 _ _ em)
    obtain rfl : rn = prs (turns g false xs) := rg_ext gn.ok (made_ok asc ver) fun x => by rw [i1, made_in asc]
    have gd4 := gy.tk tk4
    have gn4 : RR K G4 vn (prs (turns g false xs)) 10 := ⟨gn.sv, gn.ok, gy.len⟩
    refine p4 _ _ _ ⟨_, d, l, p, b, so, vs, us, ws, xs, rs, _, _, _, _, _, _, _, _, _, _, _, _, g, y, vn, vl, rl, rfl, W4, gd4, gn4, gl, i2, fun G5 e5 T5 => ?_⟩
    have W5 := W4.ext e5 T5
    refine p5 _ _ _ ⟨_, d, l, p, b, so, vs, us, ws, xs, rs, _, _, _, _, _, _, _, _, _, _, _, _, _, m, g, vl, rl, rfl, W5, e5 _ _ em4 (fun _ z => nomatch z), gl.ext e5, i2, fun G6 s6 => ?_⟩
    refine p6 _ _ _ ⟨_, d, l, p, b, so, vs, us, ws, xs, rs, _, _, _, _, _, _, _, _, _, _, _, _, _, _, vn, _, rfl, W5.same s6, (gn4.ext e5).same s6, by omega, fun G7 ws' rs' W7 lw' => ?_⟩
    exact ⟨_, _, _, _, _, _, _, _, _, _, _, _, _, _, _, ws', rs', rfl, W7, by omega⟩
  · rintro σ G ⟨wturn, wfew, wmarks, wbd, wdue, wnow, wleft, wat, wspan, wmark, wpool, wone, wother, wsame, wver, ws, rs, rfl, W, lw⟩
    refine p8 _ _ _ ⟨_, d, l, p, b, so, vs, us, ws, xs, rs, _, _, _, _, _, _, _, _, _, _, _, _, _, _, _, rfl, W, lw, fun H5 po zs k5 D5 epo npo hvz hfl hzl => ?_⟩
    have W5 := W.kp k5 D5
    refine ⟨_, rfl, so, rfl, ⟨_, SqL.of W5.hs⟩, for_list (K := K) (a := so) (xs := ws) (fun i σ H' => ∃ (kone kother ksame kver : Option V), σ = [some (.ref a), some (.ref d), some (.ref p), some (.ref b), some (.ref so), wturn, wfew, wmarks, wbd, wdue, wnow, wleft, wat, wspan, wmark, some (.ref po), kone, kother, ksame, kver] ∧ ExtN H5 H' ∧ Tabs TT H') ⟨_, _, _, _, rfl, ExtN.refl _, W5.tb⟩ (fun i σ H' _ ⟨_, _, _, _, _, e, _⟩ => SqL.of (e _ _ W5.hs (fun _ z => nomatch z))) ?_ ?_⟩
    · rintro i v1 σ G1 hi ⟨kone, kother, ksame, kver, rfl, e1, T1⟩
      obtain ⟨r1, hr1, g1⟩ := paired_get W5.hw hi
      refine ⟨_, rfl, so, rfl, ⟨_, SqL.of (e1 _ _ W5.hs (fun _ z => nomatch z))⟩, for_list (K := K) (a := so) (xs := ws) (fun j σ H' => ∃ (kother ksame kver : Option V), σ = [some (.ref a), some (.ref d), some (.ref p), some (.ref b), some (.ref so), wturn, wfew, wmarks, wbd, wdue, wnow, wleft, wat, wspan, wmark, some (.ref po), some v1, kother, ksame, kver] ∧ ExtN H5 H' ∧ Tabs TT H') ⟨_, _, _, rfl, e1, T1⟩ (fun i σ H' _ ⟨_, _, _, _, e, _⟩ => SqL.of (e _ _ W5.hs (fun _ z => nomatch z))) ?_ ?_⟩
      · rintro j v2 σ G2 hj ⟨kother, ksame, kver, rfl, e2, T2⟩
        obtain ⟨r2, hr2, g2⟩ := paired_get W5.hw hj
        have tk2 := TKp.ext (K := K) e2
        refine p9 _ _ _ ⟨_, d, l, p, b, so, vs, us, ws, xs, rs, _, _, _, _, _, _, _, _, _, _, _, _, po, zs, v1, v2, r1, r2, rfl, e2 _ _ epo (fun _ z => nomatch z), fun v z => (hvz v z).same tk2, hzl, g1.tk tk2, g2.tk tk2, fun x hx => ?_, fun G3 s3 => ?_⟩
        · obtain ⟨v, hv, hi'⟩ := hfl x (by
            rcases List.mem_append.mp hx with z | z
            · exact List.mem_flatMap.mpr ⟨r1, List.mem_of_getElem? hr1, z⟩
            · exact List.mem_flatMap.mpr ⟨r2, List.mem_of_getElem? hr2, z⟩)
          exact ⟨v, hv, hi'.same tk2⟩
        · refine p10 _ _ _ ⟨_, d, l, p, b, so, vs, us, ws, xs, rs, _, _, _, _, _, _, _, _, _, _, _, _, v1, v2, r1, r2, rfl, (g1.tk tk2).same s3, (g2.tk tk2).same s3, T2.ext s3, fun G4 e4 T4 => ?_⟩
          exact ⟨_, _, _, rfl, e2.trans ((ExtN.of s3).trans e4), T4⟩
      · rintro σ G2 ⟨kother, ksame, kver, rfl, e2, T2⟩
        exact ⟨_, _, _, _, rfl, e2, T2⟩
    · rintro σ G1 ⟨kone, kother, ksame, kver, rfl, e1, T1⟩
      exact k _
end


end Zj
namespace Zj
open PySem L2
theorem all_mk {l : PySem.W.OpenLaw} {w : World} {K : PySem.W.Frag} {h : Heap} {mg : Str → Option Value} {fa : Addr} (X : K.In h) (G : h.Ns mainGlobals mg) (hfa : mg "law" = some (.ref fa))
    {fLDeck : Addr} {odLDeck anLDeck : Option Addr} {slLDeck : Array (Option Value)} {ocLDeck kVLDeck dcLDeck pmLDeck cdLDeck ctLDeck : Value}
    (aLDeck : PySem.W.nsIn K mainGlobals "_law_deck" = some (some (.ref fLDeck))) (lLDeck : K.lookup fLDeck = some ⟨ocLDeck, odLDeck, .func (PySem.W.fnOf "_law_deck" "_law_deck" (defArgs sLDeck) (defBody sLDeck) (defScope sLDeck) .none kVLDeck dcLDeck pmLDeck anLDeck cdLDeck ctLDeck), slLDeck⟩) (cLDeck : PySem.W.codeIn K cdLDeck "_law_deck" = true) (kLDeck : PySem.W.keepIn K (.ref fLDeck) = true)
    {fLDraw : Addr} {odLDraw anLDraw : Option Addr} {slLDraw : Array (Option Value)} {ocLDraw kVLDraw dcLDraw pmLDraw cdLDraw ctLDraw : Value}
    (aLDraw : PySem.W.nsIn K mainGlobals "_law_draw" = some (some (.ref fLDraw))) (lLDraw : K.lookup fLDraw = some ⟨ocLDraw, odLDraw, .func (PySem.W.fnOf "_law_draw" "_law_draw" (defArgs sLDraw) (defBody sLDraw) (defScope sLDraw) .none kVLDraw dcLDraw pmLDraw anLDraw cdLDraw ctLDraw), slLDraw⟩) (cLDraw : PySem.W.codeIn K cdLDraw "_law_draw" = true) (kLDraw : PySem.W.keepIn K (.ref fLDraw) = true)
    {fLIn : Addr} {odLIn anLIn : Option Addr} {slLIn : Array (Option Value)} {ocLIn kVLIn dcLIn pmLIn cdLIn ctLIn : Value}
    (aLIn : PySem.W.nsIn K mainGlobals "_law_in" = some (some (.ref fLIn))) (lLIn : K.lookup fLIn = some ⟨ocLIn, odLIn, .func (PySem.W.fnOf "_law_in" "_law_in" (defArgs sLIn) (defBody sLIn) (defScope sLIn) .none kVLIn dcLIn pmLIn anLIn cdLIn ctLIn), slLIn⟩) (cLIn : PySem.W.codeIn K cdLIn "_law_in" = true) (kLIn : PySem.W.keepIn K (.ref fLIn) = true)
    {fLMade : Addr} {odLMade anLMade : Option Addr} {slLMade : Array (Option Value)} {ocLMade kVLMade dcLMade pmLMade cdLMade ctLMade : Value}
    (aLMade : PySem.W.nsIn K mainGlobals "_law_made" = some (some (.ref fLMade))) (lLMade : K.lookup fLMade = some ⟨ocLMade, odLMade, .func (PySem.W.fnOf "_law_made" "_law_made" (defArgs sLMade) (defBody sLMade) (defScope sLMade) .none kVLMade dcLMade pmLMade anLMade cdLMade ctLMade), slLMade⟩) (cLMade : PySem.W.codeIn K cdLMade "_law_made" = true) (kLMade : PySem.W.keepIn K (.ref fLMade) = true)
    {fLBorders : Addr} {odLBorders anLBorders : Option Addr} {slLBorders : Array (Option Value)} {ocLBorders kVLBorders dcLBorders pmLBorders cdLBorders ctLBorders : Value}
    (aLBorders : PySem.W.nsIn K mainGlobals "_law_borders" = some (some (.ref fLBorders))) (lLBorders : K.lookup fLBorders = some ⟨ocLBorders, odLBorders, .func (PySem.W.fnOf "_law_borders" "_law_borders" (defArgs sLBorders) (defBody sLBorders) (defScope sLBorders) .none kVLBorders dcLBorders pmLBorders anLBorders cdLBorders ctLBorders), slLBorders⟩) (cLBorders : PySem.W.codeIn K cdLBorders "_law_borders" = true) (kLBorders : PySem.W.keepIn K (.ref fLBorders) = true)
    {fLNext : Addr} {odLNext anLNext : Option Addr} {slLNext : Array (Option Value)} {ocLNext kVLNext dcLNext pmLNext cdLNext ctLNext : Value}
    (aLNext : PySem.W.nsIn K mainGlobals "_law_next" = some (some (.ref fLNext))) (lLNext : K.lookup fLNext = some ⟨ocLNext, odLNext, .func (PySem.W.fnOf "_law_next" "_law_next" (defArgs sLNext) (defBody sLNext) (defScope sLNext) .none kVLNext dcLNext pmLNext anLNext cdLNext ctLNext), slLNext⟩) (cLNext : PySem.W.codeIn K cdLNext "_law_next" = true) (kLNext : PySem.W.keepIn K (.ref fLNext) = true)
    {fLPick : Addr} {odLPick anLPick : Option Addr} {slLPick : Array (Option Value)} {ocLPick kVLPick dcLPick pmLPick cdLPick ctLPick : Value}
    (aLPick : PySem.W.nsIn K mainGlobals "_law_pick" = some (some (.ref fLPick))) (lLPick : K.lookup fLPick = some ⟨ocLPick, odLPick, .func (PySem.W.fnOf "_law_pick" "_law_pick" (defArgs sLPick) (defBody sLPick) (defScope sLPick) .none kVLPick dcLPick pmLPick anLPick cdLPick ctLPick), slLPick⟩) (cLPick : PySem.W.codeIn K cdLPick "_law_pick" = true) (kLPick : PySem.W.keepIn K (.ref fLPick) = true)
    {fLNumber : Addr} {odLNumber anLNumber : Option Addr} {slLNumber : Array (Option Value)} {ocLNumber kVLNumber dcLNumber pmLNumber cdLNumber ctLNumber : Value}
    (aLNumber : PySem.W.nsIn K mainGlobals "_law_number" = some (some (.ref fLNumber))) (lLNumber : K.lookup fLNumber = some ⟨ocLNumber, odLNumber, .func (PySem.W.fnOf "_law_number" "_law_number" (defArgs sLNumber) (defBody sLNumber) (defScope sLNumber) .none kVLNumber dcLNumber pmLNumber anLNumber cdLNumber ctLNumber), slLNumber⟩) (cLNumber : PySem.W.codeIn K cdLNumber "_law_number" = true) (kLNumber : PySem.W.keepIn K (.ref fLNumber) = true)
    {fLVersion : Addr} {odLVersion anLVersion : Option Addr} {slLVersion : Array (Option Value)} {ocLVersion kVLVersion dcLVersion pmLVersion cdLVersion ctLVersion : Value}
    (aLVersion : PySem.W.nsIn K mainGlobals "_law_version" = some (some (.ref fLVersion))) (lLVersion : K.lookup fLVersion = some ⟨ocLVersion, odLVersion, .func (PySem.W.fnOf "_law_version" "_law_version" (defArgs sLVersion) (defBody sLVersion) (defScope sLVersion) .none kVLVersion dcLVersion pmLVersion anLVersion cdLVersion ctLVersion), slLVersion⟩) (cLVersion : PySem.W.codeIn K cdLVersion "_law_version" = true) (kLVersion : PySem.W.keepIn K (.ref fLVersion) = true)
    {fLPool : Addr} {odLPool anLPool : Option Addr} {slLPool : Array (Option Value)} {ocLPool kVLPool dcLPool pmLPool cdLPool ctLPool : Value}
    (aLPool : PySem.W.nsIn K mainGlobals "_law_pool" = some (some (.ref fLPool))) (lLPool : K.lookup fLPool = some ⟨ocLPool, odLPool, .func (PySem.W.fnOf "_law_pool" "_law_pool" (defArgs sLPool) (defBody sLPool) (defScope sLPool) .none kVLPool dcLPool pmLPool anLPool cdLPool ctLPool), slLPool⟩) (cLPool : PySem.W.codeIn K cdLPool "_law_pool" = true) (kLPool : PySem.W.keepIn K (.ref fLPool) = true)
    {fLMixed : Addr} {odLMixed anLMixed : Option Addr} {slLMixed : Array (Option Value)} {ocLMixed kVLMixed dcLMixed pmLMixed cdLMixed ctLMixed : Value}
    (aLMixed : PySem.W.nsIn K mainGlobals "_law_mixed" = some (some (.ref fLMixed))) (lLMixed : K.lookup fLMixed = some ⟨ocLMixed, odLMixed, .func (PySem.W.fnOf "_law_mixed" "_law_mixed" (defArgs sLMixed) (defBody sLMixed) (defScope sLMixed) .none kVLMixed dcLMixed pmLMixed anLMixed cdLMixed ctLMixed), slLMixed⟩) (cLMixed : PySem.W.codeIn K cdLMixed "_law_mixed" = true) (kLMixed : PySem.W.keepIn K (.ref fLMixed) = true)
    {fLStretches : Addr} {odLStretches anLStretches : Option Addr} {slLStretches : Array (Option Value)} {ocLStretches kVLStretches dcLStretches pmLStretches cdLStretches ctLStretches : Value}
    (aLStretches : PySem.W.nsIn K mainGlobals "_law_stretches" = some (some (.ref fLStretches))) (lLStretches : K.lookup fLStretches = some ⟨ocLStretches, odLStretches, .func (PySem.W.fnOf "_law_stretches" "_law_stretches" (defArgs sLStretches) (defBody sLStretches) (defScope sLStretches) .none kVLStretches dcLStretches pmLStretches anLStretches cdLStretches ctLStretches), slLStretches⟩) (cLStretches : PySem.W.codeIn K cdLStretches "_law_stretches" = true) (kLStretches : PySem.W.keepIn K (.ref fLStretches) = true)
    {fLVersions : Addr} {odLVersions anLVersions : Option Addr} {slLVersions : Array (Option Value)} {ocLVersions kVLVersions dcLVersions pmLVersions cdLVersions ctLVersions : Value}
    (aLVersions : PySem.W.nsIn K mainGlobals "_law_versions" = some (some (.ref fLVersions))) (lLVersions : K.lookup fLVersions = some ⟨ocLVersions, odLVersions, .func (PySem.W.fnOf "_law_versions" "_law_versions" (defArgs sLVersions) (defBody sLVersions) (defScope sLVersions) .none kVLVersions dcLVersions pmLVersions anLVersions cdLVersions ctLVersions), slLVersions⟩) (cLVersions : PySem.W.codeIn K cdLVersions "_law_versions" = true) (kLVersions : PySem.W.keepIn K (.ref fLVersions) = true)
    {fEvery : Addr} {odEvery anEvery : Option Addr} {slEvery : Array (Option Value)} {ocEvery kVEvery dcEvery pmEvery cdEvery ctEvery : Value}
    (aEvery : PySem.W.nsIn K mainGlobals "every" = some (some (.ref fEvery))) (lEvery : K.lookup fEvery = some ⟨ocEvery, odEvery, .func (PySem.W.fnOf "every" "every" (defArgs sEvery) (defBody sEvery) (defScope sEvery) .none kVEvery dcEvery pmEvery anEvery cdEvery ctEvery), slEvery⟩) (cEvery : PySem.W.codeIn K cdEvery "every" = true) (kEvery : PySem.W.keepIn K (.ref fEvery) = true)
    {fBorders : Addr} {odBorders anBorders : Option Addr} {slBorders : Array (Option Value)} {ocBorders kVBorders dcBorders pmBorders cdBorders ctBorders : Value}
    (aBorders : PySem.W.nsIn K mainGlobals "borders" = some (some (.ref fBorders))) (lBorders : K.lookup fBorders = some ⟨ocBorders, odBorders, .func (PySem.W.fnOf "borders" "borders" (defArgs sBorders) (defBody sBorders) (defScope sBorders) .none kVBorders dcBorders pmBorders anBorders cdBorders ctBorders), slBorders⟩) (cBorders : PySem.W.codeIn K cdBorders "borders" = true) (kBorders : PySem.W.keepIn K (.ref fBorders) = true)
    {fIsAscending : Addr} {odIsAscending anIsAscending : Option Addr} {slIsAscending : Array (Option Value)} {ocIsAscending kVIsAscending dcIsAscending pmIsAscending cdIsAscending ctIsAscending : Value}
    (aIsAscending : PySem.W.nsIn K mainGlobals "is_ascending" = some (some (.ref fIsAscending))) (lIsAscending : K.lookup fIsAscending = some ⟨ocIsAscending, odIsAscending, .func (PySem.W.fnOf "is_ascending" "is_ascending" (defArgs sIsAscending) (defBody sIsAscending) (defScope sIsAscending) .none kVIsAscending dcIsAscending pmIsAscending anIsAscending cdIsAscending ctIsAscending), slIsAscending⟩) (cIsAscending : PySem.W.codeIn K cdIsAscending "is_ascending" = true) (kIsAscending : PySem.W.keepIn K (.ref fIsAscending) = true)
    {fIsInteger : Addr} {odIsInteger anIsInteger : Option Addr} {slIsInteger : Array (Option Value)} {ocIsInteger kVIsInteger dcIsInteger pmIsInteger cdIsInteger ctIsInteger : Value}
    (aIsInteger : PySem.W.nsIn K mainGlobals "is_integer" = some (some (.ref fIsInteger))) (lIsInteger : K.lookup fIsInteger = some ⟨ocIsInteger, odIsInteger, .func (PySem.W.fnOf "is_integer" "is_integer" (defArgs sIsInteger) (defBody sIsInteger) (defScope sIsInteger) .none kVIsInteger dcIsInteger pmIsInteger anIsInteger cdIsInteger ctIsInteger), slIsInteger⟩) (cIsInteger : PySem.W.codeIn K cdIsInteger "is_integer" = true) (kIsInteger : PySem.W.keepIn K (.ref fIsInteger) = true)
    {fIsVersion : Addr} {odIsVersion anIsVersion : Option Addr} {slIsVersion : Array (Option Value)} {ocIsVersion kVIsVersion dcIsVersion pmIsVersion cdIsVersion ctIsVersion : Value}
    (aIsVersion : PySem.W.nsIn K mainGlobals "is_version" = some (some (.ref fIsVersion))) (lIsVersion : K.lookup fIsVersion = some ⟨ocIsVersion, odIsVersion, .func (PySem.W.fnOf "is_version" "is_version" (defArgs sIsVersion) (defBody sIsVersion) (defScope sIsVersion) .none kVIsVersion dcIsVersion pmIsVersion anIsVersion cdIsVersion ctIsVersion), slIsVersion⟩) (cIsVersion : PySem.W.codeIn K cdIsVersion "is_version" = true) (kIsVersion : PySem.W.keepIn K (.ref fIsVersion) = true)
    {fIsPair : Addr} {odIsPair anIsPair : Option Addr} {slIsPair : Array (Option Value)} {ocIsPair kVIsPair dcIsPair pmIsPair cdIsPair ctIsPair : Value}
    (aIsPair : PySem.W.nsIn K mainGlobals "is_pair" = some (some (.ref fIsPair))) (lIsPair : K.lookup fIsPair = some ⟨ocIsPair, odIsPair, .func (PySem.W.fnOf "is_pair" "is_pair" (defArgs sIsPair) (defBody sIsPair) (defScope sIsPair) .none kVIsPair dcIsPair pmIsPair anIsPair cdIsPair ctIsPair), slIsPair⟩) (cIsPair : PySem.W.codeIn K cdIsPair "is_pair" = true) (kIsPair : PySem.W.keepIn K (.ref fIsPair) = true)
    {fIsRange : Addr} {odIsRange anIsRange : Option Addr} {slIsRange : Array (Option Value)} {ocIsRange kVIsRange dcIsRange pmIsRange cdIsRange ctIsRange : Value}
    (aIsRange : PySem.W.nsIn K mainGlobals "is_range" = some (some (.ref fIsRange))) (lIsRange : K.lookup fIsRange = some ⟨ocIsRange, odIsRange, .func (PySem.W.fnOf "is_range" "is_range" (defArgs sIsRange) (defBody sIsRange) (defScope sIsRange) .none kVIsRange dcIsRange pmIsRange anIsRange cdIsRange ctIsRange), slIsRange⟩) (cIsRange : PySem.W.codeIn K cdIsRange "is_range" = true) (kIsRange : PySem.W.keepIn K (.ref fIsRange) = true)
    {fCheckRange : Addr} {odCheckRange anCheckRange : Option Addr} {slCheckRange : Array (Option Value)} {ocCheckRange kVCheckRange dcCheckRange pmCheckRange cdCheckRange ctCheckRange : Value}
    (aCheckRange : PySem.W.nsIn K mainGlobals "check_range" = some (some (.ref fCheckRange))) (lCheckRange : K.lookup fCheckRange = some ⟨ocCheckRange, odCheckRange, .func (PySem.W.fnOf "check_range" "check_range" (defArgs sCheckRange) (defBody sCheckRange) (defScope sCheckRange) .none kVCheckRange dcCheckRange pmCheckRange anCheckRange cdCheckRange ctCheckRange), slCheckRange⟩) (cCheckRange : PySem.W.codeIn K cdCheckRange "check_range" = true) (kCheckRange : PySem.W.keepIn K (.ref fCheckRange) = true)
    {fIsIn : Addr} {odIsIn anIsIn : Option Addr} {slIsIn : Array (Option Value)} {ocIsIn kVIsIn dcIsIn pmIsIn cdIsIn ctIsIn : Value}
    (aIsIn : PySem.W.nsIn K mainGlobals "is_in" = some (some (.ref fIsIn))) (lIsIn : K.lookup fIsIn = some ⟨ocIsIn, odIsIn, .func (PySem.W.fnOf "is_in" "is_in" (defArgs sIsIn) (defBody sIsIn) (defScope sIsIn) .none kVIsIn dcIsIn pmIsIn anIsIn cdIsIn ctIsIn), slIsIn⟩) (cIsIn : PySem.W.codeIn K cdIsIn "is_in" = true) (kIsIn : PySem.W.keepIn K (.ref fIsIn) = true)
    {fRangeBetween : Addr} {odRangeBetween anRangeBetween : Option Addr} {slRangeBetween : Array (Option Value)} {ocRangeBetween kVRangeBetween dcRangeBetween pmRangeBetween cdRangeBetween ctRangeBetween : Value}
    (aRangeBetween : PySem.W.nsIn K mainGlobals "range_between" = some (some (.ref fRangeBetween))) (lRangeBetween : K.lookup fRangeBetween = some ⟨ocRangeBetween, odRangeBetween, .func (PySem.W.fnOf "range_between" "range_between" (defArgs sRangeBetween) (defBody sRangeBetween) (defScope sRangeBetween) .none kVRangeBetween dcRangeBetween pmRangeBetween anRangeBetween cdRangeBetween ctRangeBetween), slRangeBetween⟩) (cRangeBetween : PySem.W.codeIn K cdRangeBetween "range_between" = true) (kRangeBetween : PySem.W.keepIn K (.ref fRangeBetween) = true)
    {fCombined : Addr} {odCombined anCombined : Option Addr} {slCombined : Array (Option Value)} {ocCombined kVCombined dcCombined pmCombined cdCombined ctCombined : Value}
    (aCombined : PySem.W.nsIn K mainGlobals "combined" = some (some (.ref fCombined))) (lCombined : K.lookup fCombined = some ⟨ocCombined, odCombined, .func (PySem.W.fnOf "combined" "combined" (defArgs sCombined) (defBody sCombined) (defScope sCombined) .none kVCombined dcCombined pmCombined anCombined cdCombined ctCombined), slCombined⟩) (cCombined : PySem.W.codeIn K cdCombined "combined" = true) (kCombined : PySem.W.keepIn K (.ref fCombined) = true)
    {qJoined tJoined : Addr}
    {fJoined : Addr} {odJoined anJoined : Option Addr} {slJoined : Array (Option Value)} {ocJoined kVJoined dcJoined pmJoined ctJoined : Value}
    (aJoined : PySem.W.nsIn K mainGlobals "joined" = some (some (.ref fJoined))) (lJoined : K.lookup fJoined = some ⟨ocJoined, odJoined, .func (PySem.W.fnOf "joined" "joined" (defArgs sJoined) (defBody sJoined) (defScope sJoined) .none kVJoined dcJoined pmJoined anJoined (.ref qJoined) ctJoined), slJoined⟩) (cJoined : PySem.W.codeIn K (.ref qJoined) "joined" = true) (kJoined : PySem.W.keepIn K (.ref fJoined) = true)
    {fLeastIn : Addr} {odLeastIn anLeastIn : Option Addr} {slLeastIn : Array (Option Value)} {ocLeastIn kVLeastIn dcLeastIn pmLeastIn cdLeastIn ctLeastIn : Value}
    (aLeastIn : PySem.W.nsIn K mainGlobals "least_in" = some (some (.ref fLeastIn))) (lLeastIn : K.lookup fLeastIn = some ⟨ocLeastIn, odLeastIn, .func (PySem.W.fnOf "least_in" "least_in" (defArgs sLeastIn) (defBody sLeastIn) (defScope sLeastIn) .none kVLeastIn dcLeastIn pmLeastIn anLeastIn cdLeastIn ctLeastIn), slLeastIn⟩) (cLeastIn : PySem.W.codeIn K cdLeastIn "least_in" = true) (kLeastIn : PySem.W.keepIn K (.ref fLeastIn) = true)
    {fCertificateOf : Addr} {odCertificateOf anCertificateOf : Option Addr} {slCertificateOf : Array (Option Value)} {ocCertificateOf kVCertificateOf dcCertificateOf pmCertificateOf cdCertificateOf ctCertificateOf : Value}
    (aCertificateOf : PySem.W.nsIn K mainGlobals "certificate_of" = some (some (.ref fCertificateOf))) (lCertificateOf : K.lookup fCertificateOf = some ⟨ocCertificateOf, odCertificateOf, .func (PySem.W.fnOf "certificate_of" "certificate_of" (defArgs sCertificateOf) (defBody sCertificateOf) (defScope sCertificateOf) .none kVCertificateOf dcCertificateOf pmCertificateOf anCertificateOf cdCertificateOf ctCertificateOf), slCertificateOf⟩) (cCertificateOf : PySem.W.codeIn K cdCertificateOf "certificate_of" = true) (kCertificateOf : PySem.W.keepIn K (.ref fCertificateOf) = true)
    {qJudgeSame tJudgeSame : Addr}
    {fJudgeSame : Addr} {odJudgeSame anJudgeSame : Option Addr} {slJudgeSame : Array (Option Value)} {ocJudgeSame kVJudgeSame dcJudgeSame pmJudgeSame ctJudgeSame : Value}
    (aJudgeSame : PySem.W.nsIn K mainGlobals "judge_same" = some (some (.ref fJudgeSame))) (lJudgeSame : K.lookup fJudgeSame = some ⟨ocJudgeSame, odJudgeSame, .func (PySem.W.fnOf "judge_same" "judge_same" (defArgs sJudgeSame) (defBody sJudgeSame) (defScope sJudgeSame) .none kVJudgeSame dcJudgeSame pmJudgeSame anJudgeSame (.ref qJudgeSame) ctJudgeSame), slJudgeSame⟩) (cJudgeSame : PySem.W.codeIn K (.ref qJudgeSame) "judge_same" = true) (kJudgeSame : PySem.W.keepIn K (.ref fJudgeSame) = true)
    {qWithout tWithout : Addr}
    {fWithout : Addr} {odWithout anWithout : Option Addr} {slWithout : Array (Option Value)} {ocWithout kVWithout dcWithout pmWithout ctWithout : Value}
    (aWithout : PySem.W.nsIn K mainGlobals "without" = some (some (.ref fWithout))) (lWithout : K.lookup fWithout = some ⟨ocWithout, odWithout, .func (PySem.W.fnOf "without" "without" (defArgs sWithout) (defBody sWithout) (defScope sWithout) .none kVWithout dcWithout pmWithout anWithout (.ref qWithout) ctWithout), slWithout⟩) (cWithout : PySem.W.codeIn K (.ref qWithout) "without" = true) (kWithout : PySem.W.keepIn K (.ref fWithout) = true)
    {fLaw : Addr} {odLaw anLaw : Option Addr} {slLaw : Array (Option Value)} {ocLaw kVLaw dcLaw pmLaw cdLaw ctLaw : Value}
    (aLaw : PySem.W.nsIn K mainGlobals "law" = some (some (.ref fLaw))) (lLaw : K.lookup fLaw = some ⟨ocLaw, odLaw, .func (PySem.W.fnOf "law" "law" (defArgs sLaw) (defBody sLaw) (defScope sLaw) .none kVLaw dcLaw pmLaw anLaw cdLaw ctLaw), slLaw⟩) (cLaw : PySem.W.codeIn K cdLaw "law" = true) (kLaw : PySem.W.keepIn K (.ref fLaw) = true)
    (zisinstance : PySem.W.nsIn K mainGlobals "isinstance" = some none)
    (ztuple : PySem.W.nsIn K mainGlobals "tuple" = some none)
    (zbool : PySem.W.nsIn K mainGlobals "bool" = some none)
    (zall : PySem.W.nsIn K mainGlobals "all" = some none)
    (zany : PySem.W.nsIn K mainGlobals "any" = some none)
    (zlist : PySem.W.nsIn K mainGlobals "list" = some none)
    (zrepr : PySem.W.nsIn K mainGlobals "repr" = some none)
    (zenumerate : PySem.W.nsIn K mainGlobals "enumerate" = some none)
    (zint : PySem.W.nsIn K mainGlobals "int" = some none)
    (zmax : PySem.W.nsIn K mainGlobals "max" = some none)
    (zlen : PySem.W.nsIn K mainGlobals "len" = some none)
    (zrange : PySem.W.nsIn K mainGlobals "range" = some none)
    (zset : PySem.W.nsIn K mainGlobals "set" = some none)
    (zsorted : PySem.W.nsIn K mainGlobals "sorted" = some none)
    (zzip : PySem.W.nsIn K mainGlobals "zip" = some none)
    {tWHOLE : Tok} (zWHOLE : PySem.W.nsIn K mainGlobals "WHOLE" = some (some (.int 3 tWHOLE)))
    {fFIRST : Addr} {odFIRST : Option Addr} {ocFIRST : Value} {slFIRST : Array (Option Value)} {epFIRST : Nat} {u0 u1 u2 u3 u4 : Tok} (zFIRST : PySem.W.nsIn K mainGlobals "FIRST" = some (some (.ref fFIRST))) (yFIRST : K.lookup fFIRST = some ⟨ocFIRST, odFIRST, .seq #[.int 0 u0, .int 0 u1, .int 0 u2, .int 0 u3, .int 0 u4] epFIRST, slFIRST⟩) (oFIRST : ocFIRST = .type "tuple")
    {TT : List (Addr × Str)} (mJoined : (tJoined, ("joined" ++ (".<locals>." : Str)) ++ ("<lambda>" : Str)) ∈ TT) (uJoined : ∀ p ∈ TT, p.1 = tJoined → p.2 = ("joined" ++ (".<locals>." : Str)) ++ ("<lambda>" : Str)) (mWithout : (tWithout, ("without" ++ (".<locals>." : Str)) ++ ("<lambda>" : Str)) ∈ TT) (uWithout : ∀ p ∈ TT, p.1 = tWithout → p.2 = ("without" ++ (".<locals>." : Str)) ++ ("<lambda>" : Str)) (mJudgeSame : (tJudgeSame, ("judge_same" ++ (".<locals>." : Str)) ++ ("<lambda>" : Str)) ∈ TT) (uJudgeSame : ∀ p ∈ TT, p.1 = tJudgeSame → p.2 = ("judge_same" ++ (".<locals>." : Str)) ++ ("<lambda>" : Str)) :
    ∃ fd : FuncData, (∀ (s : Shared) (v : Value), BindsTo s fd ⟨[v], []⟩ [("_law_script", v)]) ∧ ∀ base : Heap, K.In base → base.Ns mainGlobals mg → LamX.TabB base mg qJoined tJoined → LamX.TabB base mg qWithout tWithout → LamX.TabB base mg qJudgeSame tJudgeSame → FnG l.prog w K mg base 9 fa fd ["_law_script"] (spLaw K TT) := by
  have e := hfa.symm.trans (PySem.W.mg_of X G aLaw)
  cases e
  have Z : Blt K mg := { isinstance := PySem.W.mg_none_of X G zisinstance, tuple := PySem.W.mg_none_of X G ztuple, bool := PySem.W.mg_none_of X G zbool, all := PySem.W.mg_none_of X G zall, any := PySem.W.mg_none_of X G zany, list := PySem.W.mg_none_of X G zlist, repr := PySem.W.mg_none_of X G zrepr, enumerate := PySem.W.mg_none_of X G zenumerate, int := PySem.W.mg_none_of X G zint, max := PySem.W.mg_none_of X G zmax, len := PySem.W.mg_none_of X G zlen, range := PySem.W.mg_none_of X G zrange, set := PySem.W.mg_none_of X G zset, sorted := PySem.W.mg_none_of X G zsorted, zip := PySem.W.mg_none_of X G zzip, g_WHOLE := ⟨_, PySem.W.mg_of X G zWHOLE⟩, g_FIRST := ⟨_, PySem.W.mg_of X G zFIRST, fun H => .inr ⟨_, _, _, yFIRST, oFIRST, rfl, (by show 5 ≤ sizeLine; decide), .cons ⟨_, rfl⟩ (.cons ⟨_, rfl⟩ (.cons ⟨_, rfl⟩ (.cons ⟨_, rfl⟩ (.cons ⟨_, rfl⟩ .nil))))⟩⟩ }
  have FLDeck := fun_mk (st := sLDeck) lLDeck cLDeck kLDeck
  have DLDeck : DefAt K mg "_law_deck" sLDeck pLDeck fLDeck _ := ⟨FLDeck, PySem.W.mg_of X G aLDeck, FLDeck.binds (ps := pLDeck) fun _ _ _ _ _ _ us hl => match us, hl with | [_], _ => rfl⟩
  have FLDraw := fun_mk (st := sLDraw) lLDraw cLDraw kLDraw
  have DLDraw : DefAt K mg "_law_draw" sLDraw pLDraw fLDraw _ := ⟨FLDraw, PySem.W.mg_of X G aLDraw, FLDraw.binds (ps := pLDraw) fun _ _ _ _ _ _ us hl => match us, hl with | [_, _], _ => rfl⟩
  have FLIn := fun_mk (st := sLIn) lLIn cLIn kLIn
  have DLIn : DefAt K mg "_law_in" sLIn pLIn fLIn _ := ⟨FLIn, PySem.W.mg_of X G aLIn, FLIn.binds (ps := pLIn) fun _ _ _ _ _ _ us hl => match us, hl with | [_, _], _ => rfl⟩
  have FLMade := fun_mk (st := sLMade) lLMade cLMade kLMade
  have DLMade : DefAt K mg "_law_made" sLMade pLMade fLMade _ := ⟨FLMade, PySem.W.mg_of X G aLMade, FLMade.binds (ps := pLMade) fun _ _ _ _ _ _ us hl => match us, hl with | [_, _], _ => rfl⟩
  have FLBorders := fun_mk (st := sLBorders) lLBorders cLBorders kLBorders
  have DLBorders : DefAt K mg "_law_borders" sLBorders pLBorders fLBorders _ := ⟨FLBorders, PySem.W.mg_of X G aLBorders, FLBorders.binds (ps := pLBorders) fun _ _ _ _ _ _ us hl => match us, hl with | [_], _ => rfl⟩
  have FLNext := fun_mk (st := sLNext) lLNext cLNext kLNext
  have DLNext : DefAt K mg "_law_next" sLNext pLNext fLNext _ := ⟨FLNext, PySem.W.mg_of X G aLNext, FLNext.binds (ps := pLNext) fun _ _ _ _ _ _ us hl => match us, hl with | [_], _ => rfl⟩
  have FLPick := fun_mk (st := sLPick) lLPick cLPick kLPick
  have DLPick : DefAt K mg "_law_pick" sLPick pLPick fLPick _ := ⟨FLPick, PySem.W.mg_of X G aLPick, FLPick.binds (ps := pLPick) fun _ _ _ _ _ _ us hl => match us, hl with | [_, _], _ => rfl⟩
  have FLNumber := fun_mk (st := sLNumber) lLNumber cLNumber kLNumber
  have DLNumber : DefAt K mg "_law_number" sLNumber pLNumber fLNumber _ := ⟨FLNumber, PySem.W.mg_of X G aLNumber, FLNumber.binds (ps := pLNumber) fun _ _ _ _ _ _ us hl => match us, hl with | [_], _ => rfl⟩
  have FLVersion := fun_mk (st := sLVersion) lLVersion cLVersion kLVersion
  have DLVersion : DefAt K mg "_law_version" sLVersion pLVersion fLVersion _ := ⟨FLVersion, PySem.W.mg_of X G aLVersion, FLVersion.binds (ps := pLVersion) fun _ _ _ _ _ _ us hl => match us, hl with | [_, _], _ => rfl⟩
  have FLPool := fun_mk (st := sLPool) lLPool cLPool kLPool
  have DLPool : DefAt K mg "_law_pool" sLPool pLPool fLPool _ := ⟨FLPool, PySem.W.mg_of X G aLPool, FLPool.binds (ps := pLPool) fun _ _ _ _ _ _ us hl => match us, hl with | [_, _, _], _ => rfl⟩
  have FLMixed := fun_mk (st := sLMixed) lLMixed cLMixed kLMixed
  have DLMixed : DefAt K mg "_law_mixed" sLMixed pLMixed fLMixed _ := ⟨FLMixed, PySem.W.mg_of X G aLMixed, FLMixed.binds (ps := pLMixed) fun _ _ _ _ _ _ us hl => match us, hl with | [_, _], _ => rfl⟩
  have FLStretches := fun_mk (st := sLStretches) lLStretches cLStretches kLStretches
  have DLStretches : DefAt K mg "_law_stretches" sLStretches pLStretches fLStretches _ := ⟨FLStretches, PySem.W.mg_of X G aLStretches, FLStretches.binds (ps := pLStretches) fun _ _ _ _ _ _ us hl => match us, hl with | [_, _, _], _ => rfl⟩
  have FLVersions := fun_mk (st := sLVersions) lLVersions cLVersions kLVersions
  have DLVersions : DefAt K mg "_law_versions" sLVersions pLVersions fLVersions _ := ⟨FLVersions, PySem.W.mg_of X G aLVersions, FLVersions.binds (ps := pLVersions) fun _ _ _ _ _ _ us hl => match us, hl with | [_, _], _ => rfl⟩
  have FEvery := fun_mk (st := sEvery) lEvery cEvery kEvery
  have DEvery : DefAt K mg "every" sEvery pEvery fEvery _ := ⟨FEvery, PySem.W.mg_of X G aEvery, FEvery.binds (ps := pEvery) fun _ _ _ _ _ _ us hl => match us, hl with | [], _ => rfl⟩
  have FBorders := fun_mk (st := sBorders) lBorders cBorders kBorders
  have DBorders : DefAt K mg "borders" sBorders pBorders fBorders _ := ⟨FBorders, PySem.W.mg_of X G aBorders, FBorders.binds (ps := pBorders) fun _ _ _ _ _ _ us hl => match us, hl with | [_], _ => rfl⟩
  have FIsAscending := fun_mk (st := sIsAscending) lIsAscending cIsAscending kIsAscending
  have DIsAscending : DefAt K mg "is_ascending" sIsAscending pIsAscending fIsAscending _ := ⟨FIsAscending, PySem.W.mg_of X G aIsAscending, FIsAscending.binds (ps := pIsAscending) fun _ _ _ _ _ _ us hl => match us, hl with | [_], _ => rfl⟩
  have FIsInteger := fun_mk (st := sIsInteger) lIsInteger cIsInteger kIsInteger
  have DIsInteger : DefAt K mg "is_integer" sIsInteger pIsInteger fIsInteger _ := ⟨FIsInteger, PySem.W.mg_of X G aIsInteger, FIsInteger.binds (ps := pIsInteger) fun _ _ _ _ _ _ us hl => match us, hl with | [_], _ => rfl⟩
  have FIsVersion := fun_mk (st := sIsVersion) lIsVersion cIsVersion kIsVersion
  have DIsVersion : DefAt K mg "is_version" sIsVersion pIsVersion fIsVersion _ := ⟨FIsVersion, PySem.W.mg_of X G aIsVersion, FIsVersion.binds (ps := pIsVersion) fun _ _ _ _ _ _ us hl => match us, hl with | [_], _ => rfl⟩
  have FIsPair := fun_mk (st := sIsPair) lIsPair cIsPair kIsPair
  have DIsPair : DefAt K mg "is_pair" sIsPair pIsPair fIsPair _ := ⟨FIsPair, PySem.W.mg_of X G aIsPair, FIsPair.binds (ps := pIsPair) fun _ _ _ _ _ _ us hl => match us, hl with | [_], _ => rfl⟩
  have FIsRange := fun_mk (st := sIsRange) lIsRange cIsRange kIsRange
  have DIsRange : DefAt K mg "is_range" sIsRange pIsRange fIsRange _ := ⟨FIsRange, PySem.W.mg_of X G aIsRange, FIsRange.binds (ps := pIsRange) fun _ _ _ _ _ _ us hl => match us, hl with | [_], _ => rfl⟩
  have FCheckRange := fun_mk (st := sCheckRange) lCheckRange cCheckRange kCheckRange
  have DCheckRange : DefAt K mg "check_range" sCheckRange pCheckRange fCheckRange _ := ⟨FCheckRange, PySem.W.mg_of X G aCheckRange, FCheckRange.binds (ps := pCheckRange) fun _ _ _ _ _ _ us hl => match us, hl with | [_], _ => rfl⟩
  have FIsIn := fun_mk (st := sIsIn) lIsIn cIsIn kIsIn
  have DIsIn : DefAt K mg "is_in" sIsIn pIsIn fIsIn _ := ⟨FIsIn, PySem.W.mg_of X G aIsIn, FIsIn.binds (ps := pIsIn) fun _ _ _ _ _ _ us hl => match us, hl with | [_, _], _ => rfl⟩
  have FRangeBetween := fun_mk (st := sRangeBetween) lRangeBetween cRangeBetween kRangeBetween
  have DRangeBetween : DefAt K mg "range_between" sRangeBetween pRangeBetween fRangeBetween _ := ⟨FRangeBetween, PySem.W.mg_of X G aRangeBetween, FRangeBetween.binds (ps := pRangeBetween) fun _ _ _ _ _ _ us hl => match us, hl with | [_], _ => rfl⟩
  have FCombined := fun_mk (st := sCombined) lCombined cCombined kCombined
  have DCombined : DefAt K mg "combined" sCombined pCombined fCombined _ := ⟨FCombined, PySem.W.mg_of X G aCombined, FCombined.binds (ps := pCombined) fun _ _ _ _ _ _ us hl => match us, hl with | [_, _, _], _ => rfl⟩
  have FJoined := fun_mk (st := sJoined) lJoined cJoined kJoined
  have DJoined : DefAt K mg "joined" sJoined pJoined fJoined _ := ⟨FJoined, PySem.W.mg_of X G aJoined, FJoined.binds (ps := pJoined) fun _ _ _ _ _ _ us hl => match us, hl with | [_, _], _ => rfl⟩
  have FLeastIn := fun_mk (st := sLeastIn) lLeastIn cLeastIn kLeastIn
  have DLeastIn : DefAt K mg "least_in" sLeastIn pLeastIn fLeastIn _ := ⟨FLeastIn, PySem.W.mg_of X G aLeastIn, FLeastIn.binds (ps := pLeastIn) fun _ _ _ _ _ _ us hl => match us, hl with | [_], _ => rfl⟩
  have FCertificateOf := fun_mk (st := sCertificateOf) lCertificateOf cCertificateOf kCertificateOf
  have DCertificateOf : DefAt K mg "certificate_of" sCertificateOf pCertificateOf fCertificateOf _ := ⟨FCertificateOf, PySem.W.mg_of X G aCertificateOf, FCertificateOf.binds (ps := pCertificateOf) fun _ _ _ _ _ _ us hl => match us, hl with | [_, _], _ => rfl⟩
  have FJudgeSame := fun_mk (st := sJudgeSame) lJudgeSame cJudgeSame kJudgeSame
  have DJudgeSame : DefAt K mg "judge_same" sJudgeSame pJudgeSame fJudgeSame _ := ⟨FJudgeSame, PySem.W.mg_of X G aJudgeSame, FJudgeSame.binds (ps := pJudgeSame) fun _ _ _ _ _ _ us hl => match us, hl with | [_, _], _ => rfl⟩
  have FWithout := fun_mk (st := sWithout) lWithout cWithout kWithout
  have DWithout : DefAt K mg "without" sWithout pWithout fWithout _ := ⟨FWithout, PySem.W.mg_of X G aWithout, FWithout.binds (ps := pWithout) fun _ _ _ _ _ _ us hl => match us, hl with | [_, _], _ => rfl⟩
  have FLaw := fun_mk (st := sLaw) lLaw cLaw kLaw
  have DLaw : DefAt K mg "law" sLaw pLaw fa _ := ⟨FLaw, PySem.W.mg_of X G aLaw, FLaw.binds (ps := pLaw) fun _ _ _ _ _ _ us hl => match us, hl with | [_], _ => rfl⟩
  have kbLeastIn : KBinds K _ pLeastIn ["span"] kwG kwV := kb1 FLeastIn fun _ _ _ _ _ _ _ => rfl
  have kbJoined : KBinds K _ pJoined ["other", "one"] kwG2 kwV2 := kb2 FJoined fun _ _ _ _ _ _ _ _ => rfl
  have kbWithout : KBinds K _ pWithout ["other", "one"] kwG2 kwV2 := kb2 FWithout fun _ _ _ _ _ _ _ _ => rfl
  have kbJudgeSame : KBinds K _ pJudgeSame ["other", "one"] kwG2 kwV2 := kb2 FJudgeSame fun _ _ _ _ _ _ _ _ => rfl
  refine ⟨PySem.W.fnOf "law" "law" (defArgs sLaw) (defBody sLaw) (defScope sLaw) .none kVLaw dcLaw pmLaw anLaw cdLaw ctLaw, fun s v => .of_eq rfl, fun base _ _ bJoined bWithout bJudgeSame => ?_⟩
  have GLDeck : FnOk l.prog w K mg base CX0 1 fLDeck _ pLDeck (spLDeck K) := ok_LDeck Z DLDeck 
  have GLDraw : FnOk l.prog w K mg base CX0 1 fLDraw _ pLDraw spLDraw := ok_LDraw Z DLDraw 
  have GLIn : FnOk l.prog w K mg base CX0 1 fLIn _ pLIn (spLIn K) := ok_LIn Z DLIn 
  have GLMade : FnOk l.prog w K mg base CX0 1 fLMade _ pLMade (spLMade K) := ok_LMade Z DLMade 
  have GLBorders : FnOk l.prog w K mg base CX0 1 fLBorders _ pLBorders (spLBorders K) := ok_LBorders Z DLBorders 
  have GLNext : FnOk l.prog w K mg base CX0 1 fLNext _ pLNext (spLNext K) := ok_LNext Z DLNext 
  have GLPick : FnOk l.prog w K mg base CX0 2 fLPick _ pLPick spLPick := ok_LPick Z DLPick DLDraw GLDraw 
  have GLNumber : FnOk l.prog w K mg base CX0 3 fLNumber _ pLNumber spLNumber := ok_LNumber Z DLNumber DLDraw GLDraw DLPick GLPick 
  have GLVersion : FnOk l.prog w K mg base CX0 4 fLVersion _ pLVersion (spLVersion K) := ok_LVersion Z DLVersion DLDraw GLDraw DLNumber GLNumber DLPick GLPick 
  have GLPool : FnOk l.prog w K mg base CX0 5 fLPool _ pLPool (spLPool K) := ok_LPool Z DLPool DLBorders GLBorders DLNext GLNext DLVersion GLVersion 
  have GLMixed : FnOk l.prog w K mg base CX0 2 fLMixed _ pLMixed spLMixed := ok_LMixed Z DLMixed DLDraw GLDraw 
  have GLStretches : FnOk l.prog w K mg base CX0 3 fLStretches _ pLStretches (spLStretches K) := ok_LStretches Z DLStretches DLMixed GLMixed DLPick GLPick 
  have GLVersions : FnOk l.prog w K mg base CX0 5 fLVersions _ pLVersions (spLVersions K) := ok_LVersions Z DLVersions DLDraw GLDraw DLNext GLNext DLPick GLPick DLVersion GLVersion 
  have GEvery : FnOk l.prog w K mg base CX0 1 fEvery _ pEvery (spEvery K) := ok_Every Z DEvery 
  have GBorders : FnOk l.prog w K mg base CX0 1 fBorders _ pBorders (spBorders K) := ok_Borders Z DBorders 
  have GIsAscending : FnOk l.prog w K mg base CX0 1 fIsAscending _ pIsAscending (spIsAscending K) := ok_IsAscending Z DIsAscending 
  have GIsInteger : FnOk l.prog w K mg base CX0 1 fIsInteger _ pIsInteger spIsInteger := ok_IsInteger Z DIsInteger 
  have GIsVersion : FnOk l.prog w K mg base CX0 2 fIsVersion _ pIsVersion (spIsVersion K) := ok_IsVersion Z DIsVersion DIsInteger GIsInteger 
  have GIsPair : FnOk l.prog w K mg base CX0 3 fIsPair _ pIsPair (spIsPair K) := ok_IsPair Z DIsPair DIsVersion GIsVersion 
  have GIsRange : FnOk l.prog w K mg base CX0 4 fIsRange _ pIsRange (spIsRange K) := ok_IsRange Z DIsRange DBorders GBorders DIsAscending GIsAscending DIsPair GIsPair 
  have GCheckRange : FnOk l.prog w K mg base CX0 5 fCheckRange _ pCheckRange (spCheckRange K) := ok_CheckRange Z DCheckRange DIsRange GIsRange 
  have GIsIn : FnOk l.prog w K mg base CX0 1 fIsIn _ pIsIn (spIsIn K) := ok_IsIn Z DIsIn 
  have GRangeBetween : FnOk l.prog w K mg base CX0 1 fRangeBetween _ pRangeBetween (spRangeBetween K) := ok_RangeBetween Z DRangeBetween 
  have GCombined : FnOk l.prog w K mg base CX0 6 fCombined _ pCombined (spCombined l.prog w K mg base) := ok_Combined Z DCombined DBorders GBorders DCheckRange GCheckRange DIsIn GIsIn DRangeBetween GRangeBetween 
  have GJoined : FnOk l.prog w K mg base CX0 7 fJoined _ pJoined (spJoined K TT) := ok_Joined Z DJoined rfl ⟨bJoined, mJoined, uJoined⟩ DCombined GCombined 
  have GLeastIn : FnOk l.prog w K mg base CX0 6 fLeastIn _ pLeastIn (spLeastIn K) := ok_LeastIn Z DLeastIn DCheckRange GCheckRange 
  have GCertificateOf : FnOk l.prog w K mg base CX0 7 fCertificateOf _ pCertificateOf (spCertificateOf K) := ok_CertificateOf Z DCertificateOf DLeastIn GLeastIn 
  have GJudgeSame : FnOk l.prog w K mg base CX0 8 fJudgeSame _ pJudgeSame (spJudgeSame K TT) := ok_JudgeSame Z DJudgeSame rfl ⟨bJudgeSame, mJudgeSame, uJudgeSame⟩ DCertificateOf GCertificateOf DCombined GCombined 
  have GWithout : FnOk l.prog w K mg base CX0 7 fWithout _ pWithout (spWithout K TT) := ok_Without Z DWithout rfl ⟨bWithout, mWithout, uWithout⟩ DCombined GCombined 
  exact ok_Law Z DLaw DLDeck GLDeck DLDraw GLDraw DLIn GLIn DLMade GLMade DLPool GLPool DLStretches GLStretches DLVersions GLVersions DEvery GEvery DIsRange GIsRange DJoined GJoined DJudgeSame GJudgeSame DWithout GWithout kbJoined 
end Zj

open PySem PySem.W PyProof.Rows in
set_option maxRecDepth 100000 in
set_option maxHeartbeats 0 in
theorem PySem.Challenge.cw_versionjudge_k05_whole_one_form_of_range_holds : PySem.Challenge.rw_versionjudge_k05_whole_one_form_of_range.Holds := by
  w_on; o_law; k_head; (case hw => w_witness2)
  k_fill
  refine Zj.walkT (n := 63) (k := 9) (x := "_law_script") (cs := [(127, 123), (134, 130), (141, 137)]) (sp := fun K => Zj.spLaw K [(123, ("joined" ++ (".<locals>." : PySem.Str)) ++ ("<lambda>" : PySem.Str)), (130, ("without" ++ (".<locals>." : PySem.Str)) ++ ("<lambda>" : PySem.Str)), (137, ("judge_same" ++ (".<locals>." : PySem.Str)) ++ ("<lambda>" : PySem.Str))]) (l := PySem.Challenge.rw_versionjudge_k05_whole_one_form_of_range) rfl (by decide) rfl ⟨rfl, by decide, by decide⟩ (fun w h Y => Y.1) ?T ?C ?F (fun K H a ns hl hH hS => ⟨a, ns, rfl, hS, hl, ?_, fun _ => rfl⟩)
  case T =>
    intro w h Y p hp
    refine Y.2 p.2 ?_
    simp only [List.mem_cons, List.not_mem_nil, or_false] at hp
    rcases hp with rfl | rfl | rfl <;> simp
  case C =>
    intro w p hp
    simp only [List.mem_cons, List.not_mem_nil, or_false] at hp
    rcases hp with rfl | rfl | rfl <;> exact ⟨by kernel_rfl, by kernel_rfl⟩
  case F =>
    intro w mg fa h KX G hmg
    refine' Exists.elim (Zj.all_mk (l := PySem.Challenge.rw_versionjudge_k05_whole_one_form_of_range) (w := w) (TT := [(123, ("joined" ++ (".<locals>." : PySem.Str)) ++ ("<lambda>" : PySem.Str)), (130, ("without" ++ (".<locals>." : PySem.Str)) ++ ("<lambda>" : PySem.Str)), (137, ("judge_same" ++ (".<locals>." : PySem.Str)) ++ ("<lambda>" : PySem.Str))]) (qJoined := 127) (tJoined := 123) (qWithout := 134) (tWithout := 130) (qJudgeSame := 141) (tJudgeSame := 137) KX G hmg ?aLDeck ?lLDeck ?cLDeck ?kLDeck ?aLDraw ?lLDraw ?cLDraw ?kLDraw ?aLIn ?lLIn ?cLIn ?kLIn ?aLMade ?lLMade ?cLMade ?kLMade ?aLBorders ?lLBorders ?cLBorders ?kLBorders ?aLNext ?lLNext ?cLNext ?kLNext ?aLPick ?lLPick ?cLPick ?kLPick ?aLNumber ?lLNumber ?cLNumber ?kLNumber ?aLVersion ?lLVersion ?cLVersion ?kLVersion ?aLPool ?lLPool ?cLPool ?kLPool ?aLMixed ?lLMixed ?cLMixed ?kLMixed ?aLStretches ?lLStretches ?cLStretches ?kLStretches ?aLVersions ?lLVersions ?cLVersions ?kLVersions ?aEvery ?lEvery ?cEvery ?kEvery ?aBorders ?lBorders ?cBorders ?kBorders ?aIsAscending ?lIsAscending ?cIsAscending ?kIsAscending ?aIsInteger ?lIsInteger ?cIsInteger ?kIsInteger ?aIsVersion ?lIsVersion ?cIsVersion ?kIsVersion ?aIsPair ?lIsPair ?cIsPair ?kIsPair ?aIsRange ?lIsRange ?cIsRange ?kIsRange ?aCheckRange ?lCheckRange ?cCheckRange ?kCheckRange ?aIsIn ?lIsIn ?cIsIn ?kIsIn ?aRangeBetween ?lRangeBetween ?cRangeBetween ?kRangeBetween ?aCombined ?lCombined ?cCombined ?kCombined ?aJoined ?lJoined ?cJoined ?kJoined ?aLeastIn ?lLeastIn ?cLeastIn ?kLeastIn ?aCertificateOf ?lCertificateOf ?cCertificateOf ?kCertificateOf ?aJudgeSame ?lJudgeSame ?cJudgeSame ?kJudgeSame ?aWithout ?lWithout ?cWithout ?kWithout ?aLaw ?lLaw ?cLaw ?kLaw ?zisinstance ?ztuple ?zbool ?zall ?zany ?zlist ?zrepr ?zenumerate ?zint ?zmax ?zlen ?zrange ?zset ?zsorted ?zzip ?zWHOLE ?zFIRST ?yFIRST ?oFIRST ?mJoined ?uJoined ?mWithout ?uWithout ?mJudgeSame ?uJudgeSame) (fun fd Y => ⟨fd, Y.1, fun base k1 k2 hT => Y.2 base k1 k2 (hT (127, 123) (List.mem_cons.mpr (.inl rfl))) (hT (134, 130) (List.mem_cons.mpr (.inr (List.mem_cons.mpr (.inl rfl))))) (hT (141, 137) (List.mem_cons.mpr (.inr (List.mem_cons.mpr (.inr (List.mem_cons.mpr (.inl rfl)))))))⟩)
    (case aLDeck => k_is)
    (case lLDeck => k_is)
    (case cLDeck => k_is)
    (case kLDeck => k_is)
    (case aLDraw => k_is)
    (case lLDraw => k_is)
    (case cLDraw => k_is)
    (case kLDraw => k_is)
    (case aLIn => k_is)
    (case lLIn => k_is)
    (case cLIn => k_is)
    (case kLIn => k_is)
    (case aLMade => k_is)
    (case lLMade => k_is)
    (case cLMade => k_is)
    (case kLMade => k_is)
    (case aLBorders => k_is)
    (case lLBorders => k_is)
    (case cLBorders => k_is)
    (case kLBorders => k_is)
    (case aLNext => k_is)
    (case lLNext => k_is)
    (case cLNext => k_is)
    (case kLNext => k_is)
    (case aLPick => k_is)
    (case lLPick => k_is)
    (case cLPick => k_is)
    (case kLPick => k_is)
    (case aLNumber => k_is)
    (case lLNumber => k_is)
    (case cLNumber => k_is)
    (case kLNumber => k_is)
    (case aLVersion => k_is)
    (case lLVersion => k_is)
    (case cLVersion => k_is)
    (case kLVersion => k_is)
    (case aLPool => k_is)
    (case lLPool => k_is)
    (case cLPool => k_is)
    (case kLPool => k_is)
    (case aLMixed => k_is)
    (case lLMixed => k_is)
    (case cLMixed => k_is)
    (case kLMixed => k_is)
    (case aLStretches => k_is)
    (case lLStretches => k_is)
    (case cLStretches => k_is)
    (case kLStretches => k_is)
    (case aLVersions => k_is)
    (case lLVersions => k_is)
    (case cLVersions => k_is)
    (case kLVersions => k_is)
    (case aEvery => k_is)
    (case lEvery => k_is)
    (case cEvery => k_is)
    (case kEvery => k_is)
    (case aBorders => k_is)
    (case lBorders => k_is)
    (case cBorders => k_is)
    (case kBorders => k_is)
    (case aIsAscending => k_is)
    (case lIsAscending => k_is)
    (case cIsAscending => k_is)
    (case kIsAscending => k_is)
    (case aIsInteger => k_is)
    (case lIsInteger => k_is)
    (case cIsInteger => k_is)
    (case kIsInteger => k_is)
    (case aIsVersion => k_is)
    (case lIsVersion => k_is)
    (case cIsVersion => k_is)
    (case kIsVersion => k_is)
    (case aIsPair => k_is)
    (case lIsPair => k_is)
    (case cIsPair => k_is)
    (case kIsPair => k_is)
    (case aIsRange => k_is)
    (case lIsRange => k_is)
    (case cIsRange => k_is)
    (case kIsRange => k_is)
    (case aCheckRange => k_is)
    (case lCheckRange => k_is)
    (case cCheckRange => k_is)
    (case kCheckRange => k_is)
    (case aIsIn => k_is)
    (case lIsIn => k_is)
    (case cIsIn => k_is)
    (case kIsIn => k_is)
    (case aRangeBetween => k_is)
    (case lRangeBetween => k_is)
    (case cRangeBetween => k_is)
    (case kRangeBetween => k_is)
    (case aCombined => k_is)
    (case lCombined => k_is)
    (case cCombined => k_is)
    (case kCombined => k_is)
    (case aJoined => k_is)
    (case lJoined => k_is)
    (case cJoined => k_is)
    (case kJoined => k_is)
    (case aLeastIn => k_is)
    (case lLeastIn => k_is)
    (case cLeastIn => k_is)
    (case kLeastIn => k_is)
    (case aCertificateOf => k_is)
    (case lCertificateOf => k_is)
    (case cCertificateOf => k_is)
    (case kCertificateOf => k_is)
    (case aJudgeSame => k_is)
    (case lJudgeSame => k_is)
    (case cJudgeSame => k_is)
    (case kJudgeSame => k_is)
    (case aWithout => k_is)
    (case lWithout => k_is)
    (case cWithout => k_is)
    (case kWithout => k_is)
    (case aLaw => k_is)
    (case lLaw => k_is)
    (case cLaw => k_is)
    (case kLaw => k_is)
    (case zisinstance => k_is)
    (case ztuple => k_is)
    (case zbool => k_is)
    (case zall => k_is)
    (case zany => k_is)
    (case zlist => k_is)
    (case zrepr => k_is)
    (case zenumerate => k_is)
    (case zint => k_is)
    (case zmax => k_is)
    (case zlen => k_is)
    (case zrange => k_is)
    (case zset => k_is)
    (case zsorted => k_is)
    (case zzip => k_is)
    (case zWHOLE => k_is)
    (case zFIRST => k_is)
    (case yFIRST => k_is)
    (case oFIRST => exact rfl)
    (case mJoined => exact List.mem_cons.mpr (.inl rfl))
    (case uJoined => intro p hp e; simp only [List.mem_cons, List.not_mem_nil, or_false] at hp; rcases hp with rfl | rfl | rfl <;> first | exact absurd e (by decide) | rfl)
    (case mWithout => exact List.mem_cons.mpr (.inr (List.mem_cons.mpr (.inl rfl))))
    (case uWithout => intro p hp e; simp only [List.mem_cons, List.not_mem_nil, or_false] at hp; rcases hp with rfl | rfl | rfl <;> first | exact absurd e (by decide) | rfl)
    (case mJudgeSame => exact List.mem_cons.mpr (.inr (List.mem_cons.mpr (.inr (List.mem_cons.mpr (.inl rfl))))))
    (case uJudgeSame => intro p hp e; simp only [List.mem_cons, List.not_mem_nil, or_false] at hp; rcases hp with rfl | rfl | rfl <;> first | exact absurd e (by decide) | rfl)
  · intro p hp
    simp only [List.mem_cons, List.not_mem_nil, or_false] at hp
    rcases hp with rfl | rfl | rfl
    · exact LamX.TabS.nil (hH (127, 123) (List.mem_cons.mpr (.inl rfl)))
    · exact LamX.TabS.nil (hH (134, 130) (List.mem_cons.mpr (.inr (List.mem_cons.mpr (.inl rfl)))))
    · exact LamX.TabS.nil (hH (141, 137) (List.mem_cons.mpr (.inr (List.mem_cons.mpr (.inr (List.mem_cons.mpr (.inl rfl)))))))
#print axioms PySem.Challenge.cw_versionjudge_k05_whole_one_form_of_range_holds
