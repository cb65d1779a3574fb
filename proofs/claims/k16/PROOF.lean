import PyProof.Rows.All
import Wide.All
import OpenK.AllK
import Wide.FinOn
import HandS.ForMost
import HandS.IsInst
import HandS.NoneIn
import HandS.Style
import HandS.TupAny
import HandS.Evl
import PyProof.ReprRoads
import HandS.Walk
import HandS.TupLe
import HandS.TupSets
import HandS.Zip
import HandS.Conv
import HandS.Lambda
import HandS.Nested
import HandS.EndTab
import KE.KNestM
import KE.DataMinMax
import KE.SortData
import HandS.Deep
import HandS.Iter
import HandS.ForSpec
import HandS.ExcField
import HandS.StrMore
import KE.IntTextLaws
import KE.GoesEnum
import KE.GoesMore
import HandS.SetFor
import HandS.Strs
import HandS.TupMul
import HandS.DictComp
import HandS.More
import HandS.Star
import KE.KDictPairs
import KE.KDictSum
import HandS.ExcValue
import HandS.Flow
import KE.KItemsList
import HandS.Exc
import HandS.ExcIs
import PyProof.NeKinds
import PyProof.FactsAll.dict
import HandS.Defaults
import KE.KAssignIn
import HandS.SetBool
import HandS.Text
import HandS.SetKeys
import PySem.Challenge.RW_versionjudge_k16_whole_conditions_by_the
set_option Elab.async false
set_option linter.all false
set_option maxRecDepth 100000
set_option maxHeartbeats 4000000
namespace Zj
open PySem L2
/-! ### frames, the deck -/
def Kp (d l : Addr) (H H' : Hp) : Prop := ∀ b o, b ≠ d → b ≠ l → H b = some o → H' b = some o
def dkv (l : Addr) (m t : Int) : List (Key × V) := [(.inr "left", .ref l), (.inr "mixed", .int m), (.inr "turn", .int t)]
def Deck (d l : Addr) (H : Hp) : Prop := ∃ (ns : List Int) (m t : Int), H d = some (.dK (dkv l m t)) ∧ H l = some (.lst (ns.map V.int)) ∧ ns.length ≤ 63 ∧ 0 ≤ m ∧ m < 2147483647
theorem Kp.refl {d l : Addr} (H : Hp) : Kp d l H H := fun _ _ _ _ h => h
theorem Kp.trans {d l : Addr} {H H1 H2 : Hp} (a : Kp d l H H1) (b : Kp d l H1 H2) : Kp d l H H2 := fun c o h1 h2 h => b c o h1 h2 (a c o h1 h2 h)
theorem Kp.new {d l p : Addr} {H : Hp} {o : HO} (h : H p = none) : Kp d l H (upd H p o) := fun b u _ _ e => by
  rw [upd_ne (ne_of_none e h)]
  exact e
theorem Deck.ned {d l a : Addr} {H : Hp} {xs : List V} (D : Deck d l H) (h : H a = some (.tup xs)) : a ≠ d := by
  obtain ⟨ns, m, t, h1, _⟩ := D
  exact ne_of h h1 (fun q => nomatch q)
theorem Deck.nel {d l a : Addr} {H : Hp} {xs : List V} (D : Deck d l H) (h : H a = some (.tup xs)) : a ≠ l := by
  obtain ⟨ns, m, t, _, h1, _⟩ := D
  exact ne_of h h1 (fun q => nomatch q)
theorem Deck.nedl {d l a : Addr} {H : Hp} {xs : List V} (D : Deck d l H) (h : H a = some (.lst xs)) : a ≠ d := by
  obtain ⟨ns, m, t, h1, _⟩ := D
  exact ne_of h h1 (fun q => nomatch q)
theorem Deck.dl {d l : Addr} {H : Hp} (D : Deck d l H) : d ≠ l := by
  obtain ⟨ns, m, t, h1, h2, _⟩ := D
  exact ne_of h1 h2 (fun q => nomatch q)
theorem Kp.tup {d l a : Addr} {H H' : Hp} {xs : List V} (k : Kp d l H H') (D : Deck d l H) (h : H a = some (.tup xs)) : H' a = some (.tup xs) := k a _ (D.ned h) (D.nel h) h
theorem Kp.lst {d l a : Addr} {H H' : Hp} {xs : List V} (k : Kp d l H H') (D : Deck d l H) (ne : a ≠ l) (h : H a = some (.lst xs)) : H' a = some (.lst xs) := k a _ (D.nedl h) ne h
/-- a tuple, tracked or written -/
theorem Kp.tupS {K : PySem.W.Frag} {d l a : Addr} {H H' : Hp} {xs : List V} (k : Kp d l H H') (D : Deck d l H) (h : SqT K H a xs) : SqT K H' a xs := by
  obtain ⟨ns, m, t, h1, h2, _⟩ := D
  rcases h with (h | ⟨o, h⟩) | h
  · exact .inl (.inl (k a _ (ne_of h h1 (fun q => nomatch q)) (ne_of h h2 (fun q => nomatch q)) h))
  · exact .inl (.inr ⟨o, k a _ (ne_of h h1 (fun q => nomatch q)) (ne_of h h2 (fun q => nomatch q)) h⟩)
  · exact .inr h
theorem tupS_same {K : PySem.W.Frag} {a : Addr} {H H' : Hp} {xs : List V} (s : ∀ b o, H b = some o → H' b = some o) (h : SqT K H a xs) : SqT K H' a xs := by
  rcases h with (h | ⟨o, h⟩) | h
  · exact .inl (.inl (s _ _ h))
  · exact .inl (.inr ⟨o, s _ _ h⟩)
  · exact .inr h
/-- all tuples stay -/
def TKp (K : PySem.W.Frag) (H H' : Hp) : Prop := ∀ a xs, SqT K H a xs → SqT K H' a xs
theorem TKp.trans {K : PySem.W.Frag} {H H1 H2 : Hp} (a : TKp K H H1) (b : TKp K H1 H2) : TKp K H H2 := fun x xs h => b x xs (a x xs h)
theorem TKp.kp {K : PySem.W.Frag} {d l : Addr} {H H' : Hp} (k : Kp d l H H') (D : Deck d l H) : TKp K H H' := fun _ _ h => k.tupS D h
theorem TKp.of {K : PySem.W.Frag} {H H' : Hp} (s : ∀ b o, H b = some o → H' b = some o) : TKp K H H' := fun _ _ h => tupS_same s h
/-- a list is changed -/
theorem TKp.mut {K : PySem.W.Frag} {H : Hp} {p : Addr} {xs ys : List V} (e : H p = some (.lst xs)) : TKp K H (upd H p (.lst ys)) := fun a zs h => by
  rcases h with (h | ⟨o, h⟩) | h
  · exact .inl (.inl (by rw [upd_ne (ne_of h e (fun q => nomatch q))]; exact h))
  · exact .inl (.inr ⟨o, by rw [upd_ne (ne_of h e (fun q => nomatch q))]; exact h⟩)
  · exact .inr h
theorem TKp.new {K : PySem.W.Frag} {H : Hp} {p : Addr} {o : HO} (h : H p = none) : TKp K H (upd H p o) := TKp.of fun b u e => by
  rw [upd_ne (ne_of_none e h)]
  exact e
theorem Deck.new {d l p : Addr} {H : Hp} {o : HO} (D : Deck d l H) (h : H p = none) : Deck d l (upd H p o) := by
  obtain ⟨ns, m, t, h1, h2, r⟩ := D
  exact ⟨ns, m, t, by rw [upd_ne (ne_of_none h1 h)]; exact h1, by rw [upd_ne (ne_of_none h2 h)]; exact h2, r⟩
/-- a store at another place -/
theorem Deck.mut {d l p : Addr} {H : Hp} {o : HO} (D : Deck d l H) (h1 : p ≠ d) (h2 : p ≠ l) : Deck d l (upd H p o) := by
  obtain ⟨ns, m, t, e1, e2, r⟩ := D
  exact ⟨ns, m, t, by rw [upd_ne h1.symm]; exact e1, by rw [upd_ne h2.symm]; exact e2, r⟩
theorem Deck.free {d l p : Addr} {H : Hp} (D : Deck d l H) (h : H p = none) : p ≠ l := by
  obtain ⟨ns, m, t, _, h1, _⟩ := D
  exact (ne_of_none h1 h).symm
/-- an object that H does not know may change -/
theorem Kp.out {d l p : Addr} {H H' : Hp} {o : HO} (k : Kp d l H H') (h : H p = none) : Kp d l H (upd H' p o) := fun b u n1 n2 e => by
  rw [upd_ne (ne_of_none e h)]
  exact k b u n1 n2 e
theorem Deck.mono {d l : Addr} {H H' : Hp} (D : Deck d l H) (s : ∀ b o, H b = some o → H' b = some o) : Deck d l H' := by
  obtain ⟨ns, m, t, h1, h2, r⟩ := D
  exact ⟨ns, m, t, s _ _ h1, s _ _ h2, r⟩
theorem Kp.free_back {d l p : Addr} {H H' : Hp} (k : Kp d l H H') (D : Deck d l H') (h : H' p = none) : H p = none := by
  obtain ⟨ns, m, t, h1, h2, r⟩ := D
  cases q : H p with
  | none => rfl
  | some o =>
    rw [k p o (ne_of_none h1 h).symm (ne_of_none h2 h).symm q] at h
    cases h
theorem nMT : ¬ (("mixed" : Str) = "turn") := by decide +kernel
section
variable {H : Hp} {d l : Addr} {m t : Int}
end
theorem DpAll.ints {K : PySem.W.Frag} {H : Hp} : ∀ ns : List Int, DpAll K H (ns.map V.int) (ns.map PyData.int)
  | [] => .nil
  | n :: r => .cons (.int n) (DpAll.ints r)
theorem lay_ints : ∀ ns : List Int, PyData.canLayAll0 (ns.map PyData.int) = true
  | [] => rfl
  | n :: r => by show (PyData.canLay0 (.int n) && _) = true; rw [lay_ints r]; rfl
theorem dep_ints : ∀ ns : List Int, PyData.depthAll (ns.map PyData.int) ≤ 1
  | [] => by decide
  | n :: r => by
    have := dep_ints r
    simp only [List.map_cons, PyData.depthAll, PyData.depth]
    omega
theorem sh_ints (ns : List Int) : SeqAt.shaped (.list (ns.map PyData.int)) = true := by
  have h := dep_ints ns
  unfold SeqAt.shaped
  rw [Bool.and_eq_true]
  refine ⟨lay_ints ns, decide_eq_true ?_⟩
  simp only [PyData.depth]
  omega

/-! ### versions as tuples of five ints -/
def IV (K : PySem.W.Frag) (H : Hp) (v : V) (x : List Int) : Prop := ∃ a, v = .ref a ∧ SqT K H a (x.map V.int)
def Ver (B : Int) (x : List Int) : Prop := ∃ a b c k n : Int, x = [a, b, c, k, n] ∧ 0 ≤ a ∧ a ≤ B ∧ 0 ≤ b ∧ b ≤ B ∧ 0 ≤ c ∧ c ≤ B ∧ 0 ≤ k ∧ k ≤ 3 ∧ 0 ≤ n ∧ n ≤ B ∧ (k = 3 → n = 0)
def VV (K : PySem.W.Frag) (B : Int) (H : Hp) (v : V) : Prop := ∃ x, IV K H v x ∧ Ver B x
def nxt : List Int → List Int
  | [a, b, c, k, n] => if k < 3 then [a, b, c, k, n + 1] else [a, b, c + 1, 0, 0]
  | x => x
theorem Ver.nxt {B : Int} {x : List Int} (h : Ver B x) : Ver (B + 1) (nxt x) := by
  obtain ⟨a, b, c, k, n, rfl, h1, h2, h3, h4, h5, h6, h7, h8, h9, h10, h11⟩ := h
  unfold Zj.nxt
  simp only
  split
  · exact ⟨_, _, _, _, _, rfl, by omega, by omega, by omega, by omega, by omega, by omega, by omega, by omega, by omega, by omega, by omega⟩
  · exact ⟨_, _, _, _, _, rfl, by omega, by omega, by omega, by omega, by omega, by omega, by omega, by omega, by omega, by omega, by omega⟩
theorem Ver.mono {B C : Int} {x : List Int} (h : Ver B x) (hc : B ≤ C) : Ver C x := by
  obtain ⟨a, b, c, k, n, rfl, h1, h2, h3, h4, h5, h6, h7, h8, h9, h10, h11⟩ := h
  exact ⟨_, _, _, _, _, rfl, by omega, by omega, by omega, by omega, by omega, by omega, by omega, by omega, by omega, by omega, by omega⟩
theorem VV.mono {K : PySem.W.Frag} {B C : Int} {H : Hp} {v : V} (h : VV K B H v) (hc : B ≤ C) : VV K C H v := by
  obtain ⟨x, h1, h2⟩ := h
  exact ⟨x, h1, h2.mono hc⟩
theorem IV.kp {K : PySem.W.Frag} {d l : Addr} {H H' : Hp} {v : V} {x : List Int} (h : IV K H v x) (k : Kp d l H H') (D : Deck d l H) : IV K H' v x := by
  obtain ⟨a, e, h⟩ := h
  exact ⟨a, e, k.tupS D h⟩
theorem VV.kp {K : PySem.W.Frag} {d l : Addr} {H H' : Hp} {v : V} {B : Int} (h : VV K B H v) (k : Kp d l H H') (D : Deck d l H) : VV K B H' v := by
  obtain ⟨x, h1, h2⟩ := h
  exact ⟨x, h1.kp k D, h2⟩
theorem IV.same {K : PySem.W.Frag} {H H' : Hp} {v : V} {x : List Int} (h : IV K H v x) (k : TKp K H H') : IV K H' v x := by
  obtain ⟨a, e, h⟩ := h
  exact ⟨a, e, k _ _ h⟩
theorem VV.same {K : PySem.W.Frag} {H H' : Hp} {v : V} {B : Int} (h : VV K B H v) (k : TKp K H H') : VV K B H' v := by
  obtain ⟨x, h1, h2⟩ := h
  exact ⟨x, h1.same k, h2⟩
/-! ### data -/
theorem IV.dp {K : PySem.W.Frag} {H : Hp} {v : V} {x : List Int} (h : IV K H v x) : Dp K H v (.tuple (x.map PyData.int)) := by
  obtain ⟨a, rfl, h⟩ := h
  exact .tup h (DpAll.ints x)
/-- where a def of the text stands -/
structure DefAt (K : PySem.W.Frag) (mg : Str → Option Value) (x : Str) (st : Stmt) (ps : List Str) (f : Addr) (fd : FuncData) : Prop where
  F : Fun K x x st f fd
  g : mg x = some (.ref f)
  b : Binds K fd ps []
end Zj
namespace Zj
open PySem PySem.Spec PyProof.Rows L2
structure FnG (P : Program) (w : World) (K : PySem.W.Frag) (mg : Str → Option Value) (base : Heap) (k : Nat) (f : Addr) (fd : FuncData) (ps : List Str) (sp : Sp) : Prop where
  len : ∀ vs H Q E, sp vs H Q E → vs.length = ps.length
  go : ∀ (A : Around) (outer : List Env) (s : Shared) (H : Hp) (args : Args) (us : List Value) (vs : List V) (Q : VK), A.guards = some [] → Room k A → Env0 P w K mg base A outer s H → BindsTo s fd args (ps.zip us) → Vals vs us → sp vs H Q E0 →
    codeAny (model P w) A (.call (.ref f) args) (CR CX0 outer P w H s Q E0) s
theorem FnG.of {P : Program} {w : World} {K : PySem.W.Frag} {mg : Str → Option Value} {base : Heap} {k : Nat} {f : Addr} {fd : FuncData} {ps : List Str} {sp : Sp} (F : FnOk P w K mg base CX0 k f fd ps sp) : FnG P w K mg base k f fd ps sp :=
  ⟨F.len, fun A o s H args us vs Q _ => F.run A o s H args us vs Q E0⟩
/-- a def by its body, no repr under way -/
theorem FnG.body {P : Program} {w : World} {K : PySem.W.Frag} {mg : Str → Option Value} {base : Heap} {x qual : Str} {st : Stmt} {f : Addr} {fd : FuncData} {N ps : List Str} {k : Nat} {sp : Sp} (F : Fun K x qual st f fd) (S : FnScope N ps (defScope st))
    (len : ∀ vs H Q E, sp vs H Q E → vs.length = ps.length)
    (hb : ∀ (cdv : Value) (A : Around) (outer : List Env) (s : Shared) (H : Hp) (vs : List V) (Q : VK), A.guards = some [] → Room k (A.deeper (envOfC qual (defScope st) s.heap.objs.size f cdv)) → sp vs H Q E0 →
      ∃ t, PSs (cxOf CX0 P w K mg base N qual (defScope st) f cdv A outer s H E0).nox (defBody st) t ∧ t { nx := fun _ H' => Q .non H', rt := Q } (start N vs) H) : FnG P w K mg base (k + 1) f fd ps sp := by
  obtain ⟨oc, od, kV, doc, pm, an, cdv, ct, osl, rfl, lk, hcd⟩ := F.ex
  refine ⟨len, fun A outer s H args us vs Q hg hr e0 hbn r hsp => ?_⟩
  have hl := len _ _ _ _ hsp
  have kb := fun b o e => (e0.bs b o e).1
  have KX : K.In s.heap := e0.mod.kin.keeps kb
  refine codeAny_call_function hr.depth (KX _ _ lk) rfl S.co S.gen rfl (PySem.W.codeRec_of KX hcd) (hbn _ _ _ _ ?_)
  refine wpAny_newFunctionEnv_cells S.kind (fun y hy => (S.par y.1 (List.of_mem_zip (show (y.1, y.2) ∈ ps.zip us from hy)).1).elim Or.inl fun q => Or.inr ⟨q, PySem.W.cellsFrom_some _ _ _ (.inl q)⟩) fun env he s1 x => ?_
  subst he
  refine ⟨(e0.mod.nolimit.keeps kb).keeps x.toInCall.keep, codeAny_func ?_⟩
  obtain ⟨t, ht, hq⟩ := hb cdv A outer s H vs Q hg (hr.deeper _) hsp
  have I := inv_start (CX := CX0) (E := E0) S hr.hd e0 hl r x
  refine wpAny_mono (ht.nox.run [] s1 (start N vs) H _ I hq) (fun fl s' hs => ?_) fun e s' hs => hs
  cases fl with
  | ret u =>
    obtain ⟨v, σ', H', J, rv, q⟩ := hs
    exact ⟨v, H', J.os, J.bare, J.base, J.hok, rv, q⟩
  | next =>
    obtain ⟨σ', H', J, q⟩ := hs
    exact ⟨V.non, H', J.os, J.bare, J.base, J.hok, rfl, q⟩
  | brk =>
    obtain ⟨_, _, _, q⟩ := hs
    exact q.elim
  | cont =>
    obtain ⟨_, _, _, q⟩ := hs
    exact q.elim
section
variable {X : Cx} {k : Nat} {f : Addr} {fd : FuncData} {ps : List Str} {sp : Sp} {x : Str} {p pos : Pos} {e : Expr} {es : List Expr} {t : TA}
/-- f(k = e, ..), all by name -/
theorem pe_callK0 {g : List Value → List Value → List Value} {gV : List V → List V → List V} {kws : List Keyword} {ks : List Str} {tk : TA} (F : FnOk X.prog X.w X.K X.mg X.base CX0 k f fd ps sp) (hr : Room k X.A) (hg : Gl X x) (hm : X.mg x = some (.ref f)) (hk : PySem.W.keepIn X.K (.ref f) = true) (hb : KBinds X.K fd ps ks g gV)
    (hx : Passes CX0 X E0) (hkw : PK X kws tk) (hall : (backToKw pos (keywordEach kws X.env)).all (·.1.isSome) = true := by rfl) (hks : (backToKw pos (keywordEach kws X.env)).filterMap (·.1) = ks := by rfl) (hdb : (x == ("__debug__" : Str)) = false := by decide)
    (hpl : ((backTo pos (starEach [] X.env)).any (·.1) || (backToKw pos (keywordEach kws X.env)).any (·.1.isNone)) = false := by rfl) : PE X (.Call (.Name x p) [] kws pos) (tCallK sp gV E0 tNil tk) := by
  refine ⟨fun pins s σ H Q I h => wpAny_Call_Name_kw (ld_glob I hg hm ?_ hdb)⟩
  refine PySem.W.callWith_KW0 (h₀ := X.base) I.ok.mod.kin hk hall (thn (hkw.run pos pins s σ H _ I h) fun ws s2 ⟨zs, H2, I2, rz, q2⟩ => ⟨I2.kIn, ?_⟩) hpl
  rw [hks]
  exact run_fnk (us := []) (vs := []) F hr hb hx I2 .nil rz q2
/-- repr(x), x data without dicts -/
theorem call_reprD (hgd : X.A.guards = some []) (hu : X.A.units + 64 < cLine) : CallR X (.builtin "repr") (fun xs H Q => ∃ v d, xs = [v] ∧ Dp X.K H v d ∧ d.showable = true ∧ SeqAt.shaped d = true ∧ d.depth < 60 ∧ d.shown.length ≤ sizeLine ∧ Q (.str d.shown) H) := by
  intro pins s σ H xs us Q I r h
  obtain ⟨v, d, rfl, hd, hs, hsh, hdp, hz, q⟩ := h
  obtain ⟨u, rfl, ru⟩ := vals1 r
  obtain ⟨as, rd⟩ := Dp.reads I d v u hd ru
  have nd : d.hasDict = false := PyData.hasDict_of_canLay d (SeqAt.canLay_of_shaped hsh)
  have fin : ∀ (h' : Heap) (t tk : Tok), (∀ b o, s.heap.get? b = some o → h'.get? b = some o) → EP X pins σ Q (.str d.shown t) { s with heap := h', toks := tk } := fun h' t tk hk =>
    ⟨.str _, H, I.kept hk, ⟨_, rfl⟩, q⟩
  cases hd with
  | non =>
    cases ru
    exact PySem.P.repr_of_none (fin _ _ _ fun _ _ h => h)
  | bl b =>
    cases ru
    exact PySem.P.repr_of_bool (fin _ _ _ fun _ _ h => h)
  | int i =>
    obtain ⟨tk, rfl⟩ := ru
    exact PySem.P.repr_of_int (of_decide_eq_true hs) (fin _ _ _ fun _ _ h => h)
  | str z =>
    obtain ⟨tk, rfl⟩ := ru
    exact PySem.P.repr_of_str (fin _ _ _ fun _ _ h => h)
  | lst h1 h2 =>
    cases ru
    exact repr_of_reads' rd hs (fun z => by rw [nd] at z; cases z) hgd (by omega) (fun _ _ z => z) (fun h' t tk hk => fin h' t tk hk) hz
  | tup h1 h2 =>
    cases ru
    exact repr_of_reads' rd hs (fun z => by rw [nd] at z; cases z) hgd (by omega) (fun _ _ z => z) (fun h' t tk hk => fin h' t tk hk) hz
/-! within a comprehension: the written part told outside -/
variable {K : PySem.W.Frag}
theorem ix_listK (K : PySem.W.Frag) (e : X.K = K := by rfl) : IxR X (rIxL K) := by
  subst e
  exact ix_list
theorem pg_tupK (K : PySem.W.Frag) {es : List Expr} {k : Nat} {pos : Pos} {t : TGs} {n : Nat} (hc : X.calm = true) (h : PGs X es t) (e : X.K = K := by rfl) (hn : (assignEach es X.env).length = n := by rfl) (hst : (assignEach es X.env).findIdx? (·.1) = none := by rfl) : PG X (.Tuple es k pos) (gTup K n t) := by
  subst e
  exact pg_tup hc h hn hst
end
end Zj
namespace Zj
open PySem PySem.Spec PyProof.Rows L2
/-- the law's call at the heap behind the top -/
theorem endG {P : Program} {w : World} {K : PySem.W.Frag} {mg mb : Str → Option Value} {k : Nat} {fa a : Addr} {fd : FuncData} {x : Str} {sp : Sp} {s1 : Shared} {vs : List Value} {ns : List Int}
    (KX : K.In s1.heap) (hns : s1.heap.Ns mainGlobals mg) (hb : s1.heap.Ns builtinsNs mb) (hbb : ∀ x : Str, x ≠ "__name__" → mb x = bootBuiltins x) (hlim : s1.heap.NoLimit) (hg : s1.gens = #[])
    (ha : s1.heap.get? a = some { cls := .type "list", data := .seq vs.toArray }) (hi : IntsAre vs ns) (hl : ns.length ≤ sizeLine) (hr : Room k callerA)
    (F : ∀ base : Heap, K.In base → base.Ns mainGlobals mg → FnG P w K mg base k fa fd [x] sp) (hbind : ∀ (s : Shared) (u : Value), BindsTo s fd ⟨[u], []⟩ [(x, u)])
    (hsp : ∀ H : Hp, SqL K H a (ns.map V.int) → sp [.ref a] H (fun v _ => v = .bl true) E0) :
    codeAny (model P w) callerA (.call (.ref fa) ⟨[.ref a], []⟩) (fun r s' => r = .ok (.ret (.bool true)) ∧ OldK s1.heap s'.heap ∧ s'.os = s1.os ∧ AllBare s'.gens) s1 := by
  have rv := vals_ints hi
  have main : ∀ H : Hp, SqL K H a (ns.map V.int) → HOk P w H s1.heap → (∀ b u, H b = some u → b = a ∧ K.lookup a = none ∧ ∃ o z, u = .frz o (.lst z)) →
      codeAny (model P w) callerA (.call (.ref fa) ⟨[.ref a], []⟩) (fun r s' => r = .ok (.ret (.bool true)) ∧ OldK s1.heap s'.heap ∧ s'.os = s1.os ∧ AllBare s'.gens) s1 := by
    intro H hS hok hA
    have free : ∀ {b : Addr} {o : Obj}, s1.heap.get? b = some o → (b = a → (∃ es ep, o.data = .dict es ep) ∨ K.lookup a = some o) → H b = none := fun {b o} e q => by
      cases h : H b with
      | none => rfl
      | some u =>
        obtain ⟨rfl, h2, _⟩ := hA b u h
        rcases q rfl with ⟨es, ep, d⟩ | d
        · rw [ha] at e
          cases e
          cases d
        · rw [h2] at d
          cases d
    have at_ns : ∀ {b : Addr} {m : Str → Option Value}, s1.heap.Ns b m → (hidT s1.heap H).Ns b m := fun ⟨o, es, ep, e, d, r⟩ => ⟨o, es, ep, hidT_get e (free e fun _ => .inl ⟨es, ep, d⟩), d, r⟩
    have KB : K.In (hidT s1.heap H) := fun b o e => hidT_get (KX b o e) (free (KX b o e) fun q => .inr (by rw [← q]; exact e))
    obtain ⟨mc, c1, c2⟩ := hlim
    have env : Env0 P w K mg (hidT s1.heap H) callerA [] s1 H := ⟨rfl, ⟨KB, at_ns hns, ⟨mb, at_ns hb, hbb⟩, ⟨mc, at_ns c1, c2⟩⟩, fun b o e => of_hidT e, Nat.le_of_eq (hidT_size _ _), trivial, (fun b q => nomatch q), hok, .of_eq hg⟩
    refine codeAny_mono ((F _ KB (at_ns hns)).go callerA [] s1 H ⟨[.ref a], []⟩ [.ref a] [.ref a] _ rfl hr env (hbind s1 (.ref a)) (.cons rfl .nil) (hsp H hS)) fun r s' h => ?_
    cases r with
    | error e => exact h.elim
    | ok fl =>
      cases fl with
      | next => exact h.elim
      | brk => exact h.elim
      | cont => exact h.elim
      | ret u =>
        obtain ⟨v, H', os, bare, un, hok', r', q⟩ := h
        obtain rfl : v = .bl true := q
        obtain rfl : u = Value.bool true := r'
        refine ⟨rfl, OldK.of_keep fun b o e => ?_, os, bare⟩
        cases q : H b with
        | none => exact un.keep b o e q (fun z => nomatch z) (fun z => nomatch z)
        | some u =>
          obtain ⟨_, _, o2, z2, rfl⟩ := hA b u q
          have t1 := (hok b _ q).1
          have t2 := (hok' b _ (un.frzs b o2 _ q)).1
          rw [t1] at e
          cases e
          exact t2
  cases hk : K.lookup a with
  | some o =>
    have e := KX a o hk
    rw [ha] at e
    cases e
    exact main (fun _ => none) (.inr ⟨_, vs.toArray, _, hk, rfl, rfl, rfl, by rw [List.size_toArray, hi.length]; exact hl, rv⟩) (fun _ _ z => nomatch z) fun _ _ z => nomatch z
  | none =>
    have one : ∀ (b : Addr) (u : HO), (if b = a then some (HO.frz { cls := .type "list", data := .seq vs.toArray } (.lst (ns.map V.int))) else none) = some u → b = a ∧ u = HO.frz { cls := .type "list", data := .seq vs.toArray } (.lst (ns.map V.int)) := fun b u z => by
      split at z
      · rename_i e
        exact ⟨e, (Option.some.inj z).symm⟩
      · cases z
    refine main (fun b => if b = a then some (.frz { cls := .type "list", data := .seq vs.toArray } (.lst (ns.map V.int))) else none) (.inl (.inr ⟨_, if_pos rfl⟩)) (fun b u z => ?_) fun b u z => ?_
    · obtain ⟨rfl, rfl⟩ := one b u z
      exact ⟨ha, by rw [List.length_map]; exact hl, vs, _, rv, ha⟩
    · obtain ⟨rfl, rfl⟩ := one b u z
      exact ⟨rfl, hk, _, _, rfl⟩
theorem walkG {l : PySem.W.OpenLaw} {n k : Nat} {q : Program} {loose : List Str} {XP : (Str → Option Value) → Heap → Prop} {YP : World → Heap → Prop} {d : DefRec} {K : Params → PySem.W.Frag} {sp : PySem.W.Frag → Sp} {x : Str}
    (hn : l.most = some n) (hn2 : n ≤ sizeLine) (hdf : d.params.defaults = []) (hr : Room k callerA) (hY : ∀ (w : World) (h : Heap), YP w h → (K w.params).In h)
    (F : ∀ (w : World) (mg : Str → Option Value) (fa : Addr) (h : Heap), (K w.params).In h → h.Ns mainGlobals mg → mg d.name = some (.ref fa) →
      ∃ fd : FuncData, (∀ (s : Shared) (u : Value), BindsTo s fd ⟨[u], []⟩ [(x, u)]) ∧ ∀ base : Heap, (K w.params).In base → base.Ns mainGlobals mg → FnG l.prog w (K w.params) mg base k fa fd [x] (sp (K w.params)))
    (hsp : ∀ (K : PySem.W.Frag) (H : Hp) (a : Addr) (ns : List Int), ns.length ≤ n → SqL K H a (ns.map V.int) → sp K [.ref a] H (fun v _ => v = .bl true) E0) :
    PySem.W.WalkO q loose XP YP l.row.toRowW d [] (fun f vs => PySem.call f vs) := by
  refine Att.attach_call hn hdf fun w s0 s1 mg mb fa o pm cd doc a vs ns G Y ho hd hcd hmg hobj hints hlen hg => ?_
  obtain ⟨fd, hb, hF⟩ := F w mg fa _ (hY w _ Y) G.T.g hmg
  exact endG (hY w _ Y) G.T.g G.T.b G.T.builtins G.T.nolimit hg hobj hints (Nat.le_trans hlen hn2) hr hF hb fun H hS => hsp _ H a ns hlen hS
end Zj
namespace Zj
open PySem L2
/-! repr of a tuple of bounded ints -/
/-- all that repr asks of a datum -/
def Rp (d : PyData) : Prop := d.showable = true ∧ SeqAt.shaped d = true ∧ d.depth < 60 ∧ d.shown.length ≤ sizeLine
theorem rp_of {d : PyData} (h1 : d.showable = true) (h2 : d.canLay0 = true) (h3 : d.depth < 60) (h4 : d.leavesShort 13 = true) (h5 : d.bulk ≤ 2 ^ 20) : Rp d := by
  refine ⟨h1, ?_, h3, PyData.shown_fits_bulk (by decide) (by decide) h4 h5⟩
  unfold SeqAt.shaped
  rw [Bool.and_eq_true]
  exact ⟨h2, decide_eq_true (by omega)⟩
theorem Ver.small {B : Int} {x : List Int} (h : Ver B x) (hB : B < 9999999999999) : ∀ z ∈ x, 0 ≤ z ∧ z < 10 ^ 13 := by
  obtain ⟨a, b, c, k, n, rfl, h1⟩ := h
  intro z hz
  simp only [List.mem_cons, List.not_mem_nil, or_false] at hz
  rcases hz with rfl | rfl | rfl | rfl | rfl <;> omega
theorem Same.new {H : Hp} {p : Addr} {o : HO} (h : H p = none) : Same H (upd H p o) := fun b u e => by
  rw [upd_ne (ne_of_none e h)]
  exact e
theorem Same.out {H H' : Hp} {p : Addr} {o : HO} (k : Same H H') (h : H p = none) : Same H (upd H' p o) := fun b u e => by
  rw [upd_ne (ne_of_none e h)]
  exact k b u e
theorem cutV_map (ns : List Int) (lo hi : Option Int) : ∃ ms : List Int, cutV (ns.map V.int) lo hi = ms.map V.int ∧ ms.length ≤ ns.length := by
  refine ⟨(ns.drop (HT.sIx (ns.map V.int).length 0 lo)).take (HT.sIx (ns.map V.int).length (ns.map V.int).length hi - HT.sIx (ns.map V.int).length 0 lo), ?_, ?_⟩
  · unfold cutV
    rw [List.map_take, List.map_drop]
  · rw [List.length_take, List.length_drop]
    omega
theorem map_get {ns : List Int} {i : Nat} {y : V} (h : (ns.map V.int)[i]? = some y) : ∃ z, ns[i]? = some z ∧ y = V.int z := by
  rw [List.getElem?_map] at h
  cases e : ns[i]? with
  | none =>
    rw [e] at h
    cases h
  | some z =>
    rw [e] at h
    exact ⟨z, rfl, (Option.some.inj h).symm⟩
theorem Ver.len {B : Int} {x : List Int} (h : Ver B x) : x.length = 5 := by
  obtain ⟨a, b, c, k, n, rfl, _⟩ := h
  rfl
theorem Kp.same {d l : Addr} {H H' : Hp} (s : Same H H') : Kp d l H H' := fun b o _ _ e => s b o e
theorem IV.tup {K : PySem.W.Frag} {H : Hp} {p : Addr} {x : List Int} (h : SqT K H p (x.map V.int)) : IV K H (.ref p) x := ⟨p, rfl, h⟩
theorem tyx_tup {K : PySem.W.Frag} {H : Hp} {a : Addr} {xs : List V} (h : SqT K H a xs) : TyX K H (.ref a) (.type "tuple") := by
  rcases h with (h | ⟨o, h⟩) | ⟨o, us, n, h1, h2, _⟩
  · exact .base (.tup h)
  · exact .fTuple h
  · exact .kTuple h1 h2
end Zj

namespace Zj
open PySem L2
/-! ### ranges as data -/
abbrev Vr := List Int
abbrev Pr := Vr × Option Vr
abbrev Rg := List Pr
def HV (K : PySem.W.Frag) (H : Hp) (v : V) : Option Vr → Prop
  | none => v = .non
  | some y => IV K H v y
def PV (K : PySem.W.Frag) (H : Hp) (v : V) (p : Pr) : Prop := ∃ a lo hi, v = .ref a ∧ SqT K H a [lo, hi] ∧ IV K H lo p.1 ∧ HV K H hi p.2
def SV (K : PySem.W.Frag) (H : Hp) (v : V) (r : Rg) : Prop := ∃ a vs, v = .ref a ∧ SqT K H a vs ∧ Paired (PV K H) vs r
theorem HV.tk {K : PySem.W.Frag} {H H' : Hp} {v : V} : ∀ {o : Option Vr}, HV K H v o → TKp K H H' → HV K H' v o
  | none, h, _ => h
  | some _, h, k => h.same k
theorem PV.tk {K : PySem.W.Frag} {H H' : Hp} {v : V} {p : Pr} (h : PV K H v p) (k : TKp K H H') : PV K H' v p := by
  obtain ⟨a, lo, hi, e, h1, h2, h3⟩ := h
  exact ⟨a, lo, hi, e, k _ _ h1, h2.same k, h3.tk k⟩
theorem pvs_tk {K : PySem.W.Frag} {H H' : Hp} (k : TKp K H H') {vs : List V} {r : Rg} (h : Paired (PV K H) vs r) : Paired (PV K H') vs r := L2.Paired.mapP h fun _ _ q => q.tk k
theorem SV.tk {K : PySem.W.Frag} {H H' : Hp} {v : V} {r : Rg} (h : SV K H v r) (k : TKp K H H') : SV K H' v r := by
  obtain ⟨a, vs, e, h1, h2⟩ := h
  exact ⟨a, vs, e, k _ _ h1, pvs_tk k h2⟩
/-- the borders one behind another -/
def flat (r : Rg) : List Vr := r.flatMap fun p => p.1 :: p.2.toList
def PrOK (B : Int) (p : Pr) : Prop := Ver B p.1 ∧ ∀ y, p.2 = some y → Ver B y
def lt (x y : Vr) : Prop := HT.lexLt x y = true
structure RgOK (B : Int) (r : Rg) : Prop where
  ver : ∀ p ∈ r, PrOK B p
  asc : (flat r).Pairwise lt
  fin : ∀ i p, i + 1 < r.length → r[i]? = some p → p.2 ≠ none
def inP (p : Pr) (x : Vr) : Bool := !HT.lexLt x p.1 && (match p.2 with | none => true | some y => HT.lexLt x y)
def inB (r : Rg) (x : Vr) : Bool := r.any fun p => inP p x
/-- adjacent ones ascend -/
def zl (xs : List Vr) : List Bool := List.zipWith HT.lexLt xs (xs.drop 1)
/-! ### data of ranges -/
def HD : Option Vr → PyData
  | none => .none
  | some y => .tuple (y.map PyData.int)
def PD (p : Pr) : PyData := .tuple [.tuple (p.1.map PyData.int), HD p.2]
def RD (r : Rg) : PyData := .tuple (r.map PD)
theorem HV.dp {K : PySem.W.Frag} {H : Hp} {v : V} : ∀ {o : Option Vr}, HV K H v o → Dp K H v (HD o)
  | none, h => by
    cases (show v = V.non from h)
    exact .non
  | some y, h => IV.dp (show IV K H v y from h)
theorem PV.dp {K : PySem.W.Frag} {H : Hp} {v : V} {p : Pr} (h : PV K H v p) : Dp K H v (PD p) := by
  obtain ⟨a, lo, hi, rfl, h1, h2, h3⟩ := h
  exact .tup h1 (.cons h2.dp (.cons h3.dp .nil))
theorem pvs_dp {K : PySem.W.Frag} {H : Hp} : ∀ {vs : List V} {r : Rg}, Paired (PV K H) vs r → DpAll K H vs (r.map PD)
  | _, _, .nil => .nil
  | _, _, .cons h t => .cons h.dp (pvs_dp t)
theorem SV.dp {K : PySem.W.Frag} {H : Hp} {v : V} {r : Rg} (h : SV K H v r) : Dp K H v (RD r) := by
  obtain ⟨a, vs, rfl, h1, h2⟩ := h
  exact .tup h1 (pvs_dp h2)
/-- all that repr asks, part by part -/
structure Rq (d : PyData) (k n : Nat) : Prop where
  sh : d.showable = true
  ly : d.canLay0 = true
  dp : d.depth ≤ k
  lv : d.leavesShort 13 = true
  bk : d.bulk ≤ n
theorem Rq.none : Rq .none 1 0 := ⟨rfl, rfl, by decide, rfl, by decide⟩
theorem Rq.bool (b : Bool) : Rq (.bool b) 1 0 := ⟨rfl, rfl, by simp [PyData.depth], rfl, by simp [PyData.bulk]⟩
theorem Rq.mono {d : PyData} {k n k' n' : Nat} (h : Rq d k n) (h1 : k ≤ k') (h2 : n ≤ n') : Rq d k' n' := ⟨h.sh, h.ly, Nat.le_trans h.dp h1, h.lv, Nat.le_trans h.bk h2⟩
theorem Rq.all {k n : Nat} : ∀ {ds : List PyData}, (∀ d ∈ ds, Rq d k n) → PyData.showableAll ds = true ∧ PyData.canLayAll0 ds = true ∧ PyData.depthAll ds ≤ k ∧ PyData.leavesShortAll 13 ds = true ∧ PyData.bulkAll ds ≤ ds.length * (n + 1)
  | [], _ => ⟨rfl, rfl, by simp [PyData.depthAll], rfl, by simp [PyData.bulkAll]⟩
  | d :: ds, h => by
    have h1 := h d (List.mem_cons.mpr (.inl rfl))
    obtain ⟨a1, a2, a3, a4, a5⟩ := Rq.all (ds := ds) fun e he => h e (List.mem_cons.mpr (.inr he))
    refine ⟨?_, ?_, ?_, ?_, ?_⟩
    · show (d.showable && PyData.showableAll ds) = true
      rw [h1.sh, a1]; rfl
    · show (d.canLay0 && PyData.canLayAll0 ds) = true
      rw [h1.ly, a2]; rfl
    · have := h1.dp
      simp only [PyData.depthAll]
      omega
    · show (d.leavesShort 13 && PyData.leavesShortAll 13 ds) = true
      rw [h1.lv, a4]; rfl
    · have := h1.bk
      simp only [PyData.bulkAll, List.length_cons, Nat.add_mul]
      omega
theorem Rq.tuple {ds : List PyData} {k n m : Nat} (h : ∀ d ∈ ds, Rq d k n) (hl : ds.length * (n + 1) ≤ m) : Rq (.tuple ds) (k + 1) m := by
  obtain ⟨a1, a2, a3, a4, a5⟩ := Rq.all h
  exact ⟨a1, a2, by simp only [PyData.depth]; omega, a4, by show PyData.bulkAll ds ≤ m; omega⟩
theorem Rq.list {ds : List PyData} {k n m : Nat} (h : ∀ d ∈ ds, Rq d k n) (hl : ds.length * (n + 1) ≤ m) : Rq (.list ds) (k + 1) m := by
  obtain ⟨a1, a2, a3, a4, a5⟩ := Rq.all h
  exact ⟨a1, a2, by simp only [PyData.depth]; omega, a4, by show PyData.bulkAll ds ≤ m; omega⟩
/-! ### sorted(set(..)) of versions -/
theorem Ver.bd {B : Int} {x : Vr} (h : Ver B x) (hB : 3 ≤ B) : TS.Bd (B + 1) x := by
  obtain ⟨a, b, c, k, n, rfl, h1⟩ := h
  intro m hm
  simp only [List.mem_cons, List.not_mem_nil, or_false] at hm
  rcases hm with rfl | rfl | rfl | rfl | rfl <;> omega
theorem lx_irr : ∀ x : Vr, HT.lexLt x x = false
  | [] => rfl
  | a :: x => by
    simp only [HT.lexLt]
    rw [if_pos trivial]
    exact lx_irr x
/-! ### pairs out of borders -/
def prs : List Vr → Rg
  | x :: y :: l => (x, some y) :: prs l
  | [x] => [(x, none)]
  | [] => []
end Zj

namespace Zj
open PySem L2
/-! ### operations on ranges -/
theorem lx_trans : ∀ {x y z : Vr}, HT.lexLt x y = true → HT.lexLt y z = true → HT.lexLt x z = true
  | [], [], _, h, _ => by simp [HT.lexLt] at h
  | [], _ :: _, [], _, h => by simp [HT.lexLt] at h
  | [], _ :: _, _ :: _, _, _ => rfl
  | _ :: _, [], _, h, _ => by simp [HT.lexLt] at h
  | _ :: _, _ :: _, [], _, h => by simp [HT.lexLt] at h
  | a :: x, b :: y, c :: z, h, k => by
    simp only [HT.lexLt] at h k ⊢
    by_cases e : a = b
    · subst e
      rw [if_pos rfl] at h
      by_cases e2 : a = c
      · subst e2
        rw [if_pos rfl] at k ⊢
        exact lx_trans h k
      · rw [if_neg e2] at k ⊢
        exact k
    · rw [if_neg e] at h
      have h := of_decide_eq_true h
      by_cases e2 : b = c
      · subst e2
        rw [if_neg e]
        exact decide_eq_true h
      · rw [if_neg e2] at k
        have k := of_decide_eq_true k
        rw [if_neg (by omega)]
        exact decide_eq_true (by omega)
/-- b is not above x -/
def le (b x : Vr) : Bool := !HT.lexLt x b
theorem le_f {b x : Vr} : le b x = false ↔ HT.lexLt x b = true := by unfold le; simp
theorem le_t {b x : Vr} : le b x = true ↔ HT.lexLt x b = false := by unfold le; simp
theorem le_rfl (b : Vr) : le b b = true := le_t.mpr (lx_irr b)
theorem le_back {b c x : Vr} (h : lt b c) (k : le c x = true) : le b x = true := by
  rw [le_t] at k ⊢
  cases e : HT.lexLt x b with
  | false => rfl
  | true => rw [lx_trans e h] at k; cases k
theorem lx_tot : ∀ x y : Vr, HT.lexLt x y = true ∨ x = y ∨ HT.lexLt y x = true
  | [], [] => .inr (.inl rfl)
  | [], _ :: _ => .inl rfl
  | _ :: _, [] => .inr (.inr rfl)
  | a :: x, b :: y => by
    simp only [HT.lexLt]
    by_cases e : a = b
    · subst e
      rw [if_pos rfl, if_pos rfl]
      rcases lx_tot x y with q | q | q
      · exact .inl q
      · exact .inr (.inl (by rw [q]))
      · exact .inr (.inr q)
    · rw [if_neg e, if_neg (fun z => e z.symm)]
      by_cases h : a < b
      · exact .inl (decide_eq_true h)
      · exact .inr (.inr (decide_eq_true (by omega)))
theorem le_trans {c b x : Vr} (h : le c b = true) (k : le b x = true) : le c x = true := by
  rcases lx_tot c b with q | q | q
  · exact le_back q k
  · rw [q]; exact k
  · rw [le_t.mp h] at q; cases q
theorem le_of_lt {b c : Vr} (h : lt b c) : le b c = true := le_back h (le_rfl c)
/-- how many borders are not above x: odd -/
def par : List Vr → Vr → Bool
  | [], _ => false
  | b :: l, x => Bool.xor (le b x) (par l x)
theorem par_above : ∀ {l : List Vr} {x : Vr}, (∀ b ∈ l, le b x = false) → par l x = false
  | [], _, _ => rfl
  | b :: l, x, h => by
    show Bool.xor (le b x) (par l x) = false
    rw [h b (List.mem_cons.mpr (.inl rfl)), par_above fun c hc => h c (List.mem_cons.mpr (.inr hc))]
    rfl
theorem prs_par : ∀ {l : List Vr} {x : Vr}, l.Pairwise lt → inB (prs l) x = par l x
  | [], _, _ => rfl
  | [b], x, _ => by
    show ((le b x && true) || false) = Bool.xor (le b x) false
    cases le b x <;> rfl
  | b :: c :: l, x, h => by
    obtain ⟨h1, h⟩ := List.pairwise_cons.mp h
    obtain ⟨h2, h3⟩ := List.pairwise_cons.mp h
    show ((le b x && HT.lexLt x c) || inB (prs l) x) = Bool.xor (le b x) (Bool.xor (le c x) (par l x))
    rw [prs_par h3]
    have bc := h1 c (List.mem_cons.mpr (.inl rfl))
    cases e : le c x with
    | true =>
      rw [le_back bc e, le_t.mp e]
      cases par l x <;> rfl
    | false =>
      rw [le_f.mp e, par_above fun d hd => le_f.mpr (lx_trans (le_f.mp e) (h2 d hd))]
      cases le b x <;> rfl
theorem prs_of : ∀ {r : Rg}, (∀ i p, i + 1 < r.length → r[i]? = some p → p.2 ≠ none) → r = prs (flat r)
  | [], _ => rfl
  | [(b, none)], _ => rfl
  | [(b, some c)], _ => rfl
  | (b, none) :: q :: r, h => absurd rfl (h 0 (b, none) (by simp) rfl)
  | (b, some c) :: q :: r, h => by
    show _ = (b, some c) :: prs (flat (q :: r))
    rw [← prs_of (r := q :: r) fun i p hi hp => h (i + 1) p (by simpa using hi) (by simpa using hp)]
theorem RgOK.par {B : Int} {r : Rg} (h : RgOK B r) (x : Vr) : inB r x = par (flat r) x := by
  have e := prs_of h.fin
  exact (congrArg (fun s => inB s x) e).trans (prs_par h.asc)
end Zj

namespace Zj
open PySem PySem.Spec PyProof.Rows L2 LamX NdefX
/-! ### a lambda with parameters that captures nothing: made, handed on, called -/
def LamO (f : Addr) (F : NF) (b : Expr) : HO := .ext fun h => ∃ pm ctv : Value, h.get? f = some (PySem.W.kla_obj F.name F.qual F.params b F.scope F.cl pm F.c ctv)
theorem lamO_nt {f : Addr} {F : NF} {b : Expr} (q : Array Value) : LamO f F b ≠ .tbl q := fun z => by unfold LamO at z; cases z
theorem lamO_get {P : Program} {w : World} {H : Hp} {h : Heap} {f : Addr} {F : NF} {b : Expr} (k : HOk P w H h) (e : H f = some (LamO f F b)) : ∃ pm ctv : Value, h.get? f = some (PySem.W.kla_obj F.name F.qual F.params b F.scope F.cl pm F.c ctv) := (k f _ e).1
section
variable {X : Cx} {pins : List (Addr × Obj)} {σ : L2.St} {H : Hp} {s : Shared}
end
/-- what such a lambda promises -/
structure LOk (P : Program) (w : World) (K : PySem.W.Frag) (mg : Str → Option Value) (base : Heap) (k : Nat) (f : Addr) (F : NF) (b : Expr) (ps : List Str) (sp : Sp) : Prop where
  len : ∀ vs H Q E, sp vs H Q E → vs.length = ps.length
  go : ∀ (A : Around) (outer : List Env) (s : Shared) (H : Hp) (us : List Value) (vs : List V) (Q : VK), Room k A → Env0 P w K mg base A outer s H → H f = some (LamO f F b) → H F.c = some (CodeO F.c F.qual) → Vals vs us → sp vs H Q E0 →
    codeAny (model P w) A (.call (.ref f) ⟨us, []⟩) (CR CX0 outer P w H s Q E0) s
/-- f is a function of two bools that answers as g does -/
def Wn (P : Program) (w : World) (K : PySem.W.Frag) (mg : Str → Option Value) (base : Heap) (H : Hp) (f : Addr) (g : Bool → Bool → Bool) : Prop :=
  ∃ (F : NF) (b : Expr) (ps : List Str), H f = some (LamO f F b) ∧ H F.c = some (CodeO F.c F.qual) ∧ LOk P w K mg base 1 f F b ps (fun vs H Q _ => ∃ x y, vs = [.bl x, .bl y] ∧ Q (.bl (g x y)) H)
theorem Wn.ext {P : Program} {w : World} {K : PySem.W.Frag} {mg : Str → Option Value} {base : Heap} {H H' : Hp} {f : Addr} {g : Bool → Bool → Bool} (h : Wn P w K mg base H f g) (e : ExtN H H') : Wn P w K mg base H' f g := by
  obtain ⟨F, b, ps, h1, h2, h3⟩ := h
  exact ⟨F, b, ps, e _ _ h1 lamO_nt, e _ _ h2 codeO_ne, h3⟩
section
variable {X : Cx} {i j : Nat} {x : Str} {t : TA} {e : Expr} {es : List Expr} {p pos : Pos}
theorem Wn.fn {pins : List (Addr × Obj)} {σ : L2.St} {H : Hp} {s : Shared} {P : Program} {w : World} {K : PySem.W.Frag} {mg : Str → Option Value} {base : Heap} {f : Addr} {g : Bool → Bool → Bool} (h : Wn P w K mg base H f g) (I : Inv X pins σ H s) : PySem.W.FnAt f s.heap := by
  obtain ⟨F, b, ps, h1, _⟩ := h
  obtain ⟨pm, ctv, ho⟩ := lamO_get I.hok h1
  exact ⟨_, _, _, _, ho⟩
end
end Zj

namespace Zj
open PySem PySem.Spec PyProof.Rows L2 LamX
end Zj

namespace Zj
open PySem PySem.Spec PyProof.Rows L2

theorem PrOK.mono {B C : Int} {p : Pr} (h : PrOK B p) (hc : B ≤ C) : PrOK C p := ⟨h.1.mono hc, fun y hy => (h.2 y hy).mono hc⟩
theorem RgOK.mono {B C : Int} {r : Rg} (h : RgOK B r) (hc : B ≤ C) : RgOK C r := ⟨fun p hp => (h.ver p hp).mono hc, h.asc, h.fin⟩
end Zj

namespace Zj
open PySem PySem.Spec PyProof.Rows L2
/-! ### min of a list of versions -/
abbrev TD (x : Vr) : PyData := .tuple (x.map PyData.int)
/-! ### where a range's least version lies -/
end Zj

namespace Zj
open PySem L2
/-! ### how many borders two differences have -/
end Zj

namespace Zj
open PySem PySem.Spec PyProof.Rows L2
theorem u65 {k : Nat} {A : Around} (r : Room k A) : A.units + 65 < cLine := by have := r.un; omega
/-! ### stretches between borders -/
end Zj

namespace Zj
open PySem PySem.Spec PyProof.Rows L2
section
variable {X : Cx}
/-- a new tuple is laid -/
theorem laidT {pins : List (Addr × Obj)} {σ : L2.St} {H : Hp} {s : Shared} {Q : VK} {its : List Value} {xs : List V} (I : Inv X pins σ H s) (r : Vals xs its) (z : xs.length ≤ sizeLine)
    (q : ∀ p o, H p = none → o.dict = none → Q (.ref p) (upd H p (.frz o (.tup xs)))) : EP X pins σ Q (.ref s.heap.objs.size) { s with heap := s.heap.push { cls := .type "tuple", data := .seq its.toArray } } := by
  have hf : H s.heap.objs.size = none := I.hok.fresh (Nat.le_refl _)
  exact ⟨.ref s.heap.objs.size, upd H s.heap.objs.size (.frz { cls := .type "tuple", data := .seq its.toArray } (.tup xs)), I.laid (t' := s.toks) (fun b u e => Heap.get?_push_of_some _ e) (Nat.le_refl _) ⟨Heap.get?_push_size _ rfl, z, its, r, ⟨_, Heap.get?_push_size _ rfl, rfl, _, rfl⟩⟩, rfl, q _ _ hf rfl⟩
def tTup (t : TA) : TE := fun σ H Q => t σ H fun xs H1 => xs.length ≤ sizeLine ∧ ∀ p o, H1 p = none → o.dict = none → Q (.ref p) (upd H1 p (.frz o (.tup xs)))
theorem pe_tup {es : List Expr} {t : TA} {pos : Pos} {x1} (h : PA X es t) : PE X (.Tuple es x1 pos) (tTup t) := by
  refine ⟨fun pins s σ H Q I hq => ?_⟩
  exact wpAny_Tuple_spliced (thn (h.run pos pins s σ H _ I hq) fun us s1 ⟨xs, H1, I1, r, z, q⟩ => ⟨by rw [← r.length]; exact z, laidT I1 r z q⟩)
def rCatA (K : PySem.W.Frag) : R2 := fun x y H Q => ∃ a b xs ys, x = .ref a ∧ y = .ref b ∧ SqT K H a xs ∧ SqT K H b ys ∧ xs.length + ys.length ≤ sizeLine ∧
  (xs = [] → Q (.ref b) H) ∧ (xs ≠ [] → ys = [] → Q (.ref a) H) ∧ (xs ≠ [] → ys ≠ [] → ∀ p o, H p = none → o.dict = none → Q (.ref p) (upd H p (.frz o (.tup (xs ++ ys)))))
theorem op_catA : OpR X (binaryOp .Add) (rCatA X.K) := by
  intro pins s σ H x y v u Q I rx ry h
  obtain ⟨a, b, xs, ys, rfl, rfl, ha, hb, hz, q0, q1, q2⟩ := h
  cases rx
  cases ry
  obtain ⟨its, r1, p1, _⟩ := I.tuple ha
  obtain ⟨its2, r2, p2, _⟩ := I.tuple hb
  by_cases hx : xs = []
  · subst hx
    cases r1
    exact cat_tup0 p1 p2 ⟨.ref b, H, I, rfl, q0 rfl⟩
  · refine HT.cat_tup p1 p2 (fun z => hx (r1.nil_iff.mp z)) (fun z => ⟨.ref a, H, I, rfl, q1 hx (r2.nil_iff.mp z)⟩) (fun z => ?_) (by rw [← r1.length, ← r2.length]; exact hz)
    exact laidT I (r1.append r2) (by rw [List.length_append]; exact hz) (q2 hx fun w => z (r2.nil_iff.mpr w))
def rSlA (K : PySem.W.Frag) : V → Option Int → Option Int → Hp → VK → Prop := fun x lo hi H Q => ∃ a xs, x = .ref a ∧ SqT K H a xs ∧
  (HT.sIx xs.length 0 lo = 0 ∧ HT.sIx xs.length xs.length hi = xs.length → Q (.ref a) H) ∧ (¬ (HT.sIx xs.length 0 lo = 0 ∧ HT.sIx xs.length xs.length hi = xs.length) → ∀ p o, H p = none → o.dict = none → Q (.ref p) (upd H p (.frz o (.tup (cutV xs lo hi)))))
theorem sl_tupA : SlR X (rSlA X.K) := by
  intro pins s σ H x v vl vu lo hi sl Q I rx hs pl pu h
  obtain ⟨a, xs, rfl, hx, q1, q2⟩ := h
  cases rx
  obtain ⟨its, r, ht, hz⟩ := I.tuple hx
  have hlen : its.toArray.size = xs.length := by rw [List.size_toArray]; exact r.length.symm
  refine ⟨"tuple", _, PyProof.Rows.slot_tuple_getitem.lookup, ht.typeIs, ?_⟩
  by_cases hw : HT.sIx xs.length 0 lo = 0 ∧ HT.sIx xs.length xs.length hi = xs.length
  · exact getItem_tuple_whole ht hs pl pu (by rw [hlen]; exact hw) ⟨.ref a, H, I, rfl, q1 hw⟩
  · refine HT.getItem_tuple_cut ht hs pl pu (by rw [hlen]; exact hw) ?_ (by rw [hlen]; exact hz)
    rw [hlen]
    exact laidT I ((r.drop (HT.sIx xs.length 0 lo)).take (HT.sIx xs.length xs.length hi - HT.sIx xs.length 0 lo)) (Nat.le_trans (cutV_length xs lo hi) hz) (q2 hw)
theorem call_tuple_of : CallR X (.type "tuple") (fun xs H Q => ∃ p ys, xs = [.ref p] ∧ ((SqL X.K H p ys ∧ ∀ l o, H l = none → o.dict = none → Q (.ref l) (upd H l (.frz o (.tup ys)))) ∨ (SqT X.K H p ys ∧ Q (.ref p) H))) := by
  intro pins s σ H xs us Q I r h
  obtain ⟨p, ys, rfl, h⟩ := h
  obtain ⟨u, rfl, rx⟩ := vals1 r
  cases rx
  rcases h with ⟨hq, q⟩ | ⟨hq, q⟩
  · obtain ⟨its, r', pl, hz⟩ := I.list hq
    have hlen := r'.length
    refine call_tuple_list pl.isList (fun h' kp => ?_) (by simp only [List.size_toArray] <;> omega)
    have I1 : Inv X pins σ H { s with heap := h' } := I.kept (t' := s.toks) kp
    exact laidT I1 r' hz q
  · obtain ⟨its, r', pl, hz⟩ := I.tuple hq
    exact call_tuple_same pl ⟨.ref p, H, I, rfl, q⟩
theorem op_catAKF (K : PySem.W.Frag) (e : X.K = K := by rfl) : OpR X (binaryOp .Add) (rCatA K) := by
  subst e
  exact op_catA
end
end Zj

namespace Zj
open PySem L2
/-! # the data layer: a def's run over plain data, no addresses -/
def SqLo (O : Addr → Prop) (H : Hp) (a : Addr) (xs : List V) : Prop := ¬ O a ∧ H a = some (.lst xs)
/-- ints, texts, .. -/
def scalV : V → Bool
  | .non => true
  | .bl _ => true
  | .int _ => true
  | .str _ => true
  | _ => false
def keyish (xs : List V) : Bool := !xs.isEmpty && xs.all scalV
/-- a tuple that has no dict of its own, or may be the key of a dict -/
def PlT (K : PySem.W.Frag) (H : Hp) (a : Addr) (xs : List V) : Prop := (∃ o, H a = some (.frz o (.tup xs)) ∧ o.dict = none) ∨ (∃ o, K.lookup a = some o ∧ o.dict = none) ∨ keyish xs = true
def SqTo (K : PySem.W.Frag) (O : Addr → Prop) (H : Hp) (a : Addr) (xs : List V) : Prop := SqT K H a xs ∧ PlT K H a xs ∧ (¬ O a ∨ ∀ H', SqT K H' a xs ∧ PlT K H' a xs)
/-- {} -/
def DkO (O : Addr → Prop) (H : Hp) (a : Addr) (kvs : List (Key × V)) : Prop := ¬ O a ∧ ∃ od, H a = some (.frz od (.dK kvs))
def keyD : Key → PyData
  | .inl i => .int i
  | .inr x => .str x
mutual
inductive Dv (K : PySem.W.Frag) (O : Addr → Prop) (H : Hp) : V → PyData → Prop
  | non : Dv K O H .non .none
  | bl (b : Bool) : Dv K O H (.bl b) (.bool b)
  | int (i : Int) : Dv K O H (.int i) (.int i)
  | str (x : Str) : Dv K O H (.str x) (.str x)
  | lst {a : Addr} {xs : List V} {ds : List PyData} : SqLo O H a xs → DvAll K O H xs ds → Dv K O H (.ref a) (.list ds)
  | tup {a : Addr} {xs : List V} {ds : List PyData} : SqTo K O H a xs → DvAll K O H xs ds → Dv K O H (.ref a) (.tuple ds)
  | dic {a : Addr} {kvs : List (Key × V)} {ds : List PyData} : DkO O H a kvs → DvAll K O H (kvs.map fun p => p.2) ds → Dv K O H (.ref a) (.dict ((kvs.map fun p => keyD p.1).zip ds))
inductive DvAll (K : PySem.W.Frag) (O : Addr → Prop) (H : Hp) : List V → List PyData → Prop
  | nil : DvAll K O H [] []
  | cons {v : V} {vs : List V} {d : PyData} {ds : List PyData} : Dv K O H v d → DvAll K O H vs ds → DvAll K O H (v :: vs) (d :: ds)
end
section
variable {K : PySem.W.Frag} {O O' : Addr → Prop} {H H' : Hp}
mutual
theorem Dv.map' (fl : ∀ a xs, SqLo O H a xs → SqLo O' H' a xs) (ft : ∀ a xs, SqTo K O H a xs → SqTo K O' H' a xs) (fd : ∀ a kvs, DkO O H a kvs → DkO O' H' a kvs) : ∀ {v : V} {d : PyData}, Dv K O H v d → Dv K O' H' v d
  | _, _, .non => .non
  | _, _, .bl b => .bl b
  | _, _, .int i => .int i
  | _, _, .str x => .str x
  | _, _, .lst h1 h2 => .lst (fl _ _ h1) (DvAll.map' fl ft fd h2)
  | _, _, .tup h1 h2 => .tup (ft _ _ h1) (DvAll.map' fl ft fd h2)
  | _, _, .dic h1 h2 => .dic (fd _ _ h1) (DvAll.map' fl ft fd h2)
theorem DvAll.map' (fl : ∀ a xs, SqLo O H a xs → SqLo O' H' a xs) (ft : ∀ a xs, SqTo K O H a xs → SqTo K O' H' a xs) (fd : ∀ a kvs, DkO O H a kvs → DkO O' H' a kvs) : ∀ {vs : List V} {ds : List PyData}, DvAll K O H vs ds → DvAll K O' H' vs ds
  | _, _, .nil => .nil
  | _, _, .cons h1 h2 => .cons (Dv.map' fl ft fd h1) (DvAll.map' fl ft fd h2)
end
theorem Dv.map (fl : ∀ a xs, SqLo O H a xs → SqLo O' H' a xs) (ft : ∀ a xs, SqTo K O H a xs → SqTo K O' H' a xs) (fd : ∀ a kvs, DkO O H a kvs → DkO O' H' a kvs) : ∀ (d : PyData) (v : V), Dv K O H v d → Dv K O' H' v d := fun _ _ h => Dv.map' fl ft fd h
theorem DvAll.map (fl : ∀ a xs, SqLo O H a xs → SqLo O' H' a xs) (ft : ∀ a xs, SqTo K O H a xs → SqTo K O' H' a xs) (fd : ∀ a kvs, DkO O H a kvs → DkO O' H' a kvs) : ∀ (ds : List PyData) (vs : List V), DvAll K O H vs ds → DvAll K O' H' vs ds := fun _ _ h => DvAll.map' fl ft fd h
mutual
theorem Dv.dp : ∀ (d : PyData) (v : V), d.hasDict = false → Dv K O H v d → Dp K H v d
  | .none, _, _, h => by cases h; exact .non
  | .bool b, _, _, h => by cases h; exact .bl b
  | .int i, _, _, h => by cases h; exact .int i
  | .str x, _, _, h => by cases h; exact .str x
  | .list ds, _, n, h => by
    cases h with
    | lst h1 h2 => exact .lst (SqL.of h1.2) (DvAll.dp ds _ (by simpa only [PyData.hasDict] using n) h2)
  | .tuple ds, _, n, h => by
    cases h with
    | tup h1 h2 => exact .tup h1.1 (DvAll.dp ds _ (by simpa only [PyData.hasDict] using n) h2)
  | .dict _, _, n, h => by simp [PyData.hasDict] at n
theorem DvAll.dp : ∀ (ds : List PyData) (vs : List V), PyData.hasDictAll ds = false → DvAll K O H vs ds → DpAll K H vs ds
  | [], _, _, h => by cases h; exact .nil
  | d :: ds, _, n, h => by
    cases h with
    | cons h1 h2 =>
      simp only [PyData.hasDictAll, Bool.or_eq_false_iff] at n
      exact .cons (Dv.dp d _ n.1 h1) (DvAll.dp ds _ n.2 h2)
end
theorem DvAll.len : ∀ {vs : List V} {ds : List PyData}, DvAll K O H vs ds → ds.length = vs.length
  | _, _, .nil => rfl
  | _, _, .cons _ h => by rw [List.length_cons, List.length_cons, DvAll.len h]
theorem DvAll.get : ∀ {vs : List V} {ds : List PyData} {i : Nat} {d : PyData}, DvAll K O H vs ds → ds[i]? = some d → ∃ v, vs[i]? = some v ∧ Dv K O H v d
  | _, _, _, _, .nil, h => by simp at h
  | _, _, 0, _, .cons h1 _, h => by
    cases Option.some.inj h
    exact ⟨_, rfl, h1⟩
  | _, _, i + 1, _, .cons _ h2, h => DvAll.get (i := i) h2 h
theorem DvAll.append : ∀ {vs us : List V} {ds es : List PyData}, DvAll K O H vs ds → DvAll K O H us es → DvAll K O H (vs ++ us) (ds ++ es)
  | _, _, _, _, .nil, h => h
  | _, _, _, _, .cons h1 h2, h => .cons h1 (DvAll.append h2 h)
theorem DvAll.take : ∀ {vs : List V} {ds : List PyData} (n : Nat), DvAll K O H vs ds → DvAll K O H (vs.take n) (ds.take n)
  | _, _, 0, _ => .nil
  | _, _, _ + 1, .nil => .nil
  | _, _, n + 1, .cons h1 h2 => .cons h1 (DvAll.take n h2)
theorem DvAll.drop : ∀ {vs : List V} {ds : List PyData} (n : Nat), DvAll K O H vs ds → DvAll K O H (vs.drop n) (ds.drop n)
  | _, _, 0, h => h
  | _, _, _ + 1, .nil => .nil
  | _, _, n + 1, .cons _ h2 => DvAll.drop n h2
theorem DvAll.dropLast : ∀ {vs : List V} {ds : List PyData}, DvAll K O H vs ds → DvAll K O H vs.dropLast ds.dropLast
  | _, _, .nil => .nil
  | [_], _, .cons h1 .nil => .nil
  | _ :: _ :: _, _, .cons h1 (.cons h2 h3) => .cons h1 (DvAll.dropLast (.cons h2 h3))
theorem DvAll.eraseIdx : ∀ {vs : List V} {ds : List PyData} (n : Nat), DvAll K O H vs ds → DvAll K O H (vs.eraseIdx n) (ds.eraseIdx n)
  | _, _, _, .nil => .nil
  | _, _, 0, .cons _ h2 => h2
  | _, _, n + 1, .cons h1 h2 => .cons h1 (DvAll.eraseIdx n h2)
theorem DvAll.reverse : ∀ {vs : List V} {ds : List PyData}, DvAll K O H vs ds → DvAll K O H vs.reverse ds.reverse
  | _, _, .nil => .nil
  | _, _, .cons h1 h2 => by
    rw [List.reverse_cons, List.reverse_cons]
    exact (DvAll.reverse h2).append (.cons h1 .nil)
end
/-- what is not written stays -/
def Ext (W : Addr → Prop) (H H' : Hp) : Prop := ∀ b o, ¬ W b → H b = some o → H' b = some o
theorem Ext.refl {W : Addr → Prop} (H : Hp) : Ext W H H := fun _ _ _ h => h
theorem Ext.trans {W : Addr → Prop} {H H1 H2 : Hp} (a : Ext W H H1) (b : Ext W H1 H2) : Ext W H H2 := fun c o n h => b c o n (a c o n h)
theorem Ext.new {W : Addr → Prop} {H : Hp} {p : Addr} {o : HO} (h : H p = none) : Ext W H (upd H p o) := fun b u _ e => by rw [upd_ne (ne_of_none e h)]; exact e
theorem Ext.mono {W W' : Addr → Prop} {H H' : Hp} (a : Ext W H H') (h : ∀ b, W b → W' b) : Ext W' H H' := fun c o n e => a c o (fun w => n (h c w)) e
theorem Ext.same {W : Addr → Prop} {H H' : Hp} (a : Same H H') : Ext W H H' := fun c o _ e => a c o e
theorem rd_ext {W : Addr → Prop} {H H' : Hp} {a : Addr} {u : HO} (e : Ext W H H') (n : ¬ W a) (h : Rd H a u) : Rd H' a u := by
  rcases h with h | ⟨o, h⟩
  · exact .inl (e _ _ n h)
  · exact .inr ⟨o, e _ _ n h⟩
theorem rd_some {H : Hp} {a : Addr} {u : HO} (h : Rd H a u) : ∃ o, H a = some o := by
  rcases h with h | ⟨o, h⟩
  · exact ⟨_, h⟩
  · exact ⟨_, h⟩
section
variable {K : PySem.W.Frag} {W O O' : Addr → Prop} {H H' : Hp}
theorem SqLo.ext {a : Addr} {xs : List V} (h : SqLo O H a xs) (e : Ext W H H') (w : ∀ b, W b → O b) : SqLo O H' a xs := ⟨h.1, e _ _ (fun z => h.1 (w _ z)) h.2⟩
theorem PlT.ext {a : Addr} {xs : List V} (h : PlT K H a xs) (e : Ext W H H') (n : ¬ W a) : PlT K H' a xs := by
  rcases h with ⟨o, h, d⟩ | h
  · exact .inl ⟨o, e _ _ n h, d⟩
  · exact .inr h
theorem SqTo.ext {a : Addr} {xs : List V} (h : SqTo K O H a xs) (e : Ext W H H') (w : ∀ b, W b → O b) : SqTo K O H' a xs := by
  rcases h with ⟨h1, p1, h2 | h2⟩
  · refine ⟨?_, p1.ext e (fun z => h2 (w _ z)), .inl h2⟩
    rcases h1 with h1 | h1
    · exact .inl (rd_ext e (fun z => h2 (w _ z)) h1)
    · exact .inr h1
  · exact ⟨(h2 H').1, (h2 H').2, .inr h2⟩
theorem DkO.ext {a : Addr} {kvs : List (Key × V)} (h : DkO O H a kvs) (e : Ext W H H') (w : ∀ b, W b → O b) : DkO O H' a kvs := ⟨h.1, h.2.imp fun _ q => e _ _ (fun z => h.1 (w _ z)) q⟩
theorem Dv.ext {v : V} {d : PyData} (h : Dv K O H v d) (e : Ext W H H') (w : ∀ b, W b → O b) : Dv K O H' v d := Dv.map (fun _ _ h => h.ext e w) (fun _ _ h => h.ext e w) (fun _ _ h => h.ext e w) _ _ h
theorem DvAll.ext {v : List V} {d : List PyData} (h : DvAll K O H v d) (e : Ext W H H') (w : ∀ b, W b → O b) : DvAll K O H' v d := DvAll.map (fun _ _ h => h.ext e w) (fun _ _ h => h.ext e w) (fun _ _ h => h.ext e w) _ _ h
theorem SqLo.weak {a : Addr} {xs : List V} (h : SqLo O H a xs) (w : ∀ b, O' b → O b) : SqLo O' H a xs := ⟨fun z => h.1 (w _ z), h.2⟩
theorem SqTo.weak {a : Addr} {xs : List V} (h : SqTo K O H a xs) (w : ∀ b, O' b → O b) : SqTo K O' H a xs := ⟨h.1, h.2.1, h.2.2.elim (fun n => .inl fun z => n (w _ z)) .inr⟩
theorem DkO.weak {a : Addr} {kvs : List (Key × V)} (h : DkO O H a kvs) (w : ∀ b, O' b → O b) : DkO O' H a kvs := ⟨fun z => h.1 (w _ z), h.2⟩
theorem Dv.weak {v : V} {d : PyData} (h : Dv K O H v d) (w : ∀ b, O' b → O b) : Dv K O' H v d := Dv.map (fun _ _ h => h.weak w) (fun _ _ h => h.weak w) (fun _ _ h => h.weak w) _ _ h
theorem DvAll.weak {v : List V} {d : List PyData} (h : DvAll K O H v d) (w : ∀ b, O' b → O b) : DvAll K O' H v d := DvAll.map (fun _ _ h => h.weak w) (fun _ _ h => h.weak w) (fun _ _ h => h.weak w) _ _ h
/-- an address that is not there is in no datum -/
theorem SqLo.fresh {a p : Addr} {xs : List V} (h : SqLo O H a xs) (f : H p = none) (w : ∀ b, O' b → O b ∨ b = p) : SqLo O' H a xs := ⟨fun z => (w _ z).elim h.1 fun e => (ne_of_none h.2 f) e, h.2⟩
theorem SqTo.fresh {a p : Addr} {xs : List V} (h : SqTo K O H a xs) (f : H p = none) (w : ∀ b, O' b → O b ∨ b = p) : SqTo K O' H a xs := by
  refine ⟨h.1, h.2.1, ?_⟩
  rcases h with ⟨h1, p1, h2 | h2⟩
  · rcases h1 with h1 | h1
    · obtain ⟨o, e⟩ := rd_some h1
      exact .inl fun z => (w _ z).elim h2 fun q => ne_of_none e f q
    · rcases p1 with ⟨o, e, _⟩ | p1
      · exact .inl fun z => (w _ z).elim h2 fun q => ne_of_none e f q
      · exact .inr fun H' => ⟨.inr h1, .inr p1⟩
  · exact .inr h2
theorem DkO.fresh {a p : Addr} {kvs : List (Key × V)} (h : DkO O H a kvs) (f : H p = none) (w : ∀ b, O' b → O b ∨ b = p) : DkO O' H a kvs := ⟨fun z => (w _ z).elim h.1 fun e => h.2.elim fun _ q => (ne_of_none q f) e, h.2⟩
theorem Dv.fresh {p : Addr} {v : V} {d : PyData} (h : Dv K O H v d) (f : H p = none) (w : ∀ b, O' b → O b ∨ b = p) : Dv K O' H v d := Dv.map (fun _ _ h => h.fresh f w) (fun _ _ h => h.fresh f w) (fun _ _ h => h.fresh f w) _ _ h
theorem DvAll.fresh {p : Addr} {v : List V} {d : List PyData} (h : DvAll K O H v d) (f : H p = none) (w : ∀ b, O' b → O b ∨ b = p) : DvAll K O' H v d := DvAll.map (fun _ _ h => h.fresh f w) (fun _ _ h => h.fresh f w) (fun _ _ h => h.fresh f w) _ _ h
end
/-! ### the deck, and what a def's run knows -/
structure DkI where
  inv : Addr → Addr → Hp → Prop
  live : ∀ {d l H}, inv d l H → (∃ o, H d = some o) ∧ ∃ o, H l = some o
  keep : Addr → Addr → Addr → Prop
  data : Addr → Addr → Addr → Prop
  kl : ∀ {d l H b}, inv d l H → keep d l b → ∃ o, H b = some o
  stab : ∀ {d l H H'}, inv d l H → H' d = H d → H' l = H l → (∀ b o, keep d l b → H b = some o → H' b = some o) → inv d l H'
structure Gh (I : DkI) where
  H0 : Hp
  O : Addr → Prop
  dk : Option (Addr × Addr)
section
variable {I : DkI}
def Gh.W (G : Gh I) (a : Addr) : Prop := ∃ p, G.dk = some p ∧ (a = p.1 ∨ a = p.2)
def Gh.dok (G : Gh I) (H : Hp) : Prop := ∀ p, G.dk = some p → I.inv p.1 p.2 H
structure Gh.Ok (G : Gh I) : Prop where
  wo : ∀ a, G.W a → G.O a
  kp : ∀ p b, G.dk = some p → I.keep p.1 p.2 b → G.O b ∨ ∃ o, G.H0 b = some o
  dp : ∀ p b, G.dk = some p → I.data p.1 p.2 b → ¬ G.O b ∧ ∃ o, G.H0 b = some o
theorem Gh.dok.liveW {G : Gh I} {H : Hp} (h : G.dok H) {a : Addr} (w : G.W a) : ∃ o, H a = some o := by
  obtain ⟨p, e, z⟩ := w
  rcases z with rfl | rfl
  · exact (I.live (h p e)).1
  · exact (I.live (h p e)).2
theorem Gh.dok.out {G : Gh I} {H H' : Hp} (h : G.dok H) (e : ∀ a, G.W a → H' a = H a) (e2 : ∀ p b o, G.dk = some p → I.keep p.1 p.2 b → H b = some o → H' b = some o) : G.dok H' := fun p q => I.stab (h p q) (e _ ⟨p, q, .inl rfl⟩) (e _ ⟨p, q, .inr rfl⟩) fun b o => e2 p b o q
theorem Gh.dok.new {G : Gh I} {H : Hp} {p : Addr} {o : HO} (h : G.dok H) (f : H p = none) : G.dok (upd H p o) := h.out (fun a w => by
  obtain ⟨u, e⟩ := h.liveW w
  exact upd_ne (ne_of_none e f)) fun _ b u _ _ e => by rw [upd_ne (ne_of_none e f)]; exact e
theorem live_ext {G : Gh I} {H H' : Hp} (e : Ext G.W H H') (h' : G.dok H') {a : Addr} (l : ∃ o, H a = some o) : ∃ o, H' a = some o := by
  by_cases w : G.W a
  · exact h'.liveW w
  · obtain ⟨o, l⟩ := l
    exact ⟨o, e _ _ w l⟩
end
inductive AV where
  | d (x : PyData) | own (xs : List PyData) | bl (xs : List PyData) | dk | fn (f : Addr)
abbrev ASt := List (Option AV)
/-- the built-in classes that are asked about -/
inductive PTy where
  | non | bool | int | str | tup | lst | dic
def PTy.nm : PTy → String
  | .non => "NoneType"
  | .bool => "bool"
  | .int => "int"
  | .str => "str"
  | .tup => "tuple"
  | .lst => "list"
  | .dic => "dict"
inductive R where
  | d (x : PyData) | l (xs : List PyData) | b (xs : List PyData) | o (j : Nat) (xs : List PyData) | dk | ty (n : PTy) | fn (f : Addr)
def ownAt (ρ : ASt) (i : Nat) : Prop := ∃ xs, ρ[i]? = some (some (.own xs))
section
variable {I : DkI} (K : PySem.W.Frag) (G : Gh I)
def Ow (ad : Nat → Addr) (ρ : ASt) (a : Addr) : Prop := G.O a ∨ ∃ i, ownAt ρ i ∧ a = ad i
def Mu (ad : Nat → Addr) (ρ : ASt) (a : Addr) : Prop := G.W a ∨ ∃ i, ownAt ρ i ∧ a = ad i
def SlR (O M : Addr → Prop) (p : Addr) (H : Hp) : Option AV → Option (Option V) → Prop
  | none, _ => True
  | some (.d x), some (some v) => Dv K O H v x
  | some (.own xs), some (some v) => v = .ref p ∧ ∃ vs, H p = some (.lst vs) ∧ DvAll K O H vs xs
  | some (.bl xs), some (some v) => ∃ a vs, v = .ref a ∧ SqLo M H a vs ∧ DvAll K O H vs xs
  | some .dk, some (some v) => ∃ p, G.dk = some p ∧ v = .ref p.1
  | some (.fn f), some (some v) => v = .ref f
  | _, _ => False
structure Con (ad : Nat → Addr) (ρ : ASt) (σ : L2.St) (H : Hp) : Prop where
  ok : G.Ok
  live : ∀ {a}, G.O a → ∃ o, H a = some o
  ownO : ∀ {i}, ownAt ρ i → ¬ G.O (ad i)
  dok : G.dok H
  ext : Ext G.W G.H0 H
  len : ρ.length = σ.length
  sl : ∀ i, SlR K G (Ow G ad ρ) (Mu G ad ρ) (ad i) H ((ρ[i]?).getD none) σ[i]?
  inj : ∀ i j, ownAt ρ i → ownAt ρ j → ad i = ad j → i = j
  fr : ∀ i, ownAt ρ i → G.H0 (ad i) = none
def Rv (ad : Nat → Addr) (ρ : ASt) (H0 H : Hp) (v : V) : R → Prop
  | .d x => Dv K (Ow G ad ρ) H v x
  | .l xs => ∃ p vs, v = .ref p ∧ H0 p = none ∧ H p = some (.lst vs) ∧ DvAll K (fun a => Ow G ad ρ a ∨ a = p) H vs xs
  | .b xs => ∃ a vs, v = .ref a ∧ SqLo (Mu G ad ρ) H a vs ∧ DvAll K (Ow G ad ρ) H vs xs
  | .o j xs => ρ[j]? = some (some (.own xs)) ∧ v = .ref (ad j)
  | .dk => ∃ p, G.dk = some p ∧ v = .ref p.1
  | .ty n => v = .ty n.nm
  | .fn f => v = .ref f
end
section
variable {I : DkI} {K : PySem.W.Frag} {G : Gh I} {ad : Nat → Addr} {ρ : ASt} {σ : L2.St} {H H0 H1 H2 : Hp}
theorem Con.own_get (C : Con K G ad ρ σ H) {i : Nat} {xs : List PyData} (h : ρ[i]? = some (some (.own xs))) : σ[i]? = some (some (.ref (ad i))) ∧ ∃ vs, H (ad i) = some (.lst vs) ∧ DvAll K (Ow G ad ρ) H vs xs := by
  have s := C.sl i
  rw [h] at s
  show _ ∧ _
  cases e : σ[i]? with
  | none => rw [e] at s; exact s.elim
  | some o =>
    cases o with
    | none => rw [e] at s; exact s.elim
    | some v =>
      rw [e] at s
      obtain ⟨rfl, q⟩ := s
      exact ⟨rfl, q⟩
theorem Con.liveO (C : Con K G ad ρ σ H) {a : Addr} (h : Ow G ad ρ a) : ∃ o, H a = some o := by
  rcases h with h | ⟨i, ⟨xs, h⟩, rfl⟩
  · exact C.live h
  · obtain ⟨_, vs, e, _⟩ := C.own_get h
    exact ⟨_, e⟩
theorem Con.freshO (C : Con K G ad ρ σ H) {p : Addr} (f : H p = none) : ¬ Ow G ad ρ p := fun z => by
  obtain ⟨o, e⟩ := C.liveO z
  rw [f] at e
  cases e
theorem Con.mo (C : Con K G ad ρ σ H) {a : Addr} (h : Mu G ad ρ a) : Ow G ad ρ a := h.elim (fun w => .inl (C.ok.wo a w)) .inr
theorem Con.wo (C : Con K G ad ρ σ H) {a : Addr} (h : G.W a) : Ow G ad ρ a := .inl (C.ok.wo a h)
theorem Con.ownW (C : Con K G ad ρ σ H) {i : Nat} (h : ownAt ρ i) : ¬ G.W (ad i) := fun w => C.ownO h (C.ok.wo _ w)
/-- something is evaluated -/
theorem Con.to (C : Con K G ad ρ σ H) (e : Ext G.W H H1) (k : G.dok H1) : Con K G ad ρ σ H1 where
  ok := C.ok
  live := fun h => live_ext e k (C.live h)
  ownO := C.ownO
  dok := k
  ext := C.ext.trans e
  len := C.len
  inj := C.inj
  fr := C.fr
  sl := fun i => by
    have s := C.sl i
    cases h : (ρ[i]?).getD none with
    | none => trivial
    | some av =>
      rw [h] at s
      cases hv : σ[i]? with
      | none => rw [hv] at s; cases av <;> exact s.elim
      | some o =>
        cases o with
        | none => rw [hv] at s; cases av <;> exact s.elim
        | some v =>
          rw [hv] at s
          cases av with
          | d x => exact Dv.ext (s : Dv K _ H v x) e fun b w => C.wo w
          | own xs =>
            obtain ⟨rfl, vs, h1, h2⟩ := s
            have ho : ownAt ρ i := ⟨xs, by
              cases q : ρ[i]? with
              | none => rw [q] at h; cases h
              | some z => rw [q] at h; exact congrArg some h⟩
            exact ⟨rfl, vs, e _ _ (C.ownW ho) h1, h2.ext e fun b w => C.wo w⟩
          | bl xs =>
            obtain ⟨a, vs, rfl, h1, h2⟩ := s
            exact ⟨a, vs, rfl, h1.ext e fun b w => .inl w, h2.ext e fun b w => C.wo w⟩
          | dk => exact s
          | fn f => exact s
theorem Rv.to (C : Con K G ad ρ σ H1) {v : V} {r : R} (h : Rv K G ad ρ H0 H1 v r) (b : ∀ a, G.W a → ∃ o, H0 a = some o) (e : Ext G.W H1 H2) : Rv K G ad ρ H0 H2 v r := by
  cases r with
  | d x => exact Dv.ext (h : Dv K _ H1 v x) e fun b w => C.wo w
  | l xs =>
    obtain ⟨p, vs, rfl, h1, h2, h3⟩ := h
    refine ⟨p, vs, rfl, h1, e _ _ (fun w => ?_) h2, h3.ext e fun b w => .inl (C.wo w)⟩
    obtain ⟨o, q⟩ := b _ w
    rw [h1] at q
    cases q
  | b xs =>
    obtain ⟨a, vs, rfl, h1, h2⟩ := h
    exact ⟨a, vs, rfl, h1.ext e fun b w => .inl w, h2.ext e fun b w => C.wo w⟩
  | o j xs => exact h
  | dk => exact h
  | ty n => exact h
  | fn f => exact h
theorem free_back {H H1 : Hp} {p : Addr} {W : Addr → Prop} (e : Ext W H H1) (b : ∀ a, W a → ∃ o, H1 a = some o) (f : H1 p = none) : H p = none := by
  cases q : H p with
  | none => rfl
  | some o =>
    by_cases w : W p
    · obtain ⟨u, z⟩ := b p w
      rw [f] at z
      cases z
    · rw [e _ _ w q] at f
      cases f
theorem Rv.base {v : V} {r : R} (h : Rv K G ad ρ H1 H2 v r) (e : Ext G.W H0 H1) (k : G.dok H1) : Rv K G ad ρ H0 H2 v r := by
  cases r with
  | l xs =>
    obtain ⟨p, vs, rfl, h1, h2, h3⟩ := h
    exact ⟨p, vs, rfl, free_back e (fun a w => k.liveW w) h1, h2, h3⟩
  | d x => exact h
  | b xs => exact h
  | o j xs => exact h
  | dk => exact h
  | ty n => exact h
  | fn f => exact h
/-- as a list that is read -/
def listOf : R → Option (List PyData)
  | .d (.list xs) => some xs
  | .l xs => some xs
  | .b xs => some xs
  | .o _ xs => some xs
  | _ => none
def viewOf : R → Option PyData
  | .d x => some x
  | .l xs => some (.list xs)
  | .b xs => some (.list xs)
  | .o _ xs => some (.list xs)
  | .dk => none
  | .ty _ => none
  | .fn _ => none
/-- as a datum that may be kept -/
def dataOf : R → Option PyData
  | .d x => some x
  | .l xs => some (.list xs)
  | _ => none
theorem Rv.list (C : Con K G ad ρ σ H1) {v : V} {r : R} {xs : List PyData} (h : Rv K G ad ρ H0 H1 v r) (b : ∀ a, G.W a → ∃ o, H0 a = some o) (e : listOf r = some xs) : ∃ a vs, v = .ref a ∧ H1 a = some (.lst vs) ∧ DvAll K (Ow G ad ρ) H1 vs xs ∧ ¬ G.W a := by
  cases r with
  | d x =>
    cases x with
    | list ys =>
      cases Option.some.inj e
      cases (show Dv K _ H1 v (.list _) from h) with
      | lst h1 h2 => exact ⟨_, _, rfl, h1.2, h2, fun w => h1.1 (C.wo w)⟩
    | none => cases e
    | bool _ => cases e
    | int _ => cases e
    | str _ => cases e
    | tuple _ => cases e
    | dict _ => cases e
  | l ys =>
    cases Option.some.inj e
    obtain ⟨p, vs, rfl, h1, h2, h3⟩ := h
    refine ⟨p, vs, rfl, h2, h3.weak fun b z => .inl z, fun w => ?_⟩
    obtain ⟨o, q⟩ := b _ w
    rw [h1] at q
    cases q
  | b ys =>
    cases Option.some.inj e
    obtain ⟨a, vs, rfl, h1, h2⟩ := h
    exact ⟨a, vs, rfl, h1.2, h2, fun w => h1.1 (.inl w)⟩
  | o j ys =>
    cases Option.some.inj e
    obtain ⟨h1, rfl⟩ := h
    obtain ⟨_, vs, h2, h3⟩ := C.own_get h1
    exact ⟨_, vs, rfl, h2, h3, C.ownW ⟨_, h1⟩⟩
  | dk => cases e
  | ty n => cases e
  | fn f => cases e
theorem Rv.view (C : Con K G ad ρ σ H1) {v : V} {r : R} {x : PyData} (h : Rv K G ad ρ H0 H1 v r) (b : ∀ a, G.W a → ∃ o, H0 a = some o) (e : viewOf r = some x) (n : x.hasDict = false) : Dp K H1 v x := by
  cases r with
  | d y =>
    cases Option.some.inj e
    exact Dv.dp _ _ n h
  | l ys =>
    obtain ⟨a, vs, rfl, h1, h2, _⟩ := Rv.list C h b rfl
    cases Option.some.inj e
    exact .lst (SqL.of h1) (DvAll.dp _ _ (by simpa only [PyData.hasDict] using n) h2)
  | b ys =>
    obtain ⟨a, vs, rfl, h1, h2, _⟩ := Rv.list C h b rfl
    cases Option.some.inj e
    exact .lst (SqL.of h1) (DvAll.dp _ _ (by simpa only [PyData.hasDict] using n) h2)
  | o j ys =>
    obtain ⟨a, vs, rfl, h1, h2, _⟩ := Rv.list C h b rfl
    cases Option.some.inj e
    exact .lst (SqL.of h1) (DvAll.dp _ _ (by simpa only [PyData.hasDict] using n) h2)
  | dk => cases e
  | ty n => cases e
  | fn f => cases e
theorem Rv.data (C : Con K G ad ρ σ H1) {v : V} {r : R} {x : PyData} (h : Rv K G ad ρ H0 H1 v r) (b : ∀ a, Ow G ad ρ a → ∃ o, H0 a = some o) (e : dataOf r = some x) : Dv K (Ow G ad ρ) H1 v x := by
  cases r with
  | d y =>
    cases Option.some.inj e
    exact h
  | l ys =>
    cases Option.some.inj e
    obtain ⟨p, vs, rfl, h1, h2, h3⟩ := h
    refine .lst ⟨fun z => ?_, h2⟩ (h3.weak fun b z => .inl z)
    obtain ⟨o, q⟩ := b _ z
    rw [h1] at q
    cases q
  | b ys => cases e
  | o j ys => cases e
  | dk => cases e
  | ty n => cases e
  | fn f => cases e
end
end Zj

namespace Zj
open PySem L2
abbrev AE := ASt → (R → Prop) → Prop
abbrev AT := ASt → (Bool → Prop) → Prop
abbrev AA := ASt → (List R → Prop) → Prop
/-- between the start of an expression and here -/
structure At {I : DkI} (K : PySem.W.Frag) (G : Gh I) (ad : Nat → Addr) (ρ : ASt) (σ : L2.St) (H0 H : Hp) : Prop where
  c0 : Con K G ad ρ σ H0
  e : Ext G.W H0 H
  k : G.dok H
section
variable {I : DkI} {K : PySem.W.Frag} {G : Gh I} {ad : Nat → Addr} {ρ : ASt} {σ : L2.St} {H H0 H1 H2 : Hp}
theorem At.start (C : Con K G ad ρ σ H) : At K G ad ρ σ H H := ⟨C, Ext.refl _, C.dok⟩
theorem At.con (a : At K G ad ρ σ H0 H) : Con K G ad ρ σ H := a.c0.to a.e a.k
theorem At.to (a : At K G ad ρ σ H0 H1) (e : Ext G.W H1 H2) (k : G.dok H2) : At K G ad ρ σ H0 H2 := ⟨a.c0, a.e.trans e, k⟩
theorem At.bW (a : At K G ad ρ σ H0 H) : ∀ b, G.W b → ∃ o, H0 b = some o := fun _ w => a.c0.dok.liveW w
theorem At.bO (a : At K G ad ρ σ H0 H) : ∀ b, Ow G ad ρ b → ∃ o, H0 b = some o := fun _ w => a.c0.liveO w
theorem At.list (a : At K G ad ρ σ H0 H) {v : V} {r : R} {xs : List PyData} (h : Rv K G ad ρ H0 H v r) (e : listOf r = some xs) : ∃ b vs, v = .ref b ∧ H b = some (.lst vs) ∧ DvAll K (Ow G ad ρ) H vs xs ∧ ¬ G.W b := Rv.list a.con h a.bW e
theorem At.view (a : At K G ad ρ σ H0 H) {v : V} {r : R} {x : PyData} (h : Rv K G ad ρ H0 H v r) (e : viewOf r = some x) (n : SeqAt.shaped x = true) : Dp K H v x := Rv.view a.con h a.bW e (PyData.hasDict_of_canLay x (SeqAt.canLay_of_shaped n))
theorem At.data (a : At K G ad ρ σ H0 H) {v : V} {r : R} {x : PyData} (h : Rv K G ad ρ H0 H v r) (e : dataOf r = some x) : Dv K (Ow G ad ρ) H v x := Rv.data a.con h a.bO e
theorem At.rv (a : At K G ad ρ σ H0 H1) {v : V} {r : R} (h : Rv K G ad ρ H0 H1 v r) (e : Ext G.W H1 H2) : Rv K G ad ρ H0 H2 v r := Rv.to a.con h a.bW e
theorem At.fr (a : At K G ad ρ σ H0 H) {p : Addr} (f : H p = none) : H0 p = none := free_back a.e (fun b w => a.k.liveW w) f
theorem At.frO (a : At K G ad ρ σ H0 H) {p : Addr} (f : H p = none) : ¬ Ow G ad ρ p := a.con.freshO f
theorem At.wO (a : At K G ad ρ σ H0 H) : ∀ b, G.W b → Ow G ad ρ b := fun b w => a.con.wo w
/-- a new tuple -/
theorem At.tup (a : At K G ad ρ σ H0 H) {p : Addr} {o : Obj} {vs : List V} {xs : List PyData} (f : H p = none) (ho : o.dict = none) (h : DvAll K (Ow G ad ρ) H vs xs) : Rv K G ad ρ H0 (upd H p (.frz o (.tup vs))) (.ref p) (.d (.tuple xs)) :=
  .tup ⟨.inl (.inr ⟨o, upd_same⟩), .inl ⟨o, upd_same, ho⟩, .inl (a.frO f)⟩ (h.ext (W := G.W) (Ext.new f) a.wO)
/-- a new list -/
theorem At.lst (a : At K G ad ρ σ H0 H) {p : Addr} {vs : List V} {xs : List PyData} (f : H p = none) (h : DvAll K (Ow G ad ρ) H vs xs) : Rv K G ad ρ H0 (upd H p (.lst vs)) (.ref p) (.l xs) :=
  ⟨p, vs, rfl, a.fr f, upd_same, (h.fresh f (O' := fun b => Ow G ad ρ b ∨ b = p) fun _ z => z).ext (W := G.W) (Ext.new f) fun b w => .inl (a.wO b w)⟩
end
section
variable (I : DkI) (K : PySem.W.Frag)
def EA (t : TE) (T : AE) : Prop := ∀ (G : Gh I) (ad : Nat → Addr) (ρ : ASt) (σ : L2.St) (H : Hp) (Φ : R → Prop) (Q : VK), Con K G ad ρ σ H → T ρ Φ →
  (∀ r v H', Ext G.W H H' → G.dok H' → Rv K G ad ρ H H' v r → Φ r → Q v H') → t σ H Q
def TAb (t : TT) (T : AT) : Prop := ∀ (G : Gh I) (ad : Nat → Addr) (ρ : ASt) (σ : L2.St) (H : Hp) (Φ : Bool → Prop) (Q : Bool → Hp → Prop), Con K G ad ρ σ H → T ρ Φ →
  (∀ b H', Ext G.W H H' → G.dok H' → Φ b → Q b H') → t σ H Q
inductive RvAll {I : DkI} (K : PySem.W.Frag) (G : Gh I) (ad : Nat → Addr) (ρ : ASt) (H0 H : Hp) : List V → List R → Prop
  | nil : RvAll K G ad ρ H0 H [] []
  | cons {v : V} {r : R} {vs : List V} {rs : List R} : Rv K G ad ρ H0 H v r → RvAll K G ad ρ H0 H vs rs → RvAll K G ad ρ H0 H (v :: vs) (r :: rs)
def AAb (t : TA) (T : AA) : Prop := ∀ (G : Gh I) (ad : Nat → Addr) (ρ : ASt) (σ : L2.St) (H0 H : Hp) (Φ : List R → Prop) (Q : List V → Hp → Prop), At K G ad ρ σ H0 H → T ρ Φ →
  (∀ rs vs H', Ext G.W H H' → G.dok H' → RvAll K G ad ρ H0 H' vs rs → Φ rs → Q vs H') → t σ H Q
/-- an operator on two values -/
def OpA (r : R2) (f : R → R → (R → Prop) → Prop) : Prop := ∀ (G : Gh I) (ad : Nat → Addr) (ρ : ASt) (σ : L2.St) (H0 H : Hp) (x y : V) (rx ry : R) (Φ : R → Prop) (Q : VK), At K G ad ρ σ H0 H → Rv K G ad ρ H0 H x rx → Rv K G ad ρ H0 H y ry → f rx ry Φ →
  (∀ r v H', Ext G.W H H' → G.dok H' → Rv K G ad ρ H0 H' v r → Φ r → Q v H') → r x y H Q
def CbA (r : List V → Hp → VK → Prop) (f : List R → (R → Prop) → Prop) : Prop := ∀ (G : Gh I) (ad : Nat → Addr) (ρ : ASt) (σ : L2.St) (H0 H : Hp) (xs : List V) (rs : List R) (Φ : R → Prop) (Q : VK), At K G ad ρ σ H0 H → RvAll K G ad ρ H0 H xs rs → f rs Φ →
  (∀ r v H', Ext G.W H H' → G.dok H' → Rv K G ad ρ H0 H' v r → Φ r → Q v H') → r xs H Q
end
section
variable {I : DkI} {K : PySem.W.Frag}
/-! ### expressions -/
def rdA (i : Nat) : AV → R
  | .d x => .d x
  | .own xs => .o i xs
  | .bl xs => .b xs
  | .dk => .dk
  | .fn f => .fn f
def aVar (i : Nat) : AE := fun ρ Φ => match ρ[i]? with
  | some (some av) => Φ (rdA i av)
  | _ => False
theorem sl_some {G : Gh I} {O M : Addr → Prop} {p : Addr} {H : Hp} {av : AV} {o : Option (Option V)} (h : SlR K G O M p H (some av) o) : ∃ v, o = some (some v) := by
  cases o with
  | none => cases av <;> exact h.elim
  | some o =>
    cases o with
    | none => cases av <;> exact h.elim
    | some v => exact ⟨v, rfl⟩
theorem Con.get {G : Gh I} {ad : Nat → Addr} {ρ : ASt} {σ : L2.St} {H : Hp} (C : Con K G ad ρ σ H) {i : Nat} {av : AV} (h : ρ[i]? = some (some av)) : ∃ v, σ[i]? = some (some v) ∧ Rv K G ad ρ H H v (rdA i av) := by
  have s := C.sl i
  rw [h] at s
  obtain ⟨v, e⟩ := sl_some s
  refine ⟨v, e, ?_⟩
  rw [e] at s
  cases av with
  | d x => exact s
  | own xs =>
    obtain ⟨rfl, _⟩ := s
    exact ⟨h, rfl⟩
  | bl xs => exact s
  | dk => exact s
  | fn f => exact s
theorem ea_var (i : Nat) : EA I K (tVar i) (aVar i) := fun G ad ρ σ H Φ Q C h k => by
  unfold aVar at h
  cases e : ρ[i]? with
  | none => rw [e] at h; exact h.elim
  | some o =>
    cases o with
    | none => rw [e] at h; exact h.elim
    | some av =>
      rw [e] at h
      obtain ⟨v, e2, r⟩ := C.get e
      exact ⟨v, e2, k _ _ _ (Ext.refl _) C.dok r h⟩
def aC (x : PyData) : AE := fun _ Φ => Φ (.d x)
theorem ea_int (i : Int) : EA I K (tC (.int i)) (aC (.int i)) := fun G ad ρ σ H Φ Q C h k => k _ _ _ (Ext.refl _) C.dok (show Rv K G ad ρ H H _ (.d _) from Dv.int i) h
theorem ea_str (i : Str) : EA I K (tC (.str i)) (aC (.str i)) := fun G ad ρ σ H Φ Q C h k => k _ _ _ (Ext.refl _) C.dok (show Rv K G ad ρ H H _ (.d _) from Dv.str i) h
theorem ea_bl (i : Bool) : EA I K (tC (.bl i)) (aC (.bool i)) := fun G ad ρ σ H Φ Q C h k => k _ _ _ (Ext.refl _) C.dok (show Rv K G ad ρ H H _ (.d _) from Dv.bl i) h
def aOp (f : R → R → (R → Prop) → Prop) (Ta Tb : AE) : AE := fun ρ Φ => Ta ρ fun r => Tb ρ fun s => f r s Φ
theorem ea_op {r : R2} {f : R → R → (R → Prop) → Prop} {ta tb : TE} {Ta Tb : AE} (o : OpA I K r f) (a : EA I K ta Ta) (b : EA I K tb Tb) : EA I K (tOp r ta tb) (aOp f Ta Tb) := fun G ad ρ σ H Φ Q C h k => by
  refine a G ad ρ σ H _ _ C h fun rx x H1 e1 k1 v1 h1 => ?_
  have a1 := (At.start C).to e1 k1
  refine b G ad ρ σ H1 _ _ a1.con h1 fun ry y H2 e2 k2 v2 h2 => ?_
  have a2 := a1.to e2 k2
  exact o G ad ρ σ H H2 x y rx ry Φ Q a2 (a1.rv v1 e2) (v2.base e1 k1) h2 fun r v H' e' k' v' h' => k r v H' ((e1.trans e2).trans e') k' v' h'
def fII (C : Int → Int → Prop) (g : Int → Int → PyData) : R → R → (R → Prop) → Prop
  | .d (.int i), .d (.int j), Φ => C i j ∧ Φ (.d (g i j))
  | _, _, _ => False
def fI0 (g : Int → Int → PyData) : R → R → (R → Prop) → Prop
  | .d (.int i), .d (.int j), Φ => Φ (.d (g i j))
  | _, _, _ => False
/-- plain scalars -/
inductive Sc : V → PyData → Prop
  | non : Sc .non .none
  | bl (b : Bool) : Sc (.bl b) (.bool b)
  | int (i : Int) : Sc (.int i) (.int i)
  | str (s : Str) : Sc (.str s) (.str s)
theorem Sc.dv {O : Addr → Prop} {H : Hp} {v : V} {d : PyData} (h : Sc v d) : Dv K O H v d := by
  cases h <;> constructor
theorem oa_I0 {g : Int → Int → V} {g' : Int → Int → PyData} (hg : ∀ i j, Sc (g i j) (g' i j)) : OpA I K (rI0 g) (fI0 g') := fun G ad ρ σ H0 H x y rx ry Φ Q a vx vy h k => by
  match rx, ry, h with
  | .d (.int i), .d (.int j), h =>
    cases (vx : Dv K _ H x (.int i))
    cases (vy : Dv K _ H y (.int j))
    exact ⟨i, j, rfl, rfl, k (.d _) _ _ (Ext.refl _) a.k (hg i j).dv h⟩
theorem oa_I {C : Int → Int → Prop} {g : Int → Int → V} {g' : Int → Int → PyData} (hg : ∀ i j, Sc (g i j) (g' i j)) : OpA I K (rI C g) (fII C g') := fun G ad ρ σ H0 H x y rx ry Φ Q a vx vy h k => by
  match rx, ry, h with
  | .d (.int i), .d (.int j), h =>
    cases (vx : Dv K _ H x (.int i))
    cases (vy : Dv K _ H y (.int j))
    exact ⟨i, j, rfl, rfl, h.1, k (.d _) _ _ (Ext.refl _) a.k (hg i j).dv h.2⟩
theorem oa_add : OpA I K (rI0 fun i j => .int (i + j)) (fI0 fun i j => .int (i + j)) := oa_I0 fun i j => .int _
theorem oa_sub : OpA I K (rI0 fun i j => .int (i - j)) (fI0 fun i j => .int (i - j)) := oa_I0 fun i j => .int _
theorem oa_mod : OpA I K (rI (fun _ j => 0 < j) fun i j => .int (i % j)) (fII (fun _ j => 0 < j) fun i j => .int (i % j)) := oa_I fun i j => .int _
theorem oa_lt : OpA I K (rI0 fun i j => .bl (decide (i < j))) (fI0 fun i j => .bool (decide (i < j))) := oa_I0 fun i j => .bl _
theorem oa_le : OpA I K (rI0 fun i j => .bl (decide (i ≤ j))) (fI0 fun i j => .bool (decide (i ≤ j))) := oa_I0 fun i j => .bl _
theorem oa_gt : OpA I K (rI0 fun i j => .bl (decide (j < i))) (fI0 fun i j => .bool (decide (j < i))) := oa_I0 fun i j => .bl _
/-- == of scalars -/
def eqS : PyData → PyData → Option Bool
  | .int i, .int j => some (decide (i = j))
  | .str i, .str j => some (decide (i = j))
  | .bool i, .bool j => some (decide (i = j))
  | .none, .none => some true
  | .none, .int _ => some false
  | .int _, .none => some false
  | .none, .bool _ => some false
  | .bool _, .none => some false
  | .none, .str _ => some false
  | .str _, .none => some false
  | .int _, .str _ => some false
  | .str _, .int _ => some false
  | .bool _, .str _ => some false
  | .str _, .bool _ => some false
  | _, _ => none
theorem eqS_ok {O : Addr → Prop} {H : Hp} {v w : V} {x y : PyData} {b : Bool} (hv : Dv K O H v x) (hw : Dv K O H w y) (h : eqS x y = some b) : scal v w = true ∧ decide (v = w) = b := by
  cases hv <;> cases hw <;> first
    | (cases h; refine ⟨rfl, ?_⟩; first | rfl | simp)
    | (cases h)
def fEq : R → R → (R → Prop) → Prop
  | .d x, .d y, Φ => match eqS x y with
    | some b => Φ (.d (.bool b))
    | none => False
  | _, _, _ => False
def fNe : R → R → (R → Prop) → Prop
  | .d x, .d y, Φ => match eqS x y with
    | some b => Φ (.d (.bool !b))
    | none => False
  | _, _, _ => False
theorem oa_eq : OpA I K rEq fEq := fun G ad ρ σ H0 H x y rx ry Φ Q a vx vy h k => by
  match rx, ry, h with
  | .d d, .d e, h =>
    unfold fEq at h
    cases q : eqS d e with
    | none => simp only [q] at h
    | some b =>
      simp only [q] at h
      obtain ⟨h1, h2⟩ := eqS_ok vx vy q
      exact ⟨h1, k (.d _) _ _ (Ext.refl _) a.k (by rw [h2]; exact Dv.bl b) h⟩
theorem oa_ne : OpA I K rNe fNe := fun G ad ρ σ H0 H x y rx ry Φ Q a vx vy h k => by
  match rx, ry, h with
  | .d d, .d e, h =>
    unfold fNe at h
    cases q : eqS d e with
    | none => simp only [q] at h
    | some b =>
      simp only [q] at h
      obtain ⟨h1, h2⟩ := eqS_ok vx vy q
      exact ⟨h1, k (.d _) _ _ (Ext.refl _) a.k (by rw [h2]; exact Dv.bl _) h⟩
def fAddS : R → R → (R → Prop) → Prop
  | .d (.str i), .d (.str j), Φ => i.length + j.length ≤ sizeLine ∧ Φ (.d (.str (i ++ j)))
  | _, _, _ => False
def fCatT : R → R → (R → Prop) → Prop
  | .d (.tuple xs), .d (.tuple ys), Φ => xs.length + ys.length ≤ sizeLine ∧ Φ (.d (.tuple (xs ++ ys)))
  | _, _, _ => False
theorem oa_catA : OpA I K (rCatA K) fCatT := fun G ad ρ σ H0 H x y rx ry Φ Q a vx vy h k => by
  match rx, ry, h with
  | .d (.tuple xs), .d (.tuple ys), h =>
    cases (vx : Dv K _ H x (.tuple xs)) with
    | tup t1 d1 =>
      cases (vy : Dv K _ H y (.tuple ys)) with
      | tup t2 d2 =>
        have l1 := d1.len
        have l2 := d2.len
        have dd := d1.append d2
        refine ⟨_, _, _, _, rfl, rfl, t1.1, t2.1, by rw [← l1, ← l2]; exact h.1, fun e => ?_, fun _ e => ?_, fun _ _ p o hp ho => ?_⟩
        · subst e
          cases d1
          exact k (.d _) _ _ (Ext.refl _) a.k (show Rv K G ad ρ H0 H _ (.d _) from Dv.tup t2 d2) h.2
        · subst e
          cases d2
          refine k (.d _) _ _ (Ext.refl _) a.k (show Rv K G ad ρ H0 H _ (.d _) from Dv.tup t1 d1) ?_
          have := h.2
          rw [List.append_nil] at this
          exact this
        · exact k _ _ _ (Ext.new hp) (a.k.new hp) (a.tup hp ho dd) h.2
end
end Zj

namespace Zj
open PySem L2
section
variable {I : DkI} {K : PySem.W.Frag}
/-! ### tests -/
def onB : R → (Bool → Prop) → Prop
  | .d (.bool b), Φ => Φ b
  | _, _ => False
def aB (T : AE) : AT := fun ρ Φ => T ρ fun r => onB r Φ
theorem b_of {G : Gh I} {ad : Nat → Addr} {ρ : ASt} {H0 H : Hp} {r : R} {v : V} {Φ : Bool → Prop} (v1 : Rv K G ad ρ H0 H v r) (h1 : onB r Φ) : ∃ b, v = .bl b ∧ Φ b := by
  match r, h1 with
  | .d (.bool b), h1 =>
    cases (v1 : Dv K _ H v (.bool b))
    exact ⟨b, rfl, h1⟩
theorem ta_test {t : TE} {T : AE} (a : EA I K t T) : TAb I K (tTest t) (aB T) := fun G ad ρ σ H Φ Q C h k => by
  refine a G ad ρ σ H _ _ C h fun r v H1 e1 k1 v1 h1 => ?_
  obtain ⟨b, rfl, h1⟩ := b_of v1 h1
  exact ⟨b, rfl, k b H1 e1 k1 h1⟩
theorem ta_b {t : TE} {T : AE} (a : EA I K t T) : TAb I K (tB t) (aB T) := fun G ad ρ σ H Φ Q C h k => by
  refine a G ad ρ σ H _ _ C h fun r v H1 e1 k1 v1 h1 => ?_
  obtain ⟨b, rfl, h1⟩ := b_of v1 h1
  exact ⟨b, rfl, k b H1 e1 k1 h1⟩
def aNot (T : AT) : AT := fun ρ Φ => T ρ fun b => Φ (!b)
def aAnd (T U : AT) : AT := fun ρ Φ => T ρ fun b => if b = true then U ρ Φ else Φ false
def aOr (T U : AT) : AT := fun ρ Φ => T ρ fun b => if b = true then Φ true else U ρ Φ
theorem ta_not {t : TT} {T : AT} (a : TAb I K t T) : TAb I K (tNot t) (aNot T) := fun G ad ρ σ H Φ Q C h k => a G ad ρ σ H _ _ C h fun b H1 e1 k1 h1 => k _ H1 e1 k1 h1
theorem ta_or {t u : TT} {T U : AT} (a : TAb I K t T) (b : TAb I K u U) : TAb I K (tOr t u) (aOr T U) := fun G ad ρ σ H Φ Q C h k => by
  refine a G ad ρ σ H _ _ C h fun c H1 e1 k1 h1 => ?_
  cases c with
  | false => exact iteF (b G ad ρ σ H1 _ _ (C.to e1 k1) (by rw [if_neg Bool.false_ne_true] at h1; exact h1) fun d H2 e2 k2 h2 => k d H2 (e1.trans e2) k2 h2)
  | true => exact iteT (k _ H1 e1 k1 (by rw [if_pos rfl] at h1; exact h1))
/-- with a base further back -/
theorem EA.at {t : TE} {T : AE} (a : EA I K t T) {G : Gh I} {ad : Nat → Addr} {ρ : ASt} {σ : L2.St} {H0 H : Hp} {Φ : R → Prop} {Q : VK} (A : At K G ad ρ σ H0 H) (h : T ρ Φ)
    (k : ∀ r v H', Ext G.W H H' → G.dok H' → Rv K G ad ρ H0 H' v r → Φ r → Q v H') : t σ H Q := a G ad ρ σ H Φ Q A.con h fun r v H' e k' v' h' => k r v H' e k' (v'.base A.e A.k) h'
/-! ### values by and, or, not, if -/
def aAndV (T U : AE) : AE := fun ρ Φ => T ρ fun r => onB r fun b => if b = true then U ρ Φ else Φ (.d (.bool false))
def aOrV (T U : AE) : AE := fun ρ Φ => T ρ fun r => onB r fun b => if b = true then Φ (.d (.bool true)) else U ρ Φ
def aNotV (T : AE) : AE := fun ρ Φ => T ρ fun r => onB r fun b => Φ (.d (.bool !b))
theorem ea_not {t : TE} {T : AE} (a : EA I K t T) : EA I K (tNotV t) (aNotV T) := fun G ad ρ σ H Φ Q C h k => by
  refine a G ad ρ σ H _ _ C h fun r v H1 e1 k1 v1 h1 => ?_
  obtain ⟨b, rfl, h1⟩ := b_of (Φ := fun b => Φ (.d (.bool !b))) v1 h1
  exact ⟨b, rfl, k (.d _) _ H1 e1 k1 (Dv.bl _) h1⟩
theorem ea_and {t u : TE} {T U : AE} (a : EA I K t T) (b : EA I K u U) : EA I K (tAndV t u) (aAndV T U) := fun G ad ρ σ H Φ Q C h k => by
  refine a G ad ρ σ H _ _ C h fun r v H1 e1 k1 v1 h1 => ?_
  obtain ⟨c, rfl, h1⟩ := b_of (Φ := fun b => if b = true then U ρ Φ else Φ (.d (.bool false))) v1 h1
  refine ⟨c, rfl, ?_⟩
  cases c with
  | true => exact iteT (b.at ((At.start C).to e1 k1) (by rw [if_pos rfl] at h1; exact h1) fun r v H2 e2 k2 v2 h2 => k r v H2 (e1.trans e2) k2 v2 h2)
  | false => exact iteF (k (.d _) _ H1 e1 k1 (Dv.bl _) (by rw [if_neg Bool.false_ne_true] at h1; exact h1))
theorem ea_or {t u : TE} {T U : AE} (a : EA I K t T) (b : EA I K u U) : EA I K (tOrV t u) (aOrV T U) := fun G ad ρ σ H Φ Q C h k => by
  refine a G ad ρ σ H _ _ C h fun r v H1 e1 k1 v1 h1 => ?_
  obtain ⟨c, rfl, h1⟩ := b_of (Φ := fun b => if b = true then Φ (.d (.bool true)) else U ρ Φ) v1 h1
  refine ⟨c, rfl, ?_⟩
  cases c with
  | false => exact iteF (b.at ((At.start C).to e1 k1) (by rw [if_neg Bool.false_ne_true] at h1; exact h1) fun r v H2 e2 k2 v2 h2 => k r v H2 (e1.trans e2) k2 v2 h2)
  | true => exact iteT (k (.d _) _ H1 e1 k1 (Dv.bl _) (by rw [if_pos rfl] at h1; exact h1))
def aIf (C : AT) (T U : AE) : AE := fun ρ Φ => C ρ fun b => if b = true then T ρ Φ else U ρ Φ
theorem ea_if {c : TT} {t u : TE} {C : AT} {T U : AE} (cc : TAb I K c C) (a : EA I K t T) (b : EA I K u U) : EA I K (tIf c t u) (aIf C T U) := fun G ad ρ σ H Φ Q Cn h k => by
  refine cc G ad ρ σ H _ _ Cn h fun b' H1 e1 k1 h1 => ?_
  cases b' with
  | true => exact iteT (a.at ((At.start Cn).to e1 k1) (by rw [if_pos rfl] at h1; exact h1) fun r v H2 e2 k2 v2 h2 => k r v H2 (e1.trans e2) k2 v2 h2)
  | false => exact iteF (b.at ((At.start Cn).to e1 k1) (by rw [if_neg Bool.false_ne_true] at h1; exact h1) fun r v H2 e2 k2 v2 h2 => k r v H2 (e1.trans e2) k2 v2 h2)
def aChain (f g : R → R → (R → Prop) → Prop) (Ta Tb Tc : AE) : AE := fun ρ Φ => Ta ρ fun x => Tb ρ fun y => f x y fun z => onB z fun k => if k = true then Tc ρ (fun w => g y w Φ) else Φ (.d (.bool false))
theorem ea_chain {r s : R2} {f g : R → R → (R → Prop) → Prop} {ta tb tc : TE} {Ta Tb Tc : AE} (o : OpA I K r f) (p : OpA I K s g) (a : EA I K ta Ta) (b : EA I K tb Tb) (c : EA I K tc Tc) : EA I K (tChain r s ta tb tc) (aChain f g Ta Tb Tc) := fun G ad ρ σ H Φ Q C h k => by
  refine a G ad ρ σ H _ _ C h fun rx x H1 e1 k1 v1 h1 => ?_
  have a1 := (At.start C).to e1 k1
  refine b.at a1 h1 fun ry y H2 e2 k2 v2 h2 => ?_
  have a2 := a1.to e2 k2
  refine o G ad ρ σ H H2 x y rx ry _ _ a2 (a1.rv v1 e2) v2 h2 fun rz z H3 e3 k3 v3 h3 => ?_
  obtain ⟨b', rfl, h3⟩ := b_of (Φ := fun b => if b = true then Tc ρ (fun w => g ry w Φ) else Φ (.d (.bool false))) v3 h3
  have a3 := a2.to e3 k3
  refine ⟨b', rfl, ?_⟩
  cases b' with
  | true => exact iteT (c.at a3 (by rw [if_pos rfl] at h3; exact h3) fun rw' w H4 e4 k4 v4 h4 => p G ad ρ σ H H4 y w ry rw' Φ Q (a3.to e4 k4) (a3.rv (a2.rv v2 e3) e4) v4 h4 fun r v H' e' k' v' h' => k r v H' ((((e1.trans e2).trans e3).trans e4).trans e') k' v' h')
  | false => exact iteF (k (.d _) _ H3 ((e1.trans e2).trans e3) k3 (Dv.bl _) (by rw [if_neg Bool.false_ne_true] at h3; exact h3))
/-! ### several, tuples, lists -/
def aNil : AA := fun _ Φ => Φ []
def aCons (T : AE) (U : AA) : AA := fun ρ Φ => T ρ fun r => U ρ fun rs => Φ (r :: rs)
theorem RvAll.to {G : Gh I} {ad : Nat → Addr} {ρ : ASt} {σ : L2.St} {H0 H1 H2 : Hp} (A : At K G ad ρ σ H0 H1) (e : Ext G.W H1 H2) : ∀ {vs : List V} {rs : List R}, RvAll K G ad ρ H0 H1 vs rs → RvAll K G ad ρ H0 H2 vs rs
  | _, _, .nil => .nil
  | _, _, .cons h t => .cons (A.rv h e) (RvAll.to A e t)
theorem aa_nil : AAb I K tNil aNil := fun G ad ρ σ H0 H Φ Q A h k => k _ _ _ (Ext.refl _) A.k .nil h
theorem aa_cons {t : TE} {u : TA} {T : AE} {U : AA} (a : EA I K t T) (b : AAb I K u U) : AAb I K (tCons t u) (aCons T U) := fun G ad ρ σ H0 H Φ Q A h k => by
  refine a.at A h fun r v H1 e1 k1 v1 h1 => ?_
  have A1 := A.to e1 k1
  exact b G ad ρ σ H0 H1 _ _ A1 h1 fun rs vs H2 e2 k2 v2 h2 => k _ _ _ (e1.trans e2) k2 (.cons (A1.rv v1 e2) v2) h2
def dataAll : List R → Option (List PyData)
  | [] => some []
  | r :: rs => match dataOf r, dataAll rs with
    | some x, some xs => some (x :: xs)
    | _, _ => none
theorem RvAll.data {G : Gh I} {ad : Nat → Addr} {ρ : ASt} {σ : L2.St} {H0 H : Hp} (A : At K G ad ρ σ H0 H) : ∀ {vs : List V} {rs : List R} {xs : List PyData}, RvAll K G ad ρ H0 H vs rs → dataAll rs = some xs → DvAll K (Ow G ad ρ) H vs xs
  | _, _, _, .nil, e => by cases Option.some.inj e; exact .nil
  | _, _, _, .cons (r := r) (rs := rs) h t, e => by
    unfold dataAll at e
    cases e1 : dataOf r with
    | none => simp only [e1] at e; cases e
    | some x =>
      cases e2 : dataAll rs with
      | none => simp only [e1, e2] at e; cases e
      | some xs =>
        simp only [e1, e2] at e
        cases Option.some.inj e
        exact .cons (A.data h e1) (RvAll.data A t e2)
def aTup (U : AA) : AE := fun ρ Φ => U ρ fun rs => match dataAll rs with
  | some xs => xs.length ≤ sizeLine ∧ Φ (.d (.tuple xs))
  | none => False
def aLst (U : AA) : AE := fun ρ Φ => U ρ fun rs => match dataAll rs with
  | some xs => xs.length ≤ sizeLine ∧ Φ (.l xs)
  | none => False
theorem ea_tup {u : TA} {U : AA} (b : AAb I K u U) : EA I K (tTup u) (aTup U) := fun G ad ρ σ H Φ Q C h k => by
  refine b G ad ρ σ H H _ _ (At.start C) h fun rs vs H1 e1 k1 v1 h1 => ?_
  have A1 := (At.start C).to e1 k1
  cases e : dataAll rs with
  | none => simp only [e] at h1
  | some xs =>
    simp only [e] at h1
    have d := v1.data A1 e
    exact ⟨by rw [← d.len]; exact h1.1, fun p o hp ho => k _ _ _ (e1.trans (Ext.new hp)) (k1.new hp) (A1.tup hp ho d) h1.2⟩
theorem ea_lst {u : TA} {U : AA} (b : AAb I K u U) : EA I K (tLst u) (aLst U) := fun G ad ρ σ H Φ Q C h k => by
  refine b G ad ρ σ H H _ _ (At.start C) h fun rs vs H1 e1 k1 v1 h1 => ?_
  have A1 := (At.start C).to e1 k1
  cases e : dataAll rs with
  | none => simp only [e] at h1
  | some xs =>
    simp only [e] at h1
    have d := v1.data A1 e
    exact ⟨by rw [← d.len]; exact h1.1, fun p hp => k _ _ _ (e1.trans (Ext.new hp)) (k1.new hp) (A1.lst hp d) h1.2⟩
/-! ### built-in calls -/
def aCB (f : List R → (R → Prop) → Prop) (U : AA) : AE := fun ρ Φ => U ρ fun rs => f rs Φ
theorem ea_cb {r : List V → Hp → VK → Prop} {f : List R → (R → Prop) → Prop} {u : TA} {U : AA} (o : CbA I K r f) (b : AAb I K u U) : EA I K (tCB r u) (aCB f U) := fun G ad ρ σ H Φ Q C h k => by
  refine b G ad ρ σ H H _ _ (At.start C) h fun rs vs H1 e1 k1 v1 h1 => ?_
  exact o G ad ρ σ H H1 vs rs Φ Q ((At.start C).to e1 k1) v1 h1 fun r v H' e' k' v' h' => k r v H' (e1.trans e') k' v' h'
theorem rv1 {G : Gh I} {ad : Nat → Addr} {ρ : ASt} {H0 H : Hp} {xs : List V} {r : R} (h : RvAll K G ad ρ H0 H xs [r]) : ∃ v, xs = [v] ∧ Rv K G ad ρ H0 H v r := by
  cases h with
  | cons h t => cases t; exact ⟨_, rfl, h⟩
theorem rv2 {G : Gh I} {ad : Nat → Addr} {ρ : ASt} {H0 H : Hp} {xs : List V} {r s : R} (h : RvAll K G ad ρ H0 H xs [r, s]) : ∃ v w, xs = [v, w] ∧ Rv K G ad ρ H0 H v r ∧ Rv K G ad ρ H0 H w s := by
  cases h with
  | cons h t =>
    obtain ⟨w, rfl, h2⟩ := rv1 t
    exact ⟨_, _, rfl, h, h2⟩
/-- a list or a tuple -/
def seqOf : R → Option (List PyData)
  | .d (.tuple xs) => some xs
  | r => listOf r
theorem At.seq {G : Gh I} {ad : Nat → Addr} {ρ : ASt} {σ : L2.St} {H0 H : Hp} (A : At K G ad ρ σ H0 H) {v : V} {r : R} {xs : List PyData} (h : Rv K G ad ρ H0 H v r) (e : seqOf r = some xs) : ∃ a vs, v = .ref a ∧ ((SqL K H a vs ∧ listOf r = some xs) ∨ (SqTo K (Ow G ad ρ) H a vs ∧ r = .d (.tuple xs))) ∧ DvAll K (Ow G ad ρ) H vs xs := by
  unfold seqOf at e
  split at e
  · cases Option.some.inj e
    cases (show Dv K _ H v (.tuple _) from h) with
    | tup h1 h2 => exact ⟨_, _, rfl, .inr ⟨h1, rfl⟩, h2⟩
  · obtain ⟨a, vs, rfl, h1, h2, _⟩ := A.list h e
    exact ⟨a, vs, rfl, .inl ⟨SqL.of h1, e⟩, h2⟩
def fLen : List R → (R → Prop) → Prop
  | [r], Φ => match seqOf r with
    | some xs => Φ (.d (.int xs.length))
    | none => False
  | _, _ => False
theorem cb_len : CbA I K (fun xs H Q => ∃ p ys, xs = [.ref p] ∧ (SqL K H p ys ∨ SqT K H p ys) ∧ Q (.int ys.length) H) fLen := fun G ad ρ σ H0 H xs rs Φ Q A hv h k => by
  match rs, h with
  | [r], h =>
    obtain ⟨v, rfl, hw1⟩ := rv1 hv
    unfold fLen at h
    cases e : seqOf r with
    | none => simp only [e] at h
    | some ys =>
      simp only [e] at h
      obtain ⟨a, vs, rfl, h1, h2⟩ := A.seq hw1 e
      refine ⟨a, vs, rfl, h1.elim (fun z => .inl z.1) (fun z => .inr z.1.1), k (.d _) _ _ (Ext.refl _) A.k ?_ h⟩
      rw [h2.len]
      exact Dv.int _
def fLenS : List R → (R → Prop) → Prop
  | [.d (.str z)], Φ => z.length ≤ sizeLine ∧ Φ (.d (.int z.length))
  | _, _ => False
theorem cb_lenS : CbA I K (fun xs H Q => ∃ z, xs = [.str z] ∧ z.length ≤ sizeLine ∧ Q (.int z.length) H) fLenS := fun G ad ρ σ H0 H xs rs Φ Q A hv h k => by
  match rs, h with
  | [.d (.str z)], h =>
    obtain ⟨v, rfl, hw1⟩ := rv1 hv
    cases (hw1 : Dv K _ H v (.str z))
    exact ⟨z, rfl, h.1, k (.d _) _ _ (Ext.refl _) A.k (Dv.int _) h.2⟩
def fInt1 : List R → (R → Prop) → Prop
  | [.d (.int i)], Φ => Φ (.d (.int i))
  | [.d (.bool b)], Φ => Φ (.d (.int (if b then 1 else 0)))
  | _, _ => False
theorem cb_int1 : CbA I K (fun xs H Q => (∃ i, xs = [.int i] ∧ Q (.int i) H) ∨ ∃ k, xs = [.bl k] ∧ Q (.int (if k then 1 else 0)) H) fInt1 := fun G ad ρ σ H0 H xs rs Φ Q A hv h k => by
  match rs, h with
  | [.d (.int z)], h =>
    obtain ⟨v, rfl, hw1⟩ := rv1 hv
    cases (hw1 : Dv K _ H v (.int z))
    exact .inl ⟨z, rfl, k (.d _) _ _ (Ext.refl _) A.k (Dv.int _) h⟩
  | [.d (.bool z)], h =>
    obtain ⟨v, rfl, hw1⟩ := rv1 hv
    cases (hw1 : Dv K _ H v (.bool z))
    exact .inr ⟨z, rfl, k (.d _) _ _ (Ext.refl _) A.k (Dv.int _) h⟩
def fStrI : List R → (R → Prop) → Prop
  | [.d (.int i)], Φ => i.natAbs.log2 < 1920 ∧ Φ (.d (.str (toString i)))
  | _, _ => False
def fMax2 : List R → (R → Prop) → Prop
  | [.d (.int i), .d (.int j)], Φ => Φ (.d (.int (if j > i then j else i)))
  | _, _ => False
def fListOf : List R → (R → Prop) → Prop
  | [r], Φ => match seqOf r with
    | some xs => Φ (.l xs)
    | none => False
  | _, _ => False
theorem cb_listOf : CbA I K (fun xs H Q => ∃ p ys, xs = [.ref p] ∧ (SqL K H p ys ∨ SqT K H p ys) ∧ ∀ l, H l = none → Q (.ref l) (upd H l (.lst ys))) fListOf := fun G ad ρ σ H0 H xs rs Φ Q A hv h k => by
  match rs, h with
  | [r], h =>
    obtain ⟨v, rfl, hw1⟩ := rv1 hv
    unfold fListOf at h
    cases e : seqOf r with
    | none => simp only [e] at h
    | some ys =>
      simp only [e] at h
      obtain ⟨a, vs, rfl, h1, h2⟩ := A.seq hw1 e
      exact ⟨a, vs, rfl, h1.elim (fun z => .inl z.1) (fun z => .inr z.1.1), fun l hl => k _ _ _ (Ext.new hl) (A.k.new hl) (A.lst hl h2) h⟩
def fTupOf : List R → (R → Prop) → Prop
  | [r], Φ => match seqOf r with
    | some xs => Φ (.d (.tuple xs))
    | none => False
  | _, _ => False
theorem cb_tupOf : CbA I K (fun xs H Q => ∃ p ys, xs = [.ref p] ∧ ((SqL K H p ys ∧ ∀ l o, H l = none → o.dict = none → Q (.ref l) (upd H l (.frz o (.tup ys)))) ∨ (SqT K H p ys ∧ Q (.ref p) H))) fTupOf := fun G ad ρ σ H0 H xs rs Φ Q A hv h k => by
  match rs, h with
  | [r], h =>
    obtain ⟨v, rfl, hw1⟩ := rv1 hv
    unfold fTupOf at h
    cases e : seqOf r with
    | none => simp only [e] at h
    | some ys =>
      simp only [e] at h
      obtain ⟨a, vs, rfl, h1, h2⟩ := A.seq hw1 e
      refine ⟨a, vs, rfl, h1.elim (fun z => .inl ⟨z.1, fun l o hl ho => k _ _ _ (Ext.new hl) (A.k.new hl) (A.tup hl ho h2) h⟩) (fun z => .inr ⟨z.1.1, k (.d _) _ _ (Ext.refl _) A.k ?_ h⟩)⟩
      obtain ⟨z1, rfl⟩ := z
      cases Option.some.inj e
      exact hw1
def boolsOf : List PyData → Option (List Bool)
  | [] => some []
  | .bool b :: xs => match boolsOf xs with
    | some bs => some (b :: bs)
    | none => none
  | _ :: _ => none
theorem DvAll.bools {O : Addr → Prop} {H : Hp} : ∀ {vs : List V} {xs : List PyData} {bs : List Bool}, DvAll K O H vs xs → boolsOf xs = some bs → vs = bs.map V.bl
  | _, _, _, .nil, e => by cases Option.some.inj e; rfl
  | _, _, _, .cons (d := d) (ds := ds) h t, e => by
    cases h with
    | bl b =>
      unfold boolsOf at e
      cases e2 : boolsOf ds with
      | none => simp only [e2] at e; cases e
      | some bs =>
        simp only [e2] at e
        cases Option.some.inj e
        rw [DvAll.bools t e2]
        rfl
    | non => cases e
    | int _ => cases e
    | str _ => cases e
    | lst _ _ => cases e
    | tup _ _ => cases e
    | dic _ _ => cases e
def fAll : List R → (R → Prop) → Prop
  | [r], Φ => match listOf r with
    | some xs => match boolsOf xs with
      | some bs => Φ (.d (.bool (bs.all id)))
      | none => False
    | none => False
  | _, _ => False
def fAny : List R → (R → Prop) → Prop
  | [r], Φ => match listOf r with
    | some xs => match boolsOf xs with
      | some bs => Φ (.d (.bool (bs.any id)))
      | none => False
    | none => False
  | _, _ => False
theorem cb_all : CbA I K (rAll K) fAll := fun G ad ρ σ H0 H xs rs Φ Q A hv h k => by
  match rs, h with
  | [r], h =>
    obtain ⟨v, rfl, hw1⟩ := rv1 hv
    unfold fAll at h
    cases e : listOf r with
    | none => simp only [e] at h
    | some ys =>
      cases e2 : boolsOf ys with
      | none => simp only [e, e2] at h
      | some bs =>
        simp only [e, e2] at h
        obtain ⟨a, vs, rfl, h1, h2, _⟩ := A.list hw1 e
        exact ⟨a, bs, rfl, by rw [← h2.bools e2]; exact SqL.of h1, k (.d _) _ _ (Ext.refl _) A.k (Dv.bl _) h⟩
/-- repr -/
def fRepr : List R → (R → Prop) → Prop
  | [r], Φ => match viewOf r with
    | some d => Rp d ∧ Φ (.d (.str d.shown))
    | none => False
  | _, _ => False
theorem cb_repr : CbA I K (fun xs H Q => ∃ v d, xs = [v] ∧ Dp K H v d ∧ d.showable = true ∧ SeqAt.shaped d = true ∧ d.depth < 60 ∧ d.shown.length ≤ sizeLine ∧ Q (.str d.shown) H) fRepr := fun G ad ρ σ H0 H xs rs Φ Q A hv h k => by
  match rs, h with
  | [r], h =>
    obtain ⟨v, rfl, hw1⟩ := rv1 hv
    unfold fRepr at h
    cases e : viewOf r with
    | none => simp only [e] at h
    | some d =>
      simp only [e] at h
      obtain ⟨h1, h2, h3, h4⟩ := h.1
      exact ⟨v, d, rfl, A.view hw1 e h2, h1, h2, h3, h4, k (.d _) _ _ (Ext.refl _) A.k (Dv.str _) h.2⟩
/-! ### isinstance of a built-in class -/
def aTy (n : PTy) : AE := fun _ Φ => Φ (.ty n)
theorem ea_ty (n : PTy) : EA I K (tC (.ty n.nm)) (aTy n) := fun G ad ρ σ H Φ Q C h k => k (.ty n) _ _ (Ext.refl _) C.dok rfl h
def tyOf : R → Option PTy
  | .d .none => some .non
  | .d (.bool _) => some .bool
  | .d (.int _) => some .int
  | .d (.str _) => some .str
  | .d (.tuple _) => some .tup
  | .d (.dict _) => some .dic
  | r => match listOf r with
    | some _ => some .lst
    | none => none
def isiB : PTy → PTy → Bool
  | .non, .non => true
  | .bool, .bool => true
  | .bool, .int => true
  | .int, .int => true
  | .str, .str => true
  | .tup, .tup => true
  | .lst, .lst => true
  | .dic, .dic => true
  | _, _ => false
end
end Zj

namespace Zj
open PySem L2
section
variable {I : DkI} {K : PySem.W.Frag}
theorem kit_two (t n : PTy) : kitB t.nm n.nm = some (isiB t n) := by
  cases t <;> cases n <;> decide +kernel
def fIsiA : List R → (R → Prop) → Prop
  | [r, .ty n], Φ => match tyOf r with
    | some t => Φ (.d (.bool (isiB t n)))
    | none => False
  | _, _ => False
theorem At.ty {G : Gh I} {ad : Nat → Addr} {ρ : ASt} {σ : L2.St} {H0 H : Hp} (A : At K G ad ρ σ H0 H) {v : V} {r : R} {t : PTy} (h : Rv K G ad ρ H0 H v r) (e : tyOf r = some t) : TyX K H v (.type t.nm) := by
  unfold tyOf at e
  split at e
  · cases (show Dv K _ H v .none from h)
    cases Option.some.inj e
    exact .base .non
  · cases (show Dv K _ H v (.bool _) from h)
    cases Option.some.inj e
    exact .base (.bl _)
  · cases (show Dv K _ H v (.int _) from h)
    cases Option.some.inj e
    exact .base (.int _)
  · cases (show Dv K _ H v (.str _) from h)
    cases Option.some.inj e
    exact .base (.str _)
  · cases (show Dv K _ H v (.tuple _) from h) with
    | tup h1 h2 =>
      cases Option.some.inj e
      exact tyx_tup h1.1
  · cases (show Dv K _ H v (.dict _) from h) with
    | dic h1 h2 =>
      cases Option.some.inj e
      obtain ⟨_, q⟩ := h1.2
      exact .fDict q
  · cases q : listOf r with
    | none => simp only [q] at e; cases e
    | some xs =>
      simp only [q] at e
      cases Option.some.inj e
      obtain ⟨a, vs, rfl, h1, _⟩ := A.list h q
      exact .base (.lst h1)
theorem cb_isi : CbA I K (rIsi K) fIsiA := fun G ad ρ σ H0 H xs rs Φ Q A hv h k => by
  match rs, h with
  | [r, .ty n], h =>
    obtain ⟨v, w, rfl, h1, h2⟩ := rv2 hv
    unfold fIsiA at h
    cases e : tyOf r with
    | none => simp only [e] at h
    | some t =>
      simp only [e] at h
      exact ⟨v, w, .type t.nm, .type n.nm, isiB t n, rfl, (by rw [show w = V.ty n.nm from h2]; exact .ty n.nm), A.ty h1 e, kit_ty (kit_two t n), k (.d _) _ _ (Ext.refl _) A.k (Dv.bl _) h⟩
/-! ### slices, items -/
abbrev AO := ASt → (Option Int → Prop) → Prop
variable (I K) in
def AOb (t : TO) (T : AO) : Prop := ∀ (G : Gh I) (ad : Nat → Addr) (ρ : ASt) (σ : L2.St) (H : Hp) (Φ : Option Int → Prop) (Q : Option Int → Hp → Prop), Con K G ad ρ σ H → T ρ Φ →
  (∀ b H', Ext G.W H H' → G.dok H' → Φ b → Q b H') → t σ H Q
def aNoPart : AO := fun _ Φ => Φ none
def aPart (T : AE) : AO := fun ρ Φ => T ρ fun r => match r with
  | .d (.int i) => Φ (some i)
  | _ => False
theorem ao_none : AOb I K tNoPart aNoPart := fun G ad ρ σ H Φ Q C h k => k _ _ (Ext.refl _) C.dok h
theorem ao_some {t : TE} {T : AE} (a : EA I K t T) : AOb I K (tPart t) (aPart T) := fun G ad ρ σ H Φ Q C h k => by
  refine a G ad ρ σ H _ _ C h fun r v H1 e1 k1 v1 h1 => ?_
  match r, h1, v1 with
  | .d (.int i), h1, v1 =>
    cases (show Dv K _ H1 v (.int i) from v1)
    exact ⟨i, rfl, k _ _ e1 k1 h1⟩
def cutD {α : Type} (xs : List α) (lo hi : Option Int) : List α := (xs.drop (HT.sIx xs.length 0 lo)).take (HT.sIx xs.length xs.length hi - HT.sIx xs.length 0 lo)
theorem DvAll.cut {O : Addr → Prop} {H : Hp} {vs : List V} {ds : List PyData} (h : DvAll K O H vs ds) (lo hi : Option Int) : DvAll K O H (cutV vs lo hi) (cutD ds lo hi) := by
  unfold cutV cutD
  rw [h.len]
  exact (h.drop _).take _
variable (I K) in
def SlA (r : V → Option Int → Option Int → Hp → VK → Prop) (f : R → Option Int → Option Int → (R → Prop) → Prop) : Prop := ∀ (G : Gh I) (ad : Nat → Addr) (ρ : ASt) (σ : L2.St) (H0 H : Hp) (x : V) (rx : R) (lo hi : Option Int) (Φ : R → Prop) (Q : VK), At K G ad ρ σ H0 H → Rv K G ad ρ H0 H x rx → f rx lo hi Φ →
  (∀ r v H', Ext G.W H H' → G.dok H' → Rv K G ad ρ H0 H' v r → Φ r → Q v H') → r x lo hi H Q
def aSl (f : R → Option Int → Option Int → (R → Prop) → Prop) (T : AE) (L U : AO) : AE := fun ρ Φ => T ρ fun r => L ρ fun lo => U ρ fun hi => f r lo hi Φ
theorem ea_sl {r : V → Option Int → Option Int → Hp → VK → Prop} {f : R → Option Int → Option Int → (R → Prop) → Prop} {t : TE} {T : AE} {l u : TO} {L U : AO} (o : SlA I K r f) (a : EA I K t T) (b : AOb I K l L) (c : AOb I K u U) : EA I K (tSl r t l u) (aSl f T L U) := fun G ad ρ σ H Φ Q C h k => by
  refine a G ad ρ σ H _ _ C h fun rx x H1 e1 k1 v1 h1 => ?_
  have A1 := (At.start C).to e1 k1
  refine b G ad ρ σ H1 _ _ A1.con h1 fun lo H2 e2 k2 h2 => ?_
  have A2 := A1.to e2 k2
  refine c G ad ρ σ H2 _ _ A2.con h2 fun hi H3 e3 k3 h3 => ?_
  exact o G ad ρ σ H H3 x rx lo hi Φ Q (A2.to e3 k3) (A2.rv (A1.rv v1 e2) e3) h3 fun r v H' e' k' v' h' => k r v H' (((e1.trans e2).trans e3).trans e') k' v' h'
def fSlT : R → Option Int → Option Int → (R → Prop) → Prop
  | .d (.tuple xs), lo, hi, Φ => Φ (.d (.tuple (cutD xs lo hi)))
  | _, _, _, _ => False
theorem sa_slT : SlA I K (rSlA K) fSlT := fun G ad ρ σ H0 H x rx lo hi Φ Q A hv h k => by
  match rx, h with
  | .d (.tuple xs), h =>
    cases (show Dv K _ H x (.tuple xs) from hv) with
    | @tup a vs _ h1 h2 =>
      refine ⟨a, vs, rfl, h1.1, fun hw => ?_, fun _ p o hp ho => k _ _ _ (Ext.new hp) (A.k.new hp) (A.tup hp ho (h2.cut lo hi)) h⟩
      have e : cutD xs lo hi = xs := by
        unfold cutD
        rw [h2.len, hw.1, hw.2, List.drop_zero, Nat.sub_zero, ← h2.len, List.take_length]
      have h : Φ (.d (.tuple (cutD xs lo hi))) := h
      rw [e] at h
      exact k (.d _) _ _ (Ext.refl _) A.k (show Rv K G ad ρ H0 H _ (.d (.tuple xs)) from Dv.tup h1 h2) h
def fSlL : R → Option Int → Option Int → (R → Prop) → Prop := fun r lo hi Φ => match listOf r with
  | some xs => Φ (.l (cutD xs lo hi))
  | none => False
theorem sa_slL : SlA I K (rSlL K) fSlL := fun G ad ρ σ H0 H x rx lo hi Φ Q A hv h k => by
  unfold fSlL at h
  cases e : listOf rx with
  | none => simp only [e] at h
  | some xs =>
    simp only [e] at h
    obtain ⟨a, vs, rfl, h1, h2, _⟩ := A.list hv e
    exact ⟨a, vs, rfl, SqL.of h1, fun p hp => k _ _ _ (Ext.new hp) (A.k.new hp) (A.lst hp (h2.cut lo hi)) h⟩
def fSlS : R → Option Int → Option Int → (R → Prop) → Prop
  | .d (.str z), lo, hi, Φ => z.length ≤ sizeLine ∧ Φ (.d (.str (cutS z lo hi)))
  | _, _, _, _ => False
def fIxT : R → R → (R → Prop) → Prop
  | .d (.tuple xs), .d (.int i), Φ => match atI xs i with
    | some y => Φ (.d y)
    | none => False
  | _, _, _ => False
theorem DvAll.atI {O : Addr → Prop} {H : Hp} {vs : List V} {ds : List PyData} {i : Int} {y : PyData} (h : DvAll K O H vs ds) (e : L2.atI ds i = some y) : ∃ v, L2.atI vs i = some v ∧ Dv K O H v y := by
  unfold L2.atI at e ⊢
  rw [← h.len]
  cases q : ixN ds.length i with
  | none => rw [q] at e; cases e
  | some j =>
    rw [q] at e
    exact h.get e
theorem oa_ixT : OpA I K (rIxT K) fIxT := fun G ad ρ σ H0 H x y rx ry Φ Q A vx vy h k => by
  match rx, ry, h with
  | .d (.tuple xs), .d (.int i), h =>
    unfold fIxT at h
    cases (show Dv K _ H y (.int i) from vy)
    cases (show Dv K _ H x (.tuple xs) from vx) with
    | @tup a vs _ h1 h2 =>
      cases e : atI xs i with
      | none => simp only [e] at h
      | some z =>
        simp only [e] at h
        obtain ⟨v, e2, d⟩ := h2.atI e
        exact ⟨a, vs, i, v, rfl, rfl, h1.1, e2, k (.d _) _ _ (Ext.refl _) A.k d h⟩
def fIxL : R → R → (R → Prop) → Prop
  | r, .d (.int i), Φ => match listOf r with
    | some xs => match atI xs i with
      | some y => Φ (.d y)
      | none => False
    | none => False
  | _, _, _ => False
theorem oa_ixL : OpA I K (rIxL K) fIxL := fun G ad ρ σ H0 H x y rx ry Φ Q A vx vy h k => by
  match rx, ry, h with
  | rx, .d (.int i), h =>
    unfold fIxL at h
    cases (show Dv K _ H y (.int i) from vy)
    cases q : listOf rx with
    | none => simp only [q] at h
    | some xs =>
      cases e : atI xs i with
      | none => simp only [q, e] at h
      | some z =>
        simp only [q, e] at h
        obtain ⟨a, vs, rfl, h1, h2, _⟩ := A.list vx q
        obtain ⟨v, e2, d⟩ := h2.atI e
        exact ⟨a, vs, i, v, rfl, rfl, SqL.of h1, e2, k (.d _) _ _ (Ext.refl _) A.k d h⟩
def fIxS : R → R → (R → Prop) → Prop
  | .d (.str z), .d (.int i), Φ => z.length ≤ sizeLine ∧ match atI z.cps.toList i with
    | some c => Φ (.d (.str ⟨#[c]⟩))
    | none => False
  | _, _, _ => False
theorem oa_ixS : OpA I K rIxS fIxS := fun G ad ρ σ H0 H x y rx ry Φ Q A vx vy h k => by
  match rx, ry, h with
  | .d (.str z), .d (.int i), h =>
    unfold fIxS at h
    cases (show Dv K _ H y (.int i) from vy)
    cases (show Dv K _ H x (.str z) from vx)
    cases e : atI z.cps.toList i with
    | none => simp only [e] at h; exact h.2.elim
    | some c =>
      simp only [e] at h
      exact ⟨z, i, c, rfl, rfl, h.1, e, k (.d _) _ _ (Ext.refl _) A.k (Dv.str _) h.2⟩
def fCat : R → R → (R → Prop) → Prop := fun r s Φ => match listOf r, listOf s with
  | some xs, some ys => xs.length + ys.length ≤ sizeLine ∧ Φ (.l (xs ++ ys))
  | _, _ => False
theorem oa_cat : OpA I K rCat fCat := fun G ad ρ σ H0 H x y rx ry Φ Q A vx vy h k => by
  unfold fCat at h
  split at h
  · rename_i xs ys e1 e2
    obtain ⟨a, vs, rfl, h1, h2, _⟩ := A.list vx e1
    obtain ⟨b, us, rfl, h3, h4, _⟩ := A.list vy e2
    exact ⟨a, b, vs, us, rfl, rfl, h1, h3, by rw [← h2.len, ← h4.len]; exact h.1, fun p hp => k _ _ _ (Ext.new hp) (A.k.new hp) (A.lst hp (h2.append h4)) h.2⟩
  · exact h.elim
/-- is None -/
def noneB : R → Bool
  | .d .none => true
  | _ => false
def fIsN : R → R → (R → Prop) → Prop
  | r, .d .none, Φ => Φ (.d (.bool (noneB r)))
  | _, _, _ => False
def fNotN : R → R → (R → Prop) → Prop
  | r, .d .none, Φ => Φ (.d (.bool (!noneB r)))
  | _, _, _ => False
def fInD (neg : Bool) : R → R → (R → Prop) → Prop := fun r s Φ => match viewOf r, listOf s with
  | some x, some ys => SeqAt.shaped x = true ∧ SeqAt.shaped (.list ys) = true ∧ Φ (.d (.bool (if neg then !(ys.any fun z => PyData.eqv z x) else ys.any fun z => PyData.eqv z x)))
  | _, _ => False
theorem oa_notInD : OpA I K (rNotInD K) (fInD true) := fun G ad ρ σ H0 H x y rx ry Φ Q A vx vy h k => by
  unfold fInD at h
  split at h
  · rename_i d ys e1 e2
    obtain ⟨a, vs, rfl, h1, h2, _⟩ := A.list vy e2
    exact ⟨d, ys, A.view vx e1 h.1, .lst (SqL.of h1) (DvAll.dp _ _ (by have := PyData.hasDict_of_canLay _ (SeqAt.canLay_of_shaped h.2.1); simpa only [PyData.hasDict] using this) h2), h.1, h.2.1, k (.d _) _ _ (Ext.refl _) A.k (Dv.bl _) h.2.2⟩
  · exact h.elim
def flatD : PyData → Bool
  | .none => true
  | .bool _ => true
  | .int _ => true
  | .str _ => true
  | _ => false
/-! ### own defs -/
inductive ArgR {I : DkI} (K : PySem.W.Frag) (G : Gh I) (H : Hp) : AV → V → Prop
  | d {x : PyData} {v : V} : Dv K G.O H v x → ArgR K G H (.d x) v
  | bl {xs : List PyData} {a : Addr} {vs : List V} : SqLo G.W H a vs → DvAll K G.O H vs xs → ArgR K G H (.bl xs) (.ref a)
  | dk {p : Addr × Addr} : G.dk = some p → ArgR K G H .dk (.ref p.1)
  | fn (f : Addr) : ArgR K G H (.fn f) (.ref f)
def RvC {I : DkI} (K : PySem.W.Frag) (G : Gh I) (H : Hp) (v : V) : R → Prop
  | .d x => Dv K G.O H v x
  | .l xs => ∃ p vs, v = .ref p ∧ G.H0 p = none ∧ H p = some (.lst vs) ∧ DvAll K (fun a => G.O a ∨ a = p) H vs xs
  | _ => False
inductive ArgAll {I : DkI} (K : PySem.W.Frag) (G : Gh I) (H : Hp) : List AV → List V → Prop
  | nil : ArgAll K G H [] []
  | cons {a : AV} {v : V} {as : List AV} {vs : List V} : ArgR K G H a v → ArgAll K G H as vs → ArgAll K G H (a :: as) (v :: vs)
abbrev FnT := List AV → (R → Prop) → Prop
def spA (n : Nat) (K : PySem.W.Frag) (I : DkI) (T : FnT) : Sp := fun vs H Q _ => ∃ (G : Gh I) (as : List AV) (Φ : R → Prop), G.H0 = H ∧ (G.Ok ∧ (∀ a, G.O a → ∃ o, H a = some o) ∧ G.dok H) ∧ as.length = n ∧ ArgAll K G H as vs ∧ T as Φ ∧
  ∀ r v H', Ext G.W H H' → G.dok H' → RvC K G H' v r → Φ r → Q v H'
inductive Md where
  | d | b | k | f | s
def asArg : Md → R → Option AV
  | .d, r => (dataOf r).map AV.d
  | .b, r => (listOf r).map AV.bl
  | .k, .dk => some .dk
  | .k, _ => none
  | .f, .fn f => some (.fn f)
  | .f, _ => none
  | .s, .d x => some (.d x)
  | .s, r => (listOf r).map AV.bl
def asArgs : List Md → List R → Option (List AV)
  | [], [] => some []
  | m :: ms, r :: rs => match asArg m r, asArgs ms rs with
    | some a, some as => some (a :: as)
    | _, _ => none
  | _, _ => none
def aCall (T : FnT) (ms : List Md) (U : AA) : AE := fun ρ Φ => U ρ fun rs => match asArgs ms rs with
  | some as => T as Φ
  | none => False
def Gh.of (G : Gh I) (ad : Nat → Addr) (ρ : ASt) (H : Hp) : Gh I := ⟨H, Ow G ad ρ, G.dk⟩
theorem At.arg {G : Gh I} {ad : Nat → Addr} {ρ : ASt} {σ : L2.St} {H0 H : Hp} (A : At K G ad ρ σ H0 H) {m : Md} {v : V} {r : R} {a : AV} (h : Rv K G ad ρ H0 H v r) (e : asArg m r = some a) : ArgR K (G.of ad ρ H) H a v := by
  cases m with
  | d =>
    cases q : dataOf r with
    | none => rw [show asArg .d r = (dataOf r).map AV.d from rfl, q] at e; cases e
    | some x =>
      rw [show asArg .d r = (dataOf r).map AV.d from rfl, q] at e
      cases Option.some.inj e
      exact .d (A.data h q)
  | b =>
    cases q : listOf r with
    | none => rw [show asArg .b r = (listOf r).map AV.bl from rfl, q] at e; cases e
    | some x =>
      rw [show asArg .b r = (listOf r).map AV.bl from rfl, q] at e
      cases Option.some.inj e
      obtain ⟨a, vs, rfl, h1, h2, h3⟩ := A.list h q
      exact .bl ⟨h3, h1⟩ h2
  | k =>
    cases r with
    | dk =>
      cases Option.some.inj e
      obtain ⟨p, e, rfl⟩ := h
      exact .dk e
    | d _ => cases e
    | l _ => cases e
    | b _ => cases e
    | o _ _ => cases e
    | ty _ => cases e
    | fn _ => cases e
  | f =>
    cases r with
    | fn f =>
      cases Option.some.inj e
      rw [show v = V.ref f from h]
      exact .fn f
    | d _ => cases e
    | l _ => cases e
    | b _ => cases e
    | o _ _ => cases e
    | ty _ => cases e
    | dk => cases e
  | s =>
    have lst : ∀ {r : R}, asArg .s r = (listOf r).map AV.bl → Rv K G ad ρ H0 H v r → asArg .s r = some a → ArgR K (G.of ad ρ H) H a v := fun {r} z h e => by
      rw [z] at e
      cases q : listOf r with
      | none => rw [q] at e; cases e
      | some x =>
        rw [q] at e
        cases Option.some.inj e
        obtain ⟨a, vs, rfl, h1, h2, h3⟩ := A.list h q
        exact .bl ⟨h3, h1⟩ h2
    cases r with
    | d x =>
      cases Option.some.inj e
      exact .d h
    | l _ => exact lst rfl h e
    | b _ => exact lst rfl h e
    | o _ _ => exact lst rfl h e
    | ty _ => exact lst rfl h e
    | dk => exact lst rfl h e
    | fn _ => exact lst rfl h e
theorem At.args {G : Gh I} {ad : Nat → Addr} {ρ : ASt} {σ : L2.St} {H0 H : Hp} (A : At K G ad ρ σ H0 H) : ∀ {ms : List Md} {vs : List V} {rs : List R} {as : List AV}, RvAll K G ad ρ H0 H vs rs → asArgs ms rs = some as → ArgAll K (G.of ad ρ H) H as vs
  | [], _, [], _, .nil, e => by cases Option.some.inj e; exact .nil
  | m :: ms, _, r :: rs, _, .cons h t, e => by
    unfold asArgs at e
    cases e1 : asArg m r with
    | none => simp only [e1] at e; cases e
    | some a =>
      cases e2 : asArgs ms rs with
      | none => simp only [e1, e2] at e; cases e
      | some as =>
        simp only [e1, e2] at e
        cases Option.some.inj e
        exact .cons (A.arg h e1) (A.args t e2)
  | _ :: _, _, [], _, .nil, e => by cases e
  | [], _, _ :: _, _, .cons _ _, e => by cases e
theorem asArgs_len : ∀ {ms : List Md} {rs : List R} {as : List AV}, asArgs ms rs = some as → as.length = ms.length
  | [], [], _, e => by cases Option.some.inj e; rfl
  | m :: ms, r :: rs, _, e => by
    unfold asArgs at e
    cases e1 : asArg m r with
    | none => simp only [e1] at e; cases e
    | some a =>
      cases e2 : asArgs ms rs with
      | none => simp only [e1, e2] at e; cases e
      | some as =>
        simp only [e1, e2] at e
        cases Option.some.inj e
        rw [List.length_cons, List.length_cons, asArgs_len e2]
  | _ :: _, [], _, e => by cases e
  | [], _ :: _, _, e => by cases e
theorem At.ofOk {G : Gh I} {ad : Nat → Addr} {ρ : ASt} {σ : L2.St} {H0 H : Hp} (A : At K G ad ρ σ H0 H) : (G.of ad ρ H).Ok ∧ (∀ a, (G.of ad ρ H).O a → ∃ o, H a = some o) ∧ (G.of ad ρ H).dok H := ⟨⟨fun a w => A.wO a w, fun p b q z => (A.con.ok.kp p b q z).imp .inl fun l => live_ext A.con.ext A.k l, fun p b q z => let y := A.con.ok.dp p b q z; ⟨fun x => x.elim y.1 fun ⟨i, hi, e⟩ => (by have := y.2; rw [e, A.con.fr i hi] at this; obtain ⟨_, x⟩ := this; cases x), live_ext A.con.ext A.k y.2⟩⟩, fun a w => A.con.liveO w, A.k⟩
theorem At.ret {G : Gh I} {ad : Nat → Addr} {ρ : ASt} {σ : L2.St} {H0 H H' : Hp} (A : At K G ad ρ σ H0 H) {v : V} {r : R} (h : RvC K (G.of ad ρ H) H' v r) : Rv K G ad ρ H0 H' v r := by
  cases r with
  | d x => exact h
  | l xs =>
    obtain ⟨p, vs, rfl, h1, h2, h3⟩ := h
    exact ⟨p, vs, rfl, A.fr h1, h2, h3⟩
  | b _ => exact h.elim
  | o _ _ => exact h.elim
  | dk => exact h.elim
  | ty _ => exact h.elim
  | fn _ => exact h.elim
theorem ea_call {T : FnT} {n : Nat} (ms : List Md) {E : XK} {u : TA} {U : AA} (b : AAb I K u U) (hn : ms.length = n := by rfl) : EA I K (tCall (spA n K I T) [] E u) (aCall T ms U) := fun G ad ρ σ H Φ Q C h k => by
  refine b G ad ρ σ H H _ _ (At.start C) h fun rs vs H1 e1 k1 v1 h1 => ?_
  have A1 := (At.start C).to e1 k1
  cases e : asArgs ms rs with
  | none => simp only [e] at h1
  | some as =>
    simp only [e] at h1
    show spA n K I T (vs ++ []) H1 Q E
    rw [List.append_nil]
    exact ⟨G.of ad ρ H1, as, Φ, rfl, A1.ofOk, (asArgs_len e).trans hn, A1.args v1 e, h1, fun r v H' e' k' v' h' => k r v H' (e1.trans e') k' (A1.ret v') h'⟩
/-- called by names alone -/
theorem ea_callK0 {T : FnT} {n : Nat} (ms : List Md) {E : XK} {gV : List V → List V → List V} {gR : List R → List R} (hg : ∀ (G : Gh I) (ad : Nat → Addr) (ρ : ASt) (H0 H : Hp) (vs : List V) (rs : List R), RvAll K G ad ρ H0 H vs rs → RvAll K G ad ρ H0 H (gV [] vs) (gR rs))
    {u : TA} {U : AA} (b : AAb I K u U) (hn : ms.length = n := by rfl) : EA I K (tCallK (spA n K I T) gV E tNil u) (aCall T ms fun ρ Φ => U ρ fun rs => Φ (gR rs)) := fun G ad ρ σ H Φ Q C h k => by
  refine b G ad ρ σ H H _ _ (At.start C) h fun rs vs H1 e1 k1 v1 h1 => ?_
  have A1 := (At.start C).to e1 k1
  cases e : asArgs ms (gR rs) with
  | none => simp only [e] at h1
  | some as =>
    simp only [e] at h1
    exact ⟨G.of ad ρ H1, as, Φ, rfl, A1.ofOk, (asArgs_len e).trans hn, A1.args (hg _ _ _ _ _ _ _ v1) e, h1, fun r v H' e' k' v' h' => k r v H' (e1.trans e') k' (A1.ret v') h'⟩
/-- a stronger promise -/
theorem spA.imp {T T' : FnT} {n : Nat} {vs : List V} {H : Hp} {Q : VK} {E : XK} (h : ∀ as Φ, T as Φ → T' as Φ) (hs : spA n K I T vs H Q E) : spA n K I T' vs H Q E := by
  obtain ⟨G, as, Φ, e, ok, hn, ha, ht, k⟩ := hs
  exact ⟨G, as, Φ, e, ok, hn, ha, h _ _ ht, k⟩
theorem ArgAll.len {G : Gh I} {H : Hp} : ∀ {as : List AV} {vs : List V}, ArgAll K G H as vs → vs.length = as.length
  | _, _, .nil => rfl
  | _, _, .cons _ t => by rw [List.length_cons, List.length_cons, ArgAll.len t]
theorem spA.len {T : FnT} {n : Nat} {vs : List V} {H : Hp} {Q : VK} {E : XK} (hs : spA n K I T vs H Q E) : vs.length = n := by
  obtain ⟨G, as, Φ, e, ok, hn, ha, ht, k⟩ := hs
  rw [ha.len, hn]
end
end Zj

namespace Zj
open PySem L2
section
variable {I : DkI} {K : PySem.W.Frag} {G : Gh I} {ad ad' ad2 : Nat → Addr} {ρ ρ' ρ2 : ASt} {σ σ' : L2.St} {H H0 H1 H' H2 : Hp}
theorem getD_set {α : Type} (l : List (Option α)) (i k : Nat) (x : Option α) : ((l.set i x)[k]?).getD none = if i = k then (if i < l.length then x else none) else (l[k]?).getD none := by
  rw [List.getElem?_set]
  by_cases e : i = k
  · rw [if_pos e, if_pos e]
    by_cases h : i < l.length
    · rw [if_pos h, if_pos h]; rfl
    · rw [if_neg h, if_neg h]; rfl
  · rw [if_neg e, if_neg e]
theorem ownAt_iff {i : Nat} : ownAt ρ i ↔ ∃ xs, (ρ[i]?).getD none = some (.own xs) := by
  constructor
  · rintro ⟨xs, h⟩
    exact ⟨xs, by rw [h]; rfl⟩
  · rintro ⟨xs, h⟩
    refine ⟨xs, ?_⟩
    cases e : ρ[i]? with
    | none => rw [e] at h; cases h
    | some z => rw [e] at h; exact congrArg some h
theorem own_set {i k : Nat} {x : Option AV} (h : ownAt (ρ.set i x) k) : (k = i ∧ ∃ xs, x = some (.own xs)) ∨ (k ≠ i ∧ ownAt ρ k) := by
  obtain ⟨xs, h⟩ := ownAt_iff.mp h
  rw [getD_set] at h
  by_cases e : i = k
  · rw [if_pos e] at h
    by_cases l : i < ρ.length
    · rw [if_pos l] at h
      exact .inl ⟨e.symm, xs, h⟩
    · rw [if_neg l] at h; cases h
  · rw [if_neg e] at h
    exact .inr ⟨fun z => e z.symm, ownAt_iff.mpr ⟨xs, h⟩⟩
theorem SlR.weak {O O' M M' : Addr → Prop} {p : Addr} {av : Option AV} {ov : Option (Option V)} (h : SlR K G O M p H av ov) (o : ∀ b, O' b → O b) (m : ∀ b, M' b → M b) : SlR K G O' M' p H av ov := by
  cases av with
  | none => trivial
  | some av =>
    obtain ⟨v, rfl⟩ := sl_some h
    cases av with
    | d x => exact (show Dv K O H v x from h).weak o
    | own xs =>
      obtain ⟨rfl, vs, h1, h2⟩ := h
      exact ⟨rfl, vs, h1, h2.weak o⟩
    | bl xs =>
      obtain ⟨a, vs, rfl, h1, h2⟩ := h
      exact ⟨a, vs, rfl, h1.weak m, h2.weak o⟩
    | dk => exact h
    | fn f => exact h
theorem SlR.fresh {O O' M M' : Addr → Prop} {p q : Addr} {av : Option AV} {ov : Option (Option V)} (h : SlR K G O M p H av ov) (f : H q = none) (o : ∀ b, O' b → O b ∨ b = q) (m : ∀ b, M' b → M b ∨ b = q) : SlR K G O' M' p H av ov := by
  cases av with
  | none => trivial
  | some av =>
    obtain ⟨v, rfl⟩ := sl_some h
    cases av with
    | d x => exact (show Dv K O H v x from h).fresh f o
    | own xs =>
      obtain ⟨rfl, vs, h1, h2⟩ := h
      exact ⟨rfl, vs, h1, h2.fresh f o⟩
    | bl xs =>
      obtain ⟨a, vs, rfl, h1, h2⟩ := h
      exact ⟨a, vs, rfl, h1.fresh f m, h2.fresh f o⟩
    | dk => exact h
    | fn f => exact h
/-- from heap to heap: O, M outside what is written, the own list's place as well -/
theorem SlR.ext {O M W : Addr → Prop} {p : Addr} {av : Option AV} {ov : Option (Option V)} (h : SlR K G O M p H av ov) (e : Ext W H H') (o : ∀ b, W b → O b) (m : ∀ b, W b → M b) (w : (∃ xs, av = some (.own xs)) → ¬ W p) : SlR K G O M p H' av ov := by
  cases av with
  | none => trivial
  | some av =>
    obtain ⟨v, rfl⟩ := sl_some h
    cases av with
    | d x => exact (show Dv K O H v x from h).ext e o
    | own xs =>
      obtain ⟨rfl, vs, h1, h2⟩ := h
      exact ⟨rfl, vs, e _ _ (w ⟨xs, rfl⟩) h1, h2.ext e o⟩
    | bl xs =>
      obtain ⟨a, vs, rfl, h1, h2⟩ := h
      exact ⟨a, vs, rfl, h1.ext e m, h2.ext e o⟩
    | dk => exact h
    | fn f => exact h
theorem sl_at {p p' : Addr} {O M : Addr → Prop} {av : Option AV} {ov : Option (Option V)} (h : SlR K G O M p H av ov) (w : (∃ xs, av = some (.own xs)) → p' = p) : SlR K G O M p' H av ov := by
  cases av with
  | none => trivial
  | some av =>
    obtain ⟨v, rfl⟩ := sl_some h
    cases av with
    | own xs =>
      rw [w ⟨xs, rfl⟩]
      exact h
    | d x => exact h
    | bl xs => exact h
    | dk => exact h
    | fn f => exact h
/-- what a statement leaves -/
structure Step (G : Gh I) (ad : Nat → Addr) (ρ : ASt) (H : Hp) (ad' : Nat → Addr) (ρ' : ASt) (H' : Hp) : Prop where
  pres : ∀ b o, ¬ Mu G ad ρ b → H b = some o → H' b = some o
  own : ∀ i, ownAt ρ' i → (∃ j, ownAt ρ j ∧ ad' i = ad j) ∨ H (ad' i) = none
  live : ∀ b, (∃ o, H b = some o) → ∃ o, H' b = some o
theorem Step.refl : Step G ad ρ H ad ρ H := ⟨fun _ _ _ h => h, fun i h => .inl ⟨i, h, rfl⟩, fun _ h => h⟩
theorem Step.mu (s : Step G ad ρ H ad' ρ' H') {b : Addr} {o : HO} (n : ¬ Mu G ad ρ b) (h : H b = some o) : ¬ Mu G ad' ρ' b := by
  rintro (w | ⟨i, hi, rfl⟩)
  · exact n (.inl w)
  · rcases s.own i hi with ⟨j, hj, e⟩ | e
    · exact n (.inr ⟨j, hj, e⟩)
    · rw [h] at e; cases e
theorem Step.trans (s : Step G ad ρ H ad' ρ' H') (t : Step G ad' ρ' H' ad2 ρ2 H2) : Step G ad ρ H ad2 ρ2 H2 where
  pres := fun b o n h => t.pres b o (s.mu n h) (s.pres b o n h)
  own := fun i hi => by
    rcases t.own i hi with ⟨j, hj, e⟩ | e
    · rw [e]
      exact s.own j hj
    · refine .inr ?_
      cases q : H (ad2 i) with
      | none => rfl
      | some o =>
        obtain ⟨u, z⟩ := s.live _ ⟨o, q⟩
        rw [e] at z
        cases z
  live := fun b h => t.live b (s.live b h)
theorem Step.of (C : Con K G ad ρ σ H) (e : Ext G.W H H') (k : G.dok H') : Step G ad ρ H ad ρ H' :=
  ⟨fun b o n h => e b o (fun w => n (.inl w)) h, fun i h => .inl ⟨i, h, rfl⟩, fun b h => live_ext e k h⟩
theorem At.step (A : At K G ad ρ σ H0 H) : Step G ad ρ H0 ad ρ H := Step.of A.c0 A.e A.k
/-! ### stores to names -/
def aPut (i : Nat) : R → ASt → Option ASt
  | .d x, ρ => some (ρ.set i (some (.d x)))
  | .l xs, ρ => some (ρ.set i (some (.own xs)))
  | .b xs, ρ => some (ρ.set i (some (.bl xs)))
  | .o j xs, ρ => some ((ρ.set j none).set i (some (.own xs)))
  | .dk, ρ => some (ρ.set i (some .dk))
  | .fn f, ρ => some (ρ.set i (some (.fn f)))
  | .ty _, _ => none
def adS (ad : Nat → Addr) (i : Nat) (p : Addr) : Nat → Addr := fun k => if k = i then p else ad k
theorem adS_same {i : Nat} {p : Addr} : adS ad i p i = p := if_pos rfl
theorem adS_ne {i k : Nat} {p : Addr} (h : k ≠ i) : adS ad i p k = ad k := if_neg h
theorem Con.putN (C : Con K G ad ρ σ H) {i : Nat} {v : V} {av : AV} (nw : ∀ xs, av ≠ .own xs) (h : SlR K G (Ow G ad ρ) (Mu G ad ρ) (ad i) H (some av) (some (some v))) : Con K G ad (ρ.set i (some av)) (σ.set i (some v)) H := by
  have ow : ∀ {k : Nat}, ownAt (ρ.set i (some av)) k → k ≠ i ∧ ownAt ρ k := fun {k} h => (own_set h).elim (fun ⟨_, xs, e⟩ => absurd (Option.some.inj e) (nw xs)) id
  have wO : ∀ b, Ow G ad (ρ.set i (some av)) b → Ow G ad ρ b := fun b h => h.imp id fun ⟨k, hk, e⟩ => ⟨k, (ow hk).2, e⟩
  have wM : ∀ b, Mu G ad (ρ.set i (some av)) b → Mu G ad ρ b := fun b h => h.imp id fun ⟨k, hk, e⟩ => ⟨k, (ow hk).2, e⟩
  refine ⟨C.ok, C.live, fun h => C.ownO (ow h).2, C.dok, C.ext, by rw [List.length_set, List.length_set]; exact C.len, fun k => ?_, fun a b ha hb => C.inj a b (ow ha).2 (ow hb).2, fun a ha => C.fr a (ow ha).2⟩
  rw [getD_set]
  by_cases e : i = k
  · subst e
    rw [if_pos rfl]
    by_cases l : i < ρ.length
    · rw [if_pos l, List.getElem?_set, if_pos rfl, if_pos (show i < σ.length by rw [← C.len]; exact l)]
      exact h.weak wO wM
    · rw [if_neg l]; trivial
  · rw [if_neg e, List.getElem?_set, if_neg e]
    exact (C.sl k).weak wO wM
theorem Con.drop (C : Con K G ad ρ σ H) (i : Nat) : Con K G ad (ρ.set i none) σ H := by
  have ow : ∀ {k : Nat}, ownAt (ρ.set i none) k → k ≠ i ∧ ownAt ρ k := fun {k} h => (own_set h).elim (fun ⟨_, xs, e⟩ => nomatch e) id
  have wO : ∀ b, Ow G ad (ρ.set i none) b → Ow G ad ρ b := fun b h => h.imp id fun ⟨k, hk, e⟩ => ⟨k, (ow hk).2, e⟩
  have wM : ∀ b, Mu G ad (ρ.set i none) b → Mu G ad ρ b := fun b h => h.imp id fun ⟨k, hk, e⟩ => ⟨k, (ow hk).2, e⟩
  refine ⟨C.ok, C.live, fun h => C.ownO (ow h).2, C.dok, C.ext, by rw [List.length_set]; exact C.len, fun k => ?_, fun a b ha hb => C.inj a b (ow ha).2 (ow hb).2, fun a ha => C.fr a (ow ha).2⟩
  rw [getD_set]
  by_cases e : i = k
  · subst e
    rw [if_pos rfl]
    by_cases l : i < ρ.length
    · rw [if_pos l]; trivial
    · rw [if_neg l]; trivial
  · rw [if_neg e]
    exact (C.sl k).weak wO wM
theorem At.putL (A : At K G ad ρ σ H0 H) {i : Nat} {p : Addr} {vs : List V} {xs : List PyData} (f : H0 p = none) (h1 : H p = some (.lst vs)) (h2 : DvAll K (fun a => Ow G ad ρ a ∨ a = p) H vs xs) :
    Con K G (adS ad i p) (ρ.set i (some (.own xs))) (σ.set i (some (.ref p))) H ∧ Step G ad ρ H0 (adS ad i p) (ρ.set i (some (.own xs))) H := by
  have C := A.c0
  have ow : ∀ {k : Nat}, ownAt (ρ.set i (some (.own xs))) k → k = i ∨ (k ≠ i ∧ ownAt ρ k) := fun {k} h => (own_set h).imp (fun z => z.1) id
  have wO : ∀ b, Ow G (adS ad i p) (ρ.set i (some (.own xs))) b → Ow G ad ρ b ∨ b = p := fun b h => by
    rcases h with h | ⟨k, hk, rfl⟩
    · exact .inl (.inl h)
    · rcases ow hk with rfl | ⟨ne, hk⟩
      · exact .inr adS_same
      · exact .inl (.inr ⟨k, hk, adS_ne ne⟩)
  have wM : ∀ b, Mu G (adS ad i p) (ρ.set i (some (.own xs))) b → Mu G ad ρ b ∨ b = p := fun b h => by
    rcases h with h | ⟨k, hk, rfl⟩
    · exact .inl (.inl h)
    · rcases ow hk with rfl | ⟨ne, hk⟩
      · exact .inr adS_same
      · exact .inl (.inr ⟨k, hk, adS_ne ne⟩)
  have nWp : ¬ G.W p := fun w => by
    obtain ⟨o, e⟩ := C.dok.liveW w
    rw [f] at e
    cases e
  have f0 : G.H0 p = none := free_back C.ext (fun a w => C.dok.liveW w) f
  have nad : ∀ {k : Nat}, ownAt ρ k → ad k ≠ p := fun {k} ⟨ys, h⟩ e => by
    obtain ⟨_, us, z, _⟩ := C.own_get h
    rw [e, f] at z
    cases z
  have nOp : ¬ G.O p := fun w => by
    obtain ⟨o, e⟩ := C.live w
    rw [f] at e
    cases e
  refine ⟨⟨C.ok, A.con.live, fun {a} ha => by
      rcases ow ha with e | ⟨na, ha2⟩
      · rw [e, adS_same]; exact nOp
      · rw [adS_ne na]; exact C.ownO ha2, A.k, C.ext.trans A.e, by rw [List.length_set, List.length_set]; exact C.len, fun k => ?_, fun a b ha hb e => ?_, fun a ha => ?_⟩, ⟨fun b o n hb => A.e b o (fun w => n (.inl w)) hb, fun k hk => ?_, fun b hb => live_ext A.e A.k hb⟩⟩
  · rw [getD_set]
    by_cases e : i = k
    · subst e
      rw [if_pos rfl]
      by_cases l : i < ρ.length
      · rw [if_pos l, List.getElem?_set, if_pos rfl, if_pos (show i < σ.length by rw [← C.len]; exact l)]
        rw [adS_same]
        exact ⟨rfl, vs, h1, h2.weak wO⟩
      · rw [if_neg l]; trivial
    · rw [if_neg e, List.getElem?_set, if_neg e]
      refine SlR.ext (sl_at ((C.sl k).fresh f wO wM) fun _ => adS_ne fun z => e z.symm) A.e (fun b w => .inl (C.ok.wo b w)) (fun b w => .inl w) fun ⟨ys, q⟩ w => ?_
      rw [adS_ne (fun z => e z.symm)] at w
      exact C.ownW (ownAt_iff.mpr ⟨ys, q⟩) w
  · rcases ow ha with rfl | ⟨na, ha2⟩
    · rcases ow hb with rfl | ⟨nb, hb⟩
      · rfl
      · rw [adS_same, adS_ne nb] at e
        exact absurd e.symm (nad hb)
    · rcases ow hb with rfl | ⟨nb, hb⟩
      · rw [adS_same, adS_ne na] at e
        exact absurd e (nad ha2)
      · rw [adS_ne na, adS_ne nb] at e
        exact C.inj a b ha2 hb e
  · rcases ow ha with rfl | ⟨na, ha⟩
    · rw [adS_same]; exact f0
    · rw [adS_ne na]; exact C.fr a ha
  · rcases ow hk with rfl | ⟨na, hk⟩
    · rw [adS_same]; exact .inr f
    · rw [adS_ne na]; exact .inl ⟨k, hk, rfl⟩
theorem Con.putO (C : Con K G ad ρ σ H) {i j : Nat} {xs : List PyData} (h : ρ[j]? = some (some (.own xs))) :
    ∃ ad', Con K G ad' ((ρ.set j none).set i (some (.own xs))) (σ.set i (some (.ref (ad j)))) H ∧ Step G ad ρ H ad' ((ρ.set j none).set i (some (.own xs))) H := by
  refine ⟨adS ad i (ad j), ?_⟩
  have hj : ownAt ρ j := ⟨xs, h⟩
  have ow : ∀ {k : Nat}, ownAt ((ρ.set j none).set i (some (.own xs))) k → k = i ∨ (k ≠ i ∧ k ≠ j ∧ ownAt ρ k) := fun {k} h => by
    rcases own_set h with ⟨e, _⟩ | ⟨ne, h⟩
    · exact .inl e
    · rcases own_set h with ⟨_, _, e⟩ | ⟨nj, h⟩
      · cases e
      · exact .inr ⟨ne, nj, h⟩
  have wO : ∀ b, Ow G (adS ad i (ad j)) ((ρ.set j none).set i (some (.own xs))) b → Ow G ad ρ b := fun b h => by
    rcases h with h | ⟨k, hk, rfl⟩
    · exact .inl h
    · rcases ow hk with rfl | ⟨ne, _, hk⟩
      · exact .inr ⟨j, hj, adS_same⟩
      · exact .inr ⟨k, hk, adS_ne ne⟩
  have wM : ∀ b, Mu G (adS ad i (ad j)) ((ρ.set j none).set i (some (.own xs))) b → Mu G ad ρ b := fun b h => by
    rcases h with h | ⟨k, hk, rfl⟩
    · exact .inl h
    · rcases ow hk with rfl | ⟨ne, _, hk⟩
      · exact .inr ⟨j, hj, adS_same⟩
      · exact .inr ⟨k, hk, adS_ne ne⟩
  obtain ⟨_, vs, g1, g2⟩ := C.own_get h
  refine ⟨⟨C.ok, C.live, fun {a} ha => by
      rcases ow ha with e | ⟨na, _, ha2⟩
      · rw [e, adS_same]; exact C.ownO hj
      · rw [adS_ne na]; exact C.ownO ha2, C.dok, C.ext, by rw [List.length_set, List.length_set, List.length_set]; exact C.len, fun k => ?_, fun a b ha hb e => ?_, fun a ha => ?_⟩, ⟨fun b o n hb => hb, fun k hk => ?_, fun b hb => hb⟩⟩
  · rw [getD_set]
    by_cases e : i = k
    · subst e
      rw [if_pos rfl, List.length_set]
      by_cases l : i < ρ.length
      · rw [if_pos l, List.getElem?_set, if_pos rfl, if_pos (show i < σ.length by rw [← C.len]; exact l)]
        rw [adS_same]
        exact ⟨rfl, vs, g1, g2.weak wO⟩
      · rw [if_neg l]; trivial
    · rw [if_neg e, show (σ.set i (some (V.ref (ad j))))[k]? = σ[k]? from by rw [List.getElem?_set, if_neg e], getD_set]
      by_cases e2 : j = k
      · rw [if_pos e2]
        by_cases l : j < ρ.length
        · rw [if_pos l]; trivial
        · rw [if_neg l]; trivial
      · rw [if_neg e2]
        exact sl_at ((C.sl k).weak wO wM) fun _ => adS_ne fun z => e z.symm
  · rcases ow ha with rfl | ⟨na, na2, ha2⟩
    · rcases ow hb with rfl | ⟨nb, nb2, hb⟩
      · rfl
      · rw [adS_same, adS_ne nb] at e
        exact absurd (C.inj _ _ hj hb e).symm nb2
    · rcases ow hb with rfl | ⟨nb, nb2, hb⟩
      · rw [adS_same, adS_ne na] at e
        exact absurd (C.inj _ _ ha2 hj e) na2
      · rw [adS_ne na, adS_ne nb] at e
        exact C.inj a b ha2 hb e
  · rcases ow ha with rfl | ⟨na, _, ha⟩
    · rw [adS_same]; exact C.fr j hj
    · rw [adS_ne na]; exact C.fr a ha
  · rcases ow hk with rfl | ⟨na, _, hk⟩
    · rw [adS_same]; exact .inl ⟨j, hj, rfl⟩
    · rw [adS_ne na]; exact .inl ⟨k, hk, rfl⟩
theorem own_putN {i k : Nat} {av : AV} (nw : ∀ xs, av ≠ .own xs) (h : ownAt (ρ.set i (some av)) k) : ownAt ρ k := (own_set h).elim (fun ⟨_, xs, e⟩ => absurd (Option.some.inj e) (nw xs)) fun z => z.2
theorem At.put (A : At K G ad ρ σ H0 H) {i : Nat} {v : V} {r : R} (h : Rv K G ad ρ H0 H v r) (e : aPut i r ρ = some ρ') : ∃ ad', Con K G ad' ρ' (σ.set i (some v)) H ∧ Step G ad ρ H0 ad' ρ' H := by
  have stepN : ∀ {av : AV}, (∀ xs, av ≠ .own xs) → Step G ad ρ H0 ad (ρ.set i (some av)) H := fun nw => ⟨A.step.pres, fun k hk => .inl ⟨k, own_putN nw hk, rfl⟩, A.step.live⟩
  cases r with
  | d x =>
    cases Option.some.inj e
    exact ⟨ad, A.con.putN (fun _ z => nomatch z) h, stepN fun _ z => nomatch z⟩
  | l xs =>
    cases Option.some.inj e
    obtain ⟨p, vs, rfl, h1, h2, h3⟩ := h
    exact ⟨_, A.putL h1 h2 h3⟩
  | b xs =>
    cases Option.some.inj e
    exact ⟨ad, A.con.putN (fun _ z => nomatch z) h, stepN fun _ z => nomatch z⟩
  | o j xs =>
    cases Option.some.inj e
    obtain ⟨h1, rfl⟩ := h
    obtain ⟨ad', c, s⟩ := A.con.putO (i := i) h1
    exact ⟨ad', c, A.step.trans s⟩
  | dk =>
    cases Option.some.inj e
    exact ⟨ad, A.con.putN (fun _ z => nomatch z) h, stepN fun _ z => nomatch z⟩
  | ty n => cases e
  | fn f =>
    cases Option.some.inj e
    exact ⟨ad, A.con.putN (fun _ z => nomatch z) h, stepN fun _ z => nomatch z⟩
end
end Zj

namespace Zj
open PySem L2
structure AEnds where
  nx : ASt → Prop
  rt : R → Prop
  bk : ASt → Prop := fun _ => False
  ct : ASt → Prop := fun _ => False
abbrev ATS := AEnds → ASt → Prop
section
variable {I : DkI} {K : PySem.W.Frag} {G : Gh I} {ad ad' ad2 : Nat → Addr} {ρ ρ' ρ2 : ASt} {σ σ' : L2.St} {H H0 H1 H' H2 : Hp}
structure EOk (K : PySem.W.Frag) (G : Gh I) (ad : Nat → Addr) (ρ : ASt) (H : Hp) (Φ : AEnds) (D : Ends) : Prop where
  nx : ∀ ad' ρ' σ' H', Con K G ad' ρ' σ' H' → Step G ad ρ H ad' ρ' H' → Φ.nx ρ' → D.nx σ' H'
  bk : ∀ ad' ρ' σ' H', Con K G ad' ρ' σ' H' → Step G ad ρ H ad' ρ' H' → Φ.bk ρ' → D.bk σ' H'
  ct : ∀ ad' ρ' σ' H', Con K G ad' ρ' σ' H' → Step G ad ρ H ad' ρ' H' → Φ.ct ρ' → D.ct σ' H'
  rt : ∀ r v H', Ext G.W G.H0 H' → G.dok H' → RvC K G H' v r → Φ.rt r → D.rt v H'
theorem EOk.step {Φ : AEnds} {D : Ends} (k : EOk K G ad ρ H Φ D) (s : Step G ad ρ H ad' ρ' H') : EOk K G ad' ρ' H' Φ D :=
  ⟨fun a r σ' h c t p => k.nx a r σ' h c (s.trans t) p, fun a r σ' h c t p => k.bk a r σ' h c (s.trans t) p, fun a r σ' h c t p => k.ct a r σ' h c (s.trans t) p, k.rt⟩
variable (I K) in
def SA (t : TS) (T : ATS) : Prop := ∀ (G : Gh I) (ad : Nat → Addr) (ρ : ASt) (σ : L2.St) (H : Hp) (Φ : AEnds) (D : Ends), Con K G ad ρ σ H → T Φ ρ → EOk K G ad ρ H Φ D → t D σ H
def aSeq (T U : ATS) : ATS := fun Φ ρ => T { Φ with nx := U Φ } ρ
theorem sa_seq {t u : TS} {T U : ATS} (a : SA I K t T) (b : SA I K u U) : SA I K (tSeq t u) (aSeq T U) := fun G ad ρ σ H Φ D C h k =>
  a G ad ρ σ H { Φ with nx := U Φ } { D with nx := u D } C h ⟨fun ad' ρ' σ' H' c s p => b G ad' ρ' σ' H' Φ D c p (k.step s), k.bk, k.ct, k.rt⟩
def aNext : ATS := fun Φ ρ => Φ.nx ρ
def aBreak : ATS := fun Φ ρ => Φ.bk ρ
def aCont : ATS := fun Φ ρ => Φ.ct ρ
def aNever : ATS := fun _ _ => False
theorem sa_next : SA I K tNext aNext := fun G ad ρ σ H Φ D C h k => k.nx _ _ _ _ C Step.refl h
theorem sa_never : SA I K tNever aNever := fun G ad ρ σ H Φ D C h k => h
def onP (o : Option ASt) (Φ : ASt → Prop) : Prop := match o with
  | some ρ => Φ ρ
  | none => False
def aSet (i : Nat) (T : AE) : ATS := fun Φ ρ => T ρ fun r => onP (aPut i r ρ) Φ.nx
theorem sa_set {i : Nat} {t : TE} {T : AE} (a : EA I K t T) : SA I K (tAsg t (gName i)) (aSet i T) := fun G ad ρ σ H Φ D C h k => by
  refine a G ad ρ σ H _ _ C h fun r v H1 e1 k1 v1 h1 => ?_
  cases e : aPut i r ρ with
  | none => rw [e] at h1; exact h1.elim
  | some ρ1 =>
    rw [e] at h1
    obtain ⟨ad', c, s⟩ := ((At.start C).to e1 k1).put v1 e
    exact k.nx _ _ _ _ c s h1
def retR : R → (R → Prop) → Prop
  | .d x, Φ => Φ (.d x)
  | .l xs, Φ => Φ (.l xs)
  | .o _ xs, Φ => Φ (.l xs)
  | _, _ => False
theorem At.retR (A : At K G ad ρ σ H0 H) {v : V} {r : R} {Φ : R → Prop} (h : Rv K G ad ρ H0 H v r) (q : retR r Φ) : ∃ s, RvC K G H v s ∧ Φ s := by
  cases r with
  | d x => exact ⟨.d x, (show Dv K _ H v x from h).weak fun b z => .inl z, q⟩
  | l xs =>
    obtain ⟨p, vs, rfl, h1, h2, h3⟩ := h
    exact ⟨.l xs, ⟨p, vs, rfl, free_back A.c0.ext (fun a w => A.c0.dok.liveW w) h1, h2, h3.weak fun b z => z.elim (fun z => .inl (.inl z)) .inr⟩, q⟩
  | o j xs =>
    obtain ⟨h1, rfl⟩ := h
    obtain ⟨_, vs, h2, h3⟩ := A.con.own_get h1
    exact ⟨.l xs, ⟨_, vs, rfl, A.con.fr j ⟨xs, h1⟩, h2, h3.weak fun b z => z.elim .inl fun e => .inr ⟨j, ⟨xs, h1⟩, e⟩⟩, q⟩
  | b xs => exact q.elim
  | dk => exact q.elim
  | ty n => exact q.elim
  | fn f => exact q.elim
def aRet (T : AE) : ATS := fun Φ ρ => T ρ fun r => retR r Φ.rt
theorem sa_ret {t : TE} {T : AE} (a : EA I K t T) : SA I K (tRet t) (aRet T) := fun G ad ρ σ H Φ D C h k => by
  refine a G ad ρ σ H _ _ C h fun r v H1 e1 k1 v1 h1 => ?_
  have A1 := (At.start C).to e1 k1
  obtain ⟨s, q1, q2⟩ := A1.retR v1 h1
  exact k.rt s v H1 A1.con.ext k1 q1 q2
def aRetN : ATS := fun Φ _ => Φ.rt (.d .none)
def aDrop (T : AE) : ATS := fun Φ ρ => T ρ fun _ => Φ.nx ρ
theorem sa_drop {t : TE} {T : AE} (a : EA I K t T) : SA I K (tDrop t) (aDrop T) := fun G ad ρ σ H Φ D C h k => by
  refine a G ad ρ σ H _ _ C h fun r v H1 e1 k1 v1 h1 => ?_
  have A1 := (At.start C).to e1 k1
  exact k.nx _ _ _ _ A1.con A1.step h1
def aIfS (c : AT) (T U : ATS) : ATS := fun Φ ρ => c ρ fun b => if b = true then T Φ ρ else U Φ ρ
theorem sa_if {c : TT} {t u : TS} {cT : AT} {T U : ATS} (a : TAb I K c cT) (b : SA I K t T) (d : SA I K u U) : SA I K (tIfS c t u) (aIfS cT T U) := fun G ad ρ σ H Φ D C h k => by
  refine a G ad ρ σ H _ _ C h fun x H1 e1 k1 h1 => ?_
  have A1 := (At.start C).to e1 k1
  cases x with
  | true => exact iteT (b G ad ρ σ H1 Φ D A1.con (by rw [if_pos rfl] at h1; exact h1) (k.step A1.step))
  | false => exact iteF (d G ad ρ σ H1 Φ D A1.con (by rw [if_neg Bool.false_ne_true] at h1; exact h1) (k.step A1.step))
def aCut (T U : ATS) : ATS := fun Φ ρ => ∃ M : ASt → Prop, T { Φ with nx := M } ρ ∧ ∀ ρ', M ρ' → U Φ ρ'
theorem sa_cut {t u : TS} {T U : ATS} (a : SA I K t T) (b : SA I K u U) : SA I K (Evl.tCut t u) (aCut T U) := fun G ad ρ σ H Φ D C h k => by
  obtain ⟨M, h1, h2⟩ := h
  refine ⟨fun σ' H' => ∃ ad' ρ', Con K G ad' ρ' σ' H' ∧ Step G ad ρ H ad' ρ' H' ∧ M ρ', a G ad ρ σ H { Φ with nx := M } _ C h1 ⟨fun ad' ρ' σ' H' c s p => ⟨ad', ρ', c, s, p⟩, k.bk, k.ct, k.rt⟩, ?_⟩
  rintro σ' H' ⟨ad', ρ', c, s, p⟩
  exact b G ad' ρ' σ' H' Φ D c (h2 _ p) (k.step s)
/-! ### several targets -/
/-- an item that is walked: a datum, or (s false) a tuple of data that is taken apart at once -/
def DwS (s : Bool) (K : PySem.W.Frag) (O : Addr → Prop) (H : Hp) (v : V) (x : PyData) : Prop := Dv K O H v x ∨ (s = false ∧ ∃ a vs ds, v = .ref a ∧ x = .tuple ds ∧ SqT K H a vs ∧ DvAll K O H vs ds)
theorem DwS.to {s s' : Bool} {O : Addr → Prop} {H : Hp} {v : V} {x : PyData} (h : DwS s K O H v x) (w : s' = true → s = true) : DwS s' K O H v x := by
  rcases h with h | ⟨e, h⟩
  · exact .inl h
  · refine .inr ⟨?_, h⟩
    cases s' with
    | false => rfl
    | true => rw [w rfl] at e; cases e
variable (I K) in
def GD (s : Bool) (ns : List Nat) (g : TG) (A : PyData → ASt → (ASt → Prop) → Prop) : Prop := ∀ (G : Gh I) (ad : Nat → Addr) (ρ : ASt) (σ : L2.St) (H : Hp) (v : V) (x : PyData) (Φ : ASt → Prop) (Q : L2.St → Hp → Prop), Con K G ad ρ σ H → DwS s K (Ow G ad ρ) H v x → A x ρ Φ →
  (∀ ρ' σ', Con K G ad ρ' σ' H → (∀ b, Ow G ad ρ' b → Ow G ad ρ b) → (∀ k, ownAt ρ' k → ownAt ρ k) → ((∀ k, k ∉ ns → σ'[k]? = σ[k]? ∧ ρ'[k]? = ρ[k]?) ∧ σ'.length = σ.length) → Φ ρ' → Q σ' H) → g v σ H Q
variable (I K) in
def GDs (ns : List Nat) (g : TGs) (A : List PyData → ASt → (ASt → Prop) → Prop) : Prop := ∀ (G : Gh I) (ad : Nat → Addr) (ρ : ASt) (σ : L2.St) (H : Hp) (v : List V) (x : List PyData) (Φ : ASt → Prop) (Q : L2.St → Hp → Prop), Con K G ad ρ σ H → DvAll K (Ow G ad ρ) H v x → A x ρ Φ →
  (∀ ρ' σ', Con K G ad ρ' σ' H → (∀ b, Ow G ad ρ' b → Ow G ad ρ b) → (∀ k, ownAt ρ' k → ownAt ρ k) → ((∀ k, k ∉ ns → σ'[k]? = σ[k]? ∧ ρ'[k]? = ρ[k]?) ∧ σ'.length = σ.length) → Φ ρ' → Q σ' H) → g v σ H Q
def bName (i : Nat) : PyData → ASt → (ASt → Prop) → Prop := fun x ρ Φ => Φ (ρ.set i (some (.d x)))
theorem gd_name (i : Nat) : GD I K true [i] (gName i) (bName i) := fun G ad ρ σ H v x Φ Q C d h k =>
  k _ _ (C.putN (av := .d x) (fun _ z => nomatch z) (d.elim id fun z => nomatch z.1)) (fun b z => z.imp id fun ⟨j, hj, e⟩ => ⟨j, own_putN (av := .d x) (fun _ z => nomatch z) hj, e⟩) (fun j hj => own_putN (av := .d x) (fun _ z => nomatch z) hj) ⟨fun k hk => by
    have e : i ≠ k := fun z => hk (by rw [z]; exact List.mem_cons.mpr (.inl rfl))
    rw [List.getElem?_set, List.getElem?_set, if_neg e, if_neg e]
    exact ⟨rfl, rfl⟩, List.length_set⟩ h
def bNil : List PyData → ASt → (ASt → Prop) → Prop := fun xs ρ Φ => xs = [] ∧ Φ ρ
def bCons (A : PyData → ASt → (ASt → Prop) → Prop) (B : List PyData → ASt → (ASt → Prop) → Prop) : List PyData → ASt → (ASt → Prop) → Prop
  | x :: xs, ρ, Φ => A x ρ fun ρ' => B xs ρ' Φ
  | [], _, _ => False
theorem gd_nil : GDs I K [] gNil bNil := fun G ad ρ σ H v x Φ Q C d h k => by
  obtain ⟨rfl, h⟩ := h
  cases d
  exact ⟨rfl, k _ _ C (fun _ z => z) (fun _ z => z) ⟨fun _ _ => ⟨rfl, rfl⟩, rfl⟩ h⟩
theorem gd_cons {s : Bool} {n1 n2 : List Nat} {g : TG} {gs : TGs} {A : PyData → ASt → (ASt → Prop) → Prop} {B : List PyData → ASt → (ASt → Prop) → Prop} (a : GD I K s n1 g A) (b : GDs I K n2 gs B) : GDs I K (n1 ++ n2) (gCons g gs) (bCons A B) := fun G ad ρ σ H v x Φ Q C d h k => by
  cases x with
  | nil => exact h.elim
  | cons x xs =>
    cases d with
    | cons d1 d2 =>
      refine ⟨_, _, rfl, a G ad ρ σ H _ x _ _ C (.inl d1) h fun ρ1 σ1 c1 o1 w1 f1 h1 => ?_⟩
      exact b G ad ρ1 σ1 H _ xs _ _ c1 (d2.weak o1) h1 fun ρ2 σ2 c2 o2 w2 f2 h2 => k ρ2 σ2 c2 (fun z q => o1 z (o2 z q)) (fun z q => w1 z (w2 z q)) ⟨fun j hj => by
        have h1 := f1.1 j fun z => hj (List.mem_append.mpr (.inl z))
        have h2 := f2.1 j fun z => hj (List.mem_append.mpr (.inr z))
        exact ⟨h2.1.trans h1.1, h2.2.trans h1.2⟩, f2.2.trans f1.2⟩ h2
def bTup (n : Nat) (B : List PyData → ASt → (ASt → Prop) → Prop) : PyData → ASt → (ASt → Prop) → Prop
  | .tuple xs, ρ, Φ => xs.length = n ∧ B xs ρ Φ
  | _, _, _ => False
theorem gd_tup {n : Nat} {ns : List Nat} {gs : TGs} {B : List PyData → ASt → (ASt → Prop) → Prop} (b : GDs I K ns gs B) : GD I K false ns (gTup K n gs) (bTup n B) := fun G ad ρ σ H v x Φ Q C d h k => by
  match x, h with
  | .tuple xs, h =>
    rcases d with d | ⟨_, a, vs, ds, rfl, e, h1, h2⟩
    · cases (show Dv K _ H v (.tuple xs) from d) with
      | @tup a vs _ h1 h2 => exact ⟨a, vs, rfl, h1.1, by rw [← h2.len]; exact h.1, b G ad ρ σ H vs xs Φ Q C h2 h.2 k⟩
    · cases e
      exact ⟨a, vs, rfl, h1, by rw [← h2.len]; exact h.1, b G ad ρ σ H vs xs Φ Q C h2 h.2 k⟩
theorem Step.ofD (h : ∀ k, ownAt ρ' k → ownAt ρ k) : Step G ad ρ H ad ρ' H := ⟨fun _ _ _ h => h, fun i hi => .inl ⟨i, h i hi, rfl⟩, fun _ h => h⟩
/-- a, b = e (a tuple) -/
def aUnp (n : Nat) (T : AE) (B : List PyData → ASt → (ASt → Prop) → Prop) : ATS := fun Φ ρ => T ρ fun r => match r with
  | .d (.tuple xs) => xs.length = n ∧ B xs ρ Φ.nx
  | _ => False
def aUnl (n : Nat) (T : AE) (B : List PyData → ASt → (ASt → Prop) → Prop) : ATS := fun Φ ρ => T ρ fun r => match listOf r with
  | some xs => xs.length = n ∧ B xs ρ Φ.nx
  | none => False
/-! ### own lists change -/
theorem Con.mut (C : Con K G ad ρ σ H) {i : Nat} {xs ys : List PyData} {us : List V} (h : ρ[i]? = some (some (.own xs))) (d : DvAll K (Ow G ad ρ) H us ys) :
    Con K G ad (ρ.set i (some (.own ys))) σ (upd H (ad i) (.lst us)) ∧ Step G ad ρ H ad (ρ.set i (some (.own ys))) (upd H (ad i) (.lst us)) := by
  obtain ⟨hσ, vs, g1, g2⟩ := C.own_get h
  have hi : ownAt ρ i := ⟨xs, h⟩
  have hl : i < ρ.length := (List.getElem?_eq_some_iff.mp h).1
  have ow : ∀ {k : Nat}, ownAt (ρ.set i (some (.own ys))) k → ownAt ρ k := fun {k} h => by
    rcases own_set h with ⟨rfl, _⟩ | ⟨_, h⟩
    · exact hi
    · exact h
  have wO : ∀ b, Ow G ad (ρ.set i (some (.own ys))) b → Ow G ad ρ b := fun b h => h.imp id fun ⟨k, hk, e⟩ => ⟨k, ow hk, e⟩
  have wM : ∀ b, Mu G ad (ρ.set i (some (.own ys))) b → Mu G ad ρ b := fun b h => h.imp id fun ⟨k, hk, e⟩ => ⟨k, ow hk, e⟩
  have ex : Ext (fun b => b = ad i) H (upd H (ad i) (.lst us)) := fun b o n e => by rw [upd_ne n]; exact e
  have sO : ∀ b, b = ad i → Ow G ad ρ b := fun b e => .inr ⟨i, hi, e⟩
  have sM : ∀ b, b = ad i → Mu G ad ρ b := fun b e => .inr ⟨i, hi, e⟩
  have lv : ∀ b, (∃ o, H b = some o) → ∃ o, upd H (ad i) (.lst us) b = some o := fun b ⟨o, e⟩ => by
    by_cases z : b = ad i
    · rw [z]; exact ⟨_, upd_same⟩
    · exact ⟨o, by rw [upd_ne z]; exact e⟩
  refine ⟨⟨C.ok, fun h => lv _ (C.live h), fun h => C.ownO (ow h), C.dok.out (fun a w => upd_ne fun e => C.ownW hi (e ▸ w)) (fun p b o q z e => by
    rw [upd_ne (fun y => ?_)]
    · exact e
    · rcases C.ok.kp p b q z with x | ⟨u, x⟩
      · exact C.ownO hi (y ▸ x)
      · rw [y, C.fr i hi] at x; cases x), fun b o n e => ?_, by rw [List.length_set]; exact C.len, fun k => ?_, fun a b ha hb => C.inj a b (ow ha) (ow hb), fun a ha => C.fr a (ow ha)⟩, ⟨fun b o n e => ex b o (fun z => n (sM b z)) e, fun k hk => .inl ⟨k, ow hk, rfl⟩, lv⟩⟩
  · rw [upd_ne (fun z => by rw [z, C.fr i hi] at e; cases e)]
    exact C.ext b o n e
  · rw [getD_set]
    by_cases e : i = k
    · subst e
      rw [if_pos rfl, if_pos hl, hσ]
      exact ⟨rfl, us, upd_same, (d.ext ex sO).weak wO⟩
    · rw [if_neg e]
      refine ((C.sl k).ext ex sO sM fun ⟨zs, q⟩ z => e (C.inj i k hi (ownAt_iff.mpr ⟨zs, q⟩) z.symm)).weak wO wM
/-- xs.append(e) -/
def aAppend (i : Nat) (T : AE) : ATS := fun Φ ρ => match ρ[i]? with
  | some (some (.own xs)) => T ρ fun r => match dataOf r with
    | some y => xs.length < sizeLine ∧ Φ.nx (ρ.set i (some (.own (xs ++ [y]))))
    | none => False
  | _ => False
def aExtend (i : Nat) (T : AE) : ATS := fun Φ ρ => match ρ[i]? with
  | some (some (.own xs)) => T ρ fun r => match listOf r with
    | some ys => xs.length + ys.length ≤ sizeLine ∧ Φ.nx (ρ.set i (some (.own (xs ++ ys))))
    | none => False
  | _ => False
theorem sa_extend {i : Nat} {t : TE} {T : AE} (a : EA I K t T) : SA I K (tDrop (tBM K "list" rExtend (tVar i) (tCons t tNil))) (aExtend i T) := fun G ad ρ σ H Φ D C h k => by
  unfold aExtend at h
  split at h
  · rename_i xs hx
    obtain ⟨hσ, vs, g1, g2⟩ := C.own_get hx
    refine ⟨_, hσ, .inl ⟨rfl, _, SqL.of g1⟩, a G ad ρ σ H _ _ C h fun r v H1 e1 k1 v1 h1 => ?_⟩
    have A1 := (At.start C).to e1 k1
    cases e : listOf r with
    | none => simp only [e] at h1
    | some y =>
      simp only [e] at h1
      obtain ⟨_, us, g3, g4⟩ := A1.con.own_get hx
      obtain ⟨b, ws, rfl, g5, g6, _⟩ := A1.list v1 e
      refine ⟨_, b, us, ws, rfl, rfl, g3, g5, by rw [← g4.len, ← g6.len]; exact h1.1, ?_⟩
      obtain ⟨c, s⟩ := A1.con.mut hx (g4.append g6)
      exact k.nx _ _ _ _ c (A1.step.trans s) h1.2
  · exact h.elim
/-- ys.append(xs.pop(e)) -/
def aAppendPop (i j : Nat) (T : AE) : ATS := fun Φ ρ => match ρ[i]?, ρ[j]? with
  | some (some (.own xs)), some (some (.own ys)) => i ≠ j ∧ T ρ fun r => match r with
    | .d (.int n) => 0 ≤ n ∧ n < 2 ^ 63 ∧ xs.length < sizeLine ∧ match ys[n.toNat]? with
      | some y => Φ.nx ((ρ.set j (some (.own (ys.eraseIdx n.toNat)))).set i (some (.own (xs ++ [y]))))
      | none => False
    | _ => False
  | _, _ => False
/-- x = xs.pop() -/
def aPopSet (i j : Nat) : ATS := fun Φ ρ => match ρ[j]? with
  | some (some (.own ys)) => match ys[ys.length - 1]? with
    | some y => Φ.nx ((ρ.set j (some (.own ys.dropLast))).set i (some (.d y)))
    | none => False
  | _ => False
end
end Zj

namespace Zj
namespace Er
open PySem PySem.W PySem.Calls PyProof.Rows PySem.HandSPX PySem.Spec Builtin Builtin.ObjectAttr
/-! ### own error classes over Exception -/
abbrev exTl : List Value := [.type "Exception", .type "BaseException", .type "object"]
/-- classes of the program, behind them those above Exception -/
def upEx : List Value → Bool
  | .ref _ :: l => upEx l
  | l => l == exTl
section
variable {prog : Program} {wd : World} {Ar : Around} {E : Value → Shared → Prop} {R : Result → Shared → Prop} {hp : Heap} {gs : Array GenState} {dr : Drawn} {tk : Nat} {os : OsState}
end
/-! #### with the field thing -/
def argsthing (p1 p2 : Pos) : Arguments := { posonlyargs := [], args := [{ arg := "self", annotation := none, pos := p1 }, { arg := "thing", annotation := none, pos := p2 }], vararg := none, kwonlyargs := [], kw_defaults := [], kwarg := none, defaults := [] }
def bodything (q1 q2 q3 q4 : Pos) : List Stmt := [.Assign [.Attribute (.Name "self" q1) "thing" q2] (.Name "thing" q3) q4]
def scopething : Scope := { kind := .function, names := [(PySem.Str.ofString "self", .local), (PySem.Str.ofString "thing", .local)], isGenerator := false, isCoroutine := false, more := [] }
/-- what the written part says of the class x at C, and of its __init__, at fI -/
structure Onething (K : Frag) (mg : Str → Option Value) (x qn : Str) (C fI : Addr) : Prop where
  gC : mg x = some (.ref C)
  cls : ∃ nm q N bs bm sn sub ab col dd k0 k1 k2 k3 k5, K.lookup C = some (excClassObj nm q C N bs bm true sn sub ab col dd k0 k1 k2 k3 k5 "Exception.__new__") ∧ upEx bm = true
  sa : findIn K (.ref C) "__setattr__" = some (some (.builtin "object.__setattr__"))
  xf : L2.XfC K C
  noN : findIn K (.ref C) "thing" = some none
  iC : findIn K (.ref C) "__init__" = some (some (.ref fI))
  tI : typeIn K (.ref fI) = some (.type "function")
  kC : keepIn K (.ref C) = true
  tyC : typeIn K (.ref C) = some (.type "type")
  te : exmOne K (.ref C) (.ref C) = some true
  fn : ∃ (oc : Value) (od : Option Addr) (doc pm : Value) (an : Option Addr) (cdv ct : Value) (osl : Array (Option Value)) (p1 p2 q1 q2 q3 q4 : Pos),
    K.lookup fI = some ⟨oc, od, .func (fnOf "__init__" qn (argsthing p1 p2) (bodything q1 q2 q3 q4) scopething .none .none doc pm an cdv ct), osl⟩ ∧ codeIn K cdv qn = true
/-- a made one: e, its dict d -/
structure Madething (h h2 : Heap) (e C d : Addr) (v : Value) : Prop where
  keep : ∀ a o, h.get? a = some o → h2.get? a = some o
  new : h.objs.size ≤ e
  obj : ∃ oe vs, h2.get? e = some oe ∧ oe.cls = .ref C ∧ oe.dict = some d ∧ oe.data = .fields vs ∧ vs[1]? = some .none
  dnew : h.objs.size ≤ d
  dne : d ≠ e
  ns : h2.Ns1 d (fun y => if y = "thing" then some v else none)
section
variable {prog : Program} {wd : World} {Ar : Around} {E : Value → Shared → Prop} {R : Result → Shared → Prop} {s : Shared} {K : Frag} {mg : Str → Option Value} {C fI : Addr} {x qn : Str}
end
/-! #### with the field at -/
def argsat (p1 p2 : Pos) : Arguments := { posonlyargs := [], args := [{ arg := "self", annotation := none, pos := p1 }, { arg := "at", annotation := none, pos := p2 }], vararg := none, kwonlyargs := [], kw_defaults := [], kwarg := none, defaults := [] }
def bodyat (q1 q2 q3 q4 : Pos) : List Stmt := [.Assign [.Attribute (.Name "self" q1) "at" q2] (.Name "at" q3) q4]
def scopeat : Scope := { kind := .function, names := [(PySem.Str.ofString "self", .local), (PySem.Str.ofString "at", .local)], isGenerator := false, isCoroutine := false, more := [] }
/-- what the written part says of the class x at C, and of its __init__, at fI -/
structure Oneat (K : Frag) (mg : Str → Option Value) (x qn : Str) (C fI : Addr) : Prop where
  gC : mg x = some (.ref C)
  cls : ∃ nm q N bs bm sn sub ab col dd k0 k1 k2 k3 k5, K.lookup C = some (excClassObj nm q C N bs bm true sn sub ab col dd k0 k1 k2 k3 k5 "Exception.__new__") ∧ upEx bm = true
  sa : findIn K (.ref C) "__setattr__" = some (some (.builtin "object.__setattr__"))
  xf : L2.XfC K C
  noN : findIn K (.ref C) "at" = some none
  iC : findIn K (.ref C) "__init__" = some (some (.ref fI))
  tI : typeIn K (.ref fI) = some (.type "function")
  kC : keepIn K (.ref C) = true
  tyC : typeIn K (.ref C) = some (.type "type")
  te : exmOne K (.ref C) (.ref C) = some true
  fn : ∃ (oc : Value) (od : Option Addr) (doc pm : Value) (an : Option Addr) (cdv ct : Value) (osl : Array (Option Value)) (p1 p2 q1 q2 q3 q4 : Pos),
    K.lookup fI = some ⟨oc, od, .func (fnOf "__init__" qn (argsat p1 p2) (bodyat q1 q2 q3 q4) scopeat .none .none doc pm an cdv ct), osl⟩ ∧ codeIn K cdv qn = true
/-- a made one: e, its dict d -/
structure Madeat (h h2 : Heap) (e C d : Addr) (v : Value) : Prop where
  keep : ∀ a o, h.get? a = some o → h2.get? a = some o
  new : h.objs.size ≤ e
  obj : ∃ oe vs, h2.get? e = some oe ∧ oe.cls = .ref C ∧ oe.dict = some d ∧ oe.data = .fields vs ∧ vs[1]? = some .none
  dnew : h.objs.size ≤ d
  dne : d ≠ e
  ns : h2.Ns1 d (fun y => if y = "at" then some v else none)
section
variable {prog : Program} {wd : World} {Ar : Around} {E : Value → Shared → Prop} {R : Result → Shared → Prop} {s : Shared} {K : Frag} {mg : Str → Option Value} {C fI : Addr} {x qn : Str}
end
end Er
end Zj
namespace Zj
open PySem PySem.Spec PyProof.Rows L2
/-! #### thing: made and raised in a def -/
section
variable {X : Cx} {C fI : Addr} {x qn : Str}
end
/-! #### at: made and raised in a def -/
section
variable {X : Cx} {C fI : Addr} {x qn : Str}
end
end Zj

namespace Zj
open PySem PySem.Spec PyProof.Rows L2
/-! ### texts by their signs -/
abbrev Tx (l : List Nat) : Str := ⟨l.toArray⟩
/-! ### the reader's object -/
structure RdC (K : PySem.W.Frag) (mg : Str → Option Value) (C CB : Addr) (qB : Str) (fB : Addr) : Prop where
  bt : Er.Oneat K mg "BadText" qB CB fB
  gR : mg "Reader" = some (.ref C)
  cl : Cls K C
  nl : NoAttr K C "line"
  na : NoAttr K C "at"
/-- all but p stays -/
def Bp (p : Addr) (H H' : Hp) : Prop := ∀ b, b ≠ p → H' b = H b
theorem Bp.refl {p : Addr} (H : Hp) : Bp p H H := fun _ _ => rfl
theorem Bp.trans {p : Addr} {H H1 H2 : Hp} (a : Bp p H H1) (b : Bp p H1 H2) : Bp p H H2 := fun x h => (b x h).trans (a x h)
theorem Bp.upd {p : Addr} {H : Hp} {o : HO} : Bp p H (upd H p o) := fun _ h => upd_ne h
/-- all that was stays but p -/
def Ap (p : Addr) (H H' : Hp) : Prop := ∀ b o, b ≠ p → H b = some o → H' b = some o
theorem Ap.refl {p : Addr} (H : Hp) : Ap p H H := fun _ _ _ h => h
theorem Ap.trans {p : Addr} {H H1 H2 : Hp} (a : Ap p H H1) (b : Ap p H1 H2) : Ap p H H2 := fun x o n h => b x o n (a x o n h)
theorem Ap.new {p d : Addr} {H : Hp} {o : HO} (h : H d = none) : Ap p H (upd H d o) := fun b o' _ e => by
  have : b ≠ d := fun q => by rw [q, h] at e; cases e
  rw [upd_ne this]
  exact e
/-- the words of the sorts -/
def sortsL : List (List Nat) := [[97, 108, 112, 104, 97], [98, 101, 116, 97], [114, 99]]
def sortsV : List V := sortsL.map fun w => .str (Tx w)
structure SoC (K : PySem.W.Frag) (mg : Str → Option Value) (aS : Addr) : Prop where
  g : mg "SORTS" = some (.ref aS)
  s : ∀ H, SqT K H aS sortsV
/-! ### one sign of a text, as the law cuts it -/
end Zj

namespace Zj
open PySem PySem.Spec PyProof.Rows L2
/-! ### enumerate of a tuple -/
section
variable {prog : Program} {w : World} {A : Around} {E : Value → Shared → Prop} {s : Shared}
end
end Zj

namespace Zj
open PySem L2
section
variable {I : DkI} {K : PySem.W.Frag} {G : Gh I} {ad ad' ad2 : Nat → Addr} {ρ ρ1 ρ' ρ2 : ASt} {σ σ' : L2.St} {H H0 H1 H' H2 : Hp}
theorem Step.notO (C : Con K G ad ρ σ H) (s : Step G ad ρ H ad' ρ' H') {a : Addr} {o : HO} (h : H a = some o) (n : ¬ Ow G ad ρ a) : ¬ Ow G ad' ρ' a := by
  rintro (z | ⟨i, hi, rfl⟩)
  · exact n (.inl z)
  · rcases s.own i hi with ⟨j, hj, e⟩ | e
    · exact n (.inr ⟨j, hj, e⟩)
    · rw [h] at e; cases e
theorem Dv.step (C : Con K G ad ρ σ H) (s : Step G ad ρ H ad' ρ' H') {v : V} {x : PyData} (h : Dv K (Ow G ad ρ) H v x) : Dv K (Ow G ad' ρ') H' v x :=
  Dv.map (fun a xs h => ⟨s.notO C h.2 h.1, s.pres _ _ (fun z => h.1 (C.mo z)) h.2⟩) (fun a xs h => by
    rcases h with ⟨h1, p1, h2 | h2⟩
    · have pr : ∀ o, H a = some o → H' a = some o := fun o e => s.pres _ _ (fun z => h2 (C.mo z)) e
      have p2 : PlT K H' a xs := by
        rcases p1 with ⟨o, e, d⟩ | p1
        · exact .inl ⟨o, pr _ e, d⟩
        · exact .inr p1
      rcases h1 with h1 | h1
      · obtain ⟨o, e⟩ := rd_some h1
        refine ⟨.inl ?_, p2, .inl (s.notO C e h2)⟩
        rcases h1 with h1 | ⟨o, h1⟩
        · exact .inl (pr _ h1)
        · exact .inr ⟨o, pr _ h1⟩
      · rcases p1 with ⟨o, e, _⟩ | p1
        · exact ⟨.inr h1, p2, .inl (s.notO C e h2)⟩
        · exact ⟨.inr h1, p2, .inr fun _ => ⟨.inr h1, .inr p1⟩⟩
    · exact ⟨(h2 _).1, (h2 _).2, .inr h2⟩) (fun a kvs h => ⟨h.2.elim fun _ q => s.notO C q h.1, h.2.imp fun _ q => s.pres _ _ (fun z => h.1 (C.mo z)) q⟩) _ _ h
theorem DvAll.step (C : Con K G ad ρ σ H) (s : Step G ad ρ H ad' ρ' H') : ∀ {v : List V} {x : List PyData}, DvAll K (Ow G ad ρ) H v x → DvAll K (Ow G ad' ρ') H' v x
  | _, _, .nil => .nil
  | _, _, .cons h t => .cons (Dv.step C s h) (DvAll.step C s t)
theorem SqTo.step (C : Con K G ad ρ σ H) (s : Step G ad ρ H ad' ρ' H') {a : Addr} {xs : List V} (h : SqTo K (Ow G ad ρ) H a xs) : SqT K H' a xs := by
  rcases h with ⟨h1, _, h2 | h2⟩
  · rcases h1 with (h1 | ⟨o, h1⟩) | h1
    · exact .inl (.inl (s.pres _ _ (fun z => h2 (C.mo z)) h1))
    · exact .inl (.inr ⟨o, s.pres _ _ (fun z => h2 (C.mo z)) h1⟩)
    · exact .inr h1
  · exact (h2 _).1
/-- an iterator, at one heap -/
def JS (s : Bool) (K : PySem.W.Frag) (O : Addr → Prop) (J : It) (H : Hp) (items : List PyData) : Prop := ∀ i, (∀ x, items[i]? = some x → J.go i H ∧ ∀ v H'', J.yld i H v H'' → Same H H'' ∧ DwS s K O H'' v x) ∧ (i = items.length → J.stop i H)
theorem js_tup {O : Addr → Prop} {a : Addr} {vs : List V} {xs : List PyData} (h : SqT K H a vs) (d : DvAll K O H vs xs) : JS true K O (Itt K a) H xs := fun i => by
  refine ⟨fun x hx => ?_, fun hl => ⟨vs, h, by rw [← d.len, hl]; exact Nat.le_refl _⟩⟩
  obtain ⟨v, hv, dv⟩ := d.get hx
  refine ⟨⟨vs, v, h, hv⟩, fun w H'' y => ?_⟩
  obtain ⟨rfl, y⟩ := y
  have := y vs h
  rw [hv] at this
  cases Option.some.inj this
  exact ⟨Same.refl _, .inl dv⟩
theorem js_listH {O : Addr → Prop} {a : Addr} {vs : List V} {xs : List PyData} (h : H a = some (.lst vs)) (d : DvAll K O H vs xs) : JS true K O (Itl K a) H xs := fun i => by
  have h0 : SqL K H a vs := SqL.of h
  refine ⟨fun x hx => ?_, fun hl => ⟨vs, h0, by rw [← d.len, hl]; exact Nat.le_refl _⟩⟩
  obtain ⟨v, hv, dv⟩ := d.get hx
  refine ⟨⟨vs, v, h0, hv⟩, fun w H'' y => ?_⟩
  obtain ⟨rfl, y⟩ := y
  have := y vs h0
  rw [hv] at this
  cases Option.some.inj this
  exact ⟨Same.refl _, .inl dv⟩
def rangeD (lo : Int) (n : Nat) : List PyData := (List.range n).map fun i => .int (lo + (i : Nat))
theorem rangeD_len {lo : Int} {n : Nat} : (rangeD lo n).length = n := by rw [rangeD, List.length_map, List.length_range]
theorem rangeD_get {lo : Int} {n i : Nat} {x : PyData} (h : (rangeD lo n)[i]? = some x) : i < n ∧ x = .int (lo + (i : Nat)) := by
  unfold rangeD at h
  rw [List.getElem?_map] at h
  cases e : (List.range n)[i]? with
  | none => rw [e] at h; cases h
  | some j =>
    rw [e] at h
    obtain ⟨h1, h2⟩ := List.getElem?_eq_some_iff.mp e
    rw [List.getElem_range] at h2
    rw [List.length_range] at h1
    subst h2
    exact ⟨h1, (Option.some.inj h).symm⟩
theorem js_range {O : Addr → Prop} {lo : Int} {n : Nat} : JS true K O (Itr lo n) H (rangeD lo n) := fun i => by
  refine ⟨fun x hx => ?_, fun hl => by rw [rangeD_len] at hl; exact Nat.le_of_eq hl.symm⟩
  obtain ⟨h1, rfl⟩ := rangeD_get hx
  refine ⟨h1, fun v H'' y => ?_⟩
  obtain ⟨rfl, rfl⟩ := y
  exact ⟨Same.refl _, .inl (.int _)⟩
def signsD (x : Str) : List PyData := x.cps.toList.map fun c => .str ⟨#[c]⟩
theorem js_str {O : Addr → Prop} {x : Str} : JS true K O (Its x) H (signsD x) := fun i => by
  refine ⟨fun y hy => ?_, fun hl => ?_⟩
  · unfold signsD at hy
    rw [List.getElem?_map] at hy
    cases e : x.cps.toList[i]? with
    | none => rw [e] at hy; cases hy
    | some c =>
      rw [e] at hy
      have e2 : x.cps[i]? = some c := by rw [← Array.getElem?_toList]; exact e
      have hl : i < x.cps.size := by
        obtain ⟨h, _⟩ := Array.getElem?_eq_some_iff.mp e2
        exact h
      refine ⟨hl, fun v H'' z => ?_⟩
      obtain ⟨rfl, c2, h1, rfl⟩ := z
      rw [e2] at h1
      cases Option.some.inj h1
      cases Option.some.inj hy
      exact ⟨Same.refl _, .inl (.str _)⟩
  · unfold signsD at hl
    rw [List.length_map, Array.length_toList] at hl
    exact Nat.le_of_eq hl.symm
def enumD : Nat → List PyData → List PyData
  | _, [] => []
  | i, x :: xs => .tuple [.int (i : Nat), x] :: enumD (i + 1) xs
theorem enumD_len : ∀ {k : Nat} {xs : List PyData}, (enumD k xs).length = xs.length
  | _, [] => rfl
  | k, _ :: xs => by rw [enumD, List.length_cons, List.length_cons, enumD_len]
theorem enumD_get : ∀ {k : Nat} {xs : List PyData} {i : Nat} {z : PyData}, (enumD k xs)[i]? = some z → ∃ x, xs[i]? = some x ∧ z = .tuple [.int ((k + i : Nat) : Int), x]
  | _, [], _, _, h => by simp [enumD] at h
  | k, x :: xs, 0, z, h => ⟨x, rfl, (Option.some.inj h).symm⟩
  | k, x :: xs, i + 1, z, h => by
    obtain ⟨y, h1, h2⟩ := enumD_get (k := k + 1) (xs := xs) (i := i) (by simpa [enumD] using h)
    exact ⟨y, h1, by rw [h2]; congr 3; congr 1; omega⟩
theorem dv_new {O : Addr → Prop} {T : Addr} {vs : List V} {ds : List PyData} (f : H T = none) (n : ¬ O T) (d : DvAll K O H vs ds) : DwS false K O (upd H T (.tup vs)) (.ref T) (.tuple ds) :=
  .inr ⟨rfl, T, vs, ds, rfl, rfl, SqT.of upd_same, DvAll.ext (W := fun _ => False) d (Ext.new f) fun _ z => z.elim⟩
theorem js_enum {O : Addr → Prop} {a : Addr} {vs : List V} {xs : List PyData} (lO : ∀ p, H p = none → ¬ O p) (h : H a = some (.lst vs)) (d : DvAll K O H vs xs) : JS false K O (Ite K a) H (enumD 0 xs) := fun i => by
  have h0 : SqL K H a vs := SqL.of h
  refine ⟨fun z hz => ?_, fun hl => ⟨vs, h0, by rw [← d.len]; rw [enumD_len] at hl; omega⟩⟩
  obtain ⟨x, hx, rfl⟩ := enumD_get hz
  obtain ⟨v, hv, dv⟩ := d.get hx
  refine ⟨⟨vs, v, h0, hv⟩, fun w H'' y => ?_⟩
  obtain ⟨T, x', rfl, hT, rfl, y⟩ := y
  have := y vs h0
  rw [hv] at this
  cases Option.some.inj this
  refine ⟨Same.new hT, dv_new hT (lO _ hT) (.cons ?_ (.cons dv .nil))⟩
  rw [Nat.zero_add]
  exact .int _
def zipD : List PyData → List PyData → List PyData
  | x :: xs, y :: ys => .tuple [x, y] :: zipD xs ys
  | _, _ => []
theorem zipD_get : ∀ {xs ys : List PyData} {i : Nat} {z : PyData}, (zipD xs ys)[i]? = some z → ∃ x y, xs[i]? = some x ∧ ys[i]? = some y ∧ z = .tuple [x, y]
  | [], _, _, _, h => by simp [zipD] at h
  | _ :: _, [], _, _, h => by simp [zipD] at h
  | x :: xs, y :: ys, 0, z, h => ⟨x, y, rfl, rfl, (Option.some.inj h).symm⟩
  | x :: xs, y :: ys, i + 1, z, h => zipD_get (xs := xs) (ys := ys) (i := i) (by simpa [zipD] using h)
theorem zipD_len : ∀ {xs ys : List PyData}, (zipD xs ys).length = min xs.length ys.length
  | [], _ => by simp [zipD]
  | _ :: _, [] => by simp [zipD]
  | x :: xs, y :: ys => by rw [zipD, List.length_cons, zipD_len, List.length_cons, List.length_cons]; omega
theorem js_zip {O : Addr → Prop} {a b : Addr} {vs us : List V} {xs ys : List PyData} (lO : ∀ p, H p = none → ¬ O p) (h1 : H a = some (.lst vs)) (h2 : H b = some (.lst us)) (d1 : DvAll K O H vs xs) (d2 : DvAll K O H us ys) : JS false K O (Itz K a b) H (zipD xs ys) := fun i => by
  have a0 : SqL K H a vs := SqL.of h1
  have b0 : SqL K H b us := SqL.of h2
  refine ⟨fun z hz => ?_, fun hl => ⟨vs, us, a0, b0, by rw [← d1.len, ← d2.len]; rw [zipD_len] at hl; omega⟩⟩
  obtain ⟨x, y, hx, hy, rfl⟩ := zipD_get hz
  obtain ⟨v, hv, dv⟩ := d1.get hx
  obtain ⟨w, hw, dw⟩ := d2.get hy
  refine ⟨⟨vs, us, v, w, a0, b0, hv, hw⟩, fun u H'' q => ?_⟩
  obtain ⟨T, x', y', rfl, hT, rfl, q1, q2⟩ := q
  have := q1 vs a0
  rw [hv] at this
  cases Option.some.inj this
  have := q2 us b0
  rw [hw] at this
  cases Option.some.inj this
  exact ⟨Same.new hT, dv_new hT (lO _ hT) (.cons dv (.cons dw .nil))⟩
/-! ### what is walked: in a statement (own lists are laid still), in a comprehension -/
variable (I K) in
def IA (s : Bool) (wi : TI) (A : ASt → (List PyData → ASt → Prop) → Prop) : Prop := ∀ (G : Gh I) (ad : Nat → Addr) (ρ : ASt) (σ : L2.St) (H : Hp) (Φ : List PyData → ASt → Prop) (R : It → Hp → Prop), Con K G ad ρ σ H → A ρ Φ →
  (∀ J items ρ1 H1, Con K G ad ρ1 σ H1 → Step G ad ρ H ad ρ1 H1 → (∀ ad' ρ' σ' H', Con K G ad' ρ' σ' H' → Step G ad ρ1 H1 ad' ρ' H' → JS s K (Ow G ad' ρ') J H' items) → Φ items ρ1 → R J H1) → wi σ H R
variable (I K) in
def IC (s : Bool) (wi : TI) (A : ASt → (List PyData → Prop) → Prop) : Prop := ∀ (G : Gh I) (ad : Nat → Addr) (ρ : ASt) (σ : L2.St) (H : Hp) (Φ : List PyData → Prop) (R : It → Hp → Prop), Con K G ad ρ σ H → A ρ Φ →
  (∀ J items H1, Ext G.W H H1 → G.dok H1 → (∀ (O' : Addr → Prop) H', (∀ b, O' b → Ow G ad ρ b ∨ H1 b = none) → (∀ b, O' b → ∃ o, H' b = some o) → Ext G.W H1 H' → JS s K O' J H' items) → Φ items → R J H1) → wi σ H R
theorem set_self {α : Type} {l : List α} {i : Nat} {x : α} (h : l[i]? = some x) : l.set i x = l := by
  apply List.ext_getElem?
  intro k
  rw [List.getElem?_set]
  by_cases e : i = k
  · subst e
    rw [if_pos rfl, if_pos (List.getElem?_eq_some_iff.mp h).1, h]
  · rw [if_neg e]
/-- laid still -/
def stillR : R → ASt → ASt
  | .o j xs, ρ => ρ.set j (some (.d (.list xs)))
  | _, ρ => ρ
theorem Con.freeze (C : Con K G ad ρ σ H) {j : Nat} {xs : List PyData} (h : ρ[j]? = some (some (.own xs))) : Con K G ad (ρ.set j (some (.d (.list xs)))) σ H ∧ Step G ad ρ H ad (ρ.set j (some (.d (.list xs)))) H ∧ ¬ Mu G ad (ρ.set j (some (.d (.list xs)))) (ad j) := by
  obtain ⟨hσ, vs, g1, g2⟩ := C.own_get h
  have hj : ownAt ρ j := ⟨xs, h⟩
  have D := C.drop j
  have ow : ∀ {k : Nat}, ownAt (ρ.set j none) k → k ≠ j ∧ ownAt ρ k := fun {k} h => (own_set h).elim (fun ⟨_, _, e⟩ => nomatch e) id
  have n : ¬ Ow G ad (ρ.set j none) (ad j) := by
    rintro (z | ⟨i, hi, e⟩)
    · exact C.ownO hj z
    · exact (ow hi).1 (C.inj _ _ (ow hi).2 hj e.symm)
  have wO : ∀ b, Ow G ad (ρ.set j none) b → Ow G ad ρ b := fun b h => h.imp id fun ⟨k, hk, e⟩ => ⟨k, (ow hk).2, e⟩
  have c := D.putN (i := j) (v := .ref (ad j)) (av := .d (.list xs)) (fun _ z => nomatch z) (Dv.lst ⟨n, g1⟩ (g2.weak wO))
  rw [List.set_set, set_self hσ] at c
  refine ⟨c, ⟨fun _ _ _ h => h, fun k hk => .inl ⟨k, own_putN (av := .d (.list xs)) (fun _ z => nomatch z) hk, rfl⟩, fun _ h => h⟩, ?_⟩
  rintro (z | ⟨i, hi, e⟩)
  · exact C.ownW hj z
  · rcases own_set hi with ⟨_, _, z⟩ | ⟨ne, hi⟩
    · cases z
    · exact ne (C.inj _ _ hi hj e.symm)
end
end Zj

namespace Zj
open PySem L2
section
variable {I : DkI} {K : PySem.W.Frag} {G : Gh I} {ad ad' ad2 : Nat → Addr} {ρ ρ1 ρ' ρ2 : ASt} {σ σ' : L2.St} {H H0 H1 H' H2 : Hp}
theorem Con.lO (C : Con K G ad ρ σ H) : ∀ p, H p = none → ¬ Ow G ad ρ p := fun _ f => C.freshO f
/-- a list that is read through a whole statement -/
theorem At.still (A : At K G ad ρ σ H0 H) {v : V} {r : R} {xs : List PyData} (h : Rv K G ad ρ H0 H v r) (e : listOf r = some xs) :
    ∃ a vs, v = .ref a ∧ H a = some (.lst vs) ∧ Con K G ad (stillR r ρ) σ H ∧ Step G ad ρ H0 ad (stillR r ρ) H ∧ ¬ Mu G ad (stillR r ρ) a ∧ DvAll K (Ow G ad (stillR r ρ)) H vs xs := by
  cases r with
  | o j ys =>
    cases Option.some.inj e
    obtain ⟨h1, rfl⟩ := h
    obtain ⟨c, s, n⟩ := A.con.freeze h1
    obtain ⟨_, vs, g1, g2⟩ := A.con.own_get h1
    exact ⟨_, vs, rfl, g1, c, A.step.trans s, n, DvAll.step A.con s g2⟩
  | d x =>
    obtain ⟨a, vs, rfl, h1, h2, _⟩ := A.list h e
    refine ⟨a, vs, rfl, h1, A.con, A.step, ?_, h2⟩
    cases x with
    | list ys =>
      cases (show Dv K _ H (.ref a) (.list _) from h) with
      | lst q1 q2 => exact fun z => q1.1 (A.con.mo z)
    | none => cases e
    | bool _ => cases e
    | int _ => cases e
    | str _ => cases e
    | tuple _ => cases e
    | dict _ => cases e
  | l ys =>
    obtain ⟨a, vs, e2, h1, h2, _⟩ := A.list h e
    obtain ⟨p, us, rfl, f, g1, g2⟩ := h
    cases e2
    exact ⟨_, vs, rfl, h1, A.con, A.step, fun z => A.c0.freshO f (A.c0.mo z), h2⟩
  | b ys =>
    obtain ⟨a, vs, e2, h1, h2, _⟩ := A.list h e
    obtain ⟨p, us, rfl, g1, g2⟩ := h
    cases e2
    exact ⟨_, vs, rfl, h1, A.con, A.step, g1.1, h2⟩
  | dk => cases e
  | ty n => cases e
  | fn f => cases e
def onL (r : R) (Φ : List PyData → Prop) : Prop := match listOf r with
  | some xs => Φ xs
  | none => False
theorem onL_of {r : R} {Φ : List PyData → Prop} (h : onL r Φ) : ∃ xs, listOf r = some xs ∧ Φ xs := by
  unfold onL at h
  cases e : listOf r with
  | none => rw [e] at h; exact h.elim
  | some xs =>
    rw [e] at h
    exact ⟨xs, rfl, h⟩
def wList (T : AE) : ASt → (List PyData → ASt → Prop) → Prop := fun ρ Φ => T ρ fun r => onL r fun xs => Φ xs (stillR r ρ)
theorem ia_list {t : TE} {T : AE} (a : EA I K t T) : IA I K true (iList K t) (wList T) := fun G ad ρ σ H Φ R C h k => by
  refine a G ad ρ σ H _ _ C h fun r v H1 e1 k1 v1 h1 => ?_
  obtain ⟨xs, e, h1⟩ := onL_of h1
  obtain ⟨a, vs, rfl, g1, c, s, n, d⟩ := ((At.start C).to e1 k1).still v1 e
  exact ⟨a, rfl, ⟨vs, SqL.of g1⟩, k _ xs _ H1 c s (fun ad' ρ' σ' H' c' s' => js_listH (s'.pres _ _ n g1) (DvAll.step c s' d)) h1⟩
def wEnum (U : AA) : ASt → (List PyData → ASt → Prop) → Prop := fun ρ Φ => U ρ fun rs => match rs with
  | [r] => onL r fun xs => Φ (enumD 0 xs) (stillR r ρ)
  | _ => False
theorem ia_enum {t : TA} {U : AA} (a : AAb I K t U) : IA I K false (iEnum K t) (wEnum U) := fun G ad ρ σ H Φ R C h k => by
  refine a G ad ρ σ H H _ _ (At.start C) h fun rs vs H1 e1 k1 v1 h1 => ?_
  match rs, h1 with
  | [r], h1 =>
    obtain ⟨v, rfl, w1⟩ := rv1 v1
    obtain ⟨xs, e, h1⟩ := onL_of h1
    obtain ⟨a, us, rfl, g1, c, s, n, d⟩ := ((At.start C).to e1 k1).still w1 e
    exact ⟨a, us, rfl, SqL.of g1, k _ (enumD 0 xs) _ H1 c s (fun ad' ρ' σ' H' c' s' => js_enum c'.lO (s'.pres _ _ n g1) (DvAll.step c s' d)) h1⟩
def onT (r : R) (Φ : List PyData → Prop) : Prop := match r with
  | .d (.tuple xs) => Φ xs
  | _ => False
theorem onT_of {r : R} {Φ : List PyData → Prop} (h : onT r Φ) : ∃ xs, r = .d (.tuple xs) ∧ Φ xs := by
  match r, h with
  | .d (.tuple xs), h => exact ⟨xs, rfl, h⟩
theorem dv_tup {O : Addr → Prop} {v : V} {xs : List PyData} (h : Dv K O H v (.tuple xs)) : ∃ a vs, v = .ref a ∧ SqTo K O H a vs ∧ DvAll K O H vs xs := by
  cases h with
  | tup h1 h2 => exact ⟨_, _, rfl, h1, h2⟩
def wTup (T : AE) : ASt → (List PyData → ASt → Prop) → Prop := fun ρ Φ => T ρ fun r => onT r fun xs => Φ xs ρ
theorem ia_tup {t : TE} {T : AE} (a : EA I K t T) : IA I K true (iTup K t) (wTup T) := fun G ad ρ σ H Φ R C h k => by
  refine a G ad ρ σ H _ _ C h fun r v H1 e1 k1 v1 h1 => ?_
  have A1 := (At.start C).to e1 k1
  obtain ⟨xs, rfl, h1⟩ := onT_of h1
  obtain ⟨a, vs, rfl, g1, d⟩ := dv_tup v1
  exact ⟨a, rfl, ⟨vs, g1.1⟩, k _ xs _ H1 A1.con A1.step (fun ad' ρ' σ' H' c' s' => js_tup (g1.step A1.con s') (DvAll.step A1.con s' d)) h1⟩
def wEnumT (U : AA) : ASt → (List PyData → ASt → Prop) → Prop := fun ρ Φ => U ρ fun rs => match rs with
  | [r] => onT r fun xs => Φ (enumD 0 xs) ρ
  | _ => False
def onS (r : R) (Φ : Str → Prop) : Prop := match r with
  | .d (.str xs) => Φ xs
  | _ => False
theorem onS_of {r : R} {Φ : Str → Prop} (h : onS r Φ) : ∃ xs, r = .d (.str xs) ∧ Φ xs := by
  match r, h with
  | .d (.str xs), h => exact ⟨xs, rfl, h⟩
theorem dv_str {O : Addr → Prop} {v : V} {xs : Str} (h : Dv K O H v (.str xs)) : v = .str xs := by
  cases h; rfl
theorem dv_int {O : Addr → Prop} {v : V} {xs : Int} (h : Dv K O H v (.int xs)) : v = .int xs := by
  cases h; rfl
def wStr (T : AE) : ASt → (List PyData → ASt → Prop) → Prop := fun ρ Φ => T ρ fun r => onS r fun x => Φ (signsD x) ρ
def onRg1 (rs : List R) (Φ : List PyData → Prop) : Prop := match rs with
  | [.d (.int j)] => (-(2 ^ 62) ≤ j ∧ j < 2 ^ 62) ∧ Φ (rangeD 0 j.toNat)
  | _ => False
def onRg2 (rs : List R) (Φ : List PyData → Prop) : Prop := match rs with
  | [.d (.int i), .d (.int j)] => (-(2 ^ 62) ≤ i ∧ i < 2 ^ 62 ∧ -(2 ^ 62) ≤ j ∧ j < 2 ^ 62) ∧ Φ (rangeD i (j - i).toNat)
  | _ => False
def wRg1 (U : AA) : ASt → (List PyData → ASt → Prop) → Prop := fun ρ Φ => U ρ fun rs => onRg1 rs fun xs => Φ xs ρ
def wRg2 (U : AA) : ASt → (List PyData → ASt → Prop) → Prop := fun ρ Φ => U ρ fun rs => onRg2 rs fun xs => Φ xs ρ
theorem ia_rg1 {t : TA} {U : AA} (a : AAb I K t U) : IA I K true (iRng1 t) (wRg1 U) := fun G ad ρ σ H Φ R C h k => by
  refine a G ad ρ σ H H _ _ (At.start C) h fun rs vs H1 e1 k1 v1 h1 => ?_
  have A1 := (At.start C).to e1 k1
  match rs, h1 with
  | [.d (.int j)], h1 =>
    obtain ⟨v, rfl, w1⟩ := rv1 v1
    cases dv_int w1
    exact ⟨j, rfl, h1.1.1, h1.1.2, k _ _ _ H1 A1.con A1.step (fun ad' ρ' σ' H' c' s' => js_range) h1.2⟩
/-! ### for -/
def aFor (A : ASt → (List PyData → ASt → Prop) → Prop) (B : PyData → ASt → (ASt → Prop) → Prop) (T : ATS) : ATS := fun Φ ρ => A ρ fun items ρ1 => ∃ P : Nat → ASt → Prop, P 0 ρ1 ∧
  (∀ i x ρ', items[i]? = some x → P i ρ' → B x ρ' fun ρ2 => T { Φ with nx := P (i + 1), ct := P (i + 1), bk := Φ.nx } ρ2) ∧ ∀ ρ', P items.length ρ' → Φ.nx ρ'
theorem Gh.dok.same (h : G.dok H) (s : Same H H') : G.dok H' := h.out (fun a w => by
  obtain ⟨o, e⟩ := h.liveW w
  rw [s a o e, e]) fun _ b o _ _ e => s b o e
theorem sa_for {ns : List Nat} {wi : TI} {g : TG} {tb : TS} {A : ASt → (List PyData → ASt → Prop) → Prop} {B : PyData → ASt → (ASt → Prop) → Prop} {T : ATS} {s1 s2 : Bool} (a : IA I K s1 wi A) (b : GD I K s2 ns g B) (c : SA I K tb T) (hs : s2 = true → s1 = true := by decide) : SA I K (tFor wi g tb) (aFor A B T) := fun G ad ρ σ H Φ D C h k => by
  refine a G ad ρ σ H _ _ C h fun J items ρ1 H1 C1 S1 js h1 => ?_
  obtain ⟨P, p0, turn, fin⟩ := h1
  refine ⟨fun i m σ' H' => m = items.length - i ∧ i ≤ items.length ∧ ∃ ad' ρ', Con K G ad' ρ' σ' H' ∧ Step G ad ρ1 H1 ad' ρ' H' ∧ P i ρ', ⟨items.length, by simp, Nat.zero_le _, ad, ρ1, C1, Step.refl, p0⟩, ?_⟩
  rintro i m σ' H' ⟨rfl, hi, ad', ρ', C', S', p⟩
  have j := js ad' ρ' σ' H' C' S' i
  by_cases hlt : i < items.length
  · have hx := List.getElem?_eq_getElem hlt
    obtain ⟨go, yl⟩ := j.1 _ hx
    refine .inr ⟨go, fun σ2 H2 => ∃ ad2 ρ2, Con K G ad2 ρ2 σ2 H2 ∧ Step G ad ρ1 H1 ad2 ρ2 H2 ∧ P (i + 1) ρ2, fun σ2 H2 ⟨ad2, ρ2, q⟩ => ⟨items.length - (i + 1), by omega, rfl, hlt, ad2, ρ2, q⟩, fun x H'' y => ?_⟩
    obtain ⟨s, d⟩ := yl x H'' y
    have C2 := C'.to (Ext.same s) (C'.dok.same s)
    have S2 : Step G ad' ρ' H' ad' ρ' H'' := Step.of C' (Ext.same s) (C'.dok.same s)
    refine b G ad' ρ' σ' H'' x _ _ _ C2 (d.to hs) (turn i _ ρ' hx p) fun ρ3 σ3 c3 o3 w3 f3 h3 => ?_
    have S3 := ((S1.trans S').trans S2).trans (Step.ofD (H := H'') w3)
    have S4 := (S'.trans S2).trans (Step.ofD (H := H'') w3)
    exact c G ad' ρ3 σ3 H'' _ _ c3 h3 ⟨fun a r σ' h c t p => ⟨a, r, c, S4.trans t, p⟩, fun a r σ' h c t p => k.nx a r σ' h c (S3.trans t) p, fun a r σ' h c t p => ⟨a, r, c, S4.trans t, p⟩, k.rt⟩
  · have e : i = items.length := by omega
    exact .inl ⟨j.2 e, k.nx _ _ _ _ C' (S1.trans S') (fin ρ' (by rw [← e]; exact p))⟩
/-! ### a def -/
theorem ArgAll.noOwn {H : Hp} : ∀ {as : List AV} {vs : List V} {i : Nat} {xs : List PyData}, ArgAll K G H as vs → as[i]? = some (.own xs) → False
  | _, _, _, _, .nil, e => by simp at e
  | _, _, 0, _, .cons h _, e => by cases Option.some.inj e; cases h
  | _, _, i + 1, _, .cons _ t, e => ArgAll.noOwn (i := i) t e
theorem abs_fn {t : TS} {T : ATS} {Tf : FnT} {n : Nat} {N : List Str} {vs : List V} {H : Hp} {Q : VK} {E : XK} (sa : SA I K t T) (h : spA n K I Tf vs H Q E)
    (hb : ∀ as Φ, as.length = n → Tf as Φ → T { nx := fun _ => Φ (.d .none), rt := Φ } (as.map some ++ List.replicate (N.length - n) none)) : t { nx := fun _ H' => Q .non H', rt := Q } (L2.start N vs) H := by
  obtain ⟨G, as, Φ, rfl, ⟨ok, lv, dk⟩, hn, ha, ht, k⟩ := h
  have noown : ∀ {i : Nat}, ¬ ownAt (as.map some ++ List.replicate (N.length - n) none) i := by
    rintro i ⟨xs, h⟩
    rw [List.getElem?_append] at h
    split at h
    · rw [List.getElem?_map] at h
      cases e : as[i]? with
      | none => rw [e] at h; cases h
      | some a =>
        rw [e] at h
        have h : a = .own xs := Option.some.inj (Option.some.inj h)
        subst h
        exact ha.noOwn e
    · rw [List.getElem?_replicate] at h
      split at h <;> cases h
  have C : Con K G (fun _ => 0) (as.map some ++ List.replicate (N.length - n) none) (L2.start N vs) G.H0 := by
    refine ⟨ok, fun {a} h => lv a h, fun h => (noown h).elim, dk, Ext.refl _, ?_, fun i => ?_, fun i j h => (noown h).elim, fun i h => (noown h).elim⟩
    · unfold L2.start
      rw [List.length_append, List.length_append, List.length_map, List.length_map, List.length_replicate, List.length_replicate, ha.len, hn]
    · unfold L2.start
      rw [ha.len, hn]
      have wO : ∀ b, Ow G (fun _ => 0) (as.map some ++ List.replicate (N.length - n) none) b → G.O b := fun b h => h.elim id fun ⟨k, hk, _⟩ => (noown hk).elim
      have wM : ∀ b, Mu G (fun _ => 0) (as.map some ++ List.replicate (N.length - n) none) b → G.W b := fun b h => h.elim id fun ⟨k, hk, _⟩ => (noown hk).elim
      clear noown
      generalize Ow G (fun _ => 0) (as.map some ++ List.replicate (N.length - n) none) = O at wO
      generalize Mu G (fun _ => 0) (as.map some ++ List.replicate (N.length - n) none) = M at wM
      clear sa hb ht k hn
      generalize N.length - n = q
      induction ha generalizing i with
      | nil =>
        show SlR K G O M 0 G.H0 (((List.replicate q none)[i]?).getD none) _
        rw [List.getElem?_replicate]
        split <;> trivial
      | @cons a v as vs a1 a2 ih =>
        cases i with
        | zero =>
          cases a1 with
          | d h => exact h.weak wO
          | bl h1 h2 => exact ⟨_, _, rfl, h1.weak wM, h2.weak wO⟩
          | dk h => exact ⟨_, h, rfl⟩
          | fn f => exact rfl
        | succ i => exact ih i
  have e : ∀ {a : Nat → Addr} {r : ASt} {σ' : L2.St} {H' : Hp}, Con K G a r σ' H' → Ext G.W G.H0 H' := fun c => c.ext
  refine sa G _ _ _ _ { nx := fun _ => Φ (.d .none), rt := Φ } _ C (hb as Φ hn ht) ⟨fun a r σ' H' c s p => k (.d .none) _ _ c.ext c.dok Dv.non p, fun a r σ' H' c s p => p.elim, fun a r σ' H' c s p => p.elim, fun r v H' e' k' v' p => k r v H' e' k' v' p⟩
end
end Zj

namespace Zj
open PySem L2
section
variable {I : DkI} {K : PySem.W.Frag} {G : Gh I} {ad ad' ad2 : Nat → Addr} {ρ ρ1 ρ' ρ2 : ASt} {σ σ' : L2.St} {H H0 H1 H' H2 : Hp}
theorem Dv.on {O O' W : Addr → Prop} (o : ∀ b, O' b → O b ∨ H b = none) (e : Ext W H H') (w : ∀ b, W b → O b) {v : V} {x : PyData} (h : Dv K O H v x) : Dv K O' H' v x :=
  Dv.map (fun a xs h => ⟨fun z => (o _ z).elim h.1 fun q => (nomatch (show some _ = none from h.2.symm.trans q)), e _ _ (fun z => h.1 (w _ z)) h.2⟩) (fun a xs h => by
    rcases h with ⟨h1, p1, h2 | h2⟩
    · have p2 := p1.ext e fun z => h2 (w _ z)
      rcases h1 with h1 | h1
      · obtain ⟨u, q⟩ := rd_some h1
        exact ⟨.inl (rd_ext e (fun z => h2 (w _ z)) h1), p2, .inl fun z => (o _ z).elim h2 fun n => by rw [q] at n; cases n⟩
      · rcases p1 with ⟨u, q, _⟩ | p1
        · exact ⟨.inr h1, p2, .inl fun z => (o _ z).elim h2 fun n => nomatch (show some _ = none from q.symm.trans n)⟩
        · exact ⟨.inr h1, p2, .inr fun _ => ⟨.inr h1, .inr p1⟩⟩
    · exact ⟨(h2 _).1, (h2 _).2, .inr h2⟩) (fun a kvs h => ⟨fun z => (o _ z).elim h.1 fun q => h.2.elim fun _ q2 => (nomatch (show some _ = none from q2.symm.trans q)), h.2.imp fun _ q2 => e _ _ (fun z => h.1 (w _ z)) q2⟩) _ _ h
theorem DvAll.on {O O' W : Addr → Prop} (o : ∀ b, O' b → O b ∨ H b = none) (e : Ext W H H') (w : ∀ b, W b → O b) : ∀ {v : List V} {x : List PyData}, DvAll K O H v x → DvAll K O' H' v x
  | _, _, .nil => .nil
  | _, _, .cons h t => .cons (Dv.on o e w h) (DvAll.on o e w t)
theorem lO_of {O' : Addr → Prop} (l : ∀ b, O' b → ∃ o, H b = some o) : ∀ p, H p = none → ¬ O' p := fun p f z => by
  obtain ⟨o, e⟩ := l p z
  rw [f] at e
  cases e
def cList (T : AE) : ASt → (List PyData → Prop) → Prop := fun ρ Φ => T ρ fun r => onL r Φ
theorem ic_list {t : TE} {T : AE} (a : EA I K t T) : IC I K true (iList K t) (cList T) := fun G ad ρ σ H Φ R C h k => by
  refine a G ad ρ σ H _ _ C h fun r v H1 e1 k1 v1 h1 => ?_
  have A1 := (At.start C).to e1 k1
  obtain ⟨xs, e, h1⟩ := onL_of h1
  obtain ⟨a, vs, rfl, g1, d, n⟩ := A1.list v1 e
  exact ⟨a, rfl, ⟨vs, SqL.of g1⟩, k _ xs H1 e1 k1 (fun O' H' o l x => js_listH (x _ _ n g1) (d.on o x A1.wO)) h1⟩
def cTup (T : AE) : ASt → (List PyData → Prop) → Prop := fun ρ Φ => T ρ fun r => onT r Φ
theorem sqt_ext {O W : Addr → Prop} {a : Addr} {vs : List V} (h : SqTo K O H a vs) (e : Ext W H H') (w : ∀ b, W b → O b) : SqT K H' a vs := (h.ext e w).1
theorem ic_tup {t : TE} {T : AE} (a : EA I K t T) : IC I K true (iTup K t) (cTup T) := fun G ad ρ σ H Φ R C h k => by
  refine a G ad ρ σ H _ _ C h fun r v H1 e1 k1 v1 h1 => ?_
  have A1 := (At.start C).to e1 k1
  obtain ⟨xs, rfl, h1⟩ := onT_of h1
  obtain ⟨a, vs, rfl, g1, d⟩ := dv_tup v1
  exact ⟨a, rfl, ⟨vs, g1.1⟩, k _ xs H1 e1 k1 (fun O' H' o l x => js_tup (sqt_ext g1 x A1.wO) (d.on o x A1.wO)) h1⟩
def cStr (T : AE) : ASt → (List PyData → Prop) → Prop := fun ρ Φ => T ρ fun r => onS r fun x => Φ (signsD x)
theorem ic_str {t : TE} {T : AE} (a : EA I K t T) : IC I K true (iStr t) (cStr T) := fun G ad ρ σ H Φ R C h k => by
  refine a G ad ρ σ H _ _ C h fun r v H1 e1 k1 v1 h1 => ?_
  obtain ⟨x, rfl, h1⟩ := onS_of h1
  cases dv_str v1
  exact ⟨x, rfl, k _ _ H1 e1 k1 (fun O' H' o l x => js_str) h1⟩
def cRg1 (U : AA) : ASt → (List PyData → Prop) → Prop := fun ρ Φ => U ρ fun rs => onRg1 rs Φ
def cRg2 (U : AA) : ASt → (List PyData → Prop) → Prop := fun ρ Φ => U ρ fun rs => onRg2 rs Φ
theorem ic_rg1 {t : TA} {U : AA} (a : AAb I K t U) : IC I K true (iRng1 t) (cRg1 U) := fun G ad ρ σ H Φ R C h k => by
  refine a G ad ρ σ H H _ _ (At.start C) h fun rs vs H1 e1 k1 v1 h1 => ?_
  match rs, h1 with
  | [.d (.int j)], h1 =>
    obtain ⟨v, rfl, w1⟩ := rv1 v1
    cases dv_int w1
    exact ⟨j, rfl, h1.1.1, h1.1.2, k _ _ H1 e1 k1 (fun O' H' o l x => js_range) h1.2⟩
def cEnum (U : AA) : ASt → (List PyData → Prop) → Prop := fun ρ Φ => U ρ fun rs => match rs with
  | [r] => onL r fun xs => Φ (enumD 0 xs)
  | _ => False
def cEnumT (U : AA) : ASt → (List PyData → Prop) → Prop := fun ρ Φ => U ρ fun rs => match rs with
  | [r] => onT r fun xs => Φ (enumD 0 xs)
  | _ => False
def cZipL (U : AA) : ASt → (List PyData → Prop) → Prop := fun ρ Φ => U ρ fun rs => match rs with
  | [r, s] => onL r fun xs => onL s fun ys => Φ (zipD xs ys)
  | _ => False
def cZipT (U : AA) : ASt → (List PyData → Prop) → Prop := fun ρ Φ => U ρ fun rs => match rs with
  | [r, s] => onT r fun xs => onT s fun ys => Φ (zipD xs ys)
  | _ => False
theorem ic_zip {t : TA} {U : AA} (a : AAb I K t U) : IC I K false (iZip K t) (cZipL U) := fun G ad ρ σ H Φ R C h k => by
  refine a G ad ρ σ H H _ _ (At.start C) h fun rs vs H1 e1 k1 v1 h1 => ?_
  have A1 := (At.start C).to e1 k1
  match rs, h1 with
  | [r, s], h1 =>
    obtain ⟨v, w, rfl, w1, w2⟩ := rv2 v1
    obtain ⟨xs, e, h1⟩ := onL_of h1
    obtain ⟨ys, f, h1⟩ := onL_of h1
    obtain ⟨a, us, rfl, g1, d1, n1⟩ := A1.list w1 e
    obtain ⟨b, ws, rfl, g2, d2, n2⟩ := A1.list w2 f
    exact ⟨a, b, us, ws, rfl, SqL.of g1, SqL.of g2, k _ (zipD xs ys) H1 e1 k1 (fun O' H' o l x => js_zip (lO_of l) (x _ _ n1 g1) (x _ _ n2 g2) (d1.on o x A1.wO) (d2.on o x A1.wO)) h1⟩
/-! ### comprehensions -/
def wipeA (ρ : ASt) : List Nat → ASt
  | [] => ρ
  | v :: vs => (wipeA ρ vs).set v none
theorem wipe_get (σ : L2.St) (k : Nat) : ∀ vs : List Nat, (wipe σ vs)[k]? = if k ∈ vs ∧ k < σ.length then some none else σ[k]?
  | [] => by simp [wipe]
  | v :: vs => by
    unfold wipe
    rw [List.getElem?_set, wipe_length, wipe_get σ k vs]
    by_cases e : v = k
    · subst e
      by_cases l : v < σ.length
      · simp [l]
      · rw [if_pos rfl, if_neg l, if_neg (fun z => l z.2)]
        exact (List.getElem?_eq_none (by omega)).symm
    · rw [if_neg e]
      have : (k ∈ v :: vs) ↔ k ∈ vs := ⟨fun z => (List.mem_cons.mp z).elim (fun z => absurd z.symm e) id, fun z => List.mem_cons.mpr (.inr z)⟩
      simp only [this]
theorem wipeA_len (ρ : ASt) : ∀ vs : List Nat, (wipeA ρ vs).length = ρ.length
  | [] => rfl
  | v :: vs => by unfold wipeA; rw [List.length_set, wipeA_len ρ vs]
theorem wipeA_get (ρ : ASt) (k : Nat) : ∀ vs : List Nat, (wipeA ρ vs)[k]? = if k ∈ vs ∧ k < ρ.length then some none else ρ[k]?
  | [] => by simp [wipeA]
  | v :: vs => by
    unfold wipeA
    rw [List.getElem?_set, wipeA_len, wipeA_get ρ k vs]
    by_cases e : v = k
    · subst e
      by_cases l : v < ρ.length
      · simp [l]
      · rw [if_pos rfl, if_neg l, if_neg (fun z => l z.2)]
        exact (List.getElem?_eq_none (by omega)).symm
    · rw [if_neg e]
      have : (k ∈ v :: vs) ↔ k ∈ vs := ⟨fun z => (List.mem_cons.mp z).elim (fun z => absurd z.symm e) id, fun z => List.mem_cons.mpr (.inr z)⟩
      simp only [this]
def noOwnB : Option AV → Bool
  | some (.own _) => false
  | _ => true
def aYes : AT := fun _ Φ => Φ true
theorem ta_yes : TAb I K tYes aYes := fun G ad ρ σ H Φ Q C h k => k true H (Ext.refl _) C.dok h
def aLc (A : ASt → (List PyData → Prop) → Prop) (B : PyData → ASt → (ASt → Prop) → Prop) (Tt : AT) (Te : AE) (vs : List Nat) : AE := fun ρ Φ => A ρ fun items => (vs.all fun i => noOwnB ((ρ[i]?).getD none)) = true ∧ ∃ P : Nat → List PyData → Prop, P 0 [] ∧
  (∀ i x acc, items[i]? = some x → P i acc → B x (wipeA ρ vs) fun ρ2 => Tt ρ2 fun b => if b = true then Te ρ2 fun r => ∃ y, dataOf r = some y ∧ acc.length < sizeLine ∧ P (i + 1) (acc ++ [y]) else P (i + 1) acc) ∧ ∀ acc, P items.length acc → Φ (.l acc)
def Gh.plus (G : Gh I) (p : Addr) : Gh I := ⟨G.H0, fun a => G.O a ∨ a = p, G.dk⟩
/-- one more place that no datum knows; some slots wiped -/
theorem At.plus (A : At K G ad ρ σ H0 H) {p : Addr} {vs : List Nat} (f : H0 p = none) (l : ∃ o, H p = some o) (nw : (vs.all fun i => noOwnB ((ρ[i]?).getD none)) = true) : Con K (G.plus p) ad (wipeA ρ vs) (wipe σ vs) H := by
  have C := A.c0
  have ow : ∀ {k : Nat}, ownAt (wipeA ρ vs) k → ownAt ρ k := fun {k} ⟨xs, h⟩ => by
    rw [wipeA_get] at h
    split at h
    · cases h
    · exact ⟨xs, h⟩
  have nad : ∀ {k : Nat}, ownAt ρ k → ad k ≠ p := fun {k} ⟨ys, h⟩ e => by
    obtain ⟨_, us, z, _⟩ := C.own_get h
    rw [e, f] at z
    cases z
  have wO : ∀ b, Ow (G.plus p) ad (wipeA ρ vs) b → Ow G ad ρ b ∨ b = p := fun b h => by
    rcases h with (h | h) | ⟨k, hk, e⟩
    · exact .inl (.inl h)
    · exact .inr h
    · exact .inl (.inr ⟨k, ow hk, e⟩)
  have wM : ∀ b, Mu (G.plus p) ad (wipeA ρ vs) b → Mu G ad ρ b ∨ b = p := fun b h => by
    rcases h with h | ⟨k, hk, e⟩
    · exact .inl (.inl h)
    · exact .inl (.inr ⟨k, ow hk, e⟩)
  refine ⟨⟨fun a w => .inl (C.ok.wo a w), fun q b e z => (C.ok.kp q b e z).imp .inl id, fun q b e z => let y := C.ok.dp q b e z; ⟨fun x => x.elim y.1 fun e2 => (by obtain ⟨o, x⟩ := live_ext C.ext C.dok y.2; rw [e2, f] at x; cases x), y.2⟩⟩, fun {a} h => h.elim (fun h => A.con.live h) (fun e => e ▸ l), fun {i} h z => z.elim (C.ownO (ow h)) (nad (ow h)), A.k, C.ext.trans A.e, by rw [wipe_length, wipeA_len]; exact C.len, fun k => ?_, fun a b ha hb => C.inj a b (ow ha) (ow hb), fun a ha => C.fr a (ow ha)⟩
  rw [wipeA_get, wipe_get, C.len]
  by_cases h : k ∈ vs ∧ k < σ.length
  · rw [if_pos h, if_pos h]; trivial
  · rw [if_neg h, if_neg h]
    exact ((C.sl k).fresh f wO wM).ext A.e (fun b w => .inl (.inl (C.ok.wo b w))) (fun b w => .inl w) fun ⟨ys, q⟩ w => C.ownW (ownAt_iff.mpr ⟨ys, q⟩) w
theorem ea_lc {ns : List Nat} {wi : TI} {g : TG} {tt : TT} {te : TE} {vs : List Nat} {A : ASt → (List PyData → Prop) → Prop} {B : PyData → ASt → (ASt → Prop) → Prop} {Tt : AT} {Te : AE} {s1 s2 : Bool} (a : IC I K s1 wi A) (b : GD I K s2 ns g B) (c : TAb I K tt Tt) (d : EA I K te Te)
    (hn : (ns.all fun i => vs.contains i) = true := by rfl) (hs2 : s2 = true → s1 = true := by decide) : EA I K (tLc wi g tt te vs) (aLc A B Tt Te vs) := fun G ad ρ σ H Φ Q C h k => by
  refine a G ad ρ σ H _ _ C h fun J items H1 e1 k1 js h1 D hD => ?_
  obtain ⟨nw, P, p0, turn, fin⟩ := h1
  have A1 := (At.start C).to e1 k1
  have hs : Ext G.W H1 (upd H1 D (.lst [])) := Ext.new hD
  have nsv : ∀ i, i ∈ ns → i ∈ vs := fun i hi => by
    have := List.all_eq_true.mp hn i hi
    simpa using this
  have nWD : ∀ b, G.W b → b ≠ D := fun b w e => by
    obtain ⟨o, z⟩ := k1.liveW w
    rw [e, hD] at z
    cases z
  have nKD : ∀ (p : Addr × Addr) b, G.dk = some p → I.keep p.1 p.2 b → b ≠ D := fun p b q z e => by
    obtain ⟨o, y⟩ : ∃ o, H1 b = some o := (C.ok.kp p b q z).elim (fun x => A1.con.live x) fun l => live_ext A1.con.ext k1 l
    rw [e, hD] at y
    cases y
  refine ⟨fun i m H' => m = items.length - i ∧ i ≤ items.length ∧ ∃ acc us, H' D = some (.lst us) ∧ DvAll K (fun z => Ow G ad ρ z ∨ z = D) H' us acc ∧ Ext G.W H1 H' ∧ G.dok H' ∧ P i acc,
    ⟨items.length, by simp, Nat.zero_le _, [], [], upd_same, .nil, hs, k1.new hD, p0⟩, ?_⟩
  rintro i m H' ⟨rfl, hi, acc, us, hDl, hacc, ex, kk, p⟩
  have A2 : At K G ad ρ σ H1 H' := ⟨A1.con, ex, kk⟩
  have CP : Con K (G.plus D) ad (wipeA ρ vs) (wipe σ vs) H' := A2.plus hD ⟨_, hDl⟩ nw
  have oP : ∀ b, Ow (G.plus D) ad (wipeA ρ vs) b → Ow G ad ρ b ∨ H1 b = none := fun b h => by
    rcases h with (h | h) | ⟨k, hk, e⟩
    · exact .inl (.inl h)
    · exact .inr (by rw [h]; exact hD)
    · refine .inl (.inr ⟨k, ?_, e⟩)
      obtain ⟨xs, hk⟩ := hk
      rw [wipeA_get] at hk
      split at hk
      · cases hk
      · exact ⟨xs, hk⟩
  have j := js (Ow (G.plus D) ad (wipeA ρ vs)) H' oP (fun b h => CP.liveO h) ex i
  by_cases hlt : i < items.length
  · have hx := List.getElem?_eq_getElem hlt
    obtain ⟨go, yl⟩ := j.1 _ hx
    refine .inr ⟨go, fun H2 => ∃ acc us, H2 D = some (.lst us) ∧ DvAll K (fun z => Ow G ad ρ z ∨ z = D) H2 us acc ∧ Ext G.W H1 H2 ∧ G.dok H2 ∧ P (i + 1) acc, fun H2 q => ⟨items.length - (i + 1), by omega, rfl, hlt, q⟩, fun x H'' y => ?_⟩
    obtain ⟨s, dx⟩ := yl x H'' y
    have k2 : G.dok H'' := kk.same s
    have C2 : Con K (G.plus D) ad (wipeA ρ vs) (wipe σ vs) H'' := CP.to (Ext.same s) (show (G.plus D).dok H'' from k2)
    refine b (G.plus D) ad (wipeA ρ vs) (wipe σ vs) H'' x _ _ _ C2 (dx.to hs2) (turn i _ acc hx p) fun ρ3 σ3 c3 o3 w3 f3 h3 => ⟨?_, ?_⟩
    · apply List.ext_getElem?
      intro q
      rw [wipe_get, wipe_get]
      have hl : σ3.length = σ.length := by
        exact f3.2.trans (wipe_length σ vs)
      by_cases hq : q ∈ vs
      · by_cases hl2 : q < σ.length
        · rw [if_pos ⟨hq, by omega⟩, if_pos ⟨hq, hl2⟩]
        · rw [if_neg (fun z => hl2 (by omega)), if_neg (fun z => hl2 z.2), List.getElem?_eq_none (by omega), List.getElem?_eq_none (by omega)]
      · rw [if_neg (fun z => hq z.1), if_neg (fun z => hq z.1), (f3.1 q fun z => hq (nsv q z)).1, wipe_get, if_neg (fun z => hq z.1)]
    · refine c (G.plus D) ad ρ3 σ3 H'' _ _ c3 h3 fun bb H3 e3 k3 h3 => ?_
      cases bb with
      | false =>
        rw [if_neg Bool.false_ne_true] at h3
        refine iteF ⟨acc, us, ?_, ?_, ((ex.trans (Ext.same s)).trans e3), k3, h3⟩
        · exact e3 _ _ (fun w => nWD _ w rfl) (s _ _ hDl)
        · exact (hacc.ext (Ext.same (W := G.W) s) fun b w => .inl (C.wo w)).ext e3 fun b w => .inl (C.wo w)
      | true =>
        rw [if_pos rfl] at h3
        refine iteT (d (G.plus D) ad ρ3 σ3 H3 _ _ (c3.to e3 k3) h3 fun r v H4 e4 k4 v4 h4 => ?_)
        obtain ⟨y, ey, hl, h4⟩ := h4
        have A4 : At K (G.plus D) ad ρ3 σ3 H3 H4 := ⟨c3.to e3 k3, e4, k4⟩
        have dy := A4.data v4 ey
        have hD4 : H4 D = some (.lst us) := e4 _ _ (fun w => nWD _ w rfl) (e3 _ _ (fun w => nWD _ w rfl) (s _ _ hDl))
        have ha4 : DvAll K (fun z => Ow G ad ρ z ∨ z = D) H4 us acc := ((hacc.ext (Ext.same (W := G.W) s) fun b w => .inl (C.wo w)).ext e3 fun b w => .inl (C.wo w)).ext e4 fun b w => .inl (C.wo w)
        have o4 : ∀ b, (Ow G ad ρ b ∨ b = D) → Ow (G.plus D) ad ρ3 b := fun b h => by
          rcases h with (h | ⟨k, hk, e⟩) | h
          · exact .inl (.inl h)
          · refine .inr ⟨k, ?_, e⟩
            have hkv : k ∉ vs := fun z => by
              obtain ⟨xs, hk⟩ := ownAt_iff.mp hk
              have := List.all_eq_true.mp nw k z
              rw [hk] at this
              cases this
            obtain ⟨xs, hk⟩ := hk
            exact ⟨xs, by rw [(f3.1 k fun z => hkv (nsv k z)).2, wipeA_get, if_neg fun z => hkv z.1]; exact hk⟩
          · exact .inl (.inr h)
        refine ⟨us, hD4, by rw [← ha4.len]; exact hl, acc ++ [y], us ++ [v], upd_same, ?_, ?_, ?_, h4⟩
        · have e5 : Ext (fun b => b = D) H4 (upd H4 D (.lst (us ++ [v]))) := fun b o n e => by rw [upd_ne n]; exact e
          exact (ha4.append (.cons (dy.weak o4) .nil)).ext e5 fun b e => .inr e
        · intro b o n e
          rw [upd_ne (fun z => by rw [z, hD] at e; cases e)]
          exact e4 _ _ n (e3 _ _ n (s _ _ (ex _ _ n e)))
        · exact (show G.dok H4 from k4).out (fun a w => upd_ne (nWD a w)) fun p b o q z e => by rw [upd_ne (nKD p b q z)]; exact e
  · have e : i = items.length := by omega
    refine .inl ⟨j.2 e, k (.l acc) _ H' (e1.trans ex) kk ⟨D, us, rfl, A1.fr hD, hDl, hacc⟩ (fin acc (by rw [← e]; exact p))⟩
end
end Zj

namespace Zj
open PySem L2
/-! ### a parameter that is a def is called -/
def tCallV (i : Nat) (f : Addr) (sp : Sp) (t : TA) : TE := fun σ H Q => σ[i]? = some (some (.ref f)) ∧ t σ H fun vs H1 => sp vs H1 Q E0
theorem pe_callV {X : Cx} {k i : Nat} {f : Addr} {fd : FuncData} {ps : List Str} {sp : Sp} {x : Str} {p pos : Pos} {e : Expr} {es : List Expr} {t : TA} (F : FnOk X.prog X.w X.K X.mg X.base CX0 k f fd ps sp) (hr : Room k X.A) (hN : X.N[i]? = some x) (hv : Vis X.env.scope x)
    (hk : PySem.W.keepIn X.K (.ref f) = true) (hb : Binds X.K fd ps []) (ha : PA X (e :: es) t) (hd : (x == ("__debug__" : Str)) = false := by decide) (hcd : (x == ("__classdict__" : Str)) = false := by decide)
    (he : starEach (e :: es) X.env = (false, eval e X.env) :: starEach es X.env := by rfl) (hpl : (backTo pos (starEach es X.env)).any (·.1) = false := by rfl) : PE X (.Call (.Name x p) (e :: es) [] pos) (tCallV i f sp t) := by
  refine ⟨fun pins s σ H Q I ⟨hs, ht⟩ => ?_⟩
  have pv' := (pe_var (X := X) (pos := p) hN hv hd hcd).run pins s σ H (fun v H1 => v = .ref f ∧ H1 = H) I ⟨.ref f, hs, rfl, rfl⟩
  refine wpAny_Call_Name_kw (thn pv' fun u s1 ⟨v, H1, I1, r1, ev, eH⟩ => ?_)
  subst ev
  rw [eH] at I1
  obtain rfl : u = Value.ref f := r1
  refine PySem.W.callWith_K (h₀ := X.base) I1.ok.mod.kin hk (thn (ha.run pos pins s1 σ H _ I1 ht) fun us s2 ⟨vs, H2, I2, r, q⟩ => ⟨I2.kIn, ?_⟩) he hpl
  exact run_fn (E := E0) F hr hb .nil pass0 I2 r (by rw [List.append_nil]; exact q)
section
variable {I : DkI} {K : PySem.W.Frag} {G : Gh I} {ad ad' ad2 : Nat → Addr} {ρ ρ1 ρ' ρ2 : ASt} {σ σ' : L2.St} {H H0 H1 H' H2 : Hp}
def aCallV (i : Nat) (f : Addr) (T : FnT) (ms : List Md) (U : AA) : AE := fun ρ Φ => ρ[i]? = some (some (.fn f)) ∧ aCall T ms U ρ Φ
theorem ea_callV {T : FnT} {n i : Nat} {f : Addr} (ms : List Md) {u : TA} {U : AA} (b : AAb I K u U) (hn : ms.length = n := by rfl) : EA I K (tCallV i f (spA n K I T) u) (aCallV i f T ms U) := fun G ad ρ σ H Φ Q C h k => by
  obtain ⟨hf, h⟩ := h
  refine ⟨?_, ?_⟩
  · obtain ⟨v, e, r⟩ := C.get hf
    rw [e, show v = V.ref f from r]
  · refine b G ad ρ σ H H _ _ (At.start C) h fun rs vs H1 e1 k1 v1 h1 => ?_
    have A1 := (At.start C).to e1 k1
    cases e : asArgs ms rs with
    | none => simp only [e] at h1
    | some as =>
      simp only [e] at h1
      exact ⟨G.of ad ρ H1, as, Φ, rfl, A1.ofOk, (asArgs_len e).trans hn, A1.args v1 e, h1, fun r v H' e' k' v' h' => k r v H' (e1.trans e') k' (A1.ret v') h'⟩
/-- a def as a value -/
def aFn (f : Addr) : AE := fun _ Φ => Φ (.fn f)
theorem ea_fn (f : Addr) : EA I K (tC (.ref f)) (aFn f) := fun G ad ρ σ H Φ Q C h k => k (.fn f) _ _ (Ext.refl _) C.dok rfl h
theorem RvAll.append {vs ws : List V} {rs ss : List R} (h : RvAll K G ad ρ H0 H vs rs) (g : RvAll K G ad ρ H0 H ws ss) : RvAll K G ad ρ H0 H (vs ++ ws) (rs ++ ss) := by
  induction h with
  | nil => exact g
  | cons a b ih => exact .cons a ih
/-- a call with default values (plain scalars) -/
theorem ea_callD {T : FnT} {n : Nat} (ms : List Md) (ds : List PyData) {dvs : List V} {E : XK} {u : TA} {U : AA} (b : AAb I K u U) (hd : Paired Sc dvs ds) (hn : ms.length = n := by rfl) : EA I K (tCall (spA n K I T) dvs E u) (aCall T ms fun ρ Φ => U ρ fun rs => Φ (rs ++ ds.map R.d)) := fun G ad ρ σ H Φ Q C h k => by
  refine b G ad ρ σ H H _ _ (At.start C) h fun rs vs H1 e1 k1 v1 h1 => ?_
  have A1 := (At.start C).to e1 k1
  have hd : RvAll K G ad ρ H H1 dvs (ds.map R.d) := by
    clear h1 h
    induction hd with
    | nil => exact .nil
    | cons a _ ih => exact .cons (show Rv K G ad ρ H H1 _ (.d _) from a.dv) ih
  cases e : asArgs ms (rs ++ ds.map R.d) with
  | none => simp only [e] at h1
  | some as =>
    simp only [e] at h1
    exact ⟨G.of ad ρ H1, as, Φ, rfl, A1.ofOk, (asArgs_len e).trans hn, A1.args (v1.append hd) e, h1, fun r v H' e' k' v' h' => k r v H' (e1.trans e') k' (A1.ret v') h'⟩
/-! ### -x, x[::-1] -/
def aNeg (T : AE) : AE := fun ρ Φ => T ρ fun r => match r with
  | .d (.int i) => Φ (.d (.int (-i)))
  | _ => False
def aRevL (T : AE) : AE := fun ρ Φ => T ρ fun r => onL r fun xs => Φ (.l xs.reverse)
/-! ### sorted, a short list of ints -/
def intsOf : List PyData → Option (List Int)
  | [] => some []
  | .int i :: xs => match intsOf xs with
    | some ns => some (i :: ns)
    | none => none
  | _ :: _ => none
theorem DvAll.ints {O : Addr → Prop} : ∀ {vs : List V} {xs : List PyData} {ns : List Int}, DvAll K O H vs xs → intsOf xs = some ns → vs = ns.map V.int
  | _, _, _, .nil, e => by cases Option.some.inj e; rfl
  | _, _, _, .cons (d := d) (ds := ds) h t, e => by
    cases h with
    | int b =>
      unfold intsOf at e
      cases e2 : intsOf ds with
      | none => simp only [e2] at e; cases e
      | some bs =>
        simp only [e2] at e
        cases Option.some.inj e
        rw [DvAll.ints t e2]
        rfl
    | non => cases e
    | bl _ => cases e
    | str _ => cases e
    | lst _ _ => cases e
    | tup _ _ => cases e
    | dic _ _ => cases e
def fSorted : List R → (R → Prop) → Prop
  | [r], Φ => onL r fun xs => match intsOf xs with
    | some ns => ns.length < 64 ∧ ∀ ms : List Int, ms.Perm ns → ms.Pairwise (· ≤ ·) → Φ (.l (ms.map PyData.int))
    | none => False
  | _, _ => False
/-- list(range(..)) -/
def aRg1 (T : AE) : ASt → (Int → Int → Prop) → Prop := fun ρ Φ => T ρ fun r => match r with
  | .d (.int n) => Φ 0 n
  | _ => False
def aLstRg (T : AE) : AE := fun ρ Φ => aRg1 T ρ fun a b => RgOk a b ∧ Φ (.l (rangeD a (b - a).toNat))
/-! ### a, b = e, f -/
theorem At.plus0 (A : At K G ad ρ σ H0 H) {p : Addr} (f : H0 p = none) (l : ∃ o, H p = some o) : Con K (G.plus p) ad ρ σ H := A.plus (vs := []) f l rfl
def parOk : R → Bool
  | .d _ => true
  | .l _ => true
  | .b _ => true
  | .dk => true
  | _ => false
def parOk2 : R → Bool
  | .d _ => true
  | .l _ => true
  | .dk => true
  | _ => false
def aPar (i j : Nat) (T U : AE) : ATS := fun Φ ρ => T ρ fun r => U ρ fun s => (parOk r = true ∧ parOk2 s = true) ∧ onP (aPut i r ρ) fun ρ1 => onP (aPut j s ρ1) Φ.nx
theorem onP_of {o : Option ASt} {Φ : ASt → Prop} (h : onP o Φ) : ∃ ρ, o = some ρ ∧ Φ ρ := by
  cases o with
  | none => exact h.elim
  | some ρ => exact ⟨ρ, rfl, h⟩
/-- a value seen from a state that knows more places -/
theorem Rv.par {G' : Gh I} (hdk : G'.dk = G.dk) (wO : ∀ b, Ow G ad' ρ' b → Ow G' ad ρ b) {v : V} {r : R} (h : Rv K G' ad ρ H0 H v r) (p : parOk2 r = true) : Rv K G ad' ρ' H0 H v r := by
  cases r with
  | d x => exact (show Dv K _ H v x from h).weak wO
  | l xs =>
    obtain ⟨q, vs, rfl, h1, h2, h3⟩ := h
    exact ⟨q, vs, rfl, h1, h2, h3.weak fun b z => z.imp (wO b) id⟩
  | b xs => cases p
  | o j xs => cases p
  | dk =>
    obtain ⟨q, e, rfl⟩ := h
    exact ⟨q, by rw [← hdk]; exact e, rfl⟩
  | ty n => cases p
  | fn f => cases p
theorem sa_par {i j : Nat} {t u : TE} {T U : AE} (a : EA I K t T) (b : EA I K u U) : SA I K (tPar i j (tCons t (tCons u tNil))) (aPar i j T U) := fun G ad ρ σ H Φ D C h k => by
  refine a G ad ρ σ H _ _ C h fun r v H1 e1 k1 v1 h1 => ?_
  have A1 := (At.start C).to e1 k1
  have fin : ∀ {ad1 : Nat → Addr} {ρ1 : ASt} {s : R} {w : V} {H2 : Hp}, Con K G ad1 ρ1 (σ.set i (some v)) H1 → Step G ad ρ H ad1 ρ1 H1 → Ext G.W H1 H2 → G.dok H2 → Rv K G ad1 ρ1 H1 H2 w s → onP (aPut j s ρ1) Φ.nx → D.nx ((σ.set i (some v)).set j (some w)) H2 := by
    intro ad1 ρ1 s w H2 C1 S1 e2 k2 v2 h2
    obtain ⟨ρ2, q2, h2⟩ := onP_of h2
    obtain ⟨ad2, C2, S2⟩ := ((At.start C1).to e2 k2).put v2 q2
    exact k.nx _ _ _ _ C2 (S1.trans S2) h2
  have nonown : ∀ {av : AV}, (∀ xs, av ≠ .own xs) → SlR K G (Ow G ad ρ) (Mu G ad ρ) (ad i) H1 (some av) (some (some v)) → aPut i r ρ = some (ρ.set i (some av)) → D.nx = D.nx → tCons u tNil σ H1 fun vs H1 => ∃ v_1 w, v :: vs = [v_1, w] ∧ D.nx ((σ.set i (some v_1)).set j (some w)) H1 := by
    intro av nw hs hp _
    refine b G ad ρ σ H1 _ _ A1.con h1 fun s w H2 e2 k2 v2 h2 => ⟨v, w, rfl, ?_⟩
    have h3 := h2.2
    rw [hp] at h3
    refine fin (A1.con.putN nw hs) (A1.step.trans (Step.ofD fun _ z => own_putN nw z)) e2 k2 (Rv.par rfl (fun b z => ?_) v2 h2.1.2) h3
    exact z.imp id fun ⟨q, hq, e⟩ => ⟨q, own_putN nw hq, e⟩
  cases r with
  | l xs =>
    obtain ⟨p, vs, rfl, f0, g1, g2⟩ := v1
    obtain ⟨C1, S1⟩ := A1.putL (i := i) f0 g1 g2
    refine b (G.plus p) ad ρ σ H1 _ _ (A1.plus0 f0 ⟨_, g1⟩) h1 fun s w H2 e2 k2 v2 h2 => ⟨_, w, rfl, ?_⟩
    refine fin C1 S1 e2 k2 (Rv.par (G := G) (G' := G.plus p) rfl (fun b z => ?_) v2 h2.1.2) h2.2
    rcases z with z | ⟨q, hq, e⟩
    · exact .inl (.inl z)
    · rcases own_set hq with ⟨rfl, _⟩ | ⟨ne, hq⟩
      · exact .inl (.inr (by rw [e, adS_same]))
      · exact .inr ⟨q, hq, by rw [e, adS_ne ne]⟩
  | d x => exact nonown (av := .d x) (fun _ z => nomatch z) v1 rfl rfl
  | b xs => exact nonown (av := .bl xs) (fun _ z => nomatch z) v1 rfl rfl
  | dk => exact nonown (av := .dk) (fun _ z => nomatch z) v1 rfl rfl
  | o _ _ => exact b G ad ρ σ H1 _ _ A1.con h1 fun s w H2 e2 k2 v2 h2 => nomatch h2.1.1
  | ty _ => exact b G ad ρ σ H1 _ _ A1.con h1 fun s w H2 e2 k2 v2 h2 => nomatch h2.1.1
  | fn _ => exact b G ad ρ σ H1 _ _ A1.con h1 fun s w H2 e2 k2 v2 h2 => nomatch h2.1.1
end
end Zj

namespace Zj
open PySem L2
/-! ### the deck whose numbers lie under "cells" -/
def dkvC (l : Addr) (m t : Int) : List (Key × V) := [(.inr "cells", .ref l), (.inr "mixed", .int m), (.inr "turn", .int t)]
def DeckC (d l : Addr) (H : Hp) : Prop := ∃ (ns : List Int) (m t : Int), H d = some (.dK (dkvC l m t)) ∧ H l = some (.lst (ns.map V.int)) ∧ ns.length ≤ 63 ∧ 0 ≤ m ∧ m < 2305843009213693951
theorem nLMC : ¬ (("cells" : Str) = "mixed") := by decide +kernel
theorem nLTC : ¬ (("cells" : Str) = "turn") := by decide +kernel
section
variable {H : Hp} {d l : Addr} {m t : Int}
theorem val_leftC : valV (dkvC l m t) (.inr "cells") = some (.ref l) := by
  unfold valV dkvC
  rw [List.find?_cons_of_pos (by simp)]
  rfl
theorem val_mixedC : valV (dkvC l m t) (.inr "mixed") = some (.int m) := by
  unfold valV dkvC
  rw [List.find?_cons_of_neg (by simp [nLMC]), List.find?_cons_of_pos (by simp)]
  rfl
theorem val_turnC : valV (dkvC l m t) (.inr "turn") = some (.int t) := by
  unfold valV dkvC
  rw [List.find?_cons_of_neg (by simp [nLTC]), List.find?_cons_of_neg (by simp [nMT]), List.find?_cons_of_pos (by simp)]
  rfl
theorem put_turnC (t' : Int) : putK (dkvC l m t) (.inr "turn") (.int t') = dkvC l m t' := by
  simp [putK, dkvC, nLTC, nMT]
theorem get_leftC (h : H d = some (.dK (dkvC l m t))) : DGet H d (.str "cells") (some (.ref l)) := by
  have := DGet.k (k := (.inr "cells" : Key)) h
  rw [val_leftC] at this
  exact this
theorem get_mixedC (h : H d = some (.dK (dkvC l m t))) : DGet H d (.str "mixed") (some (.int m)) := by
  have := DGet.k (k := (.inr "mixed" : Key)) h
  rw [val_mixedC] at this
  exact this
theorem get_turnC (h : H d = some (.dK (dkvC l m t))) : DGet H d (.str "turn") (some (.int t)) := by
  have := DGet.k (k := (.inr "turn" : Key)) h
  rw [val_turnC] at this
  exact this
theorem set_turnC (t' : Int) (h : H d = some (.dK (dkvC l m t))) : DPut H d (.str "turn") (.int t') (upd H d (.dK (dkvC l m t'))) := by
  have := DPut.k (k := (.inr "turn" : Key)) (v := .int t') h (by show 3 < sizeLine; decide)
  rw [put_turnC] at this
  exact this
end
theorem merge_dkvC (l : Addr) (m t : Int) : mergeK [] (dkvC l m t) = dkvC l m t := by
  simp [mergeK, dkvC, putK, nLMC, nLTC, nMT]

def dkC : DkI where
  inv := DeckC
  live := fun ⟨ns, m, t, h1, h2, _⟩ => ⟨⟨_, h1⟩, _, h2⟩
  keep := fun _ _ _ => False
  data := fun _ _ _ => False
  kl := fun _ z => z.elim
  stab := fun ⟨ns, m, t, h1, h2, r⟩ e1 e2 _ => ⟨ns, m, t, by rw [e1]; exact h1, by rw [e2]; exact h2, r⟩
/-- a draw -/
def T_draw : FnT
  | [.dk, .d (.int m)], Φ => (0 < m ∧ m < 1073741824) ∧ ∀ r : Int, 0 ≤ r → r < m → Φ (.d (.int r))
  | _, _ => False
theorem kp_ext {d l : Addr} {H H' : Hp} {I : DkI} {G : Gh I} (e : G.dk = some (d, l)) (k : Kp d l H H') : Ext G.W H H' := fun b o n h => k b o (fun z => n ⟨_, e, .inl z⟩) (fun z => n ⟨_, e, .inr z⟩) h
def spDrawI (I : DkI) : Sp := fun vs H Q _ => ∃ (d l : Addr) (m : Int), vs = [.ref d, .int m] ∧ I.inv d l H ∧ 0 < m ∧ m < 1073741824 ∧ ∀ (H' : Hp) (r : Int), Kp d l H H' → I.inv d l H' → 0 ≤ r → r < m → Q (.int r) H'
theorem draw_of {I : DkI} {K : PySem.W.Frag} {vs : List V} {H : Hp} {Q : VK} {E : XK} (h : spA 2 K I T_draw vs H Q E) : spDrawI I vs H Q E := by
  obtain ⟨G, as, Φ, rfl, ⟨ok, lv, dk⟩, hn, ha, ht, k⟩ := h
  match as, ht with
  | [.dk, .d (.int m)], ht =>
    cases ha with
    | cons a1 ha =>
      cases ha with
      | cons a2 ha =>
        cases ha
        cases a1 with
        | @dk p e1 =>
          cases a2 with
          | d dm =>
            cases dv_int dm
            refine ⟨p.1, p.2, m, rfl, dk p e1, ht.1.1, ht.1.2, fun H' r kp iv r0 r1 => ?_⟩
            refine k (.d (.int r)) _ _ (kp_ext e1 kp) (fun q hq => ?_) (Dv.int _) (ht.2 r r0 r1)
            rw [e1] at hq
            cases Option.some.inj hq
            exact iv
def spDeckI (I : DkI) (K : PySem.W.Frag) : Sp := fun vs H Q _ => ∃ (a : Addr) (ns : List Int), vs = [.ref a] ∧ SqL K H a (ns.map V.int) ∧ ns.length ≤ 63 ∧ ∀ (H' : Hp) (d l : Addr), Same H H' → H d = none → H l = none → I.inv d l H' → Q (.ref d) H'
/-- the law's own run behind its first statement -/
theorem abs_top {I : DkI} {K : PySem.W.Frag} {t : TS} {T : ATS} {D : Ends} {H : Hp} {d l : Addr} {σ : L2.St} {ρ : ASt} (sa : SA I K t T) (iv : I.inv d l H) (hl : ρ.length = σ.length) (hd : ∀ i : Nat, (ρ[i]?).getD none = none ∨ ((ρ[i]?).getD none = some AV.dk ∧ σ[i]? = some (some (V.ref d))))
    (h : T { nx := fun _ => False, rt := fun r => r = .d (.bool true) } ρ) (k : ∀ H', D.rt (.bl true) H') (nd : ∀ b, ¬ I.data d l b := by exact fun _ h => h) : t D σ H := by
  have noown : ∀ {i : Nat}, ¬ ownAt ρ i := fun {i} z => by
    obtain ⟨xs, e⟩ := ownAt_iff.mp z
    rcases hd i with q | ⟨q, _⟩
    · rw [q] at e; cases e
    · rw [q] at e; cases e
  have C : Con K (⟨H, fun a => a = d ∨ a = l, some (d, l)⟩ : Gh I) (fun _ => 0) ρ σ H := by
    refine ⟨⟨fun a ⟨p, e, z⟩ => by cases Option.some.inj e; exact z, fun p b e z => by cases Option.some.inj e; exact .inr (I.kl iv z), fun p b e z => by cases Option.some.inj e; exact (nd b z).elim⟩, fun {a} z => ?_, fun z => (noown z).elim, fun p e => by cases Option.some.inj e; exact iv, Ext.refl _, hl, fun i => ?_, fun i j z => (noown z).elim, fun i z => (noown z).elim⟩
    · rcases z with rfl | rfl
      · exact (I.live iv).1
      · exact (I.live iv).2
    · rcases hd i with q | ⟨q, e⟩
      · rw [q]; trivial
      · rw [q, e]
        exact ⟨_, rfl, rfl⟩
  refine sa _ _ _ _ _ { nx := fun _ => False, rt := fun r => r = .d (.bool true) } _ C h ⟨fun _ _ _ _ _ _ z => z.elim, fun _ _ _ _ _ _ z => z.elim, fun _ _ _ _ _ _ z => z.elim, fun r v H' e' k' v' p => ?_⟩
  subst p
  cases (show Dv K _ H' v (.bool true) from v')
  exact k H'
end Zj

namespace Zj
open PySem PySem.Spec PyProof.Rows L2
/-! ### calls by name -/
def kwP {α : Type} (π : List Nat) (us ws : List α) : List α := match us with
  | [] => if ws.length = π.length then π.filterMap (fun i => ws[i]?) else []
  | _ :: _ => []
theorem pairedPick {α β : Type} {F : α → β → Prop} : ∀ {zs : List α} {ws : List β} (π : List Nat), Paired F zs ws → Paired F (π.filterMap (fun i => zs[i]?)) (π.filterMap (fun i => ws[i]?))
  | zs, ws, [], _ => .nil
  | zs, ws, i :: π, h => by
    have key : ∀ {zs : List α} {ws : List β} (i : Nat), Paired F zs ws → (zs[i]? = none ∧ ws[i]? = none) ∨ ∃ x y, zs[i]? = some x ∧ ws[i]? = some y ∧ F x y := by
      intro zs ws i h
      induction h generalizing i with
      | nil => exact .inl ⟨by simp, by simp⟩
      | cons a t ih =>
        cases i with
        | zero => exact .inr ⟨_, _, rfl, rfl, a⟩
        | succ i => exact ih i
    rcases key i h with ⟨h1, h2⟩ | ⟨x, y, h1, h2, h3⟩
    · rw [List.filterMap_cons_none h1, List.filterMap_cons_none h2]
      exact pairedPick π h
    · rw [List.filterMap_cons_some h1, List.filterMap_cons_some h2]
      exact .cons h3 (pairedPick π h)
theorem kwP_rel {F : V → Value → Prop} {π : List Nat} {vs zs : List V} {us ws : List Value} (r : Paired F vs us) (rz : Paired F zs ws) : Paired F (kwP π vs zs) (kwP π us ws) := by
  cases r with
  | nil =>
    unfold kwP
    have e := Paired.length rz
    simp only [e]
    split
    · exact pairedPick π rz
    · exact .nil
  | cons _ _ => exact .nil
theorem kbP2 {K : PySem.W.Frag} {q qual : Str} {st : Stmt} {f : Addr} {fd : FuncData} {ps : List Str} {k0 k1 : Str} {π : List Nat} (hp : π.length = 2) (F : Fun K q qual st f fd)
    (h : ∀ (kV doc pm : Value) (an : Option Addr) (cdv ct v0 v1 : Value), bindArgs (PySem.W.fnOf q qual (defArgs st) (defBody st) (defScope st) .none kV doc pm an cdv ct) ⟨[], [(k0, v0), (k1, v1)]⟩ = pure (ps.zip (kwP π [] [v0, v1]))) (hps : ps ≠ [] := by decide) : KBinds K fd ps [k0, k1] (kwP π) (kwP π) := by
  obtain ⟨oc, od, kV, doc, pm, an, cdv, ct, osl, rfl, lk, hcd⟩ := F.ex
  refine ⟨fun s us ws _ hl => ?_, fun {vs us zs ws} r rz => kwP_rel r rz⟩
  cases us with
  | cons _ _ => exact absurd (List.length_eq_zero_iff.mp hl.symm) hps
  | nil =>
    by_cases e : ws.length = π.length
    · match ws, e.trans hp with
      | [v, w], _ => exact .of_eq (h kV doc pm an cdv ct v w)
    · unfold kwP at hl
      simp only [if_neg e] at hl
      exact absurd (List.length_eq_zero_iff.mp hl.symm) hps
theorem rv_pick {I : DkI} {K : PySem.W.Frag} {G : Gh I} {ad : Nat → Addr} {ρ : ASt} {H0 H : Hp} : ∀ {zs : List V} {ws : List R} (π : List Nat), RvAll K G ad ρ H0 H zs ws → RvAll K G ad ρ H0 H (π.filterMap (fun i => zs[i]?)) (π.filterMap (fun i => ws[i]?))
  | zs, ws, [], _ => .nil
  | zs, ws, i :: π, h => by
    have key : ∀ {zs : List V} {ws : List R} (i : Nat), RvAll K G ad ρ H0 H zs ws → (zs[i]? = none ∧ ws[i]? = none) ∨ ∃ x y, zs[i]? = some x ∧ ws[i]? = some y ∧ Rv K G ad ρ H0 H x y := by
      intro zs ws i h
      induction h generalizing i with
      | nil => exact .inl ⟨by simp, by simp⟩
      | cons a t ih =>
        cases i with
        | zero => exact .inr ⟨_, _, rfl, rfl, a⟩
        | succ i => exact ih i
    rcases key i h with ⟨h1, h2⟩ | ⟨x, y, h1, h2, h3⟩
    · rw [List.filterMap_cons_none h1, List.filterMap_cons_none h2]
      exact rv_pick π h
    · rw [List.filterMap_cons_some h1, List.filterMap_cons_some h2]
      exact .cons h3 (rv_pick π h)
theorem rv_len {I : DkI} {K : PySem.W.Frag} {G : Gh I} {ad : Nat → Addr} {ρ : ASt} {H0 H : Hp} {zs : List V} {ws : List R} (h : RvAll K G ad ρ H0 H zs ws) : zs.length = ws.length := by
  induction h with
  | nil => rfl
  | cons _ _ ih => rw [List.length_cons, List.length_cons, ih]
theorem kwR (π : List Nat) {I : DkI} {K : PySem.W.Frag} : ∀ (G : Gh I) (ad : Nat → Addr) (ρ : ASt) (H0 H : Hp) (vs : List V) (rs : List R), RvAll K G ad ρ H0 H vs rs → RvAll K G ad ρ H0 H (kwP π [] vs) (kwP π [] rs) := fun G ad ρ H0 H vs rs h => by
  unfold kwP
  have e := rv_len h
  simp only [e]
  split
  · exact rv_pick π h
  · exact .nil
end Zj

namespace Zj
open PySem L2
section
variable {I : DkI} {K : PySem.W.Frag}
/-! ### a list or a tuple -/
def fSlQ : R → Option Int → Option Int → (R → Prop) → Prop
  | .d (.tuple xs), lo, hi, Φ => Φ (.d (.tuple (cutD xs lo hi)))
  | r, lo, hi, Φ => onL r fun xs => Φ (.l (cutD xs lo hi))
def onZ2 (r s : R) (Φ : List PyData → Prop) : Prop := match r, s with
  | .d (.tuple xs), .d (.tuple ys) => Φ (zipD xs ys)
  | r, s => onL r fun xs => onL s fun ys => Φ (zipD xs ys)
def cZipQ (U : AA) : ASt → (List PyData → Prop) → Prop := fun ρ Φ => U ρ fun rs => match rs with
  | [r, s] => onZ2 r s Φ
  | _ => False
end
/-! ### comprehensions that are told by a function -/
/-- a step tells, for an item, nothing or one datum -/
def LcStep (B : PyData → ASt → (ASt → Prop) → Prop) (Tt : AT) (Te : AE) (ρ : ASt) (x : PyData) (o : Option PyData) : Prop :=
  ∀ (n : Nat) (P : Option PyData → Prop), n < sizeLine → P o → B x ρ fun ρ2 => Tt ρ2 fun b => if b = true then Te ρ2 fun r => ∃ y, dataOf r = some y ∧ n < sizeLine ∧ P (some y) else P none
theorem lc_of {A : ASt → (List PyData → Prop) → Prop} {B : PyData → ASt → (ASt → Prop) → Prop} {Tt : AT} {Te : AE} {vs : List Nat} {ρ : ASt} {Φ : R → Prop} (items : List PyData) (f : PyData → Option PyData) (hA : ∀ Ψ : List PyData → Prop, Ψ items → A ρ Ψ) (hz : items.length < sizeLine)
    (ho : (vs.all fun i => noOwnB ((ρ[i]?).getD none)) = true) (hs : ∀ x ∈ items, LcStep B Tt Te (wipeA ρ vs) x (f x)) (h : Φ (.l (items.filterMap f))) : aLc A B Tt Te vs ρ Φ := by
  refine hA _ ⟨ho, fun i acc => acc = (items.take i).filterMap f, rfl, fun i x acc hx e => ?_, fun acc e => ?_⟩
  · subst e
    have hl : i < items.length := (List.getElem?_eq_some_iff.mp hx).1
    have ht : items.take (i + 1) = items.take i ++ [x] := by
      rw [List.take_succ, hx]; rfl
    have hlen : ((items.take i).filterMap f).length < sizeLine := by
      have h1 := List.length_filterMap_le f (items.take i)
      have h2 : (items.take i).length ≤ items.length := by rw [List.length_take]; omega
      omega
    refine hs x (List.mem_of_getElem? hx) _ (fun o => match o with
      | some y => (items.take i).filterMap f ++ [y] = (items.take (i + 1)).filterMap f
      | none => (items.take i).filterMap f = (items.take (i + 1)).filterMap f) hlen ?_
    rw [ht, List.filterMap_append]
    cases e : f x with
    | none =>
      rw [List.filterMap_cons_none e]
      exact (List.append_nil _).symm
    | some y =>
      rw [List.filterMap_cons_some e]
      rfl
  · rw [e, List.take_length]
    exact h
def aAll (L : AE) : AE := aCB fAll (aCons L aNil)
theorem ea_all {I : DkI} {K : PySem.W.Frag} {t : TE} {L : AE} (a : EA I K t L) : EA I K (tCB (rAll K) (tCons t tNil)) (aAll L) := ea_cb cb_all (aa_cons a aa_nil)
theorem bools_map (p : PyData → Bool) : ∀ xs : List PyData, boolsOf (xs.filterMap fun x => some (.bool (p x))) = some (xs.map p)
  | [] => rfl
  | x :: xs => by
    show (match boolsOf (xs.filterMap fun x => some (.bool (p x))) with | some bs => some (p x :: bs) | none => none) = _
    rw [bools_map p xs]
    rfl
theorem all_map_id (p : PyData → Bool) (xs : List PyData) : (xs.map p).all id = xs.all p := by
  rw [List.all_map]; rfl
theorem all_of {A : ASt → (List PyData → Prop) → Prop} {B : PyData → ASt → (ASt → Prop) → Prop} {Tt : AT} {Te : AE} {vs : List Nat} {ρ : ASt} {Φ : R → Prop} (items : List PyData) (p : PyData → Bool) (hA : ∀ Ψ : List PyData → Prop, Ψ items → A ρ Ψ) (hz : items.length < sizeLine)
    (ho : (vs.all fun i => noOwnB ((ρ[i]?).getD none)) = true) (hs : ∀ x ∈ items, LcStep B Tt Te (wipeA ρ vs) x (some (.bool (p x)))) (h : Φ (.d (.bool (items.all p)))) : aAll (aLc A B Tt Te vs) ρ Φ := by
  show aLc A B Tt Te vs ρ fun r => fAll [r] Φ
  refine lc_of items (fun x => some (.bool (p x))) hA hz ho hs ?_
  simp only [fAll, listOf, bools_map, all_map_id]
  exact h
theorem aAndV_tt {T U : AE} {ρ : ASt} {Φ : R → Prop} (h : ∀ Ψ, T ρ Ψ = Ψ (.d (.bool true))) (k : U ρ Φ) : aAndV T U ρ Φ := by
  unfold aAndV
  rw [h]
  exact k
/-! ### the program's looks at values -/
def smallT : PyData → Prop
  | .tuple xs => xs.length < sizeLine
  | _ => True
theorem cut1 {α : Type} (xs : List α) : cutD xs (some 1) none = xs.drop 1 := by
  unfold cutD
  show (xs.drop (min 1 xs.length)).take (xs.length - min 1 xs.length) = _
  cases xs with
  | nil => rfl
  | cons a xs =>
    rw [show min 1 (a :: xs).length = 1 by rw [List.length_cons]; omega]
    rw [← List.length_drop, List.take_length]
theorem zip_mem : ∀ {xs ys : List PyData} {z : PyData}, z ∈ zipD xs ys → ∃ x y, x ∈ xs ∧ y ∈ ys ∧ z = .tuple [x, y]
  | [], _, _, h => by simp [zipD] at h
  | _ :: _, [], _, h => by simp [zipD] at h
  | x :: xs, y :: ys, z, h => by
    rcases List.mem_cons.mp (show z ∈ .tuple [x, y] :: zipD xs ys from h) with e | e
    · exact ⟨x, y, List.mem_cons.mpr (.inl rfl), List.mem_cons.mpr (.inl rfl), e⟩
    · obtain ⟨u, v, h1, h2, h3⟩ := zip_mem e
      exact ⟨u, v, List.mem_cons.mpr (.inr h1), List.mem_cons.mpr (.inr h2), h3⟩
theorem atI_cast {α : Type} (xs : List α) (j : Nat) : atI xs (j : Int) = xs[j]? := by
  unfold atI ixN
  rw [if_pos (by omega)]
  by_cases h : j < xs.length
  · rw [if_pos (by omega)]
    rfl
  · rw [if_neg (by omega), List.getElem?_eq_none (by omega)]
    rfl
theorem atI_0 {α : Type} (x : α) (xs : List α) : atI (x :: xs) 0 = some x := atI_cast (x :: xs) 0
theorem atI_1 {α : Type} (x y : α) (xs : List α) : atI (x :: y :: xs) 1 = some y := atI_cast (x :: y :: xs) 1
theorem atI_2 {α : Type} (x y z : α) (xs : List α) : atI (x :: y :: z :: xs) 2 = some z := atI_cast (x :: y :: z :: xs) 2
theorem atI_3 {α : Type} (x y z u : α) (xs : List α) : atI (x :: y :: z :: u :: xs) 3 = some u := atI_cast (x :: y :: z :: u :: xs) 3
mutual
def small : PyData → Prop
  | .tuple xs => xs.length < sizeLine ∧ smallAll xs
  | .list xs => xs.length < sizeLine ∧ smallAll xs
  | _ => True
def smallAll : List PyData → Prop
  | [] => True
  | x :: xs => small x ∧ smallAll xs
end
theorem small_tup {xs : List PyData} (h : small (.tuple xs)) : xs.length < sizeLine ∧ smallAll xs := by
  unfold small at h
  exact h
theorem small.t {x : PyData} (h : small x) : smallT x := by
  cases x with
  | tuple xs => exact (small_tup h).1
  | _ => trivial
def encT (p : Int × List Int) : PyData := .tuple [.int p.1, .tuple (p.2.map PyData.int)]
def encB (b : List (Int × List Int)) : PyData := .tuple (b.map encT)
end Zj

namespace Zj
open PySem L2
/-! ### shapes -/
def Sh (k : Nat) (d : PyData) : Prop := d.canLay0 = true ∧ d.depth ≤ k
theorem Sh.mono {k m : Nat} {d : PyData} (h : Sh k d) (l : k ≤ m) : Sh m d := ⟨h.1, Nat.le_trans h.2 l⟩
theorem sh_all : ∀ {k : Nat} {ds : List PyData}, (∀ d ∈ ds, Sh k d) → PyData.canLayAll0 ds = true ∧ PyData.depthAll ds ≤ k
  | _, [], _ => ⟨rfl, Nat.zero_le _⟩
  | k, d :: ds, h => by
    obtain ⟨h1, h2⟩ := sh_all (ds := ds) fun x hx => h x (List.mem_cons.mpr (.inr hx))
    have h0 := h d (List.mem_cons.mpr (.inl rfl))
    refine ⟨?_, ?_⟩
    · show (PyData.canLay0 d && PyData.canLayAll0 ds) = true
      rw [h0.1, h1]; rfl
    · have := h0.2
      simp only [PyData.depthAll]
      omega
theorem Sh.list {k : Nat} {ds : List PyData} (h : ∀ d ∈ ds, Sh k d) : Sh (k + 1) (.list ds) := by
  obtain ⟨h1, h2⟩ := sh_all h
  refine ⟨h1, ?_⟩
  simp only [PyData.depth]
  omega
theorem Sh.tup {k : Nat} {ds : List PyData} (h : ∀ d ∈ ds, Sh k d) : Sh (k + 1) (.tuple ds) := by
  obtain ⟨h1, h2⟩ := sh_all h
  refine ⟨h1, ?_⟩
  simp only [PyData.depth]
  omega
theorem Sh.int (i : Int) : Sh 0 (.int i) := ⟨rfl, Nat.le_refl _⟩
theorem Sh.bool (i : Bool) : Sh 0 (.bool i) := ⟨rfl, Nat.le_refl _⟩
theorem Sh.none : Sh 0 .none := ⟨rfl, Nat.le_refl _⟩
theorem Sh.ok {k : Nat} {d : PyData} (h : Sh k d) (l : k ≤ 60) : SeqAt.shaped d = true := by
  unfold SeqAt.shaped
  rw [Bool.and_eq_true]
  exact ⟨h.1, decide_eq_true (by have := h.2; omega)⟩
theorem Sh.ints (ns : List Int) : Sh 1 (.tuple (ns.map PyData.int)) := Sh.tup fun d hd => by
  obtain ⟨i, _, rfl⟩ := List.mem_map.mp hd
  exact Sh.int i
theorem Sh.encT (p : Int × List Int) : Sh 2 (encT p) := Sh.tup fun d hd => by
  simp only [List.mem_cons, List.not_mem_nil, or_false] at hd
  rcases hd with rfl | rfl
  · exact (Sh.int _).mono (by decide)
  · exact Sh.ints _
theorem Sh.encB (b : List (Int × List Int)) : Sh 3 (encB b) := Sh.tup fun d hd => by
  obtain ⟨i, _, rfl⟩ := List.mem_map.mp hd
  exact Sh.encT i
theorem cutD_take {α : Type} (xs : List α) (k : Nat) : cutD xs none (some (k : Int)) = xs.take k := by
  unfold cutD
  show (xs.drop 0).take (HT.sIx xs.length xs.length (some (k : Int)) - 0) = _
  rw [List.drop_zero, Nat.sub_zero, HT.sIx_nat]
  by_cases h : k ≤ xs.length
  · rw [Nat.min_eq_left h]
  · rw [Nat.min_eq_right (by omega), List.take_of_length_le (Nat.le_refl _), List.take_of_length_le (by omega)]
theorem seq_for {A : ASt → (List PyData → ASt → Prop) → Prop} {B : PyData → ASt → (ASt → Prop) → Prop} {T : ATS} {U : ATS} {Φ : AEnds} {ρ : ASt} (items : List PyData) (ρ1 : ASt) (hA : ∀ Ψ : List PyData → ASt → Prop, Ψ items ρ1 → A ρ Ψ) (P : Nat → ASt → Prop) (h0 : P 0 ρ1)
    (hs : ∀ i x ρ', items[i]? = some x → P i ρ' → B x ρ' fun ρ2 => T { Φ with nx := P (i + 1), ct := P (i + 1), bk := U Φ } ρ2) (hd : ∀ ρ', P items.length ρ' → U Φ ρ') : aSeq (aFor A B T) U Φ ρ := hA _ ⟨P, h0, hs, hd⟩
end Zj

namespace Zj
open PySem PySem.Spec PyProof.Rows L2
section
variable {X : Cx}
/-! ### x == [], x != [], any items -/
def rEqE (K : PySem.W.Frag) : R2 := fun x y H Q => ∃ (a b : Addr) (xs : List V), x = .ref a ∧ y = .ref b ∧ SqL K H a xs ∧ SqL K H b [] ∧ Q (.bl xs.isEmpty) H
theorem op_eqE (hu : X.A.units < cLine) : OpR X (compareOp .Eq) (rEqE X.K) := by
  intro pins s σ H x y v u Q I rx ry h
  obtain ⟨a, b, xs, rfl, rfl, h1, h2, q⟩ := h
  cases rx
  cases ry
  obtain ⟨its, r, ht, hz⟩ := I.list h1
  obtain ⟨its2, r2, ht2, hz2⟩ := I.list h2
  cases r2
  cases xs with
  | nil =>
    cases r
    exact SeqAt.eq_listAt (e := fun _ => true) ht.isList ht2.isList rfl hu (fun j h1 => absurd h1 (Nat.not_lt_zero j)) ⟨.bl true, H, I, rfl, q⟩
  | cons z zs =>
    cases r with
    | cons r1 r2 => exact SeqAt.eq_list_lengthsAt ht.isList ht2.isList rfl hu ⟨.bl false, H, I, rfl, q⟩
/-! ### t[::-1] -/
section
variable {prog : Program} {w : World} {A : Around} {E : Value → Shared → Prop} {s : Shared}
end
end
end Zj
namespace Zj
open PySem L2
section
variable {I : DkI} {K : PySem.W.Frag}
def fRep : R → R → (R → Prop) → Prop := fun r s Φ => match listOf r, s with
  | some xs, .d (.int k) => -(2 ^ 63) ≤ k ∧ k < 2 ^ 63 ∧ xs.length * k.toNat ≤ sizeLine ∧ Φ (.l (List.replicate k.toNat xs).flatten)
  | _, _ => False
def fRepT : R → R → (R → Prop) → Prop
  | .d (.tuple xs), .d (.int k), Φ => xs ≠ [] ∧ 2 ≤ k ∧ k ≤ 1000 ∧ xs.length ≤ 1000 ∧ xs.all flatD = true ∧ Φ (.d (.tuple (List.replicate k.toNat xs).flatten))
  | _, _, _ => False
def aRevA (T : AE) : AE := fun ρ Φ => T ρ fun r => match r with
  | .d (.tuple xs) => Φ (.d (.tuple xs.reverse))
  | _ => False
/-- x[i], a list or a tuple -/
def fIxQ : R → R → (R → Prop) → Prop
  | .d (.tuple xs), .d (.int i), Φ => match atI xs i with
    | some y => Φ (.d y)
    | none => False
  | r, s, Φ => fIxL r s Φ
theorem oa_ixQ : OpA I K (fun x y H Q => rIxL K x y H Q ∨ rIxT K x y H Q) fIxQ := fun G ad ρ σ H0 H x y rx ry Φ Q A vx vy h k => by
  unfold fIxQ at h
  split at h
  · exact .inr (oa_ixT G ad ρ σ H0 H x y _ _ Φ Q A vx vy h k)
  · exact .inl (oa_ixL G ad ρ σ H0 H x y _ _ Φ Q A vx vy h k)
def fEqE : R → R → (R → Prop) → Prop := fun r s Φ => match listOf r, listOf s with
  | some xs, some [] => Φ (.d (.bool xs.isEmpty))
  | _, _ => False
def fNeE : R → R → (R → Prop) → Prop := fun r s Φ => match listOf r, listOf s with
  | some xs, some [] => Φ (.d (.bool !xs.isEmpty))
  | _, _ => False
theorem isEmpty_len {α β : Type} {xs : List α} {ys : List β} (h : xs.length = ys.length) : xs.isEmpty = ys.isEmpty := by
  cases xs <;> cases ys <;> first | rfl | cases h
theorem oa_eqE : OpA I K (rEqE K) fEqE := fun G ad ρ σ H0 H x y rx ry Φ Q A vx vy h k => by
  unfold fEqE at h
  split at h
  · rename_i xs e1 e2
    obtain ⟨a, vs, rfl, h1, h2, _⟩ := A.list vx e1
    obtain ⟨b, us, rfl, h3, h4, _⟩ := A.list vy e2
    cases h4
    exact ⟨a, b, vs, rfl, rfl, SqL.of h1, SqL.of h3, by rw [← isEmpty_len h2.len]; exact k (.d _) _ _ (Ext.refl _) A.k (Dv.bl _) h⟩
  · exact h.elim
end
end Zj

namespace Zj
open PySem PySem.Spec PyProof.Rows L2
/-! ### rules of the hand layer -/
section
variable {X : Cx}
end
end Zj

namespace Zj
open PySem L2
/-! ### dicts as data -/
def keyO : PyData → Option Key
  | .int i => some (.inl i)
  | .str x => some (.inr x)
  | _ => none
theorem keyO_keyD : ∀ k : Key, keyO (keyD k) = some k
  | .inl _ => rfl
  | .inr _ => rfl
section
variable {I : DkI} {K : PySem.W.Frag}
def kvD (kvs : List (Key × PyData)) : PyData := .dict (kvs.map fun p => (keyD p.1, p.2))
inductive KvR (K : PySem.W.Frag) (O : Addr → Prop) (H : Hp) : List (Key × V) → List (Key × PyData) → Prop
  | nil : KvR K O H [] []
  | cons {k : Key} {v : V} {d : PyData} {vs : List (Key × V)} {ds : List (Key × PyData)} : Dv K O H v d → KvR K O H vs ds → KvR K O H ((k, v) :: vs) ((k, d) :: ds)
variable {O : Addr → Prop} {H : Hp}
theorem keyD_inj {a b : Key} (h : keyD a = keyD b) : a = b := Option.some.inj (by rw [← keyO_keyD a, ← keyO_keyD b, h])
theorem kvr_of : ∀ {vs : List (Key × V)} {ds : List PyData} {kvs : List (Key × PyData)}, (vs.map fun p => keyD p.1).zip ds = (kvs.map fun p => (keyD p.1, p.2)) → DvAll K O H (vs.map fun p => p.2) ds → KvR K O H vs kvs
  | [], ds, kvs, e, h => by
    cases kvs with
    | nil => exact .nil
    | cons q qs => rw [List.map_nil, List.zip_nil_left] at e; cases e
  | (k, v) :: vs, ds, kvs, e, h => by
    cases h with
    | @cons _ _ d ds' h1 h2 =>
      cases kvs with
      | nil => cases e
      | cons q qs =>
        obtain ⟨i, y⟩ := q
        have e1 : (keyD k, d) = (keyD i, y) := (List.cons.inj e).1
        have e2 := (List.cons.inj e).2
        have k1 : k = i := keyD_inj (congrArg Prod.fst e1)
        have k2 : d = y := congrArg Prod.snd e1
        subst k1 k2
        exact .cons h1 (kvr_of e2 h2)
theorem KvR.zip : ∀ {vs : List (Key × V)} {kvs : List (Key × PyData)}, KvR K O H vs kvs → (vs.map fun p => keyD p.1).zip (kvs.map fun p => p.2) = kvs.map (fun p => (keyD p.1, p.2)) ∧ DvAll K O H (vs.map fun p => p.2) (kvs.map fun p => p.2)
  | _, _, .nil => ⟨rfl, .nil⟩
  | _, _, .cons h t => ⟨by have := (KvR.zip t).1; rw [List.map_cons, List.map_cons, List.map_cons, List.zip_cons_cons, this], .cons h (KvR.zip t).2⟩
theorem dv_kv {v : V} {kvs : List (Key × PyData)} (h : Dv K O H v (kvD kvs)) : ∃ (a : Addr) (vs : List (Key × V)), v = .ref a ∧ DkO O H a vs ∧ KvR K O H vs kvs := by
  generalize e : kvD kvs = d at h
  cases h with
  | @dic a vs ds h1 h2 => exact ⟨a, vs, rfl, h1, kvr_of (PyData.dict.inj e).symm h2⟩
  | _ => cases e
theorem kv_dv {a : Addr} {vs : List (Key × V)} {kvs : List (Key × PyData)} (h1 : DkO O H a vs) (h2 : KvR K O H vs kvs) : Dv K O H (.ref a) (kvD kvs) := by
  unfold kvD
  rw [← h2.zip.1]
  exact .dic h1 h2.zip.2
theorem DkO.rd {a : Addr} {vs : List (Key × V)} (h : DkO O H a vs) : Rd H a (.dK vs) := .inr h.2
def findK (kvs : List (Key × PyData)) (k : Key) : Option PyData := (kvs.find? fun p => decide (p.1 = k)).map fun p => p.2
theorem KvR.find {vs : List (Key × V)} {kvs : List (Key × PyData)} (h : KvR K O H vs kvs) (k : Key) : (findK kvs k = none ∧ valV vs k = none) ∨ ∃ y v, findK kvs k = some y ∧ valV vs k = some v ∧ Dv K O H v y := by
  induction h with
  | nil => exact .inl ⟨rfl, rfl⟩
  | @cons i v d vs ds h1 h2 ih =>
    by_cases e : i = k
    · subst e
      exact .inr ⟨d, v, by simp [findK], by simp [valV], h1⟩
    · rw [show findK ((i, d) :: ds) k = findK ds k by simp [findK, List.find?_cons, e], show valV ((i, v) :: vs) k = valV vs k by simp [valV, List.find?_cons, e]]
      exact ih
theorem key_dv {v : V} {x : PyData} {k : Key} (h : Dv K O H v x) (e : keyO x = some k) : v = kV k := by
  cases h <;> first | (cases Option.some.inj e; rfl) | cases e
/-- d[k] -/
def aDGet (T U : AE) : AE := fun ρ Φ => T ρ fun r => U ρ fun s => ∃ kvs x k y, r = .d (kvD kvs) ∧ s = .d x ∧ keyO x = some k ∧ findK kvs k = some y ∧ Φ (.d y)
theorem ea_dget {t u : TE} {T U : AE} (a : EA I K t T) (b : EA I K u U) : EA I K (tDGet t u) (aDGet T U) := fun G ad ρ σ H Φ Q C h k => by
  refine a G ad ρ σ H _ _ C h fun r v H1 e1 k1 v1 h1 => ?_
  have A1 := (At.start C).to e1 k1
  refine b G ad ρ σ H1 _ _ A1.con h1 fun s w H2 e2 k2 v2 h2 => ?_
  have A2 := A1.to e2 k2
  have w1 := A1.rv v1 e2
  obtain ⟨kvs, xk, j, y, rfl, rfl, hk, hf, h3⟩ := h2
  obtain ⟨x, vs, rfl, g1, g2⟩ := dv_kv (show Dv K _ H2 v (kvD kvs) from w1)
  have ew := key_dv (show Dv K _ H2 w xk from v2) hk
  rcases g2.find j with ⟨z, _⟩ | ⟨y', v', z1, z2, z3⟩
  · rw [hf] at z; cases z
  · rw [hf] at z1
    cases Option.some.inj z1
    exact ⟨x, v', rfl, .inl ⟨vs, j, g1.rd, ew, z2.symm⟩, k (.d _) _ _ (e1.trans e2) k2 z3 h3⟩
theorem KvR.len {vs : List (Key × V)} {kvs : List (Key × PyData)} (h : KvR K O H vs kvs) : kvs.length = vs.length := by
  induction h with
  | nil => rfl
  | cons _ _ ih => rw [List.length_cons, List.length_cons, ih]
theorem KvR.ext {W : Addr → Prop} {H' : Hp} {vs : List (Key × V)} {kvs : List (Key × PyData)} (h : KvR K O H vs kvs) (e : Ext W H H') (w : ∀ b, W b → O b) : KvR K O H' vs kvs := by
  induction h with
  | nil => exact .nil
  | cons h1 _ ih => exact .cons (h1.ext e w) ih
theorem KvR.weak {O' : Addr → Prop} {vs : List (Key × V)} {kvs : List (Key × PyData)} (h : KvR K O H vs kvs) (w : ∀ b, O' b → O b) : KvR K O' H vs kvs := by
  induction h with
  | nil => exact .nil
  | cons h1 _ ih => exact .cons (h1.weak w) ih
def putD (kvs : List (Key × PyData)) (k : Key) (y : PyData) : List (Key × PyData) :=
  if (kvs.any fun p => decide (p.1 = k)) = true then kvs.map (fun p => if p.1 = k then (p.1, y) else p) else kvs ++ [(k, y)]
theorem KvR.any {vs : List (Key × V)} {kvs : List (Key × PyData)} (h : KvR K O H vs kvs) (k : Key) : (vs.any fun kv => decide (kv.1 = k)) = kvs.any fun p => decide (p.1 = k) := by
  induction h with
  | nil => rfl
  | @cons i v d vs ds h1 h2 ih => rw [List.any_cons, List.any_cons, ih]
theorem KvR.over {vs : List (Key × V)} {kvs : List (Key × PyData)} (h : KvR K O H vs kvs) {v : V} {y : PyData} (hy : Dv K O H v y) (k : Key) : KvR K O H (vs.map fun kv => if kv.1 = k then (kv.1, v) else kv) (kvs.map fun p => if p.1 = k then (p.1, y) else p) := by
  induction h with
  | nil => exact .nil
  | @cons i w d vs ds h1 h2 ih =>
    rw [List.map_cons, List.map_cons]
    by_cases e : i = k
    · subst e
      rw [if_pos rfl, if_pos rfl]
      exact .cons hy ih
    · rw [if_neg e, if_neg e]
      exact .cons h1 ih
theorem KvR.app {vs : List (Key × V)} {kvs : List (Key × PyData)} (h : KvR K O H vs kvs) {v : V} {y : PyData} (hy : Dv K O H v y) (k : Key) : KvR K O H (vs ++ [(k, v)]) (kvs ++ [(k, y)]) := by
  induction h with
  | nil => exact .cons hy .nil
  | cons h1 _ ih => exact .cons h1 ih
theorem KvR.put {vs : List (Key × V)} {kvs : List (Key × PyData)} (h : KvR K O H vs kvs) {v : V} {y : PyData} (hy : Dv K O H v y) (k : Key) : KvR K O H (putK vs k v) (putD kvs k y) := by
  unfold putK putD
  rw [h.any k]
  split
  · exact h.over hy k
  · exact h.app hy k
def mergeD (kvs more : List (Key × PyData)) : List (Key × PyData) := more.foldl (fun acc p => putD acc p.1 p.2) kvs
/-- d.get(k), d.get(k, z) -/
def aDGet1 (T U : AE) : AE := fun ρ Φ => T ρ fun r => ∃ kvs, r = .d (kvD kvs) ∧ U ρ fun s => ∃ xk k, s = .d xk ∧ keyO xk = some k ∧ Φ (.d ((findK kvs k).getD .none))
def aDGet2 (T U W : AE) : AE := fun ρ Φ => T ρ fun r => ∃ kvs, r = .d (kvD kvs) ∧ U ρ fun s => ∃ xk k, s = .d xk ∧ keyO xk = some k ∧ W ρ fun z => ∃ d, z = .d d ∧ Φ (.d ((findK kvs k).getD d))
/-- k in d -/
def aDIn (neg : Bool) (T U : AE) : AE := fun ρ Φ => T ρ fun s => U ρ fun r => ∃ kvs xk k, r = .d (kvD kvs) ∧ s = .d xk ∧ keyO xk = some k ∧ Φ (.d (.bool (if neg then !(findK kvs k).isSome else (findK kvs k).isSome)))
end
end Zj

namespace Zj
open PySem PySem.Spec PyProof.Rows L2 Builtin
/-- a set that is just made -/
abbrev newSetO (w : World) : Obj := { cls := .type "set", dict := none, data := .set #[] 0 (.fresh 0 0 (!w.params.followText "set-order")) }
section
variable {P : Program} {w : World} {A : Around} {E : Value → Shared → Prop} {s : Shared}
end
end Zj

namespace Zj
open PySem PySem.Spec PyProof.Rows L2
section
variable {X : Cx}
end
end Zj

namespace Zj
open PySem L2
section
variable {I : DkI} {K : PySem.W.Frag} {O : Addr → Prop} {H : Hp}
/-! ### dict(t), t a tuple of pairs -/
def pairD : PyData → Option (Key × PyData)
  | .tuple [x, y] => (keyO x).map fun k => (k, y)
  | _ => none
def pairsD : List PyData → Option (List (Key × PyData))
  | [] => some []
  | x :: xs => match pairD x, pairsD xs with
    | some p, some ps => some (p :: ps)
    | _, _ => none
def aDictOf (T : AE) : AE := fun ρ Φ => T ρ fun r => match r with
  | .d (.tuple xs) => match pairsD xs with
    | some kvs => Φ (.d (kvD (mergeD [] kvs)))
    | none => False
  | _ => False
/-! ### list(d), [*d, *e] -/
def keysOf : R → Option (List PyData)
  | .d (.dict es) => some (es.map (·.1))
  | _ => none
def valsOf : R → Option (List PyData)
  | .d (.dict es) => some (es.map (·.2))
  | _ => none
def itemsOf : R → Option (List PyData)
  | .d (.dict es) => some (es.map fun p => .tuple [p.1, p.2])
  | _ => none
theorem keysOf_kv (kvs : List (Key × PyData)) : keysOf (.d (kvD kvs)) = some (kvs.map fun p => keyD p.1) := by simp [keysOf, kvD]
theorem valsOf_kv (kvs : List (Key × PyData)) : valsOf (.d (kvD kvs)) = some (kvs.map fun p => p.2) := by simp [valsOf, kvD]
theorem itemsOf_kv (kvs : List (Key × PyData)) : itemsOf (.d (kvD kvs)) = some (kvs.map fun p => .tuple [keyD p.1, p.2]) := by simp [itemsOf, kvD]
def onO {α : Type} (o : Option α) (Φ : α → Prop) : Prop := match o with
  | some x => Φ x
  | none => False
theorem onO_some {α : Type} (x : α) (Φ : α → Prop) : onO (some x) Φ = Φ x := rfl
def aListD (T : AE) : AE := fun ρ Φ => T ρ fun r => onO (keysOf r) fun xs => Φ (.l xs)
/-- the items of what stands behind a star -/
def starItems : R → Option (List PyData)
  | .d (.tuple xs) => some xs
  | .d (.dict es) => some (es.map (·.1))
  | r => listOf r
theorem starItems_kv (kvs : List (Key × PyData)) : starItems (.d (kvD kvs)) = some (kvs.map fun p => keyD p.1) := by simp [starItems, kvD]
theorem RvAll.ds {G : Gh I} {ad : Nat → Addr} {ρ : ASt} {H0 H1 : Hp} {vs : List V} {rs : List R} (g : RvAll K G ad ρ H0 H1 vs rs) : ∀ {us : List V} {xs : List PyData}, DvAll K (Ow G ad ρ) H1 us xs → RvAll K G ad ρ H0 H1 (us ++ vs) (xs.map R.d ++ rs)
  | _, _, .nil => g
  | _, _, .cons h t => .cons (show Rv K G ad ρ H0 H1 _ (.d _) from h) (RvAll.ds g t)
theorem dataAll_ds : ∀ xs : List PyData, dataAll (xs.map R.d) = some xs
  | [] => rfl
  | x :: xs => by
    show (match dataOf (.d x), dataAll (xs.map R.d) with | some y, some ys => some (y :: ys) | _, _ => none) = _
    rw [dataAll_ds xs]
    rfl
theorem dataAll_two (xs ys : List PyData) : dataAll (xs.map R.d ++ ys.map R.d) = some (xs ++ ys) := by rw [← List.map_append, dataAll_ds]
def aStar (T : AE) (U : AA) : AA := fun ρ Φ => T ρ fun r => onO (starItems r) fun xs => U ρ fun rs => Φ (xs.map R.d ++ rs)
/-! ### dicts that are walked -/
theorem DkO.step {G : Gh I} {ad ad' : Nat → Addr} {ρ ρ' : ASt} {σ : L2.St} {H H' : Hp} (C : Con K G ad ρ σ H) (s : Step G ad ρ H ad' ρ' H') {a : Addr} {kvs : List (Key × V)} {od : Obj} (n : ¬ Ow G ad ρ a) (h : H a = some (.frz od (.dK kvs))) : H' a = some (.frz od (.dK kvs)) := s.pres _ _ (fun z => n (C.mo z)) h
def wKeys (T : AE) : ASt → (List PyData → ASt → Prop) → Prop := fun ρ Φ => T ρ fun r => onO (keysOf r) fun xs => Φ xs ρ
def cKeys (T : AE) : ASt → (List PyData → Prop) → Prop := fun ρ Φ => T ρ fun r => onO (keysOf r) fun xs => Φ xs
def cVals (T : AE) : ASt → (List PyData → Prop) → Prop := fun ρ Φ => T ρ fun r => onO (valsOf r) fun xs => Φ xs
def cItems (T : AE) : ASt → (List PyData → Prop) → Prop := fun ρ Φ => T ρ fun r => onO (itemsOf r) fun xs => Φ xs
/-! ### sorted(set(l)), max(t) -/
def aSortSetL (T : AE) : AE := fun ρ Φ => T ρ fun r => onL r fun xs => match intsOf xs with
  | some ns => ns.length < 63 ∧ ∀ ms : List Int, ms.Pairwise (· < ·) → (∀ k : Int, k ∈ ms ↔ k ∈ ns) → Φ (.l (ms.map PyData.int))
  | none => False
def aMaxT (T : AE) : AE := fun ρ Φ => T ρ fun r => match r with
  | .d (.tuple xs) => match intsOf xs with
    | some (n :: ns) => Φ (.d (.int (ns.foldl max n)))
    | _ => False
  | _ => False
/-- a, b, c = e, f, g: data -/
def aPar3 (i j l : Nat) (U : AA) : ATS := fun Φ ρ => U ρ fun rs => match dataAll rs with
  | some [x, y, z] => Φ.nx (((ρ.set i (some (.d x))).set j (some (.d y))).set l (some (.d z)))
  | _ => False
end
end Zj

namespace Zj
open PySem L2
/-! # a, b, c = e, f, g over a tuple that is made for it (names that are cells): what is new stays own -/
section
variable {I : DkI} {K : PySem.W.Frag} {G : Gh I} {ad ad' ad2 : Nat → Addr} {ρ ρ1 ρ' ρ2 : ASt} {σ σ' : L2.St} {H H0 H1 H' H2 : Hp}
def noBl : Option AV → Bool
  | some (.bl _) => false
  | _ => true
def uNil : ASt → (ASt → Prop) → Prop := fun ρ Φ => Φ ρ
def upOk : R → ASt → Bool
  | .d _, _ => true
  | .l _, ρ => ρ.all noBl
  | _, _ => false
def uCons (i : Nat) (T : AE) (U : ASt → (ASt → Prop) → Prop) : ASt → (ASt → Prop) → Prop := fun ρ Φ => T ρ fun r => U ρ fun ρ' => upOk r ρ' = true ∧ onP (aPut i r ρ') Φ
def aUnpP (is : List Nat) (U : ASt → (ASt → Prop) → Prop) : ATS := fun Φ ρ => is.length ≤ sizeLine ∧ U ρ Φ.nx
end
end Zj

namespace Zj
open PySem L2
/-! # rules with the fragment named, for use within comprehensions -/
section
variable {X : Cx}
end
section
variable {I : DkI} {K : PySem.W.Frag}
def fNotB : R → R → (R → Prop) → Prop
  | .d (.bool a), .d (.bool b), Φ => Φ (.d (.bool (!decide (a = b))))
  | _, _, _ => False
def fIsB : R → R → (R → Prop) → Prop
  | .d (.bool a), .d (.bool b), Φ => Φ (.d (.bool (decide (a = b))))
  | _, _, _ => False
end
end Zj

namespace Zj
open PySem PySem.Spec PyProof.Rows L2
section
variable {X : Cx} {pins : List (Addr × Obj)} {σ : L2.St}
/-- many new objects are laid at once -/
theorem lay_many {h' : Heap} {tk : Nat} : ∀ (l : List (Addr × HO)) {H : Hp} {s : Shared}, Inv X pins σ H s → (∀ b o, s.heap.get? b = some o → h'.get? b = some o) → (∀ p ∈ l, s.heap.get? p.1 = none ∧ H p.1 = none) → (l.map (·.1)).Nodup →
    (∀ p ∈ l, ∀ (G : Heap) (H : Hp), G.get? p.1 = h'.get? p.1 → ObjOk X.prog X.w H G p.1 p.2) → ∃ H', Inv X pins σ H' { s with heap := h', toks := tk } ∧ (∀ b o, H b = some o → H' b = some o) ∧ ∀ p ∈ l, H' p.1 = some p.2
  | [], H, s, I, k, _, _, _ => ⟨H, I.kept (t' := tk) k, fun _ _ e => e, fun _ z => nomatch z⟩
  | p :: l, H, s, I, k, hf, nd, ok => by
    obtain ⟨G, g1, g2⟩ := restrict h' fun b => decide (b = p.1) || (s.heap.get? b).isSome
    have kG : ∀ b o, s.heap.get? b = some o → G.get? b = some o := fun b o e => by
      rw [g1 b (by rw [e]; simp)]
      exact k b o e
    have pf := hf p (List.mem_cons.mpr (.inl rfl))
    have eP : G.get? p.1 = h'.get? p.1 := g1 p.1 (by simp)
    have I1 := I.laidN (o := p.2) (t' := s.toks) kG pf.1 pf.2 (ok p (List.mem_cons.mpr (.inl rfl)) G _ eP)
    rw [List.map_cons, List.nodup_cons] at nd
    have neP : ∀ q ∈ l, q.1 ≠ p.1 := fun q hq e => nd.1 (e ▸ List.mem_map.mpr ⟨q, hq, rfl⟩)
    obtain ⟨H', I2, e2, m2⟩ := lay_many l (s := { s with heap := G, toks := s.toks }) I1 (fun b o e => by
      have e : G.get? b = some o := e
      by_cases z : (decide (b = p.1) || (s.heap.get? b).isSome) = true
      · rw [← g1 b z]; exact e
      · rw [g2 b (by simpa using z)] at e; cases e) (fun q hq => by
        have qf := hf q (List.mem_cons.mpr (.inr hq))
        refine ⟨g2 q.1 (by rw [qf.1, decide_eq_false (neP q hq)]; rfl), ?_⟩
        rw [upd_ne (neP q hq)]
        exact qf.2) nd.2 fun q hq => ok q (List.mem_cons.mpr (.inr hq))
    refine ⟨H', I2, fun b o e => e2 b o ?_, fun q hq => ?_⟩
    · rw [upd_ne (ne_of_none e pf.2)]; exact e
    · rcases List.mem_cons.mp hq with rfl | hq
      · exact e2 _ _ upd_same
      · exact m2 q hq
theorem zip_map2 {α β : Type} : ∀ {xs : List α} {ys : List β}, xs.length = ys.length → (xs.zip ys).map (fun p => p.2) = ys
  | [], [], _ => rfl
  | _ :: _, _ :: _, h => by rw [List.zip_cons_cons, List.map_cons, zip_map2 (by simpa using h)]
  | [], _ :: _, h => by simp at h
  | _ :: _, [], h => by simp at h
theorem zip_map1 {α β : Type} : ∀ {xs : List α} {ys : List β}, xs.length = ys.length → (xs.zip ys).map (fun p => p.1) = xs
  | [], [], _ => rfl
  | _ :: _, _ :: _, h => by rw [List.zip_cons_cons, List.map_cons, zip_map1 (by simpa using h)]
  | [], _ :: _, h => by simp at h
  | _ :: _, [], h => by simp at h
section
variable {X : Cx} {x : Str} {p apos cpos pos : Pos} {e : Expr} {td : TE}
end
end
end Zj
namespace Zj
open PySem L2
section
variable {I : DkI} {K : PySem.W.Frag}
/-! ### over data -/
def itemD (p : Key × PyData) : PyData := .tuple [keyD p.1, p.2]
def aSortItems (T : AE) : AE := fun ρ Φ => T ρ fun r => ∃ kvs, r = .d (kvD kvs) ∧ (∀ p ∈ kvs, ∀ q ∈ kvs, PySem.W.alike (itemD p) (itemD q) = true) ∧ (∀ p ∈ kvs, p.2.hasDict = false ∧ p.2.depth ≤ 40) ∧
  ∀ zs : List (Key × PyData), zs.Perm kvs → zs.Pairwise (fun a b => PySem.W.dataLe false itemD a b = true) → Φ (.l (zs.map itemD))
end
end Zj
namespace Zj
open PySem L2
section
variable {X : Cx}
/-- what a statement leaves at d is known from then on -/
def tFrzS (t : TS) : TS := fun D σ H => t { D with nx := fun σ' H' => ∃ d u, H' d = some u ∧ Mut (some u) ∧ ∀ od, D.nx σ' (upd H' d (.frz od u)) } σ H
theorem ps_frzS {st : Stmt} {t : TS} (h : PS X st t) : PS X st (tFrzS t) := by
  refine ⟨fun pins s σ H D I hw => ?_⟩
  refine thn (h.run pins s σ H _ I hw) fun f s1 q => ?_
  cases f with
  | next =>
    obtain ⟨σ', H', I2, d, u, hd, mu, q⟩ := q
    obtain ⟨od, I3⟩ := I2.lock hd mu
    exact ⟨σ', _, I3, q od⟩
  | brk => exact q
  | cont => exact q
  | ret v => exact q
end
section
variable {I : DkI} {K : PySem.W.Frag}
/-- a or b, a a list -/
def aOrL (T U : AE) : AE := fun ρ Φ => T ρ fun r => ∃ xs, listOf r = some xs ∧ if xs.isEmpty = true then U ρ Φ else Φ r
/-- one turn: d[t[0]] = d.get(t[0], t[1]) -/
def stepO (acc : List (Key × PyData)) (p : Key × PyData) : List (Key × PyData) := putD acc p.1 ((findK acc p.1).getD p.2)
/-- x = dict(t); for y in u: x[y[0]] = x.get(y[0], y[1]) -/
def aOdict (i j : Nat) (T U : AE) (W : ATS) : ATS := fun Φ ρ => i < ρ.length ∧ j < ρ.length ∧ noOwnB ((ρ[i]?).getD none) = true ∧ T ρ fun r => ∃ xs kvs0, listOf r = some xs ∧ pairsD xs = some kvs0 ∧
  ∀ p : Addr, U (ρ.set i (some (.fn p))) fun r2 => ∃ ys its, r2 = .d (.tuple ys) ∧ pairsD ys = some its ∧ (mergeD [] kvs0).length + its.length ≤ sizeLine ∧ W Φ ((ρ.set j none).set i (some (.d (kvD (its.foldl stepO (mergeD [] kvs0))))))
theorem Dv.offK {O : Addr → Prop} {H : Hp} {p : Addr} {us : List (Key × V)} {v : V} {d : PyData} (h : Dv K O H v d) (hp : H p = some (.dK us)) : Dv K (fun b => O b ∨ b = p) H v d := by
  refine Dv.map (fun a xs h => ⟨fun z => ?fl, h.2⟩) (fun a xs h => ⟨h.1, h.2.1, ?ft⟩) (fun a kvs h => ⟨fun z => ?fd, h.2⟩) _ _ h
  case fl =>
    rcases z with z | e
    · exact h.1 z
    · have q := h.2
      rw [e, hp] at q
      cases q
  case ft =>
    obtain ⟨h1, p1, h2 | h2⟩ := h
    · by_cases e : a = p
      · refine .inr fun H' => ⟨.inr ?_, .inr ?_⟩
        · rcases h1 with (q | ⟨o, q⟩) | h1
          · rw [e, hp] at q; cases q
          · rw [e, hp] at q; cases q
          · exact h1
        · rcases p1 with ⟨o, q, _⟩ | p1
          · rw [e, hp] at q; cases q
          · exact p1
      · exact .inl fun z => z.elim h2 e
    · exact .inr h2
  case fd =>
    rcases z with z | e
    · exact h.1 z
    · obtain ⟨od, q⟩ := h.2
      rw [e, hp] at q
      cases q
theorem KvR.offK {O : Addr → Prop} {H : Hp} {p : Addr} {us : List (Key × V)} {vs : List (Key × V)} {kvs : List (Key × PyData)} (h : KvR K O H vs kvs) (hp : H p = some (.dK us)) : KvR K (fun b => O b ∨ b = p) H vs kvs := by
  induction h with
  | nil => exact .nil
  | cons h1 _ ih => exact .cons (h1.offK hp) ih
theorem KvR.fresh {O O' : Addr → Prop} {H : Hp} {p : Addr} {vs : List (Key × V)} {kvs : List (Key × PyData)} (h : KvR K O H vs kvs) (f : H p = none) (w : ∀ b, O' b → O b ∨ b = p) : KvR K O' H vs kvs := by
  induction h with
  | nil => exact .nil
  | cons h1 _ ih => exact .cons (h1.fresh f w) ih
theorem KvR.at {O : Addr → Prop} {H : Hp} {vs : List (Key × V)} {kvs : List (Key × PyData)} (h : KvR K O H vs kvs) : ∀ {m : Nat} {p : Key × PyData}, kvs[m]? = some p → ∃ v, vs[m]? = some (p.1, v) ∧ Dv K O H v p.2 := by
  induction h with
  | nil => intro m p e; simp at e
  | @cons k v d vs ds h1 _ ih =>
    intro m p e
    cases m with
    | zero => cases Option.some.inj e; exact ⟨v, rfl, h1⟩
    | succ m => exact ih (m := m) (by simpa using e)
end
end Zj

namespace Zj
open PySem L2
/-! # exceptions over data: what leaves a def is told by its class and its thing -/
abbrev XPost := Value → PyData → Prop
section
variable {I : DkI} {K : PySem.W.Frag}
/-- the own dict of an error holds a datum as its thing -/
def ThingAt (K : PySem.W.Frag) (O : Addr → Prop) (H : Hp) (d : Addr) (x : PyData) : Prop := ∃ v, H d = some (.xd [(("thing" : Str), v)]) ∧ Dv K O H v x
def XOk (G : Gh I) (B : Hp) (Ψ : XPost) (W : WX) (σ : L2.St) : Prop := ∀ cls x d H', Ext G.W B H' → G.dok H' → ThingAt K G.O H' d x → Ψ cls x → W cls (some d) σ H'
abbrev FnTX := List AV → (R → Prop) → XPost → Prop
def spX (n : Nat) (K : PySem.W.Frag) (I : DkI) (T : FnTX) : Sp := fun vs H Q E => ∃ (G : Gh I) (as : List AV) (Φ : R → Prop) (Ψ : XPost), G.H0 = H ∧ (G.Ok ∧ (∀ a, G.O a → ∃ o, H a = some o) ∧ G.dok H) ∧ as.length = n ∧ ArgAll K G H as vs ∧ T as Φ Ψ ∧
  (∀ r v H', Ext G.W H H' → G.dok H' → RvC K G H' v r → Φ r → Q v H') ∧ ∀ cls x d H', Ext G.W H H' → G.dok H' → ThingAt K G.O H' d x → Ψ cls x → E cls (some d) H'
variable (I K) in
def EAX (Ψ : XPost) (W : WX) (t : TE) (T : AE) : Prop := ∀ (G : Gh I) (B : Hp) (ad : Nat → Addr) (ρ : ASt) (σ : L2.St) (H : Hp) (Φ : R → Prop) (Q : VK), Ext G.W B H → XOk (K := K) G B Ψ W σ → Con K G ad ρ σ H → T ρ Φ →
  (∀ r v H', Ext G.W H H' → G.dok H' → Rv K G ad ρ H H' v r → Φ r → Q v H') → t σ H Q
variable (I K) in
def SAX (Ψ : XPost) (E : XK) (t : TS) (T : ATS) : Prop := ∀ (G : Gh I) (ad : Nat → Addr) (ρ : ASt) (σ : L2.St) (H : Hp) (Φ : AEnds) (D : Ends), XOk (K := K) G G.H0 Ψ (fun c d _ H => E c d H) σ → Con K G ad ρ σ H → T Φ ρ → EOk K G ad ρ H Φ D → t D σ H
variable {Ψ : XPost} {W : WX} {E : XK}
theorem EA.x {t : TE} {T : AE} (a : EA I K t T) : EAX I K Ψ W t T := fun G _ ad ρ σ H Φ Q _ _ C h k => a G ad ρ σ H Φ Q C h k
theorem SA.x {t : TS} {T : ATS} (a : SA I K t T) : SAX I K Ψ E t T := fun G ad ρ σ H Φ D _ C h k => a G ad ρ σ H Φ D C h k
/-- a call that may raise -/
def aCallX (T : FnTX) (ms : List Md) (U : AA) (Ψ : XPost) : AE := fun ρ Φ => U ρ fun rs => match asArgs ms rs with
  | some as => T as Φ Ψ
  | none => False
theorem EAX.at {t : TE} {T : AE} (a : EAX I K Ψ W t T) {G : Gh I} {B : Hp} {ad : Nat → Addr} {ρ : ASt} {σ : L2.St} {H0 H : Hp} {Φ : R → Prop} {Q : VK} (eB : Ext G.W B H) (xx : XOk (K := K) G B Ψ W σ) (A : At K G ad ρ σ H0 H) (h : T ρ Φ)
    (k : ∀ r v H', Ext G.W H H' → G.dok H' → Rv K G ad ρ H0 H' v r → Φ r → Q v H') : t σ H Q := a G B ad ρ σ H Φ Q eB xx A.con h fun r v H' e k' v' h' => k r v H' e k' (v'.base A.e A.k) h'
/-- raise C(thing) -/
def xRaise (C : Addr) (U : AA) (Ψ : XPost) : ATS := fun _ ρ => U ρ fun rs => match dataAll rs with
  | some [x] => Ψ (.ref C) x
  | _ => False
end
end Zj

namespace Zj
open PySem PySem.W PySem.Spec PySem.Calls PyProof.Rows
section
variable {prog : Program} {wd : World} {Ar : Around} {Ex : Value → Shared → Prop} {sh : Shared} {Fr : PySem.W.Frag} {er Dc : Addr} {oo : Obj} {og : Option Obj}
end
end Zj
namespace Zj
open PySem PySem.Spec PyProof.Rows L2
section
variable {X : Cx} {a D : Addr} {oe : Obj} {pn : List (Addr × Obj)} {dx : Addr}
end
end Zj

namespace Zj
open PySem PySem.Spec PyProof.Rows L2
section
variable {X : Cx} {n : Str} {i : Nat} {body suite : List Stmt} {b₀ : Stmt} {pos pos' : Pos} {tb : WX → TS} {ts : Addr → Value → Option Addr → TS} {Wout : WX} {test : Expr} {cs : List Value}
end
end Zj
namespace Zj
open PySem PySem.Spec PyProof.Rows L2
section
variable {X : Cx} {CX : CXT} {k : Nat} {f : Addr} {fd : FuncData} {ps ks : List Str} {sp : Sp} {E : L2.St → XK} {x : Str} {p pos : Pos} {kws : List Keyword} {tk : TA}
end
section
variable {I : DkI} {K : PySem.W.Frag} {Ψ : XPost} {W : WX}
end
end Zj
namespace Zj
open PySem PySem.Spec L2
section
variable {I : DkI} {K : PySem.W.Frag} {G : Gh I} {ad : Nat → Addr} {ρ : ASt} {σ : L2.St} {H : Hp}
variable {Ψ : XPost} {W : WX}
def keepI (i : Nat) (Φ : AEnds) : AEnds := ⟨fun ρ => ρ[i]? = some none ∧ Φ.nx ρ, Φ.rt, fun ρ => ρ[i]? = some none ∧ Φ.bk ρ, fun ρ => ρ[i]? = some none ∧ Φ.ct ρ⟩
def aTry (K : PySem.W.Frag) (cs : List Value) (i : Nat) (T : XPost → ATS) (U : Value → PyData → ATS) : ATS := fun Φ ρ => ρ[i]? = some none ∧ ρ.all noOwnB = true ∧ T (fun cls x => PySem.W.exmAny K cls cs = some true ∧ U cls x (keepI i Φ) ρ) Φ ρ
end
end Zj
namespace Zj
open PySem PySem.Spec L2
section
variable {I : DkI} {K : PySem.W.Frag} {i a d : Addr} {x : PyData}
def aGiven (j : Nat) (x : PyData) : ATS := fun Φ ρ => onP (aPut j (.d x) ρ) Φ.nx
end
end Zj
namespace Zj
open PySem PySem.Spec PyProof.Rows L2
theorem spX.len {I : DkI} {K : PySem.W.Frag} {T : FnTX} {n : Nat} {vs : List V} {H : Hp} {Q : VK} {E : XK} (hs : spX n K I T vs H Q E) : vs.length = n := by
  obtain ⟨G, as, Φ, Ψ, _, _, hn, ha, _⟩ := hs
  rw [ha.len, hn]
def aPick (C : Addr) (T U : ATS) (cls : Value) : ATS := fun Φ ρ => if cls = .ref C then T Φ ρ else U Φ ρ
def aNone : ATS := fun _ _ => False
end Zj
namespace Zj
open PySem PySem.Spec PyProof.Rows L2
section
variable {X : Cx} {n : Str} {i : Nat} {body suite : List Stmt} {b₀ : Stmt} {pos pos' : Pos} {tb : WX → TS} {Wout : WX} {test : Expr} {cs : List Value} {C1 C2 : Addr} {t1 t2 : Addr → Addr → TS}
end
section
variable {I : DkI} {K : PySem.W.Frag} {cs : List Value} {i : Nat} {tb : WX → TS} {T : XPost → ATS} {Wout : WX} {C1 C2 : Addr} {t1 t2 : Addr → Addr → TS} {U1 U2 : PyData → ATS}
end
end Zj

namespace Zj
open PySem PySem.Spec PyProof.Rows L2
mutual
def onlyE : PyData → Bool
  | .dict kvs => kvs.isEmpty
  | .list xs => onlyEs xs
  | .tuple xs => onlyEs xs
  | _ => true
def onlyEs : List PyData → Bool
  | [] => true
  | x :: xs => onlyE x && onlyEs xs
end
section
variable {X : Cx} {pins : List (Addr × Obj)} {σ : L2.St} {H : Hp} {s : Shared} {O : Addr → Prop}
theorem dkE (iv : Inv X pins σ H s) {a : Addr} {kvs : List (Key × V)} {ds : List PyData} (h1 : DkO O H a kvs) (h2 : DvAll X.K O H (kvs.map fun p => p.2) ds) (e : onlyE (.dict ((kvs.map fun p => keyD p.1).zip ds)) = true) :
    (kvs.map fun p => keyD p.1).zip ds = [] ∧ (a == sysModules) = false ∧ ∃ o es ep, s.heap.get? a = some o ∧ o.cls = .type "dict" ∧ o.data = .dict es ep ∧ es.toList = [] := by
  obtain ⟨od, h1⟩ := h1.2
  obtain ⟨get, _, ne, vs, kv, o, es, ep, ho, ex, hd, _, prs, _⟩ := (iv.hok a _ h1 : ObjOk X.prog X.w H s.heap a (.frz od (.dK kvs)))
  unfold onlyE at e
  have hk : kvs = [] := by
    cases kvs with
    | nil => rfl
    | cons p ps =>
      cases ds with
      | nil => cases h2
      | cons d ds => cases e
  subst hk
  cases kv
  refine ⟨rfl, ne, o, es, ep, ho, ex.1, hd, ?_⟩
  cases h : es.toList with
  | nil => rfl
  | cons x xs => rw [h] at prs; cases prs
mutual
theorem Dv.reads0 (iv : Inv X pins σ H s) : ∀ {v : V} {d : PyData}, Dv X.K O H v d → onlyE d = true → ∀ u, RelV v u → ∃ as, Reads s.heap u d as
  | _, _, .non, _, u, r => by cases r; exact ⟨_, .none⟩
  | _, _, .bl b, _, u, r => by cases r; exact ⟨_, .bool b⟩
  | _, _, .int i, _, u, r => by obtain ⟨t, rfl⟩ := r; exact ⟨_, .int i t⟩
  | _, _, .str x, _, u, r => by obtain ⟨t, rfl⟩ := r; exact ⟨_, .str x t⟩
  | _, _, .lst (a := a) h1 h2, e, u, r => by
    cases r
    obtain ⟨_, its, n, rv, get⟩ := (iv.hok a _ h1.2 : ObjOk X.prog X.w H s.heap a (.lst _))
    obtain ⟨as, q⟩ := DvAll.reads0 iv h2 (by unfold onlyE at e; exact e) its rv
    exact ⟨_, .list get rfl rfl (by simpa using q)⟩
  | _, _, .tup (a := a) h1 h2, e, u, r => by
    cases r
    obtain ⟨its, rv, ⟨o, ho, hc, n, hd⟩, _⟩ := iv.tuple h1.1
    obtain ⟨as, q⟩ := DvAll.reads0 iv h2 (by unfold onlyE at e; exact e) its rv
    exact ⟨_, .tuple ho hc hd (by simpa using q)⟩
  | _, _, .dic h1 h2, e, u, r => by
    cases r
    obtain ⟨z, _, o, es, ep, ho, hc, hd, he⟩ := dkE iv h1 h2 e
    rw [z]
    exact ⟨_, .dict (as := []) (bs := []) ho hc hd (by rw [he]; exact .nil) (by rw [he]; exact .nil)⟩
theorem DvAll.reads0 (iv : Inv X pins σ H s) : ∀ {vs : List V} {ds : List PyData}, DvAll X.K O H vs ds → onlyEs ds = true → ∀ us, Vals vs us → ∃ as, ReadsAll s.heap us ds as
  | _, _, .nil, _, us, r => by cases r; exact ⟨_, .nil⟩
  | _, _, .cons h1 h2, e, us, r => by
    unfold onlyEs at e
    rw [Bool.and_eq_true] at e
    match us, r with
    | _ :: _, .cons r1 r2 =>
      obtain ⟨as, q1⟩ := Dv.reads0 iv h1 e.1 _ r1
      obtain ⟨bs, q2⟩ := DvAll.reads0 iv h2 e.2 _ r2
      exact ⟨_, .cons q1 q2⟩
end
mutual
theorem Dv.rk (iv : Inv X pins σ H s) : ∀ {v : V} {d : PyData}, Dv X.K O H v d → onlyE d = true → d.showable = true → d.shown.length ≤ sizeLine → ∀ u, RelV v u → ∃ bs, ReadAtMost s.heap d.depth bs ∧ ReprK X.prog X.w bs s.heap d.depth u d.shown
  | _, _, .non, _, _, _, u, r => by cases r; exact ⟨[], (fun _ h => nomatch h), by simp only [PyData.shown]; exact .of_is ReprIs.none _ _ _⟩
  | _, _, .bl b, _, _, _, u, r => by cases r; exact ⟨[], (fun _ h => nomatch h), by simp only [PyData.shown]; exact .of_is (ReprIs.bool b) _ _ _⟩
  | _, _, .int i, _, sw, _, u, r => by obtain ⟨t, rfl⟩ := r; exact ⟨[], (fun _ h => nomatch h), by simp only [PyData.shown]; exact .of_is (ReprIs.int t (by simpa [PyData.showable] using sw)) _ _ _⟩
  | _, _, .str x, _, _, z, u, r => by obtain ⟨t, rfl⟩ := r; exact ⟨[], (fun _ h => nomatch h), by simp only [PyData.shown]; exact .of_is (ReprIs.str x t (by simpa only [PyData.shown] using z)) _ _ _⟩
  | _, _, .lst (a := a) (ds := ds) h1 h2, e, sw, z, u, r => by
    obtain ⟨as, rd⟩ := (Dv.lst h1 h2).reads0 iv e u r
    cases r
    obtain ⟨_, its, n, rv, get⟩ := (iv.hok a _ h1.2 : ObjOk X.prog X.w H s.heap a (.lst _))
    have z2 : (listText (PyData.shownAll ds)).length ≤ sizeLine := by simpa only [PyData.shown] using z
    obtain ⟨bs, most, all⟩ := DvAll.rk iv h2 (by unfold onlyE at e; exact e) (by simpa [PyData.showable] using sw) (fun t ht => Nat.le_trans (listText_mem_le ht) z2) its rv
    have away := not_mem_of_deeper rd (by simp only [PyData.depth]; omega) most
    refine ⟨a :: bs, ReadAtMost.cons rd (by simp only [PyData.depth]; omega) most, ?_⟩
    simp only [PyData.depth, PyData.shown]
    cases its with
    | nil =>
      generalize PyData.shownAll ds = ts at all
      cases all
      rw [listText_nil]
      exact ReprK.listEmpty get rfl rfl
    | cons y ys => exact ReprK.list get rfl rfl away (by simpa using all.length_eq) (fun i y e => all.item i y (by simpa using e))
  | _, _, .tup (a := a) (ds := ds) h1 h2, e, sw, z, u, r => by
    obtain ⟨as, rd⟩ := (Dv.tup h1 h2).reads0 iv e u r
    cases r
    obtain ⟨its, rv, ⟨o, ho, hc, n, hd⟩, _⟩ := iv.tuple h1.1
    have z2 : (tupleText (PyData.shownAll ds)).length ≤ sizeLine := by simpa only [PyData.shown] using z
    obtain ⟨bs, most, all⟩ := DvAll.rk iv h2 (by unfold onlyE at e; exact e) (by simpa [PyData.showable] using sw) (fun t ht => Nat.le_trans (tupleText_mem_le ht) z2) its rv
    have away := not_mem_of_deeper rd (by simp only [PyData.depth]; omega) most
    refine ⟨a :: bs, ReadAtMost.cons rd (by simp only [PyData.depth]; omega) most, ?_⟩
    simp only [PyData.depth, PyData.shown]
    exact ReprK.tuple ho hc hd away (by simpa using all)
  | _, _, .dic (a := a) h1 h2, e, sw, z, u, r => by
    obtain ⟨as, rd⟩ := (Dv.dic h1 h2).reads0 iv e u r
    cases r
    obtain ⟨z1, ne, o, es, ep, ho, hc, hd, he⟩ := dkE iv h1 h2 e
    rw [z1] at rd ⊢
    refine ⟨[a], ReadAtMost.cons rd (n := 0) (Nat.zero_le _) (fun _ h => nomatch h), ?_⟩
    simp only [PyData.depth, PyData.shown]
    exact ReprK.dict ho hc hd ne (fun h => nomatch h) (by rw [he]; exact .nil)
theorem DvAll.rk (iv : Inv X pins σ H s) : ∀ {vs : List V} {ds : List PyData}, DvAll X.K O H vs ds → onlyEs ds = true → PyData.showableAll ds = true → (∀ t ∈ PyData.shownAll ds, t.length ≤ sizeLine) → ∀ us, Vals vs us →
    ∃ bs, ReadAtMost s.heap (PyData.depthAll ds) bs ∧ ReprAllK X.prog X.w bs s.heap (PyData.depthAll ds) us (PyData.shownAll ds)
  | _, _, .nil, _, _, _, us, r => by cases r; exact ⟨[], (fun _ h => nomatch h), by simp only [PyData.shownAll]; exact .nil⟩
  | _, _, .cons (d := d) (ds := ds) h1 h2, e, sw, z, us, r => by
    unfold onlyEs at e
    rw [Bool.and_eq_true] at e
    have sw2 : d.showable = true ∧ PyData.showableAll ds = true := by simpa [PyData.showableAll] using sw
    match us, r with
    | _ :: _, .cons r1 r2 =>
      obtain ⟨as, m1, k1⟩ := Dv.rk iv h1 e.1 sw2.1 (z _ (by simp only [PyData.shownAll]; exact List.mem_cons.mpr (.inl rfl))) _ r1
      obtain ⟨bs, m2, k2⟩ := DvAll.rk iv h2 e.2 sw2.2 (fun t ht => z t (by simp only [PyData.shownAll]; exact List.mem_cons.mpr (.inr ht))) _ r2
      simp only [PyData.depthAll, PyData.shownAll]
      exact ⟨as ++ bs, (m1.mono (Nat.le_max_left _ _)).append (m2.mono (Nat.le_max_right _ _)), .cons ((k1.more fun b hb => List.mem_append.mpr (.inl hb)).level_le (Nat.le_max_left _ _)) (k2.more_le (fun b hb => List.mem_append.mpr (.inr hb)) (Nat.le_max_right _ _))⟩
end
end
end Zj
namespace Zj
open PySem PySem.Spec PyProof.Rows L2
section
variable {X : Cx}
end
end Zj
namespace Zj
open PySem PySem.Spec L2
/-- all that repr asks of a datum that may have {} in it -/
structure RpV (d : PyData) : Prop where
  e : onlyE d = true
  s : d.showable = true
  p : d.depth < 60
  z : d.shown.length ≤ sizeLine
section
variable {I : DkI} {K : PySem.W.Frag}
end
end Zj
namespace Zj
open PySem L2
section
variable {K : PySem.W.Frag}
end
end Zj
namespace Zj
open PySem PySem.Spec PyProof.Rows L2
end Zj

namespace Zj
open PySem PySem.SeqAt
open AutoSeq1 (wpAny_loadPart')
open MeetsSeq MeetsSeq2 MeetsSeq3
theorem dict_eq_declines_str (l : Addr) (dd : Option Addr) (sl : Array (Option Value)) (kvs : Array DictEntry) {ep} (b : Str) (u : Tok) :
    Meets (Builtin.«dict.__eq__» ⟨[.ref l, .str b u], []⟩) (fun _ R s => s.heap.get? l = some { cls := .type "dict", dict := dd, data := .dict kvs ep, slots := sl } ∧ R (.ok (.ret .notImplemented)) s) :=
  .of_wp fun prog w A R s h => by
    obtain ⟨hp, g, d, tk, os⟩ := s; obtain ⟨hl, h⟩ := h; have f1 := F.sub_str_dict
    show wpAny _ _ (Builtin.Dict.dictSlotArgs "__eq__" _ >>= _) _ _ _
    unfold Builtin.Dict.dictSlotArgs
    wp_walk using wpAny_loadPart' hl, wpAny_load hl
    exact ⟨_, rfl, h⟩
theorem str_eq_declines_dict (b : Str) (u : Tok) (l : Addr) (dd : Option Addr) (sl : Array (Option Value)) (kvs : Array DictEntry) {ep} :
    Meets (Builtin.«str.__eq__» ⟨[.str b u, .ref l], []⟩) (fun _ R s => s.heap.get? l = some { cls := .type "dict", dict := dd, data := .dict kvs ep, slots := sl } ∧ R (.ok (.ret .notImplemented)) s) :=
  .of_wp fun prog w A R s h => by
    obtain ⟨hp, g, d, tk, os⟩ := s; obtain ⟨hl, h⟩ := h
    wp_walk using wpAny_loadPart' hl, wpAny_load hl
    exact ⟨_, rfl, h⟩
section
variable {A : Around} {s : Shared}
theorem rc_dict_str {l : Addr} {dd : Option Addr} {sl : Array (Option Value)} {kvs : Array DictEntry} {ep} (b : Str) (u : Tok) (ho : s.heap.get? l = some { cls := .type "dict", dict := dd, data := .dict kvs ep, slots := sl }) (hu : A.units < cLine) : RcAt A s (.ref l) (.str b u) false := fun prog w E Q h =>
  rc_eq_decline_or (k := false) ⟨_, ho, rfl⟩ (typeIs_str s b u) (by decide) F.sub_str_dict F.slot_dict_eq F.slot_str_eq_refl
    (fun _ hq => call_meets F.slot_dict_eq ⟨_, ho, rfl⟩ F.entry_dict_eq (F.args_dict_eq_2 _ _) (dict_eq_declines_str l dd sl kvs b u) ⟨ho, hq⟩)
    (fun _ hq => call_meets F.slot_str_eq_refl (typeIs_str s b u) F.entry_str_eq (F.args_str_eq_2 _ _) (str_eq_declines_dict b u l dd sl kvs) ⟨ho, hq⟩)
    (fun _ hq => wpAny_of_eq (rfl : isSame (.ref l) (.str b u) = pure false) hq) (.inr hu) h
end
end Zj
namespace Zj
open PySem PySem.Spec PyProof.Rows L2
section
variable {X : Cx}
def Thg (K : PySem.W.Frag) (H : Hp) (a : Addr) : Prop := (∃ xs, SqT K H a xs) ∨ (∃ xs, SqL K H a xs) ∨ ∃ od kvs, H a = some (.frz od (.dK kvs))
def rEqX (K : PySem.W.Frag) : R2 := fun x y H Q => ∃ j, y = .str j ∧ ((∃ a, x = .ref a ∧ Thg K H a ∧ Q (.bl false) H) ∨ (scal x y = true ∧ Q (.bl (decide (x = y))) H))
theorem op_eqX (hu : X.A.units < cLine) : OpR X (compareOp .Eq) (rEqX X.K) := by
  intro pins s σ H x y v u Q I rx ry h
  obtain ⟨j, rfl, h | h⟩ := h
  · obtain ⟨a, rfl, h, q⟩ := h
    cases rx
    obtain ⟨t, rfl⟩ := ry
    rcases h with ⟨xs, h⟩ | ⟨xs, h⟩ | ⟨od, kvs, h⟩
    · obtain ⟨its, r, ht, hz⟩ := I.tuple h
      exact SeqAt.RcAt.tuple_str j t ht hu X.prog X.w _ _ ⟨.bl false, H, I, rfl, q⟩
    · obtain ⟨its, r, ht, hz⟩ := I.list h
      exact SeqAt.RcAt.list_str j t ht.isList hu X.prog X.w _ _ ⟨.bl false, H, I, rfl, q⟩
    · obtain ⟨_, _, vs, _, ⟨cls, dd, data, sl⟩, es, ep, h1, h2, h3, _⟩ := dk_rd I.hok (.inr ⟨od, h⟩)
      have h4 := h2.1
      simp only at h3 h4
      subst h3 h4
      exact rc_dict_str j t h1 hu X.prog X.w _ _ ⟨.bl false, H, I, rfl, q⟩
  · exact op_eq pins s σ H _ _ v u Q I rx ry h
end
section
variable {I : DkI} {K : PySem.W.Frag}
/-- whether a datum is this text -/
def eqX : PyData → Str → Bool
  | .str i, j => decide (i = j)
  | _, _ => false
def fEqX : R → R → (R → Prop) → Prop
  | .d x, .d (.str j), Φ => Φ (.d (.bool (eqX x j)))
  | _, _, _ => False
def fNeX : R → R → (R → Prop) → Prop
  | .d x, .d (.str j), Φ => Φ (.d (.bool (!eqX x j)))
  | _, _, _ => False
theorem eqX_of {O : Addr → Prop} {H : Hp} {v : V} {x : PyData} {j : Str} (h : Dv K O H v x) : (∃ a, v = .ref a ∧ Thg K H a ∧ eqX x j = false) ∨ (scal v (.str j) = true ∧ decide (v = .str j) = eqX x j) := by
  cases h with
  | non => exact .inr ⟨rfl, rfl⟩
  | bl b => exact .inr ⟨rfl, by simp [eqX]⟩
  | int i => exact .inr ⟨rfl, by simp [eqX]⟩
  | str i => exact .inr ⟨rfl, by simp [eqX]⟩
  | lst h1 h2 => exact .inl ⟨_, rfl, .inr (.inl ⟨_, SqL.of h1.2⟩), rfl⟩
  | tup h1 h2 => exact .inl ⟨_, rfl, .inl ⟨_, h1.1⟩, rfl⟩
  | dic h1 h2 => exact .inl ⟨_, rfl, .inr (.inr ⟨h1.2.choose, _, h1.2.choose_spec⟩), rfl⟩
theorem oa_eqX : OpA I K (rEqX K) fEqX := fun G ad ρ σ H0 H x y rx ry Φ Q a vx vy h k => by
  match rx, ry, h with
  | .d d, .d (.str j), h =>
    cases (vy : Dv K _ H y (.str j))
    refine ⟨j, rfl, ?_⟩
    rcases eqX_of (j := j) (vx : Dv K _ H x d) with ⟨b, e, th, q⟩ | ⟨sc, q⟩
    · exact .inl ⟨b, e, th, k (.d _) _ _ (Ext.refl _) a.k (Dv.bl false) (by rw [← q]; exact h)⟩
    · exact .inr ⟨sc, k (.d _) _ _ (Ext.refl _) a.k (by rw [q]; exact Dv.bl _) h⟩
def fSlX : R → Option Int → Option Int → (R → Prop) → Prop
  | .d (.tuple xs), lo, hi, Φ => Φ (.d (.tuple (cutD xs lo hi)))
  | .d (.str z), lo, hi, Φ => z.length ≤ sizeLine ∧ Φ (.d (.str (cutS z lo hi)))
  | _, _, _, _ => False
end
end Zj

namespace Zj
open PySem L2
/-- X: the object's own places; F: the places of the data in its fields; s: its state -/
structure MJ {S : Type} (J : (Addr → Prop) → (Addr → Prop) → S → DkI) : Prop where
  kx : ∀ {X F s d l b}, (J X F s).keep d l b ↔ X b ∨ F b
  df : ∀ {X F s d l b}, (J X F s).data d l b ↔ F b
  dl : ∀ {X F s d l H}, (J X F s).inv d l H → X d
def OwM (O : Addr → Prop) (ad : Nat → Addr) (ρ : ASt) (b : Addr) : Prop := O b ∨ ∃ i, ownAt ρ i ∧ b = ad i
structure StM (O : Addr → Prop) (ad : Nat → Addr) (ρ : ASt) (H : Hp) (ad' : Nat → Addr) (ρ' : ASt) (H' : Hp) : Prop where
  pres : ∀ b o, ¬ OwM O ad ρ b → H b = some o → H' b = some o
  own : ∀ i, ownAt ρ' i → (∃ j, ownAt ρ j ∧ ad' i = ad j) ∨ H (ad' i) = none
  live : ∀ b, (∃ o, H b = some o) → ∃ o, H' b = some o
section
variable {K : PySem.W.Frag} {O : Addr → Prop} {ad ad' ad2 : Nat → Addr} {ρ ρ' ρ2 : ASt} {H H' H2 : Hp}
theorem StM.refl : StM O ad ρ H ad ρ H := ⟨fun _ _ _ h => h, fun i h => .inl ⟨i, h, rfl⟩, fun _ h => h⟩
theorem StM.notO (s : StM O ad ρ H ad' ρ' H') {b : Addr} {o : HO} (h : H b = some o) (n : ¬ OwM O ad ρ b) : ¬ OwM O ad' ρ' b := by
  rintro (w | ⟨i, hi, rfl⟩)
  · exact n (.inl w)
  · rcases s.own i hi with ⟨j, hj, e⟩ | e
    · exact n (.inr ⟨j, hj, e⟩)
    · rw [h] at e; cases e
theorem StM.trans (s : StM O ad ρ H ad' ρ' H') (t : StM O ad' ρ' H' ad2 ρ2 H2) : StM O ad ρ H ad2 ρ2 H2 where
  pres := fun b o n h => t.pres b o (s.notO h n) (s.pres b o n h)
  own := fun i hi => by
    rcases t.own i hi with ⟨j, hj, e⟩ | e
    · rw [e]
      exact s.own j hj
    · refine .inr ?_
      cases q : H (ad2 i) with
      | none => rfl
      | some o =>
        obtain ⟨u, z⟩ := s.live _ ⟨o, q⟩
        rw [e] at z
        cases z
  live := fun b h => t.live b (s.live b h)
theorem StM.ofD (h : ∀ k, ownAt ρ' k → ownAt ρ k) : StM O ad ρ H ad ρ' H := ⟨fun _ _ _ h => h, fun i hi => .inl ⟨i, h i hi, rfl⟩, fun _ h => h⟩
theorem SqTo.stM (s : StM O ad ρ H ad' ρ' H') {a : Addr} {xs : List V} (h : SqTo K (OwM O ad ρ) H a xs) : SqTo K (OwM O ad' ρ') H' a xs := by
  rcases h with ⟨h1, p1, h2 | h2⟩
  · have pr : ∀ o, H a = some o → H' a = some o := fun o e => s.pres _ _ h2 e
    have p2 : PlT K H' a xs := by
      rcases p1 with ⟨o, e, d⟩ | p1
      · exact .inl ⟨o, pr _ e, d⟩
      · exact .inr p1
    rcases h1 with h1 | h1
    · obtain ⟨o, e⟩ := rd_some h1
      refine ⟨.inl ?_, p2, .inl (s.notO e h2)⟩
      rcases h1 with h1 | ⟨o, h1⟩
      · exact .inl (pr _ h1)
      · exact .inr ⟨o, pr _ h1⟩
    · rcases p1 with ⟨o, e, _⟩ | p1
      · exact ⟨.inr h1, p2, .inl (s.notO e h2)⟩
      · exact ⟨.inr h1, p2, .inr fun _ => ⟨.inr h1, .inr p1⟩⟩
  · exact ⟨(h2 H').1, (h2 H').2, .inr h2⟩
theorem DvAll.stM (s : StM O ad ρ H ad' ρ' H') {v : List V} {x : List PyData} (h : DvAll K (OwM O ad ρ) H v x) : DvAll K (OwM O ad' ρ') H' v x :=
  DvAll.map (fun a xs h => ⟨s.notO h.2 h.1, s.pres _ _ h.1 h.2⟩) (fun a xs h => h.stM s) (fun a kvs h => h.2.elim fun od e => ⟨s.notO e h.1, od, s.pres _ _ h.1 e⟩) _ _ h
end
def gM {S : Type} (J : (Addr → Prop) → (Addr → Prop) → S → DkI) (X F : Addr → Prop) (s : S) (H0 : Hp) (O : Addr → Prop) (a : Addr) : Gh (J X F s) := ⟨H0, O, some (a, a)⟩
structure ConM {S : Type} (J : (Addr → Prop) → (Addr → Prop) → S → DkI) (K : PySem.W.Frag) (O X : Addr → Prop) (B : Hp) (a : Addr) (F : Addr → Prop) (s : S) (ad : Nat → Addr) (ρ : ASt) (σ : L2.St) (H : Hp) : Prop where
  c : ∃ H0, Con K (gM J X F s H0 O a) ad ρ σ H ∧ Ext X B H0
  xo : ∀ b, X b → O b
  nb : ρ.all noBl = true
  frB : ∀ i, ownAt ρ i → B (ad i) = none
structure AEndsM (S : Type) where
  nx : S → ASt → Prop
  rt : S → PyData → Prop
  bk : S → ASt → Prop := fun _ _ => False
  ct : S → ASt → Prop := fun _ _ => False
abbrev FnTM (S : Type) := S → List AV → (PyData → S → Prop) → Prop
def spM {S : Type} (J : (Addr → Prop) → (Addr → Prop) → S → DkI) (n : Nat) (K : PySem.W.Frag) (T : FnTM S) : Sp := fun vs H Q _ => ∃ (O X F : Addr → Prop) (a : Addr) (s : S) (as : List AV) (Φ : PyData → S → Prop), (∀ b, O b → ∃ o, H b = some o) ∧ (∀ b, X b → O b) ∧ (J X F s).inv a a H ∧ (∀ b, F b → ¬ O b) ∧
  as.length = n ∧ (as.map some).all noBl = true ∧ ArgAll K (gM J X F s H O a) H as vs ∧ T s as Φ ∧ ∀ x v s' F' H', Ext X H H' → (J X F' s').inv a a H' → (∀ b, F' b → ¬ O b) → Dv K O H' v x → Φ x s' → Q v H'
/-- a method that only reads -/
def spR {S : Type} (J : (Addr → Prop) → (Addr → Prop) → S → DkI) (n : Nat) (K : PySem.W.Frag) (T : S → FnT) : Sp := fun vs H Q E => ∃ X F s, spA n K (J X F s) (T s) vs H Q E
section
variable {S : Type} {J : (Addr → Prop) → (Addr → Prop) → S → DkI} {K : PySem.W.Frag} {O X F F' : Addr → Prop} {B H H' : Hp} {a : Addr} {s s' : S} {ad ad' : Nat → Addr} {ρ ρ' : ASt} {σ σ' : L2.St}
structure EOkM (J : (Addr → Prop) → (Addr → Prop) → S → DkI) (K : PySem.W.Frag) (O X : Addr → Prop) (B : Hp) (a : Addr) (ad : Nat → Addr) (ρ : ASt) (H : Hp) (Φ : AEndsM S) (D : Ends) : Prop where
  nx : ∀ ad' ρ' σ' H' s' F', ConM J K O X B a F' s' ad' ρ' σ' H' → StM O ad ρ H ad' ρ' H' → Φ.nx s' ρ' → D.nx σ' H'
  bk : ∀ ad' ρ' σ' H' s' F', ConM J K O X B a F' s' ad' ρ' σ' H' → StM O ad ρ H ad' ρ' H' → Φ.bk s' ρ' → D.bk σ' H'
  ct : ∀ ad' ρ' σ' H' s' F', ConM J K O X B a F' s' ad' ρ' σ' H' → StM O ad ρ H ad' ρ' H' → Φ.ct s' ρ' → D.ct σ' H'
  rt : ∀ x v s' F' H', Ext X B H' → (J X F' s').inv a a H' → (∀ b, F' b → ¬ O b) → Dv K O H' v x → Φ.rt s' x → D.rt v H'
theorem EOkM.step {ad2 : Nat → Addr} {ρ2 : ASt} {H2 : Hp} {Φ : AEndsM S} {D : Ends} (k : EOkM J K O X B a ad ρ H Φ D) (t : StM O ad ρ H ad2 ρ2 H2) : EOkM J K O X B a ad2 ρ2 H2 Φ D :=
  ⟨fun _ _ _ _ _ _ c u p => k.nx _ _ _ _ _ _ c (t.trans u) p, fun _ _ _ _ _ _ c u p => k.bk _ _ _ _ _ _ c (t.trans u) p, fun _ _ _ _ _ _ c u p => k.ct _ _ _ _ _ _ c (t.trans u) p, k.rt⟩
theorem wM {hJ : MJ J} {H0 : Hp} (ok : (J X F s).inv a a H) {b : Addr} (w : (gM J X F s H0 O a).W b) : X b := by
  obtain ⟨p, e, z⟩ := w
  cases Option.some.inj e
  rcases z with rfl | rfl <;> exact hJ.dl ok
theorem ConM.iv (C : ConM J K O X B a F s ad ρ σ H) : (J X F s).inv a a H := by
  obtain ⟨⟨H0, c, _⟩, _⟩ := C
  exact c.dok (a, a) rfl
theorem ConM.nF (hJ : MJ J) (C : ConM J K O X B a F s ad ρ σ H) : ∀ b, F b → ¬ OwM O ad ρ b := by
  obtain ⟨⟨H0, c, _⟩, _⟩ := C
  intro b f
  have y := c.ok.dp (a, a) b rfl (hJ.df.mpr f)
  rintro (z | ⟨i, hi, e⟩)
  · exact y.1 z
  · have := y.2
    rw [e, c.fr i hi] at this
    obtain ⟨_, x⟩ := this
    cases x
theorem ConM.ext (hJ : MJ J) (C : ConM J K O X B a F s ad ρ σ H) : Ext X B H := by
  obtain ⟨⟨H0, c, e⟩, _⟩ := C
  exact e.trans (c.ext.mono fun b w => wM (hJ := hJ) (c.dok (a, a) rfl) w)
/-- the object has changed -/
theorem ConM.step (hJ : MJ J) (C : ConM J K O X B a F s ad ρ σ H) (e : Ext X H H') (iv : (J X F' s').inv a a H') (nF : ∀ b, F' b → ¬ OwM O ad ρ b) : ConM J K O X B a F' s' ad ρ σ H' := by
  have eB := C.ext hJ
  obtain ⟨⟨H0, c, _⟩, xo, nb, frB⟩ := C
  have lx : ∀ b, X b → ∃ o, H' b = some o := fun b x => (J X F' s').kl iv (hJ.kx.mpr (.inl x))
  have lF : ∀ b, F' b → ∃ o, H' b = some o := fun b x => (J X F' s').kl iv (hJ.kx.mpr (.inr x))
  have lv : ∀ b, (∃ o, H b = some o) → ∃ o, H' b = some o := fun b ⟨o, q⟩ => by
    by_cases x : X b
    · exact lx b x
    · exact ⟨o, e _ _ x q⟩
  classical
  have hz : ∀ b, (∃ i, ownAt ρ i ∧ b = ad i) → (if (∃ i, ownAt ρ i ∧ b = ad i) then none else H' b) = none := fun b z => if_pos z
  have hn : ∀ b, ¬ (∃ i, ownAt ρ i ∧ b = ad i) → (if (∃ i, ownAt ρ i ∧ b = ad i) then none else H' b) = H' b := fun b z => if_neg z
  have lF0 : ∀ b, F' b → ∃ o, (if (∃ i, ownAt ρ i ∧ b = ad i) then none else H' b) = some o := fun b f => by
    rw [hn b fun z => nF b f (.inr z)]
    exact lF b f
  refine ⟨⟨fun b => if (∃ i, ownAt ρ i ∧ b = ad i) then none else H' b, ⟨⟨fun b w => c.ok.wo b w, fun p b q z => ?_, fun p b q z => ?_⟩, fun h => lv _ (c.live h), fun h => c.ownO h, fun p q => ?_, fun b o _ q => ?_, c.len, fun i => ?_, c.inj, fun i hi => hz _ ⟨i, hi, rfl⟩⟩, fun b o nx q => ?_⟩, xo, nb, frB⟩
  · rcases hJ.kx.mp z with x | f
    · exact .inl (xo b x)
    · exact .inr (lF0 b f)
  · have f := hJ.df.mp z
    exact ⟨fun o => nF b f (.inl o), lF0 b f⟩
  · cases Option.some.inj q
    exact iv
  · have q : (if (∃ i, ownAt ρ i ∧ b = ad i) then none else H' b) = some o := q
    by_cases z : ∃ i, ownAt ρ i ∧ b = ad i
    · rw [hz b z] at q; cases q
    · rw [hn b z] at q; exact q
  · have t := c.sl i
    cases hav : (ρ[i]?).getD none with
    | none => trivial
    | some av =>
      rw [hav] at t
      have hr : ρ[i]? = some (some av) := by
        cases q : ρ[i]? with
        | none => rw [q] at hav; cases hav
        | some z => rw [q] at hav; exact congrArg some hav
      obtain ⟨v, ev⟩ := sl_some t
      rw [ev] at t ⊢
      have xO : ∀ b, X b → Ow (gM J X F s H0 O a) ad ρ b := fun b x => .inl (xo b x)
      cases av with
      | d x => exact (show Dv K (Ow (gM J X F s H0 O a) ad ρ) H v x from t).ext e xO
      | own xs =>
        obtain ⟨rfl, vs, h1, h2⟩ := t
        exact ⟨rfl, vs, e _ _ (fun x => c.ownO ⟨xs, hr⟩ (xo _ x)) h1, h2.ext e xO⟩
      | bl xs =>
        have := List.all_eq_true.mp nb _ (List.mem_of_getElem? hr)
        cases this
      | dk => exact t
      | fn f => exact t
  · by_cases z : ∃ i, ownAt ρ i ∧ b = ad i
    · obtain ⟨i, hi, rfl⟩ := z
      rw [frB i hi] at q; cases q
    · show (if (∃ i, ownAt ρ i ∧ b = ad i) then none else H' b) = some o
      rw [hn b z]
      exact e _ _ nx (eB _ _ nx q)
theorem ConM.at (C : ConM J K O X B a F s ad ρ σ H) : ∃ H0, Con K (gM J X F s H0 O a) ad ρ σ H ∧ Ext X B H0 := C.c
/-- something is read -/
theorem ConM.to {H0 : Hp} (C : ConM J K O X B a F s ad ρ σ H) (c : Con K (gM J X F s H0 O a) ad ρ σ H) (eB : Ext X B H0) (e : Ext (gM J X F s H0 O a).W H H') (k : (gM J X F s H0 O a).dok H') : ConM J K O X B a F s ad ρ σ H' :=
  ⟨⟨H0, c.to e k, eB⟩, C.xo, C.nb, C.frB⟩
theorem StM.of {H0 : Hp} (c : Con K (gM J X F s H0 O a) ad ρ σ H) (t : Step (gM J X F s H0 O a) ad ρ H ad' ρ' H') : StM O ad ρ H ad' ρ' H' :=
  ⟨fun b o n h => t.pres b o (fun z => n (c.mo z)) h, t.own, t.live⟩
theorem ConM.go (hJ : MJ J) {H0 : Hp} (C : ConM J K O X B a F s ad ρ σ H) (c : Con K (gM J X F s H0 O a) ad ρ σ H) (eB : Ext X B H0) (c' : Con K (gM J X F s H0 O a) ad' ρ' σ' H') (t : Step (gM J X F s H0 O a) ad ρ H ad' ρ' H') (nb : ρ'.all noBl = true) : ConM J K O X B a F s ad' ρ' σ' H' := by
  refine ⟨⟨H0, c', eB⟩, C.xo, nb, fun i hi => ?_⟩
  rcases t.own i hi with ⟨j, hj, e⟩ | e
  · rw [e]; exact C.frB j hj
  · cases q : B (ad' i) with
    | none => rfl
    | some o =>
      by_cases x : X (ad' i)
      · obtain ⟨u, z⟩ := (J X F s).kl C.iv (hJ.kx.mpr (.inl x))
        rw [e] at z; cases z
      · have := (C.ext hJ) _ _ x q
        rw [e] at this; cases this
theorem ConM.put (hJ : MJ J) (C : ConM J K O X B a F s ad ρ σ H) {i : Nat} {v : V} {x : PyData} (h : Dv K (OwM O ad ρ) H v x) : ConM J K O X B a F s ad (ρ.set i (some (.d x))) (σ.set i (some v)) H ∧ StM O ad ρ H ad (ρ.set i (some (.d x))) H := by
  obtain ⟨⟨H0, c, eB⟩, xo, nb, frB⟩ := C
  have ow : ∀ k, ownAt (ρ.set i (some (.d x))) k → ownAt ρ k := fun k hk => own_putN (av := .d x) (fun _ z => nomatch z) hk
  refine ⟨⟨⟨H0, c.putN (av := .d x) (fun _ z => nomatch z) h, eB⟩, xo, ?_, fun j hj => frB j (ow j hj)⟩, StM.ofD ow⟩
  refine List.all_eq_true.mpr fun z hz => ?_
  rcases List.mem_or_eq_of_mem_set hz with q | rfl
  · exact List.all_eq_true.mp nb z q
  · rfl
/-! ### calls -/
theorem spM.len {T : FnTM S} {n : Nat} {vs : List V} {Q : VK} {E : XK} (h : spM J n K T vs H Q E) : vs.length = n := by
  obtain ⟨O, X, F, a, s, as, Φ, _, _, _, _, hn, _, ha, _⟩ := h
  rw [ha.len, hn]
theorem spR.len {T : S → FnT} {n : Nat} {vs : List V} {Q : VK} {E : XK} (h : spR J n K T vs H Q E) : vs.length = n := by
  obtain ⟨X, F, s, h⟩ := h
  exact h.len
/-! ### read: methods, plain defs -/
def noDk : AV → Bool
  | .dk => false
  | _ => true
theorem ArgAll.free {I I' : DkI} {G : Gh I} {G' : Gh I'} {H : Hp} (hO : ∀ b, G'.O b → G.O b) (hW : ∀ b, Gh.W G' b → Gh.W G b) : ∀ {as : List AV} {vs : List V}, ArgAll K G H as vs → as.all noDk = true → ArgAll K G' H as vs
  | _, _, .nil, _ => .nil
  | _, _, .cons h t, n => by
    rw [List.all_cons, Bool.and_eq_true] at n
    refine .cons ?_ (ArgAll.free hO hW t n.2)
    cases h with
    | d h => exact .d (h.weak hO)
    | bl h1 h2 => exact .bl (h1.weak hW) (h2.weak hO)
    | dk h => cases n.1
    | fn f => exact .fn f
end
section
variable {S : Type}
end
end Zj

namespace Zj
open PySem L2
section
variable {K : PySem.W.Frag} {F F' : Addr → Prop} {H H' : Hp}
theorem Dv.fix (e : ∀ b o, F b → H b = some o → H' b = some o) {v : V} {x : PyData} (h : Dv K (fun b => ¬ F b) H v x) : Dv K (fun b => ¬ F b) H' v x :=
  Dv.map (fun a xs h => ⟨h.1, e _ _ (Classical.not_not.mp h.1) h.2⟩) (fun a xs h => by
    rcases h with ⟨h1, p1, h2 | h2⟩
    · have f := Classical.not_not.mp h2
      refine ⟨?_, ?_, .inl h2⟩
      · rcases h1 with (h1 | ⟨o, h1⟩) | h1
        · exact .inl (.inl (e _ _ f h1))
        · exact .inl (.inr ⟨o, e _ _ f h1⟩)
        · exact .inr h1
      · rcases p1 with ⟨o, q, d⟩ | p1
        · exact .inl ⟨o, e _ _ f q, d⟩
        · exact .inr p1
    · exact ⟨(h2 H').1, (h2 H').2, .inr h2⟩) (fun a kvs h => ⟨h.1, h.2.imp fun _ q => e _ _ (Classical.not_not.mp h.1) q⟩) _ _ h
theorem DvAll.fix (e : ∀ b o, F b → H b = some o → H' b = some o) : ∀ {v : List V} {x : List PyData}, DvAll K (fun b => ¬ F b) H v x → DvAll K (fun b => ¬ F b) H' v x
  | _, _, .nil => .nil
  | _, _, .cons h t => .cons (h.fix e) (DvAll.fix e t)
theorem Dv.upF {v : V} {x : PyData} (h : Dv K (fun b => ¬ F b) H v x) (w : ∀ b, F b → F' b) : Dv K (fun b => ¬ F' b) H v x := h.weak fun b n f => n (w b f)
theorem DvAll.upF {v : List V} {x : List PyData} (h : DvAll K (fun b => ¬ F b) H v x) (w : ∀ b, F b → F' b) : DvAll K (fun b => ¬ F' b) H v x := h.weak fun b n f => n (w b f)
end
structure PvS where
  sz : PyData
  gv : PyData
  dc : PyData
  ls : List PyData
  bs : List PyData
/-- a line as the key of a dict -/
def keyO1 : PyData → Key
  | .int i => .inl i
  | .str x => .inr x
  | _ => .inl 0
def keyL : PyData → List Key
  | .tuple xs => xs.map keyO1
  | _ => []
/-- each line with its place -/
def plG : Nat → List PyData → List (List Key × V)
  | _, [] => []
  | n, x :: xs => (keyL x, V.int (n : Int)) :: plG (n + 1) xs
def plV (ls : List PyData) : List (List Key × V) := plG 0 ls
def pvF (vS vG : V) (pL pB pP : Addr) (vD : V) : List (Str × V) := [("sizes", vS), ("given", vG), ("lines", .ref pL), ("bars", .ref pB), ("places", .ref pP), ("decided", vD)]
structure PvH (K : PySem.W.Frag) (CP : Addr) (X F : Addr → Prop) (s : PvS) (a dx pL pB pP : Addr) (vS vG vD : V) (us ws : List V) (H : Hp) : Prop where
  o : H a = some (.ins CP dx (pvF vS vG pL pB pP vD))
  xa : X a
  xL : X pL
  xB : X pB
  xP : X pP
  ne : pL ≠ pB
  dS : Dv K (fun b => ¬ F b) H vS s.sz
  dG : Dv K (fun b => ¬ F b) H vG s.gv
  dD : Dv K (fun b => ¬ F b) H vD s.dc
  hL : H pL = some (.lst us)
  dL : DvAll K (fun b => ¬ F b) H us s.ls
  hB : H pB = some (.lst ws)
  dB : DvAll K (fun b => ¬ F b) H ws s.bs
  hP : H pP = some (.dT (plV s.ls))
  lX : ∀ b, X b → ∃ o, H b = some o
  lF : ∀ b, F b → ∃ o, H b = some o
/-- what of the text the class must have -/
structure PvC (K : PySem.W.Frag) (CP : Addr) : Prop where
  cl : Cls K CP
  ns : NoAttr K CP "sizes"
  ng : NoAttr K CP "given"
  nl : NoAttr K CP "lines"
  nb : NoAttr K CP "bars"
  np : NoAttr K CP "places"
  nd : NoAttr K CP "decided"
section
variable {K : PySem.W.Frag} {CP : Addr} {X F : Addr → Prop} {s : PvS}
variable (C : PvC K CP)
include C
end
/-! ### place_of -/
section
open PySem PySem.Spec PyProof.Rows
end
end Zj

namespace Zj
open PySem L2
section
end
section
variable {I : DkI} {K : PySem.W.Frag}
end
section
variable {S : Type} {J : (Addr → Prop) → (Addr → Prop) → S → DkI} {K : PySem.W.Frag}
end
end Zj

namespace Zj
open PySem L2
structure BkS where
  pL : Addr
  pB : Addr
  pr : PyData
  br : PyData
  ls : List PyData
  bs : List PyData
def bkF (pL pB : Addr) (vP vR : V) : List (Key × V) := [(.inr (Str.ofString "lines"), .ref pL), (.inr (Str.ofString "bars"), .ref pB), (.inr (Str.ofString "problem"), vP), (.inr (Str.ofString "bar"), vR)]
structure BkH (K : PySem.W.Frag) (X F : Addr → Prop) (s : BkS) (a : Addr) (vP vR : V) (us ws : List V) (H : Hp) : Prop where
  o : H a = some (.dK (bkF s.pL s.pB vP vR))
  xa : X a
  xL : X s.pL
  xB : X s.pB
  ne : s.pL ≠ s.pB
  dP : Dv K (fun b => ¬ F b) H vP s.pr
  dR : Dv K (fun b => ¬ F b) H vR s.br
  hL : H s.pL = some (.lst us)
  dL : DvAll K (fun b => ¬ F b) H us s.ls
  hB : H s.pB = some (.lst ws)
  dB : DvAll K (fun b => ¬ F b) H ws s.bs
  lX : ∀ b, X b → ∃ o, H b = some o
  lF : ∀ b, F b → ∃ o, H b = some o
section
variable {K : PySem.W.Frag} {X F : Addr → Prop} {s : BkS}
end
section
variable {K : PySem.W.Frag}
end
section
variable {I : DkI} {K : PySem.W.Frag}
end
section
variable {K : PySem.W.Frag}
end
section
/-- nothing in the slots but data and defs -/
def plainP : Option AV → Bool
  | none => true
  | some (.d _) => true
  | some (.fn _) => true
  | _ => false
theorem plainP_own {ρ : ASt} (h : ρ.all plainP = true) (j : Nat) : ¬ ownAt ρ j := fun ⟨xs, z⟩ => by
  have := List.all_eq_true.mp h _ (List.mem_of_getElem? z)
  cases this
variable {S : Type} {J : (Addr → Prop) → (Addr → Prop) → S → DkI} {K : PySem.W.Frag}
theorem Con.bare {I : DkI} {G : Gh I} {ad : Nat → Addr} {ρ : ASt} {σ : L2.St} {H H' : Hp} {O' : Addr → Prop} (C : Con K G ad ρ σ H) (hpl : ρ.all plainP = true) (lv : ∀ b, O' b → ∃ o, H' b = some o) (o : ∀ b, O' b → Ow G ad ρ b ∨ H b = none) (e : ∀ b u, H b = some u → H' b = some u) : Con K (⟨H', O', none⟩ : Gh I) ad ρ σ H' := by
  have noown := plainP_own hpl
  refine ⟨⟨fun b ⟨_, z, _⟩ => (by cases z), fun _ _ z => (by cases z), fun _ _ z => (by cases z)⟩, fun {b} z => lv b z, fun {j} z => (noown j z).elim, fun _ z => (by cases z), Ext.refl _, C.len, fun j => ?_, fun j _ z => (noown j z).elim, fun j z => (noown j z).elim⟩
  have t := C.sl j
  cases hav : (ρ[j]?).getD none with
  | none => trivial
  | some av =>
    rw [hav] at t
    have hr : ρ[j]? = some (some av) := by
      cases q : ρ[j]? with
      | none => rw [q] at hav; cases hav
      | some z => rw [q] at hav; exact congrArg some hav
    have hp := List.all_eq_true.mp hpl _ (List.mem_of_getElem? hr)
    obtain ⟨v, ev⟩ := sl_some t
    rw [ev] at t ⊢
    cases av with
    | d x =>
      refine Dv.on (O := Ow G ad ρ) (W := fun _ => False) (fun b z => ?_) (fun b u _ q => e b u q) (fun _ z => z.elim) t
      rcases z with z | ⟨m, hm, _⟩
      · exact o b z
      · exact (noown m hm).elim
    | fn f => exact t
    | own _ => cases hp
    | bl _ => cases hp
    | dk => cases hp
/-- an object is made: from here on all is told of it -/
theorem ConM.new {I : DkI} {G : Gh I} {ad : Nat → Addr} {ρ : ASt} {σ : L2.St} {H1 H2 : Hp} {X F : Addr → Prop} {s : S} {x : Addr} {i : Nat} (hJ : MJ J) (C1 : Con K G ad ρ σ H1) (hpl : ρ.all plainP = true) (hi : i < ρ.length) (iv : (J X F s).inv x x H2)
    (x12 : ∀ b o, H1 b = some o → H2 b = some o) (hX1 : ∀ b, X b → H1 b = none) (nF : ∀ b, F b → ¬ Ow G ad ρ b ∧ ¬ X b) : ConM J K (fun b => Ow G ad ρ b ∨ X b) X H2 x F s ad (ρ.set i (some .dk)) (σ.set i (some (.ref x))) H2 := by
  have noown := plainP_own hpl
  have noown2 : ∀ j, ¬ ownAt (ρ.set i (some .dk)) j := fun j ⟨xs, z⟩ => by
    rcases List.mem_or_eq_of_mem_set (List.mem_of_getElem? z) with q | q
    · have := List.all_eq_true.mp hpl _ q
      cases this
    · cases q
  have kx := fun {b} (z : X b) => (J X F s).kl iv (hJ.kx.mpr (.inl z))
  have kf := fun {b} (z : F b) => (J X F s).kl iv (hJ.kx.mpr (.inr z))
  refine ⟨⟨H2, ⟨⟨fun b w => ?_, fun p b q z => ?_, fun p b q z => ?_⟩, fun {b} z => ?_, fun {j} z => (noown2 j z).elim, fun p q => ?_, Ext.refl _, ?_, fun j => ?_, fun j _ z => (noown2 j z).elim, fun j z => (noown2 j z).elim⟩, Ext.refl _⟩, fun b z => .inr z, ?_, fun j z => (noown2 j z).elim⟩
  · exact .inr (wM (hJ := hJ) iv w)
  · cases Option.some.inj q
    exact .inr ((J X F s).kl iv z)
  · cases Option.some.inj q
    have f := hJ.df.mp z
    exact ⟨fun o => o.elim (nF b f).1 (nF b f).2, kf f⟩
  · rcases z with z | z
    · obtain ⟨o, e⟩ := C1.liveO z
      exact ⟨o, x12 _ _ e⟩
    · exact kx z
  · cases Option.some.inj q
    exact iv
  · rw [List.length_set, List.length_set]
    exact C1.len
  · by_cases q : j = i
    · subst q
      rw [List.getElem?_set_self hi, List.getElem?_set_self (by rw [← C1.len]; exact hi)]
      exact ⟨(x, x), rfl, rfl⟩
    · rw [List.getElem?_set_ne (Ne.symm q), List.getElem?_set_ne (Ne.symm q)]
      have t := C1.sl j
      cases hav : (ρ[j]?).getD none with
      | none => trivial
      | some av =>
        rw [hav] at t
        have hr : ρ[j]? = some (some av) := by
          cases q : ρ[j]? with
          | none => rw [q] at hav; cases hav
          | some z => rw [q] at hav; exact congrArg some hav
        have hp := List.all_eq_true.mp hpl _ (List.mem_of_getElem? hr)
        obtain ⟨v, ev⟩ := sl_some t
        rw [ev] at t ⊢
        cases av with
        | d x =>
          refine Dv.on (O := Ow G ad ρ) (W := fun _ => False) (fun b z => ?_) (fun b o _ e => x12 b o e) (fun _ z => z.elim) t
          rcases z with (z | z) | ⟨m, hm, _⟩
          · exact .inl z
          · exact .inr (hX1 b z)
          · exact (noown2 m hm).elim
        | fn f => exact t
        | own _ => cases hp
        | bl _ => cases hp
        | dk => cases hp
  · refine List.all_eq_true.mpr fun z hz => ?_
    rcases List.mem_or_eq_of_mem_set hz with q | rfl
    · have := List.all_eq_true.mp hpl z q
      cases z with
      | none => rfl
      | some z => cases z <;> first | rfl | cases this
    · rfl
end
section
variable {I : DkI} {K : PySem.W.Frag}
end
end Zj

namespace Zj
open PySem L2
section
variable {I : DkI} {K : PySem.W.Frag} {G : Gh I} {ad : Nat → Addr} {ρ : ASt} {σ : L2.St} {H H' H0 H1 : Hp}
theorem Con.wiped (C : Con K G ad ρ σ H) {vs : List Nat} (nw : (vs.all fun i => noOwnB ((ρ[i]?).getD none)) = true) : Con K G ad (wipeA ρ vs) (wipe σ vs) H := by
  have ow : ∀ {k : Nat}, ownAt (wipeA ρ vs) k → ownAt ρ k := fun {k} ⟨xs, h⟩ => by
    rw [wipeA_get] at h
    split at h
    · cases h
    · exact ⟨xs, h⟩
  have wO : ∀ b, Ow G ad (wipeA ρ vs) b → Ow G ad ρ b := fun b h => h.imp id fun ⟨k, hk, e⟩ => ⟨k, ow hk, e⟩
  have wM : ∀ b, Mu G ad (wipeA ρ vs) b → Mu G ad ρ b := fun b h => h.imp id fun ⟨k, hk, e⟩ => ⟨k, ow hk, e⟩
  refine ⟨C.ok, C.live, fun h => C.ownO (ow h), C.dok, C.ext, by rw [wipe_length, wipeA_len]; exact C.len, fun k => ?_, fun a b ha hb => C.inj a b (ow ha) (ow hb), fun a ha => C.fr a (ow ha)⟩
  rw [wipeA_get, wipe_get, C.len]
  by_cases h : k ∈ vs ∧ k < σ.length
  · rw [if_pos h, if_pos h]; trivial
  · rw [if_neg h, if_neg h]
    exact (C.sl k).weak wO wM
end
/-! ### enumerate of a tuple, in the M-layer -/
section
variable {S : Type} {J : (Addr → Prop) → (Addr → Prop) → S → DkI} {K : PySem.W.Frag}
end
end Zj

namespace Zj
open PySem PySem.Spec PyProof.Rows L2
/-! ### t > u -/
/-! ### tuple * k, k from 0 on -/
section
variable {I : DkI} {K : PySem.W.Frag}
/-! ### enumerate of either kind, in a comprehension -/
end
end Zj

namespace L2
open PySem PySem.Spec PyProof.Rows
variable {X : Cx}
end L2

namespace Zj
open PySem L2
variable {I : DkI} {K : PySem.W.Frag}
/-! ### sorted(set(l)) of a long list of few values -/
/-! ### a, b, c = x, y, z: two data, then anything -/
/-! ### tuple <= tuple, over data -/
end Zj

namespace Zj
open PySem PySem.Spec PyProof.Rows L2
section
variable {X : Cx}
theorem each_vals : ∀ {us : List V} {its : List Value} {ds : List PyData}, Vals us its → us.length = ds.length → PySem.W.EachIs (fun (v : Value) (b : V × PyData) => RelV b.1 v) its (us.zip ds)
  | _, _, _, .nil, _ => by rw [List.zip_nil_left]; exact .nil
  | _ :: _, _ :: _, [], .cons _ _, h => by simp at h
  | u :: us, v :: its, d :: ds, .cons r t, h => by
    rw [List.zip_cons_cons]
    exact .cons r (each_vals t (by simpa using h))
theorem vals_of_each {ps : List (V × PyData)} : ∀ {out : List Value}, PySem.W.EachIs (fun (v : Value) (b : V × PyData) => RelV b.1 v) out ps → Vals (ps.map fun p => p.1) out := by
  induction ps with
  | nil => intro out h; cases h; exact .nil
  | cons p ps ih =>
    intro out h
    cases h with
    | cons h1 h2 => exact .cons h1 (ih h2)
theorem dpAll_zip {K : PySem.W.Frag} {H : Hp} : ∀ {us : List V} {ds : List PyData}, DpAll K H us ds → (∀ p ∈ us.zip ds, Dp K H p.1 p.2) ∧ us.length = ds.length
  | _, _, .nil => ⟨(fun _ z => nomatch z), rfl⟩
  | u :: us, d :: ds, .cons h t => by
    obtain ⟨h1, h2⟩ := dpAll_zip t
    refine ⟨fun p hp => ?_, by rw [List.length_cons, List.length_cons, h2]⟩
    rcases List.mem_cons.mp (show p ∈ (u, d) :: us.zip ds from hp) with rfl | hp
    · exact h
    · exact h1 p hp
theorem each_reads {pins : List (Addr × Obj)} {σ : L2.St} {H : Hp} {s : Shared} (I : Inv X pins σ H s) : ∀ {ps : List (V × PyData)} {its : List Value}, PySem.W.EachIs (fun (v : Value) (b : V × PyData) => RelV b.1 v) its ps → (∀ p ∈ ps, Dp X.K H p.1 p.2) →
    PySem.W.EachIs (fun (v : Value) (b : V × PyData) => ∃ as, Reads s.heap v b.2 as) its ps
  | _, _, .nil, _ => .nil
  | p :: ps, _, .cons h t, d => .cons (Dp.reads I p.2 p.1 _ (d p (List.mem_cons.mpr (.inl rfl))) h) (each_reads I t fun q hq => d q (List.mem_cons.mpr (.inr hq)))
/-- sorted(xs), xs a list of tuples that are alike -/
def rSortedD (K : PySem.W.Frag) : List V → Hp → VK → Prop := fun xs H Q => ∃ (l : Addr) (us : List V) (ds : List PyData), xs = [.ref l] ∧ SqL K H l us ∧ DpAll K H us ds ∧ (∀ d ∈ ds, ∀ e ∈ ds, PySem.W.alike d e = true) ∧ (∀ d ∈ ds, ∃ x r, d = .tuple (x :: r)) ∧ (∀ d ∈ ds, d.depth ≤ 40) ∧
  ∀ (p : Addr) (ps : List (V × PyData)), ps.Perm (us.zip ds) → ps.Pairwise (fun a b => PySem.W.dataLe false (fun b : V × PyData => b.2) a b = true) → H p = none → Q (.ref p) (upd H p (.lst (ps.map fun p => p.1)))
theorem cr_sortedD (hc : X.calm = true) (hu : X.A.units + 64 < cLine) : CallR X (.builtin "sorted") (rSortedD X.K) := by
  intro pins s σ H vs uvs Q I r h
  obtain ⟨l, us, ds, rfl, hs, hd, hal, ht, hdp, q⟩ := h
  obtain ⟨its, rv, hl, hz⟩ := I.list hs
  rw [Vals.ref1 r]
  obtain ⟨dz, lz⟩ := dpAll_zip hd
  have e1 := each_vals rv lz
  have zl : (us.zip ds).length = us.length := by rw [List.length_zip, ← lz, Nat.min_self]
  have z2 : (us.zip ds).map (fun b => b.2) = ds := zip_map2 lz
  refine PySem.W.sorted_data (vs := its) (bs := us.zip ds) (enc := fun b => b.2) (R := fun v b => RelV b.1 v) hl.isList e1 (each_reads I e1 dz) (by rw [z2]; exact hal) (.inl (by rw [z2]; exact ht)) (by rw [zl]; exact hz) (fun b hb => ?_) fun out ho eo => ?_
  · have := hdp b.2 (List.of_mem_zip hb).2
    show X.A.units + 2 + b.2.depth < cLine
    omega
  · have perm := List.mergeSort_perm (us.zip ds) (PySem.W.dataLe false fun b : V × PyData => b.2)
    have pw : ((us.zip ds).mergeSort (PySem.W.dataLe false fun b : V × PyData => b.2)).Pairwise fun a b => PySem.W.dataLe false (fun b : V × PyData => b.2) a b = true := PySem.W.sort_pairwise (le := PySem.W.dataLe false fun b : V × PyData => b.2) (by unfold PySem.W.dataLe; exact PySem.W.sortLe_total _ _ _) (us.zip ds)
    generalize (us.zip ds).mergeSort (PySem.W.dataLe false fun b : V × PyData => b.2) = ps at perm pw eo
    obtain ⟨c, hc2⟩ := sortedAll_at s.heap its (List.toArray out)
    have fresh : H (s.heap.objs.size + 1) = none := I.hok.fresh (Nat.le_succ _)
    have lp : ps.length = us.length := perm.length_eq.trans zl
    exact ⟨.ref (s.heap.objs.size + 1), upd H (s.heap.objs.size + 1) (.lst (ps.map fun p => p.1)), I.laid (t' := s.toks) (fun b o e => sortedAll_old e) (Nat.le_succ _) ⟨by rw [List.length_map, lp]; exact hz, out, c, vals_of_each eo, hc2⟩, rfl, q _ ps perm pw fresh⟩
end
end Zj
namespace Zj
open PySem L2
section
variable {I : DkI} {K : PySem.W.Frag}
theorem zip_map_perm {α β : Type} {ps : List (α × β)} {us : List α} {ds : List β} (l : us.length = ds.length) (h : ps.Perm (us.zip ds)) : (ps.map fun p => p.2).Perm ds := by
  have := h.map fun p => p.2
  rwa [zip_map2 l] at this
def fSortedD : List R → (R → Prop) → Prop
  | [r], Φ => ∃ ds, listOf r = some ds ∧ (∀ d ∈ ds, ∀ e ∈ ds, PySem.W.alike d e = true) ∧ (∀ d ∈ ds, (∃ x r, d = .tuple (x :: r)) ∧ d.depth ≤ 40 ∧ d.hasDict = false) ∧ ∀ es : List PyData, es.Perm ds → es.Pairwise (fun a b => PySem.W.dataLe false id a b = true) → Φ (.l es)
  | _, _ => False
theorem dvAll_pick {O : Addr → Prop} {H : Hp} : ∀ {us : List V} {ds : List PyData}, DvAll K O H us ds → ∀ p ∈ us.zip ds, Dv K O H p.1 p.2
  | _, _, .nil, _, z => nomatch z
  | u :: us, d :: ds, .cons h t, p, hp => by
    rcases List.mem_cons.mp (show p ∈ (u, d) :: us.zip ds from hp) with rfl | hp
    · exact h
    · exact dvAll_pick t p hp
theorem dvAll_of {O : Addr → Prop} {H : Hp} : ∀ {ps : List (V × PyData)}, (∀ p ∈ ps, Dv K O H p.1 p.2) → DvAll K O H (ps.map fun p => p.1) (ps.map fun p => p.2)
  | [], _ => .nil
  | p :: ps, h => .cons (h p (List.mem_cons.mpr (.inl rfl))) (dvAll_of fun q hq => h q (List.mem_cons.mpr (.inr hq)))
theorem hasDictAll_of {ds : List PyData} (h : ∀ d ∈ ds, d.hasDict = false) : PyData.hasDictAll ds = false := by
  induction ds with
  | nil => simp [PyData.hasDictAll]
  | cons d ds ih => simp only [PyData.hasDictAll, h d (List.mem_cons.mpr (.inl rfl)), ih fun e he => h e (List.mem_cons.mpr (.inr he)), Bool.or_false]
theorem cb_sortedD : CbA I K (rSortedD K) fSortedD := fun G ad ρ σ H0 H xs rs Φ Q A hv h k => by
  match rs, h with
  | [r], h =>
    obtain ⟨ds, hr, hal, ht, h⟩ := h
    obtain ⟨v, rfl, w1⟩ := rv1 hv
    obtain ⟨q, us, rfl, l1, dv, nw⟩ := A.list w1 hr
    refine ⟨q, us, ds, rfl, SqL.of l1, DvAll.dp ds us (hasDictAll_of fun d hd => (ht d hd).2.2) dv, hal, fun d hd => (ht d hd).1, fun d hd => (ht d hd).2.1, fun p ps perm pw fp => ?_⟩
    have hs : Ext G.W H (upd H p (.lst (ps.map fun p => p.1))) := Ext.new fp
    refine k (.l (ps.map fun p => p.2)) _ _ hs (A.k.new fp) ⟨p, _, rfl, A.fr fp, upd_same, ?_⟩ (h _ (zip_map_perm (by rw [dv.len]) perm) ?_)
    · refine DvAll.ext (W := G.W) (dvAll_of fun z hz => ?_) (Ext.new fp) fun b w => .inl (A.wO b w)
      exact (dvAll_pick dv z (perm.mem_iff.mp hz)).fresh fp fun b z => z
    · rw [List.pairwise_map]
      exact pw
def fExtD : List R → (R → Prop) → Prop
  | [r], Φ => ∃ ds, listOf r = some ds ∧ ds ≠ [] ∧ (∀ d ∈ ds, ∀ e ∈ ds, PySem.W.alike d e = true) ∧ (∀ d ∈ ds, d ≠ .none ∧ d.depth ≤ 40 ∧ d.hasDict = false) ∧ ∀ d ∈ ds, Φ (.d d)
  | _, _ => False
def fMulS : R → R → (R → Prop) → Prop
  | .d (.str i), .d (.int n), Φ => MulOk i n ∧ Φ (.d (.str (Txt.mul i n)))
  | _, _, _ => False
def aUpper (T : AE) : AE := fun ρ Φ => T ρ fun r => ∃ a, r = .d (.str a) ∧ a.length ≤ 5592405 ∧ Φ (.d (.str (Txt.upper a)))
/-- sorted(set(xs)), xs a list of versions -/
def aSortSetV (T : AE) : AE := fun ρ Φ => T ρ fun r => ∃ vs : List Vr, listOf r = some (vs.map TD) ∧ vs.length < 64 ∧ (∀ v ∈ vs, v.length = 5 ∧ ∀ i ∈ v, 0 ≤ i ∧ i < 1152921504606846976) ∧ ∀ ws : List Vr, (∀ w ∈ ws, w ∈ vs) → ws.length < 64 → ws.length ≤ vs.length → Φ (.l (ws.map TD))
/-- range(i, j, c) -/
def stepD (lo c : Int) (n : Nat) : List PyData := (List.range n).map fun i => .int (lo + (i : Nat) * c)
def onRg3 (rs : List R) (Φ : List PyData → Prop) : Prop := match rs with
  | [.d (.int i), .d (.int j), .d (.int c)] => ∃ n, RgC i j c n ∧ Φ (stepD i c n)
  | _ => False
def cRg3 (U : AA) : ASt → (List PyData → Prop) → Prop := fun ρ Φ => U ρ fun rs => onRg3 rs Φ
/-- tuple < tuple, of integers -/
def fLtT : R → R → (R → Prop) → Prop
  | .d (.tuple xs), .d (.tuple ys), Φ => ∃ ns ms : List Int, xs = ns.map PyData.int ∧ ys = ms.map PyData.int ∧ Φ (.d (.bool (HT.lexLt ns ms)))
  | _, _, _ => False
/-- tuple != () -/
def fNeT0 : R → R → (R → Prop) → Prop
  | .d (.tuple xs), .d (.tuple []), Φ => Φ (.d (.bool (!xs.isEmpty)))
  | _, _, _ => False
end
end Zj

namespace Zj
open PySem L2
end Zj

namespace Zj
open PySem L2
variable {I : DkI} {K : PySem.W.Frag}
def fMin2 : List R → (R → Prop) → Prop
  | [.d (.int i), .d (.int j)], Φ => Φ (.d (.int (if j < i then j else i)))
  | _, _ => False
def fInSign : R → R → (R → Prop) → Prop
  | .d (.str x), .d (.str z), Φ => ∃ c : Nat, x = ⟨#[c]⟩ ∧ Φ (.d (.bool (decide (c ∈ z.cps.toList))))
  | _, _, _ => False
def fNotInSign : R → R → (R → Prop) → Prop
  | .d (.str x), .d (.str z), Φ => ∃ c : Nat, x = ⟨#[c]⟩ ∧ Φ (.d (.bool (!decide (c ∈ z.cps.toList))))
  | _, _, _ => False
/-- sep.join(a list made here or a list) -/
def aJoin (T : AE) (U : AE) : AE := fun ρ Φ => T ρ fun r => ∃ a : Str, r = .d (.str a) ∧ U ρ fun s => ∃ ys : List Str, listOf s = some (ys.map PyData.str) ∧ (ys.map (·.length)).sum + ys.length * a.length ≤ 16777216 ∧ Φ (.d (.str (Txt.join a ys)))
theorem dv_strs {O : Addr → Prop} {H : Hp} : ∀ {ys : List Str} {vs : List V}, DvAll K O H vs (ys.map PyData.str) → vs = ys.map V.str
  | [], _, .nil => rfl
  | y :: ys, _, .cons h1 h2 => by
    cases h1
    rw [dv_strs h2]
    rfl
def rJoinL (K : PySem.W.Frag) : V → List V → Hp → VK → Prop := fun x xs H Q => ∃ a p, ∃ ys : List Str, x = .str a ∧ xs = [.ref p] ∧ (SqL K H p (ys.map V.str) ∨ SqT K H p (ys.map V.str)) ∧ (ys.map (·.length)).sum + ys.length * a.length ≤ 16777216 ∧ Q (.str (Txt.join a ys)) H
theorem ea_join {t u : TE} {T U : AE} (a : EA I K t T) (b : EA I K u U) : EA I K (tBM K "str" (rJoinL K) t (tCons u tNil)) (aJoin T U) := fun G ad ρ σ H Φ Q C h k => by
  refine a G ad ρ σ H _ _ C h fun r v H1 e1 k1 v1 h1 => ?_
  have A1 := (At.start C).to e1 k1
  obtain ⟨s, rfl, h1⟩ := h1
  cases (v1 : Dv K _ H1 v (.str s))
  refine ⟨rfl, ?_⟩
  refine b.at A1 h1 fun r2 v2 H2 e2 k2 w2 h2 => ?_
  have A2 := A1.to e2 k2
  obtain ⟨ys, hl, hz, h2⟩ := h2
  obtain ⟨p, vs, rfl, g1, g2, _⟩ := A2.list w2 hl
  cases dv_strs g2
  exact ⟨s, p, ys, rfl, rfl, .inl (SqL.of g1), hz, k (.d _) _ H2 (e1.trans e2) k2 (Dv.str _) h2⟩
end Zj

namespace Zj
open PySem PySem.Spec PyProof.Rows L2 Builtin
def keyS (e : Int × Value) : Str := match e.2 with | .str x _ => x | _ => Str.empty
def GoodS (P : Program) (w : World) (e : Int × Value) : Prop := ∃ x tk, e.2 = .str x tk ∧ e.1 = (strKind P w).hash x
theorem goodS_elems {P : Program} {w : World} {l : List (Int × Value)} (h : ∀ e ∈ l, GoodS P w e) : ElemsOf (strKind P w) l := fun e he => by
  obtain ⟨x, tk, e1, e2⟩ := h e he
  refine ⟨⟨x, ?_, e2⟩, by rw [e1]; rfl⟩
  rw [e1]
  show Value.isStrOf x (.str x tk) = true
  simp [Value.isStrOf]
/-- a set of texts: its entries' texts are those of xs, each once -/
def SetSR (P : Program) (w : World) (h : Heap) (a : Addr) (xs : List Str) : Prop := ∃ o es ep t, h.get? a = some o ∧ o.ExactSet ∧ o.data = Data.set es ep t ∧ (∀ e ∈ es.toList, GoodS P w e) ∧ (es.toList.map keyS).Nodup ∧ (∀ k, k ∈ es.toList.map keyS ↔ k ∈ xs) ∧
  es.size < scanBound ∧ t.fits es.size = true ∧ es.size ≤ xs.length ∧ Ris t.place.toList ∧ (w.params.followText "set-order" = true ∨ t.led = true)
section
variable {P : Program} {w : World} {A : Around} {E : Value → Shared → Prop} {s : Shared}
theorem setState_at {a : Addr} {o : Obj} {es : Array (Int × Value)} {ep : Nat} {t : SetTable} {Q : Array (Int × Value) × Nat × SetTable → Shared → Prop} (hg : s.heap.get? a = some o) (hd : o.data = Data.set es ep t) (hf : t.fits es.size = true) (q : Q (es, ep, t) s) : wpAny (model P w) A (setState a) Q E s := by
  unfold setState
  refine wpAny_bind (wpAny_load hg ?_)
  rw [hd]
  have c : (t.place.size != es.size || decide (t.fill > t.mask)) = false := by
    unfold SetTable.fits at hf
    simp only [Bool.and_eq_true, beq_iff_eq, decide_eq_true_eq] at hf
    simp [hf.1, hf.2]
  simp only [c]
  exact wpAny_pure q
theorem storeSet_at {a : Addr} {o : Obj} {es es' : Array (Int × Value)} {ep : Nat} {t t' : SetTable} {Q : Unit → Shared → Prop} (hg : s.heap.get? a = some o) (hx : o.ExactSet) (hd : o.data = Data.set es ep t) (hz : es'.size < scanBound) (hE : ElemsOf (strKind P w) es'.toList) (hf : t'.fits es'.size = true)
    (q : ∀ h' o', Heap.SameBut a s.heap h' → h'.get? a = some o' → o'.ExactSet → (∃ ep', o'.data = Data.set es' ep' t') → Q () { s with heap := h' }) : wpAny (model P w) A (storeSet a es' t') Q E s := by
  unfold storeSet
  refine wpAny_bind (wpAny_load hg ?_)
  rw [hd]
  have nz : ¬ es'.size > sizeLine := by
    have : scanBound ≤ sizeLine := by decide
    omega
  simp only [nz]
  refine wpAny_update hg ?_
  have g := (SetOf_store (knd := strKind P w) hg hx hd (S' := fun k => es'.toList.any fun e => (strKind P w).is k e.2) hE (fun k => List.any_eq_true) hz hf).1
  exact q _ _ (Heap.SameBut.update _ _ _) g ⟨hx.1, hx.2.1, hx.2.2⟩ ⟨_, rfl⟩
/-- entries after a text is laid anew -/
theorem keysS_perm {es es' : List (Int × Value)} {x : Str} {tk : Tok} {h : Int} (p : es'.Perm (es ++ [(h, Value.str x tk)])) : (es'.map keyS).Perm (es.map keyS ++ [x]) := by
  have := p.map keyS
  rwa [List.map_append] at this
theorem setSR_tail {a : Addr} {o : Obj} {es es1 : Array (Int × Value)} {ep : Nat} {t t1 : SetTable} {xs : List Str} {wasDummy : Bool} {g : Bool → Sem Unit} {R : Option Bool → Shared → Prop} (hg0 : ∀ (b : Bool) (s₁ : Shared) (Q' : Unit → Shared → Prop), Q' () s₁ → wpAny (model P w) A (g b) Q' E s₁)
    (hg : s.heap.get? a = some o) (hx : o.ExactSet) (hd : o.data = Data.set es ep t) (good : ∀ e ∈ es1.toList, GoodS P w e) (nd : (es1.toList.map keyS).Nodup) (hm : ∀ k, k ∈ es1.toList.map keyS ↔ k ∈ xs) (hz : es1.size < scanBound) (hf : t1.fits es1.size = true) (hl : es1.size ≤ xs.length) (hr : Ris t1.place.toList) (hled : w.params.followText "set-order" = true ∨ t1.led = true)
    (k : ∀ h', Heap.SameBut a s.heap h' → SetSR P w h' a xs → R (some true) { s with heap := h' }) :
    wpAny (model P w) A (do
      storeSet a es1 t1
      if (!wasDummy && t1.tooFull) = true then do
        g (relayAll t1 es1 (SetTable.grown es1.size)).snd.snd
        storeSet a (relayAll t1 es1 (SetTable.grown es1.size)).fst (relayAll t1 es1 (SetTable.grown es1.size)).snd.fst
        pure (some true)
      else pure (some true)) R E s := by
  refine wpAny_bind (storeSet_at hg hx hd hz (goodS_elems good) hf fun h1 o1 b1 g1 x1 ⟨ep1, d1⟩ => ?_)
  by_cases c : (!wasDummy && t1.tooFull) = true
  · rw [if_pos c]
    refine wpAny_bind (hg0 _ _ _ ?_)
    have pm := relayAll_perm t1 es1 (SetTable.grown es1.size)
    have sz : (relayAll t1 es1 (SetTable.grown es1.size)).fst.size = es1.size := by
      have := pm.length_eq
      simpa using this
    have good2 : ∀ e ∈ (relayAll t1 es1 (SetTable.grown es1.size)).fst.toList, GoodS P w e := fun e he => good e (pm.mem_iff.mp he)
    refine wpAny_bind (storeSet_at (s := { s with heap := h1 }) g1 x1 d1 (by rw [sz]; exact hz) (goodS_elems good2) (relayAll_fits _ _ _) fun h2 o2 b2 g2 x2 ⟨ep2, d2⟩ => ?_)
    refine wpAny_pure (k h2 (b1.trans b2) ⟨o2, _, _, _, g2, x2, d2, good2, (pm.map keyS).nodup_iff.mpr nd, fun k => (pm.map keyS).mem_iff.trans (hm k), by rw [sz]; exact hz, relayAll_fits _ _ _, by rw [sz]; exact hl, relayAll_ris _ _ _, by rw [relayAll_led]; exact hled⟩)
  · rw [if_neg c]
    exact wpAny_pure (k h1 b1 ⟨o1, _, _, _, g1, x1, d1, good, nd, hm, hz, hf, hl, hr, hled⟩)
theorem gw {g : Bool → Sem Unit} {b : Bool} {Q : Unit → Shared → Prop} (h : ∀ (b : Bool) (s₁ : Shared) (Q' : Unit → Shared → Prop), Q' () s₁ → wpAny (model P w) A (g b) Q' E s₁) (q : Q () s) : wpAny (model P w) A (g b) Q E s := h b s Q q
theorem setSR_add_hashed {a : Addr} {xs : List Str} {x : Str} {tk : Tok} {Q : Bool → Shared → Prop} (hS : SetSR P w s.heap a xs) (hb : xs.length + 1 < scanBound) (k : ∀ b h', Heap.SameBut a s.heap h' → SetSR P w h' a (xs ++ [x]) → Q b { s with heap := h' }) :
    wpAny (model P w) A (setAddHashed a (.str x tk) ((strKind P w).hash x)) Q E s := by
  obtain ⟨o, es, ep, t, hg, hx, hd, good, nd, hm, hz, hf, hl, hr, hled⟩ := hS
  have hE := goodS_elems good
  have isx : (strKind P w).is x (.str x tk) = true := by
    show Value.isStrOf x (.str x tk) = true
    simp [Value.isStrOf]
  have scx : (Value.str x tk).scannable = true := rfl
  unfold setAddHashed
  refine wpAny_holding ?_
  rw [show (100000 : Nat) = 99999 + 1 from rfl, setAddHashedIn_succ]
  refine wpAny_bind (setState_at hg hd hf ?_)
  simp only [byScan_of scx hz hE, if_true]
  refine wpAny_bind ?_
  unfold setAddByScan
  refine wpAny_bind (wpAny_rule ?_)
  refine wpAny_bind (wpAny_setScan_of isx hg hd hf hE ?_)
  cases hf2 : List.findIdx? (fun e => (strKind P w).is x e.snd) es.toList with
  | some j =>
    simp only
    refine wpAny_pure (wpAny_pure (k false s.heap (Heap.SameBut.refl _ _) ⟨o, es, ep, t, hg, hx, hd, good, nd, fun y => ?_, hz, hf, by rw [List.length_append]; omega, hr, hled⟩))
    rw [hm y, List.mem_append, List.mem_singleton]
    refine ⟨.inl, fun z => z.elim id fun e => ?_⟩
    subst e
    obtain ⟨hj, he, _⟩ := List.findIdx?_eq_some_iff_getElem.mp hf2
    have hmem := List.getElem_mem hj
    obtain ⟨z, tz, e1, _⟩ := good _ hmem
    rw [e1] at he
    have ez : z = y := by
      have he : Value.isStrOf y (.str z tz) = true := he
      simp [Value.isStrOf] at he
      first | exact he | exact he.symm
    exact (hm y).mp (List.mem_map.mpr ⟨_, hmem, by show keyS _ = y; unfold keyS; rw [e1]; exact ez⟩)
  | none =>
    have nx : x ∉ es.toList.map keyS := fun z => by
      obtain ⟨e, he, ek⟩ := List.mem_map.mp z
      obtain ⟨y, tz, e1, _⟩ := good e he
      have := List.findIdx?_eq_none_iff.mp hf2 e he
      rw [e1] at this
      unfold keyS at ek
      rw [e1] at ek
      have ek : y = x := ek
      subst ek
      have this : Value.isStrOf y (.str y tz) = false := this
      simp [Value.isStrOf] at this
    simp only
    have pm := layNew_perm t es ((strKind P w).hash x) (.str x tk)
    have fi := layNew_fits t es ((strKind P w).hash x) (.str x tk)
    have le := layNew_led t es ((strKind P w).hash x) (.str x tk)
    have ri := layNew_ris t es ((strKind P w).hash x) (.str x tk) hr
    generalize layNew t es ((strKind P w).hash x) (.str x tk) = L at pm fi le ri
    obtain ⟨es1, t1, wd, gv⟩ := L
    simp only at pm fi le ri ⊢
    have gw0 : ∀ e ∈ es1.toList, GoodS P w e := fun e he => by
      have := pm.mem_iff.mp he
      rw [Array.toList_push, List.mem_append, List.mem_singleton] at this
      rcases this with h | rfl
      · exact good e h
      · exact ⟨x, tk, rfl, rfl⟩
    have pk : (es1.toList.map keyS).Perm (es.toList.map keyS ++ [x]) := keysS_perm (by rw [← Array.toList_push]; exact pm)
    have nd1 : (es1.toList.map keyS).Nodup := pk.nodup_iff.mpr (List.nodup_append.mpr ⟨nd, (List.nodup_cons.mpr ⟨List.not_mem_nil, List.nodup_nil⟩), fun a ha b hb e => by rw [List.mem_singleton.mp hb] at e; subst e; exact nx ha⟩)
    have sz1 : es1.size = es.size + 1 := by
      have := pm.length_eq
      simpa using this
    have mem1 : ∀ y, y ∈ es1.toList.map keyS ↔ y ∈ xs ++ [x] := fun y => by
      rw [pk.mem_iff, List.mem_append, List.mem_append, hm y]
    refine wpAny_bind (gw (fun b s₁ Q' q => ?_) ?_)
    · cases b with
      | true => exact wpAny_rule q
      | false => exact wpAny_pure q
    have fin : ∀ (t2 : SetTable) (f2 : t2.fits es1.size = true) (l2 : t2.led = t.led) (r2 : Ris t2.place.toList) {g : Bool → Sem Unit}, (∀ (b : Bool) (s₁ : Shared) (Q' : Unit → Shared → Prop), Q' () s₁ → wpAny (model P w) A (g b) Q' E s₁) → wpAny (model P w) A (do
        storeSet a es1 t2
        if (!wd && t2.tooFull) = true then do
          g (relayAll t2 es1 (SetTable.grown es1.size)).snd.snd
          storeSet a (relayAll t2 es1 (SetTable.grown es1.size)).fst (relayAll t2 es1 (SetTable.grown es1.size)).snd.fst
          pure (some true)
        else pure (some true)) (fun a_1 s' => wpAny (model P w) A (match a_1 with | some added => pure added | none => setAddHashedIn a (Value.str x tk) ((strKind P w).hash x) 99999) Q E s') E s := fun t2 f2 l2 r2 g hg0 =>
      setSR_tail hg0 hg hx hd gw0 nd1 mem1 (by omega) f2 (by rw [List.length_append]; show es1.size ≤ xs.length + 1; omega) r2 (by rw [l2]; exact hled) fun h' b1 s1 => wpAny_pure (k true h' b1 s1)
    by_cases pl : t1.plain = true
    · rw [if_pos pl]
      rw [hashByValue_scannable 8 scx]
      refine wpAny_bind (wpAny_pure ?_)
      simp only [show plainKind (Value.str x tk) = false from rfl, Bool.false_eq_true, if_false]
      exact fin { t1 with plain := false } fi le ri (g := _) (fun b s₁ Q' q => by cases b with | true => exact wpAny_rule q | false => exact wpAny_pure q)
    · rw [if_neg pl]
      refine wpAny_bind (wpAny_pure ?_)
      simp only [if_true]
      exact fin t1 fi le ri (g := _) (fun b s₁ Q' q => by cases b with | true => exact wpAny_rule q | false => exact wpAny_pure q)
theorem pyHash_str {x : Str} {tk : Tok} {Q : Int → Shared → Prop} (q : Q ((strKind P w).hash x) { s with toks := s.toks + 1 }) : wpAny (model P w) A (pyHash (.str x tk)) Q E s := (strKind P w).pyHash (k := x) (by show Value.isStrOf x (.str x tk) = true; simp [Value.isStrOf]) q
theorem setSR_add {a : Addr} {xs : List Str} {x : Str} {tk : Tok} {Q : Bool → Shared → Prop} (hS : SetSR P w s.heap a xs) (hb : xs.length + 1 < scanBound) (k : ∀ b h', Heap.SameBut a s.heap h' → SetSR P w h' a (xs ++ [x]) → Q b { s with heap := h', toks := s.toks + 1 }) : wpAny (model P w) A (setAdd a (.str x tk)) Q E s := by
  unfold setAdd
  refine wpAny_holding ?_
  refine wpAny_bind (pyHash_str ?_)
  exact setSR_add_hashed (s := { s with toks := s.toks + 1 }) hS hb k
/-- set.update's loop over texts -/
theorem set_update_strs {I : Addr} {fp wr : List Addr} {G : Array GenState → Array GenState → Prop} {n : Nat} {Pv : Nat → Value → Prop} {St : Nat → Shared → Prop} {R : Result → Shared → Prop} (W : WalksS P w A.in1 I fp wr G n Pv St) (S : Addr) (hS : S ∉ fp) (xs : List Str) (hn : n = xs.length) (hb : xs.length + 1 < scanBound)
    (hv : ∀ (i : Nat) (v : Value), Pv i v → ∃ x t, xs[i]? = some x ∧ v = Value.str x t) : ∀ (k i : Nat) (s : Shared), n - i = k → i ≤ n → St i s → SetSR P w s.heap S (xs.take i) →
      (∀ s', Moved (S :: wr) G s s' → SetSR P w s'.heap S xs → R (.ok (.ret .none)) s') → codeAny (model P w) A (.builtin "set.update.loop" ⟨[.ref S, .ref I], []⟩) R s := by
  have wide : ∀ {s s' : Shared}, Moved wr G s s' → Moved (S :: wr) G s s' := fun m => ⟨fun b o h e => m.heap b o (fun z => h (List.mem_cons_of_mem _ z)) e, m.gens, m.drawn, m.os, m.toks⟩
  have keepS : ∀ {s s' : Shared} {ys : List Str}, Moved wr G s s' → SetSR P w s.heap S ys → SetSR P w s'.heap S ys := fun m ⟨o, es, ep, t, hg, r⟩ => ⟨o, es, ep, t, m.heap S o (fun z => hS (W.sub S z)) hg, r⟩
  intro k
  induction k with
  | zero =>
    intro i s hk hi st hset hR
    have e : i = n := by omega
    subst e
    refine codeAny_builtin F.entry_set_update_loop ?_
    rw [Around.under_plainId F.plain_set_update_loop]
    unfold Builtin.«set.update.loop»
    simp only
    refine wpAny_bind (W.done s _ _ st fun s' mv => ?_)
    refine wpAny_pure (hR s' (wide mv) ?_)
    rw [hn, List.take_length] at hset
    exact keepS mv hset
  | succ k ih =>
    intro i s hk hi st hset hR
    refine codeAny_builtin F.entry_set_update_loop ?_
    rw [Around.under_plainId F.plain_set_update_loop]
    unfold Builtin.«set.update.loop»
    simp only
    refine wpAny_bind (W.item i s _ _ (by omega) st fun v s1 pv st1 mv => ?_)
    obtain ⟨x, tk, hx, rfl⟩ := hv i v pv
    simp only
    have hlt := (List.getElem?_eq_some_iff.mp hx).1
    refine wpAny_bind (wpAny_holding (setSR_add (keepS mv hset) (by rw [List.length_take]; omega) fun b h' sb s2 => ?_))
    have et : xs.take (i + 1) = xs.take i ++ [x] := by rw [List.take_succ, hx]; rfl
    refine wpAny_pure ⟨Code.quiet_builtin _ (by decide +kernel), ih (i + 1) _ (by omega) (by omega) (W.frame (i + 1) s1 h' _ st1 (Nat.le_succ _) fun b hb o e => ?_) (by rw [et]; exact s2) fun s' m2 s3 => hR s' ?_ s3⟩
    · rw [sb.2 b (fun z => hS (by rw [← z]; exact hb))]
      exact e
    · refine Moved.trans W.gtrans (wide mv) (Moved.trans W.gtrans (show Moved (S :: wr) G s1 { s1 with heap := h', toks := s1.toks + 1 } from ⟨fun b o h e => ?_, W.grefl _, rfl, rfl, Nat.le_succ _⟩) m2)
      rw [sb.2 b (fun z => h (by rw [z]; exact List.mem_cons_self))]
      exact e
end
end Zj

namespace Zj
open PySem PySem.Spec PyProof.Rows L2 Builtin
section
variable {P : Program} {w : World} {A : Around} {E : Value → Shared → Prop} {s : Shared}
def RStr (v : Value) (y : Str) : Prop := ∃ tk, v = .str y tk
def strV (v : Value) : Str := match v with | .str y _ => y | _ => Str.empty
theorem each_str : ∀ {out : List Value}, (∀ v ∈ out, ∃ y tk, v = Value.str y tk) → PySem.W.EachIs RStr out (out.map strV)
  | [], _ => .nil
  | v :: out, h => by
    obtain ⟨y, tk, rfl⟩ := h v List.mem_cons_self
    exact .cons ⟨tk, rfl⟩ (each_str fun u hu => h u (List.mem_cons_of_mem _ hu))
theorem each_strR {h : Heap} {a : Addr} : ∀ {out : List Value} {ys : List Str}, PySem.W.EachIs RStr out ys → PySem.W.EachIs (fun (v : Value) (y : Str) => ∃ as, Reads h v (PyData.str y) as ∧ ¬ a ∈ as) out ys
  | _, _, .nil => .nil
  | _, _, .cons ⟨tk, e⟩ t => .cons ⟨[], by rw [e]; exact .str _ _, List.not_mem_nil⟩ (each_strR t)
theorem sorted_setS {a : Addr} {xs : List Str} {Q : Value → Shared → Prop} (hS : SetSR P w s.heap a xs) (hh : A.handled = none) (hu : A.units + 64 < cLine)
    (hq : ∀ (s' : Shared) (p : Addr) (out : List Value) (c : Nat) (ys : List Str), (∀ b o, s.heap.get? b = some o → s'.heap.get? b = some o) → s'.gens = s.gens → s'.os = s.os → s.heap.objs.size ≤ p → s'.heap.get? p = some (seqObj "list" out.toArray c) → PySem.W.EachIs RStr out ys → ys.length ≤ xs.length →
      ys.Nodup → (∀ y, y ∈ ys ↔ y ∈ xs) → ys.Pairwise (fun a b => PySem.W.dataLe false PyData.str a b = true) → Q (.ref p) s') :
    wpAny (model P w) A (call (.builtin "sorted") [.ref a]) Q E s := by
  obtain ⟨o, es, ep, t, hg, hx, hd, good, nd, hm, hz, hf, hl, hr, hled⟩ := hS
  refine Calls.call_function_entry kind_sorted plain_sorted entry_sorted (args_sorted1 _) ?_
  unfold Builtin.«sorted»
  refine wpAny_bind (m := checkCount "sorted" 1 1 _) (wpAny_pure ?_)
  refine wpAny_bind (collect_set (A := A.in1) (by simpa using hh) ⟨o, hg, hx.1, hd⟩ hf hz hr hled fun s1 out k1 z1 g1 o1 pm => ?_)
  have sb : scanBound ≤ sizeLine := by decide
  have lo : out.length = es.size := by
    rw [pm.length_eq, List.length_map]
    simp
  have hall : ∀ v ∈ out, ∃ y tk, v = Value.str y tk := fun v hv => by
    obtain ⟨e, he, rfl⟩ := List.mem_map.mp (pm.mem_iff.mp hv)
    obtain ⟨y, tk, e1, _⟩ := good e he
    exact ⟨y, tk, e1⟩
  have e1 := each_str hall
  have kp : (out.map strV).Perm (es.toList.map keyS) := by
    have := pm.map strV
    rw [List.map_map] at this
    exact this
  refine wpAny_bind (wpAny_newList ?_ (by omega))
  have hB : (s1.heap.push { cls := .type "list", data := .seq out.toArray }).get? s1.heap.objs.size = some (seqObj "list" out.toArray 0) := Heap.get?_push_size _ rfl
  refine wpAny_bind (wpAny_holding (PySem.W.list_sort_data (s := { s1 with heap := s1.heap.push { cls := .type "list", data := .seq out.toArray } }) (enc := PyData.str) (bs := out.map strV) hB e1 (each_strR e1) (fun d hd d' hd' => ?_) (.inr fun d hd => ?_) (by rw [List.length_map]; omega) (fun b hb => ?_) fun out2 l2 eo => ?_))
  · obtain ⟨y, _, rfl⟩ := List.mem_map.mp hd
    obtain ⟨z, _, rfl⟩ := List.mem_map.mp hd'
    rfl
  · obtain ⟨y, _, rfl⟩ := List.mem_map.mp hd
    exact ⟨(fun z => PyData.noConfusion z), fun xs z => PyData.noConfusion z⟩
  · have : (PyData.str b).depth = 0 := by simp [PyData.depth]
    rw [this]
    show A.units + 1 + 1 + 0 < cLine
    omega
  · refine wpAny_pure ⟨_, rfl, ?_⟩
    obtain ⟨c, hBF⟩ := sortedHeap_at (out := out2.toArray) hB
    have perm := List.mergeSort_perm (out.map strV) (PySem.W.dataLe false PyData.str)
    have pw : ((out.map strV).mergeSort (PySem.W.dataLe false PyData.str)).Pairwise fun a b => PySem.W.dataLe false PyData.str a b = true := PySem.W.sort_pairwise (le := PySem.W.dataLe false PyData.str) (by unfold PySem.W.dataLe; exact PySem.W.sortLe_total _ _ _) (out.map strV)
    generalize (out.map strV).mergeSort (PySem.W.dataLe false PyData.str) = ys at perm pw eo
    have pk := perm.trans kp
    refine hq { s1 with heap := sortedHeap (s1.heap.push { cls := .type "list", data := .seq out.toArray }) s1.heap.objs.size out out2.toArray } _ out2 c ys (fun b o e => ?_) g1 o1 z1 hBF eo ?_ (pk.nodup_iff.mpr nd) (fun y => pk.mem_iff.trans (hm y)) pw
    · have lt := Heap.lt_size (k1 b o e)
      show (sortedHeap _ _ _ _).get? b = some o
      rw [sortedHeap_old (Nat.ne_of_lt lt) (by rw [Heap.size_push]; exact Nat.lt_succ_of_lt lt)]
      exact Heap.get?_push_of_some _ (k1 b o e)
    · rw [pk.length_eq, List.length_map]
      simpa using hl
end
end Zj

namespace Zj
open PySem PySem.Spec PyProof.Rows L2 Builtin
section
variable {P : Program} {w : World} {A : Around} {E : Value → Shared → Prop} {s : Shared}
theorem call_set_listS {l : Addr} {items : Array Value} (xs : List Str) {Q : Value → Shared → Prop} (hh : A.handled = none) (hl : s.heap.IsList l items) (hit : PyProof.Rows.StrsAre items.toList xs) (hb : xs.length + 1 < scanBound)
    (h : ∀ (h' : Heap) (tk : Nat), SetSR P w h' s.heap.objs.size xs → (∀ b o, s.heap.get? b = some o → h'.get? b = some o) → Q (.ref s.heap.objs.size) { s with heap := h', toks := tk }) :
    wpAny (model P w) A (call (.type "set") [.ref l]) Q E s := by
  have hisz : items.size = xs.length := by rw [← hit.length, Array.length_toList]
  obtain ⟨c0, tl0, hmro⟩ := F.called_set.mro
  have hmade := F.called_set.made
  have hsub := F.called_set.sub
  have h1 := F.called_set.notType
  have h2 := F.called_set.canCreate
  have hct := F.typeCall_set_1 (.ref l)
  refine wpAny_call (codeAny_of_tree (wpAny_pure ⟨Code.quiet_builtin _ (by decide +kernel), codeAny_builtin F.entry_type_call ?_⟩))
  rw [Around.under_plain (weight_type_call_type "set" [.ref l] []) rfl]
  repeat (any_goals (first | assumption | wp_step))
  refine codeAny_mono (code_set_led1 (.ref l) (E := E) (Q₁ := fun obj t => obj = .ref s.heap.objs.size ∧ t = { s with heap := s.heap.push (newSetO w) }) ⟨rfl, rfl⟩) fun r t hr => ?_
  match r, hr with
  | .error e, hr => exact hr
  | .ok (.ret obj), hr =>
    obtain ⟨rfl, rfl⟩ := hr
    have gS : (s.heap.push (newSetO w)).get? s.heap.objs.size = some (newSetO w) := Heap.get?_push_size _ rfl
    have tS : Shared.TypeIs { s with heap := s.heap.push (newSetO w) } (.ref s.heap.objs.size) "set" := ⟨_, gS, rfl⟩
    have i1 := F.called_set.init.lookup
    have i2 := F.called_set.init.bind (.ref s.heap.objs.size)
    repeat (any_goals (first | assumption | wp_step))
    refine codeAny_mono (codeAny_call_builtin (R := wants (fun r t => r = .none ∧ ∃ h' tk, t = { s with heap := h', toks := tk } ∧ SetSR P w h' s.heap.objs.size xs ∧
        (∀ b o, s.heap.get? b = some o → h'.get? b = some o)) E) F.called_set.init.plain F.entry_set_init (check_set_init_1 tS ?_)) fun r2 t2 hr2 => ?_
    · obtain ⟨⟨xc, xd, xt, xsl⟩, gl, cl, nl, dl⟩ := hl
      simp only at cl dl
      subst cl dl
      have gl' : (s.heap.push (newSetO w)).get? l = some { cls := .type "list", dict := xd, data := .seq items nl, slots := xsl } := Heap.get?_push_of_some _ gl
      have u1 := F.sub_list_set
      have u2 := F.sub_list_frozenset
      have u3 : (Value.type "list" == Value.type "dict") = false := by decide
      have il : (s.heap.push (newSetO w)).IsList l items := ⟨_, gl', rfl, nl, rfl⟩
      have lS : l < s.heap.objs.size := Heap.lt_size gl
      have zS : (s.heap.push (newSetO w)).objs.size = s.heap.objs.size + 1 := Heap.size_push ..
      unfold Builtin.«set.__init__» noKeywords Builtin.Frozenset.updateFrom
      generalize hPI : pyIter = PI
      wp_walk
      subst hPI
      refine wpAny_pyIter_list il (wpAny_bind (wpAny_runValue ?_))
      have h3 : A.in1.in1.in1.handled = none := by simp [hh]
      refine set_update_strs ((Walks.list h3 _ l (by rw [zS]; exact Nat.ne_of_lt (Nat.lt_succ_of_lt lS)) items).toS) s.heap.objs.size
        (by rw [zS]; simp only [List.mem_cons, List.not_mem_nil, or_false, not_or]; exact ⟨Nat.ne_of_lt (Nat.lt_succ_self _), Nat.ne_of_gt lS⟩) xs hisz hb (fun i v hv => ?val) (items.size - 0) 0 _ (by omega) (Nat.zero_le _)
        ⟨⟨_, Heap.get?_push_size _ rfl, rfl, rfl⟩, il.push _⟩ ⟨newSetO w, #[], 0, .fresh 0 0 (!w.params.followText "set-order"), Heap.get?_push_of_some _ gS, ⟨rfl, rfl, rfl⟩, rfl, (fun _ z => nomatch z), List.nodup_nil, fun k => ⟨(fun z => nomatch z), (fun z => nomatch z)⟩, by show 0 < scanBound; decide, by rfl, Nat.zero_le _, List.Pairwise.nil, ?led⟩ fun t hm hS => ?_
      case val =>
        have hi : i < xs.length := by rw [← hisz]; exact (Array.getElem?_eq_some_iff.mp hv).1
        obtain ⟨t, e⟩ := SS.strs_at hit i v (by rw [Array.getElem?_toList]; exact hv)
        refine ⟨xs[i], t, List.getElem?_eq_getElem hi, ?_⟩
        rw [e, List.getD_eq_getElem?_getD, List.getElem?_eq_getElem hi] <;> rfl
      case led =>
        cases e : w.params.followText "set-order" with
        | true => exact .inl rfl
        | false => exact .inr rfl
      obtain ⟨h', g2, d2, tk2, o2⟩ := t
      cases hm.gens
      cases hm.drawn
      cases hm.os
      show wpAny _ _ _ _ _ _
      refine wpAny_pure ?_
      show wpAny _ _ (ret Value.none) _ _ _
      refine wpAny_pure ⟨rfl, h', tk2, rfl, hS, fun b o e => ?_⟩
      have hb0 : b < s.heap.objs.size := Heap.lt_size e
      exact hm.heap b o (by rw [zS]; simp only [List.mem_cons, List.not_mem_nil, or_false, not_or]; exact ⟨Nat.ne_of_lt hb0, Nat.ne_of_lt (Nat.lt_succ_of_lt hb0)⟩) (Heap.get?_push_of_some _ (Heap.get?_push_of_some _ e))
    · match r2, hr2 with
      | .error e, hr2 => exact hr2
      | .ok (.ret r), hr2 =>
        obtain ⟨rfl, h', tk, rfl, hS, hk⟩ := hr2
        repeat (any_goals (first | assumption | wp_step))
        exact h _ _ hS hk
end
end Zj

namespace Zj
open PySem PySem.Spec PyProof.Rows L2
/-- the order of texts -/
def leS (a b : Str) : Prop := PySem.W.dataLe false PyData.str a b = true
def SetSO (P : Program) (w : World) (a : Addr) (ts : List Str) : HO := .ext fun h => SetSR P w h a ts
section
variable {X : Cx}
theorem setSO_new {P : Program} {w : World} {H : Hp} {h : Heap} {a : Addr} {ts : List Str} (R : SetSR P w h a ts) : ObjOk P w H h a (SetSO P w a ts) := by
  obtain ⟨o, r⟩ := id R
  show SetSR P w h a ts ∧ (∃ o, h.get? a = some o) ∧ _
  refine ⟨R, ⟨o, by obtain ⟨_, _, _, g, _⟩ := r; exact g⟩, fun h1 h2 r f => ?_⟩
  obtain ⟨o, es, ep, t, hg, r⟩ := r
  exact ⟨o, es, ep, t, f o hg, r⟩
theorem setSO_get {pins : List (Addr × Obj)} {σ : L2.St} {H : Hp} {s : Shared} {a : Addr} {ts : List Str} (I : Inv X pins σ H s) (h : H a = some (SetSO X.prog X.w a ts)) : SetSR X.prog X.w s.heap a ts := (I.hok a _ h).1
theorem strs_vals : ∀ {ts : List Str} {its : List Value}, Vals (ts.map V.str) its → PyProof.Rows.StrsAre its ts
  | [], _, .nil => .nil
  | t :: ts, _, .cons r h => by
    obtain ⟨tk, rfl⟩ := r
    exact .cons _ _ (strs_vals h)
theorem vals_strs : ∀ {ys : List Str} {out : List Value}, PySem.W.EachIs RStr out ys → Vals (ys.map V.str) out
  | _, _, .nil => .nil
  | _, _, .cons ⟨tk, e⟩ h => .cons ⟨tk, e⟩ (vals_strs h)
def rSetLS (K : PySem.W.Frag) (P : Program) (w : World) : List V → Hp → VK → Prop := fun xs H Q => ∃ (l : Addr) (ts : List Str), xs = [.ref l] ∧ SqL K H l (ts.map V.str) ∧ ts.length + 1 < scanBound ∧ ∀ p : Addr, H p = none → Q (.ref p) (upd H p (SetSO P w p ts))
theorem cr_setLS (hc : X.calm = true) : CallR X (.type "set") (rSetLS X.K X.prog X.w) := by
  intro pins s σ H xs us Q I r h
  obtain ⟨l, ts, rfl, hs, hb, q⟩ := h
  rw [Vals.ref1 r]
  obtain ⟨its, rv, pl, hz⟩ := I.list hs
  refine call_set_listS ts (I.ok.hd hc) pl.isList (by simpa using strs_vals rv) hb fun h' tk R sb => ?_
  exact ⟨.ref _, upd H s.heap.objs.size (SetSO X.prog X.w s.heap.objs.size ts), I.laid (h' := h') (t' := tk) sb (Nat.le_refl _) (setSO_new R), rfl, q _ (I.hok.fresh (Nat.le_refl _))⟩
def rSortedSS (P : Program) (w : World) : List V → Hp → VK → Prop := fun xs H Q => ∃ (a : Addr) (ts : List Str), xs = [.ref a] ∧ H a = some (SetSO P w a ts) ∧ ts.length + 1 < scanBound ∧
  ∀ (ys : List Str) (p : Addr), ys.Nodup → (∀ y, y ∈ ys ↔ y ∈ ts) → ys.Pairwise leS → ys.length ≤ ts.length → H p = none → Q (.ref p) (upd H p (.lst (ys.map V.str)))
theorem cr_sortedSS (hc : X.calm = true) (hu : X.A.units + 64 < cLine) : CallR X (.builtin "sorted") (rSortedSS X.prog X.w) := by
  intro pins s σ H xs us Q I r h
  obtain ⟨a, ts, rfl, ha, hb, q⟩ := h
  rw [Vals.ref1 r]
  refine sorted_setS (setSO_get I ha) (I.ok.hd hc) hu fun s' p out c ys k1 g1 o1 z1 hB eo l1 nd hm pw => ?_
  have J := I.laid (h' := s'.heap) (a := p) (o := .lst (ys.map V.str)) (t' := s'.toks) k1 z1 (by
    have lz : ts.length ≤ sizeLine := by
      have : scanBound ≤ sizeLine := by decide
      omega
    exact ⟨by rw [List.length_map]; omega, out, c, vals_strs eo, hB⟩)
  exact ⟨.ref p, upd H p (.lst (ys.map V.str)), ⟨J.ok, by rw [o1]; exact J.os, by rw [g1]; exact J.bare, J.base, J.loc, J.cell, J.free, J.freeC, J.pin, J.hok, J.len⟩, rfl, q _ _ nd hm pw l1 (I.hok.fresh z1)⟩
end
end Zj
namespace Zj
open PySem L2
section
variable {I : DkI} {K : PySem.W.Frag}
theorem dvS {O : Addr → Prop} {H : Hp} : ∀ ys : List Str, DvAll K O H (ys.map V.str) (ys.map PyData.str)
  | [] => .nil
  | y :: ys => .cons (.str y) (dvS ys)
/-- sorted(set(xs)), xs a list of texts -/
def aSortSetS (T : AE) : AE := fun ρ Φ => T ρ fun r => ∃ ts : List Str, listOf r = some (ts.map PyData.str) ∧ ts.length + 1 < scanBound ∧ ∀ ys : List Str, ys.Nodup → (∀ y, y ∈ ys ↔ y ∈ ts) → ys.Pairwise leS → ys.length ≤ ts.length → Φ (.l (ys.map PyData.str))
theorem ea_sortSetS {P : Program} {w : World} {t : TE} {T : AE} (a : EA I K t T) : EA I K (tCB (rSortedSS P w) (tCons (tCB (rSetLS K P w) (tCons t tNil)) tNil)) (aSortSetS T) := fun G ad ρ σ H Φ Q C h k => by
  refine a G ad ρ σ H _ _ C h fun r v H1 e1 k1 v1 h1 => ?_
  have A1 := (At.start C).to e1 k1
  obtain ⟨ts, hr, hl, h1⟩ := h1
  obtain ⟨q, us, rfl, l1, dv, nw⟩ := A1.list v1 hr
  cases dv_strs dv
  refine ⟨q, ts, rfl, SqL.of l1, hl, fun S fS => ?_⟩
  have eS : Ext G.W H1 (upd H1 S (SetSO P w S ts)) := Ext.new fS
  have A2 := A1.to eS (k1.new fS)
  have hS : upd H1 S (SetSO P w S ts) S = some (SetSO P w S ts) := upd_same
  generalize upd H1 S (SetSO P w S ts) = H2 at eS A2 hS
  exact ⟨S, ts, rfl, hS, hl, fun ys p nd hm pw lz fp => k (.l (ys.map PyData.str)) _ _ ((e1.trans eS).trans (Ext.new fp)) (A2.k.new fp) ⟨p, _, rfl, A2.fr fp, upd_same, dvS ys⟩ (h1 ys nd hm pw lz)⟩
/-- sorted(xs), xs a list of texts -/
def fSortedLS : List R → (R → Prop) → Prop
  | [r], Φ => ∃ ts : List Str, listOf r = some (ts.map PyData.str) ∧ ∀ ys : List Str, ys.Perm ts → ys.Pairwise leS → Φ (.l (ys.map PyData.str))
  | _, _ => False
end
end Zj

namespace Zj
open PySem PySem.SeqAt
section
variable {A : Around} {s : Shared}
theorem rc_str_dict {l : Addr} {dd : Option Addr} {sl : Array (Option Value)} {kvs : Array DictEntry} {ep} (b : Str) (u : Tok) (ho : s.heap.get? l = some { cls := .type "dict", dict := dd, data := .dict kvs ep, slots := sl }) (hu : A.units < cLine) : RcAt A s (.str b u) (.ref l) false := fun prog w E Q h =>
  rc_eq_decline_or (k := false) (typeIs_str s b u) ⟨_, ho, rfl⟩ (by decide) F.sub_dict_str F.slot_str_eq F.slot_dict_eq_refl
    (fun _ hq => call_meets F.slot_str_eq (typeIs_str s b u) F.entry_str_eq (F.args_str_eq_2 _ _) (str_eq_declines_dict b u l dd sl kvs) ⟨ho, hq⟩)
    (fun _ hq => call_meets F.slot_dict_eq_refl ⟨_, ho, rfl⟩ F.entry_dict_eq (F.args_dict_eq_2 _ _) (dict_eq_declines_str l dd sl kvs b u) ⟨ho, hq⟩)
    (fun _ hq => wpAny_of_eq (rfl : isSame (.str b u) (.ref l) = pure false) hq) (.inr hu) h
theorem eqAt_str_dict {l : Addr} {dd : Option Addr} {sl : Array (Option Value)} {kvs : Array DictEntry} {ep} (b : Str) (u : Tok) (ho : s.heap.get? l = some { cls := .type "dict", dict := dd, data := .dict kvs ep, slots := sl }) (hu : A.units < cLine) : EqAt A s (.str b u) (.ref l) false := fun prog w E Q h => by
  unfold eqBool
  refine wpAny_holding ?_
  rw [if_neg (show ¬ (Value.str b u == Value.ref l) = true by intro z; cases z)]
  show wpAny (model prog w) A (do let r ← richCompare CmpOp.Eq (Value.str b u) (Value.ref l); truthOfDropped r) Q E s
  refine wpAny_bind (rc_str_dict b u ho hu prog w _ _ ?_)
  exact wpAny_of_eq (rfl : truthOfDropped (.bool false) = pure false) h
end
end Zj
namespace Zj
open PySem PySem.Spec PyProof.Rows L2
section
variable {X : Cx}
/-- whether any datum is among written texts -/
def rInX (K : PySem.W.Frag) (neg : Bool) : R2 := fun x y H Q => ∃ (p : Addr) (ts : List Str), y = .ref p ∧ SqT K H p (ts.map V.str) ∧ ((∃ a, x = .ref a ∧ Thg K H a ∧ Q (.bl neg) H) ∨ (flatV x = true ∧ Q (.bl (if neg then !inV x (ts.map V.str) else inV x (ts.map V.str))) H))
theorem all_strs : ∀ {its : List Value} {ts : List Str}, StrsAre its ts → ∀ z ∈ its, ∃ y t, z = Value.str y t
  | _, _, .nil, _, h => nomatch h
  | _, _, .cons y t r, z, h => (List.mem_cons.mp h).elim (fun e => ⟨y, t, e⟩) (all_strs r z)
theorem flat_strs : ∀ ts : List Str, (ts.map V.str).all flatV = true
  | [] => rfl
  | t :: ts => by rw [List.map_cons, List.all_cons, flat_strs ts]; rfl
theorem op_inX (hu : X.A.units + 65 < cLine) : OpR X (compareOp .In) (rInX X.K false) := by
  intro pins s σ H x y v u Q I rx ry h
  obtain ⟨p, ts, rfl, hp, h | ⟨hf, q⟩⟩ := h
  · obtain ⟨a, rfl, th, q⟩ := h
    cases rx
    cases ry
    obtain ⟨its, rv, ht, hz⟩ := I.tuple hp
    obtain ⟨⟨cls, dd, data, sl⟩, g1, g2, n, g3⟩ := ht
    simp only at g2 g3
    subst g2 g3
    have ss := strs_vals rv
    have tp : s.TypeIs (.ref p) "tuple" := ⟨_, g1, rfl⟩
    show wpAny _ X.A (do let b ← contains (.ref p) (.ref a); pure (Value.bool b)) _ _ _
    refine wpAny_bind (wpAny_contains_slot tp F.slot_tuple_contains (call_meets F.slot_tuple_contains tp F.entry_tuple_contains (F.args_tuple_contains_2 _ _) (SeqAt.tuple_containsAt p its.toArray n dd sl (.ref a) fun _ => false) ⟨g1, fun z hz2 => ?_, ?_⟩))
    · obtain ⟨y, tk, rfl⟩ := all_strs ss z (List.mem_toArray.mp hz2)
      have hu1 : X.A.in1.units < cLine := by
        show X.A.units + 1 < cLine
        omega
      rcases th with ⟨xs, h⟩ | ⟨xs, h⟩ | ⟨od, kvs, h⟩
      · obtain ⟨its2, r, ht, hz⟩ := I.tuple h
        exact SeqAt.EqAt.str_tuple y tk ht hu1
      · obtain ⟨its2, r, ht, hz⟩ := I.list h
        exact SeqAt.EqAt.str_list y tk ht.isList hu1
      · obtain ⟨_, _, vs, _, ⟨cls, dd2, data, sl2⟩, es, ep, h1, h2, h3, _⟩ := dk_rd I.hok (.inr ⟨od, h⟩)
        have h4 := h2.1
        simp only at h3 h4
        subst h3 h4
        exact eqAt_str_dict y tk h1 hu1
    · have e : (its.toArray.any fun _ => false) = false := by simp
      rw [e]
      exact wpAny_of_eq (rfl : truthy (.bool false) = pure false) (wpAny_pure ⟨.bl false, H, I, rfl, q⟩)
  · exact op_in_seq pins s σ H _ _ v u Q I rx ry ⟨p, _, rfl, .inr hp, hf, flat_strs ts, q⟩
/-- tuple == () -/
def rEqT0 (K : PySem.W.Frag) : R2 := fun x y H Q => ∃ a b us, x = .ref a ∧ y = .ref b ∧ SqT K H a us ∧ SqT K H b [] ∧ Q (.bl us.isEmpty) H
theorem op_eqT0 (hu : X.A.units < cLine) : OpR X (compareOp .Eq) (rEqT0 X.K) := by
  intro pins s σ H x y v u Q I rx ry h
  obtain ⟨a, b, us, rfl, rfl, ha, hb, q⟩ := h
  cases rx
  cases ry
  obtain ⟨its, r1, p1, _⟩ := I.tuple ha
  obtain ⟨its2, r2, p2, _⟩ := I.tuple hb
  cases r2
  have := SeqAt.RcAt.tuples (A := X.A) (s := s) (e := fun _ => true) p1 p2 hu (fun j h1 h2 => absurd h2 (Nat.not_lt_zero j))
  refine this X.prog X.w _ _ ?_
  have e : ((List.range (min its.toArray.size 0)).all (fun _ => true) && its.toArray.size == 0) = us.isEmpty := by
    rw [Nat.min_zero]
    cases r1 with
    | nil => rfl
    | cons _ _ => rfl
  exact ⟨.bl us.isEmpty, H, I, by rw [← e]; rfl, q⟩
/-- sorted(t), t a tuple of tuples that are alike -/
def rSortedDT (K : PySem.W.Frag) : List V → Hp → VK → Prop := fun xs H Q => ∃ (l : Addr) (us : List V) (ds : List PyData), xs = [.ref l] ∧ SqT K H l us ∧ DpAll K H us ds ∧ (∀ d ∈ ds, ∀ e ∈ ds, PySem.W.alike d e = true) ∧ (∀ d ∈ ds, ∃ x r, d = .tuple (x :: r)) ∧ (∀ d ∈ ds, d.depth ≤ 40) ∧
  ∀ (p : Addr) (ps : List (V × PyData)), ps.Perm (us.zip ds) → ps.Pairwise (fun a b => PySem.W.dataLe false (fun b : V × PyData => b.2) a b = true) → H p = none → Q (.ref p) (upd H p (.lst (ps.map fun p => p.1)))
theorem cr_sortedDT (hc : X.calm = true) (hu : X.A.units + 64 < cLine) : CallR X (.builtin "sorted") (rSortedDT X.K) := by
  intro pins s σ H vs uvs Q I r h
  obtain ⟨l, us, ds, rfl, hs, hd, hal, ht, hdp, q⟩ := h
  obtain ⟨its, rv, hl, hz⟩ := I.tuple hs
  rw [Vals.ref1 r]
  obtain ⟨dz, lz⟩ := dpAll_zip hd
  have e1 := each_vals rv lz
  have zl : (us.zip ds).length = us.length := by rw [List.length_zip, ← lz, Nat.min_self]
  have z2 : (us.zip ds).map (fun b => b.2) = ds := zip_map2 lz
  have li : its.length = us.length := rv.length.symm
  obtain ⟨⟨cls, dd, data, sl⟩, g1, g2, n, g3⟩ := hl
  simp only at g2 g3
  subst g2 g3
  refine Calls.call_function_entry kind_sorted plain_sorted entry_sorted (args_sorted1 _) ?_
  unfold Builtin.«sorted»
  refine wpAny_bind (m := checkCount "sorted" 1 1 _) (wpAny_pure ?_)
  refine wpAny_bind (wpAny_collect_seq l (.inr rfl) g1 rfl rfl (fun h' k1 => ?_) (by rw [List.size_toArray, li]; exact hz))
  refine wpAny_bind (wpAny_newList ?_ (by show its.length ≤ sizeLine; omega))
  have hB : (h'.push { cls := .type "list", data := .seq its.toArray }).get? h'.objs.size = some (seqObj "list" its.toArray 0) := Heap.get?_push_size _ rfl
  have lt1 : ∀ b ob, s.heap.get? b = some ob → b < h'.objs.size := fun b ob e => Heap.lt_size (k1 b ob e)
  have kS : ∀ b ob, s.heap.get? b = some ob → (PySem.W.sortingHeap (h'.push { cls := .type "list", data := .seq its.toArray }) h'.objs.size its).get? b = some ob := fun b ob e =>
    PySem.W.sortingHeap_old (Nat.ne_of_lt (lt1 b ob e)) (Heap.get?_push_of_some _ (k1 b ob e))
  have IS := I.kept (t' := s.toks) kS
  have er := each_reads IS e1 dz
  have hal2 : PySem.W.AllAlike ((us.zip ds).map fun b => b.2) := by rw [z2]; exact hal
  have hk2 : PySem.W.Sortable ((us.zip ds).map fun b => b.2) := .inl (by rw [z2]; exact ht)
  have hdep : ∀ b ∈ us.zip ds, X.A.in1.units + 1 + (b.2).depth < cLine := fun b hb => by
    have := hdp b.2 (List.of_mem_zip hb).2
    show X.A.units + 1 + 1 + b.2.depth < cLine
    omega
  refine wpAny_bind (wpAny_holding (wpAny_call_entry slot_list_sort ⟨_, hB, rfl⟩ entry_list_sort (PySem.W.list_sort_vals (s := { s with heap := h'.push { cls := .type "list", data := .seq its.toArray } }) (κ := PySem.W.dataKind (PySem.W.sortingHeap (h'.push { cls := .type "list", data := .seq its.toArray }) h'.objs.size its) ((us.zip ds).map fun b => b.2)) hB (PySem.W.SortsAt.data (s := { s with heap := PySem.W.sortingHeap (h'.push { cls := .type "list", data := .seq its.toArray }) h'.objs.size its }) (PySem.W.each_map (R := fun v d => ∃ cs, Reads (PySem.W.sortingHeap (h'.push { cls := .type "list", data := .seq its.toArray }) h'.objs.size its) v d cs) (fun b : V × PyData => b.2) er) hal2 hk2 (PySem.W.bound_map hdep)) (by omega) ⟨.none, rfl, ?_⟩) (args_list_sort _)))
  refine wpAny_pure ⟨_, rfl, ?_⟩
  have eo := PySem.W.sortVals_data (enc := fun b : V × PyData => b.2) false e1 er hal2
  generalize PySem.W.sortVals (PySem.W.dataKind (PySem.W.sortingHeap (h'.push { cls := .type "list", data := .seq its.toArray }) h'.objs.size its) ((us.zip ds).map fun b => b.2)) false its its = out at eo
  have perm := List.mergeSort_perm (us.zip ds) (PySem.W.dataLe false fun b : V × PyData => b.2)
  have pw : ((us.zip ds).mergeSort (PySem.W.dataLe false fun b : V × PyData => b.2)).Pairwise fun a b => PySem.W.dataLe false (fun b : V × PyData => b.2) a b = true := PySem.W.sort_pairwise (le := PySem.W.dataLe false fun b : V × PyData => b.2) (by unfold PySem.W.dataLe; exact PySem.W.sortLe_total _ _ _) (us.zip ds)
  generalize (us.zip ds).mergeSort (PySem.W.dataLe false fun b : V × PyData => b.2) = ps at perm pw eo
  obtain ⟨c, hBF⟩ := sortedHeap_at (out := out.toArray) hB
  have fresh : H h'.objs.size = none := by
    cases e : H h'.objs.size with
    | none => rfl
    | some o =>
      have f := (I.kept (h' := h') (t' := s.toks) k1).hok.fresh (Nat.le_refl _)
      rw [e] at f
      cases f
  have lp : ps.length = us.length := perm.length_eq.trans zl
  have J := I.kept (h' := h') (t' := s.toks) k1
  have kF : ∀ b ob, h'.get? b = some ob → (sortedHeap (h'.push { cls := .type "list", data := .seq its.toArray }) h'.objs.size its out.toArray).get? b = some ob := fun b ob e => by
    rw [sortedHeap_old (Nat.ne_of_lt (Heap.lt_size e)) (by rw [Heap.size_push]; exact Nat.lt_succ_of_lt (Heap.lt_size e))]
    exact Heap.get?_push_of_some _ e
  exact ⟨.ref h'.objs.size, upd H h'.objs.size (.lst (ps.map fun p => p.1)), J.laid (t' := s.toks) kF (Nat.le_refl _) ⟨by rw [List.length_map, lp]; exact hz, out, c, vals_of_each eo, hBF⟩, rfl, q _ ps perm pw fresh⟩
end
end Zj
namespace Zj
open PySem L2
section
variable {I : DkI} {K : PySem.W.Frag}
def fLtS : R → R → (R → Prop) → Prop
  | .d (.str i), .d (.str j), Φ => Φ (.d (.bool (decide (i.cps.toList < j.cps.toList))))
  | _, _, _ => False
theorem oa_ltS : OpA I K (fun x y H Q => ∃ i j, x = .str i ∧ y = .str j ∧ Q (.bl (decide (i.cps.toList < j.cps.toList))) H) fLtS := fun G ad ρ σ H0 H x y rx ry Φ Q a vx vy h k => by
  match rx, ry, h with
  | .d (.str i), .d (.str j), h =>
    cases (vx : Dv K _ H x (.str i))
    cases (vy : Dv K _ H y (.str j))
    exact ⟨i, j, rfl, rfl, k (.d _) _ _ (Ext.refl _) a.k (Dv.bl _) h⟩
def fLeS : R → R → (R → Prop) → Prop
  | .d (.str i), .d (.str j), Φ => Φ (.d (.bool (!decide (j.cps.toList < i.cps.toList))))
  | _, _, _ => False
theorem oa_leS : OpA I K (fun x y H Q => ∃ i j, x = .str i ∧ y = .str j ∧ Q (.bl (!decide (j.cps.toList < i.cps.toList))) H) fLeS := fun G ad ρ σ H0 H x y rx ry Φ Q a vx vy h k => by
  match rx, ry, h with
  | .d (.str i), .d (.str j), h =>
    cases (vx : Dv K _ H x (.str i))
    cases (vy : Dv K _ H y (.str j))
    exact ⟨i, j, rfl, rfl, k (.d _) _ _ (Ext.refl _) a.k (Dv.bl _) h⟩
def fEqT0 : R → R → (R → Prop) → Prop
  | .d (.tuple xs), .d (.tuple []), Φ => Φ (.d (.bool xs.isEmpty))
  | _, _, _ => False
theorem oa_eqT0 : OpA I K (rEqT0 K) fEqT0 := fun G ad ρ σ H0 H x y rx ry Φ Q a vx vy h k => by
  match rx, ry, h with
  | .d (.tuple xs), .d (.tuple []), h =>
    obtain ⟨p, ws, rfl, g, d⟩ := dv_tup (show Dv K _ H x (.tuple xs) from vx)
    obtain ⟨q, us, rfl, g2, d2⟩ := dv_tup (show Dv K _ H y (.tuple []) from vy)
    cases d2
    refine ⟨p, q, ws, rfl, rfl, g.1, g2.1, k (.d _) _ _ (Ext.refl _) a.k (Dv.bl _) ?_⟩
    have : ws.isEmpty = xs.isEmpty := by cases d <;> rfl
    rw [this]
    exact h
/-- whether a datum is one of these texts -/
def inX (x : PyData) (ts : List Str) : Bool := ts.any fun t => eqX x t
def fInX : R → R → (R → Prop) → Prop
  | .d x, .d (.tuple ds), Φ => ∃ ts : List Str, ds = ts.map PyData.str ∧ Φ (.d (.bool (inX x ts)))
  | _, _, _ => False
theorem inV_eq {x : V} {d : PyData} (hf : flatV x = true) (h : ∀ j : Str, decide (x = .str j) = eqX d j) : ∀ ts : List Str, inV x (ts.map V.str) = inX d ts := fun ts => by
  unfold inV inX
  rw [List.any_map]
  congr 1
  funext t
  rw [← h t]
  show eqV (.str t) x = decide (x = .str t)
  cases x with
  | str z =>
    show (t == z) = decide (V.str z = V.str t)
    by_cases e : z = t
    · subst e; simp
    · rw [decide_eq_false (fun q => e (V.str.inj q))]
      exact beq_false_of_ne fun q => e q.symm
  | non => rfl
  | bl b => rfl
  | int i => rfl
  | _ => cases hf
theorem inX_no {d : PyData} (h : ∀ s, d ≠ .str s) : ∀ ts : List Str, inX d ts = false
  | [] => rfl
  | t :: ts => by
    show (eqX d t || inX d ts) = false
    rw [inX_no h ts]
    cases d with
    | str s => exact (h s rfl).elim
    | _ => rfl
theorem oa_inX : OpA I K (rInX K false) fInX := fun G ad ρ σ H0 H x y rx ry Φ Q a vx vy h k => by
  match rx, ry, h with
  | .d d, .d (.tuple ds), h =>
    obtain ⟨ts, rfl, h⟩ := h
    obtain ⟨p, ws, rfl, g, dv⟩ := dv_tup (show Dv K _ H y (.tuple (ts.map PyData.str)) from vy)
    cases dv_strs dv
    refine ⟨p, ts, rfl, g.1, ?_⟩
    cases (vx : Dv K _ H x d) with
    | non => exact .inr ⟨rfl, k (.d (.bool (inX _ ts))) _ _ (Ext.refl _) a.k (by show Dv K _ H (.bl (inV _ (ts.map V.str))) _; rw [inV_eq (d := .none) rfl (fun j => by simp [eqX])]; exact Dv.bl _) h⟩
    | bl b => exact .inr ⟨rfl, k (.d (.bool (inX _ ts))) _ _ (Ext.refl _) a.k (by show Dv K _ H (.bl (inV _ (ts.map V.str))) _; rw [inV_eq (d := (.bool b)) rfl (fun j => by simp [eqX])]; exact Dv.bl _) h⟩
    | int i => exact .inr ⟨rfl, k (.d (.bool (inX _ ts))) _ _ (Ext.refl _) a.k (by show Dv K _ H (.bl (inV _ (ts.map V.str))) _; rw [inV_eq (d := (.int i)) rfl (fun j => by simp [eqX])]; exact Dv.bl _) h⟩
    | str z => exact .inr ⟨rfl, k (.d (.bool (inX _ ts))) _ _ (Ext.refl _) a.k (by show Dv K _ H (.bl (inV _ (ts.map V.str))) _; rw [inV_eq (d := (.str z)) rfl (fun j => by simp [eqX])]; exact Dv.bl _) h⟩
    | lst h1 h2 => exact .inl ⟨_, rfl, .inr (.inl ⟨_, SqL.of h1.2⟩), k (.d _) _ _ (Ext.refl _) a.k (Dv.bl false) (by rw [← inX_no (d := (.list _)) (fun s e => nomatch e) ts]; exact h)⟩
    | tup h1 h2 => exact .inl ⟨_, rfl, .inl ⟨_, h1.1⟩, k (.d _) _ _ (Ext.refl _) a.k (Dv.bl false) (by rw [← inX_no (d := (.tuple _)) (fun s e => nomatch e) ts]; exact h)⟩
    | dic h1 h2 => exact .inl ⟨_, rfl, .inr (.inr ⟨h1.2.choose, _, h1.2.choose_spec⟩), k (.d _) _ _ (Ext.refl _) a.k (Dv.bl false) (by rw [← inX_no (d := (.dict _)) (fun s e => nomatch e) ts]; exact h)⟩
/-- sorted(t), t a tuple of tuples that are alike -/
def fSortedDT : List R → (R → Prop) → Prop
  | [.d (.tuple ds)], Φ => (∀ d ∈ ds, ∀ e ∈ ds, PySem.W.alike d e = true) ∧ (∀ d ∈ ds, (∃ x r, d = .tuple (x :: r)) ∧ d.depth ≤ 40 ∧ d.hasDict = false) ∧ ∀ es : List PyData, es.Perm ds → es.Pairwise (fun a b => PySem.W.dataLe false id a b = true) → Φ (.l es)
  | _, _ => False
theorem cb_sortedDT : CbA I K (rSortedDT K) fSortedDT := fun G ad ρ σ H0 H xs rs Φ Q A hv h k => by
  match rs, h with
  | [.d (.tuple ds)], h =>
    obtain ⟨hal, ht, h⟩ := h
    obtain ⟨v, rfl, w1⟩ := rv1 hv
    obtain ⟨q, us, rfl, g, dv⟩ := dv_tup (show Dv K _ H v (.tuple ds) from w1)
    refine ⟨q, us, ds, rfl, g.1, DvAll.dp ds us (hasDictAll_of fun d hd => (ht d hd).2.2) dv, hal, fun d hd => (ht d hd).1, fun d hd => (ht d hd).2.1, fun p ps perm pw fp => ?_⟩
    have hs : Ext G.W H (upd H p (.lst (ps.map fun p => p.1))) := Ext.new fp
    refine k (.l (ps.map fun p => p.2)) _ _ hs (A.k.new fp) ⟨p, _, rfl, A.fr fp, upd_same, ?_⟩ (h _ (zip_map_perm (by rw [dv.len]) perm) ?_)
    · refine DvAll.ext (W := G.W) (dvAll_of fun z hz => ?_) (Ext.new fp) fun b w => .inl (A.wO b w)
      exact (dvAll_pick dv z (perm.mem_iff.mp hz)).fresh fp fun b z => z
    · rw [List.pairwise_map]
      exact pw
end
end Zj

namespace Zj
open PySem PySem.Spec PyProof.Rows L2
section
variable {I : DkI} {K : PySem.W.Frag} {G : Gh I} {ad ad' ad2 : Nat → Addr} {ρ ρ' ρ2 : ASt} {σ σ' : L2.St} {H H0 H1 H' H2 : Hp} {p : Addr} {us : List (Key × V)}
/-- what a statement leaves, the table aside -/
structure StP (p : Addr) (G : Gh I) (ad : Nat → Addr) (ρ : ASt) (H : Hp) (ad' : Nat → Addr) (ρ' : ASt) (H' : Hp) : Prop where
  pres : ∀ b o, b ≠ p → ¬ Mu G ad ρ b → H b = some o → H' b = some o
  own : ∀ i, ownAt ρ' i → (∃ j, ownAt ρ j ∧ ad' i = ad j) ∨ H (ad' i) = none
  live : ∀ b, (∃ o, H b = some o) → ∃ o, H' b = some o
theorem StP.refl : StP p G ad ρ H ad ρ H := ⟨fun _ _ _ _ h => h, fun i h => .inl ⟨i, h, rfl⟩, fun _ h => h⟩
theorem Step.off (s : Step G ad ρ H ad' ρ' H') : StP p G ad ρ H ad' ρ' H' := ⟨fun b o _ n h => s.pres b o n h, s.own, s.live⟩
theorem StP.mu (s : StP p G ad ρ H ad' ρ' H') {b : Addr} {o : HO} (n : ¬ Mu G ad ρ b) (h : H b = some o) : ¬ Mu G ad' ρ' b := by
  rintro (w | ⟨i, hi, rfl⟩)
  · exact n (.inl w)
  · rcases s.own i hi with ⟨j, hj, e⟩ | e
    · exact n (.inr ⟨j, hj, e⟩)
    · rw [h] at e; cases e
theorem StP.notO (s : StP p G ad ρ H ad' ρ' H') {a : Addr} {o : HO} (h : H a = some o) (n : ¬ Ow G ad ρ a) : ¬ Ow G ad' ρ' a := by
  rintro (z | ⟨i, hi, rfl⟩)
  · exact n (.inl z)
  · rcases s.own i hi with ⟨j, hj, e⟩ | e
    · exact n (.inr ⟨j, hj, e⟩)
    · rw [h] at e; cases e
theorem StP.trans (s : StP p G ad ρ H ad' ρ' H') (t : StP p G ad' ρ' H' ad2 ρ2 H2) : StP p G ad ρ H ad2 ρ2 H2 where
  pres := fun b o ne n h => t.pres b o ne (s.mu n h) (s.pres b o ne n h)
  own := fun i hi => by
    rcases t.own i hi with ⟨j, hj, e⟩ | e
    · rw [e]
      exact s.own j hj
    · refine .inr ?_
      cases q : H (ad2 i) with
      | none => rfl
      | some o =>
        obtain ⟨u, z⟩ := s.live _ ⟨o, q⟩
        rw [e] at z
        cases z
  live := fun b h => t.live b (s.live b h)
theorem DvAll.offK {O : Addr → Prop} (hp : H p = some (.dK us)) : ∀ {vs : List V} {xs : List PyData}, DvAll K O H vs xs → DvAll K (fun b => O b ∨ b = p) H vs xs
  | _, _, .nil => .nil
  | _, _, .cons h t => .cons (h.offK hp) (DvAll.offK hp t)
theorem offX {u : HO} : Ext (fun b => b = p) H (upd H p u) := fun b o n e => by rw [upd_ne n]; exact e
theorem Dv.offU {O : Addr → Prop} {v : V} {x : PyData} {u : HO} (h : Dv K O H v x) (hp : H p = some (.dK us)) : Dv K O (upd H p u) v x := (Dv.ext (h.offK hp) offX fun b w => .inr w).weak fun b z => .inl z
theorem DvAll.offU {O : Addr → Prop} {u : HO} (hp : H p = some (.dK us)) : ∀ {vs : List V} {xs : List PyData}, DvAll K O H vs xs → DvAll K O (upd H p u) vs xs
  | _, _, .nil => .nil
  | _, _, .cons h t => .cons (h.offU hp) (DvAll.offU hp t)
theorem KvR.offU {O : Addr → Prop} {u : HO} {vs : List (Key × V)} {kvs : List (Key × PyData)} (h : KvR K O H vs kvs) (hp : H p = some (.dK us)) : KvR K O (upd H p u) vs kvs := by
  induction h with
  | nil => exact .nil
  | cons h1 _ ih => exact .cons (h1.offU hp) ih
/-- the table changes: nothing else is told otherwise -/
theorem Con.off {u : HO} (C : Con K G ad ρ σ H) (hp : H p = some (.dK us)) (np : ¬ Ow G ad ρ p) (n0 : G.H0 p = none) : Con K G ad ρ σ (upd H p u) where
  ok := C.ok
  live := fun {a} h => by
    obtain ⟨o, e⟩ := C.live h
    have ne : a ≠ p := fun z => np (z ▸ .inl h)
    exact ⟨o, by rw [upd_ne ne]; exact e⟩
  ownO := C.ownO
  dok := C.dok.out (fun a w => upd_ne (show a ≠ p from fun z => np (z ▸ C.wo w))) fun q b o z y e => by
    have ne : b ≠ p := fun w => by
      rcases C.ok.kp q b z y with g | ⟨u, g⟩
      · exact np (w ▸ .inl g)
      · rw [w, n0] at g; cases g
    rw [upd_ne ne]; exact e
  ext := fun b o w e => by
    have ne : b ≠ p := fun z => by rw [z, n0] at e; cases e
    rw [upd_ne ne]
    exact C.ext b o w e
  len := C.len
  inj := C.inj
  fr := C.fr
  sl := fun i => by
    have s := C.sl i
    cases h : (ρ[i]?).getD none with
    | none => trivial
    | some av =>
      rw [h] at s
      cases hv : σ[i]? with
      | none => rw [hv] at s; cases av <;> exact s.elim
      | some o =>
        cases o with
        | none => rw [hv] at s; cases av <;> exact s.elim
        | some v =>
          rw [hv] at s
          cases av with
          | d x => exact Dv.offU (s : Dv K _ H v x) hp
          | own xs =>
            obtain ⟨rfl, vs, h1, h2⟩ := s
            have ne : ad i ≠ p := fun z => by rw [z, hp] at h1; cases h1
            exact ⟨rfl, vs, by rw [upd_ne ne]; exact h1, h2.offU hp⟩
          | bl xs =>
            obtain ⟨a, vs, rfl, h1, h2⟩ := s
            have ne : a ≠ p := fun z => by have q := h1.2; rw [z, hp] at q; cases q
            exact ⟨a, vs, rfl, ⟨h1.1, by rw [upd_ne ne]; exact h1.2⟩, h2.offU hp⟩
          | dk => exact s
          | fn f => exact s
/-- the table: where it lies, and what it holds -/
structure Tb (K : PySem.W.Frag) (G : Gh I) (ad : Nat → Addr) (ρ : ASt) (H : Hp) (i : Nat) (p : Addr) (kvs : List (Key × PyData)) : Prop where
  at_ : ρ[i]? = some (some (.fn p))
  np : ¬ Ow G ad ρ p
  n0 : G.H0 p = none
  tb : ∃ us, H p = some (.dK us) ∧ KvR K (Ow G ad ρ) H us kvs
theorem KvR.step (C : Con K G ad ρ σ H) (s : Step G ad ρ H ad' ρ' H') {vs : List (Key × V)} {kvs : List (Key × PyData)} (h : KvR K (Ow G ad ρ) H vs kvs) : KvR K (Ow G ad' ρ') H' vs kvs := by
  induction h with
  | nil => exact .nil
  | cons h1 _ ih => exact .cons (Dv.step C s h1) ih
theorem Tb.step {i : Nat} {kvs : List (Key × PyData)} (T : Tb K G ad ρ H i p kvs) (C : Con K G ad ρ σ H) (s : Step G ad ρ H ad' ρ' H') (e : ρ'[i]? = ρ[i]?) : Tb K G ad' ρ' H' i p kvs := by
  obtain ⟨us, hp, kr⟩ := T.tb
  exact ⟨e.trans T.at_, s.notO C hp T.np, T.n0, us, s.pres _ _ (fun z => T.np (C.mo z)) hp, kr.step C s⟩
theorem Dv.stepP (C : Con K G ad ρ σ H) (hp : H p = some (.dK us)) (s : StP p G ad ρ H ad' ρ' H') {v : V} {x : PyData} (h : Dv K (Ow G ad ρ) H v x) : Dv K (Ow G ad' ρ') H' v x :=
  Dv.map (fun a xs h => ⟨s.notO h.2 fun z => h.1 (.inl z), s.pres _ _ (fun z => h.1 (.inr z)) (fun z => h.1 (.inl (C.mo z))) h.2⟩) (fun a xs h => by
    rcases h with ⟨h1, p1, h2 | h2⟩
    · have pr : ∀ o, H a = some o → H' a = some o := fun o e => s.pres _ _ (fun z => h2 (.inr z)) (fun z => h2 (.inl (C.mo z))) e
      have p2 : PlT K H' a xs := by
        rcases p1 with ⟨o, e, d⟩ | p1
        · exact .inl ⟨o, pr _ e, d⟩
        · exact .inr p1
      rcases h1 with h1 | h1
      · obtain ⟨o, e⟩ := rd_some h1
        refine ⟨.inl ?_, p2, .inl (s.notO e fun z => h2 (.inl z))⟩
        rcases h1 with h1 | ⟨o, h1⟩
        · exact .inl (pr _ h1)
        · exact .inr ⟨o, pr _ h1⟩
      · rcases p1 with ⟨o, e, _⟩ | p1
        · exact ⟨.inr h1, p2, .inl (s.notO e fun z => h2 (.inl z))⟩
        · exact ⟨.inr h1, p2, .inr fun _ => ⟨.inr h1, .inr p1⟩⟩
    · exact ⟨(h2 _).1, (h2 _).2, .inr h2⟩) (fun a kvs h => ⟨h.2.elim fun _ q => s.notO q fun z => h.1 (.inl z), h.2.imp fun _ q => s.pres _ _ (fun z => h.1 (.inr z)) (fun z => h.1 (.inl (C.mo z))) q⟩) _ _ (h.offK hp)
theorem DvAll.stepP (C : Con K G ad ρ σ H) (hp : H p = some (.dK us)) (s : StP p G ad ρ H ad' ρ' H') : ∀ {v : List V} {x : List PyData}, DvAll K (Ow G ad ρ) H v x → DvAll K (Ow G ad' ρ') H' v x
  | _, _, .nil => .nil
  | _, _, .cons h t => .cons (Dv.stepP C hp s h) (DvAll.stepP C hp s t)
abbrev ATD := (ASt → List (Key × PyData) → Prop) → ASt → List (Key × PyData) → Prop
variable (I K) in
/-- a statement beside the table in slot i -/
def SAD (i : Nat) (t : TS) (T : ATD) : Prop := ∀ (G : Gh I) (ad : Nat → Addr) (ρ : ASt) (σ : L2.St) (H : Hp) (p : Addr) (kvs : List (Key × PyData)) (Φ : ASt → List (Key × PyData) → Prop) (D : Ends), Con K G ad ρ σ H → Tb K G ad ρ H i p kvs → T Φ ρ kvs →
  (∀ ad' ρ' σ' H' kvs', Con K G ad' ρ' σ' H' → Tb K G ad' ρ' H' i p kvs' → StP p G ad ρ H ad' ρ' H' → Φ ρ' kvs' → D.nx σ' H') → t D σ H
variable {i : Nat}
def dOf (i : Nat) (T : ATS) : ATD := fun Φ ρ kvs => T { nx := fun ρ' => ρ'[i]? = ρ[i]? ∧ Φ ρ' kvs, rt := fun _ => False } ρ
theorem sd_of {t : TS} {T : ATS} (a : SA I K t T) : SAD I K i t (dOf i T) := fun G ad ρ σ H p kvs Φ D C Tt h k =>
  a G ad ρ σ H _ D C h ⟨fun ad' ρ' σ' H' c s q => k ad' ρ' σ' H' kvs c (Tt.step C s q.1) s.off q.2, fun _ _ _ _ _ _ q => q.elim, fun _ _ _ _ _ _ q => q.elim, fun _ _ _ _ _ _ q => q.elim⟩
def dSeq (T U : ATD) : ATD := fun Φ ρ kvs => T (U Φ) ρ kvs
def dIf (c : AT) (T U : ATD) : ATD := fun Φ ρ kvs => c ρ fun b => if b = true then T Φ ρ kvs else U Φ ρ kvs
theorem sd_if {c : TT} {t u : TS} {cT : AT} {T U : ATD} (a : TAb I K c cT) (b : SAD I K i t T) (d : SAD I K i u U) : SAD I K i (tIfS c t u) (dIf cT T U) := fun G ad ρ σ H p kvs Φ D C Tt h k => by
  refine a G ad ρ σ H _ _ C h fun x H1 e1 k1 h1 => ?_
  have A1 := (At.start C).to e1 k1
  have T1 := Tt.step C A1.step rfl
  cases x with
  | true => exact iteT (b G ad ρ σ H1 p kvs Φ D A1.con T1 (by rw [if_pos rfl] at h1; exact h1) fun ad2 ρ2 σ2 H2 kvs2 c2 q2 s2 g2 => k ad2 ρ2 σ2 H2 kvs2 c2 q2 (A1.step.off.trans s2) g2)
  | false => exact iteF (d G ad ρ σ H1 p kvs Φ D A1.con T1 (by rw [if_neg Bool.false_ne_true] at h1; exact h1) fun ad2 ρ2 σ2 H2 kvs2 c2 q2 s2 g2 => k ad2 ρ2 σ2 H2 kvs2 c2 q2 (A1.step.off.trans s2) g2)
theorem Tb.get {kvs : List (Key × PyData)} (T : Tb K G ad ρ H i p kvs) (C : Con K G ad ρ σ H) : σ[i]? = some (some (.ref p)) := by
  have s := C.sl i
  rw [T.at_] at s
  cases e : σ[i]? with
  | none => rw [e] at s; exact s.elim
  | some o =>
    cases o with
    | none => rw [e] at s; exact s.elim
    | some v =>
      rw [e] at s
      have s : v = .ref p := s
      rw [s]
theorem dv_keyV {O : Addr → Prop} {v : V} : ∀ {k : Key}, Dv K O H v (keyD k) → v = kV k
  | .inl _, h => by cases h; rfl
  | .inr _, h => by cases h; rfl
/-- t[k] = v -/
def dPut (TK TV : AE) : ATD := fun Φ ρ kvs => TV ρ fun rv => ∃ y, dataOf rv = some y ∧ TK ρ fun rk => ∃ k, rk = .d (keyD k) ∧ kvs.length < sizeLine ∧ Φ ρ (putD kvs k y)
theorem sd_put {tk tv : TE} {TK TV : AE} (hk : EA I K tk TK) (hv : EA I K tv TV) : SAD I K i (sDPut (tVar i) tk tv) (dPut TK TV) := fun G ad ρ σ H p kvs Φ D C Tt h k => by
  refine hv G ad ρ σ H _ _ C h fun rv v H1 e1 k1 v1 h1 => ?_
  obtain ⟨y, ey, h1⟩ := h1
  have A1 := (At.start C).to e1 k1
  have T1 := Tt.step C A1.step rfl
  refine ⟨.ref p, T1.get A1.con, ?_⟩
  refine hk G ad ρ σ H1 _ _ A1.con h1 fun rk w H2 e2 k2 v2 h2 => ?_
  obtain ⟨key, rfl, hl, h2⟩ := h2
  have A2 := A1.to e2 k2
  have T2 := T1.step A1.con (Step.of A1.con e2 k2) rfl
  obtain ⟨us, hp, kr⟩ := T2.tb
  obtain rfl := dv_keyV (show Dv K _ H2 w (keyD key) from v2)
  have dv := A2.data (A1.rv v1 e2) ey
  refine ⟨p, _, rfl, DPut.k hp (by rw [← kr.len]; exact hl), ?_⟩
  refine k ad ρ σ _ _ (A2.con.off hp T2.np T2.n0) ⟨T2.at_, T2.np, T2.n0, _, upd_same, (kr.put dv key).offU hp⟩ ⟨fun b o ne n e => by rw [upd_ne ne]; exact A2.step.pres b o n e, A2.step.own, fun b e => ?_⟩ h2
  by_cases z : b = p
  · exact ⟨_, by rw [z]; exact upd_same⟩
  · rw [upd_ne z]; exact A2.step.live b e
variable (I K) in
def IAP (s : Bool) (i : Nat) (wi : TI) (A : ASt → (List PyData → ASt → Prop) → Prop) : Prop := ∀ (G : Gh I) (ad : Nat → Addr) (ρ : ASt) (σ : L2.St) (H : Hp) (p : Addr) (kvs : List (Key × PyData)) (Φ : List PyData → ASt → Prop) (R : It → Hp → Prop), Con K G ad ρ σ H → Tb K G ad ρ H i p kvs → A ρ Φ →
  (∀ J items ρ1 H1, Con K G ad ρ1 σ H1 → Tb K G ad ρ1 H1 i p kvs → Step G ad ρ H ad ρ1 H1 → (∀ ad' ρ' σ' H', Con K G ad' ρ' σ' H' → StP p G ad ρ1 H1 ad' ρ' H' → JS s K (Ow G ad' ρ') J H' items) → Φ items ρ1 → R J H1) → wi σ H R
def wListD (i : Nat) (T : AE) : ASt → (List PyData → ASt → Prop) → Prop := fun ρ Φ => T ρ fun r => onL r fun xs => (stillR r ρ)[i]? = ρ[i]? ∧ Φ xs (stillR r ρ)
theorem ip_list {t : TE} {T : AE} (a : EA I K t T) : IAP I K true i (iList K t) (wListD i T) := fun G ad ρ σ H p kvs Φ R C Tt h k => by
  refine a G ad ρ σ H _ _ C h fun r v H1 e1 k1 v1 h1 => ?_
  obtain ⟨xs, e, h0, h1⟩ := onL_of h1
  obtain ⟨a, vs, rfl, g1, c, s, n, d⟩ := ((At.start C).to e1 k1).still v1 e
  have T1 := Tt.step C s h0
  obtain ⟨us, hp, _⟩ := T1.tb
  exact ⟨a, rfl, ⟨vs, SqL.of g1⟩, k _ xs _ H1 c T1 s (fun ad' ρ' σ' H' c' s' => js_listH (s'.pres _ _ (fun z => by rw [z, hp] at g1; cases g1) n g1) (DvAll.stepP c hp s' d)) h1⟩
def dFor (i : Nat) (A : ASt → (List PyData → ASt → Prop) → Prop) (B : PyData → ASt → (ASt → Prop) → Prop) (T : ATD) : ATD := fun Φ ρ kvs => A ρ fun items ρ1 => ∃ P : Nat → ASt → List (Key × PyData) → Prop, P 0 ρ1 kvs ∧
  (∀ n x ρ' kvs', items[n]? = some x → P n ρ' kvs' → B x ρ' fun ρ2 => ρ2[i]? = ρ'[i]? ∧ T (P (n + 1)) ρ2 kvs') ∧ ∀ ρ' kvs', P items.length ρ' kvs' → Φ ρ' kvs'
theorem sd_for {ns : List Nat} {wi : TI} {g : TG} {tb : TS} {A : ASt → (List PyData → ASt → Prop) → Prop} {B : PyData → ASt → (ASt → Prop) → Prop} {T : ATD} {s1 s2 : Bool} (a : IAP I K s1 i wi A) (b : GD I K s2 ns g B) (c : SAD I K i tb T) (hs : s2 = true → s1 = true := by decide) : SAD I K i (tFor wi g tb) (dFor i A B T) := fun G ad ρ σ H p kvs Φ D C Tt h k => by
  refine a G ad ρ σ H p kvs _ _ C Tt h fun J items ρ1 H1 C1 T1 S1 js h1 => ?_
  obtain ⟨P, p0, turn, fin⟩ := h1
  refine ⟨fun n m σ' H' => m = items.length - n ∧ n ≤ items.length ∧ ∃ ad' ρ' kvs', Con K G ad' ρ' σ' H' ∧ Tb K G ad' ρ' H' i p kvs' ∧ StP p G ad ρ1 H1 ad' ρ' H' ∧ P n ρ' kvs', ⟨items.length, by simp, Nat.zero_le _, ad, ρ1, kvs, C1, T1, StP.refl, p0⟩, ?_⟩
  rintro n m σ' H' ⟨rfl, hi, ad', ρ', kvs', C', T', S', q⟩
  have j := js ad' ρ' σ' H' C' S' n
  by_cases hlt : n < items.length
  · have hx := List.getElem?_eq_getElem hlt
    obtain ⟨go, yl⟩ := j.1 _ hx
    refine .inr ⟨go, fun σ2 H2 => ∃ ad2 ρ2 kvs2, Con K G ad2 ρ2 σ2 H2 ∧ Tb K G ad2 ρ2 H2 i p kvs2 ∧ StP p G ad ρ1 H1 ad2 ρ2 H2 ∧ P (n + 1) ρ2 kvs2, fun σ2 H2 ⟨ad2, ρ2, q⟩ => ⟨items.length - (n + 1), by omega, rfl, hlt, ad2, ρ2, q⟩, fun x H'' y => ?_⟩
    obtain ⟨s, d⟩ := yl x H'' y
    have C2 := C'.to (Ext.same s) (C'.dok.same s)
    have S2 : Step G ad' ρ' H' ad' ρ' H'' := Step.of C' (Ext.same s) (C'.dok.same s)
    have T2 := T'.step C' S2 rfl
    refine b G ad' ρ' σ' H'' x _ _ _ C2 (d.to hs) (turn n _ ρ' kvs' hx q) fun ρ3 σ3 c3 o3 w3 f3 h3 => ?_
    have S4 := (S'.trans S2.off).trans (Step.ofD (H := H'') w3).off
    exact c G ad' ρ3 σ3 H'' p kvs' _ _ c3 (T2.step C2 (Step.ofD w3) h3.1) h3.2 fun a r σ' h kv c t u q => ⟨a, r, kv, c, t, S4.trans u, q⟩
  · have e : n = items.length := by omega
    exact .inl ⟨j.2 e, k ad' ρ' σ' H' kvs' C' T' (S1.off.trans S') (fin ρ' kvs' (by rw [← e]; exact q))⟩
/-! ### a block in which the table is made, filled, and then stands -/
abbrev ATT := AEnds → ASt → List (Key × PyData) → Prop
variable (I K) in
def SAT (i : Nat) (t : TS) (T : ATT) : Prop := ∀ (G : Gh I) (ad0 : Nat → Addr) (ρ0 : ASt) (H0 : Hp) (ad : Nat → Addr) (ρ : ASt) (σ : L2.St) (H : Hp) (p : Addr) (kvs : List (Key × PyData)) (Φ : AEnds) (D : Ends), Con K G ad ρ σ H → Tb K G ad ρ H i p kvs → H0 p = none → StP p G ad0 ρ0 H0 ad ρ H → T Φ ρ kvs → EOk K G ad0 ρ0 H0 Φ D → t D σ H
def tSq (T : ATD) (U : ATT) : ATT := fun Φ ρ kvs => T (U Φ) ρ kvs
theorem st_seq {t u : TS} {T : ATD} {U : ATT} (a : SAD I K i t T) (b : SAT I K i u U) : SAT I K i (tSeq t u) (tSq T U) := fun G ad0 ρ0 H0 ad ρ σ H p kvs Φ D C Tt f s h k =>
  a G ad ρ σ H p kvs (U Φ) { D with nx := u D } C Tt h fun ad' ρ' σ' H' kvs' c q s2 g => b G ad0 ρ0 H0 ad' ρ' σ' H' p kvs' Φ D c q f (s.trans s2) g k
def tStill (i : Nat) (T : ATD) (W : ATS) : ATT := fun Φ ρ kvs => T (fun ρ' kvs' => W Φ (ρ'.set i (some (.d (kvD kvs'))))) ρ kvs
theorem st_still {t r : TS} {T : ATD} {W : ATS} (a : SAD I K i t T) (b : SA I K r W) : SAT I K i (tSeq (tFrzS t) r) (tStill i T W) := fun G ad0 ρ0 H0 ad ρ σ H p kvs Φ D C Tt f s h k =>
  a G ad ρ σ H p kvs _ _ C Tt h fun ad' ρ' σ' H' kvs' c q s2 g => by
    obtain ⟨us, hp, kr⟩ := q.tb
    refine ⟨p, _, hp, trivial, fun od => ?_⟩
    have C3 := c.off (u := .frz od (.dK us)) hp q.np q.n0
    have dv : Dv K (Ow G ad' ρ') (upd H' p (.frz od (.dK us))) (.ref p) (kvD kvs') := kv_dv ⟨q.np, od, upd_same⟩ (kr.offU hp)
    have C4 := C3.putN (i := i) (v := .ref p) (av := .d (kvD kvs')) (fun _ z => nomatch z) dv
    rw [set_self (q.get c)] at C4
    have s3 := s.trans s2
    refine b G ad' _ σ' _ Φ D C4 g (k.step ⟨fun b o n e => ?_, fun j hj => s3.own j ?_, fun b e => ?_⟩)
    · have ne : b ≠ p := fun z => by rw [z, f] at e; cases e
      rw [upd_ne ne]
      exact s3.pres b o ne n e
    · rcases own_set hj with ⟨_, xs, z⟩ | ⟨_, z⟩
      · cases z
      · exact z
    · by_cases z : b = p
      · exact ⟨_, by rw [z]; exact upd_same⟩
      · rw [upd_ne z]; exact s3.live b e
def aTable (i : Nat) (U : ATT) : ATS := fun Φ ρ => i < ρ.length ∧ noOwnB ((ρ[i]?).getD none) = true ∧ ∀ p, U Φ (ρ.set i (some (.fn p))) []
theorem sa_table {u : TS} {U : ATT} (a : SAT I K i u U) : SA I K (tSeq (tAsg tDNewK (gName i)) u) (aTable i U) := fun G ad ρ σ H Φ D C h k p fp => by
  obtain ⟨li, ni, h⟩ := h
  have A1 := (At.start C).to (Ext.new fp (o := .dK [])) (C.dok.new fp)
  have C2 := A1.con.putN (i := i) (v := .ref p) (av := .fn p) (fun _ z => nomatch z) rfl
  have ow : ∀ b, Ow G ad (ρ.set i (some (.fn p))) b → Ow G ad ρ b := fun b z => z.imp id fun ⟨m, hm, e⟩ => ⟨m, (own_set hm).elim (fun ⟨_, xs, q⟩ => by cases q) fun z => z.2, e⟩
  have n0 : G.H0 p = none := free_back C.ext (fun b w => C.dok.liveW w) fp
  refine a G ad ρ H ad _ _ _ p [] Φ D C2 ⟨List.getElem?_set_self li, fun z => C.freshO fp (ow _ z), n0, [], upd_same, .nil⟩ fp ⟨fun b o ne n e => by rw [upd_ne ne]; exact e, fun j hj => .inl ⟨j, ?_, rfl⟩, fun b ⟨o, e⟩ => ?_⟩ (h p) k
  · rcases own_set hj with ⟨_, xs, z⟩ | ⟨_, z⟩
    · cases z
    · exact z
  · exact ⟨o, by rw [upd_ne (ne_of_none e fp)]; exact e⟩
end
end Zj

namespace Zj
open PySem PySem.Spec PyProof.Rows L2
section
variable {X : Cx} {pins : List (Addr × Obj)} {σ : L2.St} {x : Str} {e : Expr} {td : TE} {pos p apos cpos : Pos}
abbrev Itp := Addr × (Key × V)
def tListItems (K : PySem.W.Frag) (td : TE) : TE := fun σ H Q => td σ H fun x H1 => ∃ d o kvs, x = .ref d ∧ H1 d = some (.frz o (.dK kvs)) ∧
  ∀ (l : Addr) (ps : List Itp) H2, (∀ b o, H1 b = some o → H2 b = some o) → H1 l = none → (ps.map fun p => p.2) = kvs → H2 l = some (.lst (ps.map fun p => .ref p.1)) →
    (∀ p ∈ ps, H1 p.1 = none ∧ p.1 ≠ l ∧ ∃ ob : Obj, ob.dict = none ∧ H2 p.1 = some (.frz ob (.tup [kV p.2.1, p.2.2]))) → Q (.ref l) H2
theorem itp_each {hS : Heap} {as : List Addr} {kvs : List (Key × V)} {vs : List (Key × Value)} (kv : KV kvs vs) (la : as.length = vs.length) (hp : ∀ (j : Nat) (a : Addr), as[j]? = some a → ∃ key k x, vs[j]? = some (k, x) ∧ keyIs k key = true ∧ hS.get? a = some { cls := .type "tuple", data := .seq #[key, x] }) :
    ∀ q ∈ as.zip kvs, ∃ key x, keyIs q.2.1 key = true ∧ RelV q.2.2 x ∧ hS.get? q.1 = some { cls := .type "tuple", data := .seq #[key, x] } := by
  induction as generalizing kvs vs with
  | nil => exact fun _ h => nomatch h
  | cons a as ih =>
    cases kv with
    | nil => simp at la
    | @cons p q kvs' vs' r t =>
      obtain ⟨key, k, x, e1, e2, e3⟩ := hp 0 a rfl
      cases Option.some.inj e1
      obtain ⟨r1, r2⟩ := r
      intro z hz
      rcases List.mem_cons.mp hz with rfl | hz
      · exact ⟨key, x, by show keyIs p.1 key = true; rw [show p.1 = k from r1]; exact e2, r2, e3⟩
      · exact ih t (by simpa using la) (fun j b hb => hp (j + 1) b (by simpa using hb)) z hz
theorem valsA : ∀ ps : List Itp, Vals (ps.map fun p => V.ref p.1) (ps.map fun p => Value.ref p.1)
  | [] => .nil
  | p :: ps => .cons rfl (valsA ps)
theorem pe_listItems (hc : X.calm = true) (hg : Gl X x) (hm : X.mg x = none) (hv : bootBuiltins x = some (.type "list")) (he : PE X e td) (hn : x ≠ "__name__" := by decide) (hdb : (x == ("__debug__" : Str)) = false := by decide)
    (hbase : attributeBase e "items" X.env (eval e X.env) = eval e X.env := by rfl) (hline : (apos.endLine == cpos.line) = true := by rfl)
    (hs : starEach [.Call (.Attribute e "items" apos) [] [] cpos] X.env = [(false, eval (.Call (.Attribute e "items" apos) [] [] cpos) X.env)] := by rfl) :
    PE X (.Call (.Name x p) [.Call (.Attribute e "items" apos) [] [] cpos] [] pos) (tListItems X.K td) := by
  refine ⟨fun pins s σ H Q I h => ?_⟩
  refine wpAny_Call_Name_kw (ld_blt I hg hm hv ?_ hn hdb)
  refine PyProof.Rows.callWith_type1 (rest := []) ?_ hs rfl
  rw [hs]
  show wpAny _ _ (spliced [(false, eval (.Call (.Attribute e "items" apos) [] [] cpos) X.env)]) _ _ s
  refine Calls.spliced_cons ?_
  refine wpAny_Call_method (T := "dict") (id := "dict.items") hbase rfl hline F.plainAttrs_dict F.slot_dict_items F.type_dict_items (thn (he.run pins s σ H _ I h) fun u s1 ⟨y, H1, I1, rx, d, o, kvs, ex, hd, q⟩ => ?_)
  subst ex
  obtain rfl : u = Value.ref d := rx
  obtain ⟨hs1, hgd, hx, es, ep, vs, hdt, hsz, kv, hm⟩ := I1.frzK hd
  refine ⟨hm.dictOf.typeIs, hm.dictOf.mapOf.noDict, ?_⟩
  show wpAny _ _ (callWith cpos (.builtin "dict.items") [.ref d] [] []) _ X.xe s1
  refine method_meetsIn F.slot_dict_items F.entry_dict_items rfl (PySem.evalArgs_none ⟨rfl, hm.dictOf.typeIs, F.args_dict_items_1 _, _, meets_dict_items (mixKind X.prog X.w) d hs1, ⟨vs, hm.dictOf⟩, ?_⟩)
  refine Calls.spliced_nil ?_
  have lkv : kvs.length = vs.length := Paired.length kv
  have hvw : (s1.heap.push { cls := .type "dict_items", data := .fields #[.ref d] }).IsItemsView s1.heap.objs.size d := ⟨_, Heap.get?_push_size _ rfl, rfl, rfl⟩
  have hsl : vs.length ≤ sizeLine := by rw [← lkv]; obtain ⟨_, z, _⟩ := I1.hok d _ hd; exact z
  refine PySem.W.kdx_call (s := { s1 with heap := s1.heap.push { cls := .type "dict_items", data := .fields #[.ref d] } }) (A := X.A) (knd := mixKind X.prog X.w) (kvs := vs) (ep := ep) (I.ok.hd hc) hvw (hm.push _) hsl fun h' tk acc c as hk hS hl hG hacc => ?_
  generalize hB0 : (s1.heap.push { cls := .type "dict_items", data := .fields #[.ref d] }).objs.size = B at *
  have szB : s1.heap.objs.size + 1 = B := by rw [← hB0]; exact (Heap.size_push _ _).symm
  have k1 : ∀ b ob, s1.heap.get? b = some ob → h'.get? b = some ob := fun b ob e => hk b ob (Heap.get?_push_of_some _ e)
  have hi : ∀ a : Addr, s1.heap.objs.size ≤ a → s1.heap.get? a = none ∧ H1 a = none := fun a h1 => by
    refine ⟨?_, I1.hok.fresh h1⟩
    cases e : s1.heap.get? a with
    | none => rfl
    | some ob => exact absurd (Heap.lt_size e) (Nat.not_lt.mpr h1)
  have each := itp_each (hS := h') kv hl fun j a ha => hG.pairs j a ha
  have lal : as.length = kvs.length := by rw [hl, lkv]
  have e2 : ((as.zip kvs).map fun p => p.2) = kvs := zip_map2 lal
  have e1 : ((as.zip kvs).map fun p => p.1) = as := zip_map1 lal
  have asN : as.Nodup := hG.rise.imp fun h => Nat.ne_of_lt h
  have adr : ∀ q ∈ as.zip kvs, q.1 ∈ as := fun q hq => (List.of_mem_zip hq).1
  have lps : (as.zip kvs).length ≤ sizeLine := by rw [List.length_zip, lal, Nat.min_self, lkv]; exact hsl
  have eacc : acc = ((as.zip kvs).map fun p => Value.ref p.1).toArray := by
    have : acc = acc.toList.toArray := by simp
    rw [this, hacc]
    conv => lhs; rw [← e1, List.map_map]
    rfl
  generalize as.zip kvs = ps at each e2 e1 adr lps eacc
  let ob : Itp → Obj := fun p => (h'.get? p.1).getD { cls := .type "tuple", data := .seq #[] }
  have obs : ∀ p ∈ ps, (ob p).dict = none ∧ h'.get? p.1 = some (ob p) := fun p hp => by
    obtain ⟨key, x, _, _, e3⟩ := each p hp
    refine ⟨?_, ?_⟩
    · show ((h'.get? p.1).getD _).dict = none
      rw [e3]; rfl
    · show h'.get? p.1 = some ((h'.get? p.1).getD _)
      rw [e3]; rfl
  have abv : ∀ p ∈ ps, B < p.1 := fun p hp => hG.above p.1 (adr p hp)
  obtain ⟨H2, I2, x12, m2⟩ := lay_many (h' := h') (tk := tk) ((B, HO.lst (ps.map fun p => V.ref p.1)) :: ps.map fun p => (p.1, HO.frz (ob p) (.tup [kV p.2.1, p.2.2]))) I1 (fun b o e => k1 b o e) (fun q hq => by
      rcases List.mem_cons.mp hq with rfl | hq
      · exact hi B (by omega)
      · obtain ⟨p, hp, rfl⟩ := List.mem_map.mp hq
        have := abv p hp
        exact hi p.1 (Nat.le_of_lt (Nat.lt_of_le_of_lt (by omega) this))) (by
      rw [List.map_cons, List.map_map, List.nodup_cons]
      refine ⟨fun z => ?_, by rw [show (fun p : Addr × HO => p.1) ∘ (fun p : Itp => (p.1, HO.frz (ob p) (.tup [kV p.2.1, p.2.2]))) = fun p => p.1 from rfl, e1]; exact asN⟩
      obtain ⟨p, hp, e⟩ := List.mem_map.mp z
      exact Nat.lt_irrefl B (by have := abv p hp; rw [show p.1 = B from e] at this; exact this)) fun q hq G H3 eG => by
      rcases List.mem_cons.mp hq with rfl | hq
      · refine ⟨by rw [List.length_map]; exact lps, ps.map fun p => Value.ref p.1, c, valsA ps, ?_⟩
        rw [eG, ← eacc]
        exact hS
      · obtain ⟨p, hp, rfl⟩ := List.mem_map.mp hq
        obtain ⟨key, x, e1, e2, e3⟩ := each p hp
        refine ⟨by rw [eG]; exact (obs p hp).2, by show 2 ≤ sizeLine; decide, [key, x], .cons (relV_key e1) (.cons e2 .nil), ⟨_, by rw [eG]; exact e3, rfl, _, rfl⟩⟩
  exact ⟨.ref B, H2, I2, rfl, q B ps H2 x12 (hi B (by omega)).2 e2 (m2 _ (List.mem_cons.mpr (.inl rfl))) fun p hp => ⟨(hi p.1 (Nat.le_of_lt (Nat.lt_of_le_of_lt (by omega) (abv p hp)))).2, Ne.symm (Nat.ne_of_lt (abv p hp)), ob p, (obs p hp).1, m2 _ (List.mem_cons.mpr (.inr (List.mem_map.mpr ⟨p, hp, rfl⟩)))⟩⟩
end
section
variable {I : DkI} {K : PySem.W.Frag}
/-! ### over data -/
def aListItems (T : AE) : AE := fun ρ Φ => T ρ fun r => ∃ kvs, r = .d (kvD kvs) ∧ Φ (.l (kvs.map itemD))
theorem ea_listItems {t : TE} {T : AE} (a : EA I K t T) : EA I K (tListItems K t) (aListItems T) := fun G ad ρ σ H Φ Q C h k => by
  refine a G ad ρ σ H _ _ C h fun r v H1 e1 k1 v1 h1 => ?_
  obtain ⟨kvs, rfl, h1⟩ := h1
  have A1 := (At.start C).to e1 k1
  obtain ⟨x, vs, rfl, ⟨g0, od, g1⟩, g2⟩ := dv_kv (show Dv K _ H1 v (kvD kvs) from v1)
  refine ⟨x, od, vs, rfl, g1, fun l ps H2 x12 hl perm hL hp => ?_⟩
  have ex : Ext G.W H1 H2 := fun b o _ e => x12 b o e
  have dk2 : G.dok H2 := k1.out (fun b w => by
    obtain ⟨o, q⟩ := Gh.dok.liveW k1 w
    rw [q]; exact x12 b o q) fun p b o q z y => x12 _ _ y
  have all : ∀ (qs : List Itp) (kvs : List (Key × PyData)), (∀ p ∈ qs, p ∈ ps) → KvR K (Ow G ad ρ) H1 (qs.map fun p => p.2) kvs → DvAll K (fun a => Ow G ad ρ a ∨ a = l) H2 (qs.map fun p => V.ref p.1) (kvs.map itemD) := fun qs => by
    induction qs with
    | nil =>
      intro kvs _ h
      cases h
      exact .nil
    | cons p qs ih =>
      intro kvs hs h
      obtain ⟨pa, pk, pv⟩ := p
      cases h with
      | @cons _ _ dd _ ds h1 h2 =>
      have hm := hs _ (List.mem_cons.mpr (.inl rfl))
      obtain ⟨f1, f2, ob, d0, eo⟩ := hp _ hm
      have nO : ¬ (Ow G ad ρ pa ∨ pa = l) := fun z => z.elim (A1.frO f1) f2
      have key : Dv K (fun a => Ow G ad ρ a ∨ a = l) H2 (kV pk) (keyD pk) := by
        cases pk with
        | inl i => exact .int i
        | inr x => exact .str x
      refine .cons (.tup ⟨.inl (.inr ⟨ob, eo⟩), .inl ⟨ob, eo, d0⟩, .inl nO⟩ (.cons key (.cons ?_ .nil))) (ih ds (fun q hq => hs q (List.mem_cons.mpr (.inr hq))) h2)
      exact (h1.fresh hl (fun b z => z)).ext (W := fun _ => False) (fun b o _ e => x12 b o e) fun b z => z.elim
  have av := all ps kvs (fun p hp => hp) (by rw [perm]; exact g2)
  refine k (.l _) _ H2 (e1.trans ex) dk2 ⟨l, _, rfl, ?_, hL, av⟩ h1
  cases e : H l with
  | none => rfl
  | some o =>
    by_cases w : G.W l
    · obtain ⟨o2, z⟩ := k1.liveW w
      rw [hl] at z; cases z
    · have := e1 _ _ w e
      rw [hl] at this; cases this
end
section
variable {X : Cx}
/-! ### x in a tuple of data -/
def rInDT (K : PySem.W.Frag) (neg : Bool) : R2 := fun x y H Q => ∃ d ds, Dp K H x d ∧ Dp K H y (.tuple ds) ∧ SeqAt.shaped d = true ∧ SeqAt.shaped (.tuple ds) = true ∧ Q (.bl (if neg then !(ds.any fun z => PyData.eqv z d) else ds.any fun z => PyData.eqv z d)) H
theorem op_inDT (hu : X.A.units + 65 < cLine) : OpR X (compareOp .In) (rInDT X.K false) := by
  intro pins s σ H x y v u Q I rx ry h
  obtain ⟨d, ds, hd, he, sd, se, q⟩ := h
  obtain ⟨as, r1⟩ := Dp.reads I d x v hd rx
  obtain ⟨bs, r2⟩ := Dp.reads I (.tuple ds) y u he ry
  exact SeqAt.in_tuple_reads r2 r1 (SeqAt.canLay_of_shaped se) (SeqAt.canLay_of_shaped sd) (room_in_shaped sd hu) ⟨.bl _, H, I, rfl, q⟩
end
section
variable {I : DkI} {K : PySem.W.Frag}
def fInDT (neg : Bool) : R → R → (R → Prop) → Prop := fun r s Φ => match viewOf r, s with
  | some x, .d (.tuple ys) => SeqAt.shaped x = true ∧ SeqAt.shaped (.tuple ys) = true ∧ Φ (.d (.bool (if neg then !(ys.any fun z => PyData.eqv z x) else ys.any fun z => PyData.eqv z x)))
  | _, _ => False
theorem oa_inDT (neg : Bool) : OpA I K (rInDT K neg) (fInDT neg) := fun G ad ρ σ H0 H x y rx ry Φ Q A vx vy h k => by
  unfold fInDT at h
  split at h
  · rename_i d ys e1
    exact ⟨d, ys, A.view vx e1 h.1, A.view vy (x := .tuple ys) rfl h.2.1, h.1, h.2.1, k (.d _) _ _ (Ext.refl _) A.k (Dv.bl _) h.2.2⟩
  · exact h.elim
/-- x[i], a list, a tuple or a text -/
def fIxQS : R → R → (R → Prop) → Prop
  | .d (.str z), s, Φ => fIxS (.d (.str z)) s Φ
  | r, s, Φ => fIxQ r s Φ
theorem oa_ixQS : OpA I K (fun x y H Q => (rIxL K x y H Q ∨ rIxT K x y H Q) ∨ rIxS x y H Q) fIxQS := fun G ad ρ σ H0 H x y rx ry Φ Q A vx vy h k => by
  unfold fIxQS at h
  split at h
  · exact .inr (oa_ixS G ad ρ σ H0 H x y _ _ Φ Q A vx vy h k)
  · exact .inl (oa_ixQ G ad ρ σ H0 H x y _ _ Φ Q A vx vy h k)
def fLenQS : List R → (R → Prop) → Prop
  | [.d (.str z)], Φ => fLenS [.d (.str z)] Φ
  | rs, Φ => fLen rs Φ
theorem cb_lenQS : CbA I K (fun xs H Q => (∃ p ys, xs = [.ref p] ∧ (SqL K H p ys ∨ SqT K H p ys) ∧ Q (.int ys.length) H) ∨ ∃ z, xs = [.str z] ∧ z.length ≤ sizeLine ∧ Q (.int z.length) H) fLenQS := fun G ad ρ σ H0 H xs rs Φ Q A hv h k => by
  unfold fLenQS at h
  split at h
  · exact .inr (cb_lenS G ad ρ σ H0 H xs _ Φ Q A hv h k)
  · exact .inl (cb_len G ad ρ σ H0 H xs _ Φ Q A hv h k)
end
section
/-! ### a def with a default -/
theorem FunD.okM {P : Program} {w : World} {K : PySem.W.Frag} {mg : Str → Option Value} {base : Heap} {x qual : Str} {params : Arguments} {body : List Stmt} {scope : Scope} {dvs : List V} {kws : List (Str × V)} {f : Addr} {fd : FuncData} {N ps : List Str} {k : Nat} {sp : Sp} (F : L2.FunD K x qual params body scope dvs kws f fd) (S : FnScope N ps scope) (len : ∀ vs H Q E, sp vs H Q E → vs.length = ps.length)
    (hbody : ∀ (cdv : Value) (A : Around) (outer : List Env) (s : Shared) (H : Hp) (vs : List V) (Q : VK) (E : XK), Room k (A.deeper (envOfC qual scope s.heap.objs.size f cdv)) → sp vs H Q E →
      ∃ t, PSs (cxOf CX0 P w K mg base N qual scope f cdv A outer s H E).nox body t ∧ t { nx := fun _ H' => Q .non H', rt := Q } (start N vs) H) : FnOk P w K mg base CX0 (k + 1) f fd ps sp := by
  refine F.ok S len fun cdv A outer s H vs Q E hr hsp => ?_
  obtain ⟨t, h, q⟩ := hbody cdv A outer s H vs Q E hr hsp
  exact ⟨t, h.nox, q⟩
structure FunE (dvs : List V) (K : PySem.W.Frag) (x : Str) (st : Stmt) (f : Addr) (fd : FuncData) : Prop where
  D : L2.FunD K x x (defArgs st) (defBody st) (defScope st) dvs [] f fd
  kp : PySem.W.keepIn K (.ref f) = true
theorem FunE.ok {P : Program} {w : World} {K : PySem.W.Frag} {mg : Str → Option Value} {base : Heap} {dvs : List V} {x : Str} {st : Stmt} {f : Addr} {fd : FuncData} {N ps : List Str} {k : Nat} {sp : Sp} (F : FunE dvs K x st f fd) (S : FnScope N ps (defScope st)) (len : ∀ vs H Q E, sp vs H Q E → vs.length = ps.length)
    (hbody : ∀ (cdv : Value) (A : Around) (outer : List Env) (s : Shared) (H : Hp) (vs : List V) (Q : VK) (E : XK), Room k (A.deeper (envOfC x (defScope st) s.heap.objs.size f cdv)) → sp vs H Q E →
      ∃ t, PSs (cxOf CX0 P w K mg base N x (defScope st) f cdv A outer s H E).nox (defBody st) t ∧ t { nx := fun _ H' => Q .non H', rt := Q } (start N vs) H) : FnOk P w K mg base CX0 (k + 1) f fd ps sp := FunD.okM F.D S len hbody
structure DefD (dvs : List V) (K : PySem.W.Frag) (mg : Str → Option Value) (x : Str) (st : Stmt) (ps : List Str) (f : Addr) (fd : FuncData) : Prop where
  F : FunE dvs K x st f fd
  g : mg x = some (.ref f)
  b : Binds K fd ps []
  bd : ∃ u, Vals dvs u ∧ Binds K fd ps u
end
end Zj

namespace Zj
open PySem PySem.Spec PyProof.Rows L2
section
variable {I : DkI} {K : PySem.W.Frag} {G : Gh I} {ad ad' ad2 : Nat → Addr} {ρ ρ' ρ2 : ASt} {σ σ' : L2.St} {H H0 H1 H' H2 : Hp} {p : Addr} {us us' : List (Key × V)} {qs qs' qs2 : List Addr} {g g' : List (Key × List PyData)}
def Gh.rows (G : Gh I) (qs : List Addr) : Gh I := ⟨G.H0, fun a => G.O a ∨ a ∈ qs, G.dk⟩
theorem rows_nil : G.rows [] = G := by cases G; simp [Gh.rows]
theorem rows_plus {q : Addr} : (G.rows qs).plus q = G.rows (qs ++ [q]) := by simp [Gh.rows, Gh.plus, or_assoc]
structure StG (p : Addr) (qs qs' : List Addr) (G : Gh I) (ad : Nat → Addr) (ρ : ASt) (H : Hp) (ad' : Nat → Addr) (ρ' : ASt) (H' : Hp) : Prop where
  pres : ∀ b o, b ≠ p → b ∉ qs → ¬ Mu G ad ρ b → H b = some o → H' b = some o
  rows : ∀ b, b ∈ qs' → b ∈ qs ∨ H b = none
  own : ∀ i, ownAt ρ' i → (∃ j, ownAt ρ j ∧ ad' i = ad j) ∨ H (ad' i) = none
  live : ∀ b, (∃ o, H b = some o) → ∃ o, H' b = some o
theorem StG.refl : StG p qs qs G ad ρ H ad ρ H := ⟨fun _ _ _ _ _ h => h, fun _ h => .inl h, fun i h => .inl ⟨i, h, rfl⟩, fun _ h => h⟩
theorem Step.offG (s : Step (G.rows qs) ad ρ H ad' ρ' H') : StG p qs qs G ad ρ H ad' ρ' H' := ⟨fun b o _ _ n h => s.pres b o n h, fun _ h => .inl h, s.own, s.live⟩
theorem StG.mu (s : StG p qs qs' G ad ρ H ad' ρ' H') {b : Addr} {o : HO} (n : ¬ Mu G ad ρ b) (h : H b = some o) : ¬ Mu G ad' ρ' b := by
  rintro (w | ⟨i, hi, rfl⟩)
  · exact n (.inl w)
  · rcases s.own i hi with ⟨j, hj, e⟩ | e
    · exact n (.inr ⟨j, hj, e⟩)
    · rw [h] at e; cases e
theorem StG.notO (s : StG p qs qs' G ad ρ H ad' ρ' H') {a : Addr} {o : HO} (h : H a = some o) (n : ¬ Ow (G.rows qs) ad ρ a) : ¬ Ow (G.rows qs') ad' ρ' a := by
  rintro ((z | z) | ⟨i, hi, rfl⟩)
  · exact n (.inl (.inl z))
  · rcases s.rows _ z with g | g
    · exact n (.inl (.inr g))
    · rw [h] at g; cases g
  · rcases s.own i hi with ⟨j, hj, e⟩ | e
    · exact n (.inr ⟨j, hj, e⟩)
    · rw [h] at e; cases e
theorem StG.trans (s : StG p qs qs' G ad ρ H ad' ρ' H') (t : StG p qs' qs2 G ad' ρ' H' ad2 ρ2 H2) : StG p qs qs2 G ad ρ H ad2 ρ2 H2 where
  pres := fun b o ne nq n h => t.pres b o ne (fun z => (s.rows b z).elim nq fun g => by rw [h] at g; cases g) (s.mu n h) (s.pres b o ne nq n h)
  rows := fun b z => (t.rows b z).elim (s.rows b) fun e => .inr (by
    cases q : H b with
    | none => rfl
    | some o =>
      obtain ⟨u, z⟩ := s.live _ ⟨o, q⟩
      rw [e] at z
      cases z)
  own := fun i hi => by
    rcases t.own i hi with ⟨j, hj, e⟩ | e
    · rw [e]
      exact s.own j hj
    · refine .inr ?_
      cases q : H (ad2 i) with
      | none => rfl
      | some o =>
        obtain ⟨u, z⟩ := s.live _ ⟨o, q⟩
        rw [e] at z
        cases z
  live := fun b h => t.live b (s.live b h)
/-- the rows -/
inductive GRow (K : PySem.W.Frag) (O : Addr → Prop) (H : Hp) : List (Key × V) → List (Key × List PyData) → List Addr → Prop
  | nil : GRow K O H [] [] []
  | cons {k : Key} {q : Addr} {vs : List V} {xs : List PyData} {us : List (Key × V)} {g : List (Key × List PyData)} {qs : List Addr} : H q = some (.lst vs) → DvAll K O H vs xs → GRow K O H us g qs → GRow K O H ((k, .ref q) :: us) ((k, xs) :: g) (q :: qs)
theorem GRow.len {O : Addr → Prop} (h : GRow K O H us g qs) : g.length = us.length := by
  induction h with
  | nil => rfl
  | cons _ _ _ ih => rw [List.length_cons, List.length_cons, ih]
theorem GRow.lst {O : Addr → Prop} (h : GRow K O H us g qs) : ∀ q ∈ qs, ∃ vs, H q = some (.lst vs) := by
  induction h with
  | nil => intro q hq; cases hq
  | cons h1 _ _ ih =>
    intro q hq
    rcases List.mem_cons.mp hq with rfl | hq
    · exact ⟨_, h1⟩
    · exact ih q hq
theorem GRow.map {O O' : Addr → Prop} (h : GRow K O H us g qs) (f : ∀ q ∈ qs, ∀ o, H q = some o → H' q = some o) (d : ∀ vs xs, DvAll K O H vs xs → DvAll K O' H' vs xs) : GRow K O' H' us g qs := by
  induction h with
  | nil => exact .nil
  | cons h1 h2 _ ih => exact .cons (f _ (List.mem_cons.mpr (.inl rfl)) _ h1) (d _ _ h2) (ih fun q hq => f q (List.mem_cons.mpr (.inr hq)))
theorem GRow.snoc {O : Addr → Prop} {k : Key} {q : Addr} {vs : List V} {xs : List PyData} (h : GRow K O H us g qs) (h1 : H q = some (.lst vs)) (h2 : DvAll K O H vs xs) : GRow K O H (us ++ [(k, .ref q)]) (g ++ [(k, xs)]) (qs ++ [q]) := by
  induction h with
  | nil => exact .cons h1 h2 .nil
  | cons a b _ ih => exact .cons a b ih
/-- a row with one item more -/
def pushG : List (Key × List PyData) → Key → PyData → List (Key × List PyData)
  | [], k, y => [(k, [y])]
  | (j, xs) :: g, k, y => if j = k then (j, xs ++ [y]) :: g else (j, xs) :: pushG g k y
theorem GRow.push {O : Addr → Prop} {k : Key} {v : V} (h : GRow K O H us g qs) (nd : qs.Nodup) (hv : valV us k = some v) : ∃ q vs xs, v = .ref q ∧ q ∈ qs ∧ H q = some (.lst vs) ∧ DvAll K O H vs xs ∧ (k, xs) ∈ g ∧
    ∀ (w : V) (y : PyData), (∀ us xs, DvAll K O H us xs → DvAll K O (upd H q (.lst (vs ++ [w]))) us xs) → Dv K O (upd H q (.lst (vs ++ [w]))) w y → GRow K O (upd H q (.lst (vs ++ [w]))) us (pushG g k y) qs := by
  induction h with
  | nil => cases hv
  | @cons j q vs xs us g qs h1 h2 h3 ih =>
    rw [List.nodup_cons] at nd
    by_cases e : j = k
    · subst e
      have : valV ((j, V.ref q) :: us) j = some (.ref q) := by simp [valV]
      rw [this] at hv
      cases Option.some.inj hv
      refine ⟨q, vs, xs, rfl, List.mem_cons.mpr (.inl rfl), h1, h2, List.mem_cons.mpr (.inl rfl), fun w y d2 dw => ?_⟩
      rw [show pushG ((j, xs) :: g) j y = (j, xs ++ [y]) :: g from if_pos rfl]
      exact .cons upd_same ((d2 _ _ h2).append (.cons dw .nil)) (h3.map (fun a ha o z => by rw [upd_ne (show a ≠ q from fun y => nd.1 (y ▸ ha))]; exact z) d2)
    · rw [show valV ((j, V.ref q) :: us) k = valV us k by simp [valV, List.find?_cons, e]] at hv
      obtain ⟨q', vs', xs', e1, e2, e3, e4, e5, e6⟩ := ih nd.2 hv
      refine ⟨q', vs', xs', e1, List.mem_cons.mpr (.inr e2), e3, e4, List.mem_cons.mpr (.inr e5), fun w y d2 dw => ?_⟩
      rw [show pushG ((j, xs) :: g) k y = (j, xs) :: pushG g k y from if_neg e]
      exact .cons (by rw [upd_ne (show q ≠ q' from fun z => nd.1 (z ▸ e2))]; exact h1) (d2 _ _ h2) (e6 w y d2 dw)
theorem pushG_new {O : Addr → Prop} {k : Key} (h : GRow K O H us g qs) (hn : valV us k = none) (y : PyData) : pushG (g ++ [(k, [])]) k y = pushG g k y := by
  induction h with
  | nil => exact if_pos rfl
  | @cons j q vs xs us g qs h1 h2 h3 ih =>
    by_cases e : j = k
    · subst e
      simp [valV] at hn
    · rw [show valV ((j, V.ref q) :: us) k = valV us k by simp [valV, List.find?_cons, e]] at hn
      rw [List.cons_append]
      rw [show pushG ((j, xs) :: (g ++ [(k, [])])) k y = (j, xs) :: pushG (g ++ [(k, [])]) k y from if_neg e, show pushG ((j, xs) :: g) k y = (j, xs) :: pushG g k y from if_neg e, ih hn]
/-- the table: where it lies, and what it holds -/
structure TbU (K : PySem.W.Frag) (G : Gh I) (ad : Nat → Addr) (ρ : ASt) (H : Hp) (i : Nat) (p : Addr) (us : List (Key × V)) (g : List (Key × List PyData)) (qs : List Addr) : Prop where
  ok0 : G.Ok
  at_ : ρ[i]? = some (some (.fn p))
  np : ¬ Ow (G.rows qs) ad ρ p
  n0 : G.H0 p = none
  nq : ∀ q ∈ qs, ¬ G.O q ∧ G.H0 q = none
  nd : qs.Nodup
  hp : H p = some (.dK us)
  gr : GRow K (Ow (G.rows qs) ad ρ) H us g qs
theorem TbU.nW {i : Nat} (T : TbU K G ad ρ H i p us g qs) {q : Addr} (h : q ∈ qs) : ¬ G.W q := fun w => (T.nq q h).1 (T.ok0.wo q w)
theorem TbU.step {i : Nat} (T : TbU K G ad ρ H i p us g qs) (C : Con K (G.rows qs) ad ρ σ H) (s : Step (G.rows qs) ad ρ H ad' ρ' H') (e : ρ'[i]? = ρ[i]?) : TbU K G ad' ρ' H' i p us g qs :=
  ⟨T.ok0, e.trans T.at_, s.notO C T.hp T.np, T.n0, T.nq, T.nd, s.pres _ _ (fun z => T.np (C.mo z)) T.hp, T.gr.map (fun q hq o z => s.pres _ _ (fun z => z.elim (T.nW hq) fun ⟨j, hj, e⟩ => C.ownO hj (.inr (e ▸ hq))) z) fun _ _ d => DvAll.step C s d⟩
theorem TbU.get {i : Nat} {G' : Gh I} (T : TbU K G ad ρ H i p us g qs) (C : Con K G' ad ρ σ H) : σ[i]? = some (some (.ref p)) := by
  have s := C.sl i
  rw [T.at_] at s
  cases e : σ[i]? with
  | none => rw [e] at s; exact s.elim
  | some o =>
    cases o with
    | none => rw [e] at s; exact s.elim
    | some v =>
      rw [e] at s
      have s : v = .ref p := s
      rw [s]
theorem Dv.stepG (C : Con K (G.rows qs) ad ρ σ H) (hp : H p = some (.dK us)) (s : StG p qs qs' G ad ρ H ad' ρ' H') {v : V} {x : PyData} (h : Dv K (Ow (G.rows qs) ad ρ) H v x) : Dv K (Ow (G.rows qs') ad' ρ') H' v x :=
  Dv.map (fun a xs h => ⟨s.notO h.2 fun z => h.1 (.inl z), s.pres _ _ (fun z => h.1 (.inr z)) (fun z => h.1 (.inl (.inl (.inr z)))) (fun z => h.1 (.inl (C.mo z))) h.2⟩) (fun a xs h => by
    rcases h with ⟨h1, p1, h2 | h2⟩
    · have pr : ∀ o, H a = some o → H' a = some o := fun o e => s.pres _ _ (fun z => h2 (.inr z)) (fun z => h2 (.inl (.inl (.inr z)))) (fun z => h2 (.inl (C.mo z))) e
      have p2 : PlT K H' a xs := by
        rcases p1 with ⟨o, e, d⟩ | p1
        · exact .inl ⟨o, pr _ e, d⟩
        · exact .inr p1
      rcases h1 with h1 | h1
      · obtain ⟨o, e⟩ := rd_some h1
        refine ⟨.inl ?_, p2, .inl (s.notO e fun z => h2 (.inl z))⟩
        rcases h1 with h1 | ⟨o, h1⟩
        · exact .inl (pr _ h1)
        · exact .inr ⟨o, pr _ h1⟩
      · rcases p1 with ⟨o, e, _⟩ | p1
        · exact ⟨.inr h1, p2, .inl (s.notO e fun z => h2 (.inl z))⟩
        · exact ⟨.inr h1, p2, .inr fun _ => ⟨.inr h1, .inr p1⟩⟩
    · exact ⟨(h2 _).1, (h2 _).2, .inr h2⟩) (fun a kvs h => ⟨h.2.elim fun _ q => s.notO q fun z => h.1 (.inl z), h.2.imp fun _ q => s.pres _ _ (fun z => h.1 (.inr z)) (fun z => h.1 (.inl (.inl (.inr z)))) (fun z => h.1 (.inl (C.mo z))) q⟩) _ _ (h.offK hp)
theorem DvAll.stepG (C : Con K (G.rows qs) ad ρ σ H) (hp : H p = some (.dK us)) (s : StG p qs qs' G ad ρ H ad' ρ' H') : ∀ {v : List V} {x : List PyData}, DvAll K (Ow (G.rows qs) ad ρ) H v x → DvAll K (Ow (G.rows qs') ad' ρ') H' v x
  | _, _, .nil => .nil
  | _, _, .cons h t => .cons (Dv.stepG C hp s h) (DvAll.stepG C hp s t)
abbrev ATG := (ASt → List (Key × List PyData) → Prop) → ASt → List (Key × List PyData) → Prop
variable (I K) in
def SAG (i : Nat) (t : TS) (T : ATG) : Prop := ∀ (G : Gh I) (ad : Nat → Addr) (ρ : ASt) (σ : L2.St) (H : Hp) (p : Addr) (us : List (Key × V)) (qs : List Addr) (g : List (Key × List PyData)) (Φ : ASt → List (Key × List PyData) → Prop) (D : Ends), Con K (G.rows qs) ad ρ σ H → TbU K G ad ρ H i p us g qs → T Φ ρ g →
  (∀ ad' ρ' σ' H' us' qs' g', Con K (G.rows qs') ad' ρ' σ' H' → TbU K G ad' ρ' H' i p us' g' qs' → StG p qs qs' G ad ρ H ad' ρ' H' → Φ ρ' g' → D.nx σ' H') → t D σ H
variable {i : Nat}
def notB : R → Bool
  | .b _ => false
  | _ => true
variable (I K) in
def IAG (s : Bool) (i : Nat) (wi : TI) (A : ASt → (List PyData → ASt → Prop) → Prop) : Prop := ∀ (G : Gh I) (ad : Nat → Addr) (ρ : ASt) (σ : L2.St) (H : Hp) (p : Addr) (us : List (Key × V)) (qs : List Addr) (g : List (Key × List PyData)) (Φ : List PyData → ASt → Prop) (R : It → Hp → Prop), Con K (G.rows qs) ad ρ σ H → TbU K G ad ρ H i p us g qs → A ρ Φ →
  (∀ J items ρ1 H1, Con K (G.rows qs) ad ρ1 σ H1 → TbU K G ad ρ1 H1 i p us g qs → Step (G.rows qs) ad ρ H ad ρ1 H1 → (∀ qs' ad' ρ' σ' H', Con K (G.rows qs') ad' ρ' σ' H' → StG p qs qs' G ad ρ1 H1 ad' ρ' H' → JS s K (Ow (G.rows qs') ad' ρ') J H' items) → Φ items ρ1 → R J H1) → wi σ H R
def wListG (i : Nat) (T : AE) : ASt → (List PyData → ASt → Prop) → Prop := fun ρ Φ => T ρ fun r => onL r fun xs => notB r = true ∧ (stillR r ρ)[i]? = ρ[i]? ∧ Φ xs (stillR r ρ)
theorem Rv.notRow (C : Con K (G.rows qs) ad ρ σ H1) (lv : ∀ q ∈ qs, ∃ o, H0 q = some o) {a : Addr} {r : R} {xs : List PyData} (h : Rv K (G.rows qs) ad ρ H0 H1 (.ref a) r) (e : listOf r = some xs) (nb : notB r = true) : a ∉ qs := fun hq => by
  cases r with
  | d x =>
    cases x with
    | list ys =>
      generalize ev : V.ref a = v at h
      cases (show Dv K _ H1 v (.list _) from h) with
      | lst h1 h2 => cases ev; exact h1.1 (.inl (.inr hq))
    | none => cases e
    | bool _ => cases e
    | int _ => cases e
    | str _ => cases e
    | tuple _ => cases e
    | dict _ => cases e
  | l ys =>
    obtain ⟨b, vs, ev, h1, h2, _⟩ := h
    cases ev
    obtain ⟨o, z⟩ := lv a hq
    rw [h1] at z
    cases z
  | b ys => cases nb
  | o j ys =>
    obtain ⟨h1, ev⟩ := h
    cases ev
    exact C.ownO ⟨_, h1⟩ (.inr hq)
  | dk => cases e
  | ty n => cases e
  | fn f => cases e
theorem ig_list {t : TE} {T : AE} (a : EA I K t T) : IAG I K true i (iList K t) (wListG i T) := fun G ad ρ σ H p us qs g Φ R C Tt h k => by
  refine a (G.rows qs) ad ρ σ H _ _ C h fun r v H1 e1 k1 v1 h1 => ?_
  obtain ⟨xs, e, nb, h0, h1⟩ := onL_of h1
  have A1 := (At.start C).to e1 k1
  obtain ⟨a, vs, rfl, g1, c, s, n, d⟩ := A1.still v1 e
  have nr := Rv.notRow A1.con (fun q hq => (Tt.gr.lst q hq).elim fun vs z => ⟨_, z⟩) v1 e nb
  have T1 := Tt.step C s h0
  exact ⟨a, rfl, ⟨vs, SqL.of g1⟩, k _ xs _ H1 c T1 s (fun qs' ad' ρ' σ' H' c' s' => js_listH (s'.pres _ _ (fun z => by rw [z, T1.hp] at g1; cases g1) nr n g1) (DvAll.stepG c T1.hp s' d)) h1⟩
def gFor (A : ASt → (List PyData → ASt → Prop) → Prop) (i : Nat) (B : PyData → ASt → (ASt → Prop) → Prop) (T : ATG) : ATG := fun Φ ρ g => A ρ fun items ρ1 => ∃ P : Nat → ASt → List (Key × List PyData) → Prop, P 0 ρ1 g ∧
  (∀ n x ρ' g', items[n]? = some x → P n ρ' g' → B x ρ' fun ρ2 => ρ2[i]? = ρ'[i]? ∧ T (P (n + 1)) ρ2 g') ∧ ∀ ρ' g', P items.length ρ' g' → Φ ρ' g'
theorem sg_for {ns : List Nat} {wi : TI} {gt : TG} {tb : TS} {A : ASt → (List PyData → ASt → Prop) → Prop} {B : PyData → ASt → (ASt → Prop) → Prop} {T : ATG} {s1 s2 : Bool} (a : IAG I K s1 i wi A) (b : GD I K s2 ns gt B) (c : SAG I K i tb T) (hs : s2 = true → s1 = true := by decide) : SAG I K i (tFor wi gt tb) (gFor A i B T) := fun G ad ρ σ H p us qs g Φ D C Tt h k => by
  refine a G ad ρ σ H p us qs g _ _ C Tt h fun J items ρ1 H1 C1 T1 S1 js h1 => ?_
  obtain ⟨P, p0, turn, fin⟩ := h1
  refine ⟨fun n m σ' H' => m = items.length - n ∧ n ≤ items.length ∧ ∃ ad' ρ' us' qs' g', Con K (G.rows qs') ad' ρ' σ' H' ∧ TbU K G ad' ρ' H' i p us' g' qs' ∧ StG p qs qs' G ad ρ1 H1 ad' ρ' H' ∧ P n ρ' g', ⟨items.length, by simp, Nat.zero_le _, ad, ρ1, us, qs, g, C1, T1, StG.refl, p0⟩, ?_⟩
  rintro n m σ' H' ⟨rfl, hi, ad', ρ', us', qs', g', C', T', S', q⟩
  have j := js qs' ad' ρ' σ' H' C' S' n
  by_cases hlt : n < items.length
  · have hx := List.getElem?_eq_getElem hlt
    obtain ⟨go, yl⟩ := j.1 _ hx
    refine .inr ⟨go, fun σ2 H2 => ∃ ad2 ρ2 us2 qs2 g2, Con K (G.rows qs2) ad2 ρ2 σ2 H2 ∧ TbU K G ad2 ρ2 H2 i p us2 g2 qs2 ∧ StG p qs qs2 G ad ρ1 H1 ad2 ρ2 H2 ∧ P (n + 1) ρ2 g2, fun σ2 H2 ⟨ad2, ρ2, us2, qs2, g2, q⟩ => ⟨items.length - (n + 1), by omega, rfl, hlt, ad2, ρ2, us2, qs2, g2, q⟩, fun x H'' y => ?_⟩
    obtain ⟨s, d⟩ := yl x H'' y
    have C2 := C'.to (Ext.same s) (C'.dok.same s)
    have S2 : Step (G.rows qs') ad' ρ' H' ad' ρ' H'' := Step.of C' (Ext.same s) (C'.dok.same s)
    have T2 := T'.step C' S2 rfl
    refine b (G.rows qs') ad' ρ' σ' H'' x _ _ _ C2 (d.to hs) (turn n _ ρ' g' hx q) fun ρ3 σ3 c3 o3 w3 f3 h3 => ?_
    have S4 := (S'.trans S2.offG).trans (Step.offG (Step.ofD (H := H'') w3))
    exact c G ad' ρ3 σ3 H'' p us' qs' g' _ _ c3 (T2.step C2 (Step.ofD w3) h3.1) h3.2 fun a r σ' h us2 qs2 kv c t u q => ⟨a, r, us2, qs2, kv, c, t, S4.trans u, q⟩
  · have e : n = items.length := by omega
    exact .inl ⟨j.2 e, k ad' ρ' σ' H' us' qs' g' C' T' ((Step.offG S1).trans S') (fin ρ' g' (by rw [← e]; exact q))⟩
def noLent (ρ : ASt) : Bool := ρ.all fun
  | some (.bl _) => false
  | _ => true
theorem noLent_get {xs : List PyData} {n : Nat} (h : noLent ρ = true) (e : (ρ[n]?).getD none = some (.bl xs)) : False := by
  cases q : ρ[n]? with
  | none => rw [q] at e; cases e
  | some z =>
    rw [q] at e
    have := List.all_eq_true.mp h _ (List.mem_of_getElem? q)
    rw [show z = some (.bl xs) from e] at this
    cases this
/-- a row changes: nothing else is told otherwise -/
theorem Con.offR {u : HO} (C : Con K G ad ρ σ H) {q : Addr} (hq : G.O q) (nW : ¬ G.W q) (n0 : G.H0 q = none) (nk : ∀ p, G.dk = some p → ¬ I.keep p.1 p.2 q) (nb : noLent ρ = true) : Con K G ad ρ σ (upd H q u) where
  ok := C.ok
  live := fun {a} h => by
    by_cases e : a = q
    · exact ⟨_, by rw [e]; exact upd_same⟩
    · rw [upd_ne e]; exact C.live h
  ownO := C.ownO
  dok := C.dok.out (fun a w => upd_ne (show a ≠ q from fun z => nW (z ▸ w))) fun p b o z y e => by
    rw [upd_ne (show b ≠ q from fun w => nk p z (w ▸ y))]; exact e
  ext := fun b o w e => by
    rw [upd_ne (show b ≠ q from fun z => by rw [z, n0] at e; cases e)]
    exact C.ext b o w e
  len := C.len
  inj := C.inj
  fr := C.fr
  sl := fun i => by
    have s := C.sl i
    cases h : (ρ[i]?).getD none with
    | none => trivial
    | some av =>
      rw [h] at s
      cases hv : σ[i]? with
      | none => rw [hv] at s; cases av <;> exact s.elim
      | some o =>
        cases o with
        | none => rw [hv] at s; cases av <;> exact s.elim
        | some v =>
          rw [hv] at s
          cases av with
          | d x => exact Dv.ext (W := fun b => b = q) (s : Dv K _ H v x) offX fun b w => .inl (w ▸ hq)
          | own xs =>
            obtain ⟨rfl, vs, h1, h2⟩ := s
            have ne : ad i ≠ q := fun z => C.ownO (ownAt_iff.mpr ⟨xs, h⟩) (z ▸ hq)
            exact ⟨rfl, vs, by rw [upd_ne ne]; exact h1, DvAll.ext (W := fun b => b = q) h2 offX fun b w => .inl (w ▸ hq)⟩
          | bl xs => exact (noLent_get nb h).elim
          | dk => exact s
          | fn f => exact s
end
end Zj

namespace Zj
open PySem PySem.Spec PyProof.Rows L2
section
variable {I : DkI} {K : PySem.W.Frag} {G : Gh I} {ad ad' ad2 : Nat → Addr} {ρ ρ' ρ2 : ASt} {σ σ' : L2.St} {H H0 H1 H' H2 : Hp} {p : Addr} {us us' : List (Key × V)} {qs qs' qs2 : List Addr} {g g' : List (Key × List PyData)} {i j : Nat}
theorem TbU.nk (T : TbU K G ad ρ H i p us g qs) {q : Addr} (h : q ∈ qs) : ∀ z, G.dk = some z → ¬ I.keep z.1 z.2 q := fun z e k => by
  rcases T.ok0.kp z q e k with w | ⟨o, w⟩
  · exact (T.nq q h).1 w
  · rw [(T.nq q h).2] at w; cases w
/-- a new row -/
theorem TbU.more (C : Con K (G.rows qs) ad ρ σ H) (T : TbU K G ad ρ H i p us g qs) {q : Addr} {k : Key} (h0 : H q = none) (e : Ext (G.rows qs).W H H1) (kk : (G.rows qs).dok H1) (h1 : H1 q = some (.lst [])) (hn : valV us k = none) :
    Con K (G.rows (qs ++ [q])) ad ρ σ (upd H1 p (.dK (putK us k (.ref q)))) ∧ TbU K G ad ρ (upd H1 p (.dK (putK us k (.ref q)))) i p (putK us k (.ref q)) (g ++ [(k, [])]) (qs ++ [q]) ∧ StG p qs (qs ++ [q]) G ad ρ H ad ρ (upd H1 p (.dK (putK us k (.ref q)))) := by
  have A := (At.start C).to e kk
  have C1 : Con K (G.rows (qs ++ [q])) ad ρ σ H1 := by
    rw [← rows_plus]
    exact A.plus0 h0 ⟨_, h1⟩
  have ne : p ≠ q := fun z => by rw [← z, T.hp] at h0; cases h0
  have T1 := T.step C A.step rfl
  have wO : ∀ b, Ow (G.rows (qs ++ [q])) ad ρ b → Ow (G.rows qs) ad ρ b ∨ b = q := fun b z => by
    rcases z with (z | z) | z
    · exact .inl (.inl (.inl z))
    · rcases List.mem_append.mp z with z | z
      · exact .inl (.inl (.inr z))
      · exact .inr (List.mem_singleton.mp z)
    · exact .inl (.inr z)
  have np : ¬ Ow (G.rows (qs ++ [q])) ad ρ p := fun z => (wO p z).elim T.np ne
  have nqs : q ∉ qs := fun z => by
    obtain ⟨vs, y⟩ := T.gr.lst q z
    rw [h0] at y; cases y
  have C2 := C1.off (u := .dK (putK us k (.ref q))) T1.hp np T.n0
  have S : Step (G.rows qs) ad ρ H ad ρ H1 := A.step
  have gr1 : GRow K (Ow (G.rows (qs ++ [q])) ad ρ) (upd H1 p (.dK (putK us k (.ref q)))) us g qs := by
    have hf : ∀ a ∈ qs, ∀ o, H a = some o → upd H1 p (.dK (putK us k (.ref q))) a = some o := fun a ha o z => by
      have na : a ≠ p := fun y => T.np (y ▸ .inl (.inr ha))
      rw [upd_ne na]
      exact e a o (T.nW ha) z
    exact T.gr.map hf fun vs xs d => DvAll.offU T1.hp (DvAll.ext (d.fresh h0 wO) e fun b w => C1.wo w)
  refine ⟨C2, ⟨T.ok0, T.at_, np, T.n0, fun a ha => ?_, ?_, upd_same, ?_⟩, ⟨fun b o nb nq nm hb => ?_, fun b hb => ?_, fun m hm => .inl ⟨m, hm, rfl⟩, fun b hb => ?_⟩⟩
  · rcases List.mem_append.mp ha with ha | ha
    · exact T.nq a ha
    · rw [List.mem_singleton.mp ha]
      refine ⟨fun z => ?_, free_back C.ext (fun b w => C.dok.liveW w) h0⟩
      obtain ⟨o, y⟩ := C.live (a := q) (.inl z)
      rw [h0] at y; cases y
  · rw [List.nodup_append]
    exact ⟨T.nd, by simp, fun a ha b hb z => nqs (by rw [← List.mem_singleton.mp hb, ← z]; exact ha)⟩
  · rw [putK_new _ hn]
    rw [putK_new _ hn] at gr1
    exact gr1.snoc (by rw [upd_ne ne.symm]; exact h1) .nil
  · rw [upd_ne nb]; exact e b o (fun w => nm (.inl w)) hb
  · rcases List.mem_append.mp hb with hb | hb
    · exact .inl hb
    · rw [List.mem_singleton.mp hb]; exact .inr h0
  · by_cases z : b = p
    · exact ⟨_, by rw [z]; exact upd_same⟩
    · rw [upd_ne z]; exact A.step.live b hb
/-- row = t.setdefault(k, []); row.append(x) -/
def gPush (i j : Nat) (TK TL TV : AE) : ATG := fun Φ ρ g => TK ρ fun rk => TL ρ fun rl => ∃ k, rk = .d (keyD k) ∧ rl = .l [] ∧ noLent ρ = true ∧ i ≠ j ∧ j < ρ.length ∧ g.length < sizeLine ∧ (∀ e ∈ g, e.2.length < sizeLine) ∧ ∀ q, TV (ρ.set j (some (.fn q))) fun rv => ∃ y, dataOf rv = some y ∧ Φ (ρ.set j (some (.fn q))) (pushG g k y)
theorem sg_push {tk tl tv : TE} {TK TL TV : AE} (hk : EA I K tk TK) (hl : EA I K tl TL) (hv : EA I K tv TV) : SAG I K i (tSeq (tAsg (tDSetd (tVar i) tk tl) (gName j)) (tDrop (tBM K "list" rAppend (tVar j) (tCons tv tNil)))) (gPush i j TK TL TV) := fun G ad ρ σ H p us qs g Φ D C Tt h kont => by
  refine ⟨.ref p, Tt.get C, p, rfl, .inl ⟨us, .inl Tt.hp⟩, ?_⟩
  refine hk (G.rows qs) ad ρ σ H _ _ C h fun rk w H1 e1 k1 v1 h1 => ?_
  have A1 := (At.start C).to e1 k1
  have T1 := Tt.step C A1.step rfl
  refine hl (G.rows qs) ad ρ σ H1 _ _ A1.con h1 fun rl z H2 e2 k2 v2 h2 => ?_
  obtain ⟨key, rfl, rfl, nb, ij, hj, hlen, hrow, h2⟩ := h2
  have A2 := (At.start A1.con).to e2 k2
  have T2 := T1.step A1.con A2.step rfl
  obtain rfl := dv_keyV (show Dv K _ H1 w (keyD key) from v1)
  obtain ⟨q, vs0, rfl, q0, q1, q2⟩ := v2
  cases q2
  have fin : ∀ us' qs' g' q' H4, Con K (G.rows qs') ad ρ σ H4 → TbU K G ad ρ H4 i p us' g' qs' → StG p qs qs' G ad ρ H ad ρ H4 → valV us' key = some (.ref q') → (∀ y, pushG g' key y = pushG g key y) → (∀ e ∈ g', e.2.length < sizeLine) →
      tDrop (tBM K "list" rAppend (tVar j) (tCons tv tNil)) D (σ.set j (some (.ref q'))) H4 := by
    intro us' qs' g' q' H4 C4 T4 S4 hv4 hg hr4
    have C5 := C4.putN (i := j) (v := .ref q') (av := .fn q') (fun _ z => nomatch z) rfl
    have ofD : ∀ {H : Hp}, Step (G.rows qs') ad ρ H ad (ρ.set j (some (.fn q'))) H := Step.ofD fun _ z => own_putN (av := .fn q') (fun _ z => nomatch z) z
    have T5 := T4.step C4 ofD (List.getElem?_set_ne (Ne.symm ij))
    have lσ : j < σ.length := by rw [← C.len]; exact hj
    obtain ⟨r1, vs1, xs1, er, m1, a1, _⟩ := T5.gr.push T5.nd hv4
    cases er
    refine ⟨_, List.getElem?_set_self lσ, .inl ⟨rfl, _, SqL.of a1⟩, hv (G.rows qs') ad _ _ H4 _ _ C5 (h2 q') fun rv w H5 e5 k5 v5 h5 => ?_⟩
    obtain ⟨y, ey, h5⟩ := h5
    have A5 := (At.start C5).to e5 k5
    have T6 := T5.step C5 A5.step rfl
    obtain ⟨r2, vs2, xs2, er, m2, a2, d2, mem2, psh⟩ := T6.gr.push T6.nd hv4
    cases er
    have dw := A5.data v5 ey
    refine ⟨_, vs2, w, rfl, rfl, a2, by rw [← d2.len]; exact hr4 _ mem2, ?_⟩
    have hO : ∀ b, b = q' → Ow (G.rows qs') ad (ρ.set j (some (.fn q'))) b := fun b z => .inl (.inr (z ▸ m2))
    have nb5 : noLent (ρ.set j (some (.fn q'))) = true := List.all_eq_true.mpr fun x hx => by
      rcases List.mem_or_eq_of_mem_set hx with hx | rfl
      · exact List.all_eq_true.mp nb x hx
      · rfl
    have C7 := A5.con.offR (u := .lst (vs2 ++ [w])) (q := q') (.inr m2) (T6.nW m2) (T6.nq q' m2).2 (T6.nk m2) nb5
    have npq : p ≠ q' := fun z => T6.np (by rw [z]; exact .inl (.inr m2))
    have dd : ∀ vs xs, DvAll K (Ow (G.rows qs') ad (ρ.set j (some (.fn q')))) H5 vs xs → DvAll K (Ow (G.rows qs') ad (ρ.set j (some (.fn q')))) (upd H5 q' (.lst (vs2 ++ [w]))) vs xs := fun vs xs d => DvAll.ext d offX hO
    refine kont ad _ _ _ us' qs' (pushG g' key y) C7 ⟨T6.ok0, T6.at_, T6.np, T6.n0, T6.nq, T6.nd, by rw [upd_ne npq]; exact T6.hp, psh w y dd (Dv.ext dw offX hO)⟩ ((S4.trans (Step.offG ofD)).trans ?_) (by rw [hg]; exact h5)
    refine ⟨fun b o nbp nbq nm hb => ?_, fun b hb => .inl hb, fun m hm => .inl ⟨m, hm, rfl⟩, fun b hb => ?_⟩
    · rw [upd_ne (show b ≠ q' from fun z => nbq (by rw [z]; exact m2))]
      exact e5 b o (fun w => nm (.inl w)) hb
    · by_cases z : b = q'
      · exact ⟨_, by rw [z]; exact upd_same⟩
      · rw [upd_ne z]; exact A5.step.live b hb
  refine ⟨us, key, T2.hp, rfl, by rw [← T2.gr.len]; exact hlen, fun v hv => ?_, fun hn => ?_⟩
  · obtain ⟨q', vs, xs, rfl, m, _⟩ := T2.gr.push T2.nd hv
    exact fin us qs g q' H2 A2.con T2 ((Step.offG A1.step).trans (Step.offG A2.step)) hv (fun _ => rfl) hrow
  · obtain ⟨C4, T4, S4⟩ := T1.more (k := key) A1.con q0 e2 k2 q1 hn
    exact fin _ _ _ q _ C4 T4 ((Step.offG A1.step).trans S4) (by rw [valV_put]; exact if_pos rfl) (fun y => pushG_new T1.gr hn y) (fun e he => by
      rcases List.mem_append.mp he with he | he
      · exact hrow e he
      · rw [List.mem_singleton.mp he]; exact (by decide : (0:Nat) < sizeLine))
/-! ### a block in which the table is made, filled, and then stands -/
abbrev ATTG := AEnds → ASt → List (Key × List PyData) → Prop
variable (I K) in
def SGT (i : Nat) (t : TS) (T : ATTG) : Prop := ∀ (G : Gh I) (ad0 : Nat → Addr) (ρ0 : ASt) (H0 : Hp) (ad : Nat → Addr) (ρ : ASt) (σ : L2.St) (H : Hp) (p : Addr) (us : List (Key × V)) (qs : List Addr) (g : List (Key × List PyData)) (Φ : AEnds) (D : Ends), Con K (G.rows qs) ad ρ σ H → TbU K G ad ρ H i p us g qs → H0 p = none → StG p [] qs G ad0 ρ0 H0 ad ρ H → T Φ ρ g → EOk K G ad0 ρ0 H0 Φ D → t D σ H
def rowD (e : Key × List PyData) : Key × PyData := (e.1, .list e.2)
theorem GRow.kv {O O' : Addr → Prop} (h : GRow K O H us g qs) (n : ∀ q ∈ qs, ¬ O' q) (f : ∀ q ∈ qs, ∀ o, H q = some o → H' q = some o) (d : ∀ vs xs, DvAll K O H vs xs → DvAll K O' H' vs xs) : KvR K O' H' us (g.map rowD) := by
  induction h with
  | nil => exact .nil
  | cons h1 h2 _ ih => exact .cons (.lst ⟨n _ (List.mem_cons.mpr (.inl rfl)), f _ (List.mem_cons.mpr (.inl rfl)) _ h1⟩ (d _ _ h2)) (ih (fun q hq => n q (List.mem_cons.mpr (.inr hq))) fun q hq => f q (List.mem_cons.mpr (.inr hq)))
theorem Con.unrow (C : Con K (G.rows qs) ad ρ σ H) (ok : G.Ok) : Con K G ad ρ σ H :=
  ⟨ok, fun h => C.live (.inl h), fun h z => C.ownO h (.inl z), C.dok, C.ext, C.len, fun k => (C.sl k).weak (fun b z => z.imp .inl id) (fun b z => z), C.inj, C.fr⟩
def gStill (i : Nat) (T : ATG) (W : ATS) : ATTG := fun Φ ρ g => T (fun ρ' g' => W Φ (ρ'.set i (some (.d (kvD (g'.map rowD)))))) ρ g
theorem sgt_still {t r : TS} {T : ATG} {W : ATS} (a : SAG I K i t T) (b : SA I K r W) : SGT I K i (tSeq (tFrzS t) r) (gStill i T W) := fun G ad0 ρ0 H0 ad ρ σ H p us qs g Φ D C Tt f s h k =>
  a G ad ρ σ H p us qs g _ _ C Tt h fun ad' ρ' σ' H' us' qs' g' c q s2 g2 => by
    refine ⟨p, _, q.hp, trivial, fun od => ?_⟩
    have C3 := (c.off (u := .frz od (.dK us')) q.hp q.np q.n0).unrow q.ok0
    have npq : ∀ b ∈ qs', b ≠ p := fun b hb z => q.np (z ▸ .inl (.inr hb))
    have wO : ∀ b, Ow G ad' ρ' b → Ow (G.rows qs') ad' ρ' b := fun b z => z.imp .inl id
    have dv : Dv K (Ow G ad' ρ') (upd H' p (.frz od (.dK us'))) (.ref p) (kvD (g'.map rowD)) := kv_dv ⟨fun z => q.np (wO p z), od, upd_same⟩ (q.gr.kv (fun b hb z => by
      rcases z with z | ⟨m, hm, e⟩
      · exact (q.nq b hb).1 z
      · exact c.ownO hm (.inr (e ▸ hb))) (fun b hb o z => by rw [upd_ne (npq b hb)]; exact z) fun vs xs d => (DvAll.offU q.hp d).weak wO)
    have C4 := C3.putN (i := i) (v := .ref p) (av := .d (kvD (g'.map rowD))) (fun _ z => nomatch z) dv
    rw [set_self (q.get c)] at C4
    have s3 := s.trans s2
    refine b G ad' _ σ' _ Φ D C4 g2 (k.step ⟨fun b o n e => ?_, fun j hj => s3.own j ?_, fun b e => ?_⟩)
    · have ne : b ≠ p := fun z => by rw [z, f] at e; cases e
      rw [upd_ne ne]
      exact s3.pres b o ne (fun z => nomatch z) n e
    · rcases own_set hj with ⟨_, xs, z⟩ | ⟨_, z⟩
      · cases z
      · exact z
    · by_cases z : b = p
      · exact ⟨_, by rw [z]; exact upd_same⟩
      · rw [upd_ne z]; exact s3.live b e
/-- xs, t = [..], {} -/
def aTabPar (i j : Nat) (T : AE) (U : ATTG) : ATS := fun Φ ρ => T ρ fun r => ∃ xs, r = .l xs ∧ i ≠ j ∧ j < ρ.length ∧ ∀ p, U Φ ((ρ.set i (some (.own xs))).set j (some (.fn p))) []
theorem sa_tabPar {t : TE} {u : TS} {T : AE} {U : ATTG} (a : EA I K t T) (b : SGT I K j u U) : SA I K (tSeq (tPar i j (tCons t (tCons tDNewK tNil))) u) (aTabPar i j T U) := fun G ad ρ σ H Φ D C h k => by
  refine a G ad ρ σ H _ _ C h fun r v H1 e1 k1 v1 h1 p fp => ?_
  obtain ⟨xs, rfl, ij, lj, h1⟩ := h1
  have A1 := (At.start C).to e1 k1
  obtain ⟨q, vs, rfl, f0, g1, g2⟩ := v1
  obtain ⟨C1, S1⟩ := A1.putL (i := i) f0 g1 g2
  have A2 := (At.start C1).to (Ext.new fp (o := .dK [])) (C1.dok.new fp)
  have C2 := A2.con.putN (i := j) (v := .ref p) (av := .fn p) (fun _ z => nomatch z) rfl
  have S2 : Step G ad ρ H (adS ad i q) ((ρ.set i (some (.own xs))).set j (some (.fn p))) (upd H1 p (.dK [])) := (S1.trans A2.step).trans (Step.ofD fun _ z => own_putN (av := .fn p) (fun _ z => nomatch z) z)
  have n0 : G.H0 p = none := free_back C1.ext (fun b w => C1.dok.liveW w) fp
  have ow : ∀ b, Ow G (adS ad i q) ((ρ.set i (some (.own xs))).set j (some (.fn p))) b → Ow G (adS ad i q) (ρ.set i (some (.own xs))) b := fun b z => z.imp id fun ⟨m, hm, e⟩ => ⟨m, own_putN (av := .fn p) (fun _ z => nomatch z) hm, e⟩
  have fp0 : H p = none := free_back e1 (fun b w => k1.liveW w) fp
  refine ⟨_, _, rfl, ?_⟩
  have C3 : Con K (G.rows []) (adS ad i q) ((ρ.set i (some (.own xs))).set j (some (.fn p))) ((σ.set i (some (.ref q))).set j (some (.ref p))) (upd H1 p (.dK [])) := by rw [rows_nil]; exact C2
  refine b G ad ρ H (adS ad i q) _ _ _ p [] [] [] Φ D C3 ⟨C.ok, List.getElem?_set_self (by rw [List.length_set]; exact lj), fun z => C1.freshO fp (ow _ (by rw [rows_nil] at z; exact z)), n0, (fun _ z => nomatch z), .nil, upd_same, .nil⟩ fp0 ?_ (h1 p) k
  exact ⟨fun b o _ _ n e => S2.pres b o n e, (fun _ z => nomatch z), S2.own, S2.live⟩
/-! ### sorted(d) of a dict of texts -/
def rSortedDk : List V → Hp → VK → Prop := fun xs H Q => ∃ (a : Addr) (kvs : List (Key × V)) (ks : List Str), xs = [.ref a] ∧ Rd H a (.dK kvs) ∧ kvs.map (·.1) = ks.map Sum.inr ∧ ks.length < 64 ∧
    ∀ ys p, ys.Perm ks → sortedS ys = true → H p = none → Q (.ref p) (upd H p (.lst (ys.map V.str)))
theorem cr_sortedDk {X : Cx} (hc : X.calm = true) : CallR X (.builtin "sorted") rSortedDk := call_sortedD hc
theorem KvR.keys {O : Addr → Prop} {kvs : List (Key × PyData)} (h : KvR K O H us kvs) : us.map (·.1) = kvs.map (·.1) := by
  induction h with
  | nil => rfl
  | cons _ _ ih => rw [List.map_cons, List.map_cons, ih]
def aSortD (T : AE) : AE := fun ρ Φ => T ρ fun r => ∃ (kvs : List (Key × PyData)) (ks : List Str), r = .d (kvD kvs) ∧ kvs.map (·.1) = ks.map Sum.inr ∧ ks.length < 64 ∧ ∀ ys : List Str, ys.Perm ks → sortedS ys = true → Φ (.l (ys.map PyData.str))
theorem ea_sortD {t : TE} {T : AE} (a : EA I K t T) : EA I K (tCB rSortedDk (tCons t tNil)) (aSortD T) := fun G ad ρ σ H Φ Q C h k => by
  refine a G ad ρ σ H _ _ C h fun r v H1 e1 k1 v1 h1 => ?_
  have A1 := (At.start C).to e1 k1
  obtain ⟨kvs, ks, rfl, hk, hl, h1⟩ := h1
  obtain ⟨x, vs, rfl, g1, g2⟩ := dv_kv (show Dv K _ H1 v (kvD kvs) from v1)
  exact ⟨x, vs, ks, rfl, g1.rd, by rw [g2.keys, hk], hl, fun ys p pm so fp => k (.l (ys.map PyData.str)) _ _ (e1.trans (Ext.new fp)) (A1.k.new fp) ⟨p, _, rfl, A1.fr fp, upd_same, dvS ys⟩ (h1 ys pm so)⟩
end
end Zj
namespace Zj
open PySem L2
def top (i : Nat) : Stmt := PySem.Challenge.pw_versionjudge_k16_whole_conditions_by_the.main.body.getD i (.Pass ⟨0, 0, 0, 0⟩)
abbrev DK : DkI := dkC
structure Blt (K : PySem.W.Frag) (mg : Str → Option Value) : Prop where
  isinstance : mg "isinstance" = none
  tuple : mg "tuple" = none
  bool : mg "bool" = none
  all : mg "all" = none
  any : mg "any" = none
  list : mg "list" = none
  repr : mg "repr" = none
  enumerate : mg "enumerate" = none
  int : mg "int" = none
  max : mg "max" = none
  len : mg "len" = none
  range : mg "range" = none
  sorted : mg "sorted" = none
  zip : mg "zip" = none
  set : mg "set" = none
  str : mg "str" = none
  dict : mg "dict" = none
  min : mg "min" = none

abbrev sLDraw : Stmt := top 19
abbrev nLDraw : List Str := ["_law_deck", "_law_below", "_law_figure", "_law_cell"]
abbrev pLDraw : List Str := ["_law_deck", "_law_below"]
theorem scLDraw : FnScope nLDraw pLDraw (defScope sLDraw) := ⟨rfl, rfl, rfl, by decide +kernel, rfl, by decide +kernel, by decide +kernel⟩
section
variable {P : Program} {w : World} {K : PySem.W.Frag} {mg : Str → Option Value} {base : Heap}
theorem okH_LDraw {f : Addr} {fd : FuncData} (Z : Blt K mg) (D : DefAt K mg "_law_draw" sLDraw pLDraw f fd) : FnOk P w K mg base CX0 1 f fd pLDraw (spDrawI DK) := by
  refine D.F.ok scLDraw (fun vs H Q E h => ?_) (fun cdv A outer s0 H vs Q E hr h => ?_)
  · obtain ⟨d, l, m, rfl, _⟩ := h
    rfl
  have hu := hu_of hr
  obtain ⟨d, l, m, rfl, Dk, hm0, hm1, k⟩ := h
  refine ⟨_, (pss_cons (ps_dput hu (pv 0) pe_str (pe_op op_add (pe_dget hu (pv 0) pe_str (fun _ _ => rfl)) pe_int) rfl)
    (pss_cons (ps_set (i := 2) scLDraw.nd rfl (Or.inl rfl) (pe_op op_add (pe_dget hu (pv 0) pe_str (fun _ _ => rfl)) (pe_op op_mul pe_int (pe_dget hu (pv 0) pe_str (fun _ _ => rfl)))))
    (Evl.pss_cut (ps_if (pt_cmpR (op_neD hr.units) (pe_dget hu (pv 0) pe_str (fun _ _ => rfl)) (pe_lst pa_nil) (nomark _))
    (pss_cons (ps_set (i := 3) scLDraw.nd rfl (Or.inl rfl) (pe_bm0 PySem.F.plainAttrs_list PySem.F.slot_list_pop PySem.F.type_list_pop mt_pop (pe_dget hu (pv 0) pe_str (fun _ _ => rfl))))
      (pss_cons (ps_if (pt_cmpR op_ge (pv 3) (pe_op op_pow pe_int pe_int) (nomark _))
      (pss_cons (ps_expr (pe_bm PySem.F.plainAttrs_list PySem.F.slot_list_append PySem.F.type_list_append mt_append (pe_dget hu (pv 0) pe_str (fun _ _ => rfl)) (pa_cons (pe_op op_fdivN (pv 3) (pe_callB (call_max2 rfl) (by rfl) Z.max (by decide +kernel) (pa_cons pe_int (pa_cons (pv 1) pa_nil)))) pa_nil)))
        (pss_one (ps_ret (pe_op op_mod (pe_callTy call_int1 (by rfl) Z.int (by decide +kernel) (pa_cons (pv 3) pa_nil)) (pv 1)))))
      pss_nil)
      (pss_one (ps_set (i := 2) scLDraw.nd rfl (Or.inl rfl) (pe_op op_add (pv 2) (pe_op op_mod (pe_callTy call_int1 (by rfl) Z.int (by decide +kernel) (pa_cons (pv 3) pa_nil)) pe_int))))))
    pss_nil)
    (pss_cons (ps_set (i := 2) scLDraw.nd rfl (Or.inl rfl) (pe_op op_mod (pe_callTy call_int1 (by rfl) Z.int (by decide +kernel) (pa_cons (pe_op op_add (pe_op op_mul (pv 2) pe_int) pe_int) pa_nil)) pe_int))
    (pss_cons (ps_set (i := 2) scLDraw.nd rfl (Or.inl rfl) (pe_op op_mod (pe_callTy call_int1 (by rfl) Z.int (by decide +kernel) (pa_cons (pe_op op_add (pe_op op_add (pe_op op_mul (pv 2) (pv 2)) (pe_op op_mul pe_int (pe_dget hu (pv 0) pe_str (fun _ _ => rfl)))) pe_int) pa_nil)) pe_int))
    (pss_cons (ps_set (i := 2) scLDraw.nd rfl (Or.inl rfl) (pe_op op_mod (pe_callTy call_int1 (by rfl) Z.int (by decide +kernel) (pa_cons (pe_op op_add (pe_op op_mul (pv 2) pe_int) pe_int) pa_nil)) pe_int))
    (pss_one (ps_ret (pe_op op_mod (pe_callTy call_int1 (by rfl) Z.int (by decide +kernel) (pa_cons (pe_op op_fdiv (pv 2) pe_int) pa_nil)) (pv 1)))))))))), ?_⟩
  obtain ⟨ns, mx, t, h1, h2, hl, a0, a1⟩ := Dk
  have ndl : d ≠ l := ne_of h1 h2 (fun q => nomatch q)
  refine ⟨_, rfl, d, _, rfl, get_turnC h1, _, _, rfl, rfl, _, rfl, d, _, rfl, set_turnC _ h1, ?_⟩
  have h1' := (upd_same (H := H) (a := d) (o := .dK (dkvC l mx (t + 1))))
  have h2' : upd H d (.dK (dkvC l mx (t + 1))) l = some (.lst (ns.map V.int)) := by rw [upd_ne ndl.symm]; exact h2
  have k1 : Kp d l H (upd H d (.dK (dkvC l mx (t + 1)))) := fun b o n1 _ e => by rw [upd_ne n1]; exact e
  generalize upd H d (.dK (dkvC l mx (t + 1))) = H1 at *
  refine ⟨_, rfl, d, _, rfl, get_mixedC h1', _, rfl, d, _, rfl, get_turnC h1', _, _, rfl, rfl, .inl (by decide), _, _, rfl, rfl, ?_⟩
  refine ⟨fun σ' H' => ∃ (fig : Int) (v3 : Option V), σ' = [some (.ref d), some (.int m), some (.int fig), v3] ∧ DeckC d l H' ∧ Kp d l H H', ?_, ?_⟩
  · refine ⟨_, rfl, d, _, rfl, get_leftC h1', Nat.zero_le _, fun p hp => ?_⟩
    have h3 : upd H1 p (.lst []) d = some (.dK (dkvC l mx (t + 1))) := by rw [upd_ne (ne_of_none h1' hp)]; exact h1'
    have h4 : upd H1 p (.lst []) l = some (.lst (ns.map V.int)) := by rw [upd_ne (ne_of_none h2' hp)]; exact h2'
    have h5 : upd H1 p (.lst []) p = some (.lst []) := upd_same
    have k2 : Kp d l H (upd H1 p (.lst [])) := k1.trans (Kp.new hp)
    generalize upd H1 p (.lst []) = H2 at *
    refine ⟨_, _, .lst (SqL.of h4) (DpAll.ints ns), .lst (SqL.of h5) .nil, sh_ints ns, by decide, _, rfl, ?_⟩
    cases ns with
    | nil =>
      refine iteF ?_
      exact ⟨_, none, rfl, ⟨[], mx, t + 1, h3, h4, hl, a0, a1⟩, k2⟩
    | cons n0 nr =>
      refine iteT ?_
      generalize hz : (n0 :: nr : List Int) = zs at *
      have hzl : zs ≠ [] := by rw [← hz]; exact List.cons_ne_nil _ _
      obtain ⟨z, hzz⟩ : ∃ z, zs = zs.dropLast ++ [z] := ⟨zs.getLast hzl, (List.dropLast_concat_getLast hzl).symm⟩
      have hget : (zs.map V.int)[(zs.map V.int).length - 1]? = some (V.int z) := by
        rw [hzz]; simp
      have hdl : (zs.map V.int).dropLast = zs.dropLast.map V.int := by simp
      refine ⟨_, rfl, d, _, rfl, get_leftC h3, .inl ⟨rfl, _, SqL.of h4⟩, l, _, _, rfl, rfl, h4, hget, ?_⟩
      rw [hdl]
      have h6 : upd H2 l (.lst (zs.dropLast.map V.int)) d = some (.dK (dkvC l mx (t + 1))) := by rw [upd_ne ndl]; exact h3
      have h7 : upd H2 l (.lst (zs.dropLast.map V.int)) l = some (.lst (zs.dropLast.map V.int)) := upd_same
      have k3 : Kp d l H (upd H2 l (.lst (zs.dropLast.map V.int))) := fun b o n1 n2 e => by rw [upd_ne n2]; exact k2 b o n1 n2 e
      have hl2 : zs.dropLast.length + 1 ≤ 63 := by
        have := congrArg List.length hzz
        rw [List.length_append, List.length_singleton] at this
        omega
      generalize upd H2 l (.lst (zs.dropLast.map V.int)) = H3 at *
      generalize zs.dropLast = ws at *
      refine ⟨_, rfl, _, _, rfl, rfl, ⟨by decide, by decide, by decide⟩, _, _, rfl, rfl, _, rfl, ?_⟩
      refine ite2 (fun _ => ?_) (fun _ => ?_)
      · refine ⟨_, rfl, d, _, rfl, get_leftC h6, .inl ⟨rfl, _, SqL.of h7⟩, _, rfl, _, rfl, _, _, rfl, _, _, rfl, rfl, ⟨?_, ?_⟩, l, _, _, rfl, rfl, h7, ?_, ?_⟩
        · split <;> omega
        · split <;> omega
        · rw [List.length_map]; exact small1000 (by omega)
        · have h8 : upd H3 l (.lst (ws.map V.int ++ [V.int (z.fdiv (if m > 2 then m else 2))])) d = some (.dK (dkvC l mx (t + 1))) := by rw [upd_ne ndl]; exact h6
          refine ⟨_, rfl, .inl ⟨_, rfl, _, rfl, _, _, rfl, rfl, hm0, ?_⟩⟩
          refine k _ _ ?_ ?_ (Int.emod_nonneg _ (by omega)) (Int.emod_lt_of_pos _ hm0)
          · intro b o n1 n2 e
            rw [upd_ne n2]
            exact k3 b o n1 n2 e
          · refine ⟨ws ++ [z.fdiv (if m > 2 then m else 2)], mx, t + 1, h8, ?_, ?_, a0, a1⟩
            · rw [upd_same, List.map_append]; rfl
            · rw [List.length_append, List.length_singleton]; exact hl2
      · refine ⟨_, rfl, _, rfl, .inl ⟨_, rfl, _, _, rfl, rfl, (by show (0 : Int) < 2147483477; decide), _, _, rfl, rfl, ?_⟩⟩
        exact ⟨_, _, rfl, ⟨ws, mx, t + 1, h6, h7, by omega, a0, a1⟩, k3⟩
  · rintro σ' H' ⟨fig, v3, rfl, ⟨ns', mx', t', g1, g2, g3, g4, g5⟩, k4⟩
    refine ⟨_, rfl, _, _, rfl, rfl, .inr (by decide), _, _, rfl, rfl, .inl ⟨_, rfl, _, _, rfl, rfl, (by show (0 : Int) < 2305843009213693951; decide), ?_⟩⟩
    have b1 : (fig * 69621 + 59) % 2305843009213693951 < 2305843009213693951 := Int.emod_lt_of_pos _ (by decide)
    have b2 : 0 ≤ (fig * 69621 + 59) % 2305843009213693951 := Int.emod_nonneg _ (by decide)
    generalize (fig * 69621 + 59) % 2305843009213693951 = f1 at *
    refine ⟨_, rfl, _, rfl, _, _, rfl, rfl, .inl ⟨by omega, by omega⟩, _, rfl, d, _, rfl, get_turnC g1, _, _, rfl, rfl, .inl (by decide), _, _, rfl, rfl, _, _, rfl, rfl, .inl ⟨_, rfl, _, _, rfl, rfl, (by show (0 : Int) < 2305843009213693921; decide), ?_⟩⟩
    generalize (f1 * f1 + 58391 * t' + 59) % 2305843009213693921 = f2 at *
    refine ⟨_, rfl, _, _, rfl, rfl, .inr (by decide), _, _, rfl, rfl, .inl ⟨_, rfl, _, _, rfl, rfl, (by show (0 : Int) < 2305843009213693951; decide), ?_⟩⟩
    generalize (f2 * 39373 + 11) % 2305843009213693951 = f3 at *
    refine ⟨_, rfl, _, _, rfl, rfl, ⟨by decide, by decide⟩, .inl ⟨_, rfl, _, rfl, _, _, rfl, rfl, hm0, ?_⟩⟩
    exact k _ _ k4 ⟨ns', mx', t', g1, g2, g3, g4, g5⟩ (Int.emod_nonneg _ (by omega)) (Int.emod_lt_of_pos _ hm0)
theorem ok_LDraw {f : Addr} {fd : FuncData} (Z : Blt K mg) (D : DefAt K mg "_law_draw" sLDraw pLDraw f fd) : FnOk P w K mg base CX0 1 f fd pLDraw (spA 2 K DK T_draw) := (okH_LDraw Z D).imp fun vs H Q E h => draw_of h
end
abbrev sLDealt : Stmt := top 18
abbrev nLDealt : List Str := ["_law_script", "_law_mixed_here", "_law_cell"]
abbrev pLDealt : List Str := ["_law_script"]
theorem scLDealt : FnScope nLDealt pLDealt (defScope sLDealt) := ⟨rfl, rfl, rfl, by decide +kernel, rfl, by decide +kernel, by decide +kernel⟩
section
variable {P : Program} {w : World} {K : PySem.W.Frag} {mg : Str → Option Value} {base : Heap}
theorem ok_LDealt {f : Addr} {fd : FuncData} (Z : Blt K mg) (D : DefAt K mg "_law_dealt" sLDealt pLDealt f fd) : FnOk P w K mg base CX0 1 f fd pLDealt (spDeckI DK K) := by
  refine D.F.ok scLDealt (fun vs H Q E h => ?_) (fun cdv A outer s0 H vs Q E hr h => ?_)
  · obtain ⟨a, ns, rfl, _⟩ := h
    rfl
  have hu := hu_of hr
  obtain ⟨a, ns, rfl, ha, hl, k⟩ := h
  refine ⟨_, (pss_cons (ps_set (i := 1) scLDealt.nd rfl (Or.inl rfl) pe_int)
    (pss_cons (ps_for PassesOwn.never rfl (pi_list (pe_slice sl_list (pv 0) po_none (po_some pe_int))) (pg_name (i := 2) scLDealt.nd rfl (Or.inl rfl))
    (pss_one (ps_set (i := 1) scLDealt.nd rfl (Or.inl rfl) (pe_op op_mod (pe_callTy call_int1 (by rfl) Z.int (by decide +kernel) (pa_cons (pe_op op_add (pe_op op_add (pe_op op_mul (pv 1) pe_int) (pe_op op_mod (pe_callTy call_int1 (by rfl) Z.int (by decide +kernel) (pa_cons (pv 2) pa_nil)) pe_int)) pe_int) pa_nil)) pe_int))))
    (pss_one (ps_ret (pe_disp (pps_cons pe_str (pe_revL (pe_lc (own := [("_law_cell", 2)]) (g := gName 2) (tt := tYes) rfl scLDealt.nd (pi_list (pe_slice sl_list (pv 0) po_none (po_some pe_int))) (blkOk_by (own := [("_law_cell", 2)]) (N := nLDealt) (sc := defScope sLDealt) (by decide +kernel)) (fun _ _ _ _ _ => (pg_name (i := 2) scLDealt.nd rfl (Or.inl rfl))) (fun _ _ _ _ _ => pts_nil) (fun _ _ _ _ _ => (pe_callTy call_int1 (by rfl) Z.int (by decide +kernel) (pa_cons (pv 2) pa_nil))))) (pps_cons pe_str (pv 1) (pps_cons pe_str pe_int pps_nil))) (by rfl) (by rfl) (fun z => by cases z) (by decide)))))), ?_⟩
  obtain ⟨ms, em, lm⟩ := cutV_map ns none (some 63)
  refine ⟨_, rfl, 63, rfl, a, _, rfl, ha, fun p hp => ?_⟩
  rw [em]
  have s1 : Same H (upd H p (.lst (ms.map V.int))) := Same.new hp
  have hp1 : upd H p (.lst (ms.map V.int)) p = some (.lst (ms.map V.int)) := upd_same
  generalize upd H p (.lst (ms.map V.int)) = H1 at *
  refine ⟨p, rfl, ⟨_, SqL.of hp1⟩, for_list (K := K) (a := p) (xs := ms.map V.int) (fun i σ H' => ∃ (m : Int) (v : Option V), σ = [some (.ref a), some (.int m), v] ∧ 0 ≤ m ∧ m < 2305843009213693951 ∧ Same H1 H') ⟨_, none, rfl, by decide, by decide, Same.refl _⟩ (fun i σ H' _ ⟨_, _, _, _, _, s⟩ => SqL.of (s _ _ hp1)) ?_ ?_⟩
  · rintro i y σ H' hi ⟨m, v, rfl, m0, m1, s2⟩
    obtain ⟨z, _, rfl⟩ := map_get hi
    refine ⟨_, rfl, _, _, rfl, rfl, .inr (by decide), _, rfl, .inl ⟨_, rfl, _, _, rfl, rfl, (by show (0 : Int) < 2305843009213693921; decide), _, _, rfl, rfl, _, _, rfl, rfl, .inl ⟨_, rfl, _, _, rfl, rfl, (by show (0 : Int) < 2305843009213693951; decide), ?_⟩⟩⟩
    exact ⟨_, _, rfl, Int.emod_nonneg _ (by decide), Int.emod_lt_of_pos _ (by decide), s2⟩
  · rintro σ H2 ⟨m, v, rfl, m0, m1, s2⟩
    have s3 := s1.trans s2
    intro d hd
    have s4 : Same H2 (upd H2 d (.dK [])) := Same.new hd
    have hd4 : upd H2 d (.dK []) d = some (.dK []) := upd_same
    have s5 := s3.trans s4
    generalize upd H2 d (.dK []) = H4 at *
    refine ⟨_, rfl, 63, rfl, a, _, rfl, s5.seq ha, fun q hq => ?_⟩
    rw [em]
    have s6 : Same H4 (upd H4 q (.lst (ms.map V.int))) := Same.new hq
    have hq6 : upd H4 q (.lst (ms.map V.int)) q = some (.lst (ms.map V.int)) := upd_same
    generalize upd H4 q (.lst (ms.map V.int)) = H6 at *
    refine ⟨q, rfl, ⟨_, SqL.of hq6⟩, fun L hL => lc_list (K := K) (a := q) (xs := ms.map V.int) (fun i H' => ∃ rs : List Int, rs.length = i ∧ H' L = some (.lst (rs.map V.int)) ∧ Same H6 H') ⟨[], rfl, upd_same, Same.new hL⟩ (fun i H' _ ⟨_, _, _, s⟩ => SqL.of (s _ _ hq6)) ?_ ?_⟩
    · rintro i y H7 hi ⟨rs, e1, e2, s7⟩
      obtain ⟨z, hz, rfl⟩ := map_get hi
      refine ⟨rfl, ?_⟩
      refine ⟨_, rfl, .inl ⟨_, rfl, rs.map V.int, e2, ?_, rs ++ [z], by rw [List.length_append, e1]; rfl, by rw [upd_same, List.map_append]; rfl, Same.out s7 hL⟩⟩
      have := (List.getElem?_eq_some_iff.mp hz).1
      rw [List.length_map]
      exact small1000 (by omega)
    · rintro H7 ⟨rs, e1, e2, s7⟩
      refine ⟨L, _, rfl, SqL.of e2, fun l hl7 => ?_⟩
      have s8 : Same H7 (upd H7 l (.lst (rs.map V.int).reverse)) := Same.new hl7
      refine ⟨_, rfl, ?_⟩
      have hd8 := s8 _ _ (s7 _ _ (s6 _ _ hd4))
      refine ⟨hd8, dkvC l m 0, rfl, by show 3 ≤ 15; decide, ?_⟩
      rw [merge_dkvC]
      have nld : l ≠ d := (ne_of_none (s7 _ _ (s6 _ _ hd4)) hl7).symm
      have hdH : H d = none := s3.free hd
      refine k _ d l ?_ hdH (((s5.trans s6).trans s7).free hl7) ⟨rs.reverse, m, 0, upd_same, ?_, ?_, m0, m1⟩
      · exact Same.out (((s5.trans s6).trans s7).trans s8) hdH
      · rw [upd_ne nld, upd_same, List.map_reverse]
      · rw [List.length_reverse, e1, List.length_map]
        omega
end


theorem sizeBig : (1000000 : Nat) < sizeLine := by decide
theorem lc_inv {A : ASt → (List PyData → Prop) → Prop} {B : PyData → ASt → (ASt → Prop) → Prop} {Tt : AT} {Te : AE} {vs : List Nat} {ρ : ASt} {Φ : R → Prop} (items : List PyData) (hA : ∀ Ψ : List PyData → Prop, Ψ items → A ρ Ψ) (ho : (vs.all fun i => noOwnB ((ρ[i]?).getD none)) = true) (P : Nat → List PyData → Prop) (h0 : P 0 [])
    (hs : ∀ i x acc, items[i]? = some x → P i acc → B x (wipeA ρ vs) fun ρ2 => Tt ρ2 fun b => if b = true then Te ρ2 fun r => ∃ y, dataOf r = some y ∧ acc.length < sizeLine ∧ P (i + 1) (acc ++ [y]) else P (i + 1) acc) (hd : ∀ acc, P items.length acc → Φ (.l acc)) : aLc A B Tt Te vs ρ Φ := hA _ ⟨ho, P, h0, hs, hd⟩
theorem for_inv {A : ASt → (List PyData → ASt → Prop) → Prop} {B : PyData → ASt → (ASt → Prop) → Prop} {T : ATS} {Φ : AEnds} {ρ : ASt} (items : List PyData) (ρ1 : ASt) (hA : ∀ Ψ : List PyData → ASt → Prop, Ψ items ρ1 → A ρ Ψ) (P : Nat → ASt → Prop) (h0 : P 0 ρ1)
    (hs : ∀ i x ρ', items[i]? = some x → P i ρ' → B x ρ' fun ρ2 => T { Φ with nx := P (i + 1), ct := P (i + 1), bk := Φ.nx } ρ2) (hd : ∀ ρ', P items.length ρ' → Φ.nx ρ') : aFor A B T Φ ρ := hA _ ⟨P, h0, hs, hd⟩
theorem rne_of {A B : AA} {ρ : ASt} {x : PyData} {Ψ : Bool → Prop} (hA : ∀ Φ : List R → Prop, Φ [R.d x] → A ρ Φ) (hB : ∀ Φ : List R → Prop, Φ [R.d x] → B ρ Φ) (hr : Rp x) (h : Ψ false) : aB (aOp fNe (aCB fRepr A) (aCB fRepr B)) ρ Ψ := by
  refine hA _ ⟨hr, hB _ ⟨hr, ?_⟩⟩
  show Ψ (!decide (x.shown = x.shown))
  rw [decide_eq_true rfl]
  exact h
theorem if_no {c : AT} {T : ATS} {Φ : AEnds} {ρ : ASt} (h : ∀ Ψ : Bool → Prop, Ψ false → c ρ Ψ) (k : Φ.nx ρ) : aIfS c T aNext Φ ρ := h _ (by rw [if_neg Bool.false_ne_true]; exact k)
theorem cut_eq {T U : ATS} {Φ : AEnds} {ρ : ASt} (ρ1 : ASt) (h : T { Φ with nx := fun ρ' => ρ' = ρ1 } ρ) (k : U Φ ρ1) : aCut T U Φ ρ := ⟨_, h, fun ρ' e => by rw [e]; exact k⟩
theorem seq_hide {T U : ATS} {Φ : AEnds} {ρ : ASt} (h : ∀ Kc : ASt → Prop, (∀ ρ', U Φ ρ' → Kc ρ') → T { Φ with nx := Kc } ρ) : aSeq T U Φ ρ := h _ fun _ z => z
theorem if_K {c : AT} {T V : ATS} {Φ : AEnds} {ρ : ASt} (h : ∀ Ka Kb : Prop, (T Φ ρ → Ka) → (V Φ ρ → Kb) → c ρ fun b => if b = true then Ka else Kb) : aIfS c T V Φ ρ := h _ _ id id
theorem seq_if_no2 {c : AT} {T V : ATS} {Φ : AEnds} {ρ : ASt} (h : ∀ Ψ : Bool → Prop, Ψ false → c ρ Ψ) (k : V Φ ρ) : aSeq (aIfS c T aNext) V Φ ρ := h _ (by rw [if_neg Bool.false_ne_true]; exact k)
/-! ### what repr asks of drawn data -/
structure Rw (d : PyData) (k n : Nat) : Prop where
  e : onlyE d = true
  s : d.showable = true
  p : d.depth ≤ k
  l : d.leavesShort 40 = true
  b : d.bulk ≤ n
theorem Rw.mono {d : PyData} {k n k' n' : Nat} (h : Rw d k n) (h1 : k ≤ k') (h2 : n ≤ n') : Rw d k' n' := ⟨h.e, h.s, Nat.le_trans h.p h1, h.l, Nat.le_trans h.b h2⟩
theorem Rw.all {k n : Nat} : ∀ {ds : List PyData}, (∀ d ∈ ds, Rw d k n) → onlyEs ds = true ∧ PyData.showableAll ds = true ∧ PyData.depthAll ds ≤ k ∧ PyData.leavesShortAll 40 ds = true ∧ PyData.bulkAll ds ≤ ds.length * (n + 1)
  | [], _ => ⟨rfl, rfl, by simp [PyData.depthAll], rfl, by simp [PyData.bulkAll]⟩
  | d :: ds, h => by
    have h1 := h d (List.mem_cons.mpr (.inl rfl))
    obtain ⟨a0, a1, a3, a4, a5⟩ := Rw.all (ds := ds) fun e he => h e (List.mem_cons.mpr (.inr he))
    refine ⟨?_, ?_, ?_, ?_, ?_⟩
    · unfold onlyEs; rw [h1.e, a0]; rfl
    · show (d.showable && PyData.showableAll ds) = true
      rw [h1.s, a1]; rfl
    · have := h1.p
      simp only [PyData.depthAll]
      omega
    · show (d.leavesShort 40 && PyData.leavesShortAll 40 ds) = true
      rw [h1.l, a4]; rfl
    · have := h1.b
      simp only [PyData.bulkAll, List.length_cons, Nat.add_mul]
      omega
theorem Rw.tup {ds : List PyData} {k n m : Nat} (h : ∀ d ∈ ds, Rw d k n) (hl : ds.length * (n + 1) ≤ m) : Rw (.tuple ds) (k + 1) m := by
  obtain ⟨a0, a1, a3, a4, a5⟩ := Rw.all h
  exact ⟨by unfold onlyE; exact a0, a1, by simp only [PyData.depth]; omega, a4, by show PyData.bulkAll ds ≤ m; omega⟩
theorem Rw.lst {ds : List PyData} {k n m : Nat} (h : ∀ d ∈ ds, Rw d k n) (hl : ds.length * (n + 1) ≤ m) : Rw (.list ds) (k + 1) m := by
  obtain ⟨a0, a1, a3, a4, a5⟩ := Rw.all h
  exact ⟨by unfold onlyE; exact a0, a1, by simp only [PyData.depth]; omega, a4, by show PyData.bulkAll ds ≤ m; omega⟩
theorem rw_int {i : Int} (h : -(10 ^ 39) < i ∧ i < 10 ^ 39) : Rw (.int i) 0 0 := by
  refine ⟨by simp [onlyE], ?_, by simp [PyData.depth], ?_, by simp [PyData.bulk]⟩
  · show decide (i.natAbs.log2 < 1920) = true
    refine decide_eq_true ?_
    by_cases h0 : i.natAbs = 0
    · rw [h0]; decide
    · refine (Nat.log2_lt h0).mpr (Nat.lt_of_lt_of_le (show i.natAbs < 10 ^ 39 by omega) (by decide))
  · show decide ((PyData.shown (.int i)).length ≤ 40) = true
    refine decide_eq_true ?_
    by_cases h0 : 0 ≤ i
    · exact Nat.le_trans (PyProof.Rows.toString_length_le (k := 39) h0 (by decide) h.2) (by decide)
    · show (Str.ofString (toString i)).length ≤ 40
      rw [PyProof.Rows.len_text_neg (by omega)]
      have := PyProof.Rows.toString_length_le (v := 0 - i) (k := 39) (by omega) (by decide) (by omega)
      omega
theorem rw_none : Rw .none 0 0 := ⟨by simp [onlyE], rfl, by simp [PyData.depth], rfl, by simp [PyData.bulk]⟩
theorem bulk_app : ∀ xs ys : List PyData, PyData.bulkAll (xs ++ ys) = PyData.bulkAll xs + PyData.bulkAll ys
  | [], ys => by simp [PyData.bulkAll]
  | x :: xs, ys => by
    have := bulk_app xs ys
    simp only [List.cons_append, PyData.bulkAll]
    omega
theorem Rw.app {xs ys : List PyData} {k n m p : Nat} (h : ∀ d ∈ xs, Rw d k n) (g : ∀ d ∈ ys, Rw d k m) (hl : xs.length * (n + 1) + ys.length * (m + 1) ≤ p) : Rw (.tuple (xs ++ ys)) (k + 1) p := by
  obtain ⟨_, _, _, _, b1⟩ := Rw.all h
  obtain ⟨_, _, _, _, b2⟩ := Rw.all g
  have w := Rw.tup (ds := xs ++ ys) (k := k) (n := max n m) (fun d hd => (List.mem_append.mp hd).elim (fun z => (h d z).mono (Nat.le_refl _) (Nat.le_max_left _ _)) (fun z => (g d z).mono (Nat.le_refl _) (Nat.le_max_right _ _))) (Nat.le_refl _)
  refine ⟨w.e, w.s, w.p, w.l, ?_⟩
  show PyData.bulkAll (xs ++ ys) ≤ p
  rw [bulk_app]
  omega


abbrev sLPick : Stmt := top 20
abbrev nLPick : List Str := ["_law_deck", "_law_some"]
abbrev pLPick : List Str := ["_law_deck", "_law_some"]
theorem scLPick : FnScope nLPick pLPick (defScope sLPick) := ⟨rfl, rfl, rfl, by decide +kernel, rfl, by decide +kernel, by decide +kernel⟩
def T_law_pick : FnT
  | [.dk, .d (.tuple xs)], Φ => (0 < xs.length ∧ xs.length < 1073741824) ∧ ∀ x ∈ xs, Φ (.d x)
  | [.dk, .bl xs], Φ => (0 < xs.length ∧ xs.length < 1073741824) ∧ ∀ x ∈ xs, Φ (.d x)
  | [.dk, .d (.list xs)], Φ => (0 < xs.length ∧ xs.length < 1073741824) ∧ ∀ x ∈ xs, Φ (.d x)
  | [.dk, .d (.str z)], Φ => (0 < z.length ∧ z.length ≤ 1000) ∧ ∀ c ∈ z.cps.toList, Φ (.d (.str ⟨#[c]⟩))
  | _, _ => False
/-- a version of small numbers -/
def Vn (B : Int) (v : Vr) : Prop := v.length = 5 ∧ ∀ i ∈ v, 0 ≤ i ∧ i ≤ B
theorem Vn.mono {B C : Int} {v : Vr} (h : Vn B v) (l : B ≤ C) : Vn C v := ⟨h.1, fun i hi => ⟨(h.2 i hi).1, Int.le_trans (h.2 i hi).2 l⟩⟩
def nextV : Vr → Vr
  | [a, b, c, k, n] => if decide (k < 3) = true then [a, b, c, k, n + 1] else [a, b, c + 1, 0, 0]
  | v => v
theorem Vn.next {B : Int} {v : Vr} (h : Vn B v) (h0 : 0 ≤ B) : Vn (B + 1) (nextV v) := by
  obtain ⟨hl, h⟩ := h
  match v, hl with
  | [a, b, c, k, n], _ =>
    simp only [List.mem_cons, List.not_mem_nil, or_false, forall_eq_or_imp, forall_eq] at h
    obtain ⟨ha, hb, hc, hk, hn⟩ := h
    unfold nextV
    dsimp only
    split
    · refine ⟨rfl, ?_⟩
      simp only [List.mem_cons, List.not_mem_nil, or_false, forall_eq_or_imp, forall_eq]
      refine ⟨?_, ?_, ?_, ?_, ?_⟩ <;> omega
    · refine ⟨rfl, ?_⟩
      simp only [List.mem_cons, List.not_mem_nil, or_false, forall_eq_or_imp, forall_eq]
      refine ⟨?_, ?_, ?_, ?_, ?_⟩ <;> omega
section
variable {P : Program} {w : World} {K : PySem.W.Frag} {mg : Str → Option Value} {base : Heap}
theorem ok_LPick {f : Addr} {fd : FuncData} {fLDraw : Addr} {fdLDraw : FuncData} (Z : Blt K mg) (D : DefAt K mg "_law_pick" sLPick pLPick f fd) (DLDraw : DefAt K mg "_law_draw" sLDraw pLDraw fLDraw fdLDraw) (GLDraw : FnOk P w K mg base CX0 1 fLDraw fdLDraw pLDraw (spA 2 K DK T_draw)) : FnOk P w K mg base CX0 2 f fd pLPick (spA 2 K DK T_law_pick) := by
  refine D.F.ok scLPick (fun vs H Q E h => h.len) (fun cdv A outer s0 H vs Q E hr h => ?_)
  have hu := hu_of hr
  refine ⟨_, (pss_one (ps_ret (pe_ix ((ix_list.or ix_tup).or ix_str) (pv 1) (pe_call GLDraw (hr.mono (by decide)) rfl DLDraw.g DLDraw.F.kp DLDraw.b .nil pass0 (pa_cons (pv 0) (pa_cons (pe_callB (call_len_seq.or call_len_str) (by rfl) Z.len (by decide +kernel) (pa_cons (pv 1) pa_nil)) pa_nil))) (fun _ _ => rfl)))), abs_fn (N := nLPick) (sa_ret (ea_op oa_ixQS (ea_var 1) (ea_call [.k, .d] (aa_cons (ea_var 0) (aa_cons (ea_cb cb_lenQS (aa_cons (ea_var 1) aa_nil)) aa_nil))))) h (fun as Φ hn ht => ?_)⟩
  match as, ht with
  | [.dk, .d (.tuple xs)], ht =>
    obtain ⟨⟨h0, h1⟩, ht⟩ := ht
    simp only [isiB,aSeq,aIfS,aRet,aRetN,aSet,aDrop,aNext,aNever,aBreak,aCont,aUnp,aUnl,aPar,aAppend,aExtend,aAppendPop,aPopSet,aVar,aC,aTy,aFn,aOp,aCB,aCons,aNil,aTup,aLst,aB,aNot,aAnd,aOr,aAndV,aOrV,aNotV,aIf,aChain,aSl,aNoPart,aPart,aCall,aCallV,aYes,aNeg,aRevL,aRg1,aLstRg,asArgs,asArg,dataOf,listOf,viewOf,dataAll,onB,onP,onL,onT,onS,onZ2,aPut,parOk,parOk2,retR,rdA,stillR,fI0,fII,fEq,fNe,eqS,fIsiA,tyOf,fLen,fLenS,fInt1,fStrI,fMax2,fListOf,fTupOf,fAll,fAny,fIxT,fIxL,fIxQ,fIxS,fRep,fRepT,aRevA,fEqE,fNeE,fSlT,fSlL,fSlQ,fSlS,fCat,fCatT,fAddS,fIsN,fNotN,fNotB,fIsB,noneB,seqOf,fSorted,bName,bTup,bCons,bNil,onRg1,onRg2,cList,cTup,cStr,cRg1,cRg2,cEnum,cEnumT,cZipL,cZipT,cZipQ,wList,wTup,wStr,wRg1,wRg2,wEnum,wEnumT,wipeA,List.map,List.replicate,List.length_cons,List.length_nil,List.cons_append,List.nil_append,List.append_nil,List.getElem?_cons_zero,List.getElem?_cons_succ,List.set_cons_zero,List.set_cons_succ,List.set,Option.map_some,Option.map_none,Option.getD_some,Option.getD_none,reduceIte,Bool.false_eq_true,Bool.not_true,Bool.not_false,and_true,true_and,false_and,Nat.zero_le,ne_eq,not_false_eq_true,atI_0,atI_1,atI_2,atI_3,aDGet,aDGet1,aDGet2,aDIn,aListD,aStar,aDictOf,aSortSetL,aMaxT,aPar3,wKeys,cKeys,cVals,cItems,onO_some,keysOf_kv,valsOf_kv,itemsOf_kv,starItems_kv,dataAll_ds,dataAll_two,aUnpP,uNil,uCons,upOk,noBl,List.all_cons,List.all_nil,Bool.and_true,aSortItems,aOrL,aOdict,fSortedD,fExtD,fMulS,fLtT,fNeT0,aUpper,aSortSetV,cRg3,onRg3,fEqX,fNeX,fSlX,fMin2,fInSign,fNotInSign,aJoin,aTabPar,gStill,gPush,wListG,aSortD,notB,aSortSetS,aTable,tSq,tStill,dOf,dSeq,dIf,dPut,wListD,aListItems,fInDT,fIxQS,fLenQS,fSortedLS,fLtS,fLeS,fEqT0,fInX,fSortedDT,aCallX,xRaise,aTry,aGiven,aPick,aNone,keepI,nLPick,T_draw]
    refine ⟨⟨by omega, by omega⟩, fun r r0 r1 => ?_⟩
    obtain ⟨j, rfl⟩ : ∃ j : Nat, r = j := ⟨r.toNat, by omega⟩
    have hj : j < xs.length := by omega
    rw [atI_cast, List.getElem?_eq_getElem hj]
    exact ht _ (List.getElem_mem hj)
  | [.dk, .bl xs], ht =>
    obtain ⟨⟨h0, h1⟩, ht⟩ := ht
    simp only [isiB,aSeq,aIfS,aRet,aRetN,aSet,aDrop,aNext,aNever,aBreak,aCont,aUnp,aUnl,aPar,aAppend,aExtend,aAppendPop,aPopSet,aVar,aC,aTy,aFn,aOp,aCB,aCons,aNil,aTup,aLst,aB,aNot,aAnd,aOr,aAndV,aOrV,aNotV,aIf,aChain,aSl,aNoPart,aPart,aCall,aCallV,aYes,aNeg,aRevL,aRg1,aLstRg,asArgs,asArg,dataOf,listOf,viewOf,dataAll,onB,onP,onL,onT,onS,onZ2,aPut,parOk,parOk2,retR,rdA,stillR,fI0,fII,fEq,fNe,eqS,fIsiA,tyOf,fLen,fLenS,fInt1,fStrI,fMax2,fListOf,fTupOf,fAll,fAny,fIxT,fIxL,fIxQ,fIxS,fRep,fRepT,aRevA,fEqE,fNeE,fSlT,fSlL,fSlQ,fSlS,fCat,fCatT,fAddS,fIsN,fNotN,fNotB,fIsB,noneB,seqOf,fSorted,bName,bTup,bCons,bNil,onRg1,onRg2,cList,cTup,cStr,cRg1,cRg2,cEnum,cEnumT,cZipL,cZipT,cZipQ,wList,wTup,wStr,wRg1,wRg2,wEnum,wEnumT,wipeA,List.map,List.replicate,List.length_cons,List.length_nil,List.cons_append,List.nil_append,List.append_nil,List.getElem?_cons_zero,List.getElem?_cons_succ,List.set_cons_zero,List.set_cons_succ,List.set,Option.map_some,Option.map_none,Option.getD_some,Option.getD_none,reduceIte,Bool.false_eq_true,Bool.not_true,Bool.not_false,and_true,true_and,false_and,Nat.zero_le,ne_eq,not_false_eq_true,atI_0,atI_1,atI_2,atI_3,aDGet,aDGet1,aDGet2,aDIn,aListD,aStar,aDictOf,aSortSetL,aMaxT,aPar3,wKeys,cKeys,cVals,cItems,onO_some,keysOf_kv,valsOf_kv,itemsOf_kv,starItems_kv,dataAll_ds,dataAll_two,aUnpP,uNil,uCons,upOk,noBl,List.all_cons,List.all_nil,Bool.and_true,aSortItems,aOrL,aOdict,fSortedD,fExtD,fMulS,fLtT,fNeT0,aUpper,aSortSetV,cRg3,onRg3,fEqX,fNeX,fSlX,fMin2,fInSign,fNotInSign,aJoin,aTabPar,gStill,gPush,wListG,aSortD,notB,aSortSetS,aTable,tSq,tStill,dOf,dSeq,dIf,dPut,wListD,aListItems,fInDT,fIxQS,fLenQS,fSortedLS,fLtS,fLeS,fEqT0,fInX,fSortedDT,aCallX,xRaise,aTry,aGiven,aPick,aNone,keepI,nLPick,T_draw]
    refine ⟨⟨by omega, by omega⟩, fun r r0 r1 => ?_⟩
    obtain ⟨j, rfl⟩ : ∃ j : Nat, r = j := ⟨r.toNat, by omega⟩
    have hj : j < xs.length := by omega
    rw [atI_cast, List.getElem?_eq_getElem hj]
    exact ht _ (List.getElem_mem hj)
  | [.dk, .d (.list xs)], ht =>
    obtain ⟨⟨h0, h1⟩, ht⟩ := ht
    simp only [isiB,aSeq,aIfS,aRet,aRetN,aSet,aDrop,aNext,aNever,aBreak,aCont,aUnp,aUnl,aPar,aAppend,aExtend,aAppendPop,aPopSet,aVar,aC,aTy,aFn,aOp,aCB,aCons,aNil,aTup,aLst,aB,aNot,aAnd,aOr,aAndV,aOrV,aNotV,aIf,aChain,aSl,aNoPart,aPart,aCall,aCallV,aYes,aNeg,aRevL,aRg1,aLstRg,asArgs,asArg,dataOf,listOf,viewOf,dataAll,onB,onP,onL,onT,onS,onZ2,aPut,parOk,parOk2,retR,rdA,stillR,fI0,fII,fEq,fNe,eqS,fIsiA,tyOf,fLen,fLenS,fInt1,fStrI,fMax2,fListOf,fTupOf,fAll,fAny,fIxT,fIxL,fIxQ,fIxS,fRep,fRepT,aRevA,fEqE,fNeE,fSlT,fSlL,fSlQ,fSlS,fCat,fCatT,fAddS,fIsN,fNotN,fNotB,fIsB,noneB,seqOf,fSorted,bName,bTup,bCons,bNil,onRg1,onRg2,cList,cTup,cStr,cRg1,cRg2,cEnum,cEnumT,cZipL,cZipT,cZipQ,wList,wTup,wStr,wRg1,wRg2,wEnum,wEnumT,wipeA,List.map,List.replicate,List.length_cons,List.length_nil,List.cons_append,List.nil_append,List.append_nil,List.getElem?_cons_zero,List.getElem?_cons_succ,List.set_cons_zero,List.set_cons_succ,List.set,Option.map_some,Option.map_none,Option.getD_some,Option.getD_none,reduceIte,Bool.false_eq_true,Bool.not_true,Bool.not_false,and_true,true_and,false_and,Nat.zero_le,ne_eq,not_false_eq_true,atI_0,atI_1,atI_2,atI_3,aDGet,aDGet1,aDGet2,aDIn,aListD,aStar,aDictOf,aSortSetL,aMaxT,aPar3,wKeys,cKeys,cVals,cItems,onO_some,keysOf_kv,valsOf_kv,itemsOf_kv,starItems_kv,dataAll_ds,dataAll_two,aUnpP,uNil,uCons,upOk,noBl,List.all_cons,List.all_nil,Bool.and_true,aSortItems,aOrL,aOdict,fSortedD,fExtD,fMulS,fLtT,fNeT0,aUpper,aSortSetV,cRg3,onRg3,fEqX,fNeX,fSlX,fMin2,fInSign,fNotInSign,aJoin,aTabPar,gStill,gPush,wListG,aSortD,notB,aSortSetS,aTable,tSq,tStill,dOf,dSeq,dIf,dPut,wListD,aListItems,fInDT,fIxQS,fLenQS,fSortedLS,fLtS,fLeS,fEqT0,fInX,fSortedDT,aCallX,xRaise,aTry,aGiven,aPick,aNone,keepI,nLPick,T_draw]
    refine ⟨⟨by omega, by omega⟩, fun r r0 r1 => ?_⟩
    obtain ⟨j, rfl⟩ : ∃ j : Nat, r = j := ⟨r.toNat, by omega⟩
    have hj : j < xs.length := by omega
    rw [atI_cast, List.getElem?_eq_getElem hj]
    exact ht _ (List.getElem_mem hj)
  | [.dk, .d (.str z)], ht =>
    obtain ⟨⟨h0, h1⟩, ht⟩ := ht
    have hz : z.length ≤ sizeLine := Nat.le_of_lt (Nat.lt_trans (show z.length < 1000000 by omega) sizeBig)
    simp only [isiB,aSeq,aIfS,aRet,aRetN,aSet,aDrop,aNext,aNever,aBreak,aCont,aUnp,aUnl,aPar,aAppend,aExtend,aAppendPop,aPopSet,aVar,aC,aTy,aFn,aOp,aCB,aCons,aNil,aTup,aLst,aB,aNot,aAnd,aOr,aAndV,aOrV,aNotV,aIf,aChain,aSl,aNoPart,aPart,aCall,aCallV,aYes,aNeg,aRevL,aRg1,aLstRg,asArgs,asArg,dataOf,listOf,viewOf,dataAll,onB,onP,onL,onT,onS,onZ2,aPut,parOk,parOk2,retR,rdA,stillR,fI0,fII,fEq,fNe,eqS,fIsiA,tyOf,fLen,fLenS,fInt1,fStrI,fMax2,fListOf,fTupOf,fAll,fAny,fIxT,fIxL,fIxQ,fIxS,fRep,fRepT,aRevA,fEqE,fNeE,fSlT,fSlL,fSlQ,fSlS,fCat,fCatT,fAddS,fIsN,fNotN,fNotB,fIsB,noneB,seqOf,fSorted,bName,bTup,bCons,bNil,onRg1,onRg2,cList,cTup,cStr,cRg1,cRg2,cEnum,cEnumT,cZipL,cZipT,cZipQ,wList,wTup,wStr,wRg1,wRg2,wEnum,wEnumT,wipeA,List.map,List.replicate,List.length_cons,List.length_nil,List.cons_append,List.nil_append,List.append_nil,List.getElem?_cons_zero,List.getElem?_cons_succ,List.set_cons_zero,List.set_cons_succ,List.set,Option.map_some,Option.map_none,Option.getD_some,Option.getD_none,reduceIte,Bool.false_eq_true,Bool.not_true,Bool.not_false,and_true,true_and,false_and,Nat.zero_le,ne_eq,not_false_eq_true,atI_0,atI_1,atI_2,atI_3,aDGet,aDGet1,aDGet2,aDIn,aListD,aStar,aDictOf,aSortSetL,aMaxT,aPar3,wKeys,cKeys,cVals,cItems,onO_some,keysOf_kv,valsOf_kv,itemsOf_kv,starItems_kv,dataAll_ds,dataAll_two,aUnpP,uNil,uCons,upOk,noBl,List.all_cons,List.all_nil,Bool.and_true,aSortItems,aOrL,aOdict,fSortedD,fExtD,fMulS,fLtT,fNeT0,aUpper,aSortSetV,cRg3,onRg3,fEqX,fNeX,fSlX,fMin2,fInSign,fNotInSign,aJoin,aTabPar,gStill,gPush,wListG,aSortD,notB,aSortSetS,aTable,tSq,tStill,dOf,dSeq,dIf,dPut,wListD,aListItems,fInDT,fIxQS,fLenQS,fSortedLS,fLtS,fLeS,fEqT0,fInX,fSortedDT,aCallX,xRaise,aTry,aGiven,aPick,aNone,keepI,nLPick,T_draw]
    refine ⟨hz, ⟨by omega, by omega⟩, fun r r0 r1 => ⟨hz, ?_⟩⟩
    obtain ⟨j, rfl⟩ : ∃ j : Nat, r = j := ⟨r.toNat, by omega⟩
    have hj : j < z.cps.toList.length := by
      have e : z.length = z.cps.toList.length := by show z.cps.size = _; simp
      omega
    rw [atI_cast, List.getElem?_eq_getElem hj]
    exact ht _ (List.getElem_mem hj)
end


section
variable {P : Program} {w : World} {K : PySem.W.Frag} {mg : Str → Option Value} {base : Heap}
end


abbrev sLMixed : Stmt := top 21
abbrev nLMixed : List Str := ["_law_deck", "_law_some", "_law_marks", "_law_at", "_law_mark"]
abbrev pLMixed : List Str := ["_law_deck", "_law_some"]
theorem scLMixed : FnScope nLMixed pLMixed (defScope sLMixed) := ⟨rfl, rfl, rfl, by decide +kernel, rfl, by decide +kernel, by decide +kernel⟩
def T_law_mixed : FnT
  | [.dk, .bl xs], Φ => xs.length < 1000 ∧ ∀ ys : List PyData, (∀ y ∈ ys, y ∈ xs) → ys.length = xs.length → Φ (.l ys)
  | _, _ => False
def RgV (B : Int) (r : Rg) : Prop := ∀ p ∈ r, Vn B p.1 ∧ ∀ y, p.2 = some y → Vn B y
mutual
def Iw (j : Int) : PyData → Prop
  | .int i => -(100000000000000000000000000000000000000 + j) ≤ i ∧ i ≤ 100000000000000000000000000000000000000 + j
  | .tuple xs => IwAll j xs
  | _ => True
def IwAll (j : Int) : List PyData → Prop
  | [] => True
  | x :: xs => Iw j x ∧ IwAll j xs
end
theorem iwAll_of {j : Int} : ∀ {xs : List PyData}, (∀ x ∈ xs, Iw j x) → IwAll j xs
  | [], _ => by unfold IwAll; trivial
  | x :: xs, h => by
    unfold IwAll
    exact ⟨h x (List.mem_cons.mpr (.inl rfl)), iwAll_of fun y hy => h y (List.mem_cons.mpr (.inr hy))⟩
theorem iwAll_mem {j : Int} : ∀ {xs : List PyData}, IwAll j xs → ∀ x ∈ xs, Iw j x
  | [], _, _, hx => nomatch hx
  | y :: ys, h, x, hx => by
    unfold IwAll at h
    rcases List.mem_cons.mp hx with rfl | hx
    · exact h.1
    · exact iwAll_mem h.2 x hx
theorem Iw.tup {j : Int} {xs : List PyData} (h : ∀ x ∈ xs, Iw j x) : Iw j (.tuple xs) := by
  unfold Iw
  exact iwAll_of h
theorem Iw.items {j : Int} {xs : List PyData} (h : Iw j (.tuple xs)) : ∀ x ∈ xs, Iw j x := by
  unfold Iw at h
  exact iwAll_mem h
theorem iw_int {j i : Int} (h : -(100000000000000000000000000000000000000 + j) ≤ i ∧ i ≤ 100000000000000000000000000000000000000 + j) : Iw j (.int i) := by
  unfold Iw
  exact h
theorem Iw.int {j i : Int} (h : Iw j (.int i)) : -(100000000000000000000000000000000000000 + j) ≤ i ∧ i ≤ 100000000000000000000000000000000000000 + j := by
  unfold Iw at h
  exact h
mutual
theorem Iw.le {j l : Int} (hl : j ≤ l) : ∀ x : PyData, Iw j x → Iw l x
  | .int i, h => iw_int (by have := h.int; omega)
  | .tuple xs, h => by
    unfold Iw at h ⊢
    exact iwAll_le hl xs h
  | .none, _ => by unfold Iw; trivial
  | .bool _, _ => by unfold Iw; trivial
  | .str _, _ => by unfold Iw; trivial
  | .list _, _ => by unfold Iw; trivial
  | .dict _, _ => by unfold Iw; trivial
theorem iwAll_le {j l : Int} (hl : j ≤ l) : ∀ xs : List PyData, IwAll j xs → IwAll l xs
  | [], _ => by unfold IwAll; trivial
  | x :: xs, h => by
    unfold IwAll at h ⊢
    exact ⟨Iw.le hl x h.1, iwAll_le hl xs h.2⟩
end
structure Rb (j : Int) (x : PyData) (k n : Nat) : Prop where
  r : Rw x k n
  i : Iw j x
theorem iw_str {j : Int} (x : Str) : Iw j (.str x) := by unfold Iw; trivial
theorem iw_none {j : Int} : Iw j .none := by unfold Iw; trivial
/-! ### small data of versions and ranges -/
theorem Vn.rw {B : Int} {v : Vr} (h : Vn B v) (l : B ≤ 1000000000000) : Rw (TD v) 1 5 := by
  refine Rw.tup (k := 0) (n := 0) (fun d hd => ?_) (by rw [List.length_map, h.1]; decide)
  obtain ⟨i, hi, rfl⟩ := List.mem_map.mp hd
  have := h.2 i hi
  exact rw_int ⟨by omega, by omega⟩
theorem rw_hd {B : Int} {o : Option Vr} (h : ∀ y, o = some y → Vn B y) (l : B ≤ 1000000000000) : Rw (HD o) 1 5 := by
  cases o with
  | none => exact rw_none.mono (by decide) (by decide)
  | some y => exact (h y rfl).rw l
theorem RgV.rw {B : Int} {r : Rg} (h : RgV B r) (l : B ≤ 1000000000000) {m : Nat} (hm : r.length * 13 ≤ m) : Rw (RD r) 3 m := by
  refine Rw.tup (k := 2) (n := 12) (fun d hd => ?_) (by rw [List.length_map]; exact hm)
  obtain ⟨p, hp, rfl⟩ := List.mem_map.mp hd
  refine Rw.tup (k := 1) (n := 5) (fun d hd => ?_) (show [TD p.1, HD p.2].length * (5 + 1) ≤ 12 from Nat.le_refl 12)
  simp only [List.mem_cons, List.not_mem_nil, or_false] at hd
  rcases hd with rfl | rfl
  · exact (h p hp).1.rw l
  · exact rw_hd (h p hp).2 l
theorem alike2 {a b c d : Int} : PySem.W.alike (.tuple [.int a, .int b]) (.tuple [.int c, .int d]) = true := by simp [PySem.W.alike, PySem.W.alikeAll]
theorem Vn.iw {B j : Int} {v : Vr} (h : Vn B v) (l : B ≤ 100000000000000000000000000000000000000 + j) : Iw j (TD v) := Iw.tup fun d hd => by
  obtain ⟨i, hi, rfl⟩ := List.mem_map.mp hd
  have := h.2 i hi
  exact iw_int ⟨by omega, by omega⟩
theorem RgV.iw {B j : Int} {r : Rg} (h : RgV B r) (l : B ≤ 100000000000000000000000000000000000000 + j) : Iw j (RD r) := Iw.tup fun d hd => by
  obtain ⟨p, hp, rfl⟩ := List.mem_map.mp hd
  refine Iw.tup fun d hd => ?_
  simp only [List.mem_cons, List.not_mem_nil, or_false] at hd
  rcases hd with rfl | rfl
  · exact (h p hp).1.iw l
  · cases e : p.2 with
    | none => exact iw_none
    | some y => exact ((h p hp).2 y e).iw l
def pairZ (m : Nat) (x : PyData) : Prop := ∃ (r : Int) (k : Nat), x = .tuple [.int r, .int (k : Nat)] ∧ k < m
section
variable {P : Program} {w : World} {K : PySem.W.Frag} {mg : Str → Option Value} {base : Heap}
theorem ok_LMixed {f : Addr} {fd : FuncData} {fLDraw : Addr} {fdLDraw : FuncData} (Z : Blt K mg) (D : DefAt K mg "_law_mixed" sLMixed pLMixed f fd) (DLDraw : DefAt K mg "_law_draw" sLDraw pLDraw fLDraw fdLDraw) (GLDraw : FnOk P w K mg base CX0 1 fLDraw fdLDraw pLDraw (spA 2 K DK T_draw)) : FnOk P w K mg base CX0 2 f fd pLMixed (spA 2 K DK T_law_mixed) := by
  refine D.F.ok scLMixed (fun vs H Q E h => h.len) (fun cdv A outer s0 H vs Q E hr h => ?_)
  have hu := hu_of hr
  refine ⟨_, (pss_cons (ps_set (i := 2) scLMixed.nd rfl (Or.inl rfl) (pe_callB (cr_sortedD rfl hr.units) (by rfl) Z.sorted (by decide +kernel) (pa_cons (pe_lc (own := [("_law_at", 3)]) (g := gName 3) (tt := tYes) rfl scLMixed.nd (pi_range1 (by rfl) Z.range (pa_cons (pe_callB call_len_seq (by rfl) Z.len (by decide +kernel) (pa_cons (pv 1) pa_nil)) pa_nil)) (blkOk_by (own := [("_law_at", 3)]) (N := nLMixed) (sc := defScope sLMixed) (by decide +kernel)) (fun _ _ _ _ _ => (pg_name (i := 3) scLMixed.nd rfl (Or.inl rfl))) (fun _ _ _ _ _ => pts_nil) (fun _ _ _ _ _ => (pe_tup (pa_cons (pe_call GLDraw (hr.mono (by decide)) rfl DLDraw.g DLDraw.F.kp DLDraw.b .nil pass0 (pa_cons (pv 0) (pa_cons pe_int pa_nil))) (pa_cons (pv 3) pa_nil))))) pa_nil)))
    (pss_one (ps_ret (pe_lc (own := [("_law_mark", 4), ("_law_at", 3)]) (tt := tYes) rfl scLMixed.nd (pi_list (pv 2)) (blkOk_by (own := [("_law_mark", 4), ("_law_at", 3)]) (N := nLMixed) (sc := defScope sLMixed) (by decide +kernel)) (fun _ _ _ _ _ => (pg_tupK K (n := 2) rfl (pgs_cons (pg_name (i := 4) scLMixed.nd rfl (Or.inl rfl)) (pgs_cons (pg_name (i := 3) scLMixed.nd rfl (Or.inl rfl)) pgs_nil)))) (fun _ _ _ _ _ => pts_nil) (fun _ _ _ _ _ => (pe_ix (ix_listK K) (pv 1) (pv 3) (fun _ _ => rfl))))))), abs_fn (N := nLMixed) (sa_seq (sa_set (ea_cb cb_sortedD (aa_cons (ea_lc (ic_rg1 (aa_cons (ea_cb cb_len (aa_cons (ea_var 1) aa_nil)) aa_nil)) (gd_name 3) ta_yes (ea_tup (aa_cons (ea_call [.k, .d] (aa_cons (ea_var 0) (aa_cons (ea_int _) aa_nil))) (aa_cons (ea_var 3) aa_nil)))) aa_nil))) (sa_ret (ea_lc (ic_list (ea_var 2)) (gd_tup (gd_cons (gd_name 4) (gd_cons (gd_name 3) gd_nil))) ta_yes (ea_op oa_ixL (ea_var 1) (ea_var 3))))) h (fun as Φ hn ht => ?_)⟩
  match as, ht with
  | [.dk, .bl xs], ht =>
    obtain ⟨hl, ht⟩ := ht
    simp only [isiB,aSeq,aIfS,aRet,aRetN,aSet,aDrop,aNext,aNever,aBreak,aCont,aUnp,aUnl,aPar,aAppend,aExtend,aAppendPop,aPopSet,aVar,aC,aTy,aFn,aOp,aCB,aCons,aNil,aTup,aLst,aB,aNot,aAnd,aOr,aAndV,aOrV,aNotV,aIf,aChain,aSl,aNoPart,aPart,aCall,aCallV,aYes,aNeg,aRevL,aRg1,aLstRg,asArgs,asArg,dataOf,listOf,viewOf,dataAll,onB,onP,onL,onT,onS,onZ2,aPut,parOk,parOk2,retR,rdA,stillR,fI0,fII,fEq,fNe,eqS,fIsiA,tyOf,fLen,fLenS,fInt1,fStrI,fMax2,fListOf,fTupOf,fAll,fAny,fIxT,fIxL,fIxQ,fIxS,fRep,fRepT,aRevA,fEqE,fNeE,fSlT,fSlL,fSlQ,fSlS,fCat,fCatT,fAddS,fIsN,fNotN,fNotB,fIsB,noneB,seqOf,fSorted,bName,bTup,bCons,bNil,onRg1,onRg2,cList,cTup,cStr,cRg1,cRg2,cEnum,cEnumT,cZipL,cZipT,cZipQ,wList,wTup,wStr,wRg1,wRg2,wEnum,wEnumT,wipeA,List.map,List.replicate,List.length_cons,List.length_nil,List.cons_append,List.nil_append,List.append_nil,List.getElem?_cons_zero,List.getElem?_cons_succ,List.set_cons_zero,List.set_cons_succ,List.set,Option.map_some,Option.map_none,Option.getD_some,Option.getD_none,reduceIte,Bool.false_eq_true,Bool.not_true,Bool.not_false,and_true,true_and,false_and,Nat.zero_le,ne_eq,not_false_eq_true,atI_0,atI_1,atI_2,atI_3,aDGet,aDGet1,aDGet2,aDIn,aListD,aStar,aDictOf,aSortSetL,aMaxT,aPar3,wKeys,cKeys,cVals,cItems,onO_some,keysOf_kv,valsOf_kv,itemsOf_kv,starItems_kv,dataAll_ds,dataAll_two,aUnpP,uNil,uCons,upOk,noBl,List.all_cons,List.all_nil,Bool.and_true,aSortItems,aOrL,aOdict,fSortedD,fExtD,fMulS,fLtT,fNeT0,aUpper,aSortSetV,cRg3,onRg3,fEqX,fNeX,fSlX,fMin2,fInSign,fNotInSign,aJoin,aTabPar,gStill,gPush,wListG,aSortD,notB,aSortSetS,aTable,tSq,tStill,dOf,dSeq,dIf,dPut,wListD,aListItems,fInDT,fIxQS,fLenQS,fSortedLS,fLtS,fLeS,fEqT0,fInX,fSortedDT,aCallX,xRaise,aTry,aGiven,aPick,aNone,keepI,nLMixed,T_draw]
    have hlen : ∀ n : Nat, n < 1000 → n < sizeLine := fun n h => Nat.lt_trans (show n < 1000000 by omega) sizeBig
    refine lc_inv (rangeD 0 xs.length) (fun Ψ h => ⟨⟨by omega, by omega⟩, by simpa using h⟩) rfl (fun i acc => acc.length = i ∧ ∀ y ∈ acc, pairZ xs.length y) ⟨rfl, fun _ z => nomatch z⟩ ?_ ?_
    · rintro i x acc hx ⟨hl2, hn⟩
      obtain ⟨hi, rfl⟩ := rangeD_get hx
      simp only [isiB,aSeq,aIfS,aRet,aRetN,aSet,aDrop,aNext,aNever,aBreak,aCont,aUnp,aUnl,aPar,aAppend,aExtend,aAppendPop,aPopSet,aVar,aC,aTy,aFn,aOp,aCB,aCons,aNil,aTup,aLst,aB,aNot,aAnd,aOr,aAndV,aOrV,aNotV,aIf,aChain,aSl,aNoPart,aPart,aCall,aCallV,aYes,aNeg,aRevL,aRg1,aLstRg,asArgs,asArg,dataOf,listOf,viewOf,dataAll,onB,onP,onL,onT,onS,onZ2,aPut,parOk,parOk2,retR,rdA,stillR,fI0,fII,fEq,fNe,eqS,fIsiA,tyOf,fLen,fLenS,fInt1,fStrI,fMax2,fListOf,fTupOf,fAll,fAny,fIxT,fIxL,fIxQ,fIxS,fRep,fRepT,aRevA,fEqE,fNeE,fSlT,fSlL,fSlQ,fSlS,fCat,fCatT,fAddS,fIsN,fNotN,fNotB,fIsB,noneB,seqOf,fSorted,bName,bTup,bCons,bNil,onRg1,onRg2,cList,cTup,cStr,cRg1,cRg2,cEnum,cEnumT,cZipL,cZipT,cZipQ,wList,wTup,wStr,wRg1,wRg2,wEnum,wEnumT,wipeA,List.map,List.replicate,List.length_cons,List.length_nil,List.cons_append,List.nil_append,List.append_nil,List.getElem?_cons_zero,List.getElem?_cons_succ,List.set_cons_zero,List.set_cons_succ,List.set,Option.map_some,Option.map_none,Option.getD_some,Option.getD_none,reduceIte,Bool.false_eq_true,Bool.not_true,Bool.not_false,and_true,true_and,false_and,Nat.zero_le,ne_eq,not_false_eq_true,atI_0,atI_1,atI_2,atI_3,aDGet,aDGet1,aDGet2,aDIn,aListD,aStar,aDictOf,aSortSetL,aMaxT,aPar3,wKeys,cKeys,cVals,cItems,onO_some,keysOf_kv,valsOf_kv,itemsOf_kv,starItems_kv,dataAll_ds,dataAll_two,aUnpP,uNil,uCons,upOk,noBl,List.all_cons,List.all_nil,Bool.and_true,aSortItems,aOrL,aOdict,fSortedD,fExtD,fMulS,fLtT,fNeT0,aUpper,aSortSetV,cRg3,onRg3,fEqX,fNeX,fSlX,fMin2,fInSign,fNotInSign,aJoin,aTabPar,gStill,gPush,wListG,aSortD,notB,aSortSetS,aTable,tSq,tStill,dOf,dSeq,dIf,dPut,wListD,aListItems,fInDT,fIxQS,fLenQS,fSortedLS,fLtS,fLeS,fEqT0,fInX,fSortedDT,aCallX,xRaise,aTry,aGiven,aPick,aNone,keepI,nLMixed,T_draw]
      refine ⟨by decide, fun r r0 r1 => ⟨by decide, _, rfl, by rw [hl2]; exact hlen _ (by omega), by rw [List.length_append, hl2]; rfl, fun y hy => ?_⟩⟩
      rcases List.mem_append.mp hy with h | h
      · exact hn y h
      · rw [List.mem_singleton.mp h]
        exact ⟨r, i, by simp, hi⟩
    rintro acc ⟨hl2, hn⟩
    rw [rangeD_len] at hl2
    refine ⟨acc, rfl, fun d hd e he => ?_, fun d hd => ?_, fun es hp _ => ?_⟩
    · obtain ⟨r, k, rfl, _⟩ := hn d hd
      obtain ⟨r2, k2, rfl, _⟩ := hn e he
      exact alike2
    · obtain ⟨r, k, rfl, _⟩ := hn d hd
      exact ⟨⟨_, _, rfl⟩, by simp [PyData.depth, PyData.depthAll], by simp [PyData.hasDict, PyData.hasDictAll]⟩
    have hel : es.length = xs.length := by rw [hp.length_eq, hl2]
    have hen : ∀ y ∈ es, pairZ xs.length y := fun y hy => hn y (hp.mem_iff.mp hy)
    refine lc_inv es (fun Ψ h => h) rfl (fun i acc => acc.length = i ∧ ∀ y ∈ acc, y ∈ xs) ⟨rfl, fun _ z => nomatch z⟩ ?_ ?_
    · rintro i x acc hx ⟨hl3, hn3⟩
      have hi := (List.getElem?_eq_some_iff.mp hx).1
      obtain ⟨r, k, rfl, hk⟩ := hen x (List.mem_of_getElem? hx)
      simp only [isiB,aSeq,aIfS,aRet,aRetN,aSet,aDrop,aNext,aNever,aBreak,aCont,aUnp,aUnl,aPar,aAppend,aExtend,aAppendPop,aPopSet,aVar,aC,aTy,aFn,aOp,aCB,aCons,aNil,aTup,aLst,aB,aNot,aAnd,aOr,aAndV,aOrV,aNotV,aIf,aChain,aSl,aNoPart,aPart,aCall,aCallV,aYes,aNeg,aRevL,aRg1,aLstRg,asArgs,asArg,dataOf,listOf,viewOf,dataAll,onB,onP,onL,onT,onS,onZ2,aPut,parOk,parOk2,retR,rdA,stillR,fI0,fII,fEq,fNe,eqS,fIsiA,tyOf,fLen,fLenS,fInt1,fStrI,fMax2,fListOf,fTupOf,fAll,fAny,fIxT,fIxL,fIxQ,fIxS,fRep,fRepT,aRevA,fEqE,fNeE,fSlT,fSlL,fSlQ,fSlS,fCat,fCatT,fAddS,fIsN,fNotN,fNotB,fIsB,noneB,seqOf,fSorted,bName,bTup,bCons,bNil,onRg1,onRg2,cList,cTup,cStr,cRg1,cRg2,cEnum,cEnumT,cZipL,cZipT,cZipQ,wList,wTup,wStr,wRg1,wRg2,wEnum,wEnumT,wipeA,List.map,List.replicate,List.length_cons,List.length_nil,List.cons_append,List.nil_append,List.append_nil,List.getElem?_cons_zero,List.getElem?_cons_succ,List.set_cons_zero,List.set_cons_succ,List.set,Option.map_some,Option.map_none,Option.getD_some,Option.getD_none,reduceIte,Bool.false_eq_true,Bool.not_true,Bool.not_false,and_true,true_and,false_and,Nat.zero_le,ne_eq,not_false_eq_true,atI_0,atI_1,atI_2,atI_3,aDGet,aDGet1,aDGet2,aDIn,aListD,aStar,aDictOf,aSortSetL,aMaxT,aPar3,wKeys,cKeys,cVals,cItems,onO_some,keysOf_kv,valsOf_kv,itemsOf_kv,starItems_kv,dataAll_ds,dataAll_two,aUnpP,uNil,uCons,upOk,noBl,List.all_cons,List.all_nil,Bool.and_true,aSortItems,aOrL,aOdict,fSortedD,fExtD,fMulS,fLtT,fNeT0,aUpper,aSortSetV,cRg3,onRg3,fEqX,fNeX,fSlX,fMin2,fInSign,fNotInSign,aJoin,aTabPar,gStill,gPush,wListG,aSortD,notB,aSortSetS,aTable,tSq,tStill,dOf,dSeq,dIf,dPut,wListD,aListItems,fInDT,fIxQS,fLenQS,fSortedLS,fLtS,fLeS,fEqT0,fInX,fSortedDT,aCallX,xRaise,aTry,aGiven,aPick,aNone,keepI,nLMixed,T_draw]
      rw [atI_cast, List.getElem?_eq_getElem hk]
      refine ⟨_, rfl, by rw [hl3]; exact hlen _ (by omega), by rw [List.length_append, hl3]; rfl, fun y hy => ?_⟩
      rcases List.mem_append.mp hy with h | h
      · exact hn3 y h
      · rw [List.mem_singleton.mp h]; exact List.getElem_mem hk
    · rintro acc ⟨hl3, hn3⟩
      exact ht acc hn3 (by rw [hl3, hel])
end


theorem rw_strZ {x : Str} {n : Nat} (h1 : (x.cps.toList.all fun c => decide (c < 16 ^ 8)) = true) (h2 : x.cps.size ≤ n) : Rw (.str x) 0 n := ⟨by simp [onlyE], rfl, by simp [PyData.depth], h1, h2⟩
theorem cut_len {α : Type} (xs : List α) (lo hi : Option Int) : (cutD xs lo hi).length ≤ xs.length := by
  unfold cutD
  rw [List.length_take, List.length_drop]
  omega
theorem cut_mem {α : Type} {xs : List α} {lo hi : Option Int} {x : α} (h : x ∈ cutD xs lo hi) : x ∈ xs := by
  unfold cutD at h
  exact List.mem_of_mem_drop (List.mem_of_mem_take h)
theorem bulk_mem : ∀ {xs : List PyData} {x : PyData}, x ∈ xs → x.bulk + 1 ≤ PyData.bulkAll xs
  | y :: ys, x, h => by
    simp only [PyData.bulkAll]
    rcases List.mem_cons.mp h with rfl | h
    · omega
    · have := bulk_mem h
      omega
theorem bulk_len : ∀ xs : List PyData, xs.length ≤ PyData.bulkAll xs
  | [] => Nat.zero_le _
  | x :: xs => by
    have := bulk_len xs
    simp only [PyData.bulkAll, List.length_cons]
    omega
theorem Rw.tupB {ds : List PyData} {k n m : Nat} (h : ∀ d ∈ ds, Rw d k n) (hl : PyData.bulkAll ds ≤ m) : Rw (.tuple ds) (k + 1) m := by
  obtain ⟨a0, a1, a3, a4, a5⟩ := Rw.all h
  exact ⟨by unfold onlyE; exact a0, a1, by simp only [PyData.depth]; omega, a4, hl⟩
theorem all_items {k : Nat} : ∀ {xs : List PyData}, onlyEs xs = true → PyData.showableAll xs = true → PyData.depthAll xs ≤ k → PyData.leavesShortAll 40 xs = true → ∀ x ∈ xs, Rw x k x.bulk
  | x :: xs, h1, h2, h3, h4, y, hy => by
    unfold onlyEs at h1
    have h2 : (x.showable && PyData.showableAll xs) = true := h2
    have h4 : (x.leavesShort 40 && PyData.leavesShortAll 40 xs) = true := h4
    rw [Bool.and_eq_true] at h1 h2 h4
    simp only [PyData.depthAll] at h3
    rcases List.mem_cons.mp hy with rfl | hy
    · exact ⟨h1.1, h2.1, by omega, h4.1, Nat.le_refl _⟩
    · exact all_items h1.2 h2.2 (by omega) h4.2 y hy
theorem Rw.items {xs : List PyData} {k n : Nat} (h : Rw (.tuple xs) k n) : 1 ≤ k ∧ (∀ x ∈ xs, Rw x (k - 1) x.bulk) ∧ PyData.bulkAll xs ≤ n := by
  have hd := h.p
  simp only [PyData.depth] at hd
  refine ⟨by omega, all_items (by have := h.e; unfold onlyE at this; exact this) h.s (by omega) h.l, h.b⟩
section
variable {P : Program} {w : World} {K : PySem.W.Frag} {mg : Str → Option Value} {base : Heap}
end


abbrev sIsWord : Stmt := top 5
abbrev nIsWord : List Str := ["thing", "letter"]
abbrev pIsWord : List Str := ["thing"]
theorem scIsWord : FnScope nIsWord pIsWord (defScope sIsWord) := ⟨rfl, rfl, rfl, by decide +kernel, rfl, by decide +kernel, by decide +kernel⟩
abbrev sIsAscending : Stmt := top 6
abbrev nIsAscending : List Str := ["things", "one", "other"]
abbrev pIsAscending : List Str := ["things"]
theorem scIsAscending : FnScope nIsAscending pIsAscending (defScope sIsAscending) := ⟨rfl, rfl, rfl, by decide +kernel, rfl, by decide +kernel, by decide +kernel⟩
abbrev sIsTuple : Stmt := top 7
abbrev nIsTuple : List Str := ["thing", "many"]
abbrev pIsTuple : List Str := ["thing", "many"]
theorem scIsTuple : FnScope nIsTuple pIsTuple (defScope sIsTuple) := ⟨rfl, rfl, rfl, by decide +kernel, rfl, by decide +kernel, by decide +kernel⟩
abbrev sIsTupleOf : Stmt := top 8
abbrev nIsTupleOf : List Str := ["thing", "fits", "item"]
abbrev pIsTupleOf : List Str := ["thing", "fits"]
theorem scIsTupleOf : FnScope nIsTupleOf pIsTupleOf (defScope sIsTupleOf) := ⟨rfl, rfl, rfl, by decide +kernel, rfl, by decide +kernel, by decide +kernel⟩
abbrev sIsTable : Stmt := top 9
abbrev nIsTable : List Str := ["thing", "fits", "pair", "key", "value", "_"]
abbrev pIsTable : List Str := ["thing", "fits"]
theorem scIsTable : FnScope nIsTable pIsTable (defScope sIsTable) := ⟨rfl, rfl, rfl, by decide +kernel, rfl, by decide +kernel, by decide +kernel⟩
abbrev sIsTarget : Stmt := top 11
abbrev nIsTarget : List Str := ["thing"]
abbrev pIsTarget : List Str := ["thing"]
theorem scIsTarget : FnScope nIsTarget pIsTarget (defScope sIsTarget) := ⟨rfl, rfl, rfl, by decide +kernel, rfl, by decide +kernel, by decide +kernel⟩
abbrev sIsCondition : Stmt := top 13
abbrev nIsCondition : List Str := ["thing", "kind", "parts"]
abbrev pIsCondition : List Str := ["thing"]
theorem scIsCondition : FnScope nIsCondition pIsCondition (defScope sIsCondition) := ⟨rfl, rfl, rfl, by decide +kernel, rfl, by decide +kernel, by decide +kernel⟩
/-! words, targets, conditions among data -/
def wordS (s : Str) : Bool := decide (1 ≤ (s.length : Int)) && decide ((s.length : Int) ≤ 10) && s.cps.toList.all fun c => decide (97 ≤ c) && decide (c ≤ 122)
theorem lt_sign {c d : Nat} : (([c] : List Nat) < [d]) ↔ c < d := by
  rw [List.cons_lt_cons_iff]
  simp
/-- a sign between a and z -/
def lowD : PyData → Bool
  | .str z => (!decide (z.cps.toList < (Str.ofString "a").cps.toList)) && !decide ((Str.ofString "z").cps.toList < z.cps.toList)
  | _ => false
theorem low_sign (c : Nat) : lowD (.str ⟨#[c]⟩) = (decide (97 ≤ c) && decide (c ≤ 122)) := by
  show ((!decide (([c] : List Nat) < (Str.ofString "a").cps.toList)) && (!decide ((Str.ofString "z").cps.toList < [c]))) = _
  rw [show (Str.ofString "a").cps.toList = [97] by decide +kernel, show (Str.ofString "z").cps.toList = [122] by decide +kernel]
  have e1 : decide (([c] : List Nat) < [97]) = decide (c < 97) := decide_eq_decide.mpr lt_sign
  have e2 : decide (([122] : List Nat) < [c]) = decide (122 < c) := decide_eq_decide.mpr lt_sign
  rw [e1, e2]
  by_cases h1 : c < 97 <;> by_cases h2 : 122 < c <;> simp [h1, h2] <;> omega
theorem low_all (s : Str) : (s.cps.toList.all fun c => decide (97 ≤ c) && decide (c ≤ 122)) = (signsD s).all lowD := by
  unfold signsD
  rw [List.all_map]
  congr 1
  funext c
  exact (low_sign c).symm
def wordD : PyData → Bool
  | .str s => wordS s
  | _ => false
def T_is_word : FnT
  | [.d x], Φ => (∀ s, x = .str s → s.length ≤ 1000000) ∧ Φ (.d (.bool (wordD x)))
  | _, _ => False
def tupAllC (c : PyData → Bool) : PyData → Bool
  | .tuple ys => ys.all c
  | _ => false
def T_tupF (TT : FnT) (f : Addr) : FnT
  | [.d x, .fn g], Φ => g = f ∧ ∃ c : PyData → Bool, (∀ ys, x = .tuple ys → ys.length < sizeLine ∧ ∀ y ∈ ys, ∀ Φ' : R → Prop, Φ' (.d (.bool (c y))) → TT [.d y] Φ') ∧ Φ (.d (.bool (tupAllC c x)))
  | _, _ => False
def ltSD : PyData → Bool
  | .tuple [.str a, .str b] => decide (a.cps.toList < b.cps.toList)
  | _ => false
def ascS : List Str → Bool
  | a :: b :: r => decide (a.cps.toList < b.cps.toList) && ascS (b :: r)
  | _ => true
theorem zipS_asc : ∀ ks : List Str, (zipD (ks.map PyData.str) ((ks.map PyData.str).drop 1)).all ltSD = ascS ks
  | [] => rfl
  | [_] => rfl
  | a :: b :: r => by
    show (decide (a.cps.toList < b.cps.toList) && (zipD ((b :: r).map PyData.str) (((b :: r).map PyData.str).drop 1)).all ltSD) = _
    rw [zipS_asc (b :: r)]
    rfl
def T_is_ascending : FnT
  | [.bl xs], Φ => ∃ ks : List Str, xs = ks.map PyData.str ∧ ks.length < sizeLine ∧ Φ (.d (.bool (ascS ks)))
  | _, _ => False
def tupN (n : Int) : PyData → Bool
  | .tuple ys => decide ((ys.length : Int) = n)
  | _ => false
def T_is_tuple : FnT
  | [.d x, .d (.int n)], Φ => Φ (.d (.bool (tupN n x)))
  | _, _ => False
def pairT : PyData → Bool
  | .tuple [a, b] => wordD a && wordD b
  | _ => false
def keyT : PyData → Str
  | .tuple (.str s :: _) => s
  | _ => Str.empty
def targetD : PyData → Bool
  | .tuple ys => ys.all pairT && ascS (ys.map keyT)
  | _ => false
def T_is_table (f : Addr) : FnT
  | [.d x, .fn g], Φ => g = f ∧ x.bulk ≤ 1000000 ∧ Φ (.d (.bool (targetD x)))
  | _, _ => False
def T_is_target : FnT
  | [.d x], Φ => x.bulk ≤ 1000000 ∧ Φ (.d (.bool (targetD x)))
  | _, _ => False
def condD : PyData → Bool
  | .tuple [.str k] => decide (k = Str.ofString "always")
  | .tuple [.str k, a] => decide (k = Str.ofString "not") && condD a
  | .tuple [.str k, a, b] => if k = Str.ofString "is" then wordD a && wordD b else (decide (k = Str.ofString "both") || decide (k = Str.ofString "either")) && (condD a && condD b)
  | _ => false
theorem pair_tup {y : PyData} (h : pairT y = true) : ∃ a b, y = .tuple [a, b] := by
  unfold pairT at h
  split at h
  · exact ⟨_, _, rfl⟩
  · cases h
theorem word_str {x : PyData} (h : wordD x = true) : ∃ s, x = .str s := by
  cases x with
  | str s => exact ⟨s, rfl⟩
  | _ => cases h
theorem fm_some {α β : Type} (f : α → β) : ∀ l : List α, l.filterMap (fun y => some (f y)) = l.map f
  | [] => rfl
  | a :: l => by rw [List.filterMap_cons, List.map_cons, fm_some f l]
theorem depth_mem : ∀ {xs : List PyData} {x : PyData}, x ∈ xs → x.depth ≤ PyData.depthAll xs
  | y :: ys, x, h => by
    simp only [PyData.depthAll]
    rcases List.mem_cons.mp h with rfl | h
    · omega
    · have := depth_mem h
      omega
theorem cond_nil : condD (.tuple []) = false := by unfold condD; rfl
theorem cond_cons (y : PyData) (r : List PyData) : condD (.tuple (y :: r)) = if eqX y (Str.ofString "always") = true then r.isEmpty else if eqX y (Str.ofString "is") = true then (decide ((r.length : Int) = 2) && r.all wordD) else
    if eqX y (Str.ofString "not") = true then (decide ((r.length : Int) = 1) && r.all condD) else (inX y [Str.ofString "both", Str.ofString "either"] && (decide ((r.length : Int) = 2) && r.all condD)) := by
  have n1 : Str.ofString "not" ≠ Str.ofString "always" := by decide +kernel
  have n2 : Str.ofString "is" ≠ Str.ofString "always" := by decide +kernel
  have n3 : Str.ofString "not" ≠ Str.ofString "is" := by decide +kernel
  have n4 : Str.ofString "both" ≠ Str.ofString "always" := by decide +kernel
  have n5 : Str.ofString "either" ≠ Str.ofString "always" := by decide +kernel
  have n6 : Str.ofString "both" ≠ Str.ofString "not" := by decide +kernel
  have n7 : Str.ofString "either" ≠ Str.ofString "not" := by decide +kernel
  have c1 : ∀ k, condD (.tuple [.str k]) = decide (k = Str.ofString "always") := fun k => by unfold condD; rfl
  have c2 : ∀ k a, condD (.tuple [.str k, a]) = (decide (k = Str.ofString "not") && condD a) := fun k a => by rw [condD.eq_def]
  have c3 : ∀ k a b, condD (.tuple [.str k, a, b]) = if k = Str.ofString "is" then wordD a && wordD b else (decide (k = Str.ofString "both") || decide (k = Str.ofString "either")) && (condD a && condD b) := fun k a b => by rw [condD.eq_def]
  cases y with
  | str k =>
    have c4 : ∀ a b c r, condD (.tuple (.str k :: a :: b :: c :: r)) = false := fun a b c r => by rw [condD.eq_def]
    generalize Str.ofString "always" = vA at n1 n2 n4 n5 c1 ⊢
    generalize Str.ofString "is" = vI at n2 n3 c3 ⊢
    generalize Str.ofString "not" = vN at n1 n3 n6 n7 c2 ⊢
    generalize Str.ofString "both" = vB at n4 n6 c3 ⊢
    generalize Str.ofString "either" = vE at n5 n7 c3 ⊢
    match r with
    | [] =>
      rw [c1]
      by_cases hA : k = vA <;> by_cases hI : k = vI <;> by_cases hN : k = vN <;> simp [eqX, inX, hA, hI, hN]
    | [a] =>
      rw [c2]
      by_cases hN : k = vN
      · subst hN
        simp [eqX, inX, n1, n3]
      · by_cases hA : k = vA <;> by_cases hI : k = vI <;> simp [eqX, inX, hA, hI, hN] <;> simp_all
    | [a, b] =>
      rw [c3]
      by_cases hI : k = vI
      · subst hI
        simp [eqX, inX, n2]
      · by_cases hA : k = vA
        · subst hA
          simp [eqX, inX, hI, Ne.symm n4, Ne.symm n5]
        · by_cases hN : k = vN
          · subst hN
            simp [eqX, inX, hI, hA, Ne.symm n6, Ne.symm n7]
          · simp [eqX, inX, hI, hA, hN]
    | a :: b :: c :: r =>
      rw [c4]
      have l1 : ¬ (((a :: b :: c :: r).length : Nat) : Int) = 2 := by simp only [List.length_cons]; omega
      have l2 : ¬ (((a :: b :: c :: r).length : Nat) : Int) = 1 := by simp only [List.length_cons]; omega
      rw [decide_eq_false l1, decide_eq_false l2]
      by_cases hA : k = vA <;> by_cases hI : k = vI <;> by_cases hN : k = vN <;> simp [eqX, inX, hA, hI, hN]
  | _ =>
    rw [condD.eq_def]
    rfl
def T_condK : Nat → FnT
  | 0 => fun _ _ => False
  | k + 1 => fun as Φ => match as with
    | [.d x] => x.depth ≤ k ∧ x.bulk ≤ 1000000 ∧ Φ (.d (.bool (condD x)))
    | _ => False
section
variable {P : Program} {w : World} {K : PySem.W.Frag} {mg : Str → Option Value} {base : Heap}
theorem ok_IsWord {f : Addr} {fd : FuncData} (Z : Blt K mg) (D : DefAt K mg "is_word" sIsWord pIsWord f fd) : FnOk P w K mg base CX0 1 f fd pIsWord (spA 1 K DK T_is_word) := by
  refine D.F.ok scIsWord (fun vs H Q E h => h.len) (fun cdv A outer s0 H vs Q E hr h => ?_)
  have hu := hu_of hr
  refine ⟨_, (pss_cons (ps_if (PW.pt (pw_or (pt_not (pt_val (pe_callB call_isi (by rfl) Z.isinstance (by decide +kernel) (pa_cons (pv 0) (pa_cons (pe_bltn (v := .ty "str") (u := Value.type "str") (by rfl) Z.str (by decide +kernel) rfl) pa_nil))))) (pw_or1 (pt_not (pt_chain op_le op_le pe_int (pe_callB call_len_str (by rfl) Z.len (by decide +kernel) (pa_cons (pv 0) pa_nil)) pe_int)))))
    (pss_one (ps_ret pe_bl))
    pss_nil)
    (pss_one (ps_ret (pe_callB (cr_all rfl) (by rfl) Z.all (by decide +kernel) (pa_cons (pe_lc (own := [("letter", 1)]) (g := gName 1) (tt := tYes) rfl scIsWord.nd (pi_str (pv 0)) (blkOk_by (own := [("letter", 1)]) (N := nIsWord) (sc := defScope sIsWord) (by decide +kernel)) (fun _ _ _ _ _ => (pg_name (i := 1) scIsWord.nd rfl (Or.inl rfl))) (fun _ _ _ _ _ => pts_nil) (fun _ _ _ _ _ => (pe_chain op_le_str op_le_str pe_str (pv 1) pe_str))) pa_nil))))), abs_fn (N := nIsWord) (sa_seq (sa_if (ta_or (ta_not (ta_b (ea_cb cb_isi (aa_cons (ea_var 0) (aa_cons (ea_ty .str) aa_nil))))) (ta_not (ta_test (ea_chain oa_le oa_le (ea_int _) (ea_cb cb_lenS (aa_cons (ea_var 0) aa_nil)) (ea_int _))))) (sa_ret (ea_bl _)) sa_next) (sa_ret (ea_all (ea_lc (ic_str (ea_var 0)) (gd_name 1) ta_yes (ea_chain oa_leS oa_leS (ea_str _) (ea_var 1) (ea_str _)))))) h (fun as Φ hn ht => ?_)⟩
  match as, ht with
  | [.d x], ht =>
    obtain ⟨hs, ht⟩ := ht
    cases x with
    | str s =>
      have ht : Φ (.d (.bool (wordS s))) := ht
      simp only [isiB,aSeq,aIfS,aRet,aRetN,aSet,aDrop,aNext,aNever,aBreak,aCont,aUnp,aUnl,aPar,aAppend,aExtend,aAppendPop,aPopSet,aVar,aC,aTy,aFn,aOp,aCB,aCons,aNil,aTup,aLst,aB,aNot,aAnd,aOr,aAndV,aOrV,aNotV,aIf,aChain,aSl,aNoPart,aPart,aCall,aCallV,aYes,aNeg,aRevL,aRg1,aLstRg,asArgs,asArg,dataOf,listOf,viewOf,dataAll,onB,onP,onL,onT,onS,onZ2,aPut,parOk,parOk2,retR,rdA,stillR,fI0,fII,fEq,fNe,eqS,fIsiA,tyOf,fLen,fLenS,fInt1,fStrI,fMax2,fListOf,fTupOf,fAll,fAny,fIxT,fIxL,fIxQ,fIxS,fRep,fRepT,aRevA,fEqE,fNeE,fSlT,fSlL,fSlQ,fSlS,fCat,fCatT,fAddS,fIsN,fNotN,fNotB,fIsB,noneB,seqOf,fSorted,bName,bTup,bCons,bNil,onRg1,onRg2,cList,cTup,cStr,cRg1,cRg2,cEnum,cEnumT,cZipL,cZipT,cZipQ,wList,wTup,wStr,wRg1,wRg2,wEnum,wEnumT,wipeA,List.map,List.replicate,List.length_cons,List.length_nil,List.cons_append,List.nil_append,List.append_nil,List.getElem?_cons_zero,List.getElem?_cons_succ,List.set_cons_zero,List.set_cons_succ,List.set,Option.map_some,Option.map_none,Option.getD_some,Option.getD_none,reduceIte,Bool.false_eq_true,Bool.not_true,Bool.not_false,and_true,true_and,false_and,Nat.zero_le,ne_eq,not_false_eq_true,atI_0,atI_1,atI_2,atI_3,aDGet,aDGet1,aDGet2,aDIn,aListD,aStar,aDictOf,aSortSetL,aMaxT,aPar3,wKeys,cKeys,cVals,cItems,onO_some,keysOf_kv,valsOf_kv,itemsOf_kv,starItems_kv,dataAll_ds,dataAll_two,aUnpP,uNil,uCons,upOk,noBl,List.all_cons,List.all_nil,Bool.and_true,aSortItems,aOrL,aOdict,fSortedD,fExtD,fMulS,fLtT,fNeT0,aUpper,aSortSetV,cRg3,onRg3,fEqX,fNeX,fSlX,fMin2,fInSign,fNotInSign,aJoin,aTabPar,gStill,gPush,wListG,aSortD,notB,aSortSetS,aTable,tSq,tStill,dOf,dSeq,dIf,dPut,wListD,aListItems,fInDT,fIxQS,fLenQS,fSortedLS,fLtS,fLeS,fEqT0,fInX,fSortedDT,aCallX,xRaise,aTry,aGiven,aPick,aNone,keepI,nIsWord]
      refine ⟨Nat.le_trans (hs s rfl) (Nat.le_of_lt sizeBig), ?_⟩
      refine ite2 (fun h1 => ?_) (fun h1 => ?_)
      · refine ite2 (fun h2 => ?_) (fun h2 => ?_)
        · have e : wordS s = false := by
            unfold wordS
            rw [Bool.not_eq_true' _ |>.mp h2, Bool.and_false, Bool.false_and]
          rw [e] at ht
          exact ht
        · have e : wordS s = (signsD s).all lowD := by
            unfold wordS
            have h2 : decide ((s.length : Int) ≤ 10) = true := by
              cases h : decide ((s.length : Int) ≤ 10) with
              | true => rfl
              | false => rw [h] at h2; exact absurd rfl h2
            rw [h1, h2, low_all]
            rfl
          rw [e] at ht
          refine all_of (signsD s) lowD (fun Ψ h => h) ?_ rfl (fun x hx n Q hn hq => ?_) ht
          · rw [signsD, List.length_map]
            have l : s.cps.toList.length = s.length := by show _ = s.cps.size; simp
            rw [l]
            exact Nat.lt_of_le_of_lt (hs s rfl) sizeBig
          · obtain ⟨c, _, rfl⟩ := List.mem_map.mp (show x ∈ s.cps.toList.map _ from hx)
            simp only [isiB,aSeq,aIfS,aRet,aRetN,aSet,aDrop,aNext,aNever,aBreak,aCont,aUnp,aUnl,aPar,aAppend,aExtend,aAppendPop,aPopSet,aVar,aC,aTy,aFn,aOp,aCB,aCons,aNil,aTup,aLst,aB,aNot,aAnd,aOr,aAndV,aOrV,aNotV,aIf,aChain,aSl,aNoPart,aPart,aCall,aCallV,aYes,aNeg,aRevL,aRg1,aLstRg,asArgs,asArg,dataOf,listOf,viewOf,dataAll,onB,onP,onL,onT,onS,onZ2,aPut,parOk,parOk2,retR,rdA,stillR,fI0,fII,fEq,fNe,eqS,fIsiA,tyOf,fLen,fLenS,fInt1,fStrI,fMax2,fListOf,fTupOf,fAll,fAny,fIxT,fIxL,fIxQ,fIxS,fRep,fRepT,aRevA,fEqE,fNeE,fSlT,fSlL,fSlQ,fSlS,fCat,fCatT,fAddS,fIsN,fNotN,fNotB,fIsB,noneB,seqOf,fSorted,bName,bTup,bCons,bNil,onRg1,onRg2,cList,cTup,cStr,cRg1,cRg2,cEnum,cEnumT,cZipL,cZipT,cZipQ,wList,wTup,wStr,wRg1,wRg2,wEnum,wEnumT,wipeA,List.map,List.replicate,List.length_cons,List.length_nil,List.cons_append,List.nil_append,List.append_nil,List.getElem?_cons_zero,List.getElem?_cons_succ,List.set_cons_zero,List.set_cons_succ,List.set,Option.map_some,Option.map_none,Option.getD_some,Option.getD_none,reduceIte,Bool.false_eq_true,Bool.not_true,Bool.not_false,and_true,true_and,false_and,Nat.zero_le,ne_eq,not_false_eq_true,atI_0,atI_1,atI_2,atI_3,aDGet,aDGet1,aDGet2,aDIn,aListD,aStar,aDictOf,aSortSetL,aMaxT,aPar3,wKeys,cKeys,cVals,cItems,onO_some,keysOf_kv,valsOf_kv,itemsOf_kv,starItems_kv,dataAll_ds,dataAll_two,aUnpP,uNil,uCons,upOk,noBl,List.all_cons,List.all_nil,Bool.and_true,aSortItems,aOrL,aOdict,fSortedD,fExtD,fMulS,fLtT,fNeT0,aUpper,aSortSetV,cRg3,onRg3,fEqX,fNeX,fSlX,fMin2,fInSign,fNotInSign,aJoin,aTabPar,gStill,gPush,wListG,aSortD,notB,aSortSetS,aTable,tSq,tStill,dOf,dSeq,dIf,dPut,wListD,aListItems,fInDT,fIxQS,fLenQS,fSortedLS,fLtS,fLeS,fEqT0,fInX,fSortedDT,aCallX,xRaise,aTry,aGiven,aPick,aNone,keepI,nIsWord]
            have hq : Q (some (.bool ((!decide (([c] : List Nat) < (Str.ofString "a").cps.toList)) && !decide ((Str.ofString "z").cps.toList < [c])))) := hq
            refine ite2 (fun h => ⟨_, rfl, hn, ?_⟩) (fun h => ⟨_, rfl, hn, ?_⟩)
            · rw [h, Bool.true_and] at hq
              exact hq
            · rw [Bool.eq_false_iff.mpr h, Bool.false_and] at hq
              exact hq
      · have e : wordS s = false := by
          unfold wordS
          rw [Bool.eq_false_iff.mpr h1, Bool.false_and, Bool.false_and]
        rw [e] at ht
        exact ht
    | _ =>
      simp only [isiB,aSeq,aIfS,aRet,aRetN,aSet,aDrop,aNext,aNever,aBreak,aCont,aUnp,aUnl,aPar,aAppend,aExtend,aAppendPop,aPopSet,aVar,aC,aTy,aFn,aOp,aCB,aCons,aNil,aTup,aLst,aB,aNot,aAnd,aOr,aAndV,aOrV,aNotV,aIf,aChain,aSl,aNoPart,aPart,aCall,aCallV,aYes,aNeg,aRevL,aRg1,aLstRg,asArgs,asArg,dataOf,listOf,viewOf,dataAll,onB,onP,onL,onT,onS,onZ2,aPut,parOk,parOk2,retR,rdA,stillR,fI0,fII,fEq,fNe,eqS,fIsiA,tyOf,fLen,fLenS,fInt1,fStrI,fMax2,fListOf,fTupOf,fAll,fAny,fIxT,fIxL,fIxQ,fIxS,fRep,fRepT,aRevA,fEqE,fNeE,fSlT,fSlL,fSlQ,fSlS,fCat,fCatT,fAddS,fIsN,fNotN,fNotB,fIsB,noneB,seqOf,fSorted,bName,bTup,bCons,bNil,onRg1,onRg2,cList,cTup,cStr,cRg1,cRg2,cEnum,cEnumT,cZipL,cZipT,cZipQ,wList,wTup,wStr,wRg1,wRg2,wEnum,wEnumT,wipeA,List.map,List.replicate,List.length_cons,List.length_nil,List.cons_append,List.nil_append,List.append_nil,List.getElem?_cons_zero,List.getElem?_cons_succ,List.set_cons_zero,List.set_cons_succ,List.set,Option.map_some,Option.map_none,Option.getD_some,Option.getD_none,reduceIte,Bool.false_eq_true,Bool.not_true,Bool.not_false,and_true,true_and,false_and,Nat.zero_le,ne_eq,not_false_eq_true,atI_0,atI_1,atI_2,atI_3,aDGet,aDGet1,aDGet2,aDIn,aListD,aStar,aDictOf,aSortSetL,aMaxT,aPar3,wKeys,cKeys,cVals,cItems,onO_some,keysOf_kv,valsOf_kv,itemsOf_kv,starItems_kv,dataAll_ds,dataAll_two,aUnpP,uNil,uCons,upOk,noBl,List.all_cons,List.all_nil,Bool.and_true,aSortItems,aOrL,aOdict,fSortedD,fExtD,fMulS,fLtT,fNeT0,aUpper,aSortSetV,cRg3,onRg3,fEqX,fNeX,fSlX,fMin2,fInSign,fNotInSign,aJoin,aTabPar,gStill,gPush,wListG,aSortD,notB,aSortSetS,aTable,tSq,tStill,dOf,dSeq,dIf,dPut,wListD,aListItems,fInDT,fIxQS,fLenQS,fSortedLS,fLtS,fLeS,fEqT0,fInX,fSortedDT,aCallX,xRaise,aTry,aGiven,aPick,aNone,keepI,nIsWord]
      exact ht
theorem ok_IsAscending {f : Addr} {fd : FuncData} (Z : Blt K mg) (D : DefAt K mg "is_ascending" sIsAscending pIsAscending f fd) : FnOk P w K mg base CX0 1 f fd pIsAscending (spA 1 K DK T_is_ascending) := by
  refine D.F.ok scIsAscending (fun vs H Q E h => h.len) (fun cdv A outer s0 H vs Q E hr h => ?_)
  have hu := hu_of hr
  refine ⟨_, (pss_one (ps_ret (pe_callB (cr_all rfl) (by rfl) Z.all (by decide +kernel) (pa_cons (pe_lc (own := [("one", 1), ("other", 2)]) (tt := tYes) rfl scIsAscending.nd (pi_zip (by rfl) Z.zip (pa_cons (pv 0) (pa_cons (pe_slice sl_list (pv 0) (po_some pe_int) po_none) pa_nil))) (blkOk_by (own := [("one", 1), ("other", 2)]) (N := nIsAscending) (sc := defScope sIsAscending) (by decide +kernel)) (fun _ _ _ _ _ => (pg_tupK K (n := 2) rfl (pgs_cons (pg_name (i := 1) scIsAscending.nd rfl (Or.inl rfl)) (pgs_cons (pg_name (i := 2) scIsAscending.nd rfl (Or.inl rfl)) pgs_nil)))) (fun _ _ _ _ _ => pts_nil) (fun _ _ _ _ _ => (pe_cmpR op_lt_str (pv 1) (pv 2) (nomark _)))) pa_nil)))), abs_fn (N := nIsAscending) (sa_ret (ea_all (ea_lc (ic_zip (aa_cons (ea_var 0) (aa_cons (ea_sl sa_slL (ea_var 0) (ao_some (ea_int _)) ao_none) aa_nil))) (gd_tup (gd_cons (gd_name 1) (gd_cons (gd_name 2) gd_nil))) ta_yes (ea_op oa_ltS (ea_var 1) (ea_var 2))))) h (fun as Φ hn ht => ?_)⟩
  match as, ht with
  | [.bl xs], ht =>
    obtain ⟨ks, rfl, hz, ht⟩ := ht
    refine all_of (zipD (ks.map PyData.str) ((ks.map PyData.str).drop 1)) ltSD (fun Ψ h => ?_) (by rw [zipD_len, List.length_map]; exact Nat.lt_of_le_of_lt (Nat.min_le_left _ _) hz) rfl (fun x hx => ?_) (by rw [zipS_asc]; exact ht)
    · show Ψ (zipD (ks.map PyData.str) (cutD (ks.map PyData.str) (some 1) none))
      rw [cut1]
      exact h
    · obtain ⟨u, v, h1, h2, rfl⟩ := zip_mem hx
      obtain ⟨i, _, rfl⟩ := List.mem_map.mp h1
      obtain ⟨j, _, rfl⟩ := List.mem_map.mp (List.mem_of_mem_drop h2)
      exact fun n Q hn hq => ⟨rfl, rfl, _, rfl, hn, hq⟩
theorem ok_IsTuple {f : Addr} {fd : FuncData} (Z : Blt K mg) (D : DefAt K mg "is_tuple" sIsTuple pIsTuple f fd) : FnOk P w K mg base CX0 1 f fd pIsTuple (spA 2 K DK T_is_tuple) := by
  refine D.F.ok scIsTuple (fun vs H Q E h => h.len) (fun cdv A outer s0 H vs Q E hr h => ?_)
  have hu := hu_of hr
  refine ⟨_, (pss_one (ps_ret (pe_and (pe_callB call_isi (by rfl) Z.isinstance (by decide +kernel) (pa_cons (pv 0) (pa_cons (pe_bltn (v := .ty "tuple") (u := Value.type "tuple") (by rfl) Z.tuple (by decide +kernel) rfl) pa_nil))) (pe_one (pe_cmpR op_eq (pe_callB call_len_seq (by rfl) Z.len (by decide +kernel) (pa_cons (pv 0) pa_nil)) (pv 1) (nomark _)))))), abs_fn (N := nIsTuple) (sa_ret (ea_and (ea_cb cb_isi (aa_cons (ea_var 0) (aa_cons (ea_ty .tup) aa_nil))) (ea_op oa_eq (ea_cb cb_len (aa_cons (ea_var 0) aa_nil)) (ea_var 1)))) h (fun as Φ hn ht => ?_)⟩
  match as, ht with
  | [.d x, .d (.int n)], ht =>
    cases x with
    | tuple ys =>
      simp only [isiB,aSeq,aIfS,aRet,aRetN,aSet,aDrop,aNext,aNever,aBreak,aCont,aUnp,aUnl,aPar,aAppend,aExtend,aAppendPop,aPopSet,aVar,aC,aTy,aFn,aOp,aCB,aCons,aNil,aTup,aLst,aB,aNot,aAnd,aOr,aAndV,aOrV,aNotV,aIf,aChain,aSl,aNoPart,aPart,aCall,aCallV,aYes,aNeg,aRevL,aRg1,aLstRg,asArgs,asArg,dataOf,listOf,viewOf,dataAll,onB,onP,onL,onT,onS,onZ2,aPut,parOk,parOk2,retR,rdA,stillR,fI0,fII,fEq,fNe,eqS,fIsiA,tyOf,fLen,fLenS,fInt1,fStrI,fMax2,fListOf,fTupOf,fAll,fAny,fIxT,fIxL,fIxQ,fIxS,fRep,fRepT,aRevA,fEqE,fNeE,fSlT,fSlL,fSlQ,fSlS,fCat,fCatT,fAddS,fIsN,fNotN,fNotB,fIsB,noneB,seqOf,fSorted,bName,bTup,bCons,bNil,onRg1,onRg2,cList,cTup,cStr,cRg1,cRg2,cEnum,cEnumT,cZipL,cZipT,cZipQ,wList,wTup,wStr,wRg1,wRg2,wEnum,wEnumT,wipeA,List.map,List.replicate,List.length_cons,List.length_nil,List.cons_append,List.nil_append,List.append_nil,List.getElem?_cons_zero,List.getElem?_cons_succ,List.set_cons_zero,List.set_cons_succ,List.set,Option.map_some,Option.map_none,Option.getD_some,Option.getD_none,reduceIte,Bool.false_eq_true,Bool.not_true,Bool.not_false,and_true,true_and,false_and,Nat.zero_le,ne_eq,not_false_eq_true,atI_0,atI_1,atI_2,atI_3,aDGet,aDGet1,aDGet2,aDIn,aListD,aStar,aDictOf,aSortSetL,aMaxT,aPar3,wKeys,cKeys,cVals,cItems,onO_some,keysOf_kv,valsOf_kv,itemsOf_kv,starItems_kv,dataAll_ds,dataAll_two,aUnpP,uNil,uCons,upOk,noBl,List.all_cons,List.all_nil,Bool.and_true,aSortItems,aOrL,aOdict,fSortedD,fExtD,fMulS,fLtT,fNeT0,aUpper,aSortSetV,cRg3,onRg3,fEqX,fNeX,fSlX,fMin2,fInSign,fNotInSign,aJoin,aTabPar,gStill,gPush,wListG,aSortD,notB,aSortSetS,aTable,tSq,tStill,dOf,dSeq,dIf,dPut,wListD,aListItems,fInDT,fIxQS,fLenQS,fSortedLS,fLtS,fLeS,fEqT0,fInX,fSortedDT,aCallX,xRaise,aTry,aGiven,aPick,aNone,keepI,nIsTuple]
      exact ht
    | _ =>
      simp only [isiB,aSeq,aIfS,aRet,aRetN,aSet,aDrop,aNext,aNever,aBreak,aCont,aUnp,aUnl,aPar,aAppend,aExtend,aAppendPop,aPopSet,aVar,aC,aTy,aFn,aOp,aCB,aCons,aNil,aTup,aLst,aB,aNot,aAnd,aOr,aAndV,aOrV,aNotV,aIf,aChain,aSl,aNoPart,aPart,aCall,aCallV,aYes,aNeg,aRevL,aRg1,aLstRg,asArgs,asArg,dataOf,listOf,viewOf,dataAll,onB,onP,onL,onT,onS,onZ2,aPut,parOk,parOk2,retR,rdA,stillR,fI0,fII,fEq,fNe,eqS,fIsiA,tyOf,fLen,fLenS,fInt1,fStrI,fMax2,fListOf,fTupOf,fAll,fAny,fIxT,fIxL,fIxQ,fIxS,fRep,fRepT,aRevA,fEqE,fNeE,fSlT,fSlL,fSlQ,fSlS,fCat,fCatT,fAddS,fIsN,fNotN,fNotB,fIsB,noneB,seqOf,fSorted,bName,bTup,bCons,bNil,onRg1,onRg2,cList,cTup,cStr,cRg1,cRg2,cEnum,cEnumT,cZipL,cZipT,cZipQ,wList,wTup,wStr,wRg1,wRg2,wEnum,wEnumT,wipeA,List.map,List.replicate,List.length_cons,List.length_nil,List.cons_append,List.nil_append,List.append_nil,List.getElem?_cons_zero,List.getElem?_cons_succ,List.set_cons_zero,List.set_cons_succ,List.set,Option.map_some,Option.map_none,Option.getD_some,Option.getD_none,reduceIte,Bool.false_eq_true,Bool.not_true,Bool.not_false,and_true,true_and,false_and,Nat.zero_le,ne_eq,not_false_eq_true,atI_0,atI_1,atI_2,atI_3,aDGet,aDGet1,aDGet2,aDIn,aListD,aStar,aDictOf,aSortSetL,aMaxT,aPar3,wKeys,cKeys,cVals,cItems,onO_some,keysOf_kv,valsOf_kv,itemsOf_kv,starItems_kv,dataAll_ds,dataAll_two,aUnpP,uNil,uCons,upOk,noBl,List.all_cons,List.all_nil,Bool.and_true,aSortItems,aOrL,aOdict,fSortedD,fExtD,fMulS,fLtT,fNeT0,aUpper,aSortSetV,cRg3,onRg3,fEqX,fNeX,fSlX,fMin2,fInSign,fNotInSign,aJoin,aTabPar,gStill,gPush,wListG,aSortD,notB,aSortSetS,aTable,tSq,tStill,dOf,dSeq,dIf,dPut,wListD,aListItems,fInDT,fIxQS,fLenQS,fSortedLS,fLtS,fLeS,fEqT0,fInX,fSortedDT,aCallX,xRaise,aTry,aGiven,aPick,aNone,keepI,nIsTuple]
      exact ht
theorem ok_IsTupleOfAtW {f : Addr} {fd : FuncData} {fIsWord : Addr} {fdIsWord : FuncData} {nlv : Nat} {TT : FnT} (Z : Blt K mg) (D : DefAt K mg "is_tuple_of" sIsTupleOf pIsTupleOf f fd) (DIsWord : DefAt K mg "is_word" sIsWord pIsWord fIsWord fdIsWord) (GIsWord : FnOk P w K mg base CX0 nlv fIsWord fdIsWord pIsWord (spA 1 K DK TT)) : FnOk P w K mg base CX0 (nlv + 1) f fd pIsTupleOf (spA 2 K DK (T_tupF TT fIsWord)) := by
  refine D.F.ok scIsTupleOf (fun vs H Q E h => h.len) (fun cdv A outer s0 H vs Q E hr h => ?_)
  have hu := hu_of hr
  refine ⟨_, (pss_one (ps_ret (pe_and (pe_callB call_isi (by rfl) Z.isinstance (by decide +kernel) (pa_cons (pv 0) (pa_cons (pe_bltn (v := .ty "tuple") (u := Value.type "tuple") (by rfl) Z.tuple (by decide +kernel) rfl) pa_nil))) (pe_one (pe_callB (cr_all rfl) (by rfl) Z.all (by decide +kernel) (pa_cons (pe_lc (own := [("item", 2)]) (g := gName 2) (tt := tYes) rfl scIsTupleOf.nd (pi_tup (pv 0)) (blkOk_by (own := [("item", 2)]) (N := nIsTupleOf) (sc := defScope sIsTupleOf) (by decide +kernel)) (fun _ _ _ _ _ => (pg_name (i := 2) scIsTupleOf.nd rfl (Or.inl rfl))) (fun _ _ _ _ _ => pts_nil) (fun _ _ _ _ _ => (pe_callV (i := 1) GIsWord hr rfl (by first | exact Or.inl rfl | exact Or.inr (Or.inl rfl) | exact Or.inr (Or.inr rfl)) DIsWord.F.kp DIsWord.b (pa_cons (pv 2) pa_nil)))) pa_nil)))))), abs_fn (N := nIsTupleOf) (sa_ret (ea_and (ea_cb cb_isi (aa_cons (ea_var 0) (aa_cons (ea_ty .tup) aa_nil))) (ea_all (ea_lc (ic_tup (ea_var 0)) (gd_name 2) ta_yes (ea_callV [.d] (aa_cons (ea_var 2) aa_nil)))))) h (fun as Φ hn ht => ?_)⟩
  match as, ht with
  | [.d x, .fn g], ht =>
    obtain ⟨rfl, c, hc, ht⟩ := ht
    cases x with
    | tuple xs =>
      obtain ⟨hz, hc⟩ := hc xs rfl
      show aAndV _ _ _ _
      refine aAndV_tt (fun _ => rfl) ?_
      refine all_of xs c (fun Ψ h => h) hz rfl (fun x hx n Q hn hq => ?_) ht
      exact ⟨rfl, hc x hx _ ⟨_, rfl, hn, hq⟩⟩
    | _ => simp only [isiB,aSeq,aIfS,aRet,aRetN,aSet,aDrop,aNext,aNever,aBreak,aCont,aUnp,aUnl,aPar,aAppend,aExtend,aAppendPop,aPopSet,aVar,aC,aTy,aFn,aOp,aCB,aCons,aNil,aTup,aLst,aB,aNot,aAnd,aOr,aAndV,aOrV,aNotV,aIf,aChain,aSl,aNoPart,aPart,aCall,aCallV,aYes,aNeg,aRevL,aRg1,aLstRg,asArgs,asArg,dataOf,listOf,viewOf,dataAll,onB,onP,onL,onT,onS,onZ2,aPut,parOk,parOk2,retR,rdA,stillR,fI0,fII,fEq,fNe,eqS,fIsiA,tyOf,fLen,fLenS,fInt1,fStrI,fMax2,fListOf,fTupOf,fAll,fAny,fIxT,fIxL,fIxQ,fIxS,fRep,fRepT,aRevA,fEqE,fNeE,fSlT,fSlL,fSlQ,fSlS,fCat,fCatT,fAddS,fIsN,fNotN,fNotB,fIsB,noneB,seqOf,fSorted,bName,bTup,bCons,bNil,onRg1,onRg2,cList,cTup,cStr,cRg1,cRg2,cEnum,cEnumT,cZipL,cZipT,cZipQ,wList,wTup,wStr,wRg1,wRg2,wEnum,wEnumT,wipeA,List.map,List.replicate,List.length_cons,List.length_nil,List.cons_append,List.nil_append,List.append_nil,List.getElem?_cons_zero,List.getElem?_cons_succ,List.set_cons_zero,List.set_cons_succ,List.set,Option.map_some,Option.map_none,Option.getD_some,Option.getD_none,reduceIte,Bool.false_eq_true,Bool.not_true,Bool.not_false,and_true,true_and,false_and,Nat.zero_le,ne_eq,not_false_eq_true,atI_0,atI_1,atI_2,atI_3,aDGet,aDGet1,aDGet2,aDIn,aListD,aStar,aDictOf,aSortSetL,aMaxT,aPar3,wKeys,cKeys,cVals,cItems,onO_some,keysOf_kv,valsOf_kv,itemsOf_kv,starItems_kv,dataAll_ds,dataAll_two,aUnpP,uNil,uCons,upOk,noBl,List.all_cons,List.all_nil,Bool.and_true,aSortItems,aOrL,aOdict,fSortedD,fExtD,fMulS,fLtT,fNeT0,aUpper,aSortSetV,cRg3,onRg3,fEqX,fNeX,fSlX,fMin2,fInSign,fNotInSign,aJoin,aTabPar,gStill,gPush,wListG,aSortD,notB,aSortSetS,aTable,tSq,tStill,dOf,dSeq,dIf,dPut,wListD,aListItems,fInDT,fIxQS,fLenQS,fSortedLS,fLtS,fLeS,fEqT0,fInX,fSortedDT,aCallX,xRaise,aTry,aGiven,aPick,aNone,keepI,nIsTupleOf,T_is_word]; exact ht
theorem ok_IsTupleOfAtC {f : Addr} {fd : FuncData} {fIsCondition : Addr} {fdIsCondition : FuncData} {nlv : Nat} {TT : FnT} (Z : Blt K mg) (D : DefAt K mg "is_tuple_of" sIsTupleOf pIsTupleOf f fd) (DIsCondition : DefAt K mg "is_condition" sIsCondition pIsCondition fIsCondition fdIsCondition) (GIsCondition : FnOk P w K mg base CX0 nlv fIsCondition fdIsCondition pIsCondition (spA 1 K DK TT)) : FnOk P w K mg base CX0 (nlv + 1) f fd pIsTupleOf (spA 2 K DK (T_tupF TT fIsCondition)) := by
  refine D.F.ok scIsTupleOf (fun vs H Q E h => h.len) (fun cdv A outer s0 H vs Q E hr h => ?_)
  have hu := hu_of hr
  refine ⟨_, (pss_one (ps_ret (pe_and (pe_callB call_isi (by rfl) Z.isinstance (by decide +kernel) (pa_cons (pv 0) (pa_cons (pe_bltn (v := .ty "tuple") (u := Value.type "tuple") (by rfl) Z.tuple (by decide +kernel) rfl) pa_nil))) (pe_one (pe_callB (cr_all rfl) (by rfl) Z.all (by decide +kernel) (pa_cons (pe_lc (own := [("item", 2)]) (g := gName 2) (tt := tYes) rfl scIsTupleOf.nd (pi_tup (pv 0)) (blkOk_by (own := [("item", 2)]) (N := nIsTupleOf) (sc := defScope sIsTupleOf) (by decide +kernel)) (fun _ _ _ _ _ => (pg_name (i := 2) scIsTupleOf.nd rfl (Or.inl rfl))) (fun _ _ _ _ _ => pts_nil) (fun _ _ _ _ _ => (pe_callV (i := 1) GIsCondition hr rfl (by first | exact Or.inl rfl | exact Or.inr (Or.inl rfl) | exact Or.inr (Or.inr rfl)) DIsCondition.F.kp DIsCondition.b (pa_cons (pv 2) pa_nil)))) pa_nil)))))), abs_fn (N := nIsTupleOf) (sa_ret (ea_and (ea_cb cb_isi (aa_cons (ea_var 0) (aa_cons (ea_ty .tup) aa_nil))) (ea_all (ea_lc (ic_tup (ea_var 0)) (gd_name 2) ta_yes (ea_callV [.d] (aa_cons (ea_var 2) aa_nil)))))) h (fun as Φ hn ht => ?_)⟩
  match as, ht with
  | [.d x, .fn g], ht =>
    obtain ⟨rfl, c, hc, ht⟩ := ht
    cases x with
    | tuple xs =>
      obtain ⟨hz, hc⟩ := hc xs rfl
      show aAndV _ _ _ _
      refine aAndV_tt (fun _ => rfl) ?_
      refine all_of xs c (fun Ψ h => h) hz rfl (fun x hx n Q hn hq => ?_) ht
      exact ⟨rfl, hc x hx _ ⟨_, rfl, hn, hq⟩⟩
    | _ => simp only [isiB,aSeq,aIfS,aRet,aRetN,aSet,aDrop,aNext,aNever,aBreak,aCont,aUnp,aUnl,aPar,aAppend,aExtend,aAppendPop,aPopSet,aVar,aC,aTy,aFn,aOp,aCB,aCons,aNil,aTup,aLst,aB,aNot,aAnd,aOr,aAndV,aOrV,aNotV,aIf,aChain,aSl,aNoPart,aPart,aCall,aCallV,aYes,aNeg,aRevL,aRg1,aLstRg,asArgs,asArg,dataOf,listOf,viewOf,dataAll,onB,onP,onL,onT,onS,onZ2,aPut,parOk,parOk2,retR,rdA,stillR,fI0,fII,fEq,fNe,eqS,fIsiA,tyOf,fLen,fLenS,fInt1,fStrI,fMax2,fListOf,fTupOf,fAll,fAny,fIxT,fIxL,fIxQ,fIxS,fRep,fRepT,aRevA,fEqE,fNeE,fSlT,fSlL,fSlQ,fSlS,fCat,fCatT,fAddS,fIsN,fNotN,fNotB,fIsB,noneB,seqOf,fSorted,bName,bTup,bCons,bNil,onRg1,onRg2,cList,cTup,cStr,cRg1,cRg2,cEnum,cEnumT,cZipL,cZipT,cZipQ,wList,wTup,wStr,wRg1,wRg2,wEnum,wEnumT,wipeA,List.map,List.replicate,List.length_cons,List.length_nil,List.cons_append,List.nil_append,List.append_nil,List.getElem?_cons_zero,List.getElem?_cons_succ,List.set_cons_zero,List.set_cons_succ,List.set,Option.map_some,Option.map_none,Option.getD_some,Option.getD_none,reduceIte,Bool.false_eq_true,Bool.not_true,Bool.not_false,and_true,true_and,false_and,Nat.zero_le,ne_eq,not_false_eq_true,atI_0,atI_1,atI_2,atI_3,aDGet,aDGet1,aDGet2,aDIn,aListD,aStar,aDictOf,aSortSetL,aMaxT,aPar3,wKeys,cKeys,cVals,cItems,onO_some,keysOf_kv,valsOf_kv,itemsOf_kv,starItems_kv,dataAll_ds,dataAll_two,aUnpP,uNil,uCons,upOk,noBl,List.all_cons,List.all_nil,Bool.and_true,aSortItems,aOrL,aOdict,fSortedD,fExtD,fMulS,fLtT,fNeT0,aUpper,aSortSetV,cRg3,onRg3,fEqX,fNeX,fSlX,fMin2,fInSign,fNotInSign,aJoin,aTabPar,gStill,gPush,wListG,aSortD,notB,aSortSetS,aTable,tSq,tStill,dOf,dSeq,dIf,dPut,wListD,aListItems,fInDT,fIxQS,fLenQS,fSortedLS,fLtS,fLeS,fEqT0,fInX,fSortedDT,aCallX,xRaise,aTry,aGiven,aPick,aNone,keepI,nIsTupleOf,T_condK]; exact ht
theorem ok_IsTable {f : Addr} {fd : FuncData} {fIsAscending : Addr} {fdIsAscending : FuncData} {fIsTuple : Addr} {fdIsTuple : FuncData} {fIsWord : Addr} {fdIsWord : FuncData} (Z : Blt K mg) (D : DefAt K mg "is_table" sIsTable pIsTable f fd) (DIsAscending : DefAt K mg "is_ascending" sIsAscending pIsAscending fIsAscending fdIsAscending) (DIsTuple : DefAt K mg "is_tuple" sIsTuple pIsTuple fIsTuple fdIsTuple) (DIsWord : DefAt K mg "is_word" sIsWord pIsWord fIsWord fdIsWord) (GIsAscending : FnOk P w K mg base CX0 1 fIsAscending fdIsAscending pIsAscending (spA 1 K DK T_is_ascending)) (GIsTuple : FnOk P w K mg base CX0 1 fIsTuple fdIsTuple pIsTuple (spA 2 K DK T_is_tuple)) (GIsWord : FnOk P w K mg base CX0 1 fIsWord fdIsWord pIsWord (spA 1 K DK T_is_word)) : FnOk P w K mg base CX0 2 f fd pIsTable (spA 2 K DK (T_is_table fIsWord)) := by
  refine D.F.ok scIsTable (fun vs H Q E h => h.len) (fun cdv A outer s0 H vs Q E hr h => ?_)
  have hu := hu_of hr
  refine ⟨_, (pss_cons (ps_if (PW.pt (pw_or (pt_not (pt_val (pe_callB call_isi (by rfl) Z.isinstance (by decide +kernel) (pa_cons (pv 0) (pa_cons (pe_bltn (v := .ty "tuple") (u := Value.type "tuple") (by rfl) Z.tuple (by decide +kernel) rfl) pa_nil))))) (pw_or1 (pt_not (pt_val (pe_callB (cr_all rfl) (by rfl) Z.all (by decide +kernel) (pa_cons (pe_lc (own := [("pair", 2)]) (g := gName 2) (tt := tYes) rfl scIsTable.nd (pi_tup (pv 0)) (blkOk_by (own := [("pair", 2)]) (N := nIsTable) (sc := defScope sIsTable) (by decide +kernel)) (fun _ _ _ _ _ => (pg_name (i := 2) scIsTable.nd rfl (Or.inl rfl))) (fun _ _ _ _ _ => pts_nil) (fun _ _ _ _ _ => (pe_call GIsTuple (hr.mono (by decide)) rfl DIsTuple.g DIsTuple.F.kp DIsTuple.b .nil pass0 (pa_cons (pv 2) (pa_cons pe_int pa_nil))))) pa_nil)))))))
    (pss_one (ps_ret pe_bl))
    pss_nil)
    (pss_cons (ps_if (pt_not (pt_val (pe_callB (cr_all rfl) (by rfl) Z.all (by decide +kernel) (pa_cons (pe_lc (own := [("key", 3), ("value", 4)]) (tt := tYes) rfl scIsTable.nd (pi_tup (pv 0)) (blkOk_by (own := [("key", 3), ("value", 4)]) (N := nIsTable) (sc := defScope sIsTable) (by decide +kernel)) (fun _ _ _ _ _ => (pg_tupK K (n := 2) rfl (pgs_cons (pg_name (i := 3) scIsTable.nd rfl (Or.inl rfl)) (pgs_cons (pg_name (i := 4) scIsTable.nd rfl (Or.inl rfl)) pgs_nil)))) (fun _ _ _ _ _ => pts_nil) (fun _ _ _ _ _ => (pe_and (pe_call GIsWord (hr.mono (by decide)) rfl DIsWord.g DIsWord.F.kp DIsWord.b .nil pass0 (pa_cons (pv 3) pa_nil)) (pe_one (pe_callV (i := 1) GIsWord (hr.mono (by decide)) rfl (by first | exact Or.inl rfl | exact Or.inr (Or.inl rfl) | exact Or.inr (Or.inr rfl)) DIsWord.F.kp DIsWord.b (pa_cons (pv 4) pa_nil)))))) pa_nil))))
    (pss_one (ps_ret pe_bl))
    pss_nil)
    (pss_one (ps_ret (pe_call GIsAscending (hr.mono (by decide)) rfl DIsAscending.g DIsAscending.F.kp DIsAscending.b .nil pass0 (pa_cons (pe_lc (own := [("key", 3), ("_", 5)]) (tt := tYes) rfl scIsTable.nd (pi_tup (pv 0)) (blkOk_by (own := [("key", 3), ("_", 5)]) (N := nIsTable) (sc := defScope sIsTable) (by decide +kernel)) (fun _ _ _ _ _ => (pg_tupK K (n := 2) rfl (pgs_cons (pg_name (i := 3) scIsTable.nd rfl (Or.inl rfl)) (pgs_cons (pg_name (i := 5) scIsTable.nd rfl (Or.inl rfl)) pgs_nil)))) (fun _ _ _ _ _ => pts_nil) (fun _ _ _ _ _ => (pv 3))) pa_nil)))))), abs_fn (N := nIsTable) (sa_seq (sa_if (ta_or (ta_not (ta_b (ea_cb cb_isi (aa_cons (ea_var 0) (aa_cons (ea_ty .tup) aa_nil))))) (ta_not (ta_b (ea_all (ea_lc (ic_tup (ea_var 0)) (gd_name 2) ta_yes (ea_call [.d, .d] (aa_cons (ea_var 2) (aa_cons (ea_int _) aa_nil)))))))) (sa_ret (ea_bl _)) sa_next) (sa_seq (sa_if (ta_not (ta_b (ea_all (ea_lc (ic_tup (ea_var 0)) (gd_tup (gd_cons (gd_name 3) (gd_cons (gd_name 4) gd_nil))) ta_yes (ea_and (ea_call [.d] (aa_cons (ea_var 3) aa_nil)) (ea_callV [.d] (aa_cons (ea_var 4) aa_nil))))))) (sa_ret (ea_bl _)) sa_next) (sa_ret (ea_call [.b] (aa_cons (ea_lc (ic_tup (ea_var 0)) (gd_tup (gd_cons (gd_name 3) (gd_cons (gd_name 5) gd_nil))) ta_yes (ea_var 3)) aa_nil))))) h (fun as Φ hn ht => ?_)⟩
  match as, ht with
  | [.d x, .fn g], ht =>
    obtain ⟨rfl, hb, ht⟩ := ht
    cases x with
    | tuple ys =>
      have hb : PyData.bulkAll ys ≤ 1000000 := hb
      have hz : ys.length < sizeLine := Nat.lt_of_le_of_lt (Nat.le_trans (bulk_len ys) hb) sizeBig
      have ht : Φ (.d (.bool (ys.all pairT && ascS (ys.map keyT)))) := ht
      simp only [isiB,aSeq,aIfS,aRet,aRetN,aSet,aDrop,aNext,aNever,aBreak,aCont,aUnp,aUnl,aPar,aAppend,aExtend,aAppendPop,aPopSet,aVar,aC,aTy,aFn,aOp,aCB,aCons,aNil,aTup,aLst,aB,aNot,aAnd,aOr,aAndV,aOrV,aNotV,aIf,aChain,aSl,aNoPart,aPart,aCall,aCallV,aYes,aNeg,aRevL,aRg1,aLstRg,asArgs,asArg,dataOf,listOf,viewOf,dataAll,onB,onP,onL,onT,onS,onZ2,aPut,parOk,parOk2,retR,rdA,stillR,fI0,fII,fEq,fNe,eqS,fIsiA,tyOf,fLen,fLenS,fInt1,fStrI,fMax2,fListOf,fTupOf,fAll,fAny,fIxT,fIxL,fIxQ,fIxS,fRep,fRepT,aRevA,fEqE,fNeE,fSlT,fSlL,fSlQ,fSlS,fCat,fCatT,fAddS,fIsN,fNotN,fNotB,fIsB,noneB,seqOf,fSorted,bName,bTup,bCons,bNil,onRg1,onRg2,cList,cTup,cStr,cRg1,cRg2,cEnum,cEnumT,cZipL,cZipT,cZipQ,wList,wTup,wStr,wRg1,wRg2,wEnum,wEnumT,wipeA,List.map,List.replicate,List.length_cons,List.length_nil,List.cons_append,List.nil_append,List.append_nil,List.getElem?_cons_zero,List.getElem?_cons_succ,List.set_cons_zero,List.set_cons_succ,List.set,Option.map_some,Option.map_none,Option.getD_some,Option.getD_none,reduceIte,Bool.false_eq_true,Bool.not_true,Bool.not_false,and_true,true_and,false_and,Nat.zero_le,ne_eq,not_false_eq_true,atI_0,atI_1,atI_2,atI_3,aDGet,aDGet1,aDGet2,aDIn,aListD,aStar,aDictOf,aSortSetL,aMaxT,aPar3,wKeys,cKeys,cVals,cItems,onO_some,keysOf_kv,valsOf_kv,itemsOf_kv,starItems_kv,dataAll_ds,dataAll_two,aUnpP,uNil,uCons,upOk,noBl,List.all_cons,List.all_nil,Bool.and_true,aSortItems,aOrL,aOdict,fSortedD,fExtD,fMulS,fLtT,fNeT0,aUpper,aSortSetV,cRg3,onRg3,fEqX,fNeX,fSlX,fMin2,fInSign,fNotInSign,aJoin,aTabPar,gStill,gPush,wListG,aSortD,notB,aSortSetS,aTable,tSq,tStill,dOf,dSeq,dIf,dPut,wListD,aListItems,fInDT,fIxQS,fLenQS,fSortedLS,fLtS,fLeS,fEqT0,fInX,fSortedDT,aCallX,xRaise,aTry,aGiven,aPick,aNone,keepI,nIsTable,T_is_ascending,T_is_tuple,T_is_word]
      refine all_of ys (tupN 2) (fun Ψ h => h) hz rfl (fun x hx n Q hn hq => ?_) ?_
      · exact ⟨_, rfl, hn, hq⟩
      show (if (!(ys.all (tupN 2))) = true then _ else _)
      refine ite2 (fun h => ?_) (fun h => ?_)
      · have e : ys.all pairT = false := by
          cases e : ys.all pairT with
          | false => rfl
          | true =>
            have : ys.all (tupN 2) = true := List.all_eq_true.mpr fun y hy => by
              obtain ⟨a, b, rfl⟩ := pair_tup (List.all_eq_true.mp e y hy)
              rfl
            rw [this] at h
            cases h
        rw [e] at ht
        exact ht
      have h2 : ∀ y ∈ ys, ∃ a b, y = .tuple [a, b] := fun y hy => by
        have h : ys.all (tupN 2) = true := by
          cases e : ys.all (tupN 2) with
          | true => rfl
          | false => rw [e] at h; exact absurd rfl h
        have := List.all_eq_true.mp h y hy
        cases y with
        | tuple zs =>
          have l := of_decide_eq_true (show decide ((zs.length : Int) = 2) = true from this)
          match zs, (show zs.length = 2 by omega) with
          | [a, b], _ => exact ⟨a, b, rfl⟩
        | _ => cases this
      refine all_of ys pairT (fun Ψ h => h) hz rfl (fun x hx n Q hn hq => ?_) ?_
      · obtain ⟨a, b, rfl⟩ := h2 x hx
        refine ⟨rfl, rfl, ?_⟩
        have b1 := bulk_mem hx
        have ba : ∀ z ∈ [a, b], ∀ s, z = PyData.str s → s.length ≤ 1000000 := fun z hz2 s e => by
          have b2 := bulk_mem hz2
          subst e
          have b3 : (PyData.str s).bulk = s.length := rfl
          have b4 : (PyData.tuple [a, b]).bulk = PyData.bulkAll [a, b] := rfl
          omega
        have hq : Q (some (.bool (wordD a && wordD b))) := hq
        simp only [isiB,aSeq,aIfS,aRet,aRetN,aSet,aDrop,aNext,aNever,aBreak,aCont,aUnp,aUnl,aPar,aAppend,aExtend,aAppendPop,aPopSet,aVar,aC,aTy,aFn,aOp,aCB,aCons,aNil,aTup,aLst,aB,aNot,aAnd,aOr,aAndV,aOrV,aNotV,aIf,aChain,aSl,aNoPart,aPart,aCall,aCallV,aYes,aNeg,aRevL,aRg1,aLstRg,asArgs,asArg,dataOf,listOf,viewOf,dataAll,onB,onP,onL,onT,onS,onZ2,aPut,parOk,parOk2,retR,rdA,stillR,fI0,fII,fEq,fNe,eqS,fIsiA,tyOf,fLen,fLenS,fInt1,fStrI,fMax2,fListOf,fTupOf,fAll,fAny,fIxT,fIxL,fIxQ,fIxS,fRep,fRepT,aRevA,fEqE,fNeE,fSlT,fSlL,fSlQ,fSlS,fCat,fCatT,fAddS,fIsN,fNotN,fNotB,fIsB,noneB,seqOf,fSorted,bName,bTup,bCons,bNil,onRg1,onRg2,cList,cTup,cStr,cRg1,cRg2,cEnum,cEnumT,cZipL,cZipT,cZipQ,wList,wTup,wStr,wRg1,wRg2,wEnum,wEnumT,wipeA,List.map,List.replicate,List.length_cons,List.length_nil,List.cons_append,List.nil_append,List.append_nil,List.getElem?_cons_zero,List.getElem?_cons_succ,List.set_cons_zero,List.set_cons_succ,List.set,Option.map_some,Option.map_none,Option.getD_some,Option.getD_none,reduceIte,Bool.false_eq_true,Bool.not_true,Bool.not_false,and_true,true_and,false_and,Nat.zero_le,ne_eq,not_false_eq_true,atI_0,atI_1,atI_2,atI_3,aDGet,aDGet1,aDGet2,aDIn,aListD,aStar,aDictOf,aSortSetL,aMaxT,aPar3,wKeys,cKeys,cVals,cItems,onO_some,keysOf_kv,valsOf_kv,itemsOf_kv,starItems_kv,dataAll_ds,dataAll_two,aUnpP,uNil,uCons,upOk,noBl,List.all_cons,List.all_nil,Bool.and_true,aSortItems,aOrL,aOdict,fSortedD,fExtD,fMulS,fLtT,fNeT0,aUpper,aSortSetV,cRg3,onRg3,fEqX,fNeX,fSlX,fMin2,fInSign,fNotInSign,aJoin,aTabPar,gStill,gPush,wListG,aSortD,notB,aSortSetS,aTable,tSq,tStill,dOf,dSeq,dIf,dPut,wListD,aListItems,fInDT,fIxQS,fLenQS,fSortedLS,fLtS,fLeS,fEqT0,fInX,fSortedDT,aCallX,xRaise,aTry,aGiven,aPick,aNone,keepI,nIsTable,T_is_ascending,T_is_tuple,T_is_word]
        refine ⟨ba a List.mem_cons_self, ite2 (fun h => ⟨ba b (List.mem_cons_of_mem _ List.mem_cons_self), _, rfl, hn, ?_⟩) (fun h => ⟨_, rfl, hn, ?_⟩)⟩
        · rw [h, Bool.true_and] at hq
          exact hq
        · rw [Bool.eq_false_iff.mpr h, Bool.false_and] at hq
          exact hq
      show (if (!(ys.all pairT)) = true then _ else _)
      refine ite2 (fun h => ?_) (fun h => ?_)
      · rw [Bool.not_eq_true' _ |>.mp h] at ht
        exact ht
      have h : ys.all pairT = true := by
        cases e : ys.all pairT with
        | true => rfl
        | false => rw [e] at h; exact absurd rfl h
      rw [h] at ht
      refine lc_of ys (fun y => some (.str (keyT y))) (fun Ψ h => h) hz rfl (fun x hx n Q hn hq => ?_) ?_
      · obtain ⟨a, b, rfl⟩ := h2 x hx
        have hp : (wordD a && wordD b) = true := List.all_eq_true.mp h _ hx
        rw [Bool.and_eq_true] at hp
        obtain ⟨s, rfl⟩ := word_str hp.1
        exact ⟨rfl, rfl, _, rfl, hn, hq⟩
      · simp only [isiB,aSeq,aIfS,aRet,aRetN,aSet,aDrop,aNext,aNever,aBreak,aCont,aUnp,aUnl,aPar,aAppend,aExtend,aAppendPop,aPopSet,aVar,aC,aTy,aFn,aOp,aCB,aCons,aNil,aTup,aLst,aB,aNot,aAnd,aOr,aAndV,aOrV,aNotV,aIf,aChain,aSl,aNoPart,aPart,aCall,aCallV,aYes,aNeg,aRevL,aRg1,aLstRg,asArgs,asArg,dataOf,listOf,viewOf,dataAll,onB,onP,onL,onT,onS,onZ2,aPut,parOk,parOk2,retR,rdA,stillR,fI0,fII,fEq,fNe,eqS,fIsiA,tyOf,fLen,fLenS,fInt1,fStrI,fMax2,fListOf,fTupOf,fAll,fAny,fIxT,fIxL,fIxQ,fIxS,fRep,fRepT,aRevA,fEqE,fNeE,fSlT,fSlL,fSlQ,fSlS,fCat,fCatT,fAddS,fIsN,fNotN,fNotB,fIsB,noneB,seqOf,fSorted,bName,bTup,bCons,bNil,onRg1,onRg2,cList,cTup,cStr,cRg1,cRg2,cEnum,cEnumT,cZipL,cZipT,cZipQ,wList,wTup,wStr,wRg1,wRg2,wEnum,wEnumT,wipeA,List.map,List.replicate,List.length_cons,List.length_nil,List.cons_append,List.nil_append,List.append_nil,List.getElem?_cons_zero,List.getElem?_cons_succ,List.set_cons_zero,List.set_cons_succ,List.set,Option.map_some,Option.map_none,Option.getD_some,Option.getD_none,reduceIte,Bool.false_eq_true,Bool.not_true,Bool.not_false,and_true,true_and,false_and,Nat.zero_le,ne_eq,not_false_eq_true,atI_0,atI_1,atI_2,atI_3,aDGet,aDGet1,aDGet2,aDIn,aListD,aStar,aDictOf,aSortSetL,aMaxT,aPar3,wKeys,cKeys,cVals,cItems,onO_some,keysOf_kv,valsOf_kv,itemsOf_kv,starItems_kv,dataAll_ds,dataAll_two,aUnpP,uNil,uCons,upOk,noBl,List.all_cons,List.all_nil,Bool.and_true,aSortItems,aOrL,aOdict,fSortedD,fExtD,fMulS,fLtT,fNeT0,aUpper,aSortSetV,cRg3,onRg3,fEqX,fNeX,fSlX,fMin2,fInSign,fNotInSign,aJoin,aTabPar,gStill,gPush,wListG,aSortD,notB,aSortSetS,aTable,tSq,tStill,dOf,dSeq,dIf,dPut,wListD,aListItems,fInDT,fIxQS,fLenQS,fSortedLS,fLtS,fLeS,fEqT0,fInX,fSortedDT,aCallX,xRaise,aTry,aGiven,aPick,aNone,keepI,nIsTable,T_is_ascending,T_is_tuple,T_is_word]
        exact ⟨ys.map keyT, by rw [List.map_map]; exact fm_some _ ys, by rw [List.length_map]; exact hz, ht⟩
    | _ => simp only [isiB,aSeq,aIfS,aRet,aRetN,aSet,aDrop,aNext,aNever,aBreak,aCont,aUnp,aUnl,aPar,aAppend,aExtend,aAppendPop,aPopSet,aVar,aC,aTy,aFn,aOp,aCB,aCons,aNil,aTup,aLst,aB,aNot,aAnd,aOr,aAndV,aOrV,aNotV,aIf,aChain,aSl,aNoPart,aPart,aCall,aCallV,aYes,aNeg,aRevL,aRg1,aLstRg,asArgs,asArg,dataOf,listOf,viewOf,dataAll,onB,onP,onL,onT,onS,onZ2,aPut,parOk,parOk2,retR,rdA,stillR,fI0,fII,fEq,fNe,eqS,fIsiA,tyOf,fLen,fLenS,fInt1,fStrI,fMax2,fListOf,fTupOf,fAll,fAny,fIxT,fIxL,fIxQ,fIxS,fRep,fRepT,aRevA,fEqE,fNeE,fSlT,fSlL,fSlQ,fSlS,fCat,fCatT,fAddS,fIsN,fNotN,fNotB,fIsB,noneB,seqOf,fSorted,bName,bTup,bCons,bNil,onRg1,onRg2,cList,cTup,cStr,cRg1,cRg2,cEnum,cEnumT,cZipL,cZipT,cZipQ,wList,wTup,wStr,wRg1,wRg2,wEnum,wEnumT,wipeA,List.map,List.replicate,List.length_cons,List.length_nil,List.cons_append,List.nil_append,List.append_nil,List.getElem?_cons_zero,List.getElem?_cons_succ,List.set_cons_zero,List.set_cons_succ,List.set,Option.map_some,Option.map_none,Option.getD_some,Option.getD_none,reduceIte,Bool.false_eq_true,Bool.not_true,Bool.not_false,and_true,true_and,false_and,Nat.zero_le,ne_eq,not_false_eq_true,atI_0,atI_1,atI_2,atI_3,aDGet,aDGet1,aDGet2,aDIn,aListD,aStar,aDictOf,aSortSetL,aMaxT,aPar3,wKeys,cKeys,cVals,cItems,onO_some,keysOf_kv,valsOf_kv,itemsOf_kv,starItems_kv,dataAll_ds,dataAll_two,aUnpP,uNil,uCons,upOk,noBl,List.all_cons,List.all_nil,Bool.and_true,aSortItems,aOrL,aOdict,fSortedD,fExtD,fMulS,fLtT,fNeT0,aUpper,aSortSetV,cRg3,onRg3,fEqX,fNeX,fSlX,fMin2,fInSign,fNotInSign,aJoin,aTabPar,gStill,gPush,wListG,aSortD,notB,aSortSetS,aTable,tSq,tStill,dOf,dSeq,dIf,dPut,wListD,aListItems,fInDT,fIxQS,fLenQS,fSortedLS,fLtS,fLeS,fEqT0,fInX,fSortedDT,aCallX,xRaise,aTry,aGiven,aPick,aNone,keepI,nIsTable,T_is_ascending,T_is_tuple,T_is_word]; exact ht
theorem ok_IsTarget {f : Addr} {fd : FuncData} {fIsTable : Addr} {fdIsTable : FuncData} {fIsWord : Addr} {fdIsWord : FuncData} (Z : Blt K mg) (D : DefAt K mg "is_target" sIsTarget pIsTarget f fd) (DIsTable : DefAt K mg "is_table" sIsTable pIsTable fIsTable fdIsTable) (DIsWord : DefAt K mg "is_word" sIsWord pIsWord fIsWord fdIsWord) (GIsTable : FnOk P w K mg base CX0 2 fIsTable fdIsTable pIsTable (spA 2 K DK (T_is_table fIsWord))) : FnOk P w K mg base CX0 3 f fd pIsTarget (spA 1 K DK T_is_target) := by
  refine D.F.ok scIsTarget (fun vs H Q E h => h.len) (fun cdv A outer s0 H vs Q E hr h => ?_)
  have hu := hu_of hr
  refine ⟨_, (pss_one (ps_ret (pe_call GIsTable (hr.mono (by decide)) rfl DIsTable.g DIsTable.F.kp DIsTable.b .nil pass0 (pa_cons (pv 0) (pa_cons (pe_glob (v := .ref fIsWord) rfl DIsWord.g rfl) pa_nil))))), abs_fn (N := nIsTarget) (sa_ret (ea_call [.d, .f] (aa_cons (ea_var 0) (aa_cons (ea_fn _) aa_nil)))) h (fun as Φ hn ht => ?_)⟩
  match as, ht with
  | [.d x], ht =>
    obtain ⟨hb, ht⟩ := ht
    simp only [isiB,aSeq,aIfS,aRet,aRetN,aSet,aDrop,aNext,aNever,aBreak,aCont,aUnp,aUnl,aPar,aAppend,aExtend,aAppendPop,aPopSet,aVar,aC,aTy,aFn,aOp,aCB,aCons,aNil,aTup,aLst,aB,aNot,aAnd,aOr,aAndV,aOrV,aNotV,aIf,aChain,aSl,aNoPart,aPart,aCall,aCallV,aYes,aNeg,aRevL,aRg1,aLstRg,asArgs,asArg,dataOf,listOf,viewOf,dataAll,onB,onP,onL,onT,onS,onZ2,aPut,parOk,parOk2,retR,rdA,stillR,fI0,fII,fEq,fNe,eqS,fIsiA,tyOf,fLen,fLenS,fInt1,fStrI,fMax2,fListOf,fTupOf,fAll,fAny,fIxT,fIxL,fIxQ,fIxS,fRep,fRepT,aRevA,fEqE,fNeE,fSlT,fSlL,fSlQ,fSlS,fCat,fCatT,fAddS,fIsN,fNotN,fNotB,fIsB,noneB,seqOf,fSorted,bName,bTup,bCons,bNil,onRg1,onRg2,cList,cTup,cStr,cRg1,cRg2,cEnum,cEnumT,cZipL,cZipT,cZipQ,wList,wTup,wStr,wRg1,wRg2,wEnum,wEnumT,wipeA,List.map,List.replicate,List.length_cons,List.length_nil,List.cons_append,List.nil_append,List.append_nil,List.getElem?_cons_zero,List.getElem?_cons_succ,List.set_cons_zero,List.set_cons_succ,List.set,Option.map_some,Option.map_none,Option.getD_some,Option.getD_none,reduceIte,Bool.false_eq_true,Bool.not_true,Bool.not_false,and_true,true_and,false_and,Nat.zero_le,ne_eq,not_false_eq_true,atI_0,atI_1,atI_2,atI_3,aDGet,aDGet1,aDGet2,aDIn,aListD,aStar,aDictOf,aSortSetL,aMaxT,aPar3,wKeys,cKeys,cVals,cItems,onO_some,keysOf_kv,valsOf_kv,itemsOf_kv,starItems_kv,dataAll_ds,dataAll_two,aUnpP,uNil,uCons,upOk,noBl,List.all_cons,List.all_nil,Bool.and_true,aSortItems,aOrL,aOdict,fSortedD,fExtD,fMulS,fLtT,fNeT0,aUpper,aSortSetV,cRg3,onRg3,fEqX,fNeX,fSlX,fMin2,fInSign,fNotInSign,aJoin,aTabPar,gStill,gPush,wListG,aSortD,notB,aSortSetS,aTable,tSq,tStill,dOf,dSeq,dIf,dPut,wListD,aListItems,fInDT,fIxQS,fLenQS,fSortedLS,fLtS,fLeS,fEqT0,fInX,fSortedDT,aCallX,xRaise,aTry,aGiven,aPick,aNone,keepI,nIsTarget,T_is_table,T_is_word]
    exact ⟨hb, ht⟩
theorem okR_IsCondition {f : Addr} {fd : FuncData} {fIsTupleOf : Addr} {fdIsTupleOf : FuncData} {fIsWord : Addr} {fdIsWord : FuncData} (Z : Blt K mg) (D : DefAt K mg "is_condition" sIsCondition pIsCondition f fd) (DIsTupleOf : DefAt K mg "is_tuple_of" sIsTupleOf pIsTupleOf fIsTupleOf fdIsTupleOf) (DIsWord : DefAt K mg "is_word" sIsWord pIsWord fIsWord fdIsWord) (GIsTupleOfAtW : FnOk P w K mg base CX0 2 fIsTupleOf fdIsTupleOf pIsTupleOf (spA 2 K DK (T_tupF T_is_word fIsWord))) : ∀ k : Nat, FnOk P w K mg base CX0 (2 + 2 * k) f fd pIsCondition (spA 1 K DK (T_condK k)) := by
  intro k
  induction k with
  | zero => exact ⟨fun vs H Q E h => h.len, fun A outer s H args us vs Q E _ _ _ _ h => by obtain ⟨G, as, Φ, _, _, _, _, ht, _⟩ := h; exact ht.elim⟩
  | succ k GIsCondition =>
    have DIsCondition := D
    have GIsTupleOfAtC := ok_IsTupleOfAtC (nlv := 2 + 2 * k) (TT := T_condK k) Z DIsTupleOf DIsCondition GIsCondition
    refine D.F.ok scIsCondition (fun vs H Q E h => h.len) (fun cdv A outer s0 H vs Q E hr h => ?_)
    have hu := hu_of hr
    have hr0 := (show Room (2 + 2 * k + 1) _ from hr)
    have hr3 := hr0.mono (Nat.le_add_right 2 (2 * k + 1))
    refine ⟨_, (pss_cons (ps_if (PW.pt (pw_or (pt_not (pt_val (pe_callB call_isi (by rfl) Z.isinstance (by decide +kernel) (pa_cons (pv 0) (pa_cons (pe_bltn (v := .ty "tuple") (u := Value.type "tuple") (by rfl) Z.tuple (by decide +kernel) rfl) pa_nil))))) (pw_or1 (pt_cmpR (op_eqT0 hr.units0) (pv 0) (pe_tup pa_nil) (nomark _)))))
    (pss_one (ps_ret pe_bl))
    pss_nil)
    (pss_cons (ps_par (i := 1) (j := 2) (by rfl) scIsCondition.nd rfl rfl (by decide) rfl rfl (pa_cons (pe_ix ix_tup (pv 0) pe_int (fun _ _ => rfl)) (pa_cons (pe_slice sl_tupA (pv 0) (po_some pe_int) po_none) pa_nil)) (by rfl))
    (pss_cons (ps_if (pt_cmpR (op_eqX hr.units0) (pv 1) pe_str (nomark _))
    (pss_one (ps_ret (pe_cmpR (op_eqT0 hr.units0) (pv 2) (pe_tup pa_nil) (nomark _))))
    pss_nil)
    (pss_cons (ps_if (pt_cmpR (op_eqX hr.units0) (pv 1) pe_str (nomark _))
    (pss_one (ps_ret (pe_and (pe_cmpR op_eq (pe_callB call_len_seq (by rfl) Z.len (by decide +kernel) (pa_cons (pv 2) pa_nil)) pe_int (nomark _)) (pe_one (pe_call GIsTupleOfAtW (hr3.mono (by decide)) rfl DIsTupleOf.g DIsTupleOf.F.kp DIsTupleOf.b .nil pass0 (pa_cons (pv 2) (pa_cons (pe_glob (v := .ref fIsWord) rfl DIsWord.g rfl) pa_nil)))))))
    pss_nil)
    (pss_cons (ps_if (pt_cmpR (op_eqX hr.units0) (pv 1) pe_str (nomark _))
    (pss_one (ps_ret (pe_and (pe_cmpR op_eq (pe_callB call_len_seq (by rfl) Z.len (by decide +kernel) (pa_cons (pv 2) pa_nil)) pe_int (nomark _)) (pe_one (pe_call GIsCondition (hr0.mono (Nat.le_succ _)) rfl DIsCondition.g DIsCondition.F.kp DIsCondition.b .nil pass0 (pa_cons (pe_ix ix_tup (pv 2) pe_int (fun _ _ => rfl)) pa_nil))))))
    pss_nil)
    (pss_one (ps_ret (pe_and (pe_cmpR (op_inX (u65 hr)) (pv 1) (pe_tup (pa_cons pe_str (pa_cons pe_str pa_nil))) (by rfl)) (pe_and (pe_cmpR op_eq (pe_callB call_len_seq (by rfl) Z.len (by decide +kernel) (pa_cons (pv 2) pa_nil)) pe_int (nomark _)) (pe_one (pe_call GIsTupleOfAtC hr0 rfl DIsTupleOf.g DIsTupleOf.F.kp DIsTupleOf.b .nil pass0 (pa_cons (pv 2) (pa_cons (pe_glob (v := .ref f) rfl DIsCondition.g rfl) pa_nil))))))))))))), abs_fn (N := nIsCondition) (sa_seq (sa_if (ta_or (ta_not (ta_b (ea_cb cb_isi (aa_cons (ea_var 0) (aa_cons (ea_ty .tup) aa_nil))))) (ta_test (ea_op oa_eqT0 (ea_var 0) (ea_tup aa_nil)))) (sa_ret (ea_bl _)) sa_next) (sa_seq (sa_par (ea_op oa_ixT (ea_var 0) (ea_int _)) (ea_sl sa_slT (ea_var 0) (ao_some (ea_int _)) ao_none)) (sa_seq (sa_if (ta_test (ea_op oa_eqX (ea_var 1) (ea_str _))) (sa_ret (ea_op oa_eqT0 (ea_var 2) (ea_tup aa_nil))) sa_next) (sa_seq (sa_if (ta_test (ea_op oa_eqX (ea_var 1) (ea_str _))) (sa_ret (ea_and (ea_op oa_eq (ea_cb cb_len (aa_cons (ea_var 2) aa_nil)) (ea_int _)) (ea_call [.d, .f] (aa_cons (ea_var 2) (aa_cons (ea_fn _) aa_nil))))) sa_next) (sa_seq (sa_if (ta_test (ea_op oa_eqX (ea_var 1) (ea_str _))) (sa_ret (ea_and (ea_op oa_eq (ea_cb cb_len (aa_cons (ea_var 2) aa_nil)) (ea_int _)) (ea_call [.d] (aa_cons (ea_op oa_ixT (ea_var 2) (ea_int _)) aa_nil)))) sa_next) (sa_ret (ea_and (ea_op oa_inX (ea_var 1) (ea_tup (aa_cons (ea_str _) (aa_cons (ea_str _) aa_nil)))) (ea_and (ea_op oa_eq (ea_cb cb_len (aa_cons (ea_var 2) aa_nil)) (ea_int _)) (ea_call [.d, .f] (aa_cons (ea_var 2) (aa_cons (ea_fn _) aa_nil))))))))))) h (fun as Φ hn ht => ?_)⟩
    match as, ht with
    | [.d x], ht =>
      obtain ⟨hd, hb, hres⟩ := ht
      cases x with
      | tuple ys =>
        cases ys with
        | nil =>
          simp only [isiB,aSeq,aIfS,aRet,aRetN,aSet,aDrop,aNext,aNever,aBreak,aCont,aUnp,aUnl,aPar,aAppend,aExtend,aAppendPop,aPopSet,aVar,aC,aTy,aFn,aOp,aCB,aCons,aNil,aTup,aLst,aB,aNot,aAnd,aOr,aAndV,aOrV,aNotV,aIf,aChain,aSl,aNoPart,aPart,aCall,aCallV,aYes,aNeg,aRevL,aRg1,aLstRg,asArgs,asArg,dataOf,listOf,viewOf,dataAll,onB,onP,onL,onT,onS,onZ2,aPut,parOk,parOk2,retR,rdA,stillR,fI0,fII,fEq,fNe,eqS,fIsiA,tyOf,fLen,fLenS,fInt1,fStrI,fMax2,fListOf,fTupOf,fAll,fAny,fIxT,fIxL,fIxQ,fIxS,fRep,fRepT,aRevA,fEqE,fNeE,fSlT,fSlL,fSlQ,fSlS,fCat,fCatT,fAddS,fIsN,fNotN,fNotB,fIsB,noneB,seqOf,fSorted,bName,bTup,bCons,bNil,onRg1,onRg2,cList,cTup,cStr,cRg1,cRg2,cEnum,cEnumT,cZipL,cZipT,cZipQ,wList,wTup,wStr,wRg1,wRg2,wEnum,wEnumT,wipeA,List.map,List.replicate,List.length_cons,List.length_nil,List.cons_append,List.nil_append,List.append_nil,List.getElem?_cons_zero,List.getElem?_cons_succ,List.set_cons_zero,List.set_cons_succ,List.set,Option.map_some,Option.map_none,Option.getD_some,Option.getD_none,reduceIte,Bool.false_eq_true,Bool.not_true,Bool.not_false,and_true,true_and,false_and,Nat.zero_le,ne_eq,not_false_eq_true,atI_0,atI_1,atI_2,atI_3,aDGet,aDGet1,aDGet2,aDIn,aListD,aStar,aDictOf,aSortSetL,aMaxT,aPar3,wKeys,cKeys,cVals,cItems,onO_some,keysOf_kv,valsOf_kv,itemsOf_kv,starItems_kv,dataAll_ds,dataAll_two,aUnpP,uNil,uCons,upOk,noBl,List.all_cons,List.all_nil,Bool.and_true,aSortItems,aOrL,aOdict,fSortedD,fExtD,fMulS,fLtT,fNeT0,aUpper,aSortSetV,cRg3,onRg3,fEqX,fNeX,fSlX,fMin2,fInSign,fNotInSign,aJoin,aTabPar,gStill,gPush,wListG,aSortD,notB,aSortSetS,aTable,tSq,tStill,dOf,dSeq,dIf,dPut,wListD,aListItems,fInDT,fIxQS,fLenQS,fSortedLS,fLtS,fLeS,fEqT0,fInX,fSortedDT,aCallX,xRaise,aTry,aGiven,aPick,aNone,keepI,nIsCondition,T_tupF,T_is_word]
          rw [cond_nil] at hres
          exact hres
        | cons y r =>
          rw [cond_cons] at hres
          have hd : PyData.depthAll (y :: r) + 1 ≤ k := by
            have : (PyData.tuple (y :: r)).depth = PyData.depthAll (y :: r) + 1 := by simp only [PyData.depth]
            omega
          have hb : PyData.bulkAll (y :: r) ≤ 1000000 := hb
          have item : ∀ z ∈ r, z.depth + 1 ≤ k ∧ z.bulk + 1 ≤ 1000000 := fun z hz => by
            have h1 := depth_mem (List.mem_cons_of_mem y hz)
            have h2 := bulk_mem (List.mem_cons_of_mem y hz)
            omega
          have hz : r.length < sizeLine := by
            have := bulk_len (y :: r)
            rw [List.length_cons] at this
            exact Nat.lt_of_le_of_lt (show r.length ≤ 1000000 by omega) sizeBig
          obtain ⟨k, rfl⟩ : ∃ k', k = k' + 1 := ⟨k - 1, by omega⟩
          have fit : ∀ ys_1, PyData.tuple r = PyData.tuple ys_1 → ys_1.length < sizeLine ∧ ∀ y ∈ ys_1, ∀ Φ' : R → Prop, Φ' (R.d (PyData.bool (condD y))) → T_condK (k + 1) [AV.d y] Φ' := fun ys_1 e => by
            cases e
            exact ⟨hz, fun z hz2 Φ' h => ⟨by have := (item z hz2).1; omega, by have := (item z hz2).2; omega, h⟩⟩
          have fitw : ∀ ys_1, PyData.tuple r = PyData.tuple ys_1 → ys_1.length < sizeLine ∧ ∀ y ∈ ys_1, ∀ Φ' : R → Prop, Φ' (R.d (PyData.bool (wordD y))) → (∀ (s : Str), y = PyData.str s → s.length ≤ 1000000) ∧ Φ' (R.d (PyData.bool (wordD y))) := fun ys_1 e => by
            cases e
            refine ⟨hz, fun z hz2 Φ' h => ⟨fun s e => ?_, h⟩⟩
            have := (item z hz2).2
            subst e
            have b3 : (PyData.str s).bulk = s.length := rfl
            omega
          simp only [isiB,aSeq,aIfS,aRet,aRetN,aSet,aDrop,aNext,aNever,aBreak,aCont,aUnp,aUnl,aPar,aAppend,aExtend,aAppendPop,aPopSet,aVar,aC,aTy,aFn,aOp,aCB,aCons,aNil,aTup,aLst,aB,aNot,aAnd,aOr,aAndV,aOrV,aNotV,aIf,aChain,aSl,aNoPart,aPart,aCall,aCallV,aYes,aNeg,aRevL,aRg1,aLstRg,asArgs,asArg,dataOf,listOf,viewOf,dataAll,onB,onP,onL,onT,onS,onZ2,aPut,parOk,parOk2,retR,rdA,stillR,fI0,fII,fEq,fNe,eqS,fIsiA,tyOf,fLen,fLenS,fInt1,fStrI,fMax2,fListOf,fTupOf,fAll,fAny,fIxT,fIxL,fIxQ,fIxS,fRep,fRepT,aRevA,fEqE,fNeE,fSlT,fSlL,fSlQ,fSlS,fCat,fCatT,fAddS,fIsN,fNotN,fNotB,fIsB,noneB,seqOf,fSorted,bName,bTup,bCons,bNil,onRg1,onRg2,cList,cTup,cStr,cRg1,cRg2,cEnum,cEnumT,cZipL,cZipT,cZipQ,wList,wTup,wStr,wRg1,wRg2,wEnum,wEnumT,wipeA,List.map,List.replicate,List.length_cons,List.length_nil,List.cons_append,List.nil_append,List.append_nil,List.getElem?_cons_zero,List.getElem?_cons_succ,List.set_cons_zero,List.set_cons_succ,List.set,Option.map_some,Option.map_none,Option.getD_some,Option.getD_none,reduceIte,Bool.false_eq_true,Bool.not_true,Bool.not_false,and_true,true_and,false_and,Nat.zero_le,ne_eq,not_false_eq_true,atI_0,atI_1,atI_2,atI_3,aDGet,aDGet1,aDGet2,aDIn,aListD,aStar,aDictOf,aSortSetL,aMaxT,aPar3,wKeys,cKeys,cVals,cItems,onO_some,keysOf_kv,valsOf_kv,itemsOf_kv,starItems_kv,dataAll_ds,dataAll_two,aUnpP,uNil,uCons,upOk,noBl,List.all_cons,List.all_nil,Bool.and_true,aSortItems,aOrL,aOdict,fSortedD,fExtD,fMulS,fLtT,fNeT0,aUpper,aSortSetV,cRg3,onRg3,fEqX,fNeX,fSlX,fMin2,fInSign,fNotInSign,aJoin,aTabPar,gStill,gPush,wListG,aSortD,notB,aSortSetS,aTable,tSq,tStill,dOf,dSeq,dIf,dPut,wListD,aListItems,fInDT,fIxQS,fLenQS,fSortedLS,fLtS,fLeS,fEqT0,fInX,fSortedDT,aCallX,xRaise,aTry,aGiven,aPick,aNone,keepI,nIsCondition,T_tupF,T_is_word]
          have c1 : cutD (y :: r) (some 1) none = r := cut1 _
          rw [c1]
          refine ite2 (fun h => by cases h) (fun _ => ?_)
          refine ite2 (fun h => ?_) (fun h => ?_)
          · rw [if_pos h] at hres
            exact hres
          rw [if_neg h] at hres
          refine ite2 (fun h => ?_) (fun h => ?_)
          · rw [if_pos h] at hres
            refine ite2 (fun l => ⟨wordD, fitw, ?_⟩) (fun l => ?_)
            · rw [l, Bool.true_and] at hres
              exact hres
            · rw [Bool.eq_false_iff.mpr l, Bool.false_and] at hres
              exact hres
          rw [if_neg h] at hres
          refine ite2 (fun h => ?_) (fun h => ?_)
          · rw [if_pos h] at hres
            refine ite2 (fun l => ?_) (fun l => ?_)
            · rw [l, Bool.true_and] at hres
              match r, (show r.length = 1 by have := of_decide_eq_true l; omega) with
              | [a], _ =>
                have hres : Φ (.d (.bool (condD a && true))) := hres
                rw [Bool.and_true] at hres
                have := item a List.mem_cons_self
                exact ⟨by omega, by omega, hres⟩
            · rw [Bool.eq_false_iff.mpr l, Bool.false_and] at hres
              exact hres
          rw [if_neg h] at hres
          refine ⟨by decide, [Str.ofString "both", Str.ofString "either"], rfl, ite2 (fun h => ?_) (fun h => ?_)⟩
          · rw [h, Bool.true_and] at hres
            refine ite2 (fun l => ⟨condD, fit, ?_⟩) (fun l => ?_)
            · rw [l, Bool.true_and] at hres
              exact hres
            · rw [Bool.eq_false_iff.mpr l, Bool.false_and] at hres
              exact hres
          · rw [Bool.eq_false_iff.mpr h, Bool.false_and] at hres
            exact hres
      | _ => simp only [isiB,aSeq,aIfS,aRet,aRetN,aSet,aDrop,aNext,aNever,aBreak,aCont,aUnp,aUnl,aPar,aAppend,aExtend,aAppendPop,aPopSet,aVar,aC,aTy,aFn,aOp,aCB,aCons,aNil,aTup,aLst,aB,aNot,aAnd,aOr,aAndV,aOrV,aNotV,aIf,aChain,aSl,aNoPart,aPart,aCall,aCallV,aYes,aNeg,aRevL,aRg1,aLstRg,asArgs,asArg,dataOf,listOf,viewOf,dataAll,onB,onP,onL,onT,onS,onZ2,aPut,parOk,parOk2,retR,rdA,stillR,fI0,fII,fEq,fNe,eqS,fIsiA,tyOf,fLen,fLenS,fInt1,fStrI,fMax2,fListOf,fTupOf,fAll,fAny,fIxT,fIxL,fIxQ,fIxS,fRep,fRepT,aRevA,fEqE,fNeE,fSlT,fSlL,fSlQ,fSlS,fCat,fCatT,fAddS,fIsN,fNotN,fNotB,fIsB,noneB,seqOf,fSorted,bName,bTup,bCons,bNil,onRg1,onRg2,cList,cTup,cStr,cRg1,cRg2,cEnum,cEnumT,cZipL,cZipT,cZipQ,wList,wTup,wStr,wRg1,wRg2,wEnum,wEnumT,wipeA,List.map,List.replicate,List.length_cons,List.length_nil,List.cons_append,List.nil_append,List.append_nil,List.getElem?_cons_zero,List.getElem?_cons_succ,List.set_cons_zero,List.set_cons_succ,List.set,Option.map_some,Option.map_none,Option.getD_some,Option.getD_none,reduceIte,Bool.false_eq_true,Bool.not_true,Bool.not_false,and_true,true_and,false_and,Nat.zero_le,ne_eq,not_false_eq_true,atI_0,atI_1,atI_2,atI_3,aDGet,aDGet1,aDGet2,aDIn,aListD,aStar,aDictOf,aSortSetL,aMaxT,aPar3,wKeys,cKeys,cVals,cItems,onO_some,keysOf_kv,valsOf_kv,itemsOf_kv,starItems_kv,dataAll_ds,dataAll_two,aUnpP,uNil,uCons,upOk,noBl,List.all_cons,List.all_nil,Bool.and_true,aSortItems,aOrL,aOdict,fSortedD,fExtD,fMulS,fLtT,fNeT0,aUpper,aSortSetV,cRg3,onRg3,fEqX,fNeX,fSlX,fMin2,fInSign,fNotInSign,aJoin,aTabPar,gStill,gPush,wListG,aSortD,notB,aSortSetS,aTable,tSq,tStill,dOf,dSeq,dIf,dPut,wListD,aListItems,fInDT,fIxQS,fLenQS,fSortedLS,fLtS,fLeS,fEqT0,fInX,fSortedDT,aCallX,xRaise,aTry,aGiven,aPick,aNone,keepI,nIsCondition,T_tupF,T_is_word]; exact hres
theorem ok_IsCondition {f : Addr} {fd : FuncData} {fIsTupleOf : Addr} {fdIsTupleOf : FuncData} {fIsWord : Addr} {fdIsWord : FuncData} (Z : Blt K mg) (D : DefAt K mg "is_condition" sIsCondition pIsCondition f fd) (DIsTupleOf : DefAt K mg "is_tuple_of" sIsTupleOf pIsTupleOf fIsTupleOf fdIsTupleOf) (DIsWord : DefAt K mg "is_word" sIsWord pIsWord fIsWord fdIsWord) (GIsTupleOfAtW : FnOk P w K mg base CX0 2 fIsTupleOf fdIsTupleOf pIsTupleOf (spA 2 K DK (T_tupF T_is_word fIsWord))) : FnOk P w K mg base CX0 62 f fd pIsCondition (spA 1 K DK (T_condK 30)) := okR_IsCondition Z D DIsTupleOf DIsWord GIsTupleOfAtW 30
end


/-- a short text -/
structure Wd (s : Str) : Prop where
  l : s.cps.size ≤ 11
  o : ∀ c ∈ s.cps.toList, c < 1114112
theorem Wd.c {s : Str} (h : Wd s) : (s.cps.toList.all fun c => decide (c < 16 ^ 8)) = true := List.all_eq_true.mpr fun c hc => decide_eq_true (Nat.lt_trans (h.o c hc) (by decide))
theorem Wd.rw {s : Str} (h : Wd s) : Rw (.str s) 0 11 := rw_strZ h.c h.l
def capC : Nat → Nat
  | 0 => 40
  | m + 1 => 10 + 2 * capC m
def Cw (m : Nat) (x : PyData) : Prop := Rb 0 x (m + 1) (capC m)
def encPT (p : Str × Str) : PyData := .tuple [.str p.1, .str p.2]
theorem lc_bind {A : ASt → (List PyData → Prop) → Prop} {B : PyData → ASt → (ASt → Prop) → Prop} {Tt : AT} {Te : AE} {vs : List Nat} {ρ : ASt} {Φ : R → Prop} (h : A ρ fun items => aLc (fun _ k => k items) B Tt Te vs ρ Φ) : aLc A B Tt Te vs ρ Φ := h
theorem glue0 : ∀ (cs : List Nat) (acc : Array Nat), (List.foldl (fun (acc : Array Nat) (p : Str) => acc ++ (Str.ofString "").cps ++ p.cps) acc (cs.map fun c => (⟨#[c]⟩ : Str))).toList = acc.toList ++ cs
  | [], acc => by simp
  | c :: cs, acc => by
    rw [List.map_cons, List.foldl_cons, glue0 cs]
    have e : (Str.ofString "").cps = #[] := by decide +kernel
    rw [e]
    simp
theorem join_sgn (cs : List Nat) : (Txt.join (Str.ofString "") (cs.map fun c => (⟨#[c]⟩ : Str))).cps.toList = cs := by
  cases cs with
  | nil => decide +kernel
  | cons c cs =>
    show (List.foldl (fun (acc : Array Nat) (p : Str) => acc ++ (Str.ofString "").cps ++ p.cps) #[c] (cs.map fun c => (⟨#[c]⟩ : Str))).toList = _
    rw [glue0 cs]
    rfl
def ABC : List Nat := (Str.ofString "abcdefghijklmnopqrstuvwxyz").cps.toList
theorem capC_ge : ∀ d, 40 ≤ capC d
  | 0 => Nat.le_refl _
  | d + 1 => by have := capC_ge d; show 40 ≤ 10 + 2 * capC d; omega
theorem is_cw {a b : Str} (ha : Wd a) (hb : Wd b) (d : Nat) : Cw d (.tuple [.str (Str.ofString "is"), .str a, .str b]) := by
  have c := capC_ge d
  have wi : Wd (Str.ofString "is") := ⟨by decide +kernel, by decide +kernel⟩
  refine ⟨(Rw.tup (k := 0) (n := 11) (m := 40) (fun x hx => ?_) (by show 3 * 12 ≤ 40; decide)).mono (by omega) c, Iw.tup fun x hx => ?_⟩
  · simp only [List.mem_cons, List.not_mem_nil, or_false] at hx
    rcases hx with rfl | rfl | rfl
    · exact wi.rw
    · exact ha.rw
    · exact hb.rw
  · simp only [List.mem_cons, List.not_mem_nil, or_false] at hx
    rcases hx with rfl | rfl | rfl <;> exact iw_str _
theorem always_cw (d : Nat) : Cw d (.tuple [.str (Str.ofString "always")]) := by
  have c := capC_ge d
  have wi : Wd (Str.ofString "always") := ⟨by decide +kernel, by decide +kernel⟩
  refine ⟨(Rw.tup (k := 0) (n := 11) (m := 40) (fun x hx => ?_) (by show 1 * 12 ≤ 40; decide)).mono (by omega) c, Iw.tup fun x hx => ?_⟩
  · rw [List.mem_singleton.mp hx]; exact wi.rw
  · rw [List.mem_singleton.mp hx]; exact iw_str _
theorem not_cw {s : Str} (hs : s.cps.size ≤ 6 ∧ (s.cps.toList.all fun c => decide (c < 16 ^ 8)) = true) {d : Nat} {x : PyData} (h : Cw d x) : Cw (d + 1) (.tuple [.str s, x]) := by
  have ws : Rw (.str s) 0 6 := rw_strZ hs.2 hs.1
  have hx := h.r.b
  refine ⟨Rw.tupB (k := d + 1) (n := capC d) (fun y hy => ?_) ?_, Iw.tup fun y hy => ?_⟩
  · simp only [List.mem_cons, List.not_mem_nil, or_false] at hy
    rcases hy with rfl | rfl
    · exact ws.mono (by omega) (by have := capC_ge d; omega)
    · exact h.r
  · have := ws.b
    simp only [PyData.bulkAll]
    show _ ≤ 10 + 2 * capC d
    omega
  · simp only [List.mem_cons, List.not_mem_nil, or_false] at hy
    rcases hy with rfl | rfl
    · exact iw_str _
    · exact h.i
theorem both_cw {s : Str} (hs : s.cps.size ≤ 6 ∧ (s.cps.toList.all fun c => decide (c < 16 ^ 8)) = true) {d : Nat} {x z : PyData} (h : Cw d x) (g : Cw d z) : Cw (d + 1) (.tuple [.str s, x, z]) := by
  have ws : Rw (.str s) 0 6 := rw_strZ hs.2 hs.1
  have hx := h.r.b
  have gx := g.r.b
  refine ⟨Rw.tupB (k := d + 1) (n := capC d) (fun y hy => ?_) ?_, Iw.tup fun y hy => ?_⟩
  · simp only [List.mem_cons, List.not_mem_nil, or_false] at hy
    rcases hy with rfl | rfl | rfl
    · exact ws.mono (by omega) (by have := capC_ge d; omega)
    · exact h.r
    · exact g.r
  · have := ws.b
    simp only [PyData.bulkAll]
    show _ ≤ 10 + 2 * capC d
    omega
  · simp only [List.mem_cons, List.not_mem_nil, or_false] at hy
    rcases hy with rfl | rfl | rfl
    · exact iw_str _
    · exact h.i
    · exact g.i
theorem sh_str {s : Str} (h : Wd s) : Sh 0 (.str s) := ⟨by
  show PyData.strOk s = true
  unfold PyData.strOk
  rw [← Array.all_toList]
  exact List.all_eq_true.mpr fun c hc => decide_eq_true (h.o c hc), Nat.le_refl _⟩
theorem sum_sgn : ∀ cs : List Nat, ((cs.map fun c => (⟨#[c]⟩ : Str)).map fun x => x.length).sum = cs.length
  | [] => rfl
  | c :: cs => by
    rw [List.map_cons, List.map_cons, List.sum_cons, sum_sgn cs, List.length_cons]
    show 1 + cs.length = _
    omega
section
variable {P : Program} {w : World} {K : PySem.W.Frag} {mg : Str → Option Value} {base : Heap}
end


abbrev sLAnyWord : Stmt := top 22
abbrev nLAnyWord : List Str := ["_law_deck", "_law_size", "_law_place"]
abbrev pLAnyWord : List Str := ["_law_deck"]
theorem scLAnyWord : FnScope nLAnyWord pLAnyWord (defScope sLAnyWord) := ⟨rfl, rfl, rfl, by decide +kernel, rfl, by decide +kernel, by decide +kernel⟩
abbrev sLSomeWords : Stmt := top 23
abbrev nLSomeWords : List Str := ["_law_deck", "_law_many", "_law_turn"]
abbrev pLSomeWords : List Str := ["_law_deck", "_law_many"]
theorem scLSomeWords : FnScope nLSomeWords pLSomeWords (defScope sLSomeWords) := ⟨rfl, rfl, rfl, by decide +kernel, rfl, by decide +kernel, by decide +kernel⟩
def T_law_any_word : FnT
  | [.dk], Φ => ∀ s, wordS s = true → Φ (.d (.str s))
  | _, _ => False
def T_law_some_words : FnT
  | [.dk, .d (.int n)], Φ => (0 ≤ n ∧ n ≤ 100) ∧ ∀ ss : List Str, ss.Nodup → ss.Pairwise leS → (∀ s ∈ ss, wordS s = true) → (ss.length : Int) ≤ n → Φ (.l (ss.map PyData.str))
  | _, _ => False
theorem abc_low : ∀ c ∈ ABC, (decide (97 ≤ c) && decide (c ≤ 122)) = true := by decide +kernel
theorem word_signs {cs : List Nat} {s : Str} (e : s.cps.toList = cs) (l1 : 1 ≤ cs.length) (l : cs.length ≤ 10) (h : ∀ c ∈ cs, (decide (97 ≤ c) && decide (c ≤ 122)) = true) : wordS s = true := by
  have hl : s.length = cs.length := by
    show s.cps.size = _
    rw [← e]; simp
  unfold wordS
  rw [hl, e, decide_eq_true (show (1 : Int) ≤ cs.length by omega), decide_eq_true (show (cs.length : Int) ≤ 10 by omega)]
  exact List.all_eq_true.mpr h
section
variable {P : Program} {w : World} {K : PySem.W.Frag} {mg : Str → Option Value} {base : Heap}
theorem ok_LAnyWord {f : Addr} {fd : FuncData} {fLDraw : Addr} {fdLDraw : FuncData} {fLPick : Addr} {fdLPick : FuncData} (Z : Blt K mg) (D : DefAt K mg "_law_any_word" sLAnyWord pLAnyWord f fd) (DLDraw : DefAt K mg "_law_draw" sLDraw pLDraw fLDraw fdLDraw) (DLPick : DefAt K mg "_law_pick" sLPick pLPick fLPick fdLPick) (GLDraw : FnOk P w K mg base CX0 1 fLDraw fdLDraw pLDraw (spA 2 K DK T_draw)) (GLPick : FnOk P w K mg base CX0 2 fLPick fdLPick pLPick (spA 2 K DK T_law_pick)) : FnOk P w K mg base CX0 3 f fd pLAnyWord (spA 1 K DK T_law_any_word) := by
  refine D.F.ok scLAnyWord (fun vs H Q E h => h.len) (fun cdv A outer s0 H vs Q E hr h => ?_)
  have hu := hu_of hr
  refine ⟨_, (pss_cons (ps_if (pt_cmpR op_gt (pe_call GLDraw (hr.mono (by decide)) rfl DLDraw.g DLDraw.F.kp DLDraw.b .nil pass0 (pa_cons (pv 0) (pa_cons pe_int pa_nil))) pe_int (nomark _))
    (pss_one (ps_ret (pe_call GLPick (hr.mono (by decide)) rfl DLPick.g DLPick.F.kp DLPick.b .nil pass0 (pa_cons (pv 0) (pa_cons (pe_lst (pa_cons pe_str (pa_cons pe_str (pa_cons pe_str (pa_cons pe_str (pa_cons pe_str (pa_cons pe_str (pa_cons pe_str (pa_cons pe_str (pa_cons pe_str (pa_cons pe_str (pa_cons pe_str (pa_cons pe_str pa_nil))))))))))))) pa_nil)))))
    pss_nil)
    (pss_cons (ps_set (i := 1) scLAnyWord.nd rfl (Or.inl rfl) (pe_call GLPick (hr.mono (by decide)) rfl DLPick.g DLPick.F.kp DLPick.b .nil pass0 (pa_cons (pv 0) (pa_cons (pe_lst (pa_cons pe_int (pa_cons pe_int (pa_cons pe_int (pa_cons pe_int (pa_cons pe_int (pa_cons pe_int pa_nil))))))) pa_nil))))
    (pss_one (ps_ret (pe_bm PySem.F.plainAttrs_str PySem.F.slot_str_join PySem.F.type_str_join mt_join pe_str (pa_cons (pe_lc (own := [("_law_place", 2)]) (g := gName 2) (tt := tYes) rfl scLAnyWord.nd (pi_range1 (by rfl) Z.range (pa_cons (pv 1) pa_nil)) (blkOk_by (own := [("_law_place", 2)]) (N := nLAnyWord) (sc := defScope sLAnyWord) (by decide +kernel)) (fun _ _ _ _ _ => (pg_name (i := 2) scLAnyWord.nd rfl (Or.inl rfl))) (fun _ _ _ _ _ => pts_nil) (fun _ _ _ _ _ => (pe_call GLPick (hr.mono (by decide)) rfl DLPick.g DLPick.F.kp DLPick.b .nil pass0 (pa_cons (pv 0) (pa_cons pe_str pa_nil))))) pa_nil)))))), abs_fn (N := nLAnyWord) (sa_seq (sa_if (ta_test (ea_op oa_gt (ea_call [.k, .d] (aa_cons (ea_var 0) (aa_cons (ea_int _) aa_nil))) (ea_int _))) (sa_ret (ea_call [.k, .s] (aa_cons (ea_var 0) (aa_cons (ea_lst (aa_cons (ea_str _) (aa_cons (ea_str _) (aa_cons (ea_str _) (aa_cons (ea_str _) (aa_cons (ea_str _) (aa_cons (ea_str _) (aa_cons (ea_str _) (aa_cons (ea_str _) (aa_cons (ea_str _) (aa_cons (ea_str _) (aa_cons (ea_str _) (aa_cons (ea_str _) aa_nil))))))))))))) aa_nil)))) sa_next) (sa_seq (sa_set (ea_call [.k, .s] (aa_cons (ea_var 0) (aa_cons (ea_lst (aa_cons (ea_int _) (aa_cons (ea_int _) (aa_cons (ea_int _) (aa_cons (ea_int _) (aa_cons (ea_int _) (aa_cons (ea_int _) aa_nil))))))) aa_nil)))) (sa_ret (ea_join (ea_str _) (ea_lc (ic_rg1 (aa_cons (ea_var 1) aa_nil)) (gd_name 2) ta_yes (ea_call [.k, .s] (aa_cons (ea_var 0) (aa_cons (ea_str _) aa_nil)))))))) h (fun as Φ hn ht => ?_)⟩
  match as, ht with
  | [.dk], ht =>
    have big : ∀ m : Nat, m ≤ 1000 → m ≤ sizeLine := fun m h => Nat.le_of_lt (Nat.lt_trans (show m < 1000000 by omega) sizeBig)
    refine seq_hide fun Kc kc => ?_
    simp only [isiB,aSeq,aIfS,aRet,aRetN,aSet,aDrop,aNext,aNever,aBreak,aCont,aUnp,aUnl,aPar,aAppend,aExtend,aAppendPop,aPopSet,aVar,aC,aTy,aFn,aOp,aCB,aCons,aNil,aTup,aLst,aB,aNot,aAnd,aOr,aAndV,aOrV,aNotV,aIf,aChain,aSl,aNoPart,aPart,aCall,aCallV,aYes,aNeg,aRevL,aRg1,aLstRg,asArgs,asArg,dataOf,listOf,viewOf,dataAll,onB,onP,onL,onT,onS,onZ2,aPut,parOk,parOk2,retR,rdA,stillR,fI0,fII,fEq,fNe,eqS,fIsiA,tyOf,fLen,fLenS,fInt1,fStrI,fMax2,fListOf,fTupOf,fAll,fAny,fIxT,fIxL,fIxQ,fIxS,fRep,fRepT,aRevA,fEqE,fNeE,fSlT,fSlL,fSlQ,fSlS,fCat,fCatT,fAddS,fIsN,fNotN,fNotB,fIsB,noneB,seqOf,fSorted,bName,bTup,bCons,bNil,onRg1,onRg2,cList,cTup,cStr,cRg1,cRg2,cEnum,cEnumT,cZipL,cZipT,cZipQ,wList,wTup,wStr,wRg1,wRg2,wEnum,wEnumT,wipeA,List.map,List.replicate,List.length_cons,List.length_nil,List.cons_append,List.nil_append,List.append_nil,List.getElem?_cons_zero,List.getElem?_cons_succ,List.set_cons_zero,List.set_cons_succ,List.set,Option.map_some,Option.map_none,Option.getD_some,Option.getD_none,reduceIte,Bool.false_eq_true,Bool.not_true,Bool.not_false,and_true,true_and,false_and,Nat.zero_le,ne_eq,not_false_eq_true,atI_0,atI_1,atI_2,atI_3,aDGet,aDGet1,aDGet2,aDIn,aListD,aStar,aDictOf,aSortSetL,aMaxT,aPar3,wKeys,cKeys,cVals,cItems,onO_some,keysOf_kv,valsOf_kv,itemsOf_kv,starItems_kv,dataAll_ds,dataAll_two,aUnpP,uNil,uCons,upOk,noBl,List.all_cons,List.all_nil,Bool.and_true,aSortItems,aOrL,aOdict,fSortedD,fExtD,fMulS,fLtT,fNeT0,aUpper,aSortSetV,cRg3,onRg3,fEqX,fNeX,fSlX,fMin2,fInSign,fNotInSign,aJoin,aTabPar,gStill,gPush,wListG,aSortD,notB,aSortSetS,aTable,tSq,tStill,dOf,dSeq,dIf,dPut,wListD,aListItems,fInDT,fIxQS,fLenQS,fSortedLS,fLtS,fLeS,fEqT0,fInX,fSortedDT,aCallX,xRaise,aTry,aGiven,aPick,aNone,keepI,nLAnyWord,T_draw,T_law_pick]
    refine ⟨⟨by decide, by decide⟩, fun r _ _ => ite2 (fun _ => ⟨by decide, ⟨by decide, by decide⟩, fun x hx => ?_⟩) (fun _ => kc _ ?_)⟩
    · simp only [List.mem_cons, List.not_mem_nil, or_false] at hx
      rcases hx with rfl | rfl | rfl | rfl | rfl | rfl | rfl | rfl | rfl | rfl | rfl | rfl
      all_goals exact ht _ (by decide +kernel)
    clear kc Kc
    refine seq_hide fun Kc kc => ?_
    simp only [isiB,aSeq,aIfS,aRet,aRetN,aSet,aDrop,aNext,aNever,aBreak,aCont,aUnp,aUnl,aPar,aAppend,aExtend,aAppendPop,aPopSet,aVar,aC,aTy,aFn,aOp,aCB,aCons,aNil,aTup,aLst,aB,aNot,aAnd,aOr,aAndV,aOrV,aNotV,aIf,aChain,aSl,aNoPart,aPart,aCall,aCallV,aYes,aNeg,aRevL,aRg1,aLstRg,asArgs,asArg,dataOf,listOf,viewOf,dataAll,onB,onP,onL,onT,onS,onZ2,aPut,parOk,parOk2,retR,rdA,stillR,fI0,fII,fEq,fNe,eqS,fIsiA,tyOf,fLen,fLenS,fInt1,fStrI,fMax2,fListOf,fTupOf,fAll,fAny,fIxT,fIxL,fIxQ,fIxS,fRep,fRepT,aRevA,fEqE,fNeE,fSlT,fSlL,fSlQ,fSlS,fCat,fCatT,fAddS,fIsN,fNotN,fNotB,fIsB,noneB,seqOf,fSorted,bName,bTup,bCons,bNil,onRg1,onRg2,cList,cTup,cStr,cRg1,cRg2,cEnum,cEnumT,cZipL,cZipT,cZipQ,wList,wTup,wStr,wRg1,wRg2,wEnum,wEnumT,wipeA,List.map,List.replicate,List.length_cons,List.length_nil,List.cons_append,List.nil_append,List.append_nil,List.getElem?_cons_zero,List.getElem?_cons_succ,List.set_cons_zero,List.set_cons_succ,List.set,Option.map_some,Option.map_none,Option.getD_some,Option.getD_none,reduceIte,Bool.false_eq_true,Bool.not_true,Bool.not_false,and_true,true_and,false_and,Nat.zero_le,ne_eq,not_false_eq_true,atI_0,atI_1,atI_2,atI_3,aDGet,aDGet1,aDGet2,aDIn,aListD,aStar,aDictOf,aSortSetL,aMaxT,aPar3,wKeys,cKeys,cVals,cItems,onO_some,keysOf_kv,valsOf_kv,itemsOf_kv,starItems_kv,dataAll_ds,dataAll_two,aUnpP,uNil,uCons,upOk,noBl,List.all_cons,List.all_nil,Bool.and_true,aSortItems,aOrL,aOdict,fSortedD,fExtD,fMulS,fLtT,fNeT0,aUpper,aSortSetV,cRg3,onRg3,fEqX,fNeX,fSlX,fMin2,fInSign,fNotInSign,aJoin,aTabPar,gStill,gPush,wListG,aSortD,notB,aSortSetS,aTable,tSq,tStill,dOf,dSeq,dIf,dPut,wListD,aListItems,fInDT,fIxQS,fLenQS,fSortedLS,fLtS,fLeS,fEqT0,fInX,fSortedDT,aCallX,xRaise,aTry,aGiven,aPick,aNone,keepI,nLAnyWord,T_draw,T_law_pick]
    refine ⟨by decide, ⟨by decide, by decide⟩, fun x hx => ?_⟩
    obtain ⟨r2, rfl, q0, q1⟩ : ∃ r : Int, x = .int r ∧ 1 ≤ r ∧ r ≤ 10 := by
      simp only [List.mem_cons, List.not_mem_nil, or_false] at hx
      rcases hx with rfl | rfl | rfl | rfl | rfl | rfl
      all_goals exact ⟨_, rfl, by decide, by decide⟩
    clear hx
    refine kc _ ?_
    clear kc Kc
    simp only [isiB,aSeq,aIfS,aRet,aRetN,aSet,aDrop,aNext,aNever,aBreak,aCont,aUnp,aUnl,aPar,aAppend,aExtend,aAppendPop,aPopSet,aVar,aC,aTy,aFn,aOp,aCB,aCons,aNil,aTup,aLst,aB,aNot,aAnd,aOr,aAndV,aOrV,aNotV,aIf,aChain,aSl,aNoPart,aPart,aCall,aCallV,aYes,aNeg,aRevL,aRg1,aLstRg,asArgs,asArg,dataOf,listOf,viewOf,dataAll,onB,onP,onL,onT,onS,onZ2,aPut,parOk,parOk2,retR,rdA,stillR,fI0,fII,fEq,fNe,eqS,fIsiA,tyOf,fLen,fLenS,fInt1,fStrI,fMax2,fListOf,fTupOf,fAll,fAny,fIxT,fIxL,fIxQ,fIxS,fRep,fRepT,aRevA,fEqE,fNeE,fSlT,fSlL,fSlQ,fSlS,fCat,fCatT,fAddS,fIsN,fNotN,fNotB,fIsB,noneB,seqOf,fSorted,bName,bTup,bCons,bNil,onRg1,onRg2,cList,cTup,cStr,cRg1,cRg2,cEnum,cEnumT,cZipL,cZipT,cZipQ,wList,wTup,wStr,wRg1,wRg2,wEnum,wEnumT,wipeA,List.map,List.replicate,List.length_cons,List.length_nil,List.cons_append,List.nil_append,List.append_nil,List.getElem?_cons_zero,List.getElem?_cons_succ,List.set_cons_zero,List.set_cons_succ,List.set,Option.map_some,Option.map_none,Option.getD_some,Option.getD_none,reduceIte,Bool.false_eq_true,Bool.not_true,Bool.not_false,and_true,true_and,false_and,Nat.zero_le,ne_eq,not_false_eq_true,atI_0,atI_1,atI_2,atI_3,aDGet,aDGet1,aDGet2,aDIn,aListD,aStar,aDictOf,aSortSetL,aMaxT,aPar3,wKeys,cKeys,cVals,cItems,onO_some,keysOf_kv,valsOf_kv,itemsOf_kv,starItems_kv,dataAll_ds,dataAll_two,aUnpP,uNil,uCons,upOk,noBl,List.all_cons,List.all_nil,Bool.and_true,aSortItems,aOrL,aOdict,fSortedD,fExtD,fMulS,fLtT,fNeT0,aUpper,aSortSetV,cRg3,onRg3,fEqX,fNeX,fSlX,fMin2,fInSign,fNotInSign,aJoin,aTabPar,gStill,gPush,wListG,aSortD,notB,aSortSetS,aTable,tSq,tStill,dOf,dSeq,dIf,dPut,wListD,aListItems,fInDT,fIxQS,fLenQS,fSortedLS,fLtS,fLeS,fEqT0,fInX,fSortedDT,aCallX,xRaise,aTry,aGiven,aPick,aNone,keepI,nLAnyWord,T_draw,T_law_pick]
    refine ⟨_, rfl, ?_⟩
    refine lc_bind ?_
    simp only [isiB,aSeq,aIfS,aRet,aRetN,aSet,aDrop,aNext,aNever,aBreak,aCont,aUnp,aUnl,aPar,aAppend,aExtend,aAppendPop,aPopSet,aVar,aC,aTy,aFn,aOp,aCB,aCons,aNil,aTup,aLst,aB,aNot,aAnd,aOr,aAndV,aOrV,aNotV,aIf,aChain,aSl,aNoPart,aPart,aCall,aCallV,aYes,aNeg,aRevL,aRg1,aLstRg,asArgs,asArg,dataOf,listOf,viewOf,dataAll,onB,onP,onL,onT,onS,onZ2,aPut,parOk,parOk2,retR,rdA,stillR,fI0,fII,fEq,fNe,eqS,fIsiA,tyOf,fLen,fLenS,fInt1,fStrI,fMax2,fListOf,fTupOf,fAll,fAny,fIxT,fIxL,fIxQ,fIxS,fRep,fRepT,aRevA,fEqE,fNeE,fSlT,fSlL,fSlQ,fSlS,fCat,fCatT,fAddS,fIsN,fNotN,fNotB,fIsB,noneB,seqOf,fSorted,bName,bTup,bCons,bNil,onRg1,onRg2,cList,cTup,cStr,cRg1,cRg2,cEnum,cEnumT,cZipL,cZipT,cZipQ,wList,wTup,wStr,wRg1,wRg2,wEnum,wEnumT,wipeA,List.map,List.replicate,List.length_cons,List.length_nil,List.cons_append,List.nil_append,List.append_nil,List.getElem?_cons_zero,List.getElem?_cons_succ,List.set_cons_zero,List.set_cons_succ,List.set,Option.map_some,Option.map_none,Option.getD_some,Option.getD_none,reduceIte,Bool.false_eq_true,Bool.not_true,Bool.not_false,and_true,true_and,false_and,Nat.zero_le,ne_eq,not_false_eq_true,atI_0,atI_1,atI_2,atI_3,aDGet,aDGet1,aDGet2,aDIn,aListD,aStar,aDictOf,aSortSetL,aMaxT,aPar3,wKeys,cKeys,cVals,cItems,onO_some,keysOf_kv,valsOf_kv,itemsOf_kv,starItems_kv,dataAll_ds,dataAll_two,aUnpP,uNil,uCons,upOk,noBl,List.all_cons,List.all_nil,Bool.and_true,aSortItems,aOrL,aOdict,fSortedD,fExtD,fMulS,fLtT,fNeT0,aUpper,aSortSetV,cRg3,onRg3,fEqX,fNeX,fSlX,fMin2,fInSign,fNotInSign,aJoin,aTabPar,gStill,gPush,wListG,aSortD,notB,aSortSetS,aTable,tSq,tStill,dOf,dSeq,dIf,dPut,wListD,aListItems,fInDT,fIxQS,fLenQS,fSortedLS,fLtS,fLeS,fEqT0,fInX,fSortedDT,aCallX,xRaise,aTry,aGiven,aPick,aNone,keepI,nLAnyWord,T_draw,T_law_pick]
    refine ⟨⟨by omega, by omega⟩, ?_⟩
    refine lc_inv (rangeD 0 r2.toNat) (fun Ψ h => h) rfl (fun i acc => ∃ cs : List Nat, acc = cs.map (fun c => PyData.str ⟨#[c]⟩) ∧ cs.length = i ∧ ∀ c ∈ cs, (decide (97 ≤ c) && decide (c ≤ 122)) = true) ⟨[], rfl, rfl, fun _ z => nomatch z⟩ ?_ ?_
    · rintro i x acc hx ⟨cs, rfl, l1, l2⟩
      have hi := (List.getElem?_eq_some_iff.mp hx).1
      rw [rangeD_len] at hi
      simp only [isiB,aSeq,aIfS,aRet,aRetN,aSet,aDrop,aNext,aNever,aBreak,aCont,aUnp,aUnl,aPar,aAppend,aExtend,aAppendPop,aPopSet,aVar,aC,aTy,aFn,aOp,aCB,aCons,aNil,aTup,aLst,aB,aNot,aAnd,aOr,aAndV,aOrV,aNotV,aIf,aChain,aSl,aNoPart,aPart,aCall,aCallV,aYes,aNeg,aRevL,aRg1,aLstRg,asArgs,asArg,dataOf,listOf,viewOf,dataAll,onB,onP,onL,onT,onS,onZ2,aPut,parOk,parOk2,retR,rdA,stillR,fI0,fII,fEq,fNe,eqS,fIsiA,tyOf,fLen,fLenS,fInt1,fStrI,fMax2,fListOf,fTupOf,fAll,fAny,fIxT,fIxL,fIxQ,fIxS,fRep,fRepT,aRevA,fEqE,fNeE,fSlT,fSlL,fSlQ,fSlS,fCat,fCatT,fAddS,fIsN,fNotN,fNotB,fIsB,noneB,seqOf,fSorted,bName,bTup,bCons,bNil,onRg1,onRg2,cList,cTup,cStr,cRg1,cRg2,cEnum,cEnumT,cZipL,cZipT,cZipQ,wList,wTup,wStr,wRg1,wRg2,wEnum,wEnumT,wipeA,List.map,List.replicate,List.length_cons,List.length_nil,List.cons_append,List.nil_append,List.append_nil,List.getElem?_cons_zero,List.getElem?_cons_succ,List.set_cons_zero,List.set_cons_succ,List.set,Option.map_some,Option.map_none,Option.getD_some,Option.getD_none,reduceIte,Bool.false_eq_true,Bool.not_true,Bool.not_false,and_true,true_and,false_and,Nat.zero_le,ne_eq,not_false_eq_true,atI_0,atI_1,atI_2,atI_3,aDGet,aDGet1,aDGet2,aDIn,aListD,aStar,aDictOf,aSortSetL,aMaxT,aPar3,wKeys,cKeys,cVals,cItems,onO_some,keysOf_kv,valsOf_kv,itemsOf_kv,starItems_kv,dataAll_ds,dataAll_two,aUnpP,uNil,uCons,upOk,noBl,List.all_cons,List.all_nil,Bool.and_true,aSortItems,aOrL,aOdict,fSortedD,fExtD,fMulS,fLtT,fNeT0,aUpper,aSortSetV,cRg3,onRg3,fEqX,fNeX,fSlX,fMin2,fInSign,fNotInSign,aJoin,aTabPar,gStill,gPush,wListG,aSortD,notB,aSortSetS,aTable,tSq,tStill,dOf,dSeq,dIf,dPut,wListD,aListItems,fInDT,fIxQS,fLenQS,fSortedLS,fLtS,fLeS,fEqT0,fInX,fSortedDT,aCallX,xRaise,aTry,aGiven,aPick,aNone,keepI,nLAnyWord,T_draw,T_law_pick]
      refine ⟨⟨by rw [show (Str.ofString "abcdefghijklmnopqrstuvwxyz").length = 26 by decide +kernel]; decide, by rw [show (Str.ofString "abcdefghijklmnopqrstuvwxyz").length = 26 by decide +kernel]; decide⟩, fun c hc => ⟨_, rfl, by rw [List.length_map]; exact Nat.lt_trans (show cs.length < 1000000 by omega) sizeBig, cs ++ [c], by rw [List.map_append]; rfl, by rw [List.length_append, l1]; rfl, fun z hz => ?_⟩⟩
      rcases List.mem_append.mp hz with h | h
      · exact l2 z h
      · rw [List.mem_singleton.mp h]; exact abc_low c hc
    · rintro acc ⟨cs, rfl, l1, l2⟩
      rw [rangeD_len] at l1
      refine ⟨cs.map fun c => (⟨#[c]⟩ : Str), by rw [List.map_map]; rfl, ?_, ?_⟩
      · rw [sum_sgn, List.length_map, show (Str.ofString "").length = 0 by decide +kernel]
        omega
      exact ht _ (word_signs (join_sgn cs) (by omega) (by omega) l2)
theorem ok_LSomeWords {f : Addr} {fd : FuncData} {fLAnyWord : Addr} {fdLAnyWord : FuncData} (Z : Blt K mg) (D : DefAt K mg "_law_some_words" sLSomeWords pLSomeWords f fd) (DLAnyWord : DefAt K mg "_law_any_word" sLAnyWord pLAnyWord fLAnyWord fdLAnyWord) (GLAnyWord : FnOk P w K mg base CX0 3 fLAnyWord fdLAnyWord pLAnyWord (spA 1 K DK T_law_any_word)) : FnOk P w K mg base CX0 4 f fd pLSomeWords (spA 2 K DK T_law_some_words) := by
  refine D.F.ok scLSomeWords (fun vs H Q E h => h.len) (fun cdv A outer s0 H vs Q E hr h => ?_)
  have hu := hu_of hr
  refine ⟨_, (pss_one (ps_ret (pe_callB (cr_sortedSS rfl hr.units) (by rfl) Z.sorted (by decide +kernel) (pa_cons (pe_callTy (cr_setLS rfl) (by rfl) Z.set (by decide +kernel) (pa_cons (pe_lc (own := [("_law_turn", 2)]) (g := gName 2) (tt := tYes) rfl scLSomeWords.nd (pi_range1 (by rfl) Z.range (pa_cons (pv 1) pa_nil)) (blkOk_by (own := [("_law_turn", 2)]) (N := nLSomeWords) (sc := defScope sLSomeWords) (by decide +kernel)) (fun _ _ _ _ _ => (pg_name (i := 2) scLSomeWords.nd rfl (Or.inl rfl))) (fun _ _ _ _ _ => pts_nil) (fun _ _ _ _ _ => (pe_call GLAnyWord (hr.mono (by decide)) rfl DLAnyWord.g DLAnyWord.F.kp DLAnyWord.b .nil pass0 (pa_cons (pv 0) pa_nil)))) pa_nil)) pa_nil)))), abs_fn (N := nLSomeWords) (sa_ret (ea_sortSetS (ea_lc (ic_rg1 (aa_cons (ea_var 1) aa_nil)) (gd_name 2) ta_yes (ea_call [.k] (aa_cons (ea_var 0) aa_nil))))) h (fun as Φ hn ht => ?_)⟩
  match as, ht with
  | [.dk, .d (.int n)], ht =>
    obtain ⟨⟨n0, n1⟩, ht⟩ := ht
    simp only [isiB,aSeq,aIfS,aRet,aRetN,aSet,aDrop,aNext,aNever,aBreak,aCont,aUnp,aUnl,aPar,aAppend,aExtend,aAppendPop,aPopSet,aVar,aC,aTy,aFn,aOp,aCB,aCons,aNil,aTup,aLst,aB,aNot,aAnd,aOr,aAndV,aOrV,aNotV,aIf,aChain,aSl,aNoPart,aPart,aCall,aCallV,aYes,aNeg,aRevL,aRg1,aLstRg,asArgs,asArg,dataOf,listOf,viewOf,dataAll,onB,onP,onL,onT,onS,onZ2,aPut,parOk,parOk2,retR,rdA,stillR,fI0,fII,fEq,fNe,eqS,fIsiA,tyOf,fLen,fLenS,fInt1,fStrI,fMax2,fListOf,fTupOf,fAll,fAny,fIxT,fIxL,fIxQ,fIxS,fRep,fRepT,aRevA,fEqE,fNeE,fSlT,fSlL,fSlQ,fSlS,fCat,fCatT,fAddS,fIsN,fNotN,fNotB,fIsB,noneB,seqOf,fSorted,bName,bTup,bCons,bNil,onRg1,onRg2,cList,cTup,cStr,cRg1,cRg2,cEnum,cEnumT,cZipL,cZipT,cZipQ,wList,wTup,wStr,wRg1,wRg2,wEnum,wEnumT,wipeA,List.map,List.replicate,List.length_cons,List.length_nil,List.cons_append,List.nil_append,List.append_nil,List.getElem?_cons_zero,List.getElem?_cons_succ,List.set_cons_zero,List.set_cons_succ,List.set,Option.map_some,Option.map_none,Option.getD_some,Option.getD_none,reduceIte,Bool.false_eq_true,Bool.not_true,Bool.not_false,and_true,true_and,false_and,Nat.zero_le,ne_eq,not_false_eq_true,atI_0,atI_1,atI_2,atI_3,aDGet,aDGet1,aDGet2,aDIn,aListD,aStar,aDictOf,aSortSetL,aMaxT,aPar3,wKeys,cKeys,cVals,cItems,onO_some,keysOf_kv,valsOf_kv,itemsOf_kv,starItems_kv,dataAll_ds,dataAll_two,aUnpP,uNil,uCons,upOk,noBl,List.all_cons,List.all_nil,Bool.and_true,aSortItems,aOrL,aOdict,fSortedD,fExtD,fMulS,fLtT,fNeT0,aUpper,aSortSetV,cRg3,onRg3,fEqX,fNeX,fSlX,fMin2,fInSign,fNotInSign,aJoin,aTabPar,gStill,gPush,wListG,aSortD,notB,aSortSetS,aTable,tSq,tStill,dOf,dSeq,dIf,dPut,wListD,aListItems,fInDT,fIxQS,fLenQS,fSortedLS,fLtS,fLeS,fEqT0,fInX,fSortedDT,aCallX,xRaise,aTry,aGiven,aPick,aNone,keepI,nLSomeWords,T_law_any_word]
    refine lc_bind ?_
    simp only [isiB,aSeq,aIfS,aRet,aRetN,aSet,aDrop,aNext,aNever,aBreak,aCont,aUnp,aUnl,aPar,aAppend,aExtend,aAppendPop,aPopSet,aVar,aC,aTy,aFn,aOp,aCB,aCons,aNil,aTup,aLst,aB,aNot,aAnd,aOr,aAndV,aOrV,aNotV,aIf,aChain,aSl,aNoPart,aPart,aCall,aCallV,aYes,aNeg,aRevL,aRg1,aLstRg,asArgs,asArg,dataOf,listOf,viewOf,dataAll,onB,onP,onL,onT,onS,onZ2,aPut,parOk,parOk2,retR,rdA,stillR,fI0,fII,fEq,fNe,eqS,fIsiA,tyOf,fLen,fLenS,fInt1,fStrI,fMax2,fListOf,fTupOf,fAll,fAny,fIxT,fIxL,fIxQ,fIxS,fRep,fRepT,aRevA,fEqE,fNeE,fSlT,fSlL,fSlQ,fSlS,fCat,fCatT,fAddS,fIsN,fNotN,fNotB,fIsB,noneB,seqOf,fSorted,bName,bTup,bCons,bNil,onRg1,onRg2,cList,cTup,cStr,cRg1,cRg2,cEnum,cEnumT,cZipL,cZipT,cZipQ,wList,wTup,wStr,wRg1,wRg2,wEnum,wEnumT,wipeA,List.map,List.replicate,List.length_cons,List.length_nil,List.cons_append,List.nil_append,List.append_nil,List.getElem?_cons_zero,List.getElem?_cons_succ,List.set_cons_zero,List.set_cons_succ,List.set,Option.map_some,Option.map_none,Option.getD_some,Option.getD_none,reduceIte,Bool.false_eq_true,Bool.not_true,Bool.not_false,and_true,true_and,false_and,Nat.zero_le,ne_eq,not_false_eq_true,atI_0,atI_1,atI_2,atI_3,aDGet,aDGet1,aDGet2,aDIn,aListD,aStar,aDictOf,aSortSetL,aMaxT,aPar3,wKeys,cKeys,cVals,cItems,onO_some,keysOf_kv,valsOf_kv,itemsOf_kv,starItems_kv,dataAll_ds,dataAll_two,aUnpP,uNil,uCons,upOk,noBl,List.all_cons,List.all_nil,Bool.and_true,aSortItems,aOrL,aOdict,fSortedD,fExtD,fMulS,fLtT,fNeT0,aUpper,aSortSetV,cRg3,onRg3,fEqX,fNeX,fSlX,fMin2,fInSign,fNotInSign,aJoin,aTabPar,gStill,gPush,wListG,aSortD,notB,aSortSetS,aTable,tSq,tStill,dOf,dSeq,dIf,dPut,wListD,aListItems,fInDT,fIxQS,fLenQS,fSortedLS,fLtS,fLeS,fEqT0,fInX,fSortedDT,aCallX,xRaise,aTry,aGiven,aPick,aNone,keepI,nLSomeWords,T_law_any_word]
    refine ⟨⟨by omega, by omega⟩, ?_⟩
    refine lc_inv (rangeD 0 n.toNat) (fun Ψ h => h) rfl (fun i acc => ∃ ss : List Str, acc = ss.map PyData.str ∧ ss.length = i ∧ ∀ s ∈ ss, wordS s = true) ⟨[], rfl, rfl, fun _ z => nomatch z⟩ ?_ ?_
    · rintro i x acc hx ⟨ss, rfl, l1, l2⟩
      have hi := (List.getElem?_eq_some_iff.mp hx).1
      rw [rangeD_len] at hi
      simp only [isiB,aSeq,aIfS,aRet,aRetN,aSet,aDrop,aNext,aNever,aBreak,aCont,aUnp,aUnl,aPar,aAppend,aExtend,aAppendPop,aPopSet,aVar,aC,aTy,aFn,aOp,aCB,aCons,aNil,aTup,aLst,aB,aNot,aAnd,aOr,aAndV,aOrV,aNotV,aIf,aChain,aSl,aNoPart,aPart,aCall,aCallV,aYes,aNeg,aRevL,aRg1,aLstRg,asArgs,asArg,dataOf,listOf,viewOf,dataAll,onB,onP,onL,onT,onS,onZ2,aPut,parOk,parOk2,retR,rdA,stillR,fI0,fII,fEq,fNe,eqS,fIsiA,tyOf,fLen,fLenS,fInt1,fStrI,fMax2,fListOf,fTupOf,fAll,fAny,fIxT,fIxL,fIxQ,fIxS,fRep,fRepT,aRevA,fEqE,fNeE,fSlT,fSlL,fSlQ,fSlS,fCat,fCatT,fAddS,fIsN,fNotN,fNotB,fIsB,noneB,seqOf,fSorted,bName,bTup,bCons,bNil,onRg1,onRg2,cList,cTup,cStr,cRg1,cRg2,cEnum,cEnumT,cZipL,cZipT,cZipQ,wList,wTup,wStr,wRg1,wRg2,wEnum,wEnumT,wipeA,List.map,List.replicate,List.length_cons,List.length_nil,List.cons_append,List.nil_append,List.append_nil,List.getElem?_cons_zero,List.getElem?_cons_succ,List.set_cons_zero,List.set_cons_succ,List.set,Option.map_some,Option.map_none,Option.getD_some,Option.getD_none,reduceIte,Bool.false_eq_true,Bool.not_true,Bool.not_false,and_true,true_and,false_and,Nat.zero_le,ne_eq,not_false_eq_true,atI_0,atI_1,atI_2,atI_3,aDGet,aDGet1,aDGet2,aDIn,aListD,aStar,aDictOf,aSortSetL,aMaxT,aPar3,wKeys,cKeys,cVals,cItems,onO_some,keysOf_kv,valsOf_kv,itemsOf_kv,starItems_kv,dataAll_ds,dataAll_two,aUnpP,uNil,uCons,upOk,noBl,List.all_cons,List.all_nil,Bool.and_true,aSortItems,aOrL,aOdict,fSortedD,fExtD,fMulS,fLtT,fNeT0,aUpper,aSortSetV,cRg3,onRg3,fEqX,fNeX,fSlX,fMin2,fInSign,fNotInSign,aJoin,aTabPar,gStill,gPush,wListG,aSortD,notB,aSortSetS,aTable,tSq,tStill,dOf,dSeq,dIf,dPut,wListD,aListItems,fInDT,fIxQS,fLenQS,fSortedLS,fLtS,fLeS,fEqT0,fInX,fSortedDT,aCallX,xRaise,aTry,aGiven,aPick,aNone,keepI,nLSomeWords,T_law_any_word]
      refine fun s hs => ⟨_, rfl, by rw [List.length_map]; exact Nat.lt_trans (show ss.length < 1000000 by omega) sizeBig, ss ++ [s], by rw [List.map_append]; rfl, by rw [List.length_append, l1]; rfl, fun z hz => ?_⟩
      rcases List.mem_append.mp hz with h | h
      · exact l2 z h
      · rw [List.mem_singleton.mp h]; exact hs
    · rintro acc ⟨ss, rfl, l1, l2⟩
      rw [rangeD_len] at l1
      refine ⟨ss, rfl, by rw [l1]; exact Nat.lt_of_le_of_lt (show n.toNat + 1 ≤ 1000 by omega) (by decide), fun ys nd hm pw ly => ht ys nd pw (fun s hs => l2 s ((hm s).mp hs)) (by omega)⟩
end


abbrev sLSomePairs : Stmt := top 25
abbrev nLSomePairs : List Str := ["_law_deck", "_law_found", "_law_key", "_law_value"]
abbrev pLSomePairs : List Str := ["_law_deck"]
theorem scLSomePairs : FnScope nLSomePairs pLSomePairs (defScope sLSomePairs) := ⟨rfl, rfl, rfl, by decide +kernel, rfl, by decide +kernel, by decide +kernel⟩
abbrev sLAnyTarget : Stmt := top 26
abbrev nLAnyTarget : List Str := ["_law_deck", "_law_pairs", "_law_table", "_law_key", "_law_value"]
abbrev pLAnyTarget : List Str := ["_law_deck", "_law_pairs"]
theorem scLAnyTarget : FnScope nLAnyTarget pLAnyTarget (defScope sLAnyTarget) := ⟨rfl, rfl, rfl, by decide +kernel, rfl, by decide +kernel, by decide +kernel⟩
def Wo (p : Str × Str) : Prop := wordS p.1 = true ∧ wordS p.2 = true
def T_law_some_pairs : FnT
  | [.dk], Φ => ∀ ps : List (Str × Str), (∀ p ∈ ps, Wo p) → ps.length ≤ 8 → Φ (.l (ps.map encPT))
  | _, _ => False
def T_law_any_target : FnT
  | [.dk, .bl xs], Φ => ∃ ps : List (Str × Str), xs = ps.map encPT ∧ ps.length < 100 ∧ (∀ p ∈ ps, Wo p) ∧ ∀ ts : List (Str × Str), (∀ p ∈ ts, Wo p) → ascS (ts.map fun p => p.1) = true → ts.length ≤ ps.length + 1 → Φ (.d (.tuple (ts.map encPT)))
  | _, _ => False
def tabE (p : Str × Str) : Key × PyData := (.inr p.1, .str p.2)
theorem tab_any (k : Str) : ∀ ts : List (Str × Str), ((ts.map tabE).any fun p => decide (p.1 = (.inr k : Key))) = ts.any fun p => decide (p.1 = k)
  | [] => rfl
  | p :: ts => by
    rw [List.map_cons, List.any_cons, List.any_cons, tab_any k ts]
    congr 1
    exact decide_eq_decide.mpr ⟨fun h => Sum.inr.inj h, fun h => congrArg Sum.inr h⟩
theorem tab_put (ts : List (Str × Str)) (k v : Str) (nd : (ts.map fun p => p.1).Nodup) : ∃ ts' : List (Str × Str), putD (ts.map tabE) (.inr k) (.str v) = ts'.map tabE ∧ (ts'.map fun p => p.1).Nodup ∧ (∀ p ∈ ts', p ∈ ts ∨ p = (k, v)) ∧ ts'.length ≤ ts.length + 1 := by
  unfold putD
  rw [tab_any]
  cases h : ts.any fun p => decide (p.1 = k) with
  | true =>
    rw [if_pos rfl]
    have e1 : ∀ l : List (Str × Str), (l.map tabE).map (fun p => if p.1 = (.inr k : Key) then (p.1, PyData.str v) else p) = (l.map fun p => if p.1 = k then (k, v) else p).map tabE := fun l => by
      rw [List.map_map, List.map_map]
      refine List.map_congr_left fun p _ => ?_
      show (if (tabE p).1 = (.inr k : Key) then ((tabE p).1, PyData.str v) else tabE p) = tabE (if p.1 = k then (k, v) else p)
      by_cases z : p.1 = k
      · rw [if_pos z, if_pos (show (tabE p).1 = (.inr k : Key) from congrArg Sum.inr z)]
        show ((Sum.inr p.1 : Key), PyData.str v) = _
        rw [z]; rfl
      · rw [if_neg z, if_neg (show ¬ (tabE p).1 = (.inr k : Key) from fun q => z (Sum.inr.inj q))]
    have e2 : ∀ l : List (Str × Str), (l.map fun p => if p.1 = k then (k, v) else p).map (fun p => p.1) = l.map fun p => p.1 := fun l => by
      rw [List.map_map]
      refine List.map_congr_left fun p _ => ?_
      show (if p.1 = k then (k, v) else p).1 = p.1
      by_cases z : p.1 = k
      · rw [if_pos z]; exact z.symm
      · rw [if_neg z]
    refine ⟨_, e1 ts, by rw [e2]; exact nd, fun p hp => ?_, by rw [List.length_map]; omega⟩
    obtain ⟨q, hq, e⟩ := List.mem_map.mp hp
    by_cases z : q.1 = k
    · rw [if_pos z] at e; exact .inr e.symm
    · rw [if_neg z] at e; exact .inl (e ▸ hq)
  | false =>
    rw [if_neg Bool.false_ne_true]
    refine ⟨ts ++ [(k, v)], by rw [List.map_append]; rfl, ?_, fun p hp => ?_, by rw [List.length_append]; exact Nat.le_refl _⟩
    · rw [List.map_append, List.nodup_append]
      refine ⟨nd, by simp, fun a ha b hb e => ?_⟩
      obtain ⟨p, hp, rfl⟩ := List.mem_map.mp ha
      rw [List.mem_singleton.mp hb] at e
      have := List.any_eq_false.mp h p hp
      rw [decide_eq_true (show p.1 = k from e)] at this
      exact this rfl
    · rcases List.mem_append.mp hp with h | h
      · exact .inl h
      · exact .inr (List.mem_singleton.mp h)
theorem le_pair {p q : Str × Str} (h : PySem.W.dataLe false id (encPT p) (encPT q) = true) (ne : p.1 ≠ q.1) : p.1.cps.toList < q.1.cps.toList := by
  have h : (!PySem.W.dataLt (encPT q) (encPT p)) = true := h
  unfold encPT at h
  rw [PySem.W.dataLt_tuple, PySem.W.dataLt_all_no (by simp [PySem.W.alike]) (by simp only [PyData.eqv]; exact decide_eq_false fun z => ne z.symm)] at h
  have e : PySem.W.dataLt (.str q.1) (.str p.1) = decide (q.1.cps.toList < p.1.cps.toList) := by
    unfold PySem.W.dataLt
    simp only [PySem.W.keyToks]
    simp [PyProof.Rows.lexLt, PyProof.Rows.itemLt, PyProof.Rows.itemOrd]
  rw [e] at h
  have h1 : ¬ q.1.cps.toList < p.1.cps.toList := fun z => by rw [decide_eq_true z] at h; cases h
  refine Classical.byContradiction fun h2 => ne (PySem.W.str_of_cps (List.le_antisymm (List.not_lt.mp h1) (List.not_lt.mp h2)))
theorem dfor_bind {i : Nat} {A : ASt → (List PyData → ASt → Prop) → Prop} {B : PyData → ASt → (ASt → Prop) → Prop} {T : ATD} {Φ : ASt → List (Key × PyData) → Prop} {ρ : ASt} {kvs : List (Key × PyData)} (h : A ρ fun items ρ1 => dFor i (fun _ k => k items ρ1) B T Φ ρ1 kvs) : dFor i A B T Φ ρ kvs := h
theorem dfor_inv {i : Nat} {B : PyData → ASt → (ASt → Prop) → Prop} {T : ATD} {Φ : ASt → List (Key × PyData) → Prop} {ρ ρ1 : ASt} {kvs : List (Key × PyData)} (items : List PyData) (P : Nat → ASt → List (Key × PyData) → Prop) (h0 : P 0 ρ1 kvs)
    (hs : ∀ n x ρ' kvs', items[n]? = some x → P n ρ' kvs' → B x ρ' fun ρ2 => ρ2[i]? = ρ'[i]? ∧ T (P (n + 1)) ρ2 kvs') (hd : ∀ ρ' kvs', P items.length ρ' kvs' → Φ ρ' kvs') : dFor i (fun _ k => k items ρ1) B T Φ ρ kvs := ⟨P, h0, hs, hd⟩
theorem for_bind {A : ASt → (List PyData → ASt → Prop) → Prop} {B : PyData → ASt → (ASt → Prop) → Prop} {T : ATS} {Φ : AEnds} {ρ : ASt} (h : A ρ fun items ρ1 => aFor (fun _ k => k items ρ1) B T Φ ρ1) : aFor A B T Φ ρ := h
theorem still_hide {i : Nat} {T : ATD} {W : ATS} {Φ : AEnds} {ρ : ASt} {kvs : List (Key × PyData)} (h : ∀ Kc : ASt → List (Key × PyData) → Prop, (∀ ρ' kvs', W Φ (ρ'.set i (some (.d (kvD kvs')))) → Kc ρ' kvs') → T Kc ρ kvs) : tStill i T W Φ ρ kvs := h _ fun _ _ z => z
theorem alikeP {a b : Str × Str} : PySem.W.alike (encPT a) (encPT b) = true := by simp [encPT, PySem.W.alike, PySem.W.alikeAll]
theorem asc_pairs : ∀ {ts : List (Str × Str)}, (ts.map encPT).Pairwise (fun a b => PySem.W.dataLe false id a b = true) → (ts.map fun p => p.1).Nodup → ascS (ts.map fun p => p.1) = true
  | [], _, _ => rfl
  | [_], _, _ => rfl
  | a :: b :: r, h, nd => by
    rw [List.map_cons, List.map_cons] at h nd
    have h1 := List.rel_of_pairwise_cons h (List.mem_cons.mpr (.inl rfl))
    have n1 : a.1 ≠ b.1 := fun e => (List.nodup_cons.mp nd).1 (by rw [e]; exact List.mem_cons.mpr (.inl rfl))
    show (decide (a.1.cps.toList < b.1.cps.toList) && ascS ((b :: r).map fun p => p.1)) = true
    rw [decide_eq_true (le_pair h1 n1), asc_pairs (ts := b :: r) (List.pairwise_cons.mp h).2 (List.nodup_cons.mp nd).2]
    rfl
def decPT : PyData → Str × Str
  | .tuple [.str a, .str b] => (a, b)
  | _ => (Str.empty, Str.empty)
theorem perm_enc {ts : List (Str × Str)} {es : List PyData} (h : es.Perm (ts.map encPT)) : ∃ ts' : List (Str × Str), es = ts'.map encPT ∧ ts'.Perm ts := by
  refine ⟨es.map decPT, ?_, ?_⟩
  · rw [List.map_map]
    have : ∀ l : List PyData, (∀ e ∈ l, e ∈ ts.map encPT) → l = l.map (encPT ∘ decPT) := fun l => by
      induction l with
      | nil => exact fun _ => rfl
      | cons e l ih =>
        intro q
        obtain ⟨t, _, rfl⟩ := List.mem_map.mp (q e (List.mem_cons.mpr (.inl rfl)))
        rw [List.map_cons, ← ih fun z hz => q z (List.mem_cons.mpr (.inr hz))]
        rfl
    exact this es fun e he => h.mem_iff.mp he
  · have := h.map decPT
    rw [List.map_map] at this
    have e : ts.map (decPT ∘ encPT) = ts := by
      have : (decPT ∘ encPT) = id := funext fun p => rfl
      rw [this, List.map_id]
    rw [e] at this
    exact this
theorem tab_items (ts : List (Str × Str)) : (ts.map tabE).map itemD = ts.map encPT := by
  rw [List.map_map]
  rfl
section
variable {P : Program} {w : World} {K : PySem.W.Frag} {mg : Str → Option Value} {base : Heap}
theorem ok_LSomePairs {f : Addr} {fd : FuncData} {fLPick : Addr} {fdLPick : FuncData} {fLSomeWords : Addr} {fdLSomeWords : FuncData} (Z : Blt K mg) (D : DefAt K mg "_law_some_pairs" sLSomePairs pLSomePairs f fd) (DLPick : DefAt K mg "_law_pick" sLPick pLPick fLPick fdLPick) (DLSomeWords : DefAt K mg "_law_some_words" sLSomeWords pLSomeWords fLSomeWords fdLSomeWords) (GLPick : FnOk P w K mg base CX0 2 fLPick fdLPick pLPick (spA 2 K DK T_law_pick)) (GLSomeWords : FnOk P w K mg base CX0 4 fLSomeWords fdLSomeWords pLSomeWords (spA 2 K DK T_law_some_words)) : FnOk P w K mg base CX0 5 f fd pLSomePairs (spA 1 K DK T_law_some_pairs) := by
  refine D.F.ok scLSomePairs (fun vs H Q E h => h.len) (fun cdv A outer s0 H vs Q E hr h => ?_)
  have hu := hu_of hr
  refine ⟨_, (pss_cons (ps_set (i := 1) scLSomePairs.nd rfl (Or.inl rfl) (pe_lst pa_nil))
    (pss_cons (ps_for PassesOwn.never rfl (pi_list (pe_call GLSomeWords (hr.mono (by decide)) rfl DLSomeWords.g DLSomeWords.F.kp DLSomeWords.b .nil pass0 (pa_cons (pv 0) (pa_cons (pe_call GLPick (hr.mono (by decide)) rfl DLPick.g DLPick.F.kp DLPick.b .nil pass0 (pa_cons (pv 0) (pa_cons (pe_lst (pa_cons pe_int (pa_cons pe_int (pa_cons pe_int (pa_cons pe_int (pa_cons pe_int pa_nil)))))) pa_nil))) pa_nil)))) (pg_name (i := 2) scLSomePairs.nd rfl (Or.inr rfl))
    (pss_one (ps_expr (pe_bm PySem.F.plainAttrs_list PySem.F.slot_list_extend PySem.F.type_list_extend mt_extend (pv 1) (pa_cons (pe_lc (own := [("_law_value", 3)]) (g := gName 3) (tt := tYes) rfl scLSomePairs.nd (pi_list (pe_call GLSomeWords (hr.mono (by decide)) rfl DLSomeWords.g DLSomeWords.F.kp DLSomeWords.b .nil pass0 (pa_cons (pv 0) (pa_cons pe_int pa_nil)))) (blkOk_by (own := [("_law_value", 3)]) (N := nLSomePairs) (sc := defScope sLSomePairs) (by decide +kernel)) (fun _ _ _ _ _ => (pg_name (i := 3) scLSomePairs.nd rfl (Or.inl rfl))) (fun _ _ _ _ _ => pts_nil) (fun _ _ _ _ _ => (pe_tup (pa_cons (pv 2) (pa_cons (pv 3) pa_nil))))) pa_nil)))))
    (pss_one (ps_ret (pv 1))))), abs_fn (N := nLSomePairs) (sa_seq (sa_set (ea_lst aa_nil)) (sa_seq (sa_for (ia_list (ea_call [.k, .d] (aa_cons (ea_var 0) (aa_cons (ea_call [.k, .s] (aa_cons (ea_var 0) (aa_cons (ea_lst (aa_cons (ea_int _) (aa_cons (ea_int _) (aa_cons (ea_int _) (aa_cons (ea_int _) (aa_cons (ea_int _) aa_nil)))))) aa_nil))) aa_nil)))) (gd_name 2) (sa_extend (ea_lc (ic_list (ea_call [.k, .d] (aa_cons (ea_var 0) (aa_cons (ea_int _) aa_nil)))) (gd_name 3) ta_yes (ea_tup (aa_cons (ea_var 2) (aa_cons (ea_var 3) aa_nil)))))) (sa_ret (ea_var 1)))) h (fun as Φ hn ht => ?_)⟩
  match as, ht with
  | [.dk], ht =>
    have big : ∀ m : Nat, m ≤ 1000 → m ≤ sizeLine := fun m h => Nat.le_of_lt (Nat.lt_trans (show m < 1000000 by omega) sizeBig)
    simp only [isiB,aSeq,aIfS,aRet,aRetN,aSet,aDrop,aNext,aNever,aBreak,aCont,aUnp,aUnl,aPar,aAppend,aExtend,aAppendPop,aPopSet,aVar,aC,aTy,aFn,aOp,aCB,aCons,aNil,aTup,aLst,aB,aNot,aAnd,aOr,aAndV,aOrV,aNotV,aIf,aChain,aSl,aNoPart,aPart,aCall,aCallV,aYes,aNeg,aRevL,aRg1,aLstRg,asArgs,asArg,dataOf,listOf,viewOf,dataAll,onB,onP,onL,onT,onS,onZ2,aPut,parOk,parOk2,retR,rdA,stillR,fI0,fII,fEq,fNe,eqS,fIsiA,tyOf,fLen,fLenS,fInt1,fStrI,fMax2,fListOf,fTupOf,fAll,fAny,fIxT,fIxL,fIxQ,fIxS,fRep,fRepT,aRevA,fEqE,fNeE,fSlT,fSlL,fSlQ,fSlS,fCat,fCatT,fAddS,fIsN,fNotN,fNotB,fIsB,noneB,seqOf,fSorted,bName,bTup,bCons,bNil,onRg1,onRg2,cList,cTup,cStr,cRg1,cRg2,cEnum,cEnumT,cZipL,cZipT,cZipQ,wList,wTup,wStr,wRg1,wRg2,wEnum,wEnumT,wipeA,List.map,List.replicate,List.length_cons,List.length_nil,List.cons_append,List.nil_append,List.append_nil,List.getElem?_cons_zero,List.getElem?_cons_succ,List.set_cons_zero,List.set_cons_succ,List.set,Option.map_some,Option.map_none,Option.getD_some,Option.getD_none,reduceIte,Bool.false_eq_true,Bool.not_true,Bool.not_false,and_true,true_and,false_and,Nat.zero_le,ne_eq,not_false_eq_true,atI_0,atI_1,atI_2,atI_3,aDGet,aDGet1,aDGet2,aDIn,aListD,aStar,aDictOf,aSortSetL,aMaxT,aPar3,wKeys,cKeys,cVals,cItems,onO_some,keysOf_kv,valsOf_kv,itemsOf_kv,starItems_kv,dataAll_ds,dataAll_two,aUnpP,uNil,uCons,upOk,noBl,List.all_cons,List.all_nil,Bool.and_true,aSortItems,aOrL,aOdict,fSortedD,fExtD,fMulS,fLtT,fNeT0,aUpper,aSortSetV,cRg3,onRg3,fEqX,fNeX,fSlX,fMin2,fInSign,fNotInSign,aJoin,aTabPar,gStill,gPush,wListG,aSortD,notB,aSortSetS,aTable,tSq,tStill,dOf,dSeq,dIf,dPut,wListD,aListItems,fInDT,fIxQS,fLenQS,fSortedLS,fLtS,fLeS,fEqT0,fInX,fSortedDT,aCallX,xRaise,aTry,aGiven,aPick,aNone,keepI,nLSomePairs,T_law_pick,T_law_some_words]
    refine for_bind ?_
    simp only [isiB,aSeq,aIfS,aRet,aRetN,aSet,aDrop,aNext,aNever,aBreak,aCont,aUnp,aUnl,aPar,aAppend,aExtend,aAppendPop,aPopSet,aVar,aC,aTy,aFn,aOp,aCB,aCons,aNil,aTup,aLst,aB,aNot,aAnd,aOr,aAndV,aOrV,aNotV,aIf,aChain,aSl,aNoPart,aPart,aCall,aCallV,aYes,aNeg,aRevL,aRg1,aLstRg,asArgs,asArg,dataOf,listOf,viewOf,dataAll,onB,onP,onL,onT,onS,onZ2,aPut,parOk,parOk2,retR,rdA,stillR,fI0,fII,fEq,fNe,eqS,fIsiA,tyOf,fLen,fLenS,fInt1,fStrI,fMax2,fListOf,fTupOf,fAll,fAny,fIxT,fIxL,fIxQ,fIxS,fRep,fRepT,aRevA,fEqE,fNeE,fSlT,fSlL,fSlQ,fSlS,fCat,fCatT,fAddS,fIsN,fNotN,fNotB,fIsB,noneB,seqOf,fSorted,bName,bTup,bCons,bNil,onRg1,onRg2,cList,cTup,cStr,cRg1,cRg2,cEnum,cEnumT,cZipL,cZipT,cZipQ,wList,wTup,wStr,wRg1,wRg2,wEnum,wEnumT,wipeA,List.map,List.replicate,List.length_cons,List.length_nil,List.cons_append,List.nil_append,List.append_nil,List.getElem?_cons_zero,List.getElem?_cons_succ,List.set_cons_zero,List.set_cons_succ,List.set,Option.map_some,Option.map_none,Option.getD_some,Option.getD_none,reduceIte,Bool.false_eq_true,Bool.not_true,Bool.not_false,and_true,true_and,false_and,Nat.zero_le,ne_eq,not_false_eq_true,atI_0,atI_1,atI_2,atI_3,aDGet,aDGet1,aDGet2,aDIn,aListD,aStar,aDictOf,aSortSetL,aMaxT,aPar3,wKeys,cKeys,cVals,cItems,onO_some,keysOf_kv,valsOf_kv,itemsOf_kv,starItems_kv,dataAll_ds,dataAll_two,aUnpP,uNil,uCons,upOk,noBl,List.all_cons,List.all_nil,Bool.and_true,aSortItems,aOrL,aOdict,fSortedD,fExtD,fMulS,fLtT,fNeT0,aUpper,aSortSetV,cRg3,onRg3,fEqX,fNeX,fSlX,fMin2,fInSign,fNotInSign,aJoin,aTabPar,gStill,gPush,wListG,aSortD,notB,aSortSetS,aTable,tSq,tStill,dOf,dSeq,dIf,dPut,wListD,aListItems,fInDT,fIxQS,fLenQS,fSortedLS,fLtS,fLeS,fEqT0,fInX,fSortedDT,aCallX,xRaise,aTry,aGiven,aPick,aNone,keepI,nLSomePairs,T_law_pick,T_law_some_words]
    refine ⟨by decide, ⟨by decide, by decide⟩, fun x hx => ?_⟩
    obtain ⟨r, rfl, r0, r1⟩ : ∃ r : Int, x = .int r ∧ 0 ≤ r ∧ r ≤ 4 := by
      simp only [List.mem_cons, List.not_mem_nil, or_false] at hx
      rcases hx with rfl | rfl | rfl | rfl | rfl
      all_goals exact ⟨_, rfl, by decide, by decide⟩
    clear hx
    refine ⟨⟨by omega, by omega⟩, fun ss nd pw hs hl => ?_⟩
    refine for_inv (ss.map PyData.str) _ (fun Ψ h => h) (fun j ρ => ∃ (ps : List (Str × Str)) (u2 : Option AV), ρ = [some AV.dk, some (AV.own (ps.map encPT)), u2, none] ∧ (∀ p ∈ ps, Wo p) ∧ ps.length ≤ 2 * j) ⟨[], none, rfl, (fun _ z => nomatch z), Nat.le_refl _⟩ ?_ ?_
    · rintro j x ρ hx ⟨ps, u2, rfl, l1, l2⟩
      have hj := (List.getElem?_eq_some_iff.mp hx).1
      rw [List.length_map] at hj
      obtain ⟨s, hsm, rfl⟩ := List.mem_map.mp (List.mem_of_getElem? hx)
      have ws := hs s hsm
      simp only [bName, List.set_cons_zero, List.set_cons_succ]
      simp only [isiB,aSeq,aIfS,aRet,aRetN,aSet,aDrop,aNext,aNever,aBreak,aCont,aUnp,aUnl,aPar,aAppend,aExtend,aAppendPop,aPopSet,aVar,aC,aTy,aFn,aOp,aCB,aCons,aNil,aTup,aLst,aB,aNot,aAnd,aOr,aAndV,aOrV,aNotV,aIf,aChain,aSl,aNoPart,aPart,aCall,aCallV,aYes,aNeg,aRevL,aRg1,aLstRg,asArgs,asArg,dataOf,listOf,viewOf,dataAll,onB,onP,onL,onT,onS,onZ2,aPut,parOk,parOk2,retR,rdA,stillR,fI0,fII,fEq,fNe,eqS,fIsiA,tyOf,fLen,fLenS,fInt1,fStrI,fMax2,fListOf,fTupOf,fAll,fAny,fIxT,fIxL,fIxQ,fIxS,fRep,fRepT,aRevA,fEqE,fNeE,fSlT,fSlL,fSlQ,fSlS,fCat,fCatT,fAddS,fIsN,fNotN,fNotB,fIsB,noneB,seqOf,fSorted,bName,bTup,bCons,bNil,onRg1,onRg2,cList,cTup,cStr,cRg1,cRg2,cEnum,cEnumT,cZipL,cZipT,cZipQ,wList,wTup,wStr,wRg1,wRg2,wEnum,wEnumT,wipeA,List.map,List.replicate,List.length_cons,List.length_nil,List.cons_append,List.nil_append,List.append_nil,List.getElem?_cons_zero,List.getElem?_cons_succ,List.set_cons_zero,List.set_cons_succ,List.set,Option.map_some,Option.map_none,Option.getD_some,Option.getD_none,reduceIte,Bool.false_eq_true,Bool.not_true,Bool.not_false,and_true,true_and,false_and,Nat.zero_le,ne_eq,not_false_eq_true,atI_0,atI_1,atI_2,atI_3,aDGet,aDGet1,aDGet2,aDIn,aListD,aStar,aDictOf,aSortSetL,aMaxT,aPar3,wKeys,cKeys,cVals,cItems,onO_some,keysOf_kv,valsOf_kv,itemsOf_kv,starItems_kv,dataAll_ds,dataAll_two,aUnpP,uNil,uCons,upOk,noBl,List.all_cons,List.all_nil,Bool.and_true,aSortItems,aOrL,aOdict,fSortedD,fExtD,fMulS,fLtT,fNeT0,aUpper,aSortSetV,cRg3,onRg3,fEqX,fNeX,fSlX,fMin2,fInSign,fNotInSign,aJoin,aTabPar,gStill,gPush,wListG,aSortD,notB,aSortSetS,aTable,tSq,tStill,dOf,dSeq,dIf,dPut,wListD,aListItems,fInDT,fIxQS,fLenQS,fSortedLS,fLtS,fLeS,fEqT0,fInX,fSortedDT,aCallX,xRaise,aTry,aGiven,aPick,aNone,keepI,nLSomePairs,T_law_pick,T_law_some_words]
      refine lc_bind ?_
      simp only [isiB,aSeq,aIfS,aRet,aRetN,aSet,aDrop,aNext,aNever,aBreak,aCont,aUnp,aUnl,aPar,aAppend,aExtend,aAppendPop,aPopSet,aVar,aC,aTy,aFn,aOp,aCB,aCons,aNil,aTup,aLst,aB,aNot,aAnd,aOr,aAndV,aOrV,aNotV,aIf,aChain,aSl,aNoPart,aPart,aCall,aCallV,aYes,aNeg,aRevL,aRg1,aLstRg,asArgs,asArg,dataOf,listOf,viewOf,dataAll,onB,onP,onL,onT,onS,onZ2,aPut,parOk,parOk2,retR,rdA,stillR,fI0,fII,fEq,fNe,eqS,fIsiA,tyOf,fLen,fLenS,fInt1,fStrI,fMax2,fListOf,fTupOf,fAll,fAny,fIxT,fIxL,fIxQ,fIxS,fRep,fRepT,aRevA,fEqE,fNeE,fSlT,fSlL,fSlQ,fSlS,fCat,fCatT,fAddS,fIsN,fNotN,fNotB,fIsB,noneB,seqOf,fSorted,bName,bTup,bCons,bNil,onRg1,onRg2,cList,cTup,cStr,cRg1,cRg2,cEnum,cEnumT,cZipL,cZipT,cZipQ,wList,wTup,wStr,wRg1,wRg2,wEnum,wEnumT,wipeA,List.map,List.replicate,List.length_cons,List.length_nil,List.cons_append,List.nil_append,List.append_nil,List.getElem?_cons_zero,List.getElem?_cons_succ,List.set_cons_zero,List.set_cons_succ,List.set,Option.map_some,Option.map_none,Option.getD_some,Option.getD_none,reduceIte,Bool.false_eq_true,Bool.not_true,Bool.not_false,and_true,true_and,false_and,Nat.zero_le,ne_eq,not_false_eq_true,atI_0,atI_1,atI_2,atI_3,aDGet,aDGet1,aDGet2,aDIn,aListD,aStar,aDictOf,aSortSetL,aMaxT,aPar3,wKeys,cKeys,cVals,cItems,onO_some,keysOf_kv,valsOf_kv,itemsOf_kv,starItems_kv,dataAll_ds,dataAll_two,aUnpP,uNil,uCons,upOk,noBl,List.all_cons,List.all_nil,Bool.and_true,aSortItems,aOrL,aOdict,fSortedD,fExtD,fMulS,fLtT,fNeT0,aUpper,aSortSetV,cRg3,onRg3,fEqX,fNeX,fSlX,fMin2,fInSign,fNotInSign,aJoin,aTabPar,gStill,gPush,wListG,aSortD,notB,aSortSetS,aTable,tSq,tStill,dOf,dSeq,dIf,dPut,wListD,aListItems,fInDT,fIxQS,fLenQS,fSortedLS,fLtS,fLeS,fEqT0,fInX,fSortedDT,aCallX,xRaise,aTry,aGiven,aPick,aNone,keepI,nLSomePairs,T_law_pick,T_law_some_words]
      refine ⟨⟨by decide, by decide⟩, fun vs _ _ hv vl => ?_⟩
      refine lc_of (vs.map PyData.str) (fun y => some (.tuple [.str s, y])) (fun Ψ h => h) (by rw [List.length_map]; exact Nat.lt_trans (show vs.length < 1000000 by omega) sizeBig) rfl (fun x hx n Q hn hq => ?_) ?_
      · simp only [isiB,aSeq,aIfS,aRet,aRetN,aSet,aDrop,aNext,aNever,aBreak,aCont,aUnp,aUnl,aPar,aAppend,aExtend,aAppendPop,aPopSet,aVar,aC,aTy,aFn,aOp,aCB,aCons,aNil,aTup,aLst,aB,aNot,aAnd,aOr,aAndV,aOrV,aNotV,aIf,aChain,aSl,aNoPart,aPart,aCall,aCallV,aYes,aNeg,aRevL,aRg1,aLstRg,asArgs,asArg,dataOf,listOf,viewOf,dataAll,onB,onP,onL,onT,onS,onZ2,aPut,parOk,parOk2,retR,rdA,stillR,fI0,fII,fEq,fNe,eqS,fIsiA,tyOf,fLen,fLenS,fInt1,fStrI,fMax2,fListOf,fTupOf,fAll,fAny,fIxT,fIxL,fIxQ,fIxS,fRep,fRepT,aRevA,fEqE,fNeE,fSlT,fSlL,fSlQ,fSlS,fCat,fCatT,fAddS,fIsN,fNotN,fNotB,fIsB,noneB,seqOf,fSorted,bName,bTup,bCons,bNil,onRg1,onRg2,cList,cTup,cStr,cRg1,cRg2,cEnum,cEnumT,cZipL,cZipT,cZipQ,wList,wTup,wStr,wRg1,wRg2,wEnum,wEnumT,wipeA,List.map,List.replicate,List.length_cons,List.length_nil,List.cons_append,List.nil_append,List.append_nil,List.getElem?_cons_zero,List.getElem?_cons_succ,List.set_cons_zero,List.set_cons_succ,List.set,Option.map_some,Option.map_none,Option.getD_some,Option.getD_none,reduceIte,Bool.false_eq_true,Bool.not_true,Bool.not_false,and_true,true_and,false_and,Nat.zero_le,ne_eq,not_false_eq_true,atI_0,atI_1,atI_2,atI_3,aDGet,aDGet1,aDGet2,aDIn,aListD,aStar,aDictOf,aSortSetL,aMaxT,aPar3,wKeys,cKeys,cVals,cItems,onO_some,keysOf_kv,valsOf_kv,itemsOf_kv,starItems_kv,dataAll_ds,dataAll_two,aUnpP,uNil,uCons,upOk,noBl,List.all_cons,List.all_nil,Bool.and_true,aSortItems,aOrL,aOdict,fSortedD,fExtD,fMulS,fLtT,fNeT0,aUpper,aSortSetV,cRg3,onRg3,fEqX,fNeX,fSlX,fMin2,fInSign,fNotInSign,aJoin,aTabPar,gStill,gPush,wListG,aSortD,notB,aSortSetS,aTable,tSq,tStill,dOf,dSeq,dIf,dPut,wListD,aListItems,fInDT,fIxQS,fLenQS,fSortedLS,fLtS,fLeS,fEqT0,fInX,fSortedDT,aCallX,xRaise,aTry,aGiven,aPick,aNone,keepI,nLSomePairs,T_law_pick,T_law_some_words]
        exact ⟨by decide, _, rfl, hn, hq⟩
      rw [fm_some, List.map_map]
      have e : vs.map ((fun y => PyData.tuple [.str s, y]) ∘ PyData.str) = (vs.map fun v => (s, v)).map encPT := by rw [List.map_map]; rfl
      rw [e]
      refine ⟨big _ (by rw [List.length_map, List.length_map, List.length_map]; omega), ps ++ vs.map (fun v => (s, v)), _, by rw [List.map_append], fun z hz => ?_, by rw [List.length_append, List.length_map]; omega⟩
      rcases List.mem_append.mp hz with h | h
      · exact l1 z h
      · obtain ⟨v, hvm, rfl⟩ := List.mem_map.mp h
        exact ⟨ws, hv v hvm⟩
    · rintro ρ ⟨ps, u2, rfl, l1, l2⟩
      rw [List.length_map] at l2
      simp only [isiB,aSeq,aIfS,aRet,aRetN,aSet,aDrop,aNext,aNever,aBreak,aCont,aUnp,aUnl,aPar,aAppend,aExtend,aAppendPop,aPopSet,aVar,aC,aTy,aFn,aOp,aCB,aCons,aNil,aTup,aLst,aB,aNot,aAnd,aOr,aAndV,aOrV,aNotV,aIf,aChain,aSl,aNoPart,aPart,aCall,aCallV,aYes,aNeg,aRevL,aRg1,aLstRg,asArgs,asArg,dataOf,listOf,viewOf,dataAll,onB,onP,onL,onT,onS,onZ2,aPut,parOk,parOk2,retR,rdA,stillR,fI0,fII,fEq,fNe,eqS,fIsiA,tyOf,fLen,fLenS,fInt1,fStrI,fMax2,fListOf,fTupOf,fAll,fAny,fIxT,fIxL,fIxQ,fIxS,fRep,fRepT,aRevA,fEqE,fNeE,fSlT,fSlL,fSlQ,fSlS,fCat,fCatT,fAddS,fIsN,fNotN,fNotB,fIsB,noneB,seqOf,fSorted,bName,bTup,bCons,bNil,onRg1,onRg2,cList,cTup,cStr,cRg1,cRg2,cEnum,cEnumT,cZipL,cZipT,cZipQ,wList,wTup,wStr,wRg1,wRg2,wEnum,wEnumT,wipeA,List.map,List.replicate,List.length_cons,List.length_nil,List.cons_append,List.nil_append,List.append_nil,List.getElem?_cons_zero,List.getElem?_cons_succ,List.set_cons_zero,List.set_cons_succ,List.set,Option.map_some,Option.map_none,Option.getD_some,Option.getD_none,reduceIte,Bool.false_eq_true,Bool.not_true,Bool.not_false,and_true,true_and,false_and,Nat.zero_le,ne_eq,not_false_eq_true,atI_0,atI_1,atI_2,atI_3,aDGet,aDGet1,aDGet2,aDIn,aListD,aStar,aDictOf,aSortSetL,aMaxT,aPar3,wKeys,cKeys,cVals,cItems,onO_some,keysOf_kv,valsOf_kv,itemsOf_kv,starItems_kv,dataAll_ds,dataAll_two,aUnpP,uNil,uCons,upOk,noBl,List.all_cons,List.all_nil,Bool.and_true,aSortItems,aOrL,aOdict,fSortedD,fExtD,fMulS,fLtT,fNeT0,aUpper,aSortSetV,cRg3,onRg3,fEqX,fNeX,fSlX,fMin2,fInSign,fNotInSign,aJoin,aTabPar,gStill,gPush,wListG,aSortD,notB,aSortSetS,aTable,tSq,tStill,dOf,dSeq,dIf,dPut,wListD,aListItems,fInDT,fIxQS,fLenQS,fSortedLS,fLtS,fLeS,fEqT0,fInX,fSortedDT,aCallX,xRaise,aTry,aGiven,aPick,aNone,keepI,nLSomePairs,T_law_pick,T_law_some_words]
      exact ht ps l1 (by omega)
theorem ok_LAnyTarget {f : Addr} {fd : FuncData} {fLAnyWord : Addr} {fdLAnyWord : FuncData} {fLDraw : Addr} {fdLDraw : FuncData} {fLMixed : Addr} {fdLMixed : FuncData} (Z : Blt K mg) (D : DefAt K mg "_law_any_target" sLAnyTarget pLAnyTarget f fd) (DLAnyWord : DefAt K mg "_law_any_word" sLAnyWord pLAnyWord fLAnyWord fdLAnyWord) (DLDraw : DefAt K mg "_law_draw" sLDraw pLDraw fLDraw fdLDraw) (DLMixed : DefAt K mg "_law_mixed" sLMixed pLMixed fLMixed fdLMixed) (GLAnyWord : FnOk P w K mg base CX0 3 fLAnyWord fdLAnyWord pLAnyWord (spA 1 K DK T_law_any_word)) (GLDraw : FnOk P w K mg base CX0 1 fLDraw fdLDraw pLDraw (spA 2 K DK T_draw)) (GLMixed : FnOk P w K mg base CX0 2 fLMixed fdLMixed pLMixed (spA 2 K DK T_law_mixed)) : FnOk P w K mg base CX0 4 f fd pLAnyTarget (spA 2 K DK T_law_any_target) := by
  refine D.F.ok scLAnyTarget (fun vs H Q E h => h.len) (fun cdv A outer s0 H vs Q E hr h => ?_)
  have hu := hu_of hr
  refine ⟨_, (pss_cons (ps_set (i := 2) scLAnyTarget.nd rfl (Or.inl rfl) pe_dnewK)
    (pss_cons (ps_for PassesOwn.never rfl (pi_list (pe_call GLMixed (hr.mono (by decide)) rfl DLMixed.g DLMixed.F.kp DLMixed.b .nil pass0 (pa_cons (pv 0) (pa_cons (pv 1) pa_nil)))) (pg_tup (n := 2) rfl (pgs_cons (pg_name (i := 3) scLAnyTarget.nd rfl (Or.inl rfl)) (pgs_cons (pg_name (i := 4) scLAnyTarget.nd rfl (Or.inl rfl)) pgs_nil)))
    (pss_one (ps_if (pt_cmpR op_gt (pe_call GLDraw (hr.mono (by decide)) rfl DLDraw.g DLDraw.F.kp DLDraw.b .nil pass0 (pa_cons (pv 0) (pa_cons pe_int pa_nil))) pe_int (nomark _))
      (pss_one (ps_dput hu (pv 2) (pv 3) (pe_ifExp (pt_cmpR op_gt (pe_call GLDraw (hr.mono (by decide)) rfl DLDraw.g DLDraw.F.kp DLDraw.b .nil pass0 (pa_cons (pv 0) (pa_cons pe_int pa_nil))) pe_int (nomark _)) (pv 4) (pe_call GLAnyWord (hr.mono (by decide)) rfl DLAnyWord.g DLAnyWord.F.kp DLAnyWord.b .nil pass0 (pa_cons (pv 0) pa_nil))) rfl))
      pss_nil)))
    (pss_cons (ps_frzS (ps_if (pt_cmpR op_eq (pe_call GLDraw (hr.mono (by decide)) rfl DLDraw.g DLDraw.F.kp DLDraw.b .nil pass0 (pa_cons (pv 0) (pa_cons pe_int pa_nil))) pe_int (nomark _))
    (pss_one (ps_dput hu (pv 2) (pe_call GLAnyWord (hr.mono (by decide)) rfl DLAnyWord.g DLAnyWord.F.kp DLAnyWord.b .nil pass0 (pa_cons (pv 0) pa_nil)) (pe_call GLAnyWord (hr.mono (by decide)) rfl DLAnyWord.g DLAnyWord.F.kp DLAnyWord.b .nil pass0 (pa_cons (pv 0) pa_nil)) rfl))
    pss_nil))
    (pss_one (ps_ret (pe_callTy call_tuple_of (by rfl) Z.tuple (by decide +kernel) (pa_cons (pe_callB (cr_sortedD rfl hr.units) (by rfl) Z.sorted (by decide +kernel) (pa_cons (pe_listItems rfl (by rfl) Z.list (by decide +kernel) (pv 2)) pa_nil)) pa_nil))))))), abs_fn (N := nLAnyTarget) (sa_table (i := 2) (st_seq (sd_for (ip_list (ea_call [.k, .b] (aa_cons (ea_var 0) (aa_cons (ea_var 1) aa_nil)))) (gd_tup (gd_cons (gd_name 3) (gd_cons (gd_name 4) gd_nil))) (sd_if (ta_test (ea_op oa_gt (ea_call [.k, .d] (aa_cons (ea_var 0) (aa_cons (ea_int _) aa_nil))) (ea_int _))) (sd_put (ea_var 3) (ea_if (ta_test (ea_op oa_gt (ea_call [.k, .d] (aa_cons (ea_var 0) (aa_cons (ea_int _) aa_nil))) (ea_int _))) (ea_var 4) (ea_call [.k] (aa_cons (ea_var 0) aa_nil)))) (sd_of sa_next))) (st_still (sd_if (ta_test (ea_op oa_eq (ea_call [.k, .d] (aa_cons (ea_var 0) (aa_cons (ea_int _) aa_nil))) (ea_int _))) (sd_put (ea_call [.k] (aa_cons (ea_var 0) aa_nil)) (ea_call [.k] (aa_cons (ea_var 0) aa_nil))) (sd_of sa_next)) (sa_ret (ea_cb cb_tupOf (aa_cons (ea_cb cb_sortedD (aa_cons (ea_listItems (ea_var 2)) aa_nil)) aa_nil)))))) h (fun as Φ hn ht => ?_)⟩
  match as, ht with
  | [.dk, .bl xs], ht =>
    obtain ⟨ps, rfl, hl, hp, ht⟩ := ht
    simp only [isiB,aSeq,aIfS,aRet,aRetN,aSet,aDrop,aNext,aNever,aBreak,aCont,aUnp,aUnl,aPar,aAppend,aExtend,aAppendPop,aPopSet,aVar,aC,aTy,aFn,aOp,aCB,aCons,aNil,aTup,aLst,aB,aNot,aAnd,aOr,aAndV,aOrV,aNotV,aIf,aChain,aSl,aNoPart,aPart,aCall,aCallV,aYes,aNeg,aRevL,aRg1,aLstRg,asArgs,asArg,dataOf,listOf,viewOf,dataAll,onB,onP,onL,onT,onS,onZ2,aPut,parOk,parOk2,retR,rdA,stillR,fI0,fII,fEq,fNe,eqS,fIsiA,tyOf,fLen,fLenS,fInt1,fStrI,fMax2,fListOf,fTupOf,fAll,fAny,fIxT,fIxL,fIxQ,fIxS,fRep,fRepT,aRevA,fEqE,fNeE,fSlT,fSlL,fSlQ,fSlS,fCat,fCatT,fAddS,fIsN,fNotN,fNotB,fIsB,noneB,seqOf,fSorted,bName,bTup,bCons,bNil,onRg1,onRg2,cList,cTup,cStr,cRg1,cRg2,cEnum,cEnumT,cZipL,cZipT,cZipQ,wList,wTup,wStr,wRg1,wRg2,wEnum,wEnumT,wipeA,List.map,List.replicate,List.length_cons,List.length_nil,List.cons_append,List.nil_append,List.append_nil,List.getElem?_cons_zero,List.getElem?_cons_succ,List.set_cons_zero,List.set_cons_succ,List.set,Option.map_some,Option.map_none,Option.getD_some,Option.getD_none,reduceIte,Bool.false_eq_true,Bool.not_true,Bool.not_false,and_true,true_and,false_and,Nat.zero_le,ne_eq,not_false_eq_true,atI_0,atI_1,atI_2,atI_3,aDGet,aDGet1,aDGet2,aDIn,aListD,aStar,aDictOf,aSortSetL,aMaxT,aPar3,wKeys,cKeys,cVals,cItems,onO_some,keysOf_kv,valsOf_kv,itemsOf_kv,starItems_kv,dataAll_ds,dataAll_two,aUnpP,uNil,uCons,upOk,noBl,List.all_cons,List.all_nil,Bool.and_true,aSortItems,aOrL,aOdict,fSortedD,fExtD,fMulS,fLtT,fNeT0,aUpper,aSortSetV,cRg3,onRg3,fEqX,fNeX,fSlX,fMin2,fInSign,fNotInSign,aJoin,aTabPar,gStill,gPush,wListG,aSortD,notB,aSortSetS,aTable,tSq,tStill,dOf,dSeq,dIf,dPut,wListD,aListItems,fInDT,fIxQS,fLenQS,fSortedLS,fLtS,fLeS,fEqT0,fInX,fSortedDT,aCallX,xRaise,aTry,aGiven,aPick,aNone,keepI,nLAnyTarget,T_law_any_word,T_draw,T_law_mixed]
    refine ⟨by decide, rfl, fun p => ?_⟩
    refine dfor_bind ?_
    simp only [isiB,aSeq,aIfS,aRet,aRetN,aSet,aDrop,aNext,aNever,aBreak,aCont,aUnp,aUnl,aPar,aAppend,aExtend,aAppendPop,aPopSet,aVar,aC,aTy,aFn,aOp,aCB,aCons,aNil,aTup,aLst,aB,aNot,aAnd,aOr,aAndV,aOrV,aNotV,aIf,aChain,aSl,aNoPart,aPart,aCall,aCallV,aYes,aNeg,aRevL,aRg1,aLstRg,asArgs,asArg,dataOf,listOf,viewOf,dataAll,onB,onP,onL,onT,onS,onZ2,aPut,parOk,parOk2,retR,rdA,stillR,fI0,fII,fEq,fNe,eqS,fIsiA,tyOf,fLen,fLenS,fInt1,fStrI,fMax2,fListOf,fTupOf,fAll,fAny,fIxT,fIxL,fIxQ,fIxS,fRep,fRepT,aRevA,fEqE,fNeE,fSlT,fSlL,fSlQ,fSlS,fCat,fCatT,fAddS,fIsN,fNotN,fNotB,fIsB,noneB,seqOf,fSorted,bName,bTup,bCons,bNil,onRg1,onRg2,cList,cTup,cStr,cRg1,cRg2,cEnum,cEnumT,cZipL,cZipT,cZipQ,wList,wTup,wStr,wRg1,wRg2,wEnum,wEnumT,wipeA,List.map,List.replicate,List.length_cons,List.length_nil,List.cons_append,List.nil_append,List.append_nil,List.getElem?_cons_zero,List.getElem?_cons_succ,List.set_cons_zero,List.set_cons_succ,List.set,Option.map_some,Option.map_none,Option.getD_some,Option.getD_none,reduceIte,Bool.false_eq_true,Bool.not_true,Bool.not_false,and_true,true_and,false_and,Nat.zero_le,ne_eq,not_false_eq_true,atI_0,atI_1,atI_2,atI_3,aDGet,aDGet1,aDGet2,aDIn,aListD,aStar,aDictOf,aSortSetL,aMaxT,aPar3,wKeys,cKeys,cVals,cItems,onO_some,keysOf_kv,valsOf_kv,itemsOf_kv,starItems_kv,dataAll_ds,dataAll_two,aUnpP,uNil,uCons,upOk,noBl,List.all_cons,List.all_nil,Bool.and_true,aSortItems,aOrL,aOdict,fSortedD,fExtD,fMulS,fLtT,fNeT0,aUpper,aSortSetV,cRg3,onRg3,fEqX,fNeX,fSlX,fMin2,fInSign,fNotInSign,aJoin,aTabPar,gStill,gPush,wListG,aSortD,notB,aSortSetS,aTable,tSq,tStill,dOf,dSeq,dIf,dPut,wListD,aListItems,fInDT,fIxQS,fLenQS,fSortedLS,fLtS,fLeS,fEqT0,fInX,fSortedDT,aCallX,xRaise,aTry,aGiven,aPick,aNone,keepI,nLAnyTarget,T_law_any_word,T_draw,T_law_mixed]
    refine ⟨by rw [List.length_map]; omega, fun ys hm hyl => ?_⟩
    rw [List.length_map] at hyl
    refine dfor_inv ys (fun n ρ kvs => ∃ (ts : List (Str × Str)) (u3 u4 : Option AV), ρ = [some AV.dk, some (AV.bl (ps.map encPT)), some (AV.fn p), u3, u4] ∧ kvs = ts.map tabE ∧ (ts.map fun p => p.1).Nodup ∧ (∀ q ∈ ts, Wo q) ∧ ts.length ≤ n) ⟨[], none, none, rfl, rfl, .nil, (fun _ z => nomatch z), Nat.le_refl _⟩ ?_ ?_
    · rintro n x ρ kvs hx ⟨ts, u3, u4, rfl, rfl, nd, tw, tl⟩
      have hn := (List.getElem?_eq_some_iff.mp hx).1
      obtain ⟨q, hq, rfl⟩ := List.mem_map.mp (hm x (List.mem_of_getElem? hx))
      have wq := hp q hq
      refine ⟨rfl, ?_⟩
      simp only [isiB,aSeq,aIfS,aRet,aRetN,aSet,aDrop,aNext,aNever,aBreak,aCont,aUnp,aUnl,aPar,aAppend,aExtend,aAppendPop,aPopSet,aVar,aC,aTy,aFn,aOp,aCB,aCons,aNil,aTup,aLst,aB,aNot,aAnd,aOr,aAndV,aOrV,aNotV,aIf,aChain,aSl,aNoPart,aPart,aCall,aCallV,aYes,aNeg,aRevL,aRg1,aLstRg,asArgs,asArg,dataOf,listOf,viewOf,dataAll,onB,onP,onL,onT,onS,onZ2,aPut,parOk,parOk2,retR,rdA,stillR,fI0,fII,fEq,fNe,eqS,fIsiA,tyOf,fLen,fLenS,fInt1,fStrI,fMax2,fListOf,fTupOf,fAll,fAny,fIxT,fIxL,fIxQ,fIxS,fRep,fRepT,aRevA,fEqE,fNeE,fSlT,fSlL,fSlQ,fSlS,fCat,fCatT,fAddS,fIsN,fNotN,fNotB,fIsB,noneB,seqOf,fSorted,bName,bTup,bCons,bNil,onRg1,onRg2,cList,cTup,cStr,cRg1,cRg2,cEnum,cEnumT,cZipL,cZipT,cZipQ,wList,wTup,wStr,wRg1,wRg2,wEnum,wEnumT,wipeA,List.map,List.replicate,List.length_cons,List.length_nil,List.cons_append,List.nil_append,List.append_nil,List.getElem?_cons_zero,List.getElem?_cons_succ,List.set_cons_zero,List.set_cons_succ,List.set,Option.map_some,Option.map_none,Option.getD_some,Option.getD_none,reduceIte,Bool.false_eq_true,Bool.not_true,Bool.not_false,and_true,true_and,false_and,Nat.zero_le,ne_eq,not_false_eq_true,atI_0,atI_1,atI_2,atI_3,aDGet,aDGet1,aDGet2,aDIn,aListD,aStar,aDictOf,aSortSetL,aMaxT,aPar3,wKeys,cKeys,cVals,cItems,onO_some,keysOf_kv,valsOf_kv,itemsOf_kv,starItems_kv,dataAll_ds,dataAll_two,aUnpP,uNil,uCons,upOk,noBl,List.all_cons,List.all_nil,Bool.and_true,aSortItems,aOrL,aOdict,fSortedD,fExtD,fMulS,fLtT,fNeT0,aUpper,aSortSetV,cRg3,onRg3,fEqX,fNeX,fSlX,fMin2,fInSign,fNotInSign,aJoin,aTabPar,gStill,gPush,wListG,aSortD,notB,aSortSetS,aTable,tSq,tStill,dOf,dSeq,dIf,dPut,wListD,aListItems,fInDT,fIxQS,fLenQS,fSortedLS,fLtS,fLeS,fEqT0,fInX,fSortedDT,aCallX,xRaise,aTry,aGiven,aPick,aNone,keepI,nLAnyTarget,T_law_any_word,T_draw,T_law_mixed,bName,bCons,bNil,List.set_cons_zero,List.set_cons_succ]
      have put : ∀ v : Str, wordS v = true → ∃ k : Key, R.d (.str q.1) = R.d (keyD k) ∧ (ts.map tabE).length < sizeLine ∧ ∃ (ts' : List (Str × Str)) (u3 u4 : Option AV), [some AV.dk, some (AV.bl (ps.map encPT)), some (AV.fn p), some (AV.d (.str q.1)), some (AV.d (.str q.2))] = [some AV.dk, some (AV.bl (ps.map encPT)), some (AV.fn p), u3, u4] ∧ putD (ts.map tabE) k (.str v) = ts'.map tabE ∧ (ts'.map fun p => p.1).Nodup ∧ (∀ q ∈ ts', Wo q) ∧ ts'.length ≤ n + 1 := fun v hv => by
        obtain ⟨ts', e1, e2, e3, e4⟩ := tab_put ts q.1 v nd
        refine ⟨.inr q.1, rfl, by rw [List.length_map]; exact Nat.lt_trans (show ts.length < 1000000 by omega) sizeBig, ts', _, _, rfl, e1, e2, fun z hz => ?_, by omega⟩
        rcases e3 z hz with h | rfl
        · exact tw z h
        · exact ⟨wq.1, hv⟩
      refine ⟨⟨by decide, by decide⟩, fun r _ _ => ite2 (fun _ => ⟨⟨by decide, by decide⟩, fun r2 _ _ => ite2 (fun _ => ⟨_, rfl, put _ wq.2⟩) (fun _ s hs => ⟨_, rfl, put _ hs⟩)⟩) (fun _ => ?_)⟩
      exact ⟨ts, _, _, rfl, rfl, nd, tw, by omega⟩
    · rintro ρ kvs ⟨ts, u3, u4, rfl, rfl, nd, tw, tl⟩
      refine still_hide fun Kc kc => ?_
      have fin : ∀ ts' : List (Str × Str), (ts'.map fun p => p.1).Nodup → (∀ q ∈ ts', Wo q) → ts'.length ≤ ps.length + 1 → Kc [some AV.dk, some (AV.bl (ps.map encPT)), some (AV.fn p), u3, u4] (ts'.map tabE) := fun ts' nd' tw' tl' => kc _ _ (by
        simp only [isiB,aSeq,aIfS,aRet,aRetN,aSet,aDrop,aNext,aNever,aBreak,aCont,aUnp,aUnl,aPar,aAppend,aExtend,aAppendPop,aPopSet,aVar,aC,aTy,aFn,aOp,aCB,aCons,aNil,aTup,aLst,aB,aNot,aAnd,aOr,aAndV,aOrV,aNotV,aIf,aChain,aSl,aNoPart,aPart,aCall,aCallV,aYes,aNeg,aRevL,aRg1,aLstRg,asArgs,asArg,dataOf,listOf,viewOf,dataAll,onB,onP,onL,onT,onS,onZ2,aPut,parOk,parOk2,retR,rdA,stillR,fI0,fII,fEq,fNe,eqS,fIsiA,tyOf,fLen,fLenS,fInt1,fStrI,fMax2,fListOf,fTupOf,fAll,fAny,fIxT,fIxL,fIxQ,fIxS,fRep,fRepT,aRevA,fEqE,fNeE,fSlT,fSlL,fSlQ,fSlS,fCat,fCatT,fAddS,fIsN,fNotN,fNotB,fIsB,noneB,seqOf,fSorted,bName,bTup,bCons,bNil,onRg1,onRg2,cList,cTup,cStr,cRg1,cRg2,cEnum,cEnumT,cZipL,cZipT,cZipQ,wList,wTup,wStr,wRg1,wRg2,wEnum,wEnumT,wipeA,List.map,List.replicate,List.length_cons,List.length_nil,List.cons_append,List.nil_append,List.append_nil,List.getElem?_cons_zero,List.getElem?_cons_succ,List.set_cons_zero,List.set_cons_succ,List.set,Option.map_some,Option.map_none,Option.getD_some,Option.getD_none,reduceIte,Bool.false_eq_true,Bool.not_true,Bool.not_false,and_true,true_and,false_and,Nat.zero_le,ne_eq,not_false_eq_true,atI_0,atI_1,atI_2,atI_3,aDGet,aDGet1,aDGet2,aDIn,aListD,aStar,aDictOf,aSortSetL,aMaxT,aPar3,wKeys,cKeys,cVals,cItems,onO_some,keysOf_kv,valsOf_kv,itemsOf_kv,starItems_kv,dataAll_ds,dataAll_two,aUnpP,uNil,uCons,upOk,noBl,List.all_cons,List.all_nil,Bool.and_true,aSortItems,aOrL,aOdict,fSortedD,fExtD,fMulS,fLtT,fNeT0,aUpper,aSortSetV,cRg3,onRg3,fEqX,fNeX,fSlX,fMin2,fInSign,fNotInSign,aJoin,aTabPar,gStill,gPush,wListG,aSortD,notB,aSortSetS,aTable,tSq,tStill,dOf,dSeq,dIf,dPut,wListD,aListItems,fInDT,fIxQS,fLenQS,fSortedLS,fLtS,fLeS,fEqT0,fInX,fSortedDT,aCallX,xRaise,aTry,aGiven,aPick,aNone,keepI,nLAnyTarget,T_law_any_word,T_draw,T_law_mixed,List.set_cons_zero,List.set_cons_succ]
        refine ⟨_, rfl, _, rfl, ?_, ?_, fun es perm pw => ?_⟩
        · intro d hd e he
          rw [tab_items] at hd he
          obtain ⟨a, _, rfl⟩ := List.mem_map.mp hd
          obtain ⟨b, _, rfl⟩ := List.mem_map.mp he
          exact alikeP
        · intro d hd
          rw [tab_items] at hd
          obtain ⟨a, _, rfl⟩ := List.mem_map.mp hd
          exact ⟨⟨_, _, rfl⟩, by simp [encPT, PyData.depth, PyData.depthAll], by simp [encPT, PyData.hasDict, PyData.hasDictAll]⟩
        · rw [tab_items] at perm
          obtain ⟨ts2, rfl, pm⟩ := perm_enc perm
          exact ht ts2 (fun z hz => tw' z (pm.mem_iff.mp hz)) (asc_pairs pw ((pm.map fun p => p.1).nodup_iff.mpr nd')) (by rw [pm.length_eq]; exact tl'))
      clear kc
      simp only [isiB,aSeq,aIfS,aRet,aRetN,aSet,aDrop,aNext,aNever,aBreak,aCont,aUnp,aUnl,aPar,aAppend,aExtend,aAppendPop,aPopSet,aVar,aC,aTy,aFn,aOp,aCB,aCons,aNil,aTup,aLst,aB,aNot,aAnd,aOr,aAndV,aOrV,aNotV,aIf,aChain,aSl,aNoPart,aPart,aCall,aCallV,aYes,aNeg,aRevL,aRg1,aLstRg,asArgs,asArg,dataOf,listOf,viewOf,dataAll,onB,onP,onL,onT,onS,onZ2,aPut,parOk,parOk2,retR,rdA,stillR,fI0,fII,fEq,fNe,eqS,fIsiA,tyOf,fLen,fLenS,fInt1,fStrI,fMax2,fListOf,fTupOf,fAll,fAny,fIxT,fIxL,fIxQ,fIxS,fRep,fRepT,aRevA,fEqE,fNeE,fSlT,fSlL,fSlQ,fSlS,fCat,fCatT,fAddS,fIsN,fNotN,fNotB,fIsB,noneB,seqOf,fSorted,bName,bTup,bCons,bNil,onRg1,onRg2,cList,cTup,cStr,cRg1,cRg2,cEnum,cEnumT,cZipL,cZipT,cZipQ,wList,wTup,wStr,wRg1,wRg2,wEnum,wEnumT,wipeA,List.map,List.replicate,List.length_cons,List.length_nil,List.cons_append,List.nil_append,List.append_nil,List.getElem?_cons_zero,List.getElem?_cons_succ,List.set_cons_zero,List.set_cons_succ,List.set,Option.map_some,Option.map_none,Option.getD_some,Option.getD_none,reduceIte,Bool.false_eq_true,Bool.not_true,Bool.not_false,and_true,true_and,false_and,Nat.zero_le,ne_eq,not_false_eq_true,atI_0,atI_1,atI_2,atI_3,aDGet,aDGet1,aDGet2,aDIn,aListD,aStar,aDictOf,aSortSetL,aMaxT,aPar3,wKeys,cKeys,cVals,cItems,onO_some,keysOf_kv,valsOf_kv,itemsOf_kv,starItems_kv,dataAll_ds,dataAll_two,aUnpP,uNil,uCons,upOk,noBl,List.all_cons,List.all_nil,Bool.and_true,aSortItems,aOrL,aOdict,fSortedD,fExtD,fMulS,fLtT,fNeT0,aUpper,aSortSetV,cRg3,onRg3,fEqX,fNeX,fSlX,fMin2,fInSign,fNotInSign,aJoin,aTabPar,gStill,gPush,wListG,aSortD,notB,aSortSetS,aTable,tSq,tStill,dOf,dSeq,dIf,dPut,wListD,aListItems,fInDT,fIxQS,fLenQS,fSortedLS,fLtS,fLeS,fEqT0,fInX,fSortedDT,aCallX,xRaise,aTry,aGiven,aPick,aNone,keepI,nLAnyTarget,T_law_any_word,T_draw,T_law_mixed]
      refine ⟨⟨by decide, by decide⟩, fun r _ _ => ite2 (fun _ v hv => ⟨_, rfl, fun k hk => ?_⟩) (fun _ => fin ts nd tw (by omega))⟩
      obtain ⟨ts', e1, e2, e3, e4⟩ := tab_put ts k v nd
      refine ⟨.inr k, rfl, by rw [List.length_map]; exact Nat.lt_trans (show ts.length < 1000000 by omega) sizeBig, ?_⟩
      rw [e1]
      refine fin ts' e2 (fun z hz => ?_) (by omega)
      rcases e3 z hz with h | rfl
      · exact tw z h
      · exact ⟨hk, hv⟩
end


abbrev sCheckCondition : Stmt := top 14
abbrev nCheckCondition : List Str := ["condition"]
abbrev pCheckCondition : List Str := ["condition"]
theorem scCheckCondition : FnScope nCheckCondition pCheckCondition (defScope sCheckCondition) := ⟨rfl, rfl, rfl, by decide +kernel, rfl, by decide +kernel, by decide +kernel⟩
abbrev sCheckTarget : Stmt := top 12
abbrev nCheckTarget : List Str := ["target"]
abbrev pCheckTarget : List Str := ["target"]
theorem scCheckTarget : FnScope nCheckTarget pCheckTarget (defScope sCheckTarget) := ⟨rfl, rfl, rfl, by decide +kernel, rfl, by decide +kernel, by decide +kernel⟩
abbrev sHoldsAt : Stmt := top 16
abbrev nHoldsAt : List Str := ["condition", "target", "kind"]
abbrev pHoldsAt : List Str := ["condition", "target"]
theorem scHoldsAt : FnScope nHoldsAt pHoldsAt (defScope sHoldsAt) := ⟨rfl, rfl, rfl, by decide +kernel, rfl, by decide +kernel, by decide +kernel⟩
abbrev sLHolds : Stmt := top 27
abbrev nLHolds : List Str := ["_law_condition", "_law_target", "_law_word"]
abbrev pLHolds : List Str := ["_law_condition", "_law_target"]
theorem scLHolds : FnScope nLHolds pLHolds (defScope sLHolds) := ⟨rfl, rfl, rfl, by decide +kernel, rfl, by decide +kernel, by decide +kernel⟩
abbrev sLPairsIn : Stmt := top 28
abbrev nLPairsIn : List Str := ["_law_condition", "_law_found", "_law_part"]
abbrev pLPairsIn : List Str := ["_law_condition"]
theorem scLPairsIn : FnScope nLPairsIn pLPairsIn (defScope sLPairsIn) := ⟨rfl, rfl, rfl, by decide +kernel, rfl, by decide +kernel, by decide +kernel⟩
abbrev sDoesHold : Stmt := top 15
abbrev nDoesHold : List Str := ["condition", "target"]
abbrev pDoesHold : List Str := ["condition", "target"]
theorem scDoesHold : FnScope nDoesHold pDoesHold (defScope sDoesHold) := ⟨rfl, rfl, rfl, by decide +kernel, rfl, by decide +kernel, by decide +kernel⟩
def holdD (t : List PyData) : PyData → Bool
  | .tuple [.str _, a] => !holdD t a
  | .tuple [.str k, a, b] => if k = Str.ofString "is" then t.any (fun z => PyData.eqv z (.tuple [a, b])) else if k = Str.ofString "both" then holdD t a && holdD t b else holdD t a || holdD t b
  | _ => true
def TgOk (t : List PyData) : Prop := ∃ ts : List (Str × Str), t = ts.map encPT ∧ (∀ p ∈ ts, Wo p) ∧ ts.length ≤ 200 ∧ ascS (ts.map fun p => p.1) = true
def T_holdK : Nat → FnT
  | 0 => fun _ _ => False
  | k + 1 => fun as Φ => match as with
    | [.d x, .d (.tuple t)] => TgOk t ∧ condD x = true ∧ x.depth ≤ k ∧ Φ (.d (.bool (holdD t x)))
    | _ => False
def T_check_condition : FnT
  | [.d x], Φ => condD x = true ∧ x.depth ≤ 29 ∧ x.bulk ≤ 1000000 ∧ Φ (.d .none)
  | _, _ => False
def T_check_target : FnT
  | [.d x], Φ => targetD x = true ∧ x.bulk ≤ 1000000 ∧ Φ (.d .none)
  | _, _ => False
def T_does_hold : FnT
  | [.d x, .d (.tuple t)], Φ => TgOk t ∧ condD x = true ∧ x.depth ≤ 28 ∧ x.bulk ≤ 1000000 ∧ Φ (.d (.bool (holdD t x)))
  | _, _ => False
def pairsL : PyData → List PyData
  | .tuple [.str _, a] => pairsL a
  | .tuple [.str k, a, b] => if k = Str.ofString "is" then [.tuple [a, b]] else pairsL a ++ pairsL b
  | _ => []
def T_pairsK : Nat → FnT
  | 0 => fun _ _ => False
  | k + 1 => fun as Φ => match as with
    | [.d x] => condD x = true ∧ x.depth ≤ k ∧ x.bulk ≤ 1000000 ∧ Φ (.l (pairsL x))
    | _ => False
/-- the forms of a condition -/
theorem cond_form {x : PyData} (h : condD x = true) : x = .tuple [.str (Str.ofString "always")] ∨ (∃ a, x = .tuple [.str (Str.ofString "not"), a] ∧ condD a = true) ∨ (∃ a b, x = .tuple [.str (Str.ofString "is"), .str a, .str b] ∧ wordS a = true ∧ wordS b = true) ∨ ∃ k a b, x = .tuple [.str k, a, b] ∧ (k = Str.ofString "both" ∨ k = Str.ofString "either") ∧ condD a = true ∧ condD b = true := by
  unfold condD at h
  split at h
  · rw [of_decide_eq_true h]; exact .inl rfl
  · rw [Bool.and_eq_true] at h
    rw [of_decide_eq_true h.1]; exact .inr (.inl ⟨_, rfl, h.2⟩)
  · split at h
    · rename_i e
      rw [Bool.and_eq_true] at h
      obtain ⟨a, rfl⟩ := word_str h.1
      obtain ⟨b, rfl⟩ := word_str h.2
      rw [e]
      exact .inr (.inr (.inl ⟨a, b, rfl, h.1, h.2⟩))
    · rw [Bool.and_eq_true, Bool.and_eq_true, Bool.or_eq_true] at h
      exact .inr (.inr (.inr ⟨_, _, _, rfl, h.1.imp of_decide_eq_true of_decide_eq_true, h.2.1, h.2.2⟩))
  · cases h
theorem wd_of {s : Str} (h : wordS s = true) : Wd s := by
  unfold wordS at h
  rw [Bool.and_eq_true, Bool.and_eq_true] at h
  have h2 := of_decide_eq_true h.1.2
  refine ⟨by have e : s.length = s.cps.size := rfl; omega, fun c hc => ?_⟩
  have := List.all_eq_true.mp h.2 c hc
  rw [Bool.and_eq_true] at this
  have := of_decide_eq_true this.2
  omega
theorem sh_pair {a b : Str} (ha : wordS a = true) (hb : wordS b = true) : Sh 1 (.tuple [.str a, .str b]) := Sh.tup fun d hd => by
  simp only [List.mem_cons, List.not_mem_nil, or_false] at hd
  rcases hd with rfl | rfl
  · exact sh_str (wd_of ha)
  · exact sh_str (wd_of hb)
theorem sh_tg {t : List PyData} (h : TgOk t) : SeqAt.shaped (.tuple t) = true := by
  obtain ⟨ts, rfl, hw, _, _⟩ := h
  refine (Sh.tup (k := 1) fun d hd => ?_).ok (by decide)
  obtain ⟨p, hp, rfl⟩ := List.mem_map.mp hd
  exact sh_pair (hw p hp).1 (hw p hp).2
theorem hold_call {k : Nat} {x : PyData} {t : List PyData} {Φ : R → Prop} (tk : TgOk t) (hc : condD x = true) (hd : x.depth + 1 ≤ k) (h : Φ (.d (.bool (holdD t x)))) : T_holdK k [.d x, .d (.tuple t)] Φ := by
  cases k with
  | zero => omega
  | succ k => exact ⟨tk, hc, by omega, h⟩
theorem dep2 {c : Str} {a : PyData} {k : Nat} (h : (PyData.tuple [.str c, a]).depth ≤ k) : a.depth + 1 ≤ k := by
  simp only [PyData.depth, PyData.depthAll] at h
  omega
theorem dep3 {c : Str} {a b : PyData} {k : Nat} (h : (PyData.tuple [.str c, a, b]).depth ≤ k) : a.depth + 1 ≤ k ∧ b.depth + 1 ≤ k := by
  simp only [PyData.depth, PyData.depthAll] at h
  omega
theorem i12 (x y : PyData) : atI [x, y] 1 = some y := rfl
theorem i13 (x y z : PyData) : atI [x, y, z] 1 = some y := rfl
theorem i23 (x y z : PyData) : atI [x, y, z] 2 = some z := rfl
theorem i02 (x y : PyData) : atI [x, y] 0 = some x := rfl
theorem i03 (x y z : PyData) : atI [x, y, z] 0 = some x := rfl
theorem i01 (x : PyData) : atI [x] 0 = some x := rfl
theorem cut13 (x y z : PyData) : cutD [x, y, z] (some 1) none = [y, z] := rfl
theorem nAI : decide (Str.ofString "always" = Str.ofString "is") = false := by decide +kernel
theorem nAN : decide (Str.ofString "always" = Str.ofString "not") = false := by decide +kernel
theorem nAB : decide (Str.ofString "always" = Str.ofString "both") = false := by decide +kernel
theorem nAE : decide (Str.ofString "always" = Str.ofString "either") = false := by decide +kernel
theorem nNA : decide (Str.ofString "not" = Str.ofString "always") = false := by decide +kernel
theorem nNI : decide (Str.ofString "not" = Str.ofString "is") = false := by decide +kernel
theorem nIA : decide (Str.ofString "is" = Str.ofString "always") = false := by decide +kernel
theorem nBA : decide (Str.ofString "both" = Str.ofString "always") = false := by decide +kernel
theorem nBI : decide (Str.ofString "both" = Str.ofString "is") = false := by decide +kernel
theorem nBN : decide (Str.ofString "both" = Str.ofString "not") = false := by decide +kernel
theorem nEA : decide (Str.ofString "either" = Str.ofString "always") = false := by decide +kernel
theorem nEI : decide (Str.ofString "either" = Str.ofString "is") = false := by decide +kernel
theorem nEN : decide (Str.ofString "either" = Str.ofString "not") = false := by decide +kernel
theorem nEB : decide (Str.ofString "either" = Str.ofString "both") = false := by decide +kernel
theorem holdN (t : List PyData) (a : PyData) (c : Str) : holdD t (.tuple [.str c, a]) = !holdD t a := by simp only [holdD]
theorem holdI (t : List PyData) (a b : PyData) : holdD t (.tuple [.str (Str.ofString "is"), a, b]) = t.any (fun z => PyData.eqv z (.tuple [a, b])) := by simp only [holdD, if_true]
theorem holdB (t : List PyData) (a b : PyData) : holdD t (.tuple [.str (Str.ofString "both"), a, b]) = (holdD t a && holdD t b) := by
  simp only [holdD, if_neg (of_decide_eq_false nBI), if_true]
theorem holdE (t : List PyData) (a b : PyData) : holdD t (.tuple [.str (Str.ofString "either"), a, b]) = (holdD t a || holdD t b) := by
  simp only [holdD, if_neg (of_decide_eq_false nEI), if_neg (of_decide_eq_false nEB)]
theorem pairsI (a b : PyData) : pairsL (.tuple [.str (Str.ofString "is"), a, b]) = [.tuple [a, b]] := by simp only [pairsL, if_true]
theorem pairsN (c : Str) (a : PyData) : pairsL (.tuple [.str c, a]) = pairsL a := by simp only [pairsL]
theorem pairsC {c : Str} (a b : PyData) (h : decide (c = Str.ofString "is") = false) : pairsL (.tuple [.str c, a, b]) = pairsL a ++ pairsL b := by simp only [pairsL, if_neg (of_decide_eq_false h)]
theorem pairs_len : ∀ x : PyData, (pairsL x).length ≤ x.bulk
  | .tuple [.str c, a] => by
    rw [pairsN]
    have := pairs_len a
    simp only [PyData.bulk, PyData.bulkAll]
    omega
  | .tuple [.str c, a, b] => by
    have h1 := pairs_len a
    have h2 := pairs_len b
    have e : (PyData.tuple [.str c, a, b]).bulk = (PyData.str c).bulk + 1 + (a.bulk + 1 + (b.bulk + 1 + 0)) := by simp only [PyData.bulk, PyData.bulkAll]
    rw [e]
    by_cases z : c = Str.ofString "is"
    · rw [z, pairsI]
      show 1 ≤ _
      omega
    · rw [pairsC a b (decide_eq_false z), List.length_append]
      omega
  | .none | .bool _ | .int _ | .str _ | .list _ | .dict _ | .tuple [] | .tuple [.str _] => by unfold pairsL; exact Nat.zero_le _
  | .tuple (.none :: _) | .tuple (.bool _ :: _) | .tuple (.int _ :: _) | .tuple (.list _ :: _) | .tuple (.tuple _ :: _) | .tuple (.dict _ :: _) => by unfold pairsL; exact Nat.zero_le _
  | .tuple (.str _ :: _ :: _ :: _ :: _) => by unfold pairsL; exact Nat.zero_le _
theorem pairs_call {k : Nat} {x : PyData} {Φ : R → Prop} (hc : condD x = true) (hd : x.depth + 1 ≤ k) (hb : x.bulk ≤ 1000000) (h : Φ (.l (pairsL x))) : T_pairsK k [.d x] Φ := by
  cases k with
  | zero => omega
  | succ k => exact ⟨hc, by omega, hb, h⟩
theorem pair_rw {p : Str × Str} (h : Wo p) : Rw (encPT p) 1 40 := Rw.tup (k := 0) (n := 11) (m := 40) (fun d hd => by
  simp only [List.mem_cons, List.not_mem_nil, or_false] at hd
  rcases hd with rfl | rfl
  · exact (wd_of h.1).rw
  · exact (wd_of h.2).rw) (by simp)
section
variable {P : Program} {w : World} {K : PySem.W.Frag} {mg : Str → Option Value} {base : Heap}
theorem ok_CheckCondition {f : Addr} {fd : FuncData} {fIsCondition : Addr} {fdIsCondition : FuncData} (Z : Blt K mg) (D : DefAt K mg "check_condition" sCheckCondition pCheckCondition f fd) (DIsCondition : DefAt K mg "is_condition" sIsCondition pIsCondition fIsCondition fdIsCondition) (GIsCondition : FnOk P w K mg base CX0 62 fIsCondition fdIsCondition pIsCondition (spA 1 K DK (T_condK 30))) : FnOk P w K mg base CX0 63 f fd pCheckCondition (spA 1 K DK T_check_condition) := by
  refine D.F.ok scCheckCondition (fun vs H Q E h => h.len) (fun cdv A outer s0 H vs Q E hr h => ?_)
  have hu := hu_of hr
  refine ⟨_, (pss_one (ps_if (pt_not (pt_val (pe_call GIsCondition (hr.mono (by decide)) rfl DIsCondition.g DIsCondition.F.kp DIsCondition.b .nil pass0 (pa_cons (pv 0) pa_nil))))
    (pss_one ps_never)
    pss_nil)), abs_fn (N := nCheckCondition) (sa_if (ta_not (ta_b (ea_call [.d] (aa_cons (ea_var 0) aa_nil)))) sa_never sa_next) h (fun as Φ hn ht => ?_)⟩
  match as, ht with
  | [.d x], ht =>
    obtain ⟨hc, hd, hb, ht⟩ := ht
    simp only [isiB,aSeq,aIfS,aRet,aRetN,aSet,aDrop,aNext,aNever,aBreak,aCont,aUnp,aUnl,aPar,aAppend,aExtend,aAppendPop,aPopSet,aVar,aC,aTy,aFn,aOp,aCB,aCons,aNil,aTup,aLst,aB,aNot,aAnd,aOr,aAndV,aOrV,aNotV,aIf,aChain,aSl,aNoPart,aPart,aCall,aCallV,aYes,aNeg,aRevL,aRg1,aLstRg,asArgs,asArg,dataOf,listOf,viewOf,dataAll,onB,onP,onL,onT,onS,onZ2,aPut,parOk,parOk2,retR,rdA,stillR,fI0,fII,fEq,fNe,eqS,fIsiA,tyOf,fLen,fLenS,fInt1,fStrI,fMax2,fListOf,fTupOf,fAll,fAny,fIxT,fIxL,fIxQ,fIxS,fRep,fRepT,aRevA,fEqE,fNeE,fSlT,fSlL,fSlQ,fSlS,fCat,fCatT,fAddS,fIsN,fNotN,fNotB,fIsB,noneB,seqOf,fSorted,bName,bTup,bCons,bNil,onRg1,onRg2,cList,cTup,cStr,cRg1,cRg2,cEnum,cEnumT,cZipL,cZipT,cZipQ,wList,wTup,wStr,wRg1,wRg2,wEnum,wEnumT,wipeA,List.map,List.replicate,List.length_cons,List.length_nil,List.cons_append,List.nil_append,List.append_nil,List.getElem?_cons_zero,List.getElem?_cons_succ,List.set_cons_zero,List.set_cons_succ,List.set,Option.map_some,Option.map_none,Option.getD_some,Option.getD_none,reduceIte,Bool.false_eq_true,Bool.not_true,Bool.not_false,and_true,true_and,false_and,Nat.zero_le,ne_eq,not_false_eq_true,atI_0,atI_1,atI_2,atI_3,aDGet,aDGet1,aDGet2,aDIn,aListD,aStar,aDictOf,aSortSetL,aMaxT,aPar3,wKeys,cKeys,cVals,cItems,onO_some,keysOf_kv,valsOf_kv,itemsOf_kv,starItems_kv,dataAll_ds,dataAll_two,aUnpP,uNil,uCons,upOk,noBl,List.all_cons,List.all_nil,Bool.and_true,aSortItems,aOrL,aOdict,fSortedD,fExtD,fMulS,fLtT,fNeT0,aUpper,aSortSetV,cRg3,onRg3,fEqX,fNeX,fSlX,fMin2,fInSign,fNotInSign,aJoin,aTabPar,gStill,gPush,wListG,aSortD,notB,aSortSetS,aTable,tSq,tStill,dOf,dSeq,dIf,dPut,wListD,aListItems,fInDT,fIxQS,fLenQS,fSortedLS,fLtS,fLeS,fEqT0,fInX,fSortedDT,aCallX,xRaise,aTry,aGiven,aPick,aNone,keepI,nCheckCondition,T_condK]
    refine ⟨hd, hb, ?_⟩
    rw [hc]
    exact ht
theorem ok_CheckTarget {f : Addr} {fd : FuncData} {fIsTarget : Addr} {fdIsTarget : FuncData} (Z : Blt K mg) (D : DefAt K mg "check_target" sCheckTarget pCheckTarget f fd) (DIsTarget : DefAt K mg "is_target" sIsTarget pIsTarget fIsTarget fdIsTarget) (GIsTarget : FnOk P w K mg base CX0 3 fIsTarget fdIsTarget pIsTarget (spA 1 K DK T_is_target)) : FnOk P w K mg base CX0 4 f fd pCheckTarget (spA 1 K DK T_check_target) := by
  refine D.F.ok scCheckTarget (fun vs H Q E h => h.len) (fun cdv A outer s0 H vs Q E hr h => ?_)
  have hu := hu_of hr
  refine ⟨_, (pss_one (ps_if (pt_not (pt_val (pe_call GIsTarget (hr.mono (by decide)) rfl DIsTarget.g DIsTarget.F.kp DIsTarget.b .nil pass0 (pa_cons (pv 0) pa_nil))))
    (pss_one ps_never)
    pss_nil)), abs_fn (N := nCheckTarget) (sa_if (ta_not (ta_b (ea_call [.d] (aa_cons (ea_var 0) aa_nil)))) sa_never sa_next) h (fun as Φ hn ht => ?_)⟩
  match as, ht with
  | [.d x], ht =>
    obtain ⟨hc, hb, ht⟩ := ht
    simp only [isiB,aSeq,aIfS,aRet,aRetN,aSet,aDrop,aNext,aNever,aBreak,aCont,aUnp,aUnl,aPar,aAppend,aExtend,aAppendPop,aPopSet,aVar,aC,aTy,aFn,aOp,aCB,aCons,aNil,aTup,aLst,aB,aNot,aAnd,aOr,aAndV,aOrV,aNotV,aIf,aChain,aSl,aNoPart,aPart,aCall,aCallV,aYes,aNeg,aRevL,aRg1,aLstRg,asArgs,asArg,dataOf,listOf,viewOf,dataAll,onB,onP,onL,onT,onS,onZ2,aPut,parOk,parOk2,retR,rdA,stillR,fI0,fII,fEq,fNe,eqS,fIsiA,tyOf,fLen,fLenS,fInt1,fStrI,fMax2,fListOf,fTupOf,fAll,fAny,fIxT,fIxL,fIxQ,fIxS,fRep,fRepT,aRevA,fEqE,fNeE,fSlT,fSlL,fSlQ,fSlS,fCat,fCatT,fAddS,fIsN,fNotN,fNotB,fIsB,noneB,seqOf,fSorted,bName,bTup,bCons,bNil,onRg1,onRg2,cList,cTup,cStr,cRg1,cRg2,cEnum,cEnumT,cZipL,cZipT,cZipQ,wList,wTup,wStr,wRg1,wRg2,wEnum,wEnumT,wipeA,List.map,List.replicate,List.length_cons,List.length_nil,List.cons_append,List.nil_append,List.append_nil,List.getElem?_cons_zero,List.getElem?_cons_succ,List.set_cons_zero,List.set_cons_succ,List.set,Option.map_some,Option.map_none,Option.getD_some,Option.getD_none,reduceIte,Bool.false_eq_true,Bool.not_true,Bool.not_false,and_true,true_and,false_and,Nat.zero_le,ne_eq,not_false_eq_true,atI_0,atI_1,atI_2,atI_3,aDGet,aDGet1,aDGet2,aDIn,aListD,aStar,aDictOf,aSortSetL,aMaxT,aPar3,wKeys,cKeys,cVals,cItems,onO_some,keysOf_kv,valsOf_kv,itemsOf_kv,starItems_kv,dataAll_ds,dataAll_two,aUnpP,uNil,uCons,upOk,noBl,List.all_cons,List.all_nil,Bool.and_true,aSortItems,aOrL,aOdict,fSortedD,fExtD,fMulS,fLtT,fNeT0,aUpper,aSortSetV,cRg3,onRg3,fEqX,fNeX,fSlX,fMin2,fInSign,fNotInSign,aJoin,aTabPar,gStill,gPush,wListG,aSortD,notB,aSortSetS,aTable,tSq,tStill,dOf,dSeq,dIf,dPut,wListD,aListItems,fInDT,fIxQS,fLenQS,fSortedLS,fLtS,fLeS,fEqT0,fInX,fSortedDT,aCallX,xRaise,aTry,aGiven,aPick,aNone,keepI,nCheckTarget,T_is_target]
    refine ⟨hb, ?_⟩
    rw [hc]
    exact ht
theorem okR_HoldsAt {f : Addr} {fd : FuncData} (Z : Blt K mg) (D : DefAt K mg "holds_at" sHoldsAt pHoldsAt f fd) : ∀ k : Nat, FnOk P w K mg base CX0 (1 + k) f fd pHoldsAt (spA 2 K DK (T_holdK k)) := by
  intro k
  induction k with
  | zero => exact ⟨fun vs H Q E h => h.len, fun A outer s H args us vs Q E _ _ _ _ h => by obtain ⟨G, as, Φ, _, _, _, _, ht, _⟩ := h; exact ht.elim⟩
  | succ k GHoldsAt =>
    have DHoldsAt := D
    refine D.F.ok scHoldsAt (fun vs H Q E h => h.len) (fun cdv A outer s0 H vs Q E hr h => ?_)
    have hu := hu_of hr
    have hr0 := (show Room (1 + k) _ from hr)
    have hr3 := hr0.mono (Nat.le_add_right 1 k)
    refine ⟨_, (pss_cons (ps_set (i := 2) scHoldsAt.nd rfl (Or.inl rfl) (pe_ix ix_tup (pv 0) pe_int (fun _ _ => rfl)))
    (pss_cons (ps_if (pt_cmpR op_eq (pv 2) pe_str (nomark _))
    (pss_one (ps_ret pe_bl))
    pss_nil)
    (pss_cons (ps_if (pt_cmpR op_eq (pv 2) pe_str (nomark _))
    (pss_one (ps_ret (pe_cmpR (op_inDT (u65 hr)) (pe_slice sl_tupA (pv 0) (po_some pe_int) po_none) (pv 1) (by rfl))))
    pss_nil)
    (pss_cons (ps_if (pt_cmpR op_eq (pv 2) pe_str (nomark _))
    (pss_one (ps_ret (pe_not (pe_call GHoldsAt hr0 rfl DHoldsAt.g DHoldsAt.F.kp DHoldsAt.b .nil pass0 (pa_cons (pe_ix ix_tup (pv 0) pe_int (fun _ _ => rfl)) (pa_cons (pv 1) pa_nil))))))
    pss_nil)
    (pss_cons (ps_if (pt_cmpR op_eq (pv 2) pe_str (nomark _))
    (pss_one (ps_ret (pe_and (pe_call GHoldsAt hr0 rfl DHoldsAt.g DHoldsAt.F.kp DHoldsAt.b .nil pass0 (pa_cons (pe_ix ix_tup (pv 0) pe_int (fun _ _ => rfl)) (pa_cons (pv 1) pa_nil))) (pe_one (pe_call GHoldsAt hr0 rfl DHoldsAt.g DHoldsAt.F.kp DHoldsAt.b .nil pass0 (pa_cons (pe_ix ix_tup (pv 0) pe_int (fun _ _ => rfl)) (pa_cons (pv 1) pa_nil)))))))
    pss_nil)
    (pss_one (ps_ret (pe_or (pe_call GHoldsAt hr0 rfl DHoldsAt.g DHoldsAt.F.kp DHoldsAt.b .nil pass0 (pa_cons (pe_ix ix_tup (pv 0) pe_int (fun _ _ => rfl)) (pa_cons (pv 1) pa_nil))) (pe_one (pe_call GHoldsAt hr0 rfl DHoldsAt.g DHoldsAt.F.kp DHoldsAt.b .nil pass0 (pa_cons (pe_ix ix_tup (pv 0) pe_int (fun _ _ => rfl)) (pa_cons (pv 1) pa_nil)))))))))))), abs_fn (N := nHoldsAt) (sa_seq (sa_set (ea_op oa_ixT (ea_var 0) (ea_int _))) (sa_seq (sa_if (ta_test (ea_op oa_eq (ea_var 2) (ea_str _))) (sa_ret (ea_bl _)) sa_next) (sa_seq (sa_if (ta_test (ea_op oa_eq (ea_var 2) (ea_str _))) (sa_ret (ea_op (oa_inDT false) (ea_sl sa_slT (ea_var 0) (ao_some (ea_int _)) ao_none) (ea_var 1))) sa_next) (sa_seq (sa_if (ta_test (ea_op oa_eq (ea_var 2) (ea_str _))) (sa_ret (ea_not (ea_call [.d, .d] (aa_cons (ea_op oa_ixT (ea_var 0) (ea_int _)) (aa_cons (ea_var 1) aa_nil))))) sa_next) (sa_seq (sa_if (ta_test (ea_op oa_eq (ea_var 2) (ea_str _))) (sa_ret (ea_and (ea_call [.d, .d] (aa_cons (ea_op oa_ixT (ea_var 0) (ea_int _)) (aa_cons (ea_var 1) aa_nil))) (ea_call [.d, .d] (aa_cons (ea_op oa_ixT (ea_var 0) (ea_int _)) (aa_cons (ea_var 1) aa_nil))))) sa_next) (sa_ret (ea_or (ea_call [.d, .d] (aa_cons (ea_op oa_ixT (ea_var 0) (ea_int _)) (aa_cons (ea_var 1) aa_nil))) (ea_call [.d, .d] (aa_cons (ea_op oa_ixT (ea_var 0) (ea_int _)) (aa_cons (ea_var 1) aa_nil)))))))))) h (fun as Φ hn ht => ?_)⟩
    match as, ht with
    | [.d x, .d (.tuple t)], ht =>
      obtain ⟨tk, hc, hd, ht⟩ := ht
      have ff : (false = true) = False := eq_false Bool.false_ne_true
      rcases cond_form hc with rfl | ⟨a, rfl, ha⟩ | ⟨a, b, rfl, ha, hb⟩ | ⟨c, a, b, rfl, hk, ha, hb⟩
      · simp only [isiB,aSeq,aIfS,aRet,aRetN,aSet,aDrop,aNext,aNever,aBreak,aCont,aUnp,aUnl,aPar,aAppend,aExtend,aAppendPop,aPopSet,aVar,aC,aTy,aFn,aOp,aCB,aCons,aNil,aTup,aLst,aB,aNot,aAnd,aOr,aAndV,aOrV,aNotV,aIf,aChain,aSl,aNoPart,aPart,aCall,aCallV,aYes,aNeg,aRevL,aRg1,aLstRg,asArgs,asArg,dataOf,listOf,viewOf,dataAll,onB,onP,onL,onT,onS,onZ2,aPut,parOk,parOk2,retR,rdA,stillR,fI0,fII,fEq,fNe,eqS,fIsiA,tyOf,fLen,fLenS,fInt1,fStrI,fMax2,fListOf,fTupOf,fAll,fAny,fIxT,fIxL,fIxQ,fIxS,fRep,fRepT,aRevA,fEqE,fNeE,fSlT,fSlL,fSlQ,fSlS,fCat,fCatT,fAddS,fIsN,fNotN,fNotB,fIsB,noneB,seqOf,fSorted,bName,bTup,bCons,bNil,onRg1,onRg2,cList,cTup,cStr,cRg1,cRg2,cEnum,cEnumT,cZipL,cZipT,cZipQ,wList,wTup,wStr,wRg1,wRg2,wEnum,wEnumT,wipeA,List.map,List.replicate,List.length_cons,List.length_nil,List.cons_append,List.nil_append,List.append_nil,List.getElem?_cons_zero,List.getElem?_cons_succ,List.set_cons_zero,List.set_cons_succ,List.set,Option.map_some,Option.map_none,Option.getD_some,Option.getD_none,reduceIte,Bool.false_eq_true,Bool.not_true,Bool.not_false,and_true,true_and,false_and,Nat.zero_le,ne_eq,not_false_eq_true,atI_0,atI_1,atI_2,atI_3,aDGet,aDGet1,aDGet2,aDIn,aListD,aStar,aDictOf,aSortSetL,aMaxT,aPar3,wKeys,cKeys,cVals,cItems,onO_some,keysOf_kv,valsOf_kv,itemsOf_kv,starItems_kv,dataAll_ds,dataAll_two,aUnpP,uNil,uCons,upOk,noBl,List.all_cons,List.all_nil,Bool.and_true,aSortItems,aOrL,aOdict,fSortedD,fExtD,fMulS,fLtT,fNeT0,aUpper,aSortSetV,cRg3,onRg3,fEqX,fNeX,fSlX,fMin2,fInSign,fNotInSign,aJoin,aTabPar,gStill,gPush,wListG,aSortD,notB,aSortSetS,aTable,tSq,tStill,dOf,dSeq,dIf,dPut,wListD,aListItems,fInDT,fIxQS,fLenQS,fSortedLS,fLtS,fLeS,fEqT0,fInX,fSortedDT,aCallX,xRaise,aTry,aGiven,aPick,aNone,keepI,nHoldsAt,i01,nAI,nAN,nAB,nAE,decide_true,ff,if_true,if_false]
        exact ht
      · simp only [isiB,aSeq,aIfS,aRet,aRetN,aSet,aDrop,aNext,aNever,aBreak,aCont,aUnp,aUnl,aPar,aAppend,aExtend,aAppendPop,aPopSet,aVar,aC,aTy,aFn,aOp,aCB,aCons,aNil,aTup,aLst,aB,aNot,aAnd,aOr,aAndV,aOrV,aNotV,aIf,aChain,aSl,aNoPart,aPart,aCall,aCallV,aYes,aNeg,aRevL,aRg1,aLstRg,asArgs,asArg,dataOf,listOf,viewOf,dataAll,onB,onP,onL,onT,onS,onZ2,aPut,parOk,parOk2,retR,rdA,stillR,fI0,fII,fEq,fNe,eqS,fIsiA,tyOf,fLen,fLenS,fInt1,fStrI,fMax2,fListOf,fTupOf,fAll,fAny,fIxT,fIxL,fIxQ,fIxS,fRep,fRepT,aRevA,fEqE,fNeE,fSlT,fSlL,fSlQ,fSlS,fCat,fCatT,fAddS,fIsN,fNotN,fNotB,fIsB,noneB,seqOf,fSorted,bName,bTup,bCons,bNil,onRg1,onRg2,cList,cTup,cStr,cRg1,cRg2,cEnum,cEnumT,cZipL,cZipT,cZipQ,wList,wTup,wStr,wRg1,wRg2,wEnum,wEnumT,wipeA,List.map,List.replicate,List.length_cons,List.length_nil,List.cons_append,List.nil_append,List.append_nil,List.getElem?_cons_zero,List.getElem?_cons_succ,List.set_cons_zero,List.set_cons_succ,List.set,Option.map_some,Option.map_none,Option.getD_some,Option.getD_none,reduceIte,Bool.false_eq_true,Bool.not_true,Bool.not_false,and_true,true_and,false_and,Nat.zero_le,ne_eq,not_false_eq_true,atI_0,atI_1,atI_2,atI_3,aDGet,aDGet1,aDGet2,aDIn,aListD,aStar,aDictOf,aSortSetL,aMaxT,aPar3,wKeys,cKeys,cVals,cItems,onO_some,keysOf_kv,valsOf_kv,itemsOf_kv,starItems_kv,dataAll_ds,dataAll_two,aUnpP,uNil,uCons,upOk,noBl,List.all_cons,List.all_nil,Bool.and_true,aSortItems,aOrL,aOdict,fSortedD,fExtD,fMulS,fLtT,fNeT0,aUpper,aSortSetV,cRg3,onRg3,fEqX,fNeX,fSlX,fMin2,fInSign,fNotInSign,aJoin,aTabPar,gStill,gPush,wListG,aSortD,notB,aSortSetS,aTable,tSq,tStill,dOf,dSeq,dIf,dPut,wListD,aListItems,fInDT,fIxQS,fLenQS,fSortedLS,fLtS,fLeS,fEqT0,fInX,fSortedDT,aCallX,xRaise,aTry,aGiven,aPick,aNone,keepI,nHoldsAt,i02,i12,nNI,nNA,decide_true,ff,if_true,if_false]
        refine hold_call tk ha (dep2 hd) ?_
        rw [holdN] at ht
        exact ht
      · simp only [isiB,aSeq,aIfS,aRet,aRetN,aSet,aDrop,aNext,aNever,aBreak,aCont,aUnp,aUnl,aPar,aAppend,aExtend,aAppendPop,aPopSet,aVar,aC,aTy,aFn,aOp,aCB,aCons,aNil,aTup,aLst,aB,aNot,aAnd,aOr,aAndV,aOrV,aNotV,aIf,aChain,aSl,aNoPart,aPart,aCall,aCallV,aYes,aNeg,aRevL,aRg1,aLstRg,asArgs,asArg,dataOf,listOf,viewOf,dataAll,onB,onP,onL,onT,onS,onZ2,aPut,parOk,parOk2,retR,rdA,stillR,fI0,fII,fEq,fNe,eqS,fIsiA,tyOf,fLen,fLenS,fInt1,fStrI,fMax2,fListOf,fTupOf,fAll,fAny,fIxT,fIxL,fIxQ,fIxS,fRep,fRepT,aRevA,fEqE,fNeE,fSlT,fSlL,fSlQ,fSlS,fCat,fCatT,fAddS,fIsN,fNotN,fNotB,fIsB,noneB,seqOf,fSorted,bName,bTup,bCons,bNil,onRg1,onRg2,cList,cTup,cStr,cRg1,cRg2,cEnum,cEnumT,cZipL,cZipT,cZipQ,wList,wTup,wStr,wRg1,wRg2,wEnum,wEnumT,wipeA,List.map,List.replicate,List.length_cons,List.length_nil,List.cons_append,List.nil_append,List.append_nil,List.getElem?_cons_zero,List.getElem?_cons_succ,List.set_cons_zero,List.set_cons_succ,List.set,Option.map_some,Option.map_none,Option.getD_some,Option.getD_none,reduceIte,Bool.false_eq_true,Bool.not_true,Bool.not_false,and_true,true_and,false_and,Nat.zero_le,ne_eq,not_false_eq_true,atI_0,atI_1,atI_2,atI_3,aDGet,aDGet1,aDGet2,aDIn,aListD,aStar,aDictOf,aSortSetL,aMaxT,aPar3,wKeys,cKeys,cVals,cItems,onO_some,keysOf_kv,valsOf_kv,itemsOf_kv,starItems_kv,dataAll_ds,dataAll_two,aUnpP,uNil,uCons,upOk,noBl,List.all_cons,List.all_nil,Bool.and_true,aSortItems,aOrL,aOdict,fSortedD,fExtD,fMulS,fLtT,fNeT0,aUpper,aSortSetV,cRg3,onRg3,fEqX,fNeX,fSlX,fMin2,fInSign,fNotInSign,aJoin,aTabPar,gStill,gPush,wListG,aSortD,notB,aSortSetS,aTable,tSq,tStill,dOf,dSeq,dIf,dPut,wListD,aListItems,fInDT,fIxQS,fLenQS,fSortedLS,fLtS,fLeS,fEqT0,fInX,fSortedDT,aCallX,xRaise,aTry,aGiven,aPick,aNone,keepI,nHoldsAt,i03,cut13,nIA,decide_true,ff,if_true,if_false]
        refine ⟨(sh_pair ha hb).ok (by decide), sh_tg tk, ?_⟩
        rw [holdI] at ht
        exact ht
      · obtain ⟨da, db⟩ := dep3 hd
        rcases hk with rfl | rfl
        · simp only [isiB,aSeq,aIfS,aRet,aRetN,aSet,aDrop,aNext,aNever,aBreak,aCont,aUnp,aUnl,aPar,aAppend,aExtend,aAppendPop,aPopSet,aVar,aC,aTy,aFn,aOp,aCB,aCons,aNil,aTup,aLst,aB,aNot,aAnd,aOr,aAndV,aOrV,aNotV,aIf,aChain,aSl,aNoPart,aPart,aCall,aCallV,aYes,aNeg,aRevL,aRg1,aLstRg,asArgs,asArg,dataOf,listOf,viewOf,dataAll,onB,onP,onL,onT,onS,onZ2,aPut,parOk,parOk2,retR,rdA,stillR,fI0,fII,fEq,fNe,eqS,fIsiA,tyOf,fLen,fLenS,fInt1,fStrI,fMax2,fListOf,fTupOf,fAll,fAny,fIxT,fIxL,fIxQ,fIxS,fRep,fRepT,aRevA,fEqE,fNeE,fSlT,fSlL,fSlQ,fSlS,fCat,fCatT,fAddS,fIsN,fNotN,fNotB,fIsB,noneB,seqOf,fSorted,bName,bTup,bCons,bNil,onRg1,onRg2,cList,cTup,cStr,cRg1,cRg2,cEnum,cEnumT,cZipL,cZipT,cZipQ,wList,wTup,wStr,wRg1,wRg2,wEnum,wEnumT,wipeA,List.map,List.replicate,List.length_cons,List.length_nil,List.cons_append,List.nil_append,List.append_nil,List.getElem?_cons_zero,List.getElem?_cons_succ,List.set_cons_zero,List.set_cons_succ,List.set,Option.map_some,Option.map_none,Option.getD_some,Option.getD_none,reduceIte,Bool.false_eq_true,Bool.not_true,Bool.not_false,and_true,true_and,false_and,Nat.zero_le,ne_eq,not_false_eq_true,atI_0,atI_1,atI_2,atI_3,aDGet,aDGet1,aDGet2,aDIn,aListD,aStar,aDictOf,aSortSetL,aMaxT,aPar3,wKeys,cKeys,cVals,cItems,onO_some,keysOf_kv,valsOf_kv,itemsOf_kv,starItems_kv,dataAll_ds,dataAll_two,aUnpP,uNil,uCons,upOk,noBl,List.all_cons,List.all_nil,Bool.and_true,aSortItems,aOrL,aOdict,fSortedD,fExtD,fMulS,fLtT,fNeT0,aUpper,aSortSetV,cRg3,onRg3,fEqX,fNeX,fSlX,fMin2,fInSign,fNotInSign,aJoin,aTabPar,gStill,gPush,wListG,aSortD,notB,aSortSetS,aTable,tSq,tStill,dOf,dSeq,dIf,dPut,wListD,aListItems,fInDT,fIxQS,fLenQS,fSortedLS,fLtS,fLeS,fEqT0,fInX,fSortedDT,aCallX,xRaise,aTry,aGiven,aPick,aNone,keepI,nHoldsAt,i03,i13,i23,nBA,nBI,nBN,decide_true,ff,if_true,if_false]
          rw [holdB] at ht
          refine hold_call tk ha da ?_
          show if holdD t a = true then _ else _
          refine ite2 (fun e => hold_call tk hb db ?_) (fun e => ?_)
          · rw [e, Bool.true_and] at ht
            exact ht
          · rw [Bool.eq_false_iff.mpr e, Bool.false_and] at ht
            exact ht
        · simp only [isiB,aSeq,aIfS,aRet,aRetN,aSet,aDrop,aNext,aNever,aBreak,aCont,aUnp,aUnl,aPar,aAppend,aExtend,aAppendPop,aPopSet,aVar,aC,aTy,aFn,aOp,aCB,aCons,aNil,aTup,aLst,aB,aNot,aAnd,aOr,aAndV,aOrV,aNotV,aIf,aChain,aSl,aNoPart,aPart,aCall,aCallV,aYes,aNeg,aRevL,aRg1,aLstRg,asArgs,asArg,dataOf,listOf,viewOf,dataAll,onB,onP,onL,onT,onS,onZ2,aPut,parOk,parOk2,retR,rdA,stillR,fI0,fII,fEq,fNe,eqS,fIsiA,tyOf,fLen,fLenS,fInt1,fStrI,fMax2,fListOf,fTupOf,fAll,fAny,fIxT,fIxL,fIxQ,fIxS,fRep,fRepT,aRevA,fEqE,fNeE,fSlT,fSlL,fSlQ,fSlS,fCat,fCatT,fAddS,fIsN,fNotN,fNotB,fIsB,noneB,seqOf,fSorted,bName,bTup,bCons,bNil,onRg1,onRg2,cList,cTup,cStr,cRg1,cRg2,cEnum,cEnumT,cZipL,cZipT,cZipQ,wList,wTup,wStr,wRg1,wRg2,wEnum,wEnumT,wipeA,List.map,List.replicate,List.length_cons,List.length_nil,List.cons_append,List.nil_append,List.append_nil,List.getElem?_cons_zero,List.getElem?_cons_succ,List.set_cons_zero,List.set_cons_succ,List.set,Option.map_some,Option.map_none,Option.getD_some,Option.getD_none,reduceIte,Bool.false_eq_true,Bool.not_true,Bool.not_false,and_true,true_and,false_and,Nat.zero_le,ne_eq,not_false_eq_true,atI_0,atI_1,atI_2,atI_3,aDGet,aDGet1,aDGet2,aDIn,aListD,aStar,aDictOf,aSortSetL,aMaxT,aPar3,wKeys,cKeys,cVals,cItems,onO_some,keysOf_kv,valsOf_kv,itemsOf_kv,starItems_kv,dataAll_ds,dataAll_two,aUnpP,uNil,uCons,upOk,noBl,List.all_cons,List.all_nil,Bool.and_true,aSortItems,aOrL,aOdict,fSortedD,fExtD,fMulS,fLtT,fNeT0,aUpper,aSortSetV,cRg3,onRg3,fEqX,fNeX,fSlX,fMin2,fInSign,fNotInSign,aJoin,aTabPar,gStill,gPush,wListG,aSortD,notB,aSortSetS,aTable,tSq,tStill,dOf,dSeq,dIf,dPut,wListD,aListItems,fInDT,fIxQS,fLenQS,fSortedLS,fLtS,fLeS,fEqT0,fInX,fSortedDT,aCallX,xRaise,aTry,aGiven,aPick,aNone,keepI,nHoldsAt,i03,i13,i23,nEA,nEI,nEN,nEB,decide_true,ff,if_true,if_false]
          rw [holdE] at ht
          refine hold_call tk ha da ?_
          show if holdD t a = true then _ else _
          refine ite2 (fun e => ?_) (fun e => hold_call tk hb db ?_)
          · rw [e, Bool.true_or] at ht
            exact ht
          · rw [Bool.eq_false_iff.mpr e, Bool.false_or] at ht
            exact ht
theorem ok_HoldsAt {f : Addr} {fd : FuncData} (Z : Blt K mg) (D : DefAt K mg "holds_at" sHoldsAt pHoldsAt f fd) : FnOk P w K mg base CX0 31 f fd pHoldsAt (spA 2 K DK (T_holdK 30)) := okR_HoldsAt Z D 30
theorem okR_LHolds {f : Addr} {fd : FuncData} (Z : Blt K mg) (D : DefAt K mg "_law_holds" sLHolds pLHolds f fd) : ∀ k : Nat, FnOk P w K mg base CX0 (1 + k) f fd pLHolds (spA 2 K DK (T_holdK k)) := by
  intro k
  induction k with
  | zero => exact ⟨fun vs H Q E h => h.len, fun A outer s H args us vs Q E _ _ _ _ h => by obtain ⟨G, as, Φ, _, _, _, _, ht, _⟩ := h; exact ht.elim⟩
  | succ k GLHolds =>
    have DLHolds := D
    refine D.F.ok scLHolds (fun vs H Q E h => h.len) (fun cdv A outer s0 H vs Q E hr h => ?_)
    have hu := hu_of hr
    have hr0 := (show Room (1 + k) _ from hr)
    have hr3 := hr0.mono (Nat.le_add_right 1 k)
    refine ⟨_, (pss_cons (ps_set (i := 2) scLHolds.nd rfl (Or.inl rfl) (pe_ix ix_tup (pv 0) pe_int (fun _ _ => rfl)))
    (pss_cons (ps_if (pt_cmpR op_eq (pv 2) pe_str (nomark _))
    (pss_one (ps_ret (pe_cmpR (op_inDT (u65 hr)) (pe_slice sl_tupA (pv 0) (po_some pe_int) po_none) (pv 1) (by rfl))))
    pss_nil)
    (pss_cons (ps_if (pt_cmpR op_eq (pv 2) pe_str (nomark _))
    (pss_one (ps_ret (pe_not (pe_call GLHolds hr0 rfl DLHolds.g DLHolds.F.kp DLHolds.b .nil pass0 (pa_cons (pe_ix ix_tup (pv 0) pe_int (fun _ _ => rfl)) (pa_cons (pv 1) pa_nil))))))
    pss_nil)
    (pss_cons (ps_if (pt_cmpR op_eq (pv 2) pe_str (nomark _))
    (pss_one (ps_ret (pe_and (pe_call GLHolds hr0 rfl DLHolds.g DLHolds.F.kp DLHolds.b .nil pass0 (pa_cons (pe_ix ix_tup (pv 0) pe_int (fun _ _ => rfl)) (pa_cons (pv 1) pa_nil))) (pe_one (pe_call GLHolds hr0 rfl DLHolds.g DLHolds.F.kp DLHolds.b .nil pass0 (pa_cons (pe_ix ix_tup (pv 0) pe_int (fun _ _ => rfl)) (pa_cons (pv 1) pa_nil)))))))
    pss_nil)
    (pss_cons (ps_if (pt_cmpR op_eq (pv 2) pe_str (nomark _))
    (pss_one (ps_ret (pe_or (pe_call GLHolds hr0 rfl DLHolds.g DLHolds.F.kp DLHolds.b .nil pass0 (pa_cons (pe_ix ix_tup (pv 0) pe_int (fun _ _ => rfl)) (pa_cons (pv 1) pa_nil))) (pe_one (pe_call GLHolds hr0 rfl DLHolds.g DLHolds.F.kp DLHolds.b .nil pass0 (pa_cons (pe_ix ix_tup (pv 0) pe_int (fun _ _ => rfl)) (pa_cons (pv 1) pa_nil)))))))
    pss_nil)
    (pss_one (ps_ret pe_bl))))))), abs_fn (N := nLHolds) (sa_seq (sa_set (ea_op oa_ixT (ea_var 0) (ea_int _))) (sa_seq (sa_if (ta_test (ea_op oa_eq (ea_var 2) (ea_str _))) (sa_ret (ea_op (oa_inDT false) (ea_sl sa_slT (ea_var 0) (ao_some (ea_int _)) ao_none) (ea_var 1))) sa_next) (sa_seq (sa_if (ta_test (ea_op oa_eq (ea_var 2) (ea_str _))) (sa_ret (ea_not (ea_call [.d, .d] (aa_cons (ea_op oa_ixT (ea_var 0) (ea_int _)) (aa_cons (ea_var 1) aa_nil))))) sa_next) (sa_seq (sa_if (ta_test (ea_op oa_eq (ea_var 2) (ea_str _))) (sa_ret (ea_and (ea_call [.d, .d] (aa_cons (ea_op oa_ixT (ea_var 0) (ea_int _)) (aa_cons (ea_var 1) aa_nil))) (ea_call [.d, .d] (aa_cons (ea_op oa_ixT (ea_var 0) (ea_int _)) (aa_cons (ea_var 1) aa_nil))))) sa_next) (sa_seq (sa_if (ta_test (ea_op oa_eq (ea_var 2) (ea_str _))) (sa_ret (ea_or (ea_call [.d, .d] (aa_cons (ea_op oa_ixT (ea_var 0) (ea_int _)) (aa_cons (ea_var 1) aa_nil))) (ea_call [.d, .d] (aa_cons (ea_op oa_ixT (ea_var 0) (ea_int _)) (aa_cons (ea_var 1) aa_nil))))) sa_next) (sa_ret (ea_bl _))))))) h (fun as Φ hn ht => ?_)⟩
    match as, ht with
    | [.d x, .d (.tuple t)], ht =>
      obtain ⟨tk, hc, hd, ht⟩ := ht
      have ff : (false = true) = False := eq_false Bool.false_ne_true
      rcases cond_form hc with rfl | ⟨a, rfl, ha⟩ | ⟨a, b, rfl, ha, hb⟩ | ⟨c, a, b, rfl, hk, ha, hb⟩
      · simp only [isiB,aSeq,aIfS,aRet,aRetN,aSet,aDrop,aNext,aNever,aBreak,aCont,aUnp,aUnl,aPar,aAppend,aExtend,aAppendPop,aPopSet,aVar,aC,aTy,aFn,aOp,aCB,aCons,aNil,aTup,aLst,aB,aNot,aAnd,aOr,aAndV,aOrV,aNotV,aIf,aChain,aSl,aNoPart,aPart,aCall,aCallV,aYes,aNeg,aRevL,aRg1,aLstRg,asArgs,asArg,dataOf,listOf,viewOf,dataAll,onB,onP,onL,onT,onS,onZ2,aPut,parOk,parOk2,retR,rdA,stillR,fI0,fII,fEq,fNe,eqS,fIsiA,tyOf,fLen,fLenS,fInt1,fStrI,fMax2,fListOf,fTupOf,fAll,fAny,fIxT,fIxL,fIxQ,fIxS,fRep,fRepT,aRevA,fEqE,fNeE,fSlT,fSlL,fSlQ,fSlS,fCat,fCatT,fAddS,fIsN,fNotN,fNotB,fIsB,noneB,seqOf,fSorted,bName,bTup,bCons,bNil,onRg1,onRg2,cList,cTup,cStr,cRg1,cRg2,cEnum,cEnumT,cZipL,cZipT,cZipQ,wList,wTup,wStr,wRg1,wRg2,wEnum,wEnumT,wipeA,List.map,List.replicate,List.length_cons,List.length_nil,List.cons_append,List.nil_append,List.append_nil,List.getElem?_cons_zero,List.getElem?_cons_succ,List.set_cons_zero,List.set_cons_succ,List.set,Option.map_some,Option.map_none,Option.getD_some,Option.getD_none,reduceIte,Bool.false_eq_true,Bool.not_true,Bool.not_false,and_true,true_and,false_and,Nat.zero_le,ne_eq,not_false_eq_true,atI_0,atI_1,atI_2,atI_3,aDGet,aDGet1,aDGet2,aDIn,aListD,aStar,aDictOf,aSortSetL,aMaxT,aPar3,wKeys,cKeys,cVals,cItems,onO_some,keysOf_kv,valsOf_kv,itemsOf_kv,starItems_kv,dataAll_ds,dataAll_two,aUnpP,uNil,uCons,upOk,noBl,List.all_cons,List.all_nil,Bool.and_true,aSortItems,aOrL,aOdict,fSortedD,fExtD,fMulS,fLtT,fNeT0,aUpper,aSortSetV,cRg3,onRg3,fEqX,fNeX,fSlX,fMin2,fInSign,fNotInSign,aJoin,aTabPar,gStill,gPush,wListG,aSortD,notB,aSortSetS,aTable,tSq,tStill,dOf,dSeq,dIf,dPut,wListD,aListItems,fInDT,fIxQS,fLenQS,fSortedLS,fLtS,fLeS,fEqT0,fInX,fSortedDT,aCallX,xRaise,aTry,aGiven,aPick,aNone,keepI,nLHolds,i01,nAI,nAN,nAB,nAE,decide_true,ff,if_true,if_false]
        exact ht
      · simp only [isiB,aSeq,aIfS,aRet,aRetN,aSet,aDrop,aNext,aNever,aBreak,aCont,aUnp,aUnl,aPar,aAppend,aExtend,aAppendPop,aPopSet,aVar,aC,aTy,aFn,aOp,aCB,aCons,aNil,aTup,aLst,aB,aNot,aAnd,aOr,aAndV,aOrV,aNotV,aIf,aChain,aSl,aNoPart,aPart,aCall,aCallV,aYes,aNeg,aRevL,aRg1,aLstRg,asArgs,asArg,dataOf,listOf,viewOf,dataAll,onB,onP,onL,onT,onS,onZ2,aPut,parOk,parOk2,retR,rdA,stillR,fI0,fII,fEq,fNe,eqS,fIsiA,tyOf,fLen,fLenS,fInt1,fStrI,fMax2,fListOf,fTupOf,fAll,fAny,fIxT,fIxL,fIxQ,fIxS,fRep,fRepT,aRevA,fEqE,fNeE,fSlT,fSlL,fSlQ,fSlS,fCat,fCatT,fAddS,fIsN,fNotN,fNotB,fIsB,noneB,seqOf,fSorted,bName,bTup,bCons,bNil,onRg1,onRg2,cList,cTup,cStr,cRg1,cRg2,cEnum,cEnumT,cZipL,cZipT,cZipQ,wList,wTup,wStr,wRg1,wRg2,wEnum,wEnumT,wipeA,List.map,List.replicate,List.length_cons,List.length_nil,List.cons_append,List.nil_append,List.append_nil,List.getElem?_cons_zero,List.getElem?_cons_succ,List.set_cons_zero,List.set_cons_succ,List.set,Option.map_some,Option.map_none,Option.getD_some,Option.getD_none,reduceIte,Bool.false_eq_true,Bool.not_true,Bool.not_false,and_true,true_and,false_and,Nat.zero_le,ne_eq,not_false_eq_true,atI_0,atI_1,atI_2,atI_3,aDGet,aDGet1,aDGet2,aDIn,aListD,aStar,aDictOf,aSortSetL,aMaxT,aPar3,wKeys,cKeys,cVals,cItems,onO_some,keysOf_kv,valsOf_kv,itemsOf_kv,starItems_kv,dataAll_ds,dataAll_two,aUnpP,uNil,uCons,upOk,noBl,List.all_cons,List.all_nil,Bool.and_true,aSortItems,aOrL,aOdict,fSortedD,fExtD,fMulS,fLtT,fNeT0,aUpper,aSortSetV,cRg3,onRg3,fEqX,fNeX,fSlX,fMin2,fInSign,fNotInSign,aJoin,aTabPar,gStill,gPush,wListG,aSortD,notB,aSortSetS,aTable,tSq,tStill,dOf,dSeq,dIf,dPut,wListD,aListItems,fInDT,fIxQS,fLenQS,fSortedLS,fLtS,fLeS,fEqT0,fInX,fSortedDT,aCallX,xRaise,aTry,aGiven,aPick,aNone,keepI,nLHolds,i02,i12,nNI,nNA,decide_true,ff,if_true,if_false]
        refine hold_call tk ha (dep2 hd) ?_
        rw [holdN] at ht
        exact ht
      · simp only [isiB,aSeq,aIfS,aRet,aRetN,aSet,aDrop,aNext,aNever,aBreak,aCont,aUnp,aUnl,aPar,aAppend,aExtend,aAppendPop,aPopSet,aVar,aC,aTy,aFn,aOp,aCB,aCons,aNil,aTup,aLst,aB,aNot,aAnd,aOr,aAndV,aOrV,aNotV,aIf,aChain,aSl,aNoPart,aPart,aCall,aCallV,aYes,aNeg,aRevL,aRg1,aLstRg,asArgs,asArg,dataOf,listOf,viewOf,dataAll,onB,onP,onL,onT,onS,onZ2,aPut,parOk,parOk2,retR,rdA,stillR,fI0,fII,fEq,fNe,eqS,fIsiA,tyOf,fLen,fLenS,fInt1,fStrI,fMax2,fListOf,fTupOf,fAll,fAny,fIxT,fIxL,fIxQ,fIxS,fRep,fRepT,aRevA,fEqE,fNeE,fSlT,fSlL,fSlQ,fSlS,fCat,fCatT,fAddS,fIsN,fNotN,fNotB,fIsB,noneB,seqOf,fSorted,bName,bTup,bCons,bNil,onRg1,onRg2,cList,cTup,cStr,cRg1,cRg2,cEnum,cEnumT,cZipL,cZipT,cZipQ,wList,wTup,wStr,wRg1,wRg2,wEnum,wEnumT,wipeA,List.map,List.replicate,List.length_cons,List.length_nil,List.cons_append,List.nil_append,List.append_nil,List.getElem?_cons_zero,List.getElem?_cons_succ,List.set_cons_zero,List.set_cons_succ,List.set,Option.map_some,Option.map_none,Option.getD_some,Option.getD_none,reduceIte,Bool.false_eq_true,Bool.not_true,Bool.not_false,and_true,true_and,false_and,Nat.zero_le,ne_eq,not_false_eq_true,atI_0,atI_1,atI_2,atI_3,aDGet,aDGet1,aDGet2,aDIn,aListD,aStar,aDictOf,aSortSetL,aMaxT,aPar3,wKeys,cKeys,cVals,cItems,onO_some,keysOf_kv,valsOf_kv,itemsOf_kv,starItems_kv,dataAll_ds,dataAll_two,aUnpP,uNil,uCons,upOk,noBl,List.all_cons,List.all_nil,Bool.and_true,aSortItems,aOrL,aOdict,fSortedD,fExtD,fMulS,fLtT,fNeT0,aUpper,aSortSetV,cRg3,onRg3,fEqX,fNeX,fSlX,fMin2,fInSign,fNotInSign,aJoin,aTabPar,gStill,gPush,wListG,aSortD,notB,aSortSetS,aTable,tSq,tStill,dOf,dSeq,dIf,dPut,wListD,aListItems,fInDT,fIxQS,fLenQS,fSortedLS,fLtS,fLeS,fEqT0,fInX,fSortedDT,aCallX,xRaise,aTry,aGiven,aPick,aNone,keepI,nLHolds,i03,cut13,nIA,decide_true,ff,if_true,if_false]
        refine ⟨(sh_pair ha hb).ok (by decide), sh_tg tk, ?_⟩
        rw [holdI] at ht
        exact ht
      · obtain ⟨da, db⟩ := dep3 hd
        rcases hk with rfl | rfl
        · simp only [isiB,aSeq,aIfS,aRet,aRetN,aSet,aDrop,aNext,aNever,aBreak,aCont,aUnp,aUnl,aPar,aAppend,aExtend,aAppendPop,aPopSet,aVar,aC,aTy,aFn,aOp,aCB,aCons,aNil,aTup,aLst,aB,aNot,aAnd,aOr,aAndV,aOrV,aNotV,aIf,aChain,aSl,aNoPart,aPart,aCall,aCallV,aYes,aNeg,aRevL,aRg1,aLstRg,asArgs,asArg,dataOf,listOf,viewOf,dataAll,onB,onP,onL,onT,onS,onZ2,aPut,parOk,parOk2,retR,rdA,stillR,fI0,fII,fEq,fNe,eqS,fIsiA,tyOf,fLen,fLenS,fInt1,fStrI,fMax2,fListOf,fTupOf,fAll,fAny,fIxT,fIxL,fIxQ,fIxS,fRep,fRepT,aRevA,fEqE,fNeE,fSlT,fSlL,fSlQ,fSlS,fCat,fCatT,fAddS,fIsN,fNotN,fNotB,fIsB,noneB,seqOf,fSorted,bName,bTup,bCons,bNil,onRg1,onRg2,cList,cTup,cStr,cRg1,cRg2,cEnum,cEnumT,cZipL,cZipT,cZipQ,wList,wTup,wStr,wRg1,wRg2,wEnum,wEnumT,wipeA,List.map,List.replicate,List.length_cons,List.length_nil,List.cons_append,List.nil_append,List.append_nil,List.getElem?_cons_zero,List.getElem?_cons_succ,List.set_cons_zero,List.set_cons_succ,List.set,Option.map_some,Option.map_none,Option.getD_some,Option.getD_none,reduceIte,Bool.false_eq_true,Bool.not_true,Bool.not_false,and_true,true_and,false_and,Nat.zero_le,ne_eq,not_false_eq_true,atI_0,atI_1,atI_2,atI_3,aDGet,aDGet1,aDGet2,aDIn,aListD,aStar,aDictOf,aSortSetL,aMaxT,aPar3,wKeys,cKeys,cVals,cItems,onO_some,keysOf_kv,valsOf_kv,itemsOf_kv,starItems_kv,dataAll_ds,dataAll_two,aUnpP,uNil,uCons,upOk,noBl,List.all_cons,List.all_nil,Bool.and_true,aSortItems,aOrL,aOdict,fSortedD,fExtD,fMulS,fLtT,fNeT0,aUpper,aSortSetV,cRg3,onRg3,fEqX,fNeX,fSlX,fMin2,fInSign,fNotInSign,aJoin,aTabPar,gStill,gPush,wListG,aSortD,notB,aSortSetS,aTable,tSq,tStill,dOf,dSeq,dIf,dPut,wListD,aListItems,fInDT,fIxQS,fLenQS,fSortedLS,fLtS,fLeS,fEqT0,fInX,fSortedDT,aCallX,xRaise,aTry,aGiven,aPick,aNone,keepI,nLHolds,i03,i13,i23,nBA,nBI,nBN,decide_true,ff,if_true,if_false]
          rw [holdB] at ht
          refine hold_call tk ha da ?_
          show if holdD t a = true then _ else _
          refine ite2 (fun e => hold_call tk hb db ?_) (fun e => ?_)
          · rw [e, Bool.true_and] at ht
            exact ht
          · rw [Bool.eq_false_iff.mpr e, Bool.false_and] at ht
            exact ht
        · simp only [isiB,aSeq,aIfS,aRet,aRetN,aSet,aDrop,aNext,aNever,aBreak,aCont,aUnp,aUnl,aPar,aAppend,aExtend,aAppendPop,aPopSet,aVar,aC,aTy,aFn,aOp,aCB,aCons,aNil,aTup,aLst,aB,aNot,aAnd,aOr,aAndV,aOrV,aNotV,aIf,aChain,aSl,aNoPart,aPart,aCall,aCallV,aYes,aNeg,aRevL,aRg1,aLstRg,asArgs,asArg,dataOf,listOf,viewOf,dataAll,onB,onP,onL,onT,onS,onZ2,aPut,parOk,parOk2,retR,rdA,stillR,fI0,fII,fEq,fNe,eqS,fIsiA,tyOf,fLen,fLenS,fInt1,fStrI,fMax2,fListOf,fTupOf,fAll,fAny,fIxT,fIxL,fIxQ,fIxS,fRep,fRepT,aRevA,fEqE,fNeE,fSlT,fSlL,fSlQ,fSlS,fCat,fCatT,fAddS,fIsN,fNotN,fNotB,fIsB,noneB,seqOf,fSorted,bName,bTup,bCons,bNil,onRg1,onRg2,cList,cTup,cStr,cRg1,cRg2,cEnum,cEnumT,cZipL,cZipT,cZipQ,wList,wTup,wStr,wRg1,wRg2,wEnum,wEnumT,wipeA,List.map,List.replicate,List.length_cons,List.length_nil,List.cons_append,List.nil_append,List.append_nil,List.getElem?_cons_zero,List.getElem?_cons_succ,List.set_cons_zero,List.set_cons_succ,List.set,Option.map_some,Option.map_none,Option.getD_some,Option.getD_none,reduceIte,Bool.false_eq_true,Bool.not_true,Bool.not_false,and_true,true_and,false_and,Nat.zero_le,ne_eq,not_false_eq_true,atI_0,atI_1,atI_2,atI_3,aDGet,aDGet1,aDGet2,aDIn,aListD,aStar,aDictOf,aSortSetL,aMaxT,aPar3,wKeys,cKeys,cVals,cItems,onO_some,keysOf_kv,valsOf_kv,itemsOf_kv,starItems_kv,dataAll_ds,dataAll_two,aUnpP,uNil,uCons,upOk,noBl,List.all_cons,List.all_nil,Bool.and_true,aSortItems,aOrL,aOdict,fSortedD,fExtD,fMulS,fLtT,fNeT0,aUpper,aSortSetV,cRg3,onRg3,fEqX,fNeX,fSlX,fMin2,fInSign,fNotInSign,aJoin,aTabPar,gStill,gPush,wListG,aSortD,notB,aSortSetS,aTable,tSq,tStill,dOf,dSeq,dIf,dPut,wListD,aListItems,fInDT,fIxQS,fLenQS,fSortedLS,fLtS,fLeS,fEqT0,fInX,fSortedDT,aCallX,xRaise,aTry,aGiven,aPick,aNone,keepI,nLHolds,i03,i13,i23,nEA,nEI,nEN,nEB,decide_true,ff,if_true,if_false]
          rw [holdE] at ht
          refine hold_call tk ha da ?_
          show if holdD t a = true then _ else _
          refine ite2 (fun e => ?_) (fun e => hold_call tk hb db ?_)
          · rw [e, Bool.true_or] at ht
            exact ht
          · rw [Bool.eq_false_iff.mpr e, Bool.false_or] at ht
            exact ht
theorem ok_LHolds {f : Addr} {fd : FuncData} (Z : Blt K mg) (D : DefAt K mg "_law_holds" sLHolds pLHolds f fd) : FnOk P w K mg base CX0 31 f fd pLHolds (spA 2 K DK (T_holdK 30)) := okR_LHolds Z D 30
theorem ok_DoesHold {f : Addr} {fd : FuncData} {fCheckCondition : Addr} {fdCheckCondition : FuncData} {fCheckTarget : Addr} {fdCheckTarget : FuncData} {fHoldsAt : Addr} {fdHoldsAt : FuncData} (Z : Blt K mg) (D : DefAt K mg "does_hold" sDoesHold pDoesHold f fd) (DCheckCondition : DefAt K mg "check_condition" sCheckCondition pCheckCondition fCheckCondition fdCheckCondition) (DCheckTarget : DefAt K mg "check_target" sCheckTarget pCheckTarget fCheckTarget fdCheckTarget) (DHoldsAt : DefAt K mg "holds_at" sHoldsAt pHoldsAt fHoldsAt fdHoldsAt) (GCheckCondition : FnOk P w K mg base CX0 63 fCheckCondition fdCheckCondition pCheckCondition (spA 1 K DK T_check_condition)) (GCheckTarget : FnOk P w K mg base CX0 4 fCheckTarget fdCheckTarget pCheckTarget (spA 1 K DK T_check_target)) (GHoldsAt : FnOk P w K mg base CX0 31 fHoldsAt fdHoldsAt pHoldsAt (spA 2 K DK (T_holdK 30))) : FnOk P w K mg base CX0 64 f fd pDoesHold (spA 2 K DK T_does_hold) := by
  refine D.F.ok scDoesHold (fun vs H Q E h => h.len) (fun cdv A outer s0 H vs Q E hr h => ?_)
  have hu := hu_of hr
  refine ⟨_, (pss_cons (ps_expr (pe_call GCheckCondition (hr.mono (by decide)) rfl DCheckCondition.g DCheckCondition.F.kp DCheckCondition.b .nil pass0 (pa_cons (pv 0) pa_nil)))
    (pss_cons (ps_expr (pe_call GCheckTarget (hr.mono (by decide)) rfl DCheckTarget.g DCheckTarget.F.kp DCheckTarget.b .nil pass0 (pa_cons (pv 1) pa_nil)))
    (pss_one (ps_ret (pe_call GHoldsAt (hr.mono (by decide)) rfl DHoldsAt.g DHoldsAt.F.kp DHoldsAt.b .nil pass0 (pa_cons (pv 0) (pa_cons (pv 1) pa_nil))))))), abs_fn (N := nDoesHold) (sa_seq (sa_drop (ea_call [.d] (aa_cons (ea_var 0) aa_nil))) (sa_seq (sa_drop (ea_call [.d] (aa_cons (ea_var 1) aa_nil))) (sa_ret (ea_call [.d, .d] (aa_cons (ea_var 0) (aa_cons (ea_var 1) aa_nil)))))) h (fun as Φ hn ht => ?_)⟩
  match as, ht with
  | [.d x, .d (.tuple t)], ht =>
    obtain ⟨tk, hc, hd, hb, ht⟩ := ht
    simp only [isiB,aSeq,aIfS,aRet,aRetN,aSet,aDrop,aNext,aNever,aBreak,aCont,aUnp,aUnl,aPar,aAppend,aExtend,aAppendPop,aPopSet,aVar,aC,aTy,aFn,aOp,aCB,aCons,aNil,aTup,aLst,aB,aNot,aAnd,aOr,aAndV,aOrV,aNotV,aIf,aChain,aSl,aNoPart,aPart,aCall,aCallV,aYes,aNeg,aRevL,aRg1,aLstRg,asArgs,asArg,dataOf,listOf,viewOf,dataAll,onB,onP,onL,onT,onS,onZ2,aPut,parOk,parOk2,retR,rdA,stillR,fI0,fII,fEq,fNe,eqS,fIsiA,tyOf,fLen,fLenS,fInt1,fStrI,fMax2,fListOf,fTupOf,fAll,fAny,fIxT,fIxL,fIxQ,fIxS,fRep,fRepT,aRevA,fEqE,fNeE,fSlT,fSlL,fSlQ,fSlS,fCat,fCatT,fAddS,fIsN,fNotN,fNotB,fIsB,noneB,seqOf,fSorted,bName,bTup,bCons,bNil,onRg1,onRg2,cList,cTup,cStr,cRg1,cRg2,cEnum,cEnumT,cZipL,cZipT,cZipQ,wList,wTup,wStr,wRg1,wRg2,wEnum,wEnumT,wipeA,List.map,List.replicate,List.length_cons,List.length_nil,List.cons_append,List.nil_append,List.append_nil,List.getElem?_cons_zero,List.getElem?_cons_succ,List.set_cons_zero,List.set_cons_succ,List.set,Option.map_some,Option.map_none,Option.getD_some,Option.getD_none,reduceIte,Bool.false_eq_true,Bool.not_true,Bool.not_false,and_true,true_and,false_and,Nat.zero_le,ne_eq,not_false_eq_true,atI_0,atI_1,atI_2,atI_3,aDGet,aDGet1,aDGet2,aDIn,aListD,aStar,aDictOf,aSortSetL,aMaxT,aPar3,wKeys,cKeys,cVals,cItems,onO_some,keysOf_kv,valsOf_kv,itemsOf_kv,starItems_kv,dataAll_ds,dataAll_two,aUnpP,uNil,uCons,upOk,noBl,List.all_cons,List.all_nil,Bool.and_true,aSortItems,aOrL,aOdict,fSortedD,fExtD,fMulS,fLtT,fNeT0,aUpper,aSortSetV,cRg3,onRg3,fEqX,fNeX,fSlX,fMin2,fInSign,fNotInSign,aJoin,aTabPar,gStill,gPush,wListG,aSortD,notB,aSortSetS,aTable,tSq,tStill,dOf,dSeq,dIf,dPut,wListD,aListItems,fInDT,fIxQS,fLenQS,fSortedLS,fLtS,fLeS,fEqT0,fInX,fSortedDT,aCallX,xRaise,aTry,aGiven,aPick,aNone,keepI,nDoesHold,T_check_condition,T_check_target,T_holdK]
    obtain ⟨ts, rfl, hw, hl, ha⟩ := id tk
    have td : targetD (.tuple (ts.map encPT)) = true := by
      unfold targetD
      rw [Bool.and_eq_true]
      refine ⟨List.all_eq_true.mpr fun y hy => ?_, ?_⟩
      · obtain ⟨p, hp, rfl⟩ := List.mem_map.mp hy
        show (wordD (.str p.1) && wordD (.str p.2)) = true
        rw [Bool.and_eq_true]
        exact hw p hp
      · rw [List.map_map]
        exact ha
    have tb : (PyData.tuple (ts.map encPT)).bulk ≤ 1000000 := Nat.le_trans (Rw.tup (k := 1) (n := 40) (m := 10000) (fun x hx => by
      obtain ⟨p, hp, rfl⟩ := List.mem_map.mp hx
      exact pair_rw (hw p hp)) (Nat.le_trans (Nat.mul_le_mul_right 41 (show _ ≤ 200 by rw [List.length_map]; exact hl)) (by decide))).b (by decide)
    exact ⟨hc, by omega, hb, td, tb, tk, hc, by omega, ht⟩
theorem okR_LPairsIn {f : Addr} {fd : FuncData} (Z : Blt K mg) (D : DefAt K mg "_law_pairs_in" sLPairsIn pLPairsIn f fd) : ∀ k : Nat, FnOk P w K mg base CX0 (1 + k) f fd pLPairsIn (spA 1 K DK (T_pairsK k)) := by
  intro k
  induction k with
  | zero => exact ⟨fun vs H Q E h => h.len, fun A outer s H args us vs Q E _ _ _ _ h => by obtain ⟨G, as, Φ, _, _, _, _, ht, _⟩ := h; exact ht.elim⟩
  | succ k GLPairsIn =>
    have DLPairsIn := D
    refine D.F.ok scLPairsIn (fun vs H Q E h => h.len) (fun cdv A outer s0 H vs Q E hr h => ?_)
    have hu := hu_of hr
    have hr0 := (show Room (1 + k) _ from hr)
    have hr3 := hr0.mono (Nat.le_add_right 1 k)
    refine ⟨_, (pss_cons (ps_if (pt_cmpR op_eq (pe_ix ix_tup (pv 0) pe_int (fun _ _ => rfl)) pe_str (nomark _))
    (pss_one (ps_ret (pe_lst (pa_cons (pe_slice sl_tupA (pv 0) (po_some pe_int) po_none) pa_nil))))
    pss_nil)
    (pss_cons (ps_set (i := 1) scLPairsIn.nd rfl (Or.inl rfl) (pe_lst pa_nil))
    (pss_cons (ps_for PassesOwn.never rfl (pi_tup (pe_slice sl_tupA (pv 0) (po_some pe_int) po_none)) (pg_name (i := 2) scLPairsIn.nd rfl (Or.inl rfl))
    (pss_one (ps_expr (pe_bm PySem.F.plainAttrs_list PySem.F.slot_list_extend PySem.F.type_list_extend mt_extend (pv 1) (pa_cons (pe_call GLPairsIn hr0 rfl DLPairsIn.g DLPairsIn.F.kp DLPairsIn.b .nil pass0 (pa_cons (pv 2) pa_nil)) pa_nil)))))
    (pss_one (ps_ret (pv 1)))))), abs_fn (N := nLPairsIn) (sa_seq (sa_if (ta_test (ea_op oa_eq (ea_op oa_ixT (ea_var 0) (ea_int _)) (ea_str _))) (sa_ret (ea_lst (aa_cons (ea_sl sa_slT (ea_var 0) (ao_some (ea_int _)) ao_none) aa_nil))) sa_next) (sa_seq (sa_set (ea_lst aa_nil)) (sa_seq (sa_for (ia_tup (ea_sl sa_slT (ea_var 0) (ao_some (ea_int _)) ao_none)) (gd_name 2) (sa_extend (ea_call [.d] (aa_cons (ea_var 2) aa_nil)))) (sa_ret (ea_var 1))))) h (fun as Φ hn ht => ?_)⟩
    match as, ht with
    | [.d x], ht =>
      obtain ⟨hc, hd, hb, ht⟩ := ht
      have ff : (false = true) = False := eq_false Bool.false_ne_true
      have hlen := pairs_len x
      have sz : (1000000 : Nat) ≤ sizeLine := Nat.le_of_lt sizeBig
      rcases cond_form hc with rfl | ⟨a, rfl, ha⟩ | ⟨a, b, rfl, ha, hb'⟩ | ⟨c, a, b, rfl, hk, ha, hb'⟩
      · simp only [isiB,aSeq,aIfS,aRet,aRetN,aSet,aDrop,aNext,aNever,aBreak,aCont,aUnp,aUnl,aPar,aAppend,aExtend,aAppendPop,aPopSet,aVar,aC,aTy,aFn,aOp,aCB,aCons,aNil,aTup,aLst,aB,aNot,aAnd,aOr,aAndV,aOrV,aNotV,aIf,aChain,aSl,aNoPart,aPart,aCall,aCallV,aYes,aNeg,aRevL,aRg1,aLstRg,asArgs,asArg,dataOf,listOf,viewOf,dataAll,onB,onP,onL,onT,onS,onZ2,aPut,parOk,parOk2,retR,rdA,stillR,fI0,fII,fEq,fNe,eqS,fIsiA,tyOf,fLen,fLenS,fInt1,fStrI,fMax2,fListOf,fTupOf,fAll,fAny,fIxT,fIxL,fIxQ,fIxS,fRep,fRepT,aRevA,fEqE,fNeE,fSlT,fSlL,fSlQ,fSlS,fCat,fCatT,fAddS,fIsN,fNotN,fNotB,fIsB,noneB,seqOf,fSorted,bName,bTup,bCons,bNil,onRg1,onRg2,cList,cTup,cStr,cRg1,cRg2,cEnum,cEnumT,cZipL,cZipT,cZipQ,wList,wTup,wStr,wRg1,wRg2,wEnum,wEnumT,wipeA,List.map,List.replicate,List.length_cons,List.length_nil,List.cons_append,List.nil_append,List.append_nil,List.getElem?_cons_zero,List.getElem?_cons_succ,List.set_cons_zero,List.set_cons_succ,List.set,Option.map_some,Option.map_none,Option.getD_some,Option.getD_none,reduceIte,Bool.false_eq_true,Bool.not_true,Bool.not_false,and_true,true_and,false_and,Nat.zero_le,ne_eq,not_false_eq_true,atI_0,atI_1,atI_2,atI_3,aDGet,aDGet1,aDGet2,aDIn,aListD,aStar,aDictOf,aSortSetL,aMaxT,aPar3,wKeys,cKeys,cVals,cItems,onO_some,keysOf_kv,valsOf_kv,itemsOf_kv,starItems_kv,dataAll_ds,dataAll_two,aUnpP,uNil,uCons,upOk,noBl,List.all_cons,List.all_nil,Bool.and_true,aSortItems,aOrL,aOdict,fSortedD,fExtD,fMulS,fLtT,fNeT0,aUpper,aSortSetV,cRg3,onRg3,fEqX,fNeX,fSlX,fMin2,fInSign,fNotInSign,aJoin,aTabPar,gStill,gPush,wListG,aSortD,notB,aSortSetS,aTable,tSq,tStill,dOf,dSeq,dIf,dPut,wListD,aListItems,fInDT,fIxQS,fLenQS,fSortedLS,fLtS,fLeS,fEqT0,fInX,fSortedDT,aCallX,xRaise,aTry,aGiven,aPick,aNone,keepI,nLPairsIn,i01,nAI,ff,if_true,if_false]
        refine for_inv [] _ (fun Ψ h => h) (fun j ρ => ρ = [some (AV.d (.tuple [.str (Str.ofString "always")])), some (AV.own []), none]) rfl (fun i x ρ h _ => by cases h) ?_
        rintro ρ rfl
        simp only [isiB,aSeq,aIfS,aRet,aRetN,aSet,aDrop,aNext,aNever,aBreak,aCont,aUnp,aUnl,aPar,aAppend,aExtend,aAppendPop,aPopSet,aVar,aC,aTy,aFn,aOp,aCB,aCons,aNil,aTup,aLst,aB,aNot,aAnd,aOr,aAndV,aOrV,aNotV,aIf,aChain,aSl,aNoPart,aPart,aCall,aCallV,aYes,aNeg,aRevL,aRg1,aLstRg,asArgs,asArg,dataOf,listOf,viewOf,dataAll,onB,onP,onL,onT,onS,onZ2,aPut,parOk,parOk2,retR,rdA,stillR,fI0,fII,fEq,fNe,eqS,fIsiA,tyOf,fLen,fLenS,fInt1,fStrI,fMax2,fListOf,fTupOf,fAll,fAny,fIxT,fIxL,fIxQ,fIxS,fRep,fRepT,aRevA,fEqE,fNeE,fSlT,fSlL,fSlQ,fSlS,fCat,fCatT,fAddS,fIsN,fNotN,fNotB,fIsB,noneB,seqOf,fSorted,bName,bTup,bCons,bNil,onRg1,onRg2,cList,cTup,cStr,cRg1,cRg2,cEnum,cEnumT,cZipL,cZipT,cZipQ,wList,wTup,wStr,wRg1,wRg2,wEnum,wEnumT,wipeA,List.map,List.replicate,List.length_cons,List.length_nil,List.cons_append,List.nil_append,List.append_nil,List.getElem?_cons_zero,List.getElem?_cons_succ,List.set_cons_zero,List.set_cons_succ,List.set,Option.map_some,Option.map_none,Option.getD_some,Option.getD_none,reduceIte,Bool.false_eq_true,Bool.not_true,Bool.not_false,and_true,true_and,false_and,Nat.zero_le,ne_eq,not_false_eq_true,atI_0,atI_1,atI_2,atI_3,aDGet,aDGet1,aDGet2,aDIn,aListD,aStar,aDictOf,aSortSetL,aMaxT,aPar3,wKeys,cKeys,cVals,cItems,onO_some,keysOf_kv,valsOf_kv,itemsOf_kv,starItems_kv,dataAll_ds,dataAll_two,aUnpP,uNil,uCons,upOk,noBl,List.all_cons,List.all_nil,Bool.and_true,aSortItems,aOrL,aOdict,fSortedD,fExtD,fMulS,fLtT,fNeT0,aUpper,aSortSetV,cRg3,onRg3,fEqX,fNeX,fSlX,fMin2,fInSign,fNotInSign,aJoin,aTabPar,gStill,gPush,wListG,aSortD,notB,aSortSetS,aTable,tSq,tStill,dOf,dSeq,dIf,dPut,wListD,aListItems,fInDT,fIxQS,fLenQS,fSortedLS,fLtS,fLeS,fEqT0,fInX,fSortedDT,aCallX,xRaise,aTry,aGiven,aPick,aNone,keepI,nLPairsIn]
        exact ht
      · rw [pairsN] at ht
        have ba : a.bulk ≤ 1000000 := by simp only [PyData.bulk, PyData.bulkAll] at hb; omega
        simp only [isiB,aSeq,aIfS,aRet,aRetN,aSet,aDrop,aNext,aNever,aBreak,aCont,aUnp,aUnl,aPar,aAppend,aExtend,aAppendPop,aPopSet,aVar,aC,aTy,aFn,aOp,aCB,aCons,aNil,aTup,aLst,aB,aNot,aAnd,aOr,aAndV,aOrV,aNotV,aIf,aChain,aSl,aNoPart,aPart,aCall,aCallV,aYes,aNeg,aRevL,aRg1,aLstRg,asArgs,asArg,dataOf,listOf,viewOf,dataAll,onB,onP,onL,onT,onS,onZ2,aPut,parOk,parOk2,retR,rdA,stillR,fI0,fII,fEq,fNe,eqS,fIsiA,tyOf,fLen,fLenS,fInt1,fStrI,fMax2,fListOf,fTupOf,fAll,fAny,fIxT,fIxL,fIxQ,fIxS,fRep,fRepT,aRevA,fEqE,fNeE,fSlT,fSlL,fSlQ,fSlS,fCat,fCatT,fAddS,fIsN,fNotN,fNotB,fIsB,noneB,seqOf,fSorted,bName,bTup,bCons,bNil,onRg1,onRg2,cList,cTup,cStr,cRg1,cRg2,cEnum,cEnumT,cZipL,cZipT,cZipQ,wList,wTup,wStr,wRg1,wRg2,wEnum,wEnumT,wipeA,List.map,List.replicate,List.length_cons,List.length_nil,List.cons_append,List.nil_append,List.append_nil,List.getElem?_cons_zero,List.getElem?_cons_succ,List.set_cons_zero,List.set_cons_succ,List.set,Option.map_some,Option.map_none,Option.getD_some,Option.getD_none,reduceIte,Bool.false_eq_true,Bool.not_true,Bool.not_false,and_true,true_and,false_and,Nat.zero_le,ne_eq,not_false_eq_true,atI_0,atI_1,atI_2,atI_3,aDGet,aDGet1,aDGet2,aDIn,aListD,aStar,aDictOf,aSortSetL,aMaxT,aPar3,wKeys,cKeys,cVals,cItems,onO_some,keysOf_kv,valsOf_kv,itemsOf_kv,starItems_kv,dataAll_ds,dataAll_two,aUnpP,uNil,uCons,upOk,noBl,List.all_cons,List.all_nil,Bool.and_true,aSortItems,aOrL,aOdict,fSortedD,fExtD,fMulS,fLtT,fNeT0,aUpper,aSortSetV,cRg3,onRg3,fEqX,fNeX,fSlX,fMin2,fInSign,fNotInSign,aJoin,aTabPar,gStill,gPush,wListG,aSortD,notB,aSortSetS,aTable,tSq,tStill,dOf,dSeq,dIf,dPut,wListD,aListItems,fInDT,fIxQS,fLenQS,fSortedLS,fLtS,fLeS,fEqT0,fInX,fSortedDT,aCallX,xRaise,aTry,aGiven,aPick,aNone,keepI,nLPairsIn,i02,nNI,ff,if_true,if_false]
        refine for_inv [a] _ (fun Ψ h => h) (fun j ρ => ∃ u2 : Option AV, ρ = [some (AV.d (.tuple [.str (Str.ofString "not"), a])), some (AV.own (if j = 0 then [] else pairsL a)), u2]) ⟨none, rfl⟩ ?_ ?_
        · rintro i x ρ hx ⟨u2, rfl⟩
          match i, hx with
          | 0, hx =>
            cases hx
            simp only [bName, List.set_cons_zero, List.set_cons_succ]
            simp only [isiB,aSeq,aIfS,aRet,aRetN,aSet,aDrop,aNext,aNever,aBreak,aCont,aUnp,aUnl,aPar,aAppend,aExtend,aAppendPop,aPopSet,aVar,aC,aTy,aFn,aOp,aCB,aCons,aNil,aTup,aLst,aB,aNot,aAnd,aOr,aAndV,aOrV,aNotV,aIf,aChain,aSl,aNoPart,aPart,aCall,aCallV,aYes,aNeg,aRevL,aRg1,aLstRg,asArgs,asArg,dataOf,listOf,viewOf,dataAll,onB,onP,onL,onT,onS,onZ2,aPut,parOk,parOk2,retR,rdA,stillR,fI0,fII,fEq,fNe,eqS,fIsiA,tyOf,fLen,fLenS,fInt1,fStrI,fMax2,fListOf,fTupOf,fAll,fAny,fIxT,fIxL,fIxQ,fIxS,fRep,fRepT,aRevA,fEqE,fNeE,fSlT,fSlL,fSlQ,fSlS,fCat,fCatT,fAddS,fIsN,fNotN,fNotB,fIsB,noneB,seqOf,fSorted,bName,bTup,bCons,bNil,onRg1,onRg2,cList,cTup,cStr,cRg1,cRg2,cEnum,cEnumT,cZipL,cZipT,cZipQ,wList,wTup,wStr,wRg1,wRg2,wEnum,wEnumT,wipeA,List.map,List.replicate,List.length_cons,List.length_nil,List.cons_append,List.nil_append,List.append_nil,List.getElem?_cons_zero,List.getElem?_cons_succ,List.set_cons_zero,List.set_cons_succ,List.set,Option.map_some,Option.map_none,Option.getD_some,Option.getD_none,reduceIte,Bool.false_eq_true,Bool.not_true,Bool.not_false,and_true,true_and,false_and,Nat.zero_le,ne_eq,not_false_eq_true,atI_0,atI_1,atI_2,atI_3,aDGet,aDGet1,aDGet2,aDIn,aListD,aStar,aDictOf,aSortSetL,aMaxT,aPar3,wKeys,cKeys,cVals,cItems,onO_some,keysOf_kv,valsOf_kv,itemsOf_kv,starItems_kv,dataAll_ds,dataAll_two,aUnpP,uNil,uCons,upOk,noBl,List.all_cons,List.all_nil,Bool.and_true,aSortItems,aOrL,aOdict,fSortedD,fExtD,fMulS,fLtT,fNeT0,aUpper,aSortSetV,cRg3,onRg3,fEqX,fNeX,fSlX,fMin2,fInSign,fNotInSign,aJoin,aTabPar,gStill,gPush,wListG,aSortD,notB,aSortSetS,aTable,tSq,tStill,dOf,dSeq,dIf,dPut,wListD,aListItems,fInDT,fIxQS,fLenQS,fSortedLS,fLtS,fLeS,fEqT0,fInX,fSortedDT,aCallX,xRaise,aTry,aGiven,aPick,aNone,keepI,nLPairsIn,if_true]
            refine pairs_call ha (dep2 hd) ba ⟨?_, _, rfl⟩
            have := pairs_len a
            exact Nat.le_trans (show 0 + (pairsL a).length ≤ 1000000 by omega) sz
          | i + 1, hx => cases i <;> cases hx
        · rintro ρ ⟨u2, rfl⟩
          simp only [isiB,aSeq,aIfS,aRet,aRetN,aSet,aDrop,aNext,aNever,aBreak,aCont,aUnp,aUnl,aPar,aAppend,aExtend,aAppendPop,aPopSet,aVar,aC,aTy,aFn,aOp,aCB,aCons,aNil,aTup,aLst,aB,aNot,aAnd,aOr,aAndV,aOrV,aNotV,aIf,aChain,aSl,aNoPart,aPart,aCall,aCallV,aYes,aNeg,aRevL,aRg1,aLstRg,asArgs,asArg,dataOf,listOf,viewOf,dataAll,onB,onP,onL,onT,onS,onZ2,aPut,parOk,parOk2,retR,rdA,stillR,fI0,fII,fEq,fNe,eqS,fIsiA,tyOf,fLen,fLenS,fInt1,fStrI,fMax2,fListOf,fTupOf,fAll,fAny,fIxT,fIxL,fIxQ,fIxS,fRep,fRepT,aRevA,fEqE,fNeE,fSlT,fSlL,fSlQ,fSlS,fCat,fCatT,fAddS,fIsN,fNotN,fNotB,fIsB,noneB,seqOf,fSorted,bName,bTup,bCons,bNil,onRg1,onRg2,cList,cTup,cStr,cRg1,cRg2,cEnum,cEnumT,cZipL,cZipT,cZipQ,wList,wTup,wStr,wRg1,wRg2,wEnum,wEnumT,wipeA,List.map,List.replicate,List.length_cons,List.length_nil,List.cons_append,List.nil_append,List.append_nil,List.getElem?_cons_zero,List.getElem?_cons_succ,List.set_cons_zero,List.set_cons_succ,List.set,Option.map_some,Option.map_none,Option.getD_some,Option.getD_none,reduceIte,Bool.false_eq_true,Bool.not_true,Bool.not_false,and_true,true_and,false_and,Nat.zero_le,ne_eq,not_false_eq_true,atI_0,atI_1,atI_2,atI_3,aDGet,aDGet1,aDGet2,aDIn,aListD,aStar,aDictOf,aSortSetL,aMaxT,aPar3,wKeys,cKeys,cVals,cItems,onO_some,keysOf_kv,valsOf_kv,itemsOf_kv,starItems_kv,dataAll_ds,dataAll_two,aUnpP,uNil,uCons,upOk,noBl,List.all_cons,List.all_nil,Bool.and_true,aSortItems,aOrL,aOdict,fSortedD,fExtD,fMulS,fLtT,fNeT0,aUpper,aSortSetV,cRg3,onRg3,fEqX,fNeX,fSlX,fMin2,fInSign,fNotInSign,aJoin,aTabPar,gStill,gPush,wListG,aSortD,notB,aSortSetS,aTable,tSq,tStill,dOf,dSeq,dIf,dPut,wListD,aListItems,fInDT,fIxQS,fLenQS,fSortedLS,fLtS,fLeS,fEqT0,fInX,fSortedDT,aCallX,xRaise,aTry,aGiven,aPick,aNone,keepI,nLPairsIn]
          exact ht
      · rw [pairsI] at ht
        simp only [isiB,aSeq,aIfS,aRet,aRetN,aSet,aDrop,aNext,aNever,aBreak,aCont,aUnp,aUnl,aPar,aAppend,aExtend,aAppendPop,aPopSet,aVar,aC,aTy,aFn,aOp,aCB,aCons,aNil,aTup,aLst,aB,aNot,aAnd,aOr,aAndV,aOrV,aNotV,aIf,aChain,aSl,aNoPart,aPart,aCall,aCallV,aYes,aNeg,aRevL,aRg1,aLstRg,asArgs,asArg,dataOf,listOf,viewOf,dataAll,onB,onP,onL,onT,onS,onZ2,aPut,parOk,parOk2,retR,rdA,stillR,fI0,fII,fEq,fNe,eqS,fIsiA,tyOf,fLen,fLenS,fInt1,fStrI,fMax2,fListOf,fTupOf,fAll,fAny,fIxT,fIxL,fIxQ,fIxS,fRep,fRepT,aRevA,fEqE,fNeE,fSlT,fSlL,fSlQ,fSlS,fCat,fCatT,fAddS,fIsN,fNotN,fNotB,fIsB,noneB,seqOf,fSorted,bName,bTup,bCons,bNil,onRg1,onRg2,cList,cTup,cStr,cRg1,cRg2,cEnum,cEnumT,cZipL,cZipT,cZipQ,wList,wTup,wStr,wRg1,wRg2,wEnum,wEnumT,wipeA,List.map,List.replicate,List.length_cons,List.length_nil,List.cons_append,List.nil_append,List.append_nil,List.getElem?_cons_zero,List.getElem?_cons_succ,List.set_cons_zero,List.set_cons_succ,List.set,Option.map_some,Option.map_none,Option.getD_some,Option.getD_none,reduceIte,Bool.false_eq_true,Bool.not_true,Bool.not_false,and_true,true_and,false_and,Nat.zero_le,ne_eq,not_false_eq_true,atI_0,atI_1,atI_2,atI_3,aDGet,aDGet1,aDGet2,aDIn,aListD,aStar,aDictOf,aSortSetL,aMaxT,aPar3,wKeys,cKeys,cVals,cItems,onO_some,keysOf_kv,valsOf_kv,itemsOf_kv,starItems_kv,dataAll_ds,dataAll_two,aUnpP,uNil,uCons,upOk,noBl,List.all_cons,List.all_nil,Bool.and_true,aSortItems,aOrL,aOdict,fSortedD,fExtD,fMulS,fLtT,fNeT0,aUpper,aSortSetV,cRg3,onRg3,fEqX,fNeX,fSlX,fMin2,fInSign,fNotInSign,aJoin,aTabPar,gStill,gPush,wListG,aSortD,notB,aSortSetS,aTable,tSq,tStill,dOf,dSeq,dIf,dPut,wListD,aListItems,fInDT,fIxQS,fLenQS,fSortedLS,fLtS,fLeS,fEqT0,fInX,fSortedDT,aCallX,xRaise,aTry,aGiven,aPick,aNone,keepI,nLPairsIn,i03,cut13,ff,decide_true,if_true,if_false]
        exact ⟨by decide, ht⟩
      · have nI : decide (c = Str.ofString "is") = false := by
          rcases hk with rfl | rfl
          · exact nBI
          · exact nEI
        obtain ⟨da, db⟩ := dep3 hd
        have bc : a.bulk + b.bulk ≤ 1000000 := by simp only [PyData.bulk, PyData.bulkAll] at hb; omega
        rw [pairsC a b nI] at ht
        simp only [isiB,aSeq,aIfS,aRet,aRetN,aSet,aDrop,aNext,aNever,aBreak,aCont,aUnp,aUnl,aPar,aAppend,aExtend,aAppendPop,aPopSet,aVar,aC,aTy,aFn,aOp,aCB,aCons,aNil,aTup,aLst,aB,aNot,aAnd,aOr,aAndV,aOrV,aNotV,aIf,aChain,aSl,aNoPart,aPart,aCall,aCallV,aYes,aNeg,aRevL,aRg1,aLstRg,asArgs,asArg,dataOf,listOf,viewOf,dataAll,onB,onP,onL,onT,onS,onZ2,aPut,parOk,parOk2,retR,rdA,stillR,fI0,fII,fEq,fNe,eqS,fIsiA,tyOf,fLen,fLenS,fInt1,fStrI,fMax2,fListOf,fTupOf,fAll,fAny,fIxT,fIxL,fIxQ,fIxS,fRep,fRepT,aRevA,fEqE,fNeE,fSlT,fSlL,fSlQ,fSlS,fCat,fCatT,fAddS,fIsN,fNotN,fNotB,fIsB,noneB,seqOf,fSorted,bName,bTup,bCons,bNil,onRg1,onRg2,cList,cTup,cStr,cRg1,cRg2,cEnum,cEnumT,cZipL,cZipT,cZipQ,wList,wTup,wStr,wRg1,wRg2,wEnum,wEnumT,wipeA,List.map,List.replicate,List.length_cons,List.length_nil,List.cons_append,List.nil_append,List.append_nil,List.getElem?_cons_zero,List.getElem?_cons_succ,List.set_cons_zero,List.set_cons_succ,List.set,Option.map_some,Option.map_none,Option.getD_some,Option.getD_none,reduceIte,Bool.false_eq_true,Bool.not_true,Bool.not_false,and_true,true_and,false_and,Nat.zero_le,ne_eq,not_false_eq_true,atI_0,atI_1,atI_2,atI_3,aDGet,aDGet1,aDGet2,aDIn,aListD,aStar,aDictOf,aSortSetL,aMaxT,aPar3,wKeys,cKeys,cVals,cItems,onO_some,keysOf_kv,valsOf_kv,itemsOf_kv,starItems_kv,dataAll_ds,dataAll_two,aUnpP,uNil,uCons,upOk,noBl,List.all_cons,List.all_nil,Bool.and_true,aSortItems,aOrL,aOdict,fSortedD,fExtD,fMulS,fLtT,fNeT0,aUpper,aSortSetV,cRg3,onRg3,fEqX,fNeX,fSlX,fMin2,fInSign,fNotInSign,aJoin,aTabPar,gStill,gPush,wListG,aSortD,notB,aSortSetS,aTable,tSq,tStill,dOf,dSeq,dIf,dPut,wListD,aListItems,fInDT,fIxQS,fLenQS,fSortedLS,fLtS,fLeS,fEqT0,fInX,fSortedDT,aCallX,xRaise,aTry,aGiven,aPick,aNone,keepI,nLPairsIn,i03,nI,ff,if_true,if_false]
        refine for_inv [a, b] _ (fun Ψ h => h) (fun j ρ => ∃ u2 : Option AV, ρ = [some (AV.d (.tuple [.str c, a, b])), some (AV.own (if j = 0 then [] else if j = 1 then pairsL a else pairsL a ++ pairsL b)), u2]) ⟨none, rfl⟩ ?_ ?_
        · rintro i x ρ hx ⟨u2, rfl⟩
          have la := pairs_len a
          have lb := pairs_len b
          match i, hx with
          | 0, hx =>
            cases hx
            simp only [bName, List.set_cons_zero, List.set_cons_succ]
            simp only [isiB,aSeq,aIfS,aRet,aRetN,aSet,aDrop,aNext,aNever,aBreak,aCont,aUnp,aUnl,aPar,aAppend,aExtend,aAppendPop,aPopSet,aVar,aC,aTy,aFn,aOp,aCB,aCons,aNil,aTup,aLst,aB,aNot,aAnd,aOr,aAndV,aOrV,aNotV,aIf,aChain,aSl,aNoPart,aPart,aCall,aCallV,aYes,aNeg,aRevL,aRg1,aLstRg,asArgs,asArg,dataOf,listOf,viewOf,dataAll,onB,onP,onL,onT,onS,onZ2,aPut,parOk,parOk2,retR,rdA,stillR,fI0,fII,fEq,fNe,eqS,fIsiA,tyOf,fLen,fLenS,fInt1,fStrI,fMax2,fListOf,fTupOf,fAll,fAny,fIxT,fIxL,fIxQ,fIxS,fRep,fRepT,aRevA,fEqE,fNeE,fSlT,fSlL,fSlQ,fSlS,fCat,fCatT,fAddS,fIsN,fNotN,fNotB,fIsB,noneB,seqOf,fSorted,bName,bTup,bCons,bNil,onRg1,onRg2,cList,cTup,cStr,cRg1,cRg2,cEnum,cEnumT,cZipL,cZipT,cZipQ,wList,wTup,wStr,wRg1,wRg2,wEnum,wEnumT,wipeA,List.map,List.replicate,List.length_cons,List.length_nil,List.cons_append,List.nil_append,List.append_nil,List.getElem?_cons_zero,List.getElem?_cons_succ,List.set_cons_zero,List.set_cons_succ,List.set,Option.map_some,Option.map_none,Option.getD_some,Option.getD_none,reduceIte,Bool.false_eq_true,Bool.not_true,Bool.not_false,and_true,true_and,false_and,Nat.zero_le,ne_eq,not_false_eq_true,atI_0,atI_1,atI_2,atI_3,aDGet,aDGet1,aDGet2,aDIn,aListD,aStar,aDictOf,aSortSetL,aMaxT,aPar3,wKeys,cKeys,cVals,cItems,onO_some,keysOf_kv,valsOf_kv,itemsOf_kv,starItems_kv,dataAll_ds,dataAll_two,aUnpP,uNil,uCons,upOk,noBl,List.all_cons,List.all_nil,Bool.and_true,aSortItems,aOrL,aOdict,fSortedD,fExtD,fMulS,fLtT,fNeT0,aUpper,aSortSetV,cRg3,onRg3,fEqX,fNeX,fSlX,fMin2,fInSign,fNotInSign,aJoin,aTabPar,gStill,gPush,wListG,aSortD,notB,aSortSetS,aTable,tSq,tStill,dOf,dSeq,dIf,dPut,wListD,aListItems,fInDT,fIxQS,fLenQS,fSortedLS,fLtS,fLeS,fEqT0,fInX,fSortedDT,aCallX,xRaise,aTry,aGiven,aPick,aNone,keepI,nLPairsIn,if_true]
            exact pairs_call ha da (by omega) ⟨Nat.le_trans (show 0 + (pairsL a).length ≤ 1000000 by omega) sz, _, rfl⟩
          | 1, hx =>
            cases hx
            simp only [bName, List.set_cons_zero, List.set_cons_succ]
            simp only [isiB,aSeq,aIfS,aRet,aRetN,aSet,aDrop,aNext,aNever,aBreak,aCont,aUnp,aUnl,aPar,aAppend,aExtend,aAppendPop,aPopSet,aVar,aC,aTy,aFn,aOp,aCB,aCons,aNil,aTup,aLst,aB,aNot,aAnd,aOr,aAndV,aOrV,aNotV,aIf,aChain,aSl,aNoPart,aPart,aCall,aCallV,aYes,aNeg,aRevL,aRg1,aLstRg,asArgs,asArg,dataOf,listOf,viewOf,dataAll,onB,onP,onL,onT,onS,onZ2,aPut,parOk,parOk2,retR,rdA,stillR,fI0,fII,fEq,fNe,eqS,fIsiA,tyOf,fLen,fLenS,fInt1,fStrI,fMax2,fListOf,fTupOf,fAll,fAny,fIxT,fIxL,fIxQ,fIxS,fRep,fRepT,aRevA,fEqE,fNeE,fSlT,fSlL,fSlQ,fSlS,fCat,fCatT,fAddS,fIsN,fNotN,fNotB,fIsB,noneB,seqOf,fSorted,bName,bTup,bCons,bNil,onRg1,onRg2,cList,cTup,cStr,cRg1,cRg2,cEnum,cEnumT,cZipL,cZipT,cZipQ,wList,wTup,wStr,wRg1,wRg2,wEnum,wEnumT,wipeA,List.map,List.replicate,List.length_cons,List.length_nil,List.cons_append,List.nil_append,List.append_nil,List.getElem?_cons_zero,List.getElem?_cons_succ,List.set_cons_zero,List.set_cons_succ,List.set,Option.map_some,Option.map_none,Option.getD_some,Option.getD_none,reduceIte,Bool.false_eq_true,Bool.not_true,Bool.not_false,and_true,true_and,false_and,Nat.zero_le,ne_eq,not_false_eq_true,atI_0,atI_1,atI_2,atI_3,aDGet,aDGet1,aDGet2,aDIn,aListD,aStar,aDictOf,aSortSetL,aMaxT,aPar3,wKeys,cKeys,cVals,cItems,onO_some,keysOf_kv,valsOf_kv,itemsOf_kv,starItems_kv,dataAll_ds,dataAll_two,aUnpP,uNil,uCons,upOk,noBl,List.all_cons,List.all_nil,Bool.and_true,aSortItems,aOrL,aOdict,fSortedD,fExtD,fMulS,fLtT,fNeT0,aUpper,aSortSetV,cRg3,onRg3,fEqX,fNeX,fSlX,fMin2,fInSign,fNotInSign,aJoin,aTabPar,gStill,gPush,wListG,aSortD,notB,aSortSetS,aTable,tSq,tStill,dOf,dSeq,dIf,dPut,wListD,aListItems,fInDT,fIxQS,fLenQS,fSortedLS,fLtS,fLeS,fEqT0,fInX,fSortedDT,aCallX,xRaise,aTry,aGiven,aPick,aNone,keepI,nLPairsIn,if_true]
            exact pairs_call hb' db (by omega) ⟨Nat.le_trans (show (pairsL a).length + (pairsL b).length ≤ 1000000 by omega) sz, _, rfl⟩
          | i + 2, hx => cases i <;> cases hx
        · rintro ρ ⟨u2, rfl⟩
          simp only [isiB,aSeq,aIfS,aRet,aRetN,aSet,aDrop,aNext,aNever,aBreak,aCont,aUnp,aUnl,aPar,aAppend,aExtend,aAppendPop,aPopSet,aVar,aC,aTy,aFn,aOp,aCB,aCons,aNil,aTup,aLst,aB,aNot,aAnd,aOr,aAndV,aOrV,aNotV,aIf,aChain,aSl,aNoPart,aPart,aCall,aCallV,aYes,aNeg,aRevL,aRg1,aLstRg,asArgs,asArg,dataOf,listOf,viewOf,dataAll,onB,onP,onL,onT,onS,onZ2,aPut,parOk,parOk2,retR,rdA,stillR,fI0,fII,fEq,fNe,eqS,fIsiA,tyOf,fLen,fLenS,fInt1,fStrI,fMax2,fListOf,fTupOf,fAll,fAny,fIxT,fIxL,fIxQ,fIxS,fRep,fRepT,aRevA,fEqE,fNeE,fSlT,fSlL,fSlQ,fSlS,fCat,fCatT,fAddS,fIsN,fNotN,fNotB,fIsB,noneB,seqOf,fSorted,bName,bTup,bCons,bNil,onRg1,onRg2,cList,cTup,cStr,cRg1,cRg2,cEnum,cEnumT,cZipL,cZipT,cZipQ,wList,wTup,wStr,wRg1,wRg2,wEnum,wEnumT,wipeA,List.map,List.replicate,List.length_cons,List.length_nil,List.cons_append,List.nil_append,List.append_nil,List.getElem?_cons_zero,List.getElem?_cons_succ,List.set_cons_zero,List.set_cons_succ,List.set,Option.map_some,Option.map_none,Option.getD_some,Option.getD_none,reduceIte,Bool.false_eq_true,Bool.not_true,Bool.not_false,and_true,true_and,false_and,Nat.zero_le,ne_eq,not_false_eq_true,atI_0,atI_1,atI_2,atI_3,aDGet,aDGet1,aDGet2,aDIn,aListD,aStar,aDictOf,aSortSetL,aMaxT,aPar3,wKeys,cKeys,cVals,cItems,onO_some,keysOf_kv,valsOf_kv,itemsOf_kv,starItems_kv,dataAll_ds,dataAll_two,aUnpP,uNil,uCons,upOk,noBl,List.all_cons,List.all_nil,Bool.and_true,aSortItems,aOrL,aOdict,fSortedD,fExtD,fMulS,fLtT,fNeT0,aUpper,aSortSetV,cRg3,onRg3,fEqX,fNeX,fSlX,fMin2,fInSign,fNotInSign,aJoin,aTabPar,gStill,gPush,wListG,aSortD,notB,aSortSetS,aTable,tSq,tStill,dOf,dSeq,dIf,dPut,wListD,aListItems,fInDT,fIxQS,fLenQS,fSortedLS,fLtS,fLeS,fEqT0,fInX,fSortedDT,aCallX,xRaise,aTry,aGiven,aPick,aNone,keepI,nLPairsIn]
          exact ht
theorem ok_LPairsIn {f : Addr} {fd : FuncData} (Z : Blt K mg) (D : DefAt K mg "_law_pairs_in" sLPairsIn pLPairsIn f fd) : FnOk P w K mg base CX0 31 f fd pLPairsIn (spA 1 K DK (T_pairsK 30)) := okR_LPairsIn Z D 30
end


abbrev sLAnyCondition : Stmt := top 24
abbrev nLAnyCondition : List Str := ["_law_deck", "_law_pairs", "_law_most", "_law_deep", "_law_part", "_law_one"]
abbrev pLAnyCondition : List Str := ["_law_deck", "_law_pairs", "_law_most", "_law_deep"]
theorem scLAnyCondition : FnScope nLAnyCondition pLAnyCondition (defScope sLAnyCondition) := ⟨rfl, rfl, rfl, by decide +kernel, rfl, by decide +kernel, by decide +kernel⟩
def T_anyK : Nat → FnT
  | 0 => fun _ _ => False
  | f + 1 => fun as Φ => match as with
    | [.dk, .bl xs, .d (.int most), .d (.int deep)] => ∃ (ps : List (Str × Str)) (d : Nat), xs = ps.map encPT ∧ ps.length < 100 ∧ (∀ p ∈ ps, Wo p) ∧ (1 ≤ most ∧ most ≤ 100) ∧ deep = (d : Int) + 1 ∧ d ≤ f ∧ ∀ x, condD x = true → Cw d x → Φ (.d x)
    | _ => False
theorem any_call {k : Nat} {ps : List (Str × Str)} {d : Nat} {most : Int} {Φ : R → Prop} (hl : ps.length < 100) (hw : ∀ p ∈ ps, Wo p) (hm : 1 ≤ most ∧ most ≤ 100) (hd : d + 1 ≤ k) (h : ∀ x, condD x = true → Cw d x → Φ (.d x)) : T_anyK k [.dk, .bl (ps.map encPT), .d (.int most), .d (.int ((d : Int) + 1))] Φ := by
  cases k with
  | zero => omega
  | succ k => exact ⟨ps, d, rfl, hl, hw, hm, rfl, by omega, h⟩
theorem condA : condD (.tuple [.str (Str.ofString "always")]) = true := by unfold condD; exact decide_eq_true rfl
theorem condI {a b : Str} (ha : wordS a = true) (hb : wordS b = true) : condD (.tuple [.str (Str.ofString "is"), .str a, .str b]) = true := by
  unfold condD
  rw [if_pos rfl, Bool.and_eq_true]
  exact ⟨ha, hb⟩
theorem condNt {a : PyData} (h : condD a = true) : condD (.tuple [.str (Str.ofString "not"), a]) = true := by
  unfold condD
  rw [Bool.and_eq_true]
  exact ⟨decide_eq_true rfl, h⟩
theorem condBE {c : Str} {a b : PyData} (hc : c = Str.ofString "both" ∨ c = Str.ofString "either") (ha : condD a = true) (hb : condD b = true) : condD (.tuple [.str c, a, b]) = true := by
  unfold condD
  have n : ¬ c = Str.ofString "is" := by
    rcases hc with rfl | rfl
    · exact of_decide_eq_false nBI
    · exact of_decide_eq_false nEI
  rw [if_neg n, Bool.and_eq_true, Bool.and_eq_true, Bool.or_eq_true]
  exact ⟨hc.imp decide_eq_true decide_eq_true, ha, hb⟩
section
variable {P : Program} {w : World} {K : PySem.W.Frag} {mg : Str → Option Value} {base : Heap}
theorem okR_LAnyCondition {f : Addr} {fd : FuncData} {fLDraw : Addr} {fdLDraw : FuncData} {fLPick : Addr} {fdLPick : FuncData} (Z : Blt K mg) (D : DefD [V.int 4] K mg "_law_any_condition" sLAnyCondition pLAnyCondition f fd) (DLDraw : DefAt K mg "_law_draw" sLDraw pLDraw fLDraw fdLDraw) (DLPick : DefAt K mg "_law_pick" sLPick pLPick fLPick fdLPick) (GLDraw : FnOk P w K mg base CX0 1 fLDraw fdLDraw pLDraw (spA 2 K DK T_draw)) (GLPick : FnOk P w K mg base CX0 2 fLPick fdLPick pLPick (spA 2 K DK T_law_pick)) : ∀ k : Nat, FnOk P w K mg base CX0 (3 + k) f fd pLAnyCondition (spA 4 K DK (T_anyK k)) := by
  intro k
  induction k with
  | zero => exact ⟨fun vs H Q E h => h.len, fun A outer s H args us vs Q E _ _ _ _ h => by obtain ⟨G, as, Φ, _, _, _, _, ht, _⟩ := h; exact ht.elim⟩
  | succ k GLAnyCondition =>
    have DLAnyCondition := D
    refine D.F.ok scLAnyCondition (fun vs H Q E h => h.len) (fun cdv A outer s0 H vs Q E hr h => ?_)
    have hu := hu_of hr
    have hr0 := (show Room (3 + k) _ from hr)
    have hr3 := hr0.mono (Nat.le_add_right 3 k)
    refine ⟨_, (pss_cons (ps_if (PW.pt (pw_or (pt_cmpR op_lt (pv 2) pe_int (nomark _)) (pw_or (pt_cmpR op_lt (pv 3) pe_int (nomark _)) (pw_or1 (pt_cmpR op_eq (pe_call GLDraw (hr3.mono (by decide)) rfl DLDraw.g DLDraw.F.kp DLDraw.b .nil pass0 (pa_cons (pv 0) (pa_cons pe_int pa_nil))) pe_int (nomark _))))))
    (pss_one (ps_ret (pe_ifExp (PW.pt (pw_or (pt_cmpR (op_eqE hr.units0) (pv 1) (pe_lst pa_nil) (nomark _)) (pw_or1 (pt_cmpR op_eq (pe_call GLDraw (hr3.mono (by decide)) rfl DLDraw.g DLDraw.F.kp DLDraw.b .nil pass0 (pa_cons (pv 0) (pa_cons pe_int pa_nil))) pe_int (nomark _))))) (pe_tup (pa_cons pe_str pa_nil)) (pe_op op_catA (pe_tup (pa_cons pe_str pa_nil)) (pe_call GLPick (hr3.mono (by decide)) rfl DLPick.g DLPick.F.kp DLPick.b .nil pass0 (pa_cons (pv 0) (pa_cons (pv 1) pa_nil)))))))
    pss_nil)
    (pss_cons (ps_if (PW.pt (pw_or (pt_cmpR op_eq (pv 2) pe_int (nomark _)) (pw_or1 (pt_cmpR op_eq (pe_call GLDraw (hr3.mono (by decide)) rfl DLDraw.g DLDraw.F.kp DLDraw.b .nil pass0 (pa_cons (pv 0) (pa_cons pe_int pa_nil))) pe_int (nomark _)))))
    (pss_one (ps_ret (pe_tup (pa_cons pe_str (pa_cons (pe_call GLAnyCondition hr0 rfl DLAnyCondition.g DLAnyCondition.F.kp DLAnyCondition.b .nil pass0 (pa_cons (pv 0) (pa_cons (pv 1) (pa_cons (pe_op op_sub (pv 2) pe_int) (pa_cons (pe_op op_sub (pv 3) pe_int) pa_nil))))) pa_nil)))))
    pss_nil)
    (pss_cons (ps_set (i := 4) scLAnyCondition.nd rfl (Or.inl rfl) (pe_op op_add pe_int (pe_call GLDraw (hr3.mono (by decide)) rfl DLDraw.g DLDraw.F.kp DLDraw.b .nil pass0 (pa_cons (pv 0) (pa_cons (pe_op op_sub (pv 2) pe_int) pa_nil)))))
    (pss_cons (ps_set (i := 5) scLAnyCondition.nd rfl (Or.inl rfl) (pe_call GLAnyCondition hr0 rfl DLAnyCondition.g DLAnyCondition.F.kp DLAnyCondition.b .nil pass0 (pa_cons (pv 0) (pa_cons (pv 1) (pa_cons (pv 4) (pa_cons (pe_op op_sub (pv 3) pe_int) pa_nil))))))
    (pss_one (ps_ret (pe_tup (pa_cons (pe_call GLPick (hr3.mono (by decide)) rfl DLPick.g DLPick.F.kp DLPick.b .nil pass0 (pa_cons (pv 0) (pa_cons (pe_lst (pa_cons pe_str (pa_cons pe_str pa_nil))) pa_nil))) (pa_cons (pv 5) (pa_cons (pe_call GLAnyCondition hr0 rfl DLAnyCondition.g DLAnyCondition.F.kp DLAnyCondition.b .nil pass0 (pa_cons (pv 0) (pa_cons (pv 1) (pa_cons (pe_op op_sub (pe_op op_sub (pv 2) pe_int) (pv 4)) (pa_cons (pe_op op_sub (pv 3) pe_int) pa_nil))))) pa_nil)))))))))), abs_fn (N := nLAnyCondition) (sa_seq (sa_if (ta_or (ta_test (ea_op oa_lt (ea_var 2) (ea_int _))) (ta_or (ta_test (ea_op oa_lt (ea_var 3) (ea_int _))) (ta_test (ea_op oa_eq (ea_call [.k, .d] (aa_cons (ea_var 0) (aa_cons (ea_int _) aa_nil))) (ea_int _))))) (sa_ret (ea_if (ta_or (ta_test (ea_op oa_eqE (ea_var 1) (ea_lst aa_nil))) (ta_test (ea_op oa_eq (ea_call [.k, .d] (aa_cons (ea_var 0) (aa_cons (ea_int _) aa_nil))) (ea_int _)))) (ea_tup (aa_cons (ea_str _) aa_nil)) (ea_op oa_catA (ea_tup (aa_cons (ea_str _) aa_nil)) (ea_call [.k, .s] (aa_cons (ea_var 0) (aa_cons (ea_var 1) aa_nil)))))) sa_next) (sa_seq (sa_if (ta_or (ta_test (ea_op oa_eq (ea_var 2) (ea_int _))) (ta_test (ea_op oa_eq (ea_call [.k, .d] (aa_cons (ea_var 0) (aa_cons (ea_int _) aa_nil))) (ea_int _)))) (sa_ret (ea_tup (aa_cons (ea_str _) (aa_cons (ea_call [.k, .b, .d, .d] (aa_cons (ea_var 0) (aa_cons (ea_var 1) (aa_cons (ea_op oa_sub (ea_var 2) (ea_int _)) (aa_cons (ea_op oa_sub (ea_var 3) (ea_int _)) aa_nil))))) aa_nil)))) sa_next) (sa_seq (sa_set (ea_op oa_add (ea_int _) (ea_call [.k, .d] (aa_cons (ea_var 0) (aa_cons (ea_op oa_sub (ea_var 2) (ea_int _)) aa_nil))))) (sa_seq (sa_set (ea_call [.k, .b, .d, .d] (aa_cons (ea_var 0) (aa_cons (ea_var 1) (aa_cons (ea_var 4) (aa_cons (ea_op oa_sub (ea_var 3) (ea_int _)) aa_nil)))))) (sa_ret (ea_tup (aa_cons (ea_call [.k, .s] (aa_cons (ea_var 0) (aa_cons (ea_lst (aa_cons (ea_str _) (aa_cons (ea_str _) aa_nil))) aa_nil))) (aa_cons (ea_var 5) (aa_cons (ea_call [.k, .b, .d, .d] (aa_cons (ea_var 0) (aa_cons (ea_var 1) (aa_cons (ea_op oa_sub (ea_op oa_sub (ea_var 2) (ea_int _)) (ea_var 4)) (aa_cons (ea_op oa_sub (ea_var 3) (ea_int _)) aa_nil))))) aa_nil))))))))) h (fun as Φ hn ht => ?_)⟩
    match as, ht with
    | [.dk, .bl xs, .d (.int most), .d (.int deep)], ht =>
      obtain ⟨ps, d, rfl, hl, hw, ⟨m0, m1⟩, rfl, hd, ht⟩ := ht
      refine seq_hide fun Kc kc => if_K fun Ka Kb ka kb => ?_
      have leaf : Ka := ka (by
        simp only [isiB,aSeq,aIfS,aRet,aRetN,aSet,aDrop,aNext,aNever,aBreak,aCont,aUnp,aUnl,aPar,aAppend,aExtend,aAppendPop,aPopSet,aVar,aC,aTy,aFn,aOp,aCB,aCons,aNil,aTup,aLst,aB,aNot,aAnd,aOr,aAndV,aOrV,aNotV,aIf,aChain,aSl,aNoPart,aPart,aCall,aCallV,aYes,aNeg,aRevL,aRg1,aLstRg,asArgs,asArg,dataOf,listOf,viewOf,dataAll,onB,onP,onL,onT,onS,onZ2,aPut,parOk,parOk2,retR,rdA,stillR,fI0,fII,fEq,fNe,eqS,fIsiA,tyOf,fLen,fLenS,fInt1,fStrI,fMax2,fListOf,fTupOf,fAll,fAny,fIxT,fIxL,fIxQ,fIxS,fRep,fRepT,aRevA,fEqE,fNeE,fSlT,fSlL,fSlQ,fSlS,fCat,fCatT,fAddS,fIsN,fNotN,fNotB,fIsB,noneB,seqOf,fSorted,bName,bTup,bCons,bNil,onRg1,onRg2,cList,cTup,cStr,cRg1,cRg2,cEnum,cEnumT,cZipL,cZipT,cZipQ,wList,wTup,wStr,wRg1,wRg2,wEnum,wEnumT,wipeA,List.map,List.replicate,List.length_cons,List.length_nil,List.cons_append,List.nil_append,List.append_nil,List.getElem?_cons_zero,List.getElem?_cons_succ,List.set_cons_zero,List.set_cons_succ,List.set,Option.map_some,Option.map_none,Option.getD_some,Option.getD_none,reduceIte,Bool.false_eq_true,Bool.not_true,Bool.not_false,and_true,true_and,false_and,Nat.zero_le,ne_eq,not_false_eq_true,atI_0,atI_1,atI_2,atI_3,aDGet,aDGet1,aDGet2,aDIn,aListD,aStar,aDictOf,aSortSetL,aMaxT,aPar3,wKeys,cKeys,cVals,cItems,onO_some,keysOf_kv,valsOf_kv,itemsOf_kv,starItems_kv,dataAll_ds,dataAll_two,aUnpP,uNil,uCons,upOk,noBl,List.all_cons,List.all_nil,Bool.and_true,aSortItems,aOrL,aOdict,fSortedD,fExtD,fMulS,fLtT,fNeT0,aUpper,aSortSetV,cRg3,onRg3,fEqX,fNeX,fSlX,fMin2,fInSign,fNotInSign,aJoin,aTabPar,gStill,gPush,wListG,aSortD,notB,aSortSetS,aTable,tSq,tStill,dOf,dSeq,dIf,dPut,wListD,aListItems,fInDT,fIxQS,fLenQS,fSortedLS,fLtS,fLeS,fEqT0,fInX,fSortedDT,aCallX,xRaise,aTry,aGiven,aPick,aNone,keepI,nLAnyCondition,T_draw,T_law_pick]
        have al : 0 + 1 ≤ sizeLine ∧ Φ (R.d (PyData.tuple [PyData.str (Str.ofString "always")])) := ⟨by decide, ht _ condA (always_cw d)⟩
        refine ite2 (fun _ => al) (fun ne => ⟨⟨by decide, by decide⟩, fun r _ _ => ite2 (fun _ => al) (fun _ => ⟨by decide, ⟨?_, ?_⟩, fun x hx => ?_⟩)⟩)
        · cases ps with
          | nil => exact absurd rfl ne
          | cons _ _ => exact Nat.succ_pos _
        · rw [List.length_map]
          exact Nat.lt_trans hl (by decide)
        · obtain ⟨p, hp, rfl⟩ := List.mem_map.mp hx
          have wp := hw p hp
          exact ⟨by show 1 + 2 ≤ sizeLine; decide, ht _ (condI wp.1 wp.2) (is_cw (wd_of wp.1) (wd_of wp.2) d)⟩)
      clear ka
      have rest : 1 < most → 1 ≤ d → Kb := fun h2 hd1 => kb (kc _ (by
        clear kc kb leaf
        refine seq_hide fun Kc kc => if_K fun Ka Kb ka kb => ?_
        obtain ⟨e, rfl⟩ : ∃ e, d = e + 1 := ⟨d - 1, by omega⟩
        have nots : (Str.ofString "not").cps.size ≤ 6 ∧ ((Str.ofString "not").cps.toList.all fun c => decide (c < 16 ^ 8)) = true := ⟨by decide +kernel, by decide +kernel⟩
        have dd : ((e + 1 : Nat) : Int) + 1 - 1 = (e : Int) + 1 := by omega
        have nt : Ka := ka (by
          simp only [isiB,aSeq,aIfS,aRet,aRetN,aSet,aDrop,aNext,aNever,aBreak,aCont,aUnp,aUnl,aPar,aAppend,aExtend,aAppendPop,aPopSet,aVar,aC,aTy,aFn,aOp,aCB,aCons,aNil,aTup,aLst,aB,aNot,aAnd,aOr,aAndV,aOrV,aNotV,aIf,aChain,aSl,aNoPart,aPart,aCall,aCallV,aYes,aNeg,aRevL,aRg1,aLstRg,asArgs,asArg,dataOf,listOf,viewOf,dataAll,onB,onP,onL,onT,onS,onZ2,aPut,parOk,parOk2,retR,rdA,stillR,fI0,fII,fEq,fNe,eqS,fIsiA,tyOf,fLen,fLenS,fInt1,fStrI,fMax2,fListOf,fTupOf,fAll,fAny,fIxT,fIxL,fIxQ,fIxS,fRep,fRepT,aRevA,fEqE,fNeE,fSlT,fSlL,fSlQ,fSlS,fCat,fCatT,fAddS,fIsN,fNotN,fNotB,fIsB,noneB,seqOf,fSorted,bName,bTup,bCons,bNil,onRg1,onRg2,cList,cTup,cStr,cRg1,cRg2,cEnum,cEnumT,cZipL,cZipT,cZipQ,wList,wTup,wStr,wRg1,wRg2,wEnum,wEnumT,wipeA,List.map,List.replicate,List.length_cons,List.length_nil,List.cons_append,List.nil_append,List.append_nil,List.getElem?_cons_zero,List.getElem?_cons_succ,List.set_cons_zero,List.set_cons_succ,List.set,Option.map_some,Option.map_none,Option.getD_some,Option.getD_none,reduceIte,Bool.false_eq_true,Bool.not_true,Bool.not_false,and_true,true_and,false_and,Nat.zero_le,ne_eq,not_false_eq_true,atI_0,atI_1,atI_2,atI_3,aDGet,aDGet1,aDGet2,aDIn,aListD,aStar,aDictOf,aSortSetL,aMaxT,aPar3,wKeys,cKeys,cVals,cItems,onO_some,keysOf_kv,valsOf_kv,itemsOf_kv,starItems_kv,dataAll_ds,dataAll_two,aUnpP,uNil,uCons,upOk,noBl,List.all_cons,List.all_nil,Bool.and_true,aSortItems,aOrL,aOdict,fSortedD,fExtD,fMulS,fLtT,fNeT0,aUpper,aSortSetV,cRg3,onRg3,fEqX,fNeX,fSlX,fMin2,fInSign,fNotInSign,aJoin,aTabPar,gStill,gPush,wListG,aSortD,notB,aSortSetS,aTable,tSq,tStill,dOf,dSeq,dIf,dPut,wListD,aListItems,fInDT,fIxQS,fLenQS,fSortedLS,fLtS,fLeS,fEqT0,fInX,fSortedDT,aCallX,xRaise,aTry,aGiven,aPick,aNone,keepI,nLAnyCondition,T_draw,T_law_pick]
          rw [dd]
          exact any_call hl hw ⟨by omega, by omega⟩ (by omega) fun x hx cx => ⟨by show 2 ≤ sizeLine; decide, ht _ (condNt hx) (not_cw nots cx)⟩)
        clear ka
        have big : 2 < most → Kb := fun h3 => kb (kc _ (by
          clear kc kb nt
          simp only [isiB,aSeq,aIfS,aRet,aRetN,aSet,aDrop,aNext,aNever,aBreak,aCont,aUnp,aUnl,aPar,aAppend,aExtend,aAppendPop,aPopSet,aVar,aC,aTy,aFn,aOp,aCB,aCons,aNil,aTup,aLst,aB,aNot,aAnd,aOr,aAndV,aOrV,aNotV,aIf,aChain,aSl,aNoPart,aPart,aCall,aCallV,aYes,aNeg,aRevL,aRg1,aLstRg,asArgs,asArg,dataOf,listOf,viewOf,dataAll,onB,onP,onL,onT,onS,onZ2,aPut,parOk,parOk2,retR,rdA,stillR,fI0,fII,fEq,fNe,eqS,fIsiA,tyOf,fLen,fLenS,fInt1,fStrI,fMax2,fListOf,fTupOf,fAll,fAny,fIxT,fIxL,fIxQ,fIxS,fRep,fRepT,aRevA,fEqE,fNeE,fSlT,fSlL,fSlQ,fSlS,fCat,fCatT,fAddS,fIsN,fNotN,fNotB,fIsB,noneB,seqOf,fSorted,bName,bTup,bCons,bNil,onRg1,onRg2,cList,cTup,cStr,cRg1,cRg2,cEnum,cEnumT,cZipL,cZipT,cZipQ,wList,wTup,wStr,wRg1,wRg2,wEnum,wEnumT,wipeA,List.map,List.replicate,List.length_cons,List.length_nil,List.cons_append,List.nil_append,List.append_nil,List.getElem?_cons_zero,List.getElem?_cons_succ,List.set_cons_zero,List.set_cons_succ,List.set,Option.map_some,Option.map_none,Option.getD_some,Option.getD_none,reduceIte,Bool.false_eq_true,Bool.not_true,Bool.not_false,and_true,true_and,false_and,Nat.zero_le,ne_eq,not_false_eq_true,atI_0,atI_1,atI_2,atI_3,aDGet,aDGet1,aDGet2,aDIn,aListD,aStar,aDictOf,aSortSetL,aMaxT,aPar3,wKeys,cKeys,cVals,cItems,onO_some,keysOf_kv,valsOf_kv,itemsOf_kv,starItems_kv,dataAll_ds,dataAll_two,aUnpP,uNil,uCons,upOk,noBl,List.all_cons,List.all_nil,Bool.and_true,aSortItems,aOrL,aOdict,fSortedD,fExtD,fMulS,fLtT,fNeT0,aUpper,aSortSetV,cRg3,onRg3,fEqX,fNeX,fSlX,fMin2,fInSign,fNotInSign,aJoin,aTabPar,gStill,gPush,wListG,aSortD,notB,aSortSetS,aTable,tSq,tStill,dOf,dSeq,dIf,dPut,wListD,aListItems,fInDT,fIxQS,fLenQS,fSortedLS,fLtS,fLeS,fEqT0,fInX,fSortedDT,aCallX,xRaise,aTry,aGiven,aPick,aNone,keepI,nLAnyCondition,T_draw,T_law_pick]
          refine ⟨⟨by omega, by omega⟩, fun r r0 r1 => ?_⟩
          rw [dd]
          refine any_call hl hw ⟨by omega, by omega⟩ (by omega) fun x hx cx => ?_
          simp only [isiB,aSeq,aIfS,aRet,aRetN,aSet,aDrop,aNext,aNever,aBreak,aCont,aUnp,aUnl,aPar,aAppend,aExtend,aAppendPop,aPopSet,aVar,aC,aTy,aFn,aOp,aCB,aCons,aNil,aTup,aLst,aB,aNot,aAnd,aOr,aAndV,aOrV,aNotV,aIf,aChain,aSl,aNoPart,aPart,aCall,aCallV,aYes,aNeg,aRevL,aRg1,aLstRg,asArgs,asArg,dataOf,listOf,viewOf,dataAll,onB,onP,onL,onT,onS,onZ2,aPut,parOk,parOk2,retR,rdA,stillR,fI0,fII,fEq,fNe,eqS,fIsiA,tyOf,fLen,fLenS,fInt1,fStrI,fMax2,fListOf,fTupOf,fAll,fAny,fIxT,fIxL,fIxQ,fIxS,fRep,fRepT,aRevA,fEqE,fNeE,fSlT,fSlL,fSlQ,fSlS,fCat,fCatT,fAddS,fIsN,fNotN,fNotB,fIsB,noneB,seqOf,fSorted,bName,bTup,bCons,bNil,onRg1,onRg2,cList,cTup,cStr,cRg1,cRg2,cEnum,cEnumT,cZipL,cZipT,cZipQ,wList,wTup,wStr,wRg1,wRg2,wEnum,wEnumT,wipeA,List.map,List.replicate,List.length_cons,List.length_nil,List.cons_append,List.nil_append,List.append_nil,List.getElem?_cons_zero,List.getElem?_cons_succ,List.set_cons_zero,List.set_cons_succ,List.set,Option.map_some,Option.map_none,Option.getD_some,Option.getD_none,reduceIte,Bool.false_eq_true,Bool.not_true,Bool.not_false,and_true,true_and,false_and,Nat.zero_le,ne_eq,not_false_eq_true,atI_0,atI_1,atI_2,atI_3,aDGet,aDGet1,aDGet2,aDIn,aListD,aStar,aDictOf,aSortSetL,aMaxT,aPar3,wKeys,cKeys,cVals,cItems,onO_some,keysOf_kv,valsOf_kv,itemsOf_kv,starItems_kv,dataAll_ds,dataAll_two,aUnpP,uNil,uCons,upOk,noBl,List.all_cons,List.all_nil,Bool.and_true,aSortItems,aOrL,aOdict,fSortedD,fExtD,fMulS,fLtT,fNeT0,aUpper,aSortSetV,cRg3,onRg3,fEqX,fNeX,fSlX,fMin2,fInSign,fNotInSign,aJoin,aTabPar,gStill,gPush,wListG,aSortD,notB,aSortSetS,aTable,tSq,tStill,dOf,dSeq,dIf,dPut,wListD,aListItems,fInDT,fIxQS,fLenQS,fSortedLS,fLtS,fLeS,fEqT0,fInX,fSortedDT,aCallX,xRaise,aTry,aGiven,aPick,aNone,keepI,nLAnyCondition,T_draw,T_law_pick]
          refine ⟨by decide, ⟨by decide, by decide⟩, fun y hy => ?_⟩
          obtain ⟨c, rfl, hc, hc2⟩ : ∃ c : Str, y = .str c ∧ (c = Str.ofString "both" ∨ c = Str.ofString "either") ∧ (c.cps.size ≤ 6 ∧ (c.cps.toList.all fun c => decide (c < 16 ^ 8)) = true) := by
            simp only [List.mem_cons, List.not_mem_nil, or_false] at hy
            rcases hy with rfl | rfl
            · exact ⟨_, rfl, .inl rfl, by decide +kernel, by decide +kernel⟩
            · exact ⟨_, rfl, .inr rfl, by decide +kernel, by decide +kernel⟩
          rw [dd]
          refine any_call hl hw ⟨by omega, by omega⟩ (by omega) fun z hz cz => ?_
          exact ⟨by show 3 ≤ sizeLine; decide, ht _ (condBE hc hx hz) (both_cw hc2 cx cz)⟩))
        clear kb kc
        simp only [isiB,aSeq,aIfS,aRet,aRetN,aSet,aDrop,aNext,aNever,aBreak,aCont,aUnp,aUnl,aPar,aAppend,aExtend,aAppendPop,aPopSet,aVar,aC,aTy,aFn,aOp,aCB,aCons,aNil,aTup,aLst,aB,aNot,aAnd,aOr,aAndV,aOrV,aNotV,aIf,aChain,aSl,aNoPart,aPart,aCall,aCallV,aYes,aNeg,aRevL,aRg1,aLstRg,asArgs,asArg,dataOf,listOf,viewOf,dataAll,onB,onP,onL,onT,onS,onZ2,aPut,parOk,parOk2,retR,rdA,stillR,fI0,fII,fEq,fNe,eqS,fIsiA,tyOf,fLen,fLenS,fInt1,fStrI,fMax2,fListOf,fTupOf,fAll,fAny,fIxT,fIxL,fIxQ,fIxS,fRep,fRepT,aRevA,fEqE,fNeE,fSlT,fSlL,fSlQ,fSlS,fCat,fCatT,fAddS,fIsN,fNotN,fNotB,fIsB,noneB,seqOf,fSorted,bName,bTup,bCons,bNil,onRg1,onRg2,cList,cTup,cStr,cRg1,cRg2,cEnum,cEnumT,cZipL,cZipT,cZipQ,wList,wTup,wStr,wRg1,wRg2,wEnum,wEnumT,wipeA,List.map,List.replicate,List.length_cons,List.length_nil,List.cons_append,List.nil_append,List.append_nil,List.getElem?_cons_zero,List.getElem?_cons_succ,List.set_cons_zero,List.set_cons_succ,List.set,Option.map_some,Option.map_none,Option.getD_some,Option.getD_none,reduceIte,Bool.false_eq_true,Bool.not_true,Bool.not_false,and_true,true_and,false_and,Nat.zero_le,ne_eq,not_false_eq_true,atI_0,atI_1,atI_2,atI_3,aDGet,aDGet1,aDGet2,aDIn,aListD,aStar,aDictOf,aSortSetL,aMaxT,aPar3,wKeys,cKeys,cVals,cItems,onO_some,keysOf_kv,valsOf_kv,itemsOf_kv,starItems_kv,dataAll_ds,dataAll_two,aUnpP,uNil,uCons,upOk,noBl,List.all_cons,List.all_nil,Bool.and_true,aSortItems,aOrL,aOdict,fSortedD,fExtD,fMulS,fLtT,fNeT0,aUpper,aSortSetV,cRg3,onRg3,fEqX,fNeX,fSlX,fMin2,fInSign,fNotInSign,aJoin,aTabPar,gStill,gPush,wListG,aSortD,notB,aSortSetS,aTable,tSq,tStill,dOf,dSeq,dIf,dPut,wListD,aListItems,fInDT,fIxQS,fLenQS,fSortedLS,fLtS,fLeS,fEqT0,fInX,fSortedDT,aCallX,xRaise,aTry,aGiven,aPick,aNone,keepI,nLAnyCondition,T_draw,T_law_pick]
        refine ite2 (fun _ => nt) (fun h3 => ⟨⟨by decide, by decide⟩, fun r _ _ => ite2 (fun _ => nt) (fun _ => big ?_)⟩)
        have : ¬ most = 2 := fun z => h3 (decide_eq_true z)
        omega))
      clear kb kc
      simp only [isiB,aSeq,aIfS,aRet,aRetN,aSet,aDrop,aNext,aNever,aBreak,aCont,aUnp,aUnl,aPar,aAppend,aExtend,aAppendPop,aPopSet,aVar,aC,aTy,aFn,aOp,aCB,aCons,aNil,aTup,aLst,aB,aNot,aAnd,aOr,aAndV,aOrV,aNotV,aIf,aChain,aSl,aNoPart,aPart,aCall,aCallV,aYes,aNeg,aRevL,aRg1,aLstRg,asArgs,asArg,dataOf,listOf,viewOf,dataAll,onB,onP,onL,onT,onS,onZ2,aPut,parOk,parOk2,retR,rdA,stillR,fI0,fII,fEq,fNe,eqS,fIsiA,tyOf,fLen,fLenS,fInt1,fStrI,fMax2,fListOf,fTupOf,fAll,fAny,fIxT,fIxL,fIxQ,fIxS,fRep,fRepT,aRevA,fEqE,fNeE,fSlT,fSlL,fSlQ,fSlS,fCat,fCatT,fAddS,fIsN,fNotN,fNotB,fIsB,noneB,seqOf,fSorted,bName,bTup,bCons,bNil,onRg1,onRg2,cList,cTup,cStr,cRg1,cRg2,cEnum,cEnumT,cZipL,cZipT,cZipQ,wList,wTup,wStr,wRg1,wRg2,wEnum,wEnumT,wipeA,List.map,List.replicate,List.length_cons,List.length_nil,List.cons_append,List.nil_append,List.append_nil,List.getElem?_cons_zero,List.getElem?_cons_succ,List.set_cons_zero,List.set_cons_succ,List.set,Option.map_some,Option.map_none,Option.getD_some,Option.getD_none,reduceIte,Bool.false_eq_true,Bool.not_true,Bool.not_false,and_true,true_and,false_and,Nat.zero_le,ne_eq,not_false_eq_true,atI_0,atI_1,atI_2,atI_3,aDGet,aDGet1,aDGet2,aDIn,aListD,aStar,aDictOf,aSortSetL,aMaxT,aPar3,wKeys,cKeys,cVals,cItems,onO_some,keysOf_kv,valsOf_kv,itemsOf_kv,starItems_kv,dataAll_ds,dataAll_two,aUnpP,uNil,uCons,upOk,noBl,List.all_cons,List.all_nil,Bool.and_true,aSortItems,aOrL,aOdict,fSortedD,fExtD,fMulS,fLtT,fNeT0,aUpper,aSortSetV,cRg3,onRg3,fEqX,fNeX,fSlX,fMin2,fInSign,fNotInSign,aJoin,aTabPar,gStill,gPush,wListG,aSortD,notB,aSortSetS,aTable,tSq,tStill,dOf,dSeq,dIf,dPut,wListD,aListItems,fInDT,fIxQS,fLenQS,fSortedLS,fLtS,fLeS,fEqT0,fInX,fSortedDT,aCallX,xRaise,aTry,aGiven,aPick,aNone,keepI,nLAnyCondition,T_draw,T_law_pick]
      refine ite2 (fun _ => leaf) (fun h2 => ite2 (fun _ => leaf) (fun h3 => ⟨⟨by decide, by decide⟩, fun r _ _ => ite2 (fun _ => leaf) (fun _ => rest ?_ ?_)⟩))
      · have : ¬ most < 2 := fun z => h2 (decide_eq_true z)
        omega
      · have : ¬ (d : Int) + 1 < 2 := fun z => h3 (decide_eq_true z)
        omega
    | [.d _], ht => exact ht.elim
theorem ok_LAnyCondition {f : Addr} {fd : FuncData} {fLDraw : Addr} {fdLDraw : FuncData} {fLPick : Addr} {fdLPick : FuncData} (Z : Blt K mg) (D : DefD [V.int 4] K mg "_law_any_condition" sLAnyCondition pLAnyCondition f fd) (DLDraw : DefAt K mg "_law_draw" sLDraw pLDraw fLDraw fdLDraw) (DLPick : DefAt K mg "_law_pick" sLPick pLPick fLPick fdLPick) (GLDraw : FnOk P w K mg base CX0 1 fLDraw fdLDraw pLDraw (spA 2 K DK T_draw)) (GLPick : FnOk P w K mg base CX0 2 fLPick fdLPick pLPick (spA 2 K DK T_law_pick)) : FnOk P w K mg base CX0 9 f fd pLAnyCondition (spA 4 K DK (T_anyK 6)) := okR_LAnyCondition Z D DLDraw DLPick GLDraw GLPick 6
end


abbrev sLAllTargets : Stmt := top 29
abbrev nLAllTargets : List Str := ["_law_conditions", "_law_found", "_law_values", "_law_condition", "_law_key", "_law_value", "_law_row", "_law_more", "_law_target"]
abbrev pLAllTargets : List Str := ["_law_conditions"]
theorem scLAllTargets : FnScope nLAllTargets pLAllTargets (defScope sLAllTargets) := ⟨rfl, rfl, rfl, by decide +kernel, rfl, by decide +kernel, by decide +kernel⟩
theorem cond_deep {x : PyData} (h : condD x = true) : 1 ≤ x.depth := by
  rcases cond_form h with rfl | ⟨a, rfl, _⟩ | ⟨a, b, rfl, _⟩ | ⟨c, a, b, rfl, _⟩ <;> simp only [PyData.depth] <;> omega
theorem pairs_pow : ∀ (d : Nat) {x : PyData}, condD x = true → x.depth ≤ d + 1 → (pairsL x).length ≤ 2 ^ d := fun d => by
  induction d with
  | zero =>
    intro x h hd
    rcases cond_form h with rfl | ⟨a, rfl, ha⟩ | ⟨a, b, rfl, _⟩ | ⟨c, a, b, rfl, hc, ha, hb⟩
    · unfold pairsL; exact Nat.zero_le _
    · have := dep2 hd; have := cond_deep ha; omega
    · rw [pairsI]; exact Nat.le_refl _
    · have := (dep3 hd).1; have := cond_deep ha; omega
  | succ d ih =>
    intro x h hd
    have p : 2 ^ (d + 1) = 2 ^ d + 2 ^ d := by rw [Nat.pow_succ]; omega
    have p0 : 1 ≤ 2 ^ d := Nat.one_le_two_pow
    rcases cond_form h with rfl | ⟨a, rfl, ha⟩ | ⟨a, b, rfl, _⟩ | ⟨c, a, b, rfl, hc, ha, hb⟩
    · unfold pairsL; exact Nat.zero_le _
    · rw [pairsN]
      have := ih ha (by have := dep2 hd; omega)
      omega
    · rw [pairsI]
      show 1 ≤ _
      omega
    · have nI : decide (c = Str.ofString "is") = false := by
        rcases hc with rfl | rfl
        · exact nBI
        · exact nEI
      rw [pairsC a b nI, List.length_append]
      have h1 := ih ha (by have := (dep3 hd).1; omega)
      have h2 := ih hb (by have := (dep3 hd).2; omega)
      omega
theorem rp_b (b : Bool) : Rp (.bool b) := rp_of rfl rfl (by simp [PyData.depth]) rfl (by simp [PyData.bulk])
theorem eqv_pair (p q : Str × Str) : PyData.eqv (encPT p) (encPT q) = decide (p = q) := by
  unfold encPT
  simp only [PyData.eqv, PyData.eqvAll, Bool.and_true]
  rw [Bool.eq_iff_iff]
  simp [Prod.ext_iff]
theorem any_pair (ts : List (Str × Str)) (q : Str × Str) : ((ts.map encPT).any fun z => PyData.eqv z (encPT q)) = decide (q ∈ ts) := by
  induction ts with
  | nil => simp
  | cons p ts ih =>
    rw [List.map_cons, List.any_cons, ih, eqv_pair, ← Bool.decide_or]
    exact decide_eq_decide.mpr ⟨fun h => h.elim (fun e => List.mem_cons.mpr (.inl e.symm)) fun e => List.mem_cons.mpr (.inr e), fun h => (List.mem_cons.mp h).imp (fun e => e.symm) id⟩
theorem pairs_enc : ∀ (d : Nat) {x : PyData}, condD x = true → x.depth ≤ d → ∃ qs : List (Str × Str), pairsL x = qs.map encPT ∧ (∀ q ∈ qs, Wo q) ∧ ∀ ts us : List (Str × Str), (∀ q ∈ qs, q ∈ ts ↔ q ∈ us) → holdD (ts.map encPT) x = holdD (us.map encPT) x := fun d => by
  induction d with
  | zero => intro x h hd; have := cond_deep h; omega
  | succ d ih =>
    intro x h hd
    rcases cond_form h with rfl | ⟨a, rfl, ha⟩ | ⟨a, b, rfl, wa, wb⟩ | ⟨c, a, b, rfl, hc, ha, hb⟩
    · exact ⟨[], by unfold pairsL; rfl, (fun _ z => nomatch z), fun _ _ _ => by unfold holdD; rfl⟩
    · obtain ⟨qs, e1, e2, e3⟩ := ih ha (by have := dep2 hd; omega)
      exact ⟨qs, by rw [pairsN]; exact e1, e2, fun ts us q => by rw [holdN, holdN, e3 ts us q]⟩
    · refine ⟨[(a, b)], by rw [pairsI]; rfl, fun q hq => by rw [List.mem_singleton.mp hq]; exact ⟨wa, wb⟩, fun ts us q => ?_⟩
      rw [holdI, holdI]
      show ((ts.map encPT).any fun z => PyData.eqv z (encPT (a, b))) = ((us.map encPT).any fun z => PyData.eqv z (encPT (a, b)))
      rw [any_pair, any_pair]
      exact decide_eq_decide.mpr (q _ (List.mem_singleton.mpr rfl))
    · obtain ⟨qs, e1, e2, e3⟩ := ih ha (by have := (dep3 hd).1; omega)
      obtain ⟨rs, f1, f2, f3⟩ := ih hb (by have := (dep3 hd).2; omega)
      refine ⟨qs ++ rs, ?_, fun q hq => (List.mem_append.mp hq).elim (e2 q) (f2 q), fun ts us q => ?_⟩
      · have nI : decide (c = Str.ofString "is") = false := by
          rcases hc with rfl | rfl
          · exact nBI
          · exact nEI
        rw [pairsC a b nI, e1, f1, List.map_append]
      · have g1 := e3 ts us fun z hz => q z (List.mem_append.mpr (.inl hz))
        have g2 := f3 ts us fun z hz => q z (List.mem_append.mpr (.inr hz))
        rcases hc with rfl | rfl
        · rw [holdB, holdB, g1, g2]
        · rw [holdE, holdE, g1, g2]
def encG (e : Str × List Str) : Key × List PyData := (.inr e.1, e.2.map PyData.str)
def pushS : List (Str × List Str) → Str → Str → List (Str × List Str)
  | [], k, v => [(k, [v])]
  | e :: g, k, v => if e.1 = k then (e.1, e.2 ++ [v]) :: g else e :: pushS g k v
theorem pushG_enc (k v : Str) : ∀ gs : List (Str × List Str), pushG (gs.map encG) (.inr k) (.str v) = (pushS gs k v).map encG
  | [] => rfl
  | e :: gs => by
    have ih := pushG_enc k v gs
    by_cases h : e.1 = k
    · rw [show pushS (e :: gs) k v = (e.1, e.2 ++ [v]) :: gs from if_pos h, List.map_cons, List.map_cons]
      rw [show pushG (encG e :: gs.map encG) (.inr k) (.str v) = (.inr e.1, e.2.map PyData.str ++ [.str v]) :: gs.map encG from if_pos (congrArg Sum.inr h)]
      congr 1
      show (Sum.inr e.1, _) = (Sum.inr e.1, (e.2 ++ [v]).map PyData.str)
      rw [List.map_append]
      rfl
    · rw [show pushS (e :: gs) k v = e :: pushS gs k v from if_neg h, List.map_cons, List.map_cons]
      rw [show pushG (encG e :: gs.map encG) (.inr k) (.str v) = encG e :: pushG (gs.map encG) (.inr k) (.str v) from if_neg (fun z => h (Sum.inr.inj z)), ih]
def tot (gs : List (Str × List Str)) : Nat := (gs.map fun e => e.2.length).sum
theorem tot_cons (e : Str × List Str) (gs : List (Str × List Str)) : tot (e :: gs) = e.2.length + tot gs := by simp [tot]
structure Gs (gs : List (Str × List Str)) (m : Nat) : Prop where
  nd : (gs.map fun e => e.1).Nodup
  wo : ∀ e ∈ gs, wordS e.1 = true ∧ ∀ v ∈ e.2, wordS v = true
  tt : tot gs = m
  ln : gs.length ≤ m
theorem push_mem (k v : Str) : ∀ {gs : List (Str × List Str)} {e : Str × List Str}, e ∈ pushS gs k v → e ∈ gs ∨ (e.1 = k ∧ ∀ x ∈ e.2, x = v ∨ ∃ f ∈ gs, x ∈ f.2)
  | [], e, h => by
    rw [List.mem_singleton.mp h]
    exact .inr ⟨rfl, fun x hx => .inl (List.mem_singleton.mp hx)⟩
  | f :: gs, e, h => by
    by_cases z : f.1 = k
    · rw [show pushS (f :: gs) k v = (f.1, f.2 ++ [v]) :: gs from if_pos z] at h
      rcases List.mem_cons.mp h with rfl | h
      · refine .inr ⟨z, fun x hx => ?_⟩
        rcases List.mem_append.mp hx with hx | hx
        · exact .inr ⟨f, List.mem_cons.mpr (.inl rfl), hx⟩
        · exact .inl (List.mem_singleton.mp hx)
      · exact .inl (List.mem_cons.mpr (.inr h))
    · rw [show pushS (f :: gs) k v = f :: pushS gs k v from if_neg z] at h
      rcases List.mem_cons.mp h with rfl | h
      · exact .inl (List.mem_cons.mpr (.inl rfl))
      · rcases push_mem k v h with h | ⟨h1, h2⟩
        · exact .inl (List.mem_cons.mpr (.inr h))
        · exact .inr ⟨h1, fun x hx => (h2 x hx).imp id fun ⟨f', m, q⟩ => ⟨f', List.mem_cons.mpr (.inr m), q⟩⟩
theorem push_keys (k v : Str) : ∀ gs : List (Str × List Str), ((pushS gs k v).map fun e => e.1) = if k ∈ gs.map (fun e => e.1) then gs.map (fun e => e.1) else gs.map (fun e => e.1) ++ [k]
  | [] => rfl
  | f :: gs => by
    have ih := push_keys k v gs
    by_cases z : f.1 = k
    · rw [show pushS (f :: gs) k v = (f.1, f.2 ++ [v]) :: gs from if_pos z, if_pos (by rw [List.map_cons]; exact List.mem_cons.mpr (.inl z.symm))]
      rfl
    · rw [show pushS (f :: gs) k v = f :: pushS gs k v from if_neg z, List.map_cons, ih, List.map_cons]
      by_cases q : k ∈ gs.map fun e => e.1
      · rw [if_pos q, if_pos (List.mem_cons.mpr (.inr q))]
      · rw [if_neg q, if_neg (fun y => (List.mem_cons.mp y).elim (fun y => z y.symm) q)]
        rfl
theorem push_tot (k v : Str) : ∀ gs : List (Str × List Str), tot (pushS gs k v) = tot gs + 1 ∧ (pushS gs k v).length ≤ gs.length + 1
  | [] => ⟨rfl, Nat.le_refl _⟩
  | f :: gs => by
    have ih := push_tot k v gs
    by_cases z : f.1 = k
    · rw [show pushS (f :: gs) k v = (f.1, f.2 ++ [v]) :: gs from if_pos z, tot_cons, tot_cons, List.length_append]
      exact ⟨by show f.2.length + 1 + _ = _; omega, by rw [List.length_cons, List.length_cons]; omega⟩
    · rw [show pushS (f :: gs) k v = f :: pushS gs k v from if_neg z, tot_cons, tot_cons, List.length_cons, List.length_cons]
      omega
theorem Gs.push {gs : List (Str × List Str)} {m : Nat} (h : Gs gs m) {k v : Str} (hk : wordS k = true) (hv : wordS v = true) : Gs (pushS gs k v) (m + 1) where
  nd := by
    rw [push_keys]
    split
    · exact h.nd
    · rename_i q
      rw [List.nodup_append]
      exact ⟨h.nd, by simp, fun a ha b hb e => q (by rw [← List.mem_singleton.mp hb, ← e]; exact ha)⟩
  wo := fun e he => by
    rcases push_mem k v he with he | ⟨h1, h2⟩
    · exact h.wo e he
    · refine ⟨by rw [h1]; exact hk, fun x hx => ?_⟩
      rcases h2 x hx with rfl | ⟨f, hf, hx⟩
      · exact hv
      · exact (h.wo f hf).2 x hx
  tt := by rw [(push_tot k v gs).1, h.tt]
  ln := by have := (push_tot k v gs).2; have := h.ln; omega
theorem row_tot {gs : List (Str × List Str)} {e : Str × List Str} (h : e ∈ gs) : e.2.length ≤ tot gs := by
  induction gs with
  | nil => cases h
  | cons f gs ih =>
    rw [tot_cons]
    rcases List.mem_cons.mp h with rfl | h
    · omega
    · have := ih h; omega
def rowS (gs : List (Str × List Str)) (y : Str) : List Str := ((gs.find? fun e => decide (e.1 = y)).map fun e => e.2).getD []
theorem row_cons (e : Str × List Str) (gs : List (Str × List Str)) (y : Str) : rowS (e :: gs) y = if e.1 = y then e.2 else rowS gs y := by
  unfold rowS
  rw [List.find?_cons]
  by_cases h : e.1 = y
  · rw [if_pos h, decide_eq_true h]; rfl
  · rw [if_neg h, decide_eq_false h]
theorem row_find {y : Str} : ∀ {gs : List (Str × List Str)}, y ∈ (gs.map fun e => e.1) → findK ((gs.map encG).map rowD) (.inr y) = some (.list ((rowS gs y).map PyData.str)) ∧ ∃ e ∈ gs, rowS gs y = e.2
  | [], h => by cases h
  | e :: gs, h => by
    rw [row_cons]
    by_cases z : e.1 = y
    · rw [if_pos z]
      refine ⟨?_, e, List.mem_cons.mpr (.inl rfl), rfl⟩
      unfold findK
      rw [List.map_cons, List.map_cons, List.find?_cons]
      rw [show decide ((rowD (encG e)).1 = (Sum.inr y : Key)) = true from decide_eq_true (congrArg Sum.inr z)]
      rfl
    · rw [if_neg z]
      rw [List.map_cons] at h
      obtain ⟨h1, f, hf, h2⟩ := row_find (gs := gs) ((List.mem_cons.mp h).resolve_left fun q => z q.symm)
      refine ⟨?_, f, List.mem_cons.mpr (.inr hf), h2⟩
      unfold findK at h1 ⊢
      rw [List.map_cons, List.map_cons, List.find?_cons]
      rw [show decide ((rowD (encG e)).1 = (Sum.inr y : Key)) = false from decide_eq_false fun q => z (Sum.inr.inj q)]
      exact h1
theorem row_sum : ∀ {gs : List (Str × List Str)}, (gs.map fun e => e.1).Nodup → ((gs.map fun e => e.1).map fun y => (rowS gs y).length).sum = tot gs
  | [], _ => rfl
  | e :: gs, nd => by
    rw [List.map_cons, List.nodup_cons] at nd
    have ih := row_sum nd.2
    rw [List.map_cons, List.map_cons, List.sum_cons, tot_cons, row_cons, if_pos rfl, ← ih]
    congr 2
    refine List.map_congr_left fun y hy => ?_
    rw [row_cons, if_neg fun z => nd.1 (by rw [z]; exact hy)]
theorem perm_sum {f : Str → Nat} {a b : List Str} (h : a.Perm b) : (a.map f).sum = (b.map f).sum := by
  induction h with
  | nil => rfl
  | cons _ _ ih => rw [List.map_cons, List.map_cons, List.sum_cons, List.sum_cons, ih]
  | swap a b l => rw [List.map_cons, List.map_cons, List.map_cons, List.map_cons, List.sum_cons, List.sum_cons, List.sum_cons, List.sum_cons]; omega
  | trans _ _ h1 h2 => rw [h1, h2]
theorem rising_pw : ∀ {p : Str} {r : List Str}, PyProof.Rows.risingS p r = true → (p :: r).Pairwise fun a b => ¬ b.cps.toList < a.cps.toList
  | p, [], _ => .cons (fun _ z => nomatch z) .nil
  | p, x :: r, h => by
    have h : (!PySem.Spec.ltCps x.cps.toList p.cps.toList && PyProof.Rows.risingS x r) = true := h
    rw [Bool.and_eq_true, ← PyProof.Rows.lt_meets] at h
    have h1 : ¬ x.cps.toList < p.cps.toList := fun z => by rw [decide_eq_true z] at h; exact absurd h.1 (by decide)
    have ih := rising_pw h.2
    refine .cons (fun c hc => ?_) ih
    rcases List.mem_cons.mp hc with rfl | hc
    · exact h1
    · exact fun z => h1 (List.lt_of_le_of_lt (List.not_lt.mp (List.rel_of_pairwise_cons ih hc)) z)
theorem sorted_pw {ys : List Str} (h : PyProof.Rows.sortedS ys = true) (nd : ys.Nodup) : ys.Pairwise fun a b => a.cps.toList < b.cps.toList := by
  have h1 : ys.Pairwise fun a b => ¬ b.cps.toList < a.cps.toList := by
    cases ys with
    | nil => exact .nil
    | cons p r => exact rising_pw h
  refine (h1.and nd).imp fun {a b} ⟨x, y⟩ => Classical.byContradiction fun z => y (PySem.W.str_of_cps (List.le_antisymm (List.not_lt.mp x) (List.not_lt.mp z)))
theorem pw_asc : ∀ {ks : List Str}, ks.Pairwise (fun a b => a.cps.toList < b.cps.toList) → ascS ks = true
  | [], _ => rfl
  | [_], _ => rfl
  | a :: b :: r, h => by
    show (decide (a.cps.toList < b.cps.toList) && ascS (b :: r)) = true
    rw [decide_eq_true (List.rel_of_pairwise_cons h (List.mem_cons.mpr (.inl rfl))), pw_asc (List.Pairwise.of_cons h)]
    rfl
/-- a target over the first n keys -/
def Tk (ys : List Str) (n : Nat) (t : List PyData) : Prop := ∃ ts : List (Str × Str), t = ts.map encPT ∧ (∀ p ∈ ts, Wo p) ∧ ts.length ≤ n ∧ (ts.map fun p => p.1).Pairwise (fun a b => a.cps.toList < b.cps.toList) ∧ ∀ p ∈ ts, p.1 ∈ ys.take n
theorem Tk.up {ys : List Str} {n : Nat} {t : List PyData} (h : Tk ys n t) : Tk ys (n + 1) t := by
  obtain ⟨ts, e, h1, h2, h3, h4⟩ := h
  refine ⟨ts, e, h1, by omega, h3, fun p hp => ?_⟩
  have := h4 p hp
  rw [List.mem_take_iff_getElem] at this ⊢
  obtain ⟨i, hi, e⟩ := this
  exact ⟨i, by omega, e⟩
theorem Tk.add {ys : List Str} {n : Nat} {t : List PyData} {y v : Str} (h : Tk ys n t) (hy : ys[n]? = some y) (pw : ys.Pairwise fun a b => a.cps.toList < b.cps.toList) (wy : wordS y = true) (wv : wordS v = true) : Tk ys (n + 1) (t ++ [.tuple [.str y, .str v]]) := by
  obtain ⟨ts, rfl, h1, h2, h3, h4⟩ := h
  have hn := (List.getElem?_eq_some_iff.mp hy).1
  have tk : ys.take (n + 1) = ys.take n ++ [y] := by
    rw [List.take_add_one, hy]; rfl
  refine ⟨ts ++ [(y, v)], by rw [List.map_append]; rfl, fun p hp => ?_, by rw [List.length_append]; show ts.length + 1 ≤ n + 1; omega, ?_, fun p hp => ?_⟩
  · rcases List.mem_append.mp hp with hp | hp
    · exact h1 p hp
    · rw [List.mem_singleton.mp hp]; exact ⟨wy, wv⟩
  · rw [List.map_append, List.pairwise_append]
    refine ⟨h3, .cons (fun _ z => nomatch z) .nil, fun a ha b hb => ?_⟩
    obtain ⟨p, hp, rfl⟩ := List.mem_map.mp ha
    rw [List.mem_singleton.mp hb]
    have q := h4 p hp
    have pw2 : (ys.take n ++ [y]).Pairwise fun a b => a.cps.toList < b.cps.toList := by
      rw [← tk]
      exact pw.sublist (List.take_sublist _ _)
    exact (List.pairwise_append.mp pw2).2.2 p.1 q y (List.mem_singleton.mpr rfl)
  · rw [tk]
    rcases List.mem_append.mp hp with hp | hp
    · exact List.mem_append.mpr (.inl (h4 p hp))
    · rw [List.mem_singleton.mp hp]
      exact List.mem_append.mpr (.inr (List.mem_singleton.mpr rfl))
theorem Tk.ok {ys : List Str} {n : Nat} {t : List PyData} (h : Tk ys n t) (hn : n ≤ 20) : TgOk t ∧ t.length ≤ 20 := by
  obtain ⟨ts, rfl, h1, h2, h3, _⟩ := h
  exact ⟨⟨ts, rfl, h1, by omega, pw_asc h3⟩, by rw [List.length_map]; omega⟩
theorem gfor_bind {i : Nat} {A : ASt → (List PyData → ASt → Prop) → Prop} {B : PyData → ASt → (ASt → Prop) → Prop} {T : ATG} {Φ : ASt → List (Key × List PyData) → Prop} {ρ : ASt} {g : List (Key × List PyData)} (h : A ρ fun items ρ1 => gFor (fun _ k => k items ρ1) i B T Φ ρ1 g) : gFor A i B T Φ ρ g := h
theorem gfor_inv {i : Nat} {B : PyData → ASt → (ASt → Prop) → Prop} {T : ATG} {Φ : ASt → List (Key × List PyData) → Prop} {ρ ρ1 : ASt} {g : List (Key × List PyData)} (items : List PyData) (P : Nat → ASt → List (Key × List PyData) → Prop) (h0 : P 0 ρ1 g)
    (hs : ∀ n x ρ' g', items[n]? = some x → P n ρ' g' → B x ρ' fun ρ2 => ρ2[i]? = ρ'[i]? ∧ T (P (n + 1)) ρ2 g') (hd : ∀ ρ' g', P items.length ρ' g' → Φ ρ' g') : gFor (fun _ k => k items ρ1) i B T Φ ρ g := ⟨P, h0, hs, hd⟩
theorem gstill_hide {i : Nat} {T : ATG} {W : ATS} {Φ : AEnds} {ρ : ASt} {g : List (Key × List PyData)} (h : ∀ Kc : ASt → List (Key × List PyData) → Prop, (∀ ρ' g', W Φ (ρ'.set i (some (.d (kvD (g'.map rowD))))) → Kc ρ' g') → T Kc ρ g) : gStill i T W Φ ρ g := h _ fun _ _ z => z
def T_law_all_targets : FnT
  | [.d (.list xs)], Φ => (∀ c ∈ xs, condD c = true ∧ c.depth ≤ 20 ∧ c.bulk ≤ 1000000) ∧ xs.length ≤ 2 ∧ ((xs.map fun c => (pairsL c).length).sum ≤ 20) ∧ ∀ ts : List (List PyData), (∀ t ∈ ts, TgOk t ∧ t.length ≤ 20) → ts ≠ [] → ts.length ≤ 2 ^ (xs.map fun c => (pairsL c).length).sum → Φ (.l (ts.map PyData.tuple))
  | _, _ => False
def addT (y v : Str) : PyData → Option PyData
  | .tuple t => some (.tuple (t ++ [.tuple [.str y, .str v]]))
  | _ => none
theorem ok_LAllTargets {f : Addr} {fd : FuncData} {fLPairsIn : Addr} {fdLPairsIn : FuncData} (Z : Blt K mg) (D : DefAt K mg "_law_all_targets" sLAllTargets pLAllTargets f fd) (DLPairsIn : DefAt K mg "_law_pairs_in" sLPairsIn pLPairsIn fLPairsIn fdLPairsIn) (GLPairsIn : FnOk P w K mg base CX0 31 fLPairsIn fdLPairsIn pLPairsIn (spA 1 K DK (T_pairsK 30))) : FnOk P w K mg base CX0 32 f fd pLAllTargets (spA 1 K DK T_law_all_targets) := by
  refine D.F.ok scLAllTargets (fun vs H Q E h => h.len) (fun cdv A outer s0 H vs Q E hr h => ?_)
  have hu := hu_of hr
  refine ⟨_, (pss_cons (ps_par (i := 1) (j := 2) (by rfl) scLAllTargets.nd rfl rfl (by decide) rfl rfl (pa_cons (pe_lst (pa_cons (pe_tup pa_nil) pa_nil)) (pa_cons pe_dnewK pa_nil)) (by rfl))
    (pss_cons (ps_frzS (ps_for PassesOwn.never rfl (pi_list (pv 0)) (pg_name (i := 3) scLAllTargets.nd rfl (Or.inl rfl))
    (pss_one (ps_for PassesOwn.never rfl (pi_list (pe_call GLPairsIn (hr.mono (by decide)) rfl DLPairsIn.g DLPairsIn.F.kp DLPairsIn.b .nil pass0 (pa_cons (pv 3) pa_nil))) (pg_tup (n := 2) rfl (pgs_cons (pg_name (i := 4) scLAllTargets.nd rfl (Or.inr rfl)) (pgs_cons (pg_name (i := 5) scLAllTargets.nd rfl (Or.inr rfl)) pgs_nil)))
      (pss_cons (ps_set (i := 6) scLAllTargets.nd rfl (Or.inl rfl) (pe_dsetd (pv 2) (pv 4) (pe_lst pa_nil) ⟨rfl, rfl, rfl, rfl⟩))
        (pss_one (ps_expr (pe_bm PySem.F.plainAttrs_list PySem.F.slot_list_append PySem.F.type_list_append mt_append (pv 6) (pa_cons (pv 5) pa_nil)))))))))
    (pss_cons (ps_for PassesOwn.never rfl (pi_list (pe_callB (cr_sortedDk rfl) (by rfl) Z.sorted (by decide +kernel) (pa_cons (pv 2) pa_nil))) (pg_name (i := 4) scLAllTargets.nd rfl (Or.inr rfl))
    (pss_cons (ps_set (i := 7) scLAllTargets.nd rfl (Or.inl rfl) (pe_callTy call_list_of (by rfl) Z.list (by decide +kernel) (pa_cons (pv 1) pa_nil)))
      (pss_cons (ps_for PassesOwn.never rfl (pi_list (pe_callB (cr_sortedSS rfl hr.units) (by rfl) Z.sorted (by decide +kernel) (pa_cons (pe_callTy (cr_setLS rfl) (by rfl) Z.set (by decide +kernel) (pa_cons (pe_dget hu (pv 2) (pv 4) (fun _ _ => rfl)) pa_nil)) pa_nil))) (pg_name (i := 5) scLAllTargets.nd rfl (Or.inr rfl))
      (pss_one (ps_expr (pe_bm PySem.F.plainAttrs_list PySem.F.slot_list_extend PySem.F.type_list_extend mt_extend (pv 7) (pa_cons (pe_lc (own := [("_law_target", 8)]) (g := gName 8) (tt := tYes) rfl scLAllTargets.nd (pi_list (pv 1)) (blkOk_by (own := [("_law_target", 8)]) (N := nLAllTargets) (sc := defScope sLAllTargets) (by decide +kernel)) (fun _ _ _ _ _ => (pg_name (i := 8) scLAllTargets.nd rfl (Or.inl rfl))) (fun _ _ _ _ _ => pts_nil) (fun _ _ _ _ _ => (pe_op (op_catAKF K) (pv 8) (pe_tup (pa_cons (pe_tup (pa_cons (pv 4) (pa_cons (pv 5) pa_nil))) pa_nil))))) pa_nil)))))
      (pss_one (ps_set (i := 1) scLAllTargets.nd rfl (Or.inl rfl) (pv 7))))))
    (pss_one (ps_ret (pv 1)))))), abs_fn (N := nLAllTargets) (sa_tabPar (i := 1) (j := 2) (ea_lst (aa_cons (ea_tup aa_nil) aa_nil)) (sgt_still (sg_for (ig_list (ea_var 0)) (gd_name 3) (sg_for (ig_list (ea_call [.d] (aa_cons (ea_var 3) aa_nil))) (gd_tup (gd_cons (gd_name 4) (gd_cons (gd_name 5) gd_nil))) (sg_push (j := 6) (ea_var 4) (ea_lst aa_nil) (ea_var 5)))) (sa_seq (sa_for (ia_list (ea_sortD (ea_var 2))) (gd_name 4) (sa_seq (sa_set (ea_cb cb_listOf (aa_cons (ea_var 1) aa_nil))) (sa_seq (sa_for (ia_list (ea_sortSetS (ea_dget (ea_var 2) (ea_var 4)))) (gd_name 5) (sa_extend (ea_lc (ic_list (ea_var 1)) (gd_name 8) ta_yes (ea_op oa_catA (ea_var 8) (ea_tup (aa_cons (ea_tup (aa_cons (ea_var 4) (aa_cons (ea_var 5) aa_nil))) aa_nil)))))) (sa_set (ea_var 7))))) (sa_ret (ea_var 1))))) h (fun as Φ hn ht => ?_)⟩
  match as, ht with
  | [.d (.list xs)], ht =>
    obtain ⟨hc, hl, hs, ht⟩ := ht
    have big : ∀ m : Nat, m ≤ 10000000 → m ≤ sizeLine := fun m h => Nat.le_trans h (by decide +kernel)
    refine ⟨by decide, by decide, [.tuple []], rfl, by decide, (by show 2 < 9; decide), fun p => ?_⟩
    show gStill 2 _ _ _ [some (AV.d (.list xs)), some (AV.own [.tuple []]), some (AV.fn p), none, none, none, none, none, none] []
    refine gstill_hide fun Kc kc => ?_
    refine gfor_bind ?_
    simp only [isiB,aSeq,aIfS,aRet,aRetN,aSet,aDrop,aNext,aNever,aBreak,aCont,aUnp,aUnl,aPar,aAppend,aExtend,aAppendPop,aPopSet,aVar,aC,aTy,aFn,aOp,aCB,aCons,aNil,aTup,aLst,aB,aNot,aAnd,aOr,aAndV,aOrV,aNotV,aIf,aChain,aSl,aNoPart,aPart,aCall,aCallV,aYes,aNeg,aRevL,aRg1,aLstRg,asArgs,asArg,dataOf,listOf,viewOf,dataAll,onB,onP,onL,onT,onS,onZ2,aPut,parOk,parOk2,retR,rdA,stillR,fI0,fII,fEq,fNe,eqS,fIsiA,tyOf,fLen,fLenS,fInt1,fStrI,fMax2,fListOf,fTupOf,fAll,fAny,fIxT,fIxL,fIxQ,fIxS,fRep,fRepT,aRevA,fEqE,fNeE,fSlT,fSlL,fSlQ,fSlS,fCat,fCatT,fAddS,fIsN,fNotN,fNotB,fIsB,noneB,seqOf,fSorted,bName,bTup,bCons,bNil,onRg1,onRg2,cList,cTup,cStr,cRg1,cRg2,cEnum,cEnumT,cZipL,cZipT,cZipQ,wList,wTup,wStr,wRg1,wRg2,wEnum,wEnumT,wipeA,List.map,List.replicate,List.length_cons,List.length_nil,List.cons_append,List.nil_append,List.append_nil,List.getElem?_cons_zero,List.getElem?_cons_succ,List.set_cons_zero,List.set_cons_succ,List.set,Option.map_some,Option.map_none,Option.getD_some,Option.getD_none,reduceIte,Bool.false_eq_true,Bool.not_true,Bool.not_false,and_true,true_and,false_and,Nat.zero_le,ne_eq,not_false_eq_true,atI_0,atI_1,atI_2,atI_3,aDGet,aDGet1,aDGet2,aDIn,aListD,aStar,aDictOf,aSortSetL,aMaxT,aPar3,wKeys,cKeys,cVals,cItems,onO_some,keysOf_kv,valsOf_kv,itemsOf_kv,starItems_kv,dataAll_ds,dataAll_two,aUnpP,uNil,uCons,upOk,noBl,List.all_cons,List.all_nil,Bool.and_true,aSortItems,aOrL,aOdict,fSortedD,fExtD,fMulS,fLtT,fNeT0,aUpper,aSortSetV,cRg3,onRg3,fEqX,fNeX,fSlX,fMin2,fInSign,fNotInSign,aJoin,aTabPar,gStill,gPush,wListG,aSortD,notB,aSortSetS,aTable,tSq,tStill,dOf,dSeq,dIf,dPut,wListD,aListItems,fInDT,fIxQS,fLenQS,fSortedLS,fLtS,fLeS,fEqT0,fInX,fSortedDT,aCallX,xRaise,aTry,aGiven,aPick,aNone,keepI,nLAllTargets,T_pairsK]
    refine gfor_inv xs (fun n ρ g => ∃ (gs : List (Str × List Str)) (u3 u4 u5 u6 : Option AV), ρ = [some (AV.d (.list xs)), some (AV.own [.tuple []]), some (AV.fn p), u3, u4, u5, u6, none, none] ∧ noLent [u3, u4, u5, u6] = true ∧ g = gs.map encG ∧ Gs gs (((xs.take n).map fun c => (pairsL c).length).sum)) ⟨[], none, none, none, none, rfl, rfl, rfl, .nil, (fun _ z => nomatch z), rfl, Nat.le_refl _⟩ ?_ ?_
    · rintro n x ρ g hx ⟨gs, u3, u4, u5, u6, rfl, nl, rfl, gg⟩
      obtain ⟨c1, c2, c3⟩ := hc x (List.mem_of_getElem? hx)
      obtain ⟨qs, e1, e2, _⟩ := pairs_enc x.depth c1 (Nat.le_refl _)
      have sm : ((xs.take (n + 1)).map fun c => (pairsL c).length).sum = ((xs.take n).map fun c => (pairsL c).length).sum + qs.length := by
        rw [List.take_add_one, hx, List.map_append, List.sum_append]
        show _ + ((pairsL x).length + 0) = _
        rw [e1, List.length_map]
        rfl
      have le20 : ((xs.take (n + 1)).map fun c => (pairsL c).length).sum ≤ 20 := by
        refine Nat.le_trans ?_ hs
        conv => rhs; rw [← List.take_append_drop (n + 1) xs]
        rw [List.map_append, List.sum_append]
        exact Nat.le_add_right _ _
      refine ⟨rfl, ?_⟩
      simp only [List.set_cons_zero, List.set_cons_succ]
      refine gfor_bind ?_
      simp only [isiB,aSeq,aIfS,aRet,aRetN,aSet,aDrop,aNext,aNever,aBreak,aCont,aUnp,aUnl,aPar,aAppend,aExtend,aAppendPop,aPopSet,aVar,aC,aTy,aFn,aOp,aCB,aCons,aNil,aTup,aLst,aB,aNot,aAnd,aOr,aAndV,aOrV,aNotV,aIf,aChain,aSl,aNoPart,aPart,aCall,aCallV,aYes,aNeg,aRevL,aRg1,aLstRg,asArgs,asArg,dataOf,listOf,viewOf,dataAll,onB,onP,onL,onT,onS,onZ2,aPut,parOk,parOk2,retR,rdA,stillR,fI0,fII,fEq,fNe,eqS,fIsiA,tyOf,fLen,fLenS,fInt1,fStrI,fMax2,fListOf,fTupOf,fAll,fAny,fIxT,fIxL,fIxQ,fIxS,fRep,fRepT,aRevA,fEqE,fNeE,fSlT,fSlL,fSlQ,fSlS,fCat,fCatT,fAddS,fIsN,fNotN,fNotB,fIsB,noneB,seqOf,fSorted,bName,bTup,bCons,bNil,onRg1,onRg2,cList,cTup,cStr,cRg1,cRg2,cEnum,cEnumT,cZipL,cZipT,cZipQ,wList,wTup,wStr,wRg1,wRg2,wEnum,wEnumT,wipeA,List.map,List.replicate,List.length_cons,List.length_nil,List.cons_append,List.nil_append,List.append_nil,List.getElem?_cons_zero,List.getElem?_cons_succ,List.set_cons_zero,List.set_cons_succ,List.set,Option.map_some,Option.map_none,Option.getD_some,Option.getD_none,reduceIte,Bool.false_eq_true,Bool.not_true,Bool.not_false,and_true,true_and,false_and,Nat.zero_le,ne_eq,not_false_eq_true,atI_0,atI_1,atI_2,atI_3,aDGet,aDGet1,aDGet2,aDIn,aListD,aStar,aDictOf,aSortSetL,aMaxT,aPar3,wKeys,cKeys,cVals,cItems,onO_some,keysOf_kv,valsOf_kv,itemsOf_kv,starItems_kv,dataAll_ds,dataAll_two,aUnpP,uNil,uCons,upOk,noBl,List.all_cons,List.all_nil,Bool.and_true,aSortItems,aOrL,aOdict,fSortedD,fExtD,fMulS,fLtT,fNeT0,aUpper,aSortSetV,cRg3,onRg3,fEqX,fNeX,fSlX,fMin2,fInSign,fNotInSign,aJoin,aTabPar,gStill,gPush,wListG,aSortD,notB,aSortSetS,aTable,tSq,tStill,dOf,dSeq,dIf,dPut,wListD,aListItems,fInDT,fIxQS,fLenQS,fSortedLS,fLtS,fLeS,fEqT0,fInX,fSortedDT,aCallX,xRaise,aTry,aGiven,aPick,aNone,keepI,nLAllTargets,T_pairsK]
      refine ⟨c1, by omega, c3, ?_⟩
      rw [e1]
      rw [sm] at le20 ⊢
      generalize ((xs.take n).map fun c => (pairsL c).length).sum = S at gg le20 ⊢
      refine gfor_inv (qs.map encPT) (fun m ρ g => ∃ (gs : List (Str × List Str)) (u4 u5 u6 : Option AV), ρ = [some (AV.d (.list xs)), some (AV.own [.tuple []]), some (AV.fn p), some (AV.d x), u4, u5, u6, none, none] ∧ noLent [u4, u5, u6] = true ∧ g = gs.map encG ∧ Gs gs (S + m)) ⟨gs, u4, u5, u6, rfl, ?_, rfl, gg⟩ ?_ ?_
      · simp only [noLent, List.all_cons, Bool.and_eq_true] at nl ⊢
        exact nl.2
      · rintro m y ρ g hy ⟨gs, u4, u5, u6, rfl, nl, rfl, gg⟩
        obtain ⟨q, hq, rfl⟩ := List.mem_map.mp (List.mem_of_getElem? hy)
        have hm := (List.getElem?_eq_some_iff.mp hy).1
        rw [List.length_map] at hm
        have wq := e2 q hq
        refine ⟨rfl, rfl, ?_⟩
        simp only [isiB,aSeq,aIfS,aRet,aRetN,aSet,aDrop,aNext,aNever,aBreak,aCont,aUnp,aUnl,aPar,aAppend,aExtend,aAppendPop,aPopSet,aVar,aC,aTy,aFn,aOp,aCB,aCons,aNil,aTup,aLst,aB,aNot,aAnd,aOr,aAndV,aOrV,aNotV,aIf,aChain,aSl,aNoPart,aPart,aCall,aCallV,aYes,aNeg,aRevL,aRg1,aLstRg,asArgs,asArg,dataOf,listOf,viewOf,dataAll,onB,onP,onL,onT,onS,onZ2,aPut,parOk,parOk2,retR,rdA,stillR,fI0,fII,fEq,fNe,eqS,fIsiA,tyOf,fLen,fLenS,fInt1,fStrI,fMax2,fListOf,fTupOf,fAll,fAny,fIxT,fIxL,fIxQ,fIxS,fRep,fRepT,aRevA,fEqE,fNeE,fSlT,fSlL,fSlQ,fSlS,fCat,fCatT,fAddS,fIsN,fNotN,fNotB,fIsB,noneB,seqOf,fSorted,bName,bTup,bCons,bNil,onRg1,onRg2,cList,cTup,cStr,cRg1,cRg2,cEnum,cEnumT,cZipL,cZipT,cZipQ,wList,wTup,wStr,wRg1,wRg2,wEnum,wEnumT,wipeA,List.map,List.replicate,List.length_cons,List.length_nil,List.cons_append,List.nil_append,List.append_nil,List.getElem?_cons_zero,List.getElem?_cons_succ,List.set_cons_zero,List.set_cons_succ,List.set,Option.map_some,Option.map_none,Option.getD_some,Option.getD_none,reduceIte,Bool.false_eq_true,Bool.not_true,Bool.not_false,and_true,true_and,false_and,Nat.zero_le,ne_eq,not_false_eq_true,atI_0,atI_1,atI_2,atI_3,aDGet,aDGet1,aDGet2,aDIn,aListD,aStar,aDictOf,aSortSetL,aMaxT,aPar3,wKeys,cKeys,cVals,cItems,onO_some,keysOf_kv,valsOf_kv,itemsOf_kv,starItems_kv,dataAll_ds,dataAll_two,aUnpP,uNil,uCons,upOk,noBl,List.all_cons,List.all_nil,Bool.and_true,aSortItems,aOrL,aOdict,fSortedD,fExtD,fMulS,fLtT,fNeT0,aUpper,aSortSetV,cRg3,onRg3,fEqX,fNeX,fSlX,fMin2,fInSign,fNotInSign,aJoin,aTabPar,gStill,gPush,wListG,aSortD,notB,aSortSetS,aTable,tSq,tStill,dOf,dSeq,dIf,dPut,wListD,aListItems,fInDT,fIxQS,fLenQS,fSortedLS,fLtS,fLeS,fEqT0,fInX,fSortedDT,aCallX,xRaise,aTry,aGiven,aPick,aNone,keepI,nLAllTargets,T_pairsK,List.set_cons_zero,List.set_cons_succ]
        refine ⟨.inr q.1, rfl, ?_, by decide, by omega, ?_, fun e he => ?_, fun a => ⟨_, rfl, pushS gs q.1 q.2, _, _, _, rfl, rfl, pushG_enc _ _ _, gg.push wq.1 wq.2⟩⟩
        · simp only [noLent, List.all_cons, List.all_nil, Bool.and_true, Bool.and_eq_true, Bool.true_and] at nl ⊢
          exact nl.2.2
        · rw [List.length_map]
          exact Nat.lt_trans (show gs.length < 1000000 by have := gg.ln; omega) sizeBig
        · obtain ⟨f, hf, rfl⟩ := List.mem_map.mp he
          have := row_tot hf
          rw [gg.tt] at this
          show (f.2.map PyData.str).length < sizeLine
          rw [List.length_map]
          exact Nat.lt_trans (show f.2.length < 1000000 by omega) sizeBig
      · rintro ρ g ⟨gs, u4, u5, u6, rfl, nl, rfl, gg⟩
        rw [List.length_map] at gg
        exact ⟨gs, _, u4, u5, u6, rfl, nl, rfl, gg⟩
    · rintro ρ g ⟨gs, u3, u4, u5, u6, rfl, nl, rfl, gg⟩
      rw [List.take_length] at gg
      refine kc _ _ ?_
      clear kc Kc
      simp only [List.set_cons_zero, List.set_cons_succ]
      refine seq_hide fun Kc kc => ?_
      refine for_bind ?_
      simp only [isiB,aSeq,aIfS,aRet,aRetN,aSet,aDrop,aNext,aNever,aBreak,aCont,aUnp,aUnl,aPar,aAppend,aExtend,aAppendPop,aPopSet,aVar,aC,aTy,aFn,aOp,aCB,aCons,aNil,aTup,aLst,aB,aNot,aAnd,aOr,aAndV,aOrV,aNotV,aIf,aChain,aSl,aNoPart,aPart,aCall,aCallV,aYes,aNeg,aRevL,aRg1,aLstRg,asArgs,asArg,dataOf,listOf,viewOf,dataAll,onB,onP,onL,onT,onS,onZ2,aPut,parOk,parOk2,retR,rdA,stillR,fI0,fII,fEq,fNe,eqS,fIsiA,tyOf,fLen,fLenS,fInt1,fStrI,fMax2,fListOf,fTupOf,fAll,fAny,fIxT,fIxL,fIxQ,fIxS,fRep,fRepT,aRevA,fEqE,fNeE,fSlT,fSlL,fSlQ,fSlS,fCat,fCatT,fAddS,fIsN,fNotN,fNotB,fIsB,noneB,seqOf,fSorted,bName,bTup,bCons,bNil,onRg1,onRg2,cList,cTup,cStr,cRg1,cRg2,cEnum,cEnumT,cZipL,cZipT,cZipQ,wList,wTup,wStr,wRg1,wRg2,wEnum,wEnumT,wipeA,List.map,List.replicate,List.length_cons,List.length_nil,List.cons_append,List.nil_append,List.append_nil,List.getElem?_cons_zero,List.getElem?_cons_succ,List.set_cons_zero,List.set_cons_succ,List.set,Option.map_some,Option.map_none,Option.getD_some,Option.getD_none,reduceIte,Bool.false_eq_true,Bool.not_true,Bool.not_false,and_true,true_and,false_and,Nat.zero_le,ne_eq,not_false_eq_true,atI_0,atI_1,atI_2,atI_3,aDGet,aDGet1,aDGet2,aDIn,aListD,aStar,aDictOf,aSortSetL,aMaxT,aPar3,wKeys,cKeys,cVals,cItems,onO_some,keysOf_kv,valsOf_kv,itemsOf_kv,starItems_kv,dataAll_ds,dataAll_two,aUnpP,uNil,uCons,upOk,noBl,List.all_cons,List.all_nil,Bool.and_true,aSortItems,aOrL,aOdict,fSortedD,fExtD,fMulS,fLtT,fNeT0,aUpper,aSortSetV,cRg3,onRg3,fEqX,fNeX,fSlX,fMin2,fInSign,fNotInSign,aJoin,aTabPar,gStill,gPush,wListG,aSortD,notB,aSortSetS,aTable,tSq,tStill,dOf,dSeq,dIf,dPut,wListD,aListItems,fInDT,fIxQS,fLenQS,fSortedLS,fLtS,fLeS,fEqT0,fInX,fSortedDT,aCallX,xRaise,aTry,aGiven,aPick,aNone,keepI,nLAllTargets,T_pairsK]
      have g20 : gs.length ≤ 20 := Nat.le_trans gg.ln hs
      refine ⟨(gs.map encG).map rowD, gs.map fun e => e.1, rfl, ?_, by rw [List.length_map]; omega, fun ys pm so => ?_⟩
      · rw [List.map_map, List.map_map, List.map_map]
        rfl
      have nd : ys.Nodup := pm.nodup_iff.mpr gg.nd
      have pw := sorted_pw so nd
      have yl : ys.length ≤ 20 := by rw [pm.length_eq, List.length_map]; exact g20
      have ysum : (ys.map fun y => (rowS gs y).length).sum = tot gs := by rw [perm_sum pm, row_sum gg.nd]
      refine for_inv (ys.map PyData.str) _ (fun Ψ h => h) (fun n ρ => ∃ (F : List (List PyData)) (u4 u5 : Option AV), ρ = [some (AV.d (.list xs)), some (AV.own (F.map PyData.tuple)), some (AV.d (kvD ((gs.map encG).map rowD))), u3, u4, u5, u6, none, none] ∧ F ≠ [] ∧ F.length ≤ 2 ^ ((ys.take n).map fun y => (rowS gs y).length).sum ∧ ∀ t ∈ F, Tk ys n t) ⟨[[]], u4, u5, rfl, (fun z => nomatch z), Nat.le_refl _, fun t h => ?_⟩ ?_ ?_
      · rw [List.mem_singleton.mp h]
        exact ⟨[], rfl, (fun _ z => nomatch z), Nat.le_refl _, .nil, (fun _ z => nomatch z)⟩
      · rintro n x ρ hx ⟨F, u4, u5, rfl, ne, fl, ft⟩
        rw [List.getElem?_map] at hx
        cases hy : ys[n]? with
        | none => rw [hy] at hx; cases hx
        | some y =>
        rw [hy] at hx
        cases Option.some.inj hx
        have ym := pm.mem_iff.mp (List.mem_of_getElem? hy)
        obtain ⟨fk, e, em, er⟩ := row_find ym
        have wy : wordS y = true := by
          obtain ⟨f, hf, rfl⟩ := List.mem_map.mp ym
          exact (gg.wo f hf).1
        have wr := (gg.wo e em).2
        rw [← er] at wr
        have rl : (rowS gs y).length ≤ 20 := by
          have := row_tot em
          rw [gg.tt] at this
          rw [er]; omega
        have sm : ((ys.take (n + 1)).map fun y => (rowS gs y).length).sum = ((ys.take n).map fun y => (rowS gs y).length).sum + (rowS gs y).length := by
          rw [List.take_add_one, hy, List.map_append, List.sum_append]
          rfl
        have le20 : ((ys.take (n + 1)).map fun y => (rowS gs y).length).sum ≤ 20 := by
          refine Nat.le_trans ?_ (Nat.le_trans (Nat.le_of_eq (ysum.trans gg.tt)) hs)
          conv => rhs; rw [← List.take_append_drop (n + 1) ys]
          rw [List.map_append, List.sum_append]
          exact Nat.le_add_right _ _
        rw [sm] at le20 ⊢
        generalize ((ys.take n).map fun y => (rowS gs y).length).sum = S at fl le20 ⊢
        simp only [bName, List.set_cons_zero, List.set_cons_succ]
        refine seq_hide fun Kc kc => ?_
        simp only [isiB,aSeq,aIfS,aRet,aRetN,aSet,aDrop,aNext,aNever,aBreak,aCont,aUnp,aUnl,aPar,aAppend,aExtend,aAppendPop,aPopSet,aVar,aC,aTy,aFn,aOp,aCB,aCons,aNil,aTup,aLst,aB,aNot,aAnd,aOr,aAndV,aOrV,aNotV,aIf,aChain,aSl,aNoPart,aPart,aCall,aCallV,aYes,aNeg,aRevL,aRg1,aLstRg,asArgs,asArg,dataOf,listOf,viewOf,dataAll,onB,onP,onL,onT,onS,onZ2,aPut,parOk,parOk2,retR,rdA,stillR,fI0,fII,fEq,fNe,eqS,fIsiA,tyOf,fLen,fLenS,fInt1,fStrI,fMax2,fListOf,fTupOf,fAll,fAny,fIxT,fIxL,fIxQ,fIxS,fRep,fRepT,aRevA,fEqE,fNeE,fSlT,fSlL,fSlQ,fSlS,fCat,fCatT,fAddS,fIsN,fNotN,fNotB,fIsB,noneB,seqOf,fSorted,bName,bTup,bCons,bNil,onRg1,onRg2,cList,cTup,cStr,cRg1,cRg2,cEnum,cEnumT,cZipL,cZipT,cZipQ,wList,wTup,wStr,wRg1,wRg2,wEnum,wEnumT,wipeA,List.map,List.replicate,List.length_cons,List.length_nil,List.cons_append,List.nil_append,List.append_nil,List.getElem?_cons_zero,List.getElem?_cons_succ,List.set_cons_zero,List.set_cons_succ,List.set,Option.map_some,Option.map_none,Option.getD_some,Option.getD_none,reduceIte,Bool.false_eq_true,Bool.not_true,Bool.not_false,and_true,true_and,false_and,Nat.zero_le,ne_eq,not_false_eq_true,atI_0,atI_1,atI_2,atI_3,aDGet,aDGet1,aDGet2,aDIn,aListD,aStar,aDictOf,aSortSetL,aMaxT,aPar3,wKeys,cKeys,cVals,cItems,onO_some,keysOf_kv,valsOf_kv,itemsOf_kv,starItems_kv,dataAll_ds,dataAll_two,aUnpP,uNil,uCons,upOk,noBl,List.all_cons,List.all_nil,Bool.and_true,aSortItems,aOrL,aOdict,fSortedD,fExtD,fMulS,fLtT,fNeT0,aUpper,aSortSetV,cRg3,onRg3,fEqX,fNeX,fSlX,fMin2,fInSign,fNotInSign,aJoin,aTabPar,gStill,gPush,wListG,aSortD,notB,aSortSetS,aTable,tSq,tStill,dOf,dSeq,dIf,dPut,wListD,aListItems,fInDT,fIxQS,fLenQS,fSortedLS,fLtS,fLeS,fEqT0,fInX,fSortedDT,aCallX,xRaise,aTry,aGiven,aPick,aNone,keepI,nLAllTargets,T_pairsK]
        refine kc _ ?_
        clear kc Kc
        refine seq_hide fun Kc kc => ?_
        refine for_bind ?_
        simp only [isiB,aSeq,aIfS,aRet,aRetN,aSet,aDrop,aNext,aNever,aBreak,aCont,aUnp,aUnl,aPar,aAppend,aExtend,aAppendPop,aPopSet,aVar,aC,aTy,aFn,aOp,aCB,aCons,aNil,aTup,aLst,aB,aNot,aAnd,aOr,aAndV,aOrV,aNotV,aIf,aChain,aSl,aNoPart,aPart,aCall,aCallV,aYes,aNeg,aRevL,aRg1,aLstRg,asArgs,asArg,dataOf,listOf,viewOf,dataAll,onB,onP,onL,onT,onS,onZ2,aPut,parOk,parOk2,retR,rdA,stillR,fI0,fII,fEq,fNe,eqS,fIsiA,tyOf,fLen,fLenS,fInt1,fStrI,fMax2,fListOf,fTupOf,fAll,fAny,fIxT,fIxL,fIxQ,fIxS,fRep,fRepT,aRevA,fEqE,fNeE,fSlT,fSlL,fSlQ,fSlS,fCat,fCatT,fAddS,fIsN,fNotN,fNotB,fIsB,noneB,seqOf,fSorted,bName,bTup,bCons,bNil,onRg1,onRg2,cList,cTup,cStr,cRg1,cRg2,cEnum,cEnumT,cZipL,cZipT,cZipQ,wList,wTup,wStr,wRg1,wRg2,wEnum,wEnumT,wipeA,List.map,List.replicate,List.length_cons,List.length_nil,List.cons_append,List.nil_append,List.append_nil,List.getElem?_cons_zero,List.getElem?_cons_succ,List.set_cons_zero,List.set_cons_succ,List.set,Option.map_some,Option.map_none,Option.getD_some,Option.getD_none,reduceIte,Bool.false_eq_true,Bool.not_true,Bool.not_false,and_true,true_and,false_and,Nat.zero_le,ne_eq,not_false_eq_true,atI_0,atI_1,atI_2,atI_3,aDGet,aDGet1,aDGet2,aDIn,aListD,aStar,aDictOf,aSortSetL,aMaxT,aPar3,wKeys,cKeys,cVals,cItems,onO_some,keysOf_kv,valsOf_kv,itemsOf_kv,starItems_kv,dataAll_ds,dataAll_two,aUnpP,uNil,uCons,upOk,noBl,List.all_cons,List.all_nil,Bool.and_true,aSortItems,aOrL,aOdict,fSortedD,fExtD,fMulS,fLtT,fNeT0,aUpper,aSortSetV,cRg3,onRg3,fEqX,fNeX,fSlX,fMin2,fInSign,fNotInSign,aJoin,aTabPar,gStill,gPush,wListG,aSortD,notB,aSortSetS,aTable,tSq,tStill,dOf,dSeq,dIf,dPut,wListD,aListItems,fInDT,fIxQS,fLenQS,fSortedLS,fLtS,fLeS,fEqT0,fInX,fSortedDT,aCallX,xRaise,aTry,aGiven,aPick,aNone,keepI,nLAllTargets,T_pairsK]
        refine ⟨(gs.map encG).map rowD, .str y, .inr y, _, rfl, rfl, rfl, fk, rowS gs y, rfl, Nat.lt_of_le_of_lt (show _ ≤ 22 by omega) (by decide +kernel), fun vs vnd vm _ vl => ?_⟩
        have p20 : 2 ^ S * 2 ^ (rowS gs y).length ≤ 2 ^ 20 := by
          rw [← Nat.pow_add]
          exact Nat.pow_le_pow_right (by decide) le20
        have lt2 : (rowS gs y).length < 2 ^ (rowS gs y).length := Nat.lt_two_pow_self
        have room : ∀ m : Nat, m ≤ (rowS gs y).length → F.length * (m + 1) ≤ 2 ^ (S + (rowS gs y).length) := fun m hm => by
          rw [Nat.pow_add]
          exact Nat.mul_le_mul fl (by omega)
        have cap : 2 ^ (S + (rowS gs y).length) ≤ 2 ^ 20 := Nat.pow_le_pow_right (by decide) le20
        refine for_inv (vs.map PyData.str) _ (fun Ψ h => h) (fun m ρ => ∃ (W : List (List PyData)) (u5 : Option AV), ρ = [some (AV.d (.list xs)), some (AV.own (F.map PyData.tuple)), some (AV.d (kvD ((gs.map encG).map rowD))), u3, some (AV.d (.str y)), u5, u6, some (AV.own (W.map PyData.tuple)), none] ∧ W.length = F.length * (m + 1) ∧ ∀ t ∈ W, Tk ys (n + 1) t) ⟨F, u5, rfl, by rw [Nat.zero_add, Nat.mul_one], fun t h => (ft t h).up⟩ ?_ ?_
        · rintro m x ρ hx ⟨W, u5, rfl, wl, wt⟩
          have hm := (List.getElem?_eq_some_iff.mp hx).1
          rw [List.length_map] at hm
          obtain ⟨v, vin, rfl⟩ := List.mem_map.mp (List.mem_of_getElem? hx)
          have wv := wr v ((vm v).mp vin)
          simp only [bName, List.set_cons_zero, List.set_cons_succ]
          simp only [isiB,aSeq,aIfS,aRet,aRetN,aSet,aDrop,aNext,aNever,aBreak,aCont,aUnp,aUnl,aPar,aAppend,aExtend,aAppendPop,aPopSet,aVar,aC,aTy,aFn,aOp,aCB,aCons,aNil,aTup,aLst,aB,aNot,aAnd,aOr,aAndV,aOrV,aNotV,aIf,aChain,aSl,aNoPart,aPart,aCall,aCallV,aYes,aNeg,aRevL,aRg1,aLstRg,asArgs,asArg,dataOf,listOf,viewOf,dataAll,onB,onP,onL,onT,onS,onZ2,aPut,parOk,parOk2,retR,rdA,stillR,fI0,fII,fEq,fNe,eqS,fIsiA,tyOf,fLen,fLenS,fInt1,fStrI,fMax2,fListOf,fTupOf,fAll,fAny,fIxT,fIxL,fIxQ,fIxS,fRep,fRepT,aRevA,fEqE,fNeE,fSlT,fSlL,fSlQ,fSlS,fCat,fCatT,fAddS,fIsN,fNotN,fNotB,fIsB,noneB,seqOf,fSorted,bName,bTup,bCons,bNil,onRg1,onRg2,cList,cTup,cStr,cRg1,cRg2,cEnum,cEnumT,cZipL,cZipT,cZipQ,wList,wTup,wStr,wRg1,wRg2,wEnum,wEnumT,wipeA,List.map,List.replicate,List.length_cons,List.length_nil,List.cons_append,List.nil_append,List.append_nil,List.getElem?_cons_zero,List.getElem?_cons_succ,List.set_cons_zero,List.set_cons_succ,List.set,Option.map_some,Option.map_none,Option.getD_some,Option.getD_none,reduceIte,Bool.false_eq_true,Bool.not_true,Bool.not_false,and_true,true_and,false_and,Nat.zero_le,ne_eq,not_false_eq_true,atI_0,atI_1,atI_2,atI_3,aDGet,aDGet1,aDGet2,aDIn,aListD,aStar,aDictOf,aSortSetL,aMaxT,aPar3,wKeys,cKeys,cVals,cItems,onO_some,keysOf_kv,valsOf_kv,itemsOf_kv,starItems_kv,dataAll_ds,dataAll_two,aUnpP,uNil,uCons,upOk,noBl,List.all_cons,List.all_nil,Bool.and_true,aSortItems,aOrL,aOdict,fSortedD,fExtD,fMulS,fLtT,fNeT0,aUpper,aSortSetV,cRg3,onRg3,fEqX,fNeX,fSlX,fMin2,fInSign,fNotInSign,aJoin,aTabPar,gStill,gPush,wListG,aSortD,notB,aSortSetS,aTable,tSq,tStill,dOf,dSeq,dIf,dPut,wListD,aListItems,fInDT,fIxQS,fLenQS,fSortedLS,fLtS,fLeS,fEqT0,fInX,fSortedDT,aCallX,xRaise,aTry,aGiven,aPick,aNone,keepI,nLAllTargets,T_pairsK]
          have r1 := room (m + 1) (by omega)
          have r0 : F.length * (m + 1 + 1) = F.length * (m + 1) + F.length := Nat.mul_succ _ _
          have f20 : F.length ≤ 2 ^ 20 := Nat.le_trans (by omega) cap
          refine lc_of (F.map PyData.tuple) (addT y v) (fun Ψ h => h) (by rw [List.length_map]; exact Nat.lt_of_lt_of_le (show F.length < 2 ^ 20 + 1 by omega) (big _ (by decide))) rfl (fun x hx l Q hn hq => ?_) ?_
          · obtain ⟨t, ht2, rfl⟩ := List.mem_map.mp hx
            have tl : t.length ≤ n := by
              obtain ⟨ts, rfl, _, h2, _⟩ := ft t ht2
              rw [List.length_map]; exact h2
            have nl2 := (List.getElem?_eq_some_iff.mp hy).1
            simp only [isiB,aSeq,aIfS,aRet,aRetN,aSet,aDrop,aNext,aNever,aBreak,aCont,aUnp,aUnl,aPar,aAppend,aExtend,aAppendPop,aPopSet,aVar,aC,aTy,aFn,aOp,aCB,aCons,aNil,aTup,aLst,aB,aNot,aAnd,aOr,aAndV,aOrV,aNotV,aIf,aChain,aSl,aNoPart,aPart,aCall,aCallV,aYes,aNeg,aRevL,aRg1,aLstRg,asArgs,asArg,dataOf,listOf,viewOf,dataAll,onB,onP,onL,onT,onS,onZ2,aPut,parOk,parOk2,retR,rdA,stillR,fI0,fII,fEq,fNe,eqS,fIsiA,tyOf,fLen,fLenS,fInt1,fStrI,fMax2,fListOf,fTupOf,fAll,fAny,fIxT,fIxL,fIxQ,fIxS,fRep,fRepT,aRevA,fEqE,fNeE,fSlT,fSlL,fSlQ,fSlS,fCat,fCatT,fAddS,fIsN,fNotN,fNotB,fIsB,noneB,seqOf,fSorted,bName,bTup,bCons,bNil,onRg1,onRg2,cList,cTup,cStr,cRg1,cRg2,cEnum,cEnumT,cZipL,cZipT,cZipQ,wList,wTup,wStr,wRg1,wRg2,wEnum,wEnumT,wipeA,List.map,List.replicate,List.length_cons,List.length_nil,List.cons_append,List.nil_append,List.append_nil,List.getElem?_cons_zero,List.getElem?_cons_succ,List.set_cons_zero,List.set_cons_succ,List.set,Option.map_some,Option.map_none,Option.getD_some,Option.getD_none,reduceIte,Bool.false_eq_true,Bool.not_true,Bool.not_false,and_true,true_and,false_and,Nat.zero_le,ne_eq,not_false_eq_true,atI_0,atI_1,atI_2,atI_3,aDGet,aDGet1,aDGet2,aDIn,aListD,aStar,aDictOf,aSortSetL,aMaxT,aPar3,wKeys,cKeys,cVals,cItems,onO_some,keysOf_kv,valsOf_kv,itemsOf_kv,starItems_kv,dataAll_ds,dataAll_two,aUnpP,uNil,uCons,upOk,noBl,List.all_cons,List.all_nil,Bool.and_true,aSortItems,aOrL,aOdict,fSortedD,fExtD,fMulS,fLtT,fNeT0,aUpper,aSortSetV,cRg3,onRg3,fEqX,fNeX,fSlX,fMin2,fInSign,fNotInSign,aJoin,aTabPar,gStill,gPush,wListG,aSortD,notB,aSortSetS,aTable,tSq,tStill,dOf,dSeq,dIf,dPut,wListD,aListItems,fInDT,fIxQS,fLenQS,fSortedLS,fLtS,fLeS,fEqT0,fInX,fSortedDT,aCallX,xRaise,aTry,aGiven,aPick,aNone,keepI,nLAllTargets,T_pairsK]
            exact ⟨by decide, by decide, big _ (by show t.length + 1 ≤ _; omega), _, rfl, hn, hq⟩
          have eF : (F.map PyData.tuple).filterMap (addT y v) = (F.map fun t => t ++ [PyData.tuple [.str y, .str v]]).map PyData.tuple := by
            rw [List.filterMap_map, List.map_map, ← List.filterMap_eq_map]
            rfl
          rw [eF]
          refine ⟨big _ (by rw [List.length_map, List.length_map, List.length_map, wl]; omega), W ++ F.map (fun t => t ++ [PyData.tuple [.str y, .str v]]), _, by rw [List.map_append], by rw [List.length_append, List.length_map, wl]; omega, fun t ht2 => ?_⟩
          rcases List.mem_append.mp ht2 with h | h
          · exact wt t h
          · obtain ⟨t0, h0, rfl⟩ := List.mem_map.mp h
            exact (ft t0 h0).add hy pw wy wv
        · rintro ρ ⟨W, u5, rfl, wl, wt⟩
          refine kc _ ?_
          clear kc Kc
          simp only [isiB,aSeq,aIfS,aRet,aRetN,aSet,aDrop,aNext,aNever,aBreak,aCont,aUnp,aUnl,aPar,aAppend,aExtend,aAppendPop,aPopSet,aVar,aC,aTy,aFn,aOp,aCB,aCons,aNil,aTup,aLst,aB,aNot,aAnd,aOr,aAndV,aOrV,aNotV,aIf,aChain,aSl,aNoPart,aPart,aCall,aCallV,aYes,aNeg,aRevL,aRg1,aLstRg,asArgs,asArg,dataOf,listOf,viewOf,dataAll,onB,onP,onL,onT,onS,onZ2,aPut,parOk,parOk2,retR,rdA,stillR,fI0,fII,fEq,fNe,eqS,fIsiA,tyOf,fLen,fLenS,fInt1,fStrI,fMax2,fListOf,fTupOf,fAll,fAny,fIxT,fIxL,fIxQ,fIxS,fRep,fRepT,aRevA,fEqE,fNeE,fSlT,fSlL,fSlQ,fSlS,fCat,fCatT,fAddS,fIsN,fNotN,fNotB,fIsB,noneB,seqOf,fSorted,bName,bTup,bCons,bNil,onRg1,onRg2,cList,cTup,cStr,cRg1,cRg2,cEnum,cEnumT,cZipL,cZipT,cZipQ,wList,wTup,wStr,wRg1,wRg2,wEnum,wEnumT,wipeA,List.map,List.replicate,List.length_cons,List.length_nil,List.cons_append,List.nil_append,List.append_nil,List.getElem?_cons_zero,List.getElem?_cons_succ,List.set_cons_zero,List.set_cons_succ,List.set,Option.map_some,Option.map_none,Option.getD_some,Option.getD_none,reduceIte,Bool.false_eq_true,Bool.not_true,Bool.not_false,and_true,true_and,false_and,Nat.zero_le,ne_eq,not_false_eq_true,atI_0,atI_1,atI_2,atI_3,aDGet,aDGet1,aDGet2,aDIn,aListD,aStar,aDictOf,aSortSetL,aMaxT,aPar3,wKeys,cKeys,cVals,cItems,onO_some,keysOf_kv,valsOf_kv,itemsOf_kv,starItems_kv,dataAll_ds,dataAll_two,aUnpP,uNil,uCons,upOk,noBl,List.all_cons,List.all_nil,Bool.and_true,aSortItems,aOrL,aOdict,fSortedD,fExtD,fMulS,fLtT,fNeT0,aUpper,aSortSetV,cRg3,onRg3,fEqX,fNeX,fSlX,fMin2,fInSign,fNotInSign,aJoin,aTabPar,gStill,gPush,wListG,aSortD,notB,aSortSetS,aTable,tSq,tStill,dOf,dSeq,dIf,dPut,wListD,aListItems,fInDT,fIxQS,fLenQS,fSortedLS,fLtS,fLeS,fEqT0,fInX,fSortedDT,aCallX,xRaise,aTry,aGiven,aPick,aNone,keepI,nLAllTargets,T_pairsK]
          rw [List.length_map] at wl
          have r1 := room vs.length vl
          refine ⟨W, _, _, rfl, fun z => ne ?_, by rw [wl]; exact r1, wt⟩
          rw [z] at wl
          have wl : 0 = F.length * (vs.length + 1) := wl
          rcases Nat.mul_eq_zero.mp wl.symm with h | h
          · exact List.eq_nil_of_length_eq_zero h
          · omega
      · rintro ρ ⟨F, u4, u5, rfl, ne, fl, ft⟩
        refine kc _ ?_
        rw [List.length_map, List.take_length] at fl
        rw [List.length_map] at ft
        simp only [isiB,aSeq,aIfS,aRet,aRetN,aSet,aDrop,aNext,aNever,aBreak,aCont,aUnp,aUnl,aPar,aAppend,aExtend,aAppendPop,aPopSet,aVar,aC,aTy,aFn,aOp,aCB,aCons,aNil,aTup,aLst,aB,aNot,aAnd,aOr,aAndV,aOrV,aNotV,aIf,aChain,aSl,aNoPart,aPart,aCall,aCallV,aYes,aNeg,aRevL,aRg1,aLstRg,asArgs,asArg,dataOf,listOf,viewOf,dataAll,onB,onP,onL,onT,onS,onZ2,aPut,parOk,parOk2,retR,rdA,stillR,fI0,fII,fEq,fNe,eqS,fIsiA,tyOf,fLen,fLenS,fInt1,fStrI,fMax2,fListOf,fTupOf,fAll,fAny,fIxT,fIxL,fIxQ,fIxS,fRep,fRepT,aRevA,fEqE,fNeE,fSlT,fSlL,fSlQ,fSlS,fCat,fCatT,fAddS,fIsN,fNotN,fNotB,fIsB,noneB,seqOf,fSorted,bName,bTup,bCons,bNil,onRg1,onRg2,cList,cTup,cStr,cRg1,cRg2,cEnum,cEnumT,cZipL,cZipT,cZipQ,wList,wTup,wStr,wRg1,wRg2,wEnum,wEnumT,wipeA,List.map,List.replicate,List.length_cons,List.length_nil,List.cons_append,List.nil_append,List.append_nil,List.getElem?_cons_zero,List.getElem?_cons_succ,List.set_cons_zero,List.set_cons_succ,List.set,Option.map_some,Option.map_none,Option.getD_some,Option.getD_none,reduceIte,Bool.false_eq_true,Bool.not_true,Bool.not_false,and_true,true_and,false_and,Nat.zero_le,ne_eq,not_false_eq_true,atI_0,atI_1,atI_2,atI_3,aDGet,aDGet1,aDGet2,aDIn,aListD,aStar,aDictOf,aSortSetL,aMaxT,aPar3,wKeys,cKeys,cVals,cItems,onO_some,keysOf_kv,valsOf_kv,itemsOf_kv,starItems_kv,dataAll_ds,dataAll_two,aUnpP,uNil,uCons,upOk,noBl,List.all_cons,List.all_nil,Bool.and_true,aSortItems,aOrL,aOdict,fSortedD,fExtD,fMulS,fLtT,fNeT0,aUpper,aSortSetV,cRg3,onRg3,fEqX,fNeX,fSlX,fMin2,fInSign,fNotInSign,aJoin,aTabPar,gStill,gPush,wListG,aSortD,notB,aSortSetS,aTable,tSq,tStill,dOf,dSeq,dIf,dPut,wListD,aListItems,fInDT,fIxQS,fLenQS,fSortedLS,fLtS,fLeS,fEqT0,fInX,fSortedDT,aCallX,xRaise,aTry,aGiven,aPick,aNone,keepI,nLAllTargets,T_pairsK]
        rw [ysum, gg.tt] at fl
        exact ht F (fun t h => (ft t h).ok yl) ne fl


abbrev sLaw : Stmt := top 30
abbrev nLaw : List Str := ["_law_script", "_law_deck", "_law_turn", "_law_pairs", "_law_one", "_law_other", "_law_targets", "_law_go", "_law_at", "_law_target", "_law_due", "_law_far", "_law_got", "_law_some", "_law_word", "_law_key", "_law_value"]
abbrev pLaw : List Str := ["_law_script"]
theorem scLaw : FnScope nLaw pLaw (defScope sLaw) := ⟨rfl, rfl, rfl, by decide +kernel, rfl, by decide +kernel, by decide +kernel⟩
def spLaw (K : PySem.W.Frag) : Sp := fun vs H Q _ => ∃ (a : Addr) (ns : List Int), vs = [.ref a] ∧ SqL K H a (ns.map V.int) ∧ ns.length ≤ 63 ∧ ∀ H', Q (.bl true) H'
def keyF : PyData → Option PyData
  | .tuple (a :: _) => some a
  | _ => none
theorem keyF_map : ∀ ts : List (Str × Str), (ts.map encPT).filterMap keyF = (ts.map fun p => p.1).map PyData.str
  | [] => rfl
  | p :: ts => by
    rw [List.map_cons, List.filterMap_cons_some (show keyF (encPT p) = some (.str p.1) from rfl), keyF_map ts]
    rfl
theorem eqv_str (a b : Str) : PyData.eqv (.str a) (.str b) = decide (a = b) := by
  simp only [PyData.eqv]
  rw [Bool.eq_iff_iff]
  simp
theorem any_str (ks : List Str) (s : Str) : ((ks.map PyData.str).any fun z => PyData.eqv z (.str s)) = decide (s ∈ ks) := by
  induction ks with
  | nil => simp
  | cons k ks ih =>
    rw [List.map_cons, List.any_cons, ih, eqv_str, ← Bool.decide_or]
    exact decide_eq_decide.mpr ⟨fun h => h.elim (fun e => List.mem_cons.mpr (.inl e.symm)) fun e => List.mem_cons.mpr (.inr e), fun h => (List.mem_cons.mp h).imp (fun e => e.symm) id⟩
theorem asc_pw : ∀ {ks : List Str}, ascS ks = true → ks.Pairwise (fun a b => a.cps.toList < b.cps.toList)
  | [], _ => .nil
  | [_], _ => .cons (fun _ z => nomatch z) .nil
  | a :: b :: r, h => by
    have h : (decide (a.cps.toList < b.cps.toList) && ascS (b :: r)) = true := h
    rw [Bool.and_eq_true] at h
    have ih := asc_pw h.2
    have ab := of_decide_eq_true h.1
    refine .cons (fun c hc => ?_) ih
    rcases List.mem_cons.mp hc with rfl | hc
    · exact ab
    · exact List.lt_trans ab (List.rel_of_pairwise_cons ih hc)
theorem asc_nodup {ks : List Str} (h : ascS ks = true) : ks.Nodup := (asc_pw h).imp fun {a b} q e => by
  rw [e] at q
  exact List.lt_irrefl _ q
def Tgt (x : PyData) : Prop := ∃ t, x = .tuple t ∧ TgOk t ∧ t.length ≤ 20
section
variable {P : Program} {w : World} {K : PySem.W.Frag} {mg : Str → Option Value} {base : Heap}
theorem ok_Law {f : Addr} {fd : FuncData} {fLAllTargets : Addr} {fdLAllTargets : FuncData} {fLAnyCondition : Addr} {fdLAnyCondition : FuncData} {fLAnyTarget : Addr} {fdLAnyTarget : FuncData} {fLAnyWord : Addr} {fdLAnyWord : FuncData} {fLDealt : Addr} {fdLDealt : FuncData} {fLHolds : Addr} {fdLHolds : FuncData} {fLMixed : Addr} {fdLMixed : FuncData} {fLPairsIn : Addr} {fdLPairsIn : FuncData} {fLPick : Addr} {fdLPick : FuncData} {fLSomePairs : Addr} {fdLSomePairs : FuncData} {fDoesHold : Addr} {fdDoesHold : FuncData} (Z : Blt K mg) (D : DefAt K mg "law" sLaw pLaw f fd) (DLAllTargets : DefAt K mg "_law_all_targets" sLAllTargets pLAllTargets fLAllTargets fdLAllTargets) (DLAnyCondition : DefD [V.int 4] K mg "_law_any_condition" sLAnyCondition pLAnyCondition fLAnyCondition fdLAnyCondition) (DLAnyTarget : DefAt K mg "_law_any_target" sLAnyTarget pLAnyTarget fLAnyTarget fdLAnyTarget) (DLAnyWord : DefAt K mg "_law_any_word" sLAnyWord pLAnyWord fLAnyWord fdLAnyWord) (DLDealt : DefAt K mg "_law_dealt" sLDealt pLDealt fLDealt fdLDealt) (DLHolds : DefAt K mg "_law_holds" sLHolds pLHolds fLHolds fdLHolds) (DLMixed : DefAt K mg "_law_mixed" sLMixed pLMixed fLMixed fdLMixed) (DLPairsIn : DefAt K mg "_law_pairs_in" sLPairsIn pLPairsIn fLPairsIn fdLPairsIn) (DLPick : DefAt K mg "_law_pick" sLPick pLPick fLPick fdLPick) (DLSomePairs : DefAt K mg "_law_some_pairs" sLSomePairs pLSomePairs fLSomePairs fdLSomePairs) (DDoesHold : DefAt K mg "does_hold" sDoesHold pDoesHold fDoesHold fdDoesHold) (GLAllTargets : FnOk P w K mg base CX0 32 fLAllTargets fdLAllTargets pLAllTargets (spA 1 K DK T_law_all_targets)) (GLAnyCondition : FnOk P w K mg base CX0 9 fLAnyCondition fdLAnyCondition pLAnyCondition (spA 4 K DK (T_anyK 6))) (GLAnyTarget : FnOk P w K mg base CX0 4 fLAnyTarget fdLAnyTarget pLAnyTarget (spA 2 K DK T_law_any_target)) (GLAnyWord : FnOk P w K mg base CX0 3 fLAnyWord fdLAnyWord pLAnyWord (spA 1 K DK T_law_any_word)) (GLDealt : FnOk P w K mg base CX0 1 fLDealt fdLDealt pLDealt (spDeckI DK K)) (GLHolds : FnOk P w K mg base CX0 31 fLHolds fdLHolds pLHolds (spA 2 K DK (T_holdK 30))) (GLMixed : FnOk P w K mg base CX0 2 fLMixed fdLMixed pLMixed (spA 2 K DK T_law_mixed)) (GLPairsIn : FnOk P w K mg base CX0 31 fLPairsIn fdLPairsIn pLPairsIn (spA 1 K DK (T_pairsK 30))) (GLPick : FnOk P w K mg base CX0 2 fLPick fdLPick pLPick (spA 2 K DK T_law_pick)) (GLSomePairs : FnOk P w K mg base CX0 5 fLSomePairs fdLSomePairs pLSomePairs (spA 1 K DK T_law_some_pairs)) (GDoesHold : FnOk P w K mg base CX0 64 fDoesHold fdDoesHold pDoesHold (spA 2 K DK T_does_hold)) (kbDoesHold : KBinds K fdDoesHold pDoesHold ["target", "condition"] (kwP [1, 0]) (kwP [1, 0])) : FnG P w K mg base 65 f fd pLaw (spLaw K) := by
  refine FnG.body D.F scLaw (fun vs H Q E h => ?_) (fun cdv A outer s0 H vs Q hgd hr h => ?_)
  · obtain ⟨a, ns, rfl, _⟩ := h
    rfl
  have hu := hu_of hr
  obtain ⟨a, ns, rfl, ha, hl, k⟩ := h
  refine ⟨_, (pss_cons (ps_set (i := 1) scLaw.nd rfl (Or.inr rfl) (pe_call GLDealt (hr.mono (by decide)) rfl DLDealt.g DLDealt.F.kp DLDealt.b .nil pass0 (pa_cons (pv 0) pa_nil)))
    (pss_cons (ps_for PassesOwn.never rfl (pi_range1 (by rfl) Z.range (pa_cons pe_int pa_nil)) (pg_name (i := 2) scLaw.nd rfl (Or.inl rfl))
    (pss_cons (ps_set (i := 3) scLaw.nd rfl (Or.inr rfl) (pe_call GLSomePairs (hr.mono (by decide)) rfl DLSomePairs.g DLSomePairs.F.kp DLSomePairs.b .nil pass0 (pa_cons (pv 1) pa_nil)))
      (pss_cons (ps_par (i := 4) (j := 5) (by rfl) scLaw.nd rfl rfl (by decide) rfl rfl (pa_cons (pe_call GLAnyCondition (hr.mono (by decide)) rfl DLAnyCondition.g DLAnyCondition.F.kp DLAnyCondition.bd.choose_spec.2 DLAnyCondition.bd.choose_spec.1 pass0 (pa_cons (pv 1) (pa_cons (pv 3) (pa_cons pe_int pa_nil)))) (pa_cons (pe_call GLAnyCondition (hr.mono (by decide)) rfl DLAnyCondition.g DLAnyCondition.F.kp DLAnyCondition.bd.choose_spec.2 DLAnyCondition.bd.choose_spec.1 pass0 (pa_cons (pv 1) (pa_cons (pv 3) (pa_cons pe_int pa_nil)))) pa_nil)) (by rfl))
      (pss_cons (ps_set (i := 6) scLaw.nd rfl (Or.inl rfl) (pe_op op_cat (pe_slice sl_list (pe_call GLMixed (hr.mono (by decide)) rfl DLMixed.g DLMixed.F.kp DLMixed.b .nil pass0 (pa_cons (pv 1) (pa_cons (pe_call GLAllTargets (hr.mono (by decide)) rfl DLAllTargets.g DLAllTargets.F.kp DLAllTargets.b .nil pass0 (pa_cons (pe_lst (pa_cons (pv 4) pa_nil)) pa_nil)) pa_nil))) po_none (po_some pe_int)) (pe_lc (own := [("_law_go", 7)]) (g := gName 7) (tt := tYes) rfl scLaw.nd (pi_range1 (by rfl) Z.range (pa_cons pe_int pa_nil)) (blkOk_by (own := [("_law_go", 7)]) (N := nLaw) (sc := defScope sLaw) (by decide +kernel)) (fun _ _ _ _ _ => (pg_name (i := 7) scLaw.nd rfl (Or.inl rfl))) (fun _ _ _ _ _ => pts_nil) (fun _ _ _ _ _ => (pe_call GLAnyTarget (hr.mono (by decide)) rfl DLAnyTarget.g DLAnyTarget.F.kp DLAnyTarget.b .nil pass0 (pa_cons (pv 1) (pa_cons (pv 3) pa_nil)))))))
      (pss_cons (ps_for PassesOwn.never rfl (pi_enum (by rfl) Z.enumerate (pa_cons (pv 6) pa_nil)) (pg_tup (n := 2) rfl (pgs_cons (pg_name (i := 8) scLaw.nd rfl (Or.inl rfl)) (pgs_cons (pg_name (i := 9) scLaw.nd rfl (Or.inl rfl)) pgs_nil)))
      (pss_cons (ps_par (i := 10) (j := 11) (by rfl) scLaw.nd rfl rfl (by decide) rfl rfl (pa_cons (pe_call GLHolds (hr.mono (by decide)) rfl DLHolds.g DLHolds.F.kp DLHolds.b .nil pass0 (pa_cons (pv 4) (pa_cons (pv 9) pa_nil))) (pa_cons (pe_call GLHolds (hr.mono (by decide)) rfl DLHolds.g DLHolds.F.kp DLHolds.b .nil pass0 (pa_cons (pv 5) (pa_cons (pv 9) pa_nil))) pa_nil)) (by rfl))
        (Evl.pss_cut (ps_set (i := 12) scLaw.nd rfl (Or.inl rfl) (pe_ifExp (pt_cmpR op_eq (pe_op op_mod (pe_callTy call_int1 (by rfl) Z.int (by decide +kernel) (pa_cons (pv 8) pa_nil)) pe_int) pe_int (nomark _)) (pe_call GDoesHold (hr.mono (by decide)) rfl DDoesHold.g DDoesHold.F.kp DDoesHold.b .nil pass0 (pa_cons (pv 4) (pa_cons (pv 9) pa_nil))) (pe_callK0 GDoesHold (hr.mono (by decide)) rfl DDoesHold.g DDoesHold.F.kp kbDoesHold pass0 (pk_cons (pv 9) (pk_cons (pv 4) pk_nil)))))
        (pss_cons (ps_if (pt_cmpR op_ne (pe_callB (call_reprD hgd hr.units) (by rfl) Z.repr (by decide +kernel) (pa_cons (pv 12) pa_nil)) (pe_callB (call_reprD hgd hr.units) (by rfl) Z.repr (by decide +kernel) (pa_cons (pv 10) pa_nil)) (nomark _))
        (pss_one (ps_ret pe_bl))
        pss_nil)
        (pss_cons (ps_set (i := 13) scLaw.nd rfl (Or.inl rfl) (pe_tup (pa_cons (pe_call GDoesHold (hr.mono (by decide)) rfl DDoesHold.g DDoesHold.F.kp DDoesHold.b .nil pass0 (pa_cons (pe_tup (pa_cons pe_str (pa_cons (pv 4) pa_nil))) (pa_cons (pv 9) pa_nil))) (pa_cons (pe_call GDoesHold (hr.mono (by decide)) rfl DDoesHold.g DDoesHold.F.kp DDoesHold.b .nil pass0 (pa_cons (pe_tup (pa_cons pe_str (pa_cons (pv 4) (pa_cons (pv 5) pa_nil)))) (pa_cons (pv 9) pa_nil))) (pa_cons (pe_call GDoesHold (hr.mono (by decide)) rfl DDoesHold.g DDoesHold.F.kp DDoesHold.b .nil pass0 (pa_cons (pe_tup (pa_cons pe_str (pa_cons (pv 5) (pa_cons (pv 4) pa_nil)))) (pa_cons (pv 9) pa_nil))) pa_nil)))))
        (pss_one (ps_if (pt_cmpR op_ne (pe_callB (call_reprD hgd hr.units) (by rfl) Z.repr (by decide +kernel) (pa_cons (pv 13) pa_nil)) (pe_callB (call_reprD hgd hr.units) (by rfl) Z.repr (by decide +kernel) (pa_cons (pe_tup (pa_cons (pe_not (pv 10)) (pa_cons (pe_and (pv 10) (pe_one (pv 11))) (pa_cons (pe_or (pv 10) (pe_one (pv 11))) pa_nil)))) pa_nil)) (nomark _))
        (pss_one (ps_ret pe_bl))
        pss_nil)))))))
      (pss_cons (ps_par (i := 9) (j := 14) (by rfl) scLaw.nd rfl rfl (by decide) rfl rfl (pa_cons (pe_call GLPick (hr.mono (by decide)) rfl DLPick.g DLPick.F.kp DLPick.b .nil pass0 (pa_cons (pv 1) (pa_cons (pv 6) pa_nil))) (pa_cons (pe_call GLAnyWord (hr.mono (by decide)) rfl DLAnyWord.g DLAnyWord.F.kp DLAnyWord.b .nil pass0 (pa_cons (pv 1) pa_nil)) pa_nil)) (by rfl))
      (pss_one (ps_if (pt_cmpR (op_notInD (u65 hr)) (pv 14) (pe_op op_cat (pe_lc (own := [("_law_key", 15), ("_law_value", 16)]) (tt := tYes) rfl scLaw.nd (pi_list (pe_call GLPairsIn (hr.mono (by decide)) rfl DLPairsIn.g DLPairsIn.F.kp DLPairsIn.b .nil pass0 (pa_cons (pv 4) pa_nil))) (blkOk_by (own := [("_law_key", 15), ("_law_value", 16)]) (N := nLaw) (sc := defScope sLaw) (by decide +kernel)) (fun _ _ _ _ _ => (pg_tupK K (n := 2) rfl (pgs_cons (pg_name (i := 15) scLaw.nd rfl (Or.inl rfl)) (pgs_cons (pg_name (i := 16) scLaw.nd rfl (Or.inl rfl)) pgs_nil)))) (fun _ _ _ _ _ => pts_nil) (fun _ _ _ _ _ => (pv 15))) (pe_lc (own := [("_law_key", 15), ("_law_value", 16)]) (tt := tYes) rfl scLaw.nd (pi_tup (pv 9)) (blkOk_by (own := [("_law_key", 15), ("_law_value", 16)]) (N := nLaw) (sc := defScope sLaw) (by decide +kernel)) (fun _ _ _ _ _ => (pg_tupK K (n := 2) rfl (pgs_cons (pg_name (i := 15) scLaw.nd rfl (Or.inl rfl)) (pgs_cons (pg_name (i := 16) scLaw.nd rfl (Or.inl rfl)) pgs_nil)))) (fun _ _ _ _ _ => pts_nil) (fun _ _ _ _ _ => (pv 15)))) (by rfl))
      (pss_one (ps_if (pt_cmpR op_ne (pe_callB (call_reprD hgd hr.units) (by rfl) Z.repr (by decide +kernel) (pa_cons (pe_call GDoesHold (hr.mono (by decide)) rfl DDoesHold.g DDoesHold.F.kp DDoesHold.b .nil pass0 (pa_cons (pv 4) (pa_cons (pe_callTy call_tuple_of (by rfl) Z.tuple (by decide +kernel) (pa_cons (pe_callB (cr_sortedDT rfl hr.units) (by rfl) Z.sorted (by decide +kernel) (pa_cons (pe_op op_catA (pv 9) (pe_tup (pa_cons (pe_tup (pa_cons (pv 14) (pa_cons (pv 14) pa_nil))) pa_nil))) pa_nil)) pa_nil)) pa_nil))) pa_nil)) (pe_callB (call_reprD hgd hr.units) (by rfl) Z.repr (by decide +kernel) (pa_cons (pe_call GLHolds (hr.mono (by decide)) rfl DLHolds.g DLHolds.F.kp DLHolds.b .nil pass0 (pa_cons (pv 4) (pa_cons (pv 9) pa_nil))) pa_nil)) (nomark _))
        (pss_one (ps_ret pe_bl))
        pss_nil))
      pss_nil))))))))
    (pss_one (ps_ret pe_bl)))), ?_⟩
  refine ⟨_, rfl, a, ns, rfl, ha, hl, fun H1 d l s1 hd hl1 iv => ?_⟩
  dsimp only
  refine abs_top (I := DK) (ρ := [none, some .dk, none, none, none, none, none, none, none, none, none, none, none, none, none, none, none]) ((sa_seq (sa_for (ia_rg1 (aa_cons (ea_int _) aa_nil)) (gd_name 2) (sa_seq (sa_set (ea_call [.k] (aa_cons (ea_var 1) aa_nil))) (sa_seq (sa_par (ea_callD [.k, .b, .d, .d] [.int 4] (aa_cons (ea_var 1) (aa_cons (ea_var 3) (aa_cons (ea_int _) aa_nil))) (.cons (.int 4) .nil)) (ea_callD [.k, .b, .d, .d] [.int 4] (aa_cons (ea_var 1) (aa_cons (ea_var 3) (aa_cons (ea_int _) aa_nil))) (.cons (.int 4) .nil))) (sa_seq (sa_set (ea_op oa_cat (ea_sl sa_slL (ea_call [.k, .b] (aa_cons (ea_var 1) (aa_cons (ea_call [.d] (aa_cons (ea_lst (aa_cons (ea_var 4) aa_nil)) aa_nil)) aa_nil))) ao_none (ao_some (ea_int _))) (ea_lc (ic_rg1 (aa_cons (ea_int _) aa_nil)) (gd_name 7) ta_yes (ea_call [.k, .b] (aa_cons (ea_var 1) (aa_cons (ea_var 3) aa_nil)))))) (sa_seq (sa_for (ia_enum (aa_cons (ea_var 6) aa_nil)) (gd_tup (gd_cons (gd_name 8) (gd_cons (gd_name 9) gd_nil))) (sa_seq (sa_par (ea_call [.d, .d] (aa_cons (ea_var 4) (aa_cons (ea_var 9) aa_nil))) (ea_call [.d, .d] (aa_cons (ea_var 5) (aa_cons (ea_var 9) aa_nil)))) (sa_cut (sa_set (ea_if (ta_test (ea_op oa_eq (ea_op oa_mod (ea_cb cb_int1 (aa_cons (ea_var 8) aa_nil)) (ea_int _)) (ea_int _))) (ea_call [.d, .d] (aa_cons (ea_var 4) (aa_cons (ea_var 9) aa_nil))) (ea_callK0 [.d, .d] (kwR [1, 0]) (aa_cons (ea_var 9) (aa_cons (ea_var 4) aa_nil))))) (sa_seq (sa_if (ta_test (ea_op oa_ne (ea_cb cb_repr (aa_cons (ea_var 12) aa_nil)) (ea_cb cb_repr (aa_cons (ea_var 10) aa_nil)))) (sa_ret (ea_bl _)) sa_next) (sa_seq (sa_set (ea_tup (aa_cons (ea_call [.d, .d] (aa_cons (ea_tup (aa_cons (ea_str _) (aa_cons (ea_var 4) aa_nil))) (aa_cons (ea_var 9) aa_nil))) (aa_cons (ea_call [.d, .d] (aa_cons (ea_tup (aa_cons (ea_str _) (aa_cons (ea_var 4) (aa_cons (ea_var 5) aa_nil)))) (aa_cons (ea_var 9) aa_nil))) (aa_cons (ea_call [.d, .d] (aa_cons (ea_tup (aa_cons (ea_str _) (aa_cons (ea_var 5) (aa_cons (ea_var 4) aa_nil)))) (aa_cons (ea_var 9) aa_nil))) aa_nil))))) (sa_if (ta_test (ea_op oa_ne (ea_cb cb_repr (aa_cons (ea_var 13) aa_nil)) (ea_cb cb_repr (aa_cons (ea_tup (aa_cons (ea_not (ea_var 10)) (aa_cons (ea_and (ea_var 10) (ea_var 11)) (aa_cons (ea_or (ea_var 10) (ea_var 11)) aa_nil)))) aa_nil)))) (sa_ret (ea_bl _)) sa_next)))))) (sa_seq (sa_par (ea_call [.k, .s] (aa_cons (ea_var 1) (aa_cons (ea_var 6) aa_nil))) (ea_call [.k] (aa_cons (ea_var 1) aa_nil))) (sa_if (ta_test (ea_op oa_notInD (ea_var 14) (ea_op oa_cat (ea_lc (ic_list (ea_call [.d] (aa_cons (ea_var 4) aa_nil))) (gd_tup (gd_cons (gd_name 15) (gd_cons (gd_name 16) gd_nil))) ta_yes (ea_var 15)) (ea_lc (ic_tup (ea_var 9)) (gd_tup (gd_cons (gd_name 15) (gd_cons (gd_name 16) gd_nil))) ta_yes (ea_var 15))))) (sa_if (ta_test (ea_op oa_ne (ea_cb cb_repr (aa_cons (ea_call [.d, .d] (aa_cons (ea_var 4) (aa_cons (ea_cb cb_tupOf (aa_cons (ea_cb cb_sortedDT (aa_cons (ea_op oa_catA (ea_var 9) (ea_tup (aa_cons (ea_tup (aa_cons (ea_var 14) (aa_cons (ea_var 14) aa_nil))) aa_nil))) aa_nil)) aa_nil)) aa_nil))) aa_nil)) (ea_cb cb_repr (aa_cons (ea_call [.d, .d] (aa_cons (ea_var 4) (aa_cons (ea_var 9) aa_nil))) aa_nil)))) (sa_ret (ea_bl _)) sa_next) sa_next))))))) (sa_ret (ea_bl _)))) iv rfl (fun i => ?_) ?_ k
  · match i with
    | 1 => exact .inr ⟨rfl, rfl⟩
    | 0 | 2 | 3 | 4 | 5 | 6 | 7 | 8 | 9 | 10 | 11 | 12 | 13 | 14 | 15 | 16 => exact .inl rfl
    | n + 17 => exact .inl rfl
  have big : ∀ m : Nat, m ≤ 10000 → m ≤ sizeLine := fun m h => Nat.le_of_lt (Nat.lt_trans (show m < 1000000 by omega) sizeBig)
  refine seq_for (rangeD 0 3) _ (fun Ψ h => ⟨⟨by decide, by decide⟩, h⟩) (fun j ρ => ∃ u2 u3 u4 u5 u6 u8 u9 u10 u11 u12 u13 u14 : Option AV, ρ = [none, some AV.dk, u2, u3, u4, u5, u6, none, u8, u9, u10, u11, u12, u13, u14, none, none]) ⟨_, _, _, _, _, _, _, _, _, _, _, _, rfl⟩ ?_ ?_
  · rintro j x ρ hx ⟨u2, u3, u4, u5, u6, u8, u9, u10, u11, u12, u13, u14, rfl⟩
    obtain ⟨hj, rfl⟩ := rangeD_get hx
    simp only [bName, List.set_cons_zero, List.set_cons_succ]
    refine seq_hide fun Kc kc => ?_
    simp only [isiB,aSeq,aIfS,aRet,aRetN,aSet,aDrop,aNext,aNever,aBreak,aCont,aUnp,aUnl,aPar,aAppend,aExtend,aAppendPop,aPopSet,aVar,aC,aTy,aFn,aOp,aCB,aCons,aNil,aTup,aLst,aB,aNot,aAnd,aOr,aAndV,aOrV,aNotV,aIf,aChain,aSl,aNoPart,aPart,aCall,aCallV,aYes,aNeg,aRevL,aRg1,aLstRg,asArgs,asArg,dataOf,listOf,viewOf,dataAll,onB,onP,onL,onT,onS,onZ2,aPut,parOk,parOk2,retR,rdA,stillR,fI0,fII,fEq,fNe,eqS,fIsiA,tyOf,fLen,fLenS,fInt1,fStrI,fMax2,fListOf,fTupOf,fAll,fAny,fIxT,fIxL,fIxQ,fIxS,fRep,fRepT,aRevA,fEqE,fNeE,fSlT,fSlL,fSlQ,fSlS,fCat,fCatT,fAddS,fIsN,fNotN,fNotB,fIsB,noneB,seqOf,fSorted,bName,bTup,bCons,bNil,onRg1,onRg2,cList,cTup,cStr,cRg1,cRg2,cEnum,cEnumT,cZipL,cZipT,cZipQ,wList,wTup,wStr,wRg1,wRg2,wEnum,wEnumT,wipeA,List.map,List.replicate,List.length_cons,List.length_nil,List.cons_append,List.nil_append,List.append_nil,List.getElem?_cons_zero,List.getElem?_cons_succ,List.set_cons_zero,List.set_cons_succ,List.set,Option.map_some,Option.map_none,Option.getD_some,Option.getD_none,reduceIte,Bool.false_eq_true,Bool.not_true,Bool.not_false,and_true,true_and,false_and,Nat.zero_le,ne_eq,not_false_eq_true,atI_0,atI_1,atI_2,atI_3,aDGet,aDGet1,aDGet2,aDIn,aListD,aStar,aDictOf,aSortSetL,aMaxT,aPar3,wKeys,cKeys,cVals,cItems,onO_some,keysOf_kv,valsOf_kv,itemsOf_kv,starItems_kv,dataAll_ds,dataAll_two,aUnpP,uNil,uCons,upOk,noBl,List.all_cons,List.all_nil,Bool.and_true,aSortItems,aOrL,aOdict,fSortedD,fExtD,fMulS,fLtT,fNeT0,aUpper,aSortSetV,cRg3,onRg3,fEqX,fNeX,fSlX,fMin2,fInSign,fNotInSign,aJoin,aTabPar,gStill,gPush,wListG,aSortD,notB,aSortSetS,aTable,tSq,tStill,dOf,dSeq,dIf,dPut,wListD,aListItems,fInDT,fIxQS,fLenQS,fSortedLS,fLtS,fLeS,fEqT0,fInX,fSortedDT,aCallX,xRaise,aTry,aGiven,aPick,aNone,keepI,nLaw,T_law_all_targets,T_anyK,T_law_any_target,T_law_any_word,T_holdK,T_law_mixed,T_pairsK,T_law_pick,T_law_some_pairs,T_does_hold]
    refine fun ps hp hl => kc _ ?_
    clear kc Kc
    refine seq_hide fun Kc kc => ?_
    simp only [isiB,aSeq,aIfS,aRet,aRetN,aSet,aDrop,aNext,aNever,aBreak,aCont,aUnp,aUnl,aPar,aAppend,aExtend,aAppendPop,aPopSet,aVar,aC,aTy,aFn,aOp,aCB,aCons,aNil,aTup,aLst,aB,aNot,aAnd,aOr,aAndV,aOrV,aNotV,aIf,aChain,aSl,aNoPart,aPart,aCall,aCallV,aYes,aNeg,aRevL,aRg1,aLstRg,asArgs,asArg,dataOf,listOf,viewOf,dataAll,onB,onP,onL,onT,onS,onZ2,aPut,parOk,parOk2,retR,rdA,stillR,fI0,fII,fEq,fNe,eqS,fIsiA,tyOf,fLen,fLenS,fInt1,fStrI,fMax2,fListOf,fTupOf,fAll,fAny,fIxT,fIxL,fIxQ,fIxS,fRep,fRepT,aRevA,fEqE,fNeE,fSlT,fSlL,fSlQ,fSlS,fCat,fCatT,fAddS,fIsN,fNotN,fNotB,fIsB,noneB,seqOf,fSorted,bName,bTup,bCons,bNil,onRg1,onRg2,cList,cTup,cStr,cRg1,cRg2,cEnum,cEnumT,cZipL,cZipT,cZipQ,wList,wTup,wStr,wRg1,wRg2,wEnum,wEnumT,wipeA,List.map,List.replicate,List.length_cons,List.length_nil,List.cons_append,List.nil_append,List.append_nil,List.getElem?_cons_zero,List.getElem?_cons_succ,List.set_cons_zero,List.set_cons_succ,List.set,Option.map_some,Option.map_none,Option.getD_some,Option.getD_none,reduceIte,Bool.false_eq_true,Bool.not_true,Bool.not_false,and_true,true_and,false_and,Nat.zero_le,ne_eq,not_false_eq_true,atI_0,atI_1,atI_2,atI_3,aDGet,aDGet1,aDGet2,aDIn,aListD,aStar,aDictOf,aSortSetL,aMaxT,aPar3,wKeys,cKeys,cVals,cItems,onO_some,keysOf_kv,valsOf_kv,itemsOf_kv,starItems_kv,dataAll_ds,dataAll_two,aUnpP,uNil,uCons,upOk,noBl,List.all_cons,List.all_nil,Bool.and_true,aSortItems,aOrL,aOdict,fSortedD,fExtD,fMulS,fLtT,fNeT0,aUpper,aSortSetV,cRg3,onRg3,fEqX,fNeX,fSlX,fMin2,fInSign,fNotInSign,aJoin,aTabPar,gStill,gPush,wListG,aSortD,notB,aSortSetS,aTable,tSq,tStill,dOf,dSeq,dIf,dPut,wListD,aListItems,fInDT,fIxQS,fLenQS,fSortedLS,fLtS,fLeS,fEqT0,fInX,fSortedDT,aCallX,xRaise,aTry,aGiven,aPick,aNone,keepI,nLaw,T_law_all_targets,T_anyK,T_law_any_target,T_law_any_word,T_holdK,T_law_mixed,T_pairsK,T_law_pick,T_law_some_pairs,T_does_hold]
    refine ⟨ps, 3, rfl, by omega, hp, ⟨by decide, by decide⟩, rfl, by decide, fun one h1 c1 => ⟨ps, 3, rfl, by omega, hp, ⟨by decide, by decide⟩, rfl, by decide, fun other h2 c2 => kc _ ?_⟩⟩
    clear kc Kc
    have d1 : one.depth ≤ 4 := c1.r.p
    have d2 : other.depth ≤ 4 := c2.r.p
    have b1 : one.bulk ≤ 400 := Nat.le_trans c1.r.b (by decide)
    have b2 : other.bulk ≤ 400 := Nat.le_trans c2.r.b (by decide)
    refine seq_hide fun Kc kc => ?_
    simp only [isiB,aSeq,aIfS,aRet,aRetN,aSet,aDrop,aNext,aNever,aBreak,aCont,aUnp,aUnl,aPar,aAppend,aExtend,aAppendPop,aPopSet,aVar,aC,aTy,aFn,aOp,aCB,aCons,aNil,aTup,aLst,aB,aNot,aAnd,aOr,aAndV,aOrV,aNotV,aIf,aChain,aSl,aNoPart,aPart,aCall,aCallV,aYes,aNeg,aRevL,aRg1,aLstRg,asArgs,asArg,dataOf,listOf,viewOf,dataAll,onB,onP,onL,onT,onS,onZ2,aPut,parOk,parOk2,retR,rdA,stillR,fI0,fII,fEq,fNe,eqS,fIsiA,tyOf,fLen,fLenS,fInt1,fStrI,fMax2,fListOf,fTupOf,fAll,fAny,fIxT,fIxL,fIxQ,fIxS,fRep,fRepT,aRevA,fEqE,fNeE,fSlT,fSlL,fSlQ,fSlS,fCat,fCatT,fAddS,fIsN,fNotN,fNotB,fIsB,noneB,seqOf,fSorted,bName,bTup,bCons,bNil,onRg1,onRg2,cList,cTup,cStr,cRg1,cRg2,cEnum,cEnumT,cZipL,cZipT,cZipQ,wList,wTup,wStr,wRg1,wRg2,wEnum,wEnumT,wipeA,List.map,List.replicate,List.length_cons,List.length_nil,List.cons_append,List.nil_append,List.append_nil,List.getElem?_cons_zero,List.getElem?_cons_succ,List.set_cons_zero,List.set_cons_succ,List.set,Option.map_some,Option.map_none,Option.getD_some,Option.getD_none,reduceIte,Bool.false_eq_true,Bool.not_true,Bool.not_false,and_true,true_and,false_and,Nat.zero_le,ne_eq,not_false_eq_true,atI_0,atI_1,atI_2,atI_3,aDGet,aDGet1,aDGet2,aDIn,aListD,aStar,aDictOf,aSortSetL,aMaxT,aPar3,wKeys,cKeys,cVals,cItems,onO_some,keysOf_kv,valsOf_kv,itemsOf_kv,starItems_kv,dataAll_ds,dataAll_two,aUnpP,uNil,uCons,upOk,noBl,List.all_cons,List.all_nil,Bool.and_true,aSortItems,aOrL,aOdict,fSortedD,fExtD,fMulS,fLtT,fNeT0,aUpper,aSortSetV,cRg3,onRg3,fEqX,fNeX,fSlX,fMin2,fInSign,fNotInSign,aJoin,aTabPar,gStill,gPush,wListG,aSortD,notB,aSortSetS,aTable,tSq,tStill,dOf,dSeq,dIf,dPut,wListD,aListItems,fInDT,fIxQS,fLenQS,fSortedLS,fLtS,fLeS,fEqT0,fInX,fSortedDT,aCallX,xRaise,aTry,aGiven,aPick,aNone,keepI,nLaw,T_law_all_targets,T_anyK,T_law_any_target,T_law_any_word,T_holdK,T_law_mixed,T_pairsK,T_law_pick,T_law_some_pairs,T_does_hold]
    have p1 := pairs_pow 3 h1 d1
    have sum1 : [(pairsL one).length].sum = (pairsL one).length := by simp
    rw [sum1]
    refine ⟨by decide, fun c hc => by rw [List.mem_singleton.mp hc]; exact ⟨h1, by omega, by omega⟩, by decide, by omega, fun ts ht tne tl => ?_⟩
    have tl2 : ts.length ≤ 256 := Nat.le_trans tl (Nat.pow_le_pow_right (by decide) (show (pairsL one).length ≤ 8 from p1))
    refine ⟨by rw [List.length_map]; omega, fun ys ym yl => ?_⟩
    rw [List.length_map] at yl
    have tg1 : ∀ y ∈ cutD ys none (some 4), Tgt y := fun y hy => by
      obtain ⟨t, htm, rfl⟩ := List.mem_map.mp (ym y (cut_mem hy))
      exact ⟨t, rfl, ht t htm⟩
    have cne : 0 < (cutD ys none (some 4)).length := by
      have := cutD_take ys 4
      rw [show ((4 : Nat) : Int) = 4 from rfl] at this
      rw [this, List.length_take]
      have : ts.length ≠ 0 := fun z => tne (List.eq_nil_of_length_eq_zero z)
      omega
    have cl := cut_len ys none (some 4)
    generalize cutD ys none (some 4) = t4 at tg1 cne cl ⊢
    refine lc_inv (rangeD 0 3) (fun Ψ h => ⟨⟨by decide, by decide⟩, h⟩) rfl (fun i acc => (∀ y ∈ acc, Tgt y) ∧ acc.length = i) ⟨(fun _ z => nomatch z), rfl⟩ ?_ ?_
    · rintro i x acc hx ⟨l1, l2⟩
      have hi := (List.getElem?_eq_some_iff.mp hx).1
      rw [rangeD_len] at hi
      simp only [isiB,aSeq,aIfS,aRet,aRetN,aSet,aDrop,aNext,aNever,aBreak,aCont,aUnp,aUnl,aPar,aAppend,aExtend,aAppendPop,aPopSet,aVar,aC,aTy,aFn,aOp,aCB,aCons,aNil,aTup,aLst,aB,aNot,aAnd,aOr,aAndV,aOrV,aNotV,aIf,aChain,aSl,aNoPart,aPart,aCall,aCallV,aYes,aNeg,aRevL,aRg1,aLstRg,asArgs,asArg,dataOf,listOf,viewOf,dataAll,onB,onP,onL,onT,onS,onZ2,aPut,parOk,parOk2,retR,rdA,stillR,fI0,fII,fEq,fNe,eqS,fIsiA,tyOf,fLen,fLenS,fInt1,fStrI,fMax2,fListOf,fTupOf,fAll,fAny,fIxT,fIxL,fIxQ,fIxS,fRep,fRepT,aRevA,fEqE,fNeE,fSlT,fSlL,fSlQ,fSlS,fCat,fCatT,fAddS,fIsN,fNotN,fNotB,fIsB,noneB,seqOf,fSorted,bName,bTup,bCons,bNil,onRg1,onRg2,cList,cTup,cStr,cRg1,cRg2,cEnum,cEnumT,cZipL,cZipT,cZipQ,wList,wTup,wStr,wRg1,wRg2,wEnum,wEnumT,wipeA,List.map,List.replicate,List.length_cons,List.length_nil,List.cons_append,List.nil_append,List.append_nil,List.getElem?_cons_zero,List.getElem?_cons_succ,List.set_cons_zero,List.set_cons_succ,List.set,Option.map_some,Option.map_none,Option.getD_some,Option.getD_none,reduceIte,Bool.false_eq_true,Bool.not_true,Bool.not_false,and_true,true_and,false_and,Nat.zero_le,ne_eq,not_false_eq_true,atI_0,atI_1,atI_2,atI_3,aDGet,aDGet1,aDGet2,aDIn,aListD,aStar,aDictOf,aSortSetL,aMaxT,aPar3,wKeys,cKeys,cVals,cItems,onO_some,keysOf_kv,valsOf_kv,itemsOf_kv,starItems_kv,dataAll_ds,dataAll_two,aUnpP,uNil,uCons,upOk,noBl,List.all_cons,List.all_nil,Bool.and_true,aSortItems,aOrL,aOdict,fSortedD,fExtD,fMulS,fLtT,fNeT0,aUpper,aSortSetV,cRg3,onRg3,fEqX,fNeX,fSlX,fMin2,fInSign,fNotInSign,aJoin,aTabPar,gStill,gPush,wListG,aSortD,notB,aSortSetS,aTable,tSq,tStill,dOf,dSeq,dIf,dPut,wListD,aListItems,fInDT,fIxQS,fLenQS,fSortedLS,fLtS,fLeS,fEqT0,fInX,fSortedDT,aCallX,xRaise,aTry,aGiven,aPick,aNone,keepI,nLaw,T_law_all_targets,T_anyK,T_law_any_target,T_law_any_word,T_holdK,T_law_mixed,T_pairsK,T_law_pick,T_law_some_pairs,T_does_hold]
      refine ⟨ps, rfl, by omega, hp, fun ts2 q1 q2 q3 => ⟨_, rfl, Nat.lt_trans (show acc.length < 1000000 by omega) sizeBig, fun z hz => ?_, by rw [List.length_append, l2]; rfl⟩⟩
      rcases List.mem_append.mp hz with h | h
      · exact l1 z h
      · rw [List.mem_singleton.mp h]
        exact ⟨_, rfl, ⟨ts2, rfl, q1, by omega, q2⟩, by rw [List.length_map]; omega⟩
    rintro acc ⟨l1, l2⟩
    rw [rangeD_len] at l2
    refine ⟨big _ (by omega), kc _ ?_⟩
    clear kc Kc
    have tg2 : ∀ y ∈ t4 ++ acc, Tgt y := fun y hy => (List.mem_append.mp hy).elim (tg1 y) (l1 y)
    have ne2 : 0 < (t4 ++ acc).length ∧ (t4 ++ acc).length < 1000 := by rw [List.length_append]; omega
    generalize t4 ++ acc = tg at tg2 ne2 ⊢
    refine seq_for (enumD 0 tg) _ (fun Ψ h => h) (fun _ ρ => ∃ u8 u9 u10 u11 u12 u13 : Option AV, ρ = [none, some AV.dk, some (AV.d (.int (0 + (j : Int)))), some (AV.own (ps.map encPT)), some (AV.d one), some (AV.d other), some (AV.d (.list tg)), none, u8, u9, u10, u11, u12, u13, u14, none, none]) ⟨_, _, _, _, _, _, rfl⟩ ?_ ?_
    · rintro n x ρ hx ⟨u8, u9, u10, u11, u12, u13, rfl⟩
      obtain ⟨y, hy, rfl⟩ := enumD_get hx
      obtain ⟨t, rfl, tk, tlen⟩ := tg2 y (List.mem_of_getElem? hy)
      refine ⟨rfl, rfl, ?_⟩
      simp only [List.set_cons_zero, List.set_cons_succ]
      refine seq_hide fun Kc kc => ?_
      simp only [isiB,aSeq,aIfS,aRet,aRetN,aSet,aDrop,aNext,aNever,aBreak,aCont,aUnp,aUnl,aPar,aAppend,aExtend,aAppendPop,aPopSet,aVar,aC,aTy,aFn,aOp,aCB,aCons,aNil,aTup,aLst,aB,aNot,aAnd,aOr,aAndV,aOrV,aNotV,aIf,aChain,aSl,aNoPart,aPart,aCall,aCallV,aYes,aNeg,aRevL,aRg1,aLstRg,asArgs,asArg,dataOf,listOf,viewOf,dataAll,onB,onP,onL,onT,onS,onZ2,aPut,parOk,parOk2,retR,rdA,stillR,fI0,fII,fEq,fNe,eqS,fIsiA,tyOf,fLen,fLenS,fInt1,fStrI,fMax2,fListOf,fTupOf,fAll,fAny,fIxT,fIxL,fIxQ,fIxS,fRep,fRepT,aRevA,fEqE,fNeE,fSlT,fSlL,fSlQ,fSlS,fCat,fCatT,fAddS,fIsN,fNotN,fNotB,fIsB,noneB,seqOf,fSorted,bName,bTup,bCons,bNil,onRg1,onRg2,cList,cTup,cStr,cRg1,cRg2,cEnum,cEnumT,cZipL,cZipT,cZipQ,wList,wTup,wStr,wRg1,wRg2,wEnum,wEnumT,wipeA,List.map,List.replicate,List.length_cons,List.length_nil,List.cons_append,List.nil_append,List.append_nil,List.getElem?_cons_zero,List.getElem?_cons_succ,List.set_cons_zero,List.set_cons_succ,List.set,Option.map_some,Option.map_none,Option.getD_some,Option.getD_none,reduceIte,Bool.false_eq_true,Bool.not_true,Bool.not_false,and_true,true_and,false_and,Nat.zero_le,ne_eq,not_false_eq_true,atI_0,atI_1,atI_2,atI_3,aDGet,aDGet1,aDGet2,aDIn,aListD,aStar,aDictOf,aSortSetL,aMaxT,aPar3,wKeys,cKeys,cVals,cItems,onO_some,keysOf_kv,valsOf_kv,itemsOf_kv,starItems_kv,dataAll_ds,dataAll_two,aUnpP,uNil,uCons,upOk,noBl,List.all_cons,List.all_nil,Bool.and_true,aSortItems,aOrL,aOdict,fSortedD,fExtD,fMulS,fLtT,fNeT0,aUpper,aSortSetV,cRg3,onRg3,fEqX,fNeX,fSlX,fMin2,fInSign,fNotInSign,aJoin,aTabPar,gStill,gPush,wListG,aSortD,notB,aSortSetS,aTable,tSq,tStill,dOf,dSeq,dIf,dPut,wListD,aListItems,fInDT,fIxQS,fLenQS,fSortedLS,fLtS,fLeS,fEqT0,fInX,fSortedDT,aCallX,xRaise,aTry,aGiven,aPick,aNone,keepI,nLaw,T_law_all_targets,T_anyK,T_law_any_target,T_law_any_word,T_holdK,T_law_mixed,T_pairsK,T_law_pick,T_law_some_pairs,T_does_hold]
      refine ⟨tk, h1, by omega, tk, h2, by omega, kc _ ?_⟩
      clear kc Kc
      refine cut_eq [none, some AV.dk, some (AV.d (.int (0 + (j : Int)))), some (AV.own (ps.map encPT)), some (AV.d one), some (AV.d other), some (AV.d (.list tg)), none, some (AV.d (.int ((0 + n : Nat) : Int))), some (AV.d (.tuple t)), some (AV.d (.bool (holdD t one))), some (AV.d (.bool (holdD t other))), some (AV.d (.bool (holdD t one))), u13, u14, none, none] ?_ ?_
      · simp only [isiB,aSeq,aIfS,aRet,aRetN,aSet,aDrop,aNext,aNever,aBreak,aCont,aUnp,aUnl,aPar,aAppend,aExtend,aAppendPop,aPopSet,aVar,aC,aTy,aFn,aOp,aCB,aCons,aNil,aTup,aLst,aB,aNot,aAnd,aOr,aAndV,aOrV,aNotV,aIf,aChain,aSl,aNoPart,aPart,aCall,aCallV,aYes,aNeg,aRevL,aRg1,aLstRg,asArgs,asArg,dataOf,listOf,viewOf,dataAll,onB,onP,onL,onT,onS,onZ2,aPut,parOk,parOk2,retR,rdA,stillR,fI0,fII,fEq,fNe,eqS,fIsiA,tyOf,fLen,fLenS,fInt1,fStrI,fMax2,fListOf,fTupOf,fAll,fAny,fIxT,fIxL,fIxQ,fIxS,fRep,fRepT,aRevA,fEqE,fNeE,fSlT,fSlL,fSlQ,fSlS,fCat,fCatT,fAddS,fIsN,fNotN,fNotB,fIsB,noneB,seqOf,fSorted,bName,bTup,bCons,bNil,onRg1,onRg2,cList,cTup,cStr,cRg1,cRg2,cEnum,cEnumT,cZipL,cZipT,cZipQ,wList,wTup,wStr,wRg1,wRg2,wEnum,wEnumT,wipeA,List.map,List.replicate,List.length_cons,List.length_nil,List.cons_append,List.nil_append,List.append_nil,List.getElem?_cons_zero,List.getElem?_cons_succ,List.set_cons_zero,List.set_cons_succ,List.set,Option.map_some,Option.map_none,Option.getD_some,Option.getD_none,reduceIte,Bool.false_eq_true,Bool.not_true,Bool.not_false,and_true,true_and,false_and,Nat.zero_le,ne_eq,not_false_eq_true,atI_0,atI_1,atI_2,atI_3,aDGet,aDGet1,aDGet2,aDIn,aListD,aStar,aDictOf,aSortSetL,aMaxT,aPar3,wKeys,cKeys,cVals,cItems,onO_some,keysOf_kv,valsOf_kv,itemsOf_kv,starItems_kv,dataAll_ds,dataAll_two,aUnpP,uNil,uCons,upOk,noBl,List.all_cons,List.all_nil,Bool.and_true,aSortItems,aOrL,aOdict,fSortedD,fExtD,fMulS,fLtT,fNeT0,aUpper,aSortSetV,cRg3,onRg3,fEqX,fNeX,fSlX,fMin2,fInSign,fNotInSign,aJoin,aTabPar,gStill,gPush,wListG,aSortD,notB,aSortSetS,aTable,tSq,tStill,dOf,dSeq,dIf,dPut,wListD,aListItems,fInDT,fIxQS,fLenQS,fSortedLS,fLtS,fLeS,fEqT0,fInX,fSortedDT,aCallX,xRaise,aTry,aGiven,aPick,aNone,keepI,nLaw,T_law_all_targets,T_anyK,T_law_any_target,T_law_any_word,T_holdK,T_law_mixed,T_pairsK,T_law_pick,T_law_some_pairs,T_does_hold]
        exact ⟨by decide, ite2 (fun _ => by first | exact ⟨tk, h1, by omega, by omega, rfl⟩ | exact ⟨tk, h1, by omega, by omega⟩) fun _ => by first | exact ⟨tk, h1, by omega, by omega, rfl⟩ | exact ⟨tk, h1, by omega, by omega⟩⟩
      refine seq_if_no2 (fun Ψ q => rne_of (x := .bool (holdD t one)) (fun Φ h => h) (fun Φ h => h) (rp_b _) q) ?_
      refine seq_hide fun Kc kc => ?_
      simp only [isiB,aSeq,aIfS,aRet,aRetN,aSet,aDrop,aNext,aNever,aBreak,aCont,aUnp,aUnl,aPar,aAppend,aExtend,aAppendPop,aPopSet,aVar,aC,aTy,aFn,aOp,aCB,aCons,aNil,aTup,aLst,aB,aNot,aAnd,aOr,aAndV,aOrV,aNotV,aIf,aChain,aSl,aNoPart,aPart,aCall,aCallV,aYes,aNeg,aRevL,aRg1,aLstRg,asArgs,asArg,dataOf,listOf,viewOf,dataAll,onB,onP,onL,onT,onS,onZ2,aPut,parOk,parOk2,retR,rdA,stillR,fI0,fII,fEq,fNe,eqS,fIsiA,tyOf,fLen,fLenS,fInt1,fStrI,fMax2,fListOf,fTupOf,fAll,fAny,fIxT,fIxL,fIxQ,fIxS,fRep,fRepT,aRevA,fEqE,fNeE,fSlT,fSlL,fSlQ,fSlS,fCat,fCatT,fAddS,fIsN,fNotN,fNotB,fIsB,noneB,seqOf,fSorted,bName,bTup,bCons,bNil,onRg1,onRg2,cList,cTup,cStr,cRg1,cRg2,cEnum,cEnumT,cZipL,cZipT,cZipQ,wList,wTup,wStr,wRg1,wRg2,wEnum,wEnumT,wipeA,List.map,List.replicate,List.length_cons,List.length_nil,List.cons_append,List.nil_append,List.append_nil,List.getElem?_cons_zero,List.getElem?_cons_succ,List.set_cons_zero,List.set_cons_succ,List.set,Option.map_some,Option.map_none,Option.getD_some,Option.getD_none,reduceIte,Bool.false_eq_true,Bool.not_true,Bool.not_false,and_true,true_and,false_and,Nat.zero_le,ne_eq,not_false_eq_true,atI_0,atI_1,atI_2,atI_3,aDGet,aDGet1,aDGet2,aDIn,aListD,aStar,aDictOf,aSortSetL,aMaxT,aPar3,wKeys,cKeys,cVals,cItems,onO_some,keysOf_kv,valsOf_kv,itemsOf_kv,starItems_kv,dataAll_ds,dataAll_two,aUnpP,uNil,uCons,upOk,noBl,List.all_cons,List.all_nil,Bool.and_true,aSortItems,aOrL,aOdict,fSortedD,fExtD,fMulS,fLtT,fNeT0,aUpper,aSortSetV,cRg3,onRg3,fEqX,fNeX,fSlX,fMin2,fInSign,fNotInSign,aJoin,aTabPar,gStill,gPush,wListG,aSortD,notB,aSortSetS,aTable,tSq,tStill,dOf,dSeq,dIf,dPut,wListD,aListItems,fInDT,fIxQS,fLenQS,fSortedLS,fLtS,fLeS,fEqT0,fInX,fSortedDT,aCallX,xRaise,aTry,aGiven,aPick,aNone,keepI,nLaw,T_law_all_targets,T_anyK,T_law_any_target,T_law_any_word,T_holdK,T_law_mixed,T_pairsK,T_law_pick,T_law_some_pairs,T_does_hold]
      have bn : (PyData.tuple [.str (Str.ofString "not"), one]).bulk ≤ 1000000 ∧ (PyData.tuple [.str (Str.ofString "not"), one]).depth ≤ 28 := by
        have z : (PyData.str (Str.ofString "not")).bulk = 3 := by decide +kernel
        simp only [PyData.bulk, PyData.bulkAll, PyData.depth, PyData.depthAll] at z ⊢
        omega
      have bb : ∀ a b : PyData, ∀ c : Str, c.cps.size ≤ 6 → a.depth ≤ 4 → b.depth ≤ 4 → a.bulk ≤ 400 → b.bulk ≤ 400 → (PyData.tuple [.str c, a, b]).bulk ≤ 1000000 ∧ (PyData.tuple [.str c, a, b]).depth ≤ 28 := fun a b c hc _ _ _ _ => by
        have z : (PyData.str c).bulk = c.cps.size := rfl
        simp only [PyData.bulk, PyData.bulkAll, PyData.depth, PyData.depthAll] at z ⊢
        omega
      have q1 := bb one other (Str.ofString "both") (by decide +kernel) d1 d2 b1 b2
      have q2 := bb other one (Str.ofString "either") (by decide +kernel) d2 d1 b2 b1
      refine ⟨by decide, tk, condNt h1, bn.2, bn.1, by decide, tk, condBE (.inl rfl) h1 h2, q1.2, q1.1, by decide, tk, condBE (.inr rfl) h2 h1, q2.2, q2.1, by decide, kc _ ?_⟩
      clear kc Kc
      rw [holdN, holdB, holdE]
      generalize holdD t one = b
      generalize holdD t other = f
      refine if_no (fun Ψ q => rne_of (x := .tuple [.bool (!b), .bool (b && f), .bool (f || b)]) (fun Φ h => h) (fun Φ h => ?_) (rp_of rfl rfl (by simp [PyData.depth, PyData.depthAll]) rfl (by simp [PyData.bulk, PyData.bulkAll])) q) ⟨_, _, _, _, _, _, rfl⟩
      cases b <;> cases f <;> (simp only [isiB,aSeq,aIfS,aRet,aRetN,aSet,aDrop,aNext,aNever,aBreak,aCont,aUnp,aUnl,aPar,aAppend,aExtend,aAppendPop,aPopSet,aVar,aC,aTy,aFn,aOp,aCB,aCons,aNil,aTup,aLst,aB,aNot,aAnd,aOr,aAndV,aOrV,aNotV,aIf,aChain,aSl,aNoPart,aPart,aCall,aCallV,aYes,aNeg,aRevL,aRg1,aLstRg,asArgs,asArg,dataOf,listOf,viewOf,dataAll,onB,onP,onL,onT,onS,onZ2,aPut,parOk,parOk2,retR,rdA,stillR,fI0,fII,fEq,fNe,eqS,fIsiA,tyOf,fLen,fLenS,fInt1,fStrI,fMax2,fListOf,fTupOf,fAll,fAny,fIxT,fIxL,fIxQ,fIxS,fRep,fRepT,aRevA,fEqE,fNeE,fSlT,fSlL,fSlQ,fSlS,fCat,fCatT,fAddS,fIsN,fNotN,fNotB,fIsB,noneB,seqOf,fSorted,bName,bTup,bCons,bNil,onRg1,onRg2,cList,cTup,cStr,cRg1,cRg2,cEnum,cEnumT,cZipL,cZipT,cZipQ,wList,wTup,wStr,wRg1,wRg2,wEnum,wEnumT,wipeA,List.map,List.replicate,List.length_cons,List.length_nil,List.cons_append,List.nil_append,List.append_nil,List.getElem?_cons_zero,List.getElem?_cons_succ,List.set_cons_zero,List.set_cons_succ,List.set,Option.map_some,Option.map_none,Option.getD_some,Option.getD_none,reduceIte,Bool.false_eq_true,Bool.not_true,Bool.not_false,and_true,true_and,false_and,Nat.zero_le,ne_eq,not_false_eq_true,atI_0,atI_1,atI_2,atI_3,aDGet,aDGet1,aDGet2,aDIn,aListD,aStar,aDictOf,aSortSetL,aMaxT,aPar3,wKeys,cKeys,cVals,cItems,onO_some,keysOf_kv,valsOf_kv,itemsOf_kv,starItems_kv,dataAll_ds,dataAll_two,aUnpP,uNil,uCons,upOk,noBl,List.all_cons,List.all_nil,Bool.and_true,aSortItems,aOrL,aOdict,fSortedD,fExtD,fMulS,fLtT,fNeT0,aUpper,aSortSetV,cRg3,onRg3,fEqX,fNeX,fSlX,fMin2,fInSign,fNotInSign,aJoin,aTabPar,gStill,gPush,wListG,aSortD,notB,aSortSetS,aTable,tSq,tStill,dOf,dSeq,dIf,dPut,wListD,aListItems,fInDT,fIxQS,fLenQS,fSortedLS,fLtS,fLeS,fEqT0,fInX,fSortedDT,aCallX,xRaise,aTry,aGiven,aPick,aNone,keepI,nLaw,T_law_all_targets,T_anyK,T_law_any_target,T_law_any_word,T_holdK,T_law_mixed,T_pairsK,T_law_pick,T_law_some_pairs,T_does_hold]; exact ⟨by decide, h⟩)
    · rintro ρ ⟨u8, u9, u10, u11, u12, u13, rfl⟩
      refine seq_hide fun Kc kc => ?_
      simp only [isiB,aSeq,aIfS,aRet,aRetN,aSet,aDrop,aNext,aNever,aBreak,aCont,aUnp,aUnl,aPar,aAppend,aExtend,aAppendPop,aPopSet,aVar,aC,aTy,aFn,aOp,aCB,aCons,aNil,aTup,aLst,aB,aNot,aAnd,aOr,aAndV,aOrV,aNotV,aIf,aChain,aSl,aNoPart,aPart,aCall,aCallV,aYes,aNeg,aRevL,aRg1,aLstRg,asArgs,asArg,dataOf,listOf,viewOf,dataAll,onB,onP,onL,onT,onS,onZ2,aPut,parOk,parOk2,retR,rdA,stillR,fI0,fII,fEq,fNe,eqS,fIsiA,tyOf,fLen,fLenS,fInt1,fStrI,fMax2,fListOf,fTupOf,fAll,fAny,fIxT,fIxL,fIxQ,fIxS,fRep,fRepT,aRevA,fEqE,fNeE,fSlT,fSlL,fSlQ,fSlS,fCat,fCatT,fAddS,fIsN,fNotN,fNotB,fIsB,noneB,seqOf,fSorted,bName,bTup,bCons,bNil,onRg1,onRg2,cList,cTup,cStr,cRg1,cRg2,cEnum,cEnumT,cZipL,cZipT,cZipQ,wList,wTup,wStr,wRg1,wRg2,wEnum,wEnumT,wipeA,List.map,List.replicate,List.length_cons,List.length_nil,List.cons_append,List.nil_append,List.append_nil,List.getElem?_cons_zero,List.getElem?_cons_succ,List.set_cons_zero,List.set_cons_succ,List.set,Option.map_some,Option.map_none,Option.getD_some,Option.getD_none,reduceIte,Bool.false_eq_true,Bool.not_true,Bool.not_false,and_true,true_and,false_and,Nat.zero_le,ne_eq,not_false_eq_true,atI_0,atI_1,atI_2,atI_3,aDGet,aDGet1,aDGet2,aDIn,aListD,aStar,aDictOf,aSortSetL,aMaxT,aPar3,wKeys,cKeys,cVals,cItems,onO_some,keysOf_kv,valsOf_kv,itemsOf_kv,starItems_kv,dataAll_ds,dataAll_two,aUnpP,uNil,uCons,upOk,noBl,List.all_cons,List.all_nil,Bool.and_true,aSortItems,aOrL,aOdict,fSortedD,fExtD,fMulS,fLtT,fNeT0,aUpper,aSortSetV,cRg3,onRg3,fEqX,fNeX,fSlX,fMin2,fInSign,fNotInSign,aJoin,aTabPar,gStill,gPush,wListG,aSortD,notB,aSortSetS,aTable,tSq,tStill,dOf,dSeq,dIf,dPut,wListD,aListItems,fInDT,fIxQS,fLenQS,fSortedLS,fLtS,fLeS,fEqT0,fInX,fSortedDT,aCallX,xRaise,aTry,aGiven,aPick,aNone,keepI,nLaw,T_law_all_targets,T_anyK,T_law_any_target,T_law_any_word,T_holdK,T_law_mixed,T_pairsK,T_law_pick,T_law_some_pairs,T_does_hold]
      refine ⟨⟨ne2.1, by omega⟩, fun x hx s hs => kc _ ?_⟩
      clear kc Kc
      obtain ⟨t, rfl, tk, tlen⟩ := tg2 x hx
      refine if_K fun Ka Kb ka kb => ?_
      obtain ⟨qs, e1, e2, e3⟩ := pairs_enc 4 h1 d1
      have q8 : qs.length ≤ 8 := by
        have := congrArg List.length e1
        rw [List.length_map] at this
        omega
      obtain ⟨ts, rfl, tw, tl200, tasc⟩ := id tk
      simp only [isiB,aSeq,aIfS,aRet,aRetN,aSet,aDrop,aNext,aNever,aBreak,aCont,aUnp,aUnl,aPar,aAppend,aExtend,aAppendPop,aPopSet,aVar,aC,aTy,aFn,aOp,aCB,aCons,aNil,aTup,aLst,aB,aNot,aAnd,aOr,aAndV,aOrV,aNotV,aIf,aChain,aSl,aNoPart,aPart,aCall,aCallV,aYes,aNeg,aRevL,aRg1,aLstRg,asArgs,asArg,dataOf,listOf,viewOf,dataAll,onB,onP,onL,onT,onS,onZ2,aPut,parOk,parOk2,retR,rdA,stillR,fI0,fII,fEq,fNe,eqS,fIsiA,tyOf,fLen,fLenS,fInt1,fStrI,fMax2,fListOf,fTupOf,fAll,fAny,fIxT,fIxL,fIxQ,fIxS,fRep,fRepT,aRevA,fEqE,fNeE,fSlT,fSlL,fSlQ,fSlS,fCat,fCatT,fAddS,fIsN,fNotN,fNotB,fIsB,noneB,seqOf,fSorted,bName,bTup,bCons,bNil,onRg1,onRg2,cList,cTup,cStr,cRg1,cRg2,cEnum,cEnumT,cZipL,cZipT,cZipQ,wList,wTup,wStr,wRg1,wRg2,wEnum,wEnumT,wipeA,List.map,List.replicate,List.length_cons,List.length_nil,List.cons_append,List.nil_append,List.append_nil,List.getElem?_cons_zero,List.getElem?_cons_succ,List.set_cons_zero,List.set_cons_succ,List.set,Option.map_some,Option.map_none,Option.getD_some,Option.getD_none,reduceIte,Bool.false_eq_true,Bool.not_true,Bool.not_false,and_true,true_and,false_and,Nat.zero_le,ne_eq,not_false_eq_true,atI_0,atI_1,atI_2,atI_3,aDGet,aDGet1,aDGet2,aDIn,aListD,aStar,aDictOf,aSortSetL,aMaxT,aPar3,wKeys,cKeys,cVals,cItems,onO_some,keysOf_kv,valsOf_kv,itemsOf_kv,starItems_kv,dataAll_ds,dataAll_two,aUnpP,uNil,uCons,upOk,noBl,List.all_cons,List.all_nil,Bool.and_true,aSortItems,aOrL,aOdict,fSortedD,fExtD,fMulS,fLtT,fNeT0,aUpper,aSortSetV,cRg3,onRg3,fEqX,fNeX,fSlX,fMin2,fInSign,fNotInSign,aJoin,aTabPar,gStill,gPush,wListG,aSortD,notB,aSortSetS,aTable,tSq,tStill,dOf,dSeq,dIf,dPut,wListD,aListItems,fInDT,fIxQS,fLenQS,fSortedLS,fLtS,fLeS,fEqT0,fInX,fSortedDT,aCallX,xRaise,aTry,aGiven,aPick,aNone,keepI,nLaw,T_law_all_targets,T_anyK,T_law_any_target,T_law_any_word,T_holdK,T_law_mixed,T_pairsK,T_law_pick,T_law_some_pairs,T_does_hold]
      refine lc_bind ?_
      simp only [isiB,aSeq,aIfS,aRet,aRetN,aSet,aDrop,aNext,aNever,aBreak,aCont,aUnp,aUnl,aPar,aAppend,aExtend,aAppendPop,aPopSet,aVar,aC,aTy,aFn,aOp,aCB,aCons,aNil,aTup,aLst,aB,aNot,aAnd,aOr,aAndV,aOrV,aNotV,aIf,aChain,aSl,aNoPart,aPart,aCall,aCallV,aYes,aNeg,aRevL,aRg1,aLstRg,asArgs,asArg,dataOf,listOf,viewOf,dataAll,onB,onP,onL,onT,onS,onZ2,aPut,parOk,parOk2,retR,rdA,stillR,fI0,fII,fEq,fNe,eqS,fIsiA,tyOf,fLen,fLenS,fInt1,fStrI,fMax2,fListOf,fTupOf,fAll,fAny,fIxT,fIxL,fIxQ,fIxS,fRep,fRepT,aRevA,fEqE,fNeE,fSlT,fSlL,fSlQ,fSlS,fCat,fCatT,fAddS,fIsN,fNotN,fNotB,fIsB,noneB,seqOf,fSorted,bName,bTup,bCons,bNil,onRg1,onRg2,cList,cTup,cStr,cRg1,cRg2,cEnum,cEnumT,cZipL,cZipT,cZipQ,wList,wTup,wStr,wRg1,wRg2,wEnum,wEnumT,wipeA,List.map,List.replicate,List.length_cons,List.length_nil,List.cons_append,List.nil_append,List.append_nil,List.getElem?_cons_zero,List.getElem?_cons_succ,List.set_cons_zero,List.set_cons_succ,List.set,Option.map_some,Option.map_none,Option.getD_some,Option.getD_none,reduceIte,Bool.false_eq_true,Bool.not_true,Bool.not_false,and_true,true_and,false_and,Nat.zero_le,ne_eq,not_false_eq_true,atI_0,atI_1,atI_2,atI_3,aDGet,aDGet1,aDGet2,aDIn,aListD,aStar,aDictOf,aSortSetL,aMaxT,aPar3,wKeys,cKeys,cVals,cItems,onO_some,keysOf_kv,valsOf_kv,itemsOf_kv,starItems_kv,dataAll_ds,dataAll_two,aUnpP,uNil,uCons,upOk,noBl,List.all_cons,List.all_nil,Bool.and_true,aSortItems,aOrL,aOdict,fSortedD,fExtD,fMulS,fLtT,fNeT0,aUpper,aSortSetV,cRg3,onRg3,fEqX,fNeX,fSlX,fMin2,fInSign,fNotInSign,aJoin,aTabPar,gStill,gPush,wListG,aSortD,notB,aSortSetS,aTable,tSq,tStill,dOf,dSeq,dIf,dPut,wListD,aListItems,fInDT,fIxQS,fLenQS,fSortedLS,fLtS,fLeS,fEqT0,fInX,fSortedDT,aCallX,xRaise,aTry,aGiven,aPick,aNone,keepI,nLaw,T_law_all_targets,T_anyK,T_law_any_target,T_law_any_word,T_holdK,T_law_mixed,T_pairsK,T_law_pick,T_law_some_pairs,T_does_hold]
      refine ⟨h1, by omega, by omega, ?_⟩
      rw [e1]
      refine lc_of (qs.map encPT) keyF (fun Ψ h => h) (by rw [List.length_map]; exact Nat.lt_trans (show qs.length < 1000000 by omega) sizeBig) rfl (fun x hx n Q hn hq => ?_) ?_
      · obtain ⟨p, _, rfl⟩ := List.mem_map.mp hx
        exact ⟨rfl, rfl, _, rfl, hn, hq⟩
      rw [keyF_map]
      refine lc_of (ts.map encPT) keyF (fun Ψ h => h) (by rw [List.length_map]; exact Nat.lt_trans (show ts.length < 1000000 by omega) sizeBig) rfl (fun x hx n Q hn hq => ?_) ?_
      · obtain ⟨p, _, rfl⟩ := List.mem_map.mp hx
        exact ⟨rfl, rfl, _, rfl, hn, hq⟩
      rw [keyF_map]
      refine ⟨big _ (by rw [List.length_map, List.length_map, List.length_map, List.length_map]; omega), ?_⟩
      rw [← List.map_append]
      generalize hks : qs.map (fun p => p.1) ++ ts.map (fun p => p.1) = ks
      show _ ∧ _ ∧ (if (!((ks.map PyData.str).any fun z => PyData.eqv z (.str s))) = true then Ka else Kb)
      rw [any_str]
      have kwd : ∀ k ∈ ks, wordS k = true := fun k hk => by
        rw [← hks] at hk
        rcases List.mem_append.mp hk with h | h
        · obtain ⟨p, hp2, rfl⟩ := List.mem_map.mp h; exact (e2 p hp2).1
        · obtain ⟨p, hp2, rfl⟩ := List.mem_map.mp h; exact (tw p hp2).1
      have stay : Kb := kb ⟨_, _, _, _, _, _, _, _, _, _, _, _, rfl⟩
      refine ⟨(sh_str (wd_of hs)).ok (by decide), (Sh.list (k := 0) fun d hd => by obtain ⟨z, hz, rfl⟩ := List.mem_map.mp hd; exact sh_str (wd_of (kwd z hz))).ok (by decide), ?_⟩
      refine ite2 (fun nin => ka ?_) (fun _ => stay)
      have nin : s ∉ ks := fun z => by rw [decide_eq_true z] at nin; cases nin
      have n1 : ∀ q ∈ qs, q.1 ≠ s := fun q hq e => nin (by rw [← hks]; exact List.mem_append.mpr (.inl (List.mem_map.mpr ⟨q, hq, e⟩)))
      have n2 : ∀ q ∈ ts, q.1 ≠ s := fun q hq e => nin (by rw [← hks]; exact List.mem_append.mpr (.inr (List.mem_map.mpr ⟨q, hq, e⟩)))
      clear stay ka kb
      refine if_no (fun Ψ q => rne_of (x := .bool (holdD (ts.map encPT) one)) (fun Φ h => ?_) (fun Φ h => ?_) (rp_b _) q) ⟨_, _, _, _, _, _, _, _, _, _, _, _, rfl⟩
      · simp only [isiB,aSeq,aIfS,aRet,aRetN,aSet,aDrop,aNext,aNever,aBreak,aCont,aUnp,aUnl,aPar,aAppend,aExtend,aAppendPop,aPopSet,aVar,aC,aTy,aFn,aOp,aCB,aCons,aNil,aTup,aLst,aB,aNot,aAnd,aOr,aAndV,aOrV,aNotV,aIf,aChain,aSl,aNoPart,aPart,aCall,aCallV,aYes,aNeg,aRevL,aRg1,aLstRg,asArgs,asArg,dataOf,listOf,viewOf,dataAll,onB,onP,onL,onT,onS,onZ2,aPut,parOk,parOk2,retR,rdA,stillR,fI0,fII,fEq,fNe,eqS,fIsiA,tyOf,fLen,fLenS,fInt1,fStrI,fMax2,fListOf,fTupOf,fAll,fAny,fIxT,fIxL,fIxQ,fIxS,fRep,fRepT,aRevA,fEqE,fNeE,fSlT,fSlL,fSlQ,fSlS,fCat,fCatT,fAddS,fIsN,fNotN,fNotB,fIsB,noneB,seqOf,fSorted,bName,bTup,bCons,bNil,onRg1,onRg2,cList,cTup,cStr,cRg1,cRg2,cEnum,cEnumT,cZipL,cZipT,cZipQ,wList,wTup,wStr,wRg1,wRg2,wEnum,wEnumT,wipeA,List.map,List.replicate,List.length_cons,List.length_nil,List.cons_append,List.nil_append,List.append_nil,List.getElem?_cons_zero,List.getElem?_cons_succ,List.set_cons_zero,List.set_cons_succ,List.set,Option.map_some,Option.map_none,Option.getD_some,Option.getD_none,reduceIte,Bool.false_eq_true,Bool.not_true,Bool.not_false,and_true,true_and,false_and,Nat.zero_le,ne_eq,not_false_eq_true,atI_0,atI_1,atI_2,atI_3,aDGet,aDGet1,aDGet2,aDIn,aListD,aStar,aDictOf,aSortSetL,aMaxT,aPar3,wKeys,cKeys,cVals,cItems,onO_some,keysOf_kv,valsOf_kv,itemsOf_kv,starItems_kv,dataAll_ds,dataAll_two,aUnpP,uNil,uCons,upOk,noBl,List.all_cons,List.all_nil,Bool.and_true,aSortItems,aOrL,aOdict,fSortedD,fExtD,fMulS,fLtT,fNeT0,aUpper,aSortSetV,cRg3,onRg3,fEqX,fNeX,fSlX,fMin2,fInSign,fNotInSign,aJoin,aTabPar,gStill,gPush,wListG,aSortD,notB,aSortSetS,aTable,tSq,tStill,dOf,dSeq,dIf,dPut,wListD,aListItems,fInDT,fIxQS,fLenQS,fSortedLS,fLtS,fLeS,fEqT0,fInX,fSortedDT,aCallX,xRaise,aTry,aGiven,aPick,aNone,keepI,nLaw,T_law_all_targets,T_anyK,T_law_any_target,T_law_any_word,T_holdK,T_law_mixed,T_pairsK,T_law_pick,T_law_some_pairs,T_does_hold]
        have ee : ts.map encPT ++ [PyData.tuple [.str s, .str s]] = (ts ++ [(s, s)]).map encPT := by rw [List.map_append]; rfl
        rw [ee]
        refine ⟨by decide, by decide, by rw [List.length_map]; exact big _ (by omega), fun d hd e he => ?_, fun d hd => ?_, fun es perm pw => ?_⟩
        · obtain ⟨a, _, rfl⟩ := List.mem_map.mp hd
          obtain ⟨b, _, rfl⟩ := List.mem_map.mp he
          exact alikeP
        · obtain ⟨a, _, rfl⟩ := List.mem_map.mp hd
          exact ⟨⟨_, _, rfl⟩, by simp [encPT, PyData.depth, PyData.depthAll], by simp [encPT, PyData.hasDict, PyData.hasDictAll]⟩
        · obtain ⟨us, rfl, pm⟩ := perm_enc perm
          have nd : ((ts ++ [(s, s)]).map fun p => p.1).Nodup := by
            rw [List.map_append, List.nodup_append]
            refine ⟨asc_nodup tasc, by simp, fun a ha b hb e => ?_⟩
            obtain ⟨p, hp2, rfl⟩ := List.mem_map.mp ha
            rw [List.mem_singleton.mp hb] at e
            exact n2 p hp2 e
          have ul : us.length = ts.length + 1 := by rw [pm.length_eq, List.length_append]; rfl
          have tk2 : TgOk (us.map encPT) := ⟨us, rfl, fun p hp2 => (List.mem_append.mp (pm.mem_iff.mp hp2)).elim (tw p) fun z => by rw [List.mem_singleton.mp z]; exact ⟨hs, hs⟩, by rw [List.length_map] at tlen; omega, asc_pairs pw ((pm.map fun p => p.1).nodup_iff.mpr nd)⟩
          refine ⟨tk2, h1, by omega, by omega, ?_⟩
          rw [e3 us ts fun q hq => ⟨fun z => (List.mem_append.mp (pm.mem_iff.mp z)).elim id fun w => absurd (congrArg Prod.fst (List.mem_singleton.mp w)) (n1 q hq), fun z => pm.mem_iff.mpr (List.mem_append.mpr (.inl z))⟩]
          exact h
      · simp only [isiB,aSeq,aIfS,aRet,aRetN,aSet,aDrop,aNext,aNever,aBreak,aCont,aUnp,aUnl,aPar,aAppend,aExtend,aAppendPop,aPopSet,aVar,aC,aTy,aFn,aOp,aCB,aCons,aNil,aTup,aLst,aB,aNot,aAnd,aOr,aAndV,aOrV,aNotV,aIf,aChain,aSl,aNoPart,aPart,aCall,aCallV,aYes,aNeg,aRevL,aRg1,aLstRg,asArgs,asArg,dataOf,listOf,viewOf,dataAll,onB,onP,onL,onT,onS,onZ2,aPut,parOk,parOk2,retR,rdA,stillR,fI0,fII,fEq,fNe,eqS,fIsiA,tyOf,fLen,fLenS,fInt1,fStrI,fMax2,fListOf,fTupOf,fAll,fAny,fIxT,fIxL,fIxQ,fIxS,fRep,fRepT,aRevA,fEqE,fNeE,fSlT,fSlL,fSlQ,fSlS,fCat,fCatT,fAddS,fIsN,fNotN,fNotB,fIsB,noneB,seqOf,fSorted,bName,bTup,bCons,bNil,onRg1,onRg2,cList,cTup,cStr,cRg1,cRg2,cEnum,cEnumT,cZipL,cZipT,cZipQ,wList,wTup,wStr,wRg1,wRg2,wEnum,wEnumT,wipeA,List.map,List.replicate,List.length_cons,List.length_nil,List.cons_append,List.nil_append,List.append_nil,List.getElem?_cons_zero,List.getElem?_cons_succ,List.set_cons_zero,List.set_cons_succ,List.set,Option.map_some,Option.map_none,Option.getD_some,Option.getD_none,reduceIte,Bool.false_eq_true,Bool.not_true,Bool.not_false,and_true,true_and,false_and,Nat.zero_le,ne_eq,not_false_eq_true,atI_0,atI_1,atI_2,atI_3,aDGet,aDGet1,aDGet2,aDIn,aListD,aStar,aDictOf,aSortSetL,aMaxT,aPar3,wKeys,cKeys,cVals,cItems,onO_some,keysOf_kv,valsOf_kv,itemsOf_kv,starItems_kv,dataAll_ds,dataAll_two,aUnpP,uNil,uCons,upOk,noBl,List.all_cons,List.all_nil,Bool.and_true,aSortItems,aOrL,aOdict,fSortedD,fExtD,fMulS,fLtT,fNeT0,aUpper,aSortSetV,cRg3,onRg3,fEqX,fNeX,fSlX,fMin2,fInSign,fNotInSign,aJoin,aTabPar,gStill,gPush,wListG,aSortD,notB,aSortSetS,aTable,tSq,tStill,dOf,dSeq,dIf,dPut,wListD,aListItems,fInDT,fIxQS,fLenQS,fSortedLS,fLtS,fLeS,fEqT0,fInX,fSortedDT,aCallX,xRaise,aTry,aGiven,aPick,aNone,keepI,nLaw,T_law_all_targets,T_anyK,T_law_any_target,T_law_any_word,T_holdK,T_law_mixed,T_pairsK,T_law_pick,T_law_some_pairs,T_does_hold]
        exact ⟨tk, h1, by omega, h⟩
  · rintro ρ ⟨u2, u3, u4, u5, u6, u8, u9, u10, u11, u12, u13, u14, rfl⟩
    simp only [isiB,aSeq,aIfS,aRet,aRetN,aSet,aDrop,aNext,aNever,aBreak,aCont,aUnp,aUnl,aPar,aAppend,aExtend,aAppendPop,aPopSet,aVar,aC,aTy,aFn,aOp,aCB,aCons,aNil,aTup,aLst,aB,aNot,aAnd,aOr,aAndV,aOrV,aNotV,aIf,aChain,aSl,aNoPart,aPart,aCall,aCallV,aYes,aNeg,aRevL,aRg1,aLstRg,asArgs,asArg,dataOf,listOf,viewOf,dataAll,onB,onP,onL,onT,onS,onZ2,aPut,parOk,parOk2,retR,rdA,stillR,fI0,fII,fEq,fNe,eqS,fIsiA,tyOf,fLen,fLenS,fInt1,fStrI,fMax2,fListOf,fTupOf,fAll,fAny,fIxT,fIxL,fIxQ,fIxS,fRep,fRepT,aRevA,fEqE,fNeE,fSlT,fSlL,fSlQ,fSlS,fCat,fCatT,fAddS,fIsN,fNotN,fNotB,fIsB,noneB,seqOf,fSorted,bName,bTup,bCons,bNil,onRg1,onRg2,cList,cTup,cStr,cRg1,cRg2,cEnum,cEnumT,cZipL,cZipT,cZipQ,wList,wTup,wStr,wRg1,wRg2,wEnum,wEnumT,wipeA,List.map,List.replicate,List.length_cons,List.length_nil,List.cons_append,List.nil_append,List.append_nil,List.getElem?_cons_zero,List.getElem?_cons_succ,List.set_cons_zero,List.set_cons_succ,List.set,Option.map_some,Option.map_none,Option.getD_some,Option.getD_none,reduceIte,Bool.false_eq_true,Bool.not_true,Bool.not_false,and_true,true_and,false_and,Nat.zero_le,ne_eq,not_false_eq_true,atI_0,atI_1,atI_2,atI_3,aDGet,aDGet1,aDGet2,aDIn,aListD,aStar,aDictOf,aSortSetL,aMaxT,aPar3,wKeys,cKeys,cVals,cItems,onO_some,keysOf_kv,valsOf_kv,itemsOf_kv,starItems_kv,dataAll_ds,dataAll_two,aUnpP,uNil,uCons,upOk,noBl,List.all_cons,List.all_nil,Bool.and_true,aSortItems,aOrL,aOdict,fSortedD,fExtD,fMulS,fLtT,fNeT0,aUpper,aSortSetV,cRg3,onRg3,fEqX,fNeX,fSlX,fMin2,fInSign,fNotInSign,aJoin,aTabPar,gStill,gPush,wListG,aSortD,notB,aSortSetS,aTable,tSq,tStill,dOf,dSeq,dIf,dPut,wListD,aListItems,fInDT,fIxQS,fLenQS,fSortedLS,fLtS,fLeS,fEqT0,fInX,fSortedDT,aCallX,xRaise,aTry,aGiven,aPick,aNone,keepI,nLaw,T_law_all_targets,T_anyK,T_law_any_target,T_law_any_word,T_holdK,T_law_mixed,T_pairsK,T_law_pick,T_law_some_pairs,T_does_hold]
end


end Zj
namespace Zj
open PySem L2
theorem all_mk {l : PySem.W.OpenLaw} {w : World} {K : PySem.W.Frag} {h : Heap} {mg : Str → Option Value} {fa : Addr} (X : K.In h) (G : h.Ns mainGlobals mg) (hfa : mg "law" = some (.ref fa))
    {fLPairsIn : Addr} {odLPairsIn anLPairsIn : Option Addr} {slLPairsIn : Array (Option Value)} {ocLPairsIn kVLPairsIn dcLPairsIn pmLPairsIn cdLPairsIn ctLPairsIn : Value}
    (aLPairsIn : PySem.W.nsIn K mainGlobals "_law_pairs_in" = some (some (.ref fLPairsIn))) (lLPairsIn : K.lookup fLPairsIn = some ⟨ocLPairsIn, odLPairsIn, .func (PySem.W.fnOf "_law_pairs_in" "_law_pairs_in" (defArgs sLPairsIn) (defBody sLPairsIn) (defScope sLPairsIn) .none kVLPairsIn dcLPairsIn pmLPairsIn anLPairsIn cdLPairsIn ctLPairsIn), slLPairsIn⟩) (cLPairsIn : PySem.W.codeIn K cdLPairsIn "_law_pairs_in" = true) (kLPairsIn : PySem.W.keepIn K (.ref fLPairsIn) = true)
    {fLAllTargets : Addr} {odLAllTargets anLAllTargets : Option Addr} {slLAllTargets : Array (Option Value)} {ocLAllTargets kVLAllTargets dcLAllTargets pmLAllTargets cdLAllTargets ctLAllTargets : Value}
    (aLAllTargets : PySem.W.nsIn K mainGlobals "_law_all_targets" = some (some (.ref fLAllTargets))) (lLAllTargets : K.lookup fLAllTargets = some ⟨ocLAllTargets, odLAllTargets, .func (PySem.W.fnOf "_law_all_targets" "_law_all_targets" (defArgs sLAllTargets) (defBody sLAllTargets) (defScope sLAllTargets) .none kVLAllTargets dcLAllTargets pmLAllTargets anLAllTargets cdLAllTargets ctLAllTargets), slLAllTargets⟩) (cLAllTargets : PySem.W.codeIn K cdLAllTargets "_law_all_targets" = true) (kLAllTargets : PySem.W.keepIn K (.ref fLAllTargets) = true)
    {fLDraw : Addr} {odLDraw anLDraw : Option Addr} {slLDraw : Array (Option Value)} {ocLDraw kVLDraw dcLDraw pmLDraw cdLDraw ctLDraw : Value}
    (aLDraw : PySem.W.nsIn K mainGlobals "_law_draw" = some (some (.ref fLDraw))) (lLDraw : K.lookup fLDraw = some ⟨ocLDraw, odLDraw, .func (PySem.W.fnOf "_law_draw" "_law_draw" (defArgs sLDraw) (defBody sLDraw) (defScope sLDraw) .none kVLDraw dcLDraw pmLDraw anLDraw cdLDraw ctLDraw), slLDraw⟩) (cLDraw : PySem.W.codeIn K cdLDraw "_law_draw" = true) (kLDraw : PySem.W.keepIn K (.ref fLDraw) = true)
    {fLPick : Addr} {odLPick anLPick : Option Addr} {slLPick : Array (Option Value)} {ocLPick kVLPick dcLPick pmLPick cdLPick ctLPick : Value}
    (aLPick : PySem.W.nsIn K mainGlobals "_law_pick" = some (some (.ref fLPick))) (lLPick : K.lookup fLPick = some ⟨ocLPick, odLPick, .func (PySem.W.fnOf "_law_pick" "_law_pick" (defArgs sLPick) (defBody sLPick) (defScope sLPick) .none kVLPick dcLPick pmLPick anLPick cdLPick ctLPick), slLPick⟩) (cLPick : PySem.W.codeIn K cdLPick "_law_pick" = true) (kLPick : PySem.W.keepIn K (.ref fLPick) = true)
    {fLAnyCondition : Addr} {odLAnyCondition anLAnyCondition : Option Addr} {slLAnyCondition : Array (Option Value)} {ocLAnyCondition kVLAnyCondition dcLAnyCondition pmLAnyCondition cdLAnyCondition ctLAnyCondition : Value} {TLAnyCondition : Addr} {tkLAnyCondition : Tok} {odTLAnyCondition : Option Addr} {ocTLAnyCondition : Value} {epTLAnyCondition : Nat} {slTLAnyCondition : Array (Option Value)}
    (aLAnyCondition : PySem.W.nsIn K mainGlobals "_law_any_condition" = some (some (.ref fLAnyCondition))) (lLAnyCondition : K.lookup fLAnyCondition = some ⟨ocLAnyCondition, odLAnyCondition, .func (PySem.W.fnOf "_law_any_condition" "_law_any_condition" (defArgs sLAnyCondition) (defBody sLAnyCondition) (defScope sLAnyCondition) (.ref TLAnyCondition) kVLAnyCondition dcLAnyCondition pmLAnyCondition anLAnyCondition cdLAnyCondition ctLAnyCondition), slLAnyCondition⟩) (cLAnyCondition : PySem.W.codeIn K cdLAnyCondition "_law_any_condition" = true) (kLAnyCondition : PySem.W.keepIn K (.ref fLAnyCondition) = true) (tLAnyCondition : K.lookup TLAnyCondition = some ⟨ocTLAnyCondition, odTLAnyCondition, .seq #[.int 4 tkLAnyCondition] epTLAnyCondition, slTLAnyCondition⟩)
    {fLAnyWord : Addr} {odLAnyWord anLAnyWord : Option Addr} {slLAnyWord : Array (Option Value)} {ocLAnyWord kVLAnyWord dcLAnyWord pmLAnyWord cdLAnyWord ctLAnyWord : Value}
    (aLAnyWord : PySem.W.nsIn K mainGlobals "_law_any_word" = some (some (.ref fLAnyWord))) (lLAnyWord : K.lookup fLAnyWord = some ⟨ocLAnyWord, odLAnyWord, .func (PySem.W.fnOf "_law_any_word" "_law_any_word" (defArgs sLAnyWord) (defBody sLAnyWord) (defScope sLAnyWord) .none kVLAnyWord dcLAnyWord pmLAnyWord anLAnyWord cdLAnyWord ctLAnyWord), slLAnyWord⟩) (cLAnyWord : PySem.W.codeIn K cdLAnyWord "_law_any_word" = true) (kLAnyWord : PySem.W.keepIn K (.ref fLAnyWord) = true)
    {fLMixed : Addr} {odLMixed anLMixed : Option Addr} {slLMixed : Array (Option Value)} {ocLMixed kVLMixed dcLMixed pmLMixed cdLMixed ctLMixed : Value}
    (aLMixed : PySem.W.nsIn K mainGlobals "_law_mixed" = some (some (.ref fLMixed))) (lLMixed : K.lookup fLMixed = some ⟨ocLMixed, odLMixed, .func (PySem.W.fnOf "_law_mixed" "_law_mixed" (defArgs sLMixed) (defBody sLMixed) (defScope sLMixed) .none kVLMixed dcLMixed pmLMixed anLMixed cdLMixed ctLMixed), slLMixed⟩) (cLMixed : PySem.W.codeIn K cdLMixed "_law_mixed" = true) (kLMixed : PySem.W.keepIn K (.ref fLMixed) = true)
    {fLAnyTarget : Addr} {odLAnyTarget anLAnyTarget : Option Addr} {slLAnyTarget : Array (Option Value)} {ocLAnyTarget kVLAnyTarget dcLAnyTarget pmLAnyTarget cdLAnyTarget ctLAnyTarget : Value}
    (aLAnyTarget : PySem.W.nsIn K mainGlobals "_law_any_target" = some (some (.ref fLAnyTarget))) (lLAnyTarget : K.lookup fLAnyTarget = some ⟨ocLAnyTarget, odLAnyTarget, .func (PySem.W.fnOf "_law_any_target" "_law_any_target" (defArgs sLAnyTarget) (defBody sLAnyTarget) (defScope sLAnyTarget) .none kVLAnyTarget dcLAnyTarget pmLAnyTarget anLAnyTarget cdLAnyTarget ctLAnyTarget), slLAnyTarget⟩) (cLAnyTarget : PySem.W.codeIn K cdLAnyTarget "_law_any_target" = true) (kLAnyTarget : PySem.W.keepIn K (.ref fLAnyTarget) = true)
    {fLDealt : Addr} {odLDealt anLDealt : Option Addr} {slLDealt : Array (Option Value)} {ocLDealt kVLDealt dcLDealt pmLDealt cdLDealt ctLDealt : Value}
    (aLDealt : PySem.W.nsIn K mainGlobals "_law_dealt" = some (some (.ref fLDealt))) (lLDealt : K.lookup fLDealt = some ⟨ocLDealt, odLDealt, .func (PySem.W.fnOf "_law_dealt" "_law_dealt" (defArgs sLDealt) (defBody sLDealt) (defScope sLDealt) .none kVLDealt dcLDealt pmLDealt anLDealt cdLDealt ctLDealt), slLDealt⟩) (cLDealt : PySem.W.codeIn K cdLDealt "_law_dealt" = true) (kLDealt : PySem.W.keepIn K (.ref fLDealt) = true)
    {fLHolds : Addr} {odLHolds anLHolds : Option Addr} {slLHolds : Array (Option Value)} {ocLHolds kVLHolds dcLHolds pmLHolds cdLHolds ctLHolds : Value}
    (aLHolds : PySem.W.nsIn K mainGlobals "_law_holds" = some (some (.ref fLHolds))) (lLHolds : K.lookup fLHolds = some ⟨ocLHolds, odLHolds, .func (PySem.W.fnOf "_law_holds" "_law_holds" (defArgs sLHolds) (defBody sLHolds) (defScope sLHolds) .none kVLHolds dcLHolds pmLHolds anLHolds cdLHolds ctLHolds), slLHolds⟩) (cLHolds : PySem.W.codeIn K cdLHolds "_law_holds" = true) (kLHolds : PySem.W.keepIn K (.ref fLHolds) = true)
    {fLSomeWords : Addr} {odLSomeWords anLSomeWords : Option Addr} {slLSomeWords : Array (Option Value)} {ocLSomeWords kVLSomeWords dcLSomeWords pmLSomeWords cdLSomeWords ctLSomeWords : Value}
    (aLSomeWords : PySem.W.nsIn K mainGlobals "_law_some_words" = some (some (.ref fLSomeWords))) (lLSomeWords : K.lookup fLSomeWords = some ⟨ocLSomeWords, odLSomeWords, .func (PySem.W.fnOf "_law_some_words" "_law_some_words" (defArgs sLSomeWords) (defBody sLSomeWords) (defScope sLSomeWords) .none kVLSomeWords dcLSomeWords pmLSomeWords anLSomeWords cdLSomeWords ctLSomeWords), slLSomeWords⟩) (cLSomeWords : PySem.W.codeIn K cdLSomeWords "_law_some_words" = true) (kLSomeWords : PySem.W.keepIn K (.ref fLSomeWords) = true)
    {fLSomePairs : Addr} {odLSomePairs anLSomePairs : Option Addr} {slLSomePairs : Array (Option Value)} {ocLSomePairs kVLSomePairs dcLSomePairs pmLSomePairs cdLSomePairs ctLSomePairs : Value}
    (aLSomePairs : PySem.W.nsIn K mainGlobals "_law_some_pairs" = some (some (.ref fLSomePairs))) (lLSomePairs : K.lookup fLSomePairs = some ⟨ocLSomePairs, odLSomePairs, .func (PySem.W.fnOf "_law_some_pairs" "_law_some_pairs" (defArgs sLSomePairs) (defBody sLSomePairs) (defScope sLSomePairs) .none kVLSomePairs dcLSomePairs pmLSomePairs anLSomePairs cdLSomePairs ctLSomePairs), slLSomePairs⟩) (cLSomePairs : PySem.W.codeIn K cdLSomePairs "_law_some_pairs" = true) (kLSomePairs : PySem.W.keepIn K (.ref fLSomePairs) = true)
    {fIsWord : Addr} {odIsWord anIsWord : Option Addr} {slIsWord : Array (Option Value)} {ocIsWord kVIsWord dcIsWord pmIsWord cdIsWord ctIsWord : Value}
    (aIsWord : PySem.W.nsIn K mainGlobals "is_word" = some (some (.ref fIsWord))) (lIsWord : K.lookup fIsWord = some ⟨ocIsWord, odIsWord, .func (PySem.W.fnOf "is_word" "is_word" (defArgs sIsWord) (defBody sIsWord) (defScope sIsWord) .none kVIsWord dcIsWord pmIsWord anIsWord cdIsWord ctIsWord), slIsWord⟩) (cIsWord : PySem.W.codeIn K cdIsWord "is_word" = true) (kIsWord : PySem.W.keepIn K (.ref fIsWord) = true)
    {fIsTupleOf : Addr} {odIsTupleOf anIsTupleOf : Option Addr} {slIsTupleOf : Array (Option Value)} {ocIsTupleOf kVIsTupleOf dcIsTupleOf pmIsTupleOf cdIsTupleOf ctIsTupleOf : Value}
    (aIsTupleOf : PySem.W.nsIn K mainGlobals "is_tuple_of" = some (some (.ref fIsTupleOf))) (lIsTupleOf : K.lookup fIsTupleOf = some ⟨ocIsTupleOf, odIsTupleOf, .func (PySem.W.fnOf "is_tuple_of" "is_tuple_of" (defArgs sIsTupleOf) (defBody sIsTupleOf) (defScope sIsTupleOf) .none kVIsTupleOf dcIsTupleOf pmIsTupleOf anIsTupleOf cdIsTupleOf ctIsTupleOf), slIsTupleOf⟩) (cIsTupleOf : PySem.W.codeIn K cdIsTupleOf "is_tuple_of" = true) (kIsTupleOf : PySem.W.keepIn K (.ref fIsTupleOf) = true)
    {fIsCondition : Addr} {odIsCondition anIsCondition : Option Addr} {slIsCondition : Array (Option Value)} {ocIsCondition kVIsCondition dcIsCondition pmIsCondition cdIsCondition ctIsCondition : Value}
    (aIsCondition : PySem.W.nsIn K mainGlobals "is_condition" = some (some (.ref fIsCondition))) (lIsCondition : K.lookup fIsCondition = some ⟨ocIsCondition, odIsCondition, .func (PySem.W.fnOf "is_condition" "is_condition" (defArgs sIsCondition) (defBody sIsCondition) (defScope sIsCondition) .none kVIsCondition dcIsCondition pmIsCondition anIsCondition cdIsCondition ctIsCondition), slIsCondition⟩) (cIsCondition : PySem.W.codeIn K cdIsCondition "is_condition" = true) (kIsCondition : PySem.W.keepIn K (.ref fIsCondition) = true)
    {fCheckCondition : Addr} {odCheckCondition anCheckCondition : Option Addr} {slCheckCondition : Array (Option Value)} {ocCheckCondition kVCheckCondition dcCheckCondition pmCheckCondition cdCheckCondition ctCheckCondition : Value}
    (aCheckCondition : PySem.W.nsIn K mainGlobals "check_condition" = some (some (.ref fCheckCondition))) (lCheckCondition : K.lookup fCheckCondition = some ⟨ocCheckCondition, odCheckCondition, .func (PySem.W.fnOf "check_condition" "check_condition" (defArgs sCheckCondition) (defBody sCheckCondition) (defScope sCheckCondition) .none kVCheckCondition dcCheckCondition pmCheckCondition anCheckCondition cdCheckCondition ctCheckCondition), slCheckCondition⟩) (cCheckCondition : PySem.W.codeIn K cdCheckCondition "check_condition" = true) (kCheckCondition : PySem.W.keepIn K (.ref fCheckCondition) = true)
    {fIsAscending : Addr} {odIsAscending anIsAscending : Option Addr} {slIsAscending : Array (Option Value)} {ocIsAscending kVIsAscending dcIsAscending pmIsAscending cdIsAscending ctIsAscending : Value}
    (aIsAscending : PySem.W.nsIn K mainGlobals "is_ascending" = some (some (.ref fIsAscending))) (lIsAscending : K.lookup fIsAscending = some ⟨ocIsAscending, odIsAscending, .func (PySem.W.fnOf "is_ascending" "is_ascending" (defArgs sIsAscending) (defBody sIsAscending) (defScope sIsAscending) .none kVIsAscending dcIsAscending pmIsAscending anIsAscending cdIsAscending ctIsAscending), slIsAscending⟩) (cIsAscending : PySem.W.codeIn K cdIsAscending "is_ascending" = true) (kIsAscending : PySem.W.keepIn K (.ref fIsAscending) = true)
    {fIsTuple : Addr} {odIsTuple anIsTuple : Option Addr} {slIsTuple : Array (Option Value)} {ocIsTuple kVIsTuple dcIsTuple pmIsTuple cdIsTuple ctIsTuple : Value}
    (aIsTuple : PySem.W.nsIn K mainGlobals "is_tuple" = some (some (.ref fIsTuple))) (lIsTuple : K.lookup fIsTuple = some ⟨ocIsTuple, odIsTuple, .func (PySem.W.fnOf "is_tuple" "is_tuple" (defArgs sIsTuple) (defBody sIsTuple) (defScope sIsTuple) .none kVIsTuple dcIsTuple pmIsTuple anIsTuple cdIsTuple ctIsTuple), slIsTuple⟩) (cIsTuple : PySem.W.codeIn K cdIsTuple "is_tuple" = true) (kIsTuple : PySem.W.keepIn K (.ref fIsTuple) = true)
    {fIsTable : Addr} {odIsTable anIsTable : Option Addr} {slIsTable : Array (Option Value)} {ocIsTable kVIsTable dcIsTable pmIsTable cdIsTable ctIsTable : Value}
    (aIsTable : PySem.W.nsIn K mainGlobals "is_table" = some (some (.ref fIsTable))) (lIsTable : K.lookup fIsTable = some ⟨ocIsTable, odIsTable, .func (PySem.W.fnOf "is_table" "is_table" (defArgs sIsTable) (defBody sIsTable) (defScope sIsTable) .none kVIsTable dcIsTable pmIsTable anIsTable cdIsTable ctIsTable), slIsTable⟩) (cIsTable : PySem.W.codeIn K cdIsTable "is_table" = true) (kIsTable : PySem.W.keepIn K (.ref fIsTable) = true)
    {fIsTarget : Addr} {odIsTarget anIsTarget : Option Addr} {slIsTarget : Array (Option Value)} {ocIsTarget kVIsTarget dcIsTarget pmIsTarget cdIsTarget ctIsTarget : Value}
    (aIsTarget : PySem.W.nsIn K mainGlobals "is_target" = some (some (.ref fIsTarget))) (lIsTarget : K.lookup fIsTarget = some ⟨ocIsTarget, odIsTarget, .func (PySem.W.fnOf "is_target" "is_target" (defArgs sIsTarget) (defBody sIsTarget) (defScope sIsTarget) .none kVIsTarget dcIsTarget pmIsTarget anIsTarget cdIsTarget ctIsTarget), slIsTarget⟩) (cIsTarget : PySem.W.codeIn K cdIsTarget "is_target" = true) (kIsTarget : PySem.W.keepIn K (.ref fIsTarget) = true)
    {fCheckTarget : Addr} {odCheckTarget anCheckTarget : Option Addr} {slCheckTarget : Array (Option Value)} {ocCheckTarget kVCheckTarget dcCheckTarget pmCheckTarget cdCheckTarget ctCheckTarget : Value}
    (aCheckTarget : PySem.W.nsIn K mainGlobals "check_target" = some (some (.ref fCheckTarget))) (lCheckTarget : K.lookup fCheckTarget = some ⟨ocCheckTarget, odCheckTarget, .func (PySem.W.fnOf "check_target" "check_target" (defArgs sCheckTarget) (defBody sCheckTarget) (defScope sCheckTarget) .none kVCheckTarget dcCheckTarget pmCheckTarget anCheckTarget cdCheckTarget ctCheckTarget), slCheckTarget⟩) (cCheckTarget : PySem.W.codeIn K cdCheckTarget "check_target" = true) (kCheckTarget : PySem.W.keepIn K (.ref fCheckTarget) = true)
    {fHoldsAt : Addr} {odHoldsAt anHoldsAt : Option Addr} {slHoldsAt : Array (Option Value)} {ocHoldsAt kVHoldsAt dcHoldsAt pmHoldsAt cdHoldsAt ctHoldsAt : Value}
    (aHoldsAt : PySem.W.nsIn K mainGlobals "holds_at" = some (some (.ref fHoldsAt))) (lHoldsAt : K.lookup fHoldsAt = some ⟨ocHoldsAt, odHoldsAt, .func (PySem.W.fnOf "holds_at" "holds_at" (defArgs sHoldsAt) (defBody sHoldsAt) (defScope sHoldsAt) .none kVHoldsAt dcHoldsAt pmHoldsAt anHoldsAt cdHoldsAt ctHoldsAt), slHoldsAt⟩) (cHoldsAt : PySem.W.codeIn K cdHoldsAt "holds_at" = true) (kHoldsAt : PySem.W.keepIn K (.ref fHoldsAt) = true)
    {fDoesHold : Addr} {odDoesHold anDoesHold : Option Addr} {slDoesHold : Array (Option Value)} {ocDoesHold kVDoesHold dcDoesHold pmDoesHold cdDoesHold ctDoesHold : Value}
    (aDoesHold : PySem.W.nsIn K mainGlobals "does_hold" = some (some (.ref fDoesHold))) (lDoesHold : K.lookup fDoesHold = some ⟨ocDoesHold, odDoesHold, .func (PySem.W.fnOf "does_hold" "does_hold" (defArgs sDoesHold) (defBody sDoesHold) (defScope sDoesHold) .none kVDoesHold dcDoesHold pmDoesHold anDoesHold cdDoesHold ctDoesHold), slDoesHold⟩) (cDoesHold : PySem.W.codeIn K cdDoesHold "does_hold" = true) (kDoesHold : PySem.W.keepIn K (.ref fDoesHold) = true)
    {fLaw : Addr} {odLaw anLaw : Option Addr} {slLaw : Array (Option Value)} {ocLaw kVLaw dcLaw pmLaw cdLaw ctLaw : Value}
    (aLaw : PySem.W.nsIn K mainGlobals "law" = some (some (.ref fLaw))) (lLaw : K.lookup fLaw = some ⟨ocLaw, odLaw, .func (PySem.W.fnOf "law" "law" (defArgs sLaw) (defBody sLaw) (defScope sLaw) .none kVLaw dcLaw pmLaw anLaw cdLaw ctLaw), slLaw⟩) (cLaw : PySem.W.codeIn K cdLaw "law" = true) (kLaw : PySem.W.keepIn K (.ref fLaw) = true)
    (zisinstance : PySem.W.nsIn K mainGlobals "isinstance" = some none)
    (ztuple : PySem.W.nsIn K mainGlobals "tuple" = some none)
    (zbool : PySem.W.nsIn K mainGlobals "bool" = some none)
    (zall : PySem.W.nsIn K mainGlobals "all" = some none)
    (zany : PySem.W.nsIn K mainGlobals "any" = some none)
    (zlist : PySem.W.nsIn K mainGlobals "list" = some none)
    (zrepr : PySem.W.nsIn K mainGlobals "repr" = some none)
    (zenumerate : PySem.W.nsIn K mainGlobals "enumerate" = some none)
    (zint : PySem.W.nsIn K mainGlobals "int" = some none)
    (zmax : PySem.W.nsIn K mainGlobals "max" = some none)
    (zlen : PySem.W.nsIn K mainGlobals "len" = some none)
    (zrange : PySem.W.nsIn K mainGlobals "range" = some none)
    (zsorted : PySem.W.nsIn K mainGlobals "sorted" = some none)
    (zzip : PySem.W.nsIn K mainGlobals "zip" = some none)
    (zset : PySem.W.nsIn K mainGlobals "set" = some none)
    (zstr : PySem.W.nsIn K mainGlobals "str" = some none)
    (zdict : PySem.W.nsIn K mainGlobals "dict" = some none)
    (zmin : PySem.W.nsIn K mainGlobals "min" = some none) :
    ∃ fd : FuncData, (∀ (s : Shared) (v : Value), BindsTo s fd ⟨[v], []⟩ [("_law_script", v)]) ∧ ∀ base : Heap, K.In base → base.Ns mainGlobals mg → FnG l.prog w K mg base 65 fa fd ["_law_script"] (spLaw K) := by
  have e := hfa.symm.trans (PySem.W.mg_of X G aLaw)
  cases e
  have Z : Blt K mg := { isinstance := PySem.W.mg_none_of X G zisinstance, tuple := PySem.W.mg_none_of X G ztuple, bool := PySem.W.mg_none_of X G zbool, all := PySem.W.mg_none_of X G zall, any := PySem.W.mg_none_of X G zany, list := PySem.W.mg_none_of X G zlist, repr := PySem.W.mg_none_of X G zrepr, enumerate := PySem.W.mg_none_of X G zenumerate, int := PySem.W.mg_none_of X G zint, max := PySem.W.mg_none_of X G zmax, len := PySem.W.mg_none_of X G zlen, range := PySem.W.mg_none_of X G zrange, sorted := PySem.W.mg_none_of X G zsorted, zip := PySem.W.mg_none_of X G zzip, set := PySem.W.mg_none_of X G zset, str := PySem.W.mg_none_of X G zstr, dict := PySem.W.mg_none_of X G zdict, min := PySem.W.mg_none_of X G zmin }
  have FLPairsIn := fun_mk (st := sLPairsIn) lLPairsIn cLPairsIn kLPairsIn
  have DLPairsIn : DefAt K mg "_law_pairs_in" sLPairsIn pLPairsIn fLPairsIn _ := ⟨FLPairsIn, PySem.W.mg_of X G aLPairsIn, FLPairsIn.binds (ps := pLPairsIn) fun _ _ _ _ _ _ us hl => match us, hl with | [_], _ => rfl⟩
  have FLAllTargets := fun_mk (st := sLAllTargets) lLAllTargets cLAllTargets kLAllTargets
  have DLAllTargets : DefAt K mg "_law_all_targets" sLAllTargets pLAllTargets fLAllTargets _ := ⟨FLAllTargets, PySem.W.mg_of X G aLAllTargets, FLAllTargets.binds (ps := pLAllTargets) fun _ _ _ _ _ _ us hl => match us, hl with | [_], _ => rfl⟩
  have FLDraw := fun_mk (st := sLDraw) lLDraw cLDraw kLDraw
  have DLDraw : DefAt K mg "_law_draw" sLDraw pLDraw fLDraw _ := ⟨FLDraw, PySem.W.mg_of X G aLDraw, FLDraw.binds (ps := pLDraw) fun _ _ _ _ _ _ us hl => match us, hl with | [_, _], _ => rfl⟩
  have FLPick := fun_mk (st := sLPick) lLPick cLPick kLPick
  have DLPick : DefAt K mg "_law_pick" sLPick pLPick fLPick _ := ⟨FLPick, PySem.W.mg_of X G aLPick, FLPick.binds (ps := pLPick) fun _ _ _ _ _ _ us hl => match us, hl with | [_, _], _ => rfl⟩
  have FLAnyCondition : FunE [V.int 4] K "_law_any_condition" sLAnyCondition fLAnyCondition _ := ⟨⟨⟨_, _, _, _, _, _, _, _, _, _, rfl, lLAnyCondition, cLAnyCondition, .inr ⟨List.cons_ne_nil _ _, TLAnyCondition, _, [.int 4 tkLAnyCondition], _, rfl, tLAnyCondition, rfl, .cons ⟨_, rfl⟩ .nil⟩, .inl rfl⟩, kLAnyCondition⟩, kLAnyCondition⟩
  obtain ⟨wLAnyCondition, vLAnyCondition, BLAnyCondition⟩ := FLAnyCondition.D.binds1 (ps := pLAnyCondition) 4 1 (List.cons_ne_nil _ _) rfl fun _ _ _ _ _ _ _ us its hu hi => match us, its, hu, hi with | [_, _, _, _], [_], _, _ => ⟨_, rfl, rfl⟩
  have qLAnyCondition : wLAnyCondition = [] := by cases (show Vals ([] : List V) wLAnyCondition from vLAnyCondition); rfl
  subst qLAnyCondition
  have ELAnyCondition := FLAnyCondition.D.binds1 (ps := pLAnyCondition) 3 0 (List.cons_ne_nil _ _) rfl fun _ _ _ _ _ _ _ us its hu hi => match us, its, hu, hi with | [_, _, _], [_], _, _ => ⟨_, rfl, rfl⟩
  have DLAnyCondition : DefD [V.int 4] K mg "_law_any_condition" sLAnyCondition pLAnyCondition fLAnyCondition _ := ⟨FLAnyCondition, PySem.W.mg_of X G aLAnyCondition, BLAnyCondition, ELAnyCondition⟩
  have FLAnyWord := fun_mk (st := sLAnyWord) lLAnyWord cLAnyWord kLAnyWord
  have DLAnyWord : DefAt K mg "_law_any_word" sLAnyWord pLAnyWord fLAnyWord _ := ⟨FLAnyWord, PySem.W.mg_of X G aLAnyWord, FLAnyWord.binds (ps := pLAnyWord) fun _ _ _ _ _ _ us hl => match us, hl with | [_], _ => rfl⟩
  have FLMixed := fun_mk (st := sLMixed) lLMixed cLMixed kLMixed
  have DLMixed : DefAt K mg "_law_mixed" sLMixed pLMixed fLMixed _ := ⟨FLMixed, PySem.W.mg_of X G aLMixed, FLMixed.binds (ps := pLMixed) fun _ _ _ _ _ _ us hl => match us, hl with | [_, _], _ => rfl⟩
  have FLAnyTarget := fun_mk (st := sLAnyTarget) lLAnyTarget cLAnyTarget kLAnyTarget
  have DLAnyTarget : DefAt K mg "_law_any_target" sLAnyTarget pLAnyTarget fLAnyTarget _ := ⟨FLAnyTarget, PySem.W.mg_of X G aLAnyTarget, FLAnyTarget.binds (ps := pLAnyTarget) fun _ _ _ _ _ _ us hl => match us, hl with | [_, _], _ => rfl⟩
  have FLDealt := fun_mk (st := sLDealt) lLDealt cLDealt kLDealt
  have DLDealt : DefAt K mg "_law_dealt" sLDealt pLDealt fLDealt _ := ⟨FLDealt, PySem.W.mg_of X G aLDealt, FLDealt.binds (ps := pLDealt) fun _ _ _ _ _ _ us hl => match us, hl with | [_], _ => rfl⟩
  have FLHolds := fun_mk (st := sLHolds) lLHolds cLHolds kLHolds
  have DLHolds : DefAt K mg "_law_holds" sLHolds pLHolds fLHolds _ := ⟨FLHolds, PySem.W.mg_of X G aLHolds, FLHolds.binds (ps := pLHolds) fun _ _ _ _ _ _ us hl => match us, hl with | [_, _], _ => rfl⟩
  have FLSomeWords := fun_mk (st := sLSomeWords) lLSomeWords cLSomeWords kLSomeWords
  have DLSomeWords : DefAt K mg "_law_some_words" sLSomeWords pLSomeWords fLSomeWords _ := ⟨FLSomeWords, PySem.W.mg_of X G aLSomeWords, FLSomeWords.binds (ps := pLSomeWords) fun _ _ _ _ _ _ us hl => match us, hl with | [_, _], _ => rfl⟩
  have FLSomePairs := fun_mk (st := sLSomePairs) lLSomePairs cLSomePairs kLSomePairs
  have DLSomePairs : DefAt K mg "_law_some_pairs" sLSomePairs pLSomePairs fLSomePairs _ := ⟨FLSomePairs, PySem.W.mg_of X G aLSomePairs, FLSomePairs.binds (ps := pLSomePairs) fun _ _ _ _ _ _ us hl => match us, hl with | [_], _ => rfl⟩
  have FIsWord := fun_mk (st := sIsWord) lIsWord cIsWord kIsWord
  have DIsWord : DefAt K mg "is_word" sIsWord pIsWord fIsWord _ := ⟨FIsWord, PySem.W.mg_of X G aIsWord, FIsWord.binds (ps := pIsWord) fun _ _ _ _ _ _ us hl => match us, hl with | [_], _ => rfl⟩
  have FIsTupleOf := fun_mk (st := sIsTupleOf) lIsTupleOf cIsTupleOf kIsTupleOf
  have DIsTupleOf : DefAt K mg "is_tuple_of" sIsTupleOf pIsTupleOf fIsTupleOf _ := ⟨FIsTupleOf, PySem.W.mg_of X G aIsTupleOf, FIsTupleOf.binds (ps := pIsTupleOf) fun _ _ _ _ _ _ us hl => match us, hl with | [_, _], _ => rfl⟩
  have FIsCondition := fun_mk (st := sIsCondition) lIsCondition cIsCondition kIsCondition
  have DIsCondition : DefAt K mg "is_condition" sIsCondition pIsCondition fIsCondition _ := ⟨FIsCondition, PySem.W.mg_of X G aIsCondition, FIsCondition.binds (ps := pIsCondition) fun _ _ _ _ _ _ us hl => match us, hl with | [_], _ => rfl⟩
  have FCheckCondition := fun_mk (st := sCheckCondition) lCheckCondition cCheckCondition kCheckCondition
  have DCheckCondition : DefAt K mg "check_condition" sCheckCondition pCheckCondition fCheckCondition _ := ⟨FCheckCondition, PySem.W.mg_of X G aCheckCondition, FCheckCondition.binds (ps := pCheckCondition) fun _ _ _ _ _ _ us hl => match us, hl with | [_], _ => rfl⟩
  have FIsAscending := fun_mk (st := sIsAscending) lIsAscending cIsAscending kIsAscending
  have DIsAscending : DefAt K mg "is_ascending" sIsAscending pIsAscending fIsAscending _ := ⟨FIsAscending, PySem.W.mg_of X G aIsAscending, FIsAscending.binds (ps := pIsAscending) fun _ _ _ _ _ _ us hl => match us, hl with | [_], _ => rfl⟩
  have FIsTuple := fun_mk (st := sIsTuple) lIsTuple cIsTuple kIsTuple
  have DIsTuple : DefAt K mg "is_tuple" sIsTuple pIsTuple fIsTuple _ := ⟨FIsTuple, PySem.W.mg_of X G aIsTuple, FIsTuple.binds (ps := pIsTuple) fun _ _ _ _ _ _ us hl => match us, hl with | [_, _], _ => rfl⟩
  have FIsTable := fun_mk (st := sIsTable) lIsTable cIsTable kIsTable
  have DIsTable : DefAt K mg "is_table" sIsTable pIsTable fIsTable _ := ⟨FIsTable, PySem.W.mg_of X G aIsTable, FIsTable.binds (ps := pIsTable) fun _ _ _ _ _ _ us hl => match us, hl with | [_, _], _ => rfl⟩
  have FIsTarget := fun_mk (st := sIsTarget) lIsTarget cIsTarget kIsTarget
  have DIsTarget : DefAt K mg "is_target" sIsTarget pIsTarget fIsTarget _ := ⟨FIsTarget, PySem.W.mg_of X G aIsTarget, FIsTarget.binds (ps := pIsTarget) fun _ _ _ _ _ _ us hl => match us, hl with | [_], _ => rfl⟩
  have FCheckTarget := fun_mk (st := sCheckTarget) lCheckTarget cCheckTarget kCheckTarget
  have DCheckTarget : DefAt K mg "check_target" sCheckTarget pCheckTarget fCheckTarget _ := ⟨FCheckTarget, PySem.W.mg_of X G aCheckTarget, FCheckTarget.binds (ps := pCheckTarget) fun _ _ _ _ _ _ us hl => match us, hl with | [_], _ => rfl⟩
  have FHoldsAt := fun_mk (st := sHoldsAt) lHoldsAt cHoldsAt kHoldsAt
  have DHoldsAt : DefAt K mg "holds_at" sHoldsAt pHoldsAt fHoldsAt _ := ⟨FHoldsAt, PySem.W.mg_of X G aHoldsAt, FHoldsAt.binds (ps := pHoldsAt) fun _ _ _ _ _ _ us hl => match us, hl with | [_, _], _ => rfl⟩
  have FDoesHold := fun_mk (st := sDoesHold) lDoesHold cDoesHold kDoesHold
  have DDoesHold : DefAt K mg "does_hold" sDoesHold pDoesHold fDoesHold _ := ⟨FDoesHold, PySem.W.mg_of X G aDoesHold, FDoesHold.binds (ps := pDoesHold) fun _ _ _ _ _ _ us hl => match us, hl with | [_, _], _ => rfl⟩
  have FLaw := fun_mk (st := sLaw) lLaw cLaw kLaw
  have DLaw : DefAt K mg "law" sLaw pLaw fa _ := ⟨FLaw, PySem.W.mg_of X G aLaw, FLaw.binds (ps := pLaw) fun _ _ _ _ _ _ us hl => match us, hl with | [_], _ => rfl⟩
  have kbDoesHold : KBinds K _ pDoesHold ["target", "condition"] (kwP [1, 0]) (kwP [1, 0]) := kbP2 rfl FDoesHold fun _ _ _ _ _ _ _ _ => rfl
  refine ⟨PySem.W.fnOf "law" "law" (defArgs sLaw) (defBody sLaw) (defScope sLaw) .none kVLaw dcLaw pmLaw anLaw cdLaw ctLaw, fun s v => .of_eq rfl, fun base _ _ => ?_⟩
  have GLPairsIn : FnOk l.prog w K mg base CX0 31 fLPairsIn _ pLPairsIn (spA 1 K DK (T_pairsK 30)) := ok_LPairsIn Z DLPairsIn
  have GLAllTargets : FnOk l.prog w K mg base CX0 32 fLAllTargets _ pLAllTargets (spA 1 K DK T_law_all_targets) := ok_LAllTargets Z DLAllTargets DLPairsIn GLPairsIn
  have GLDraw : FnOk l.prog w K mg base CX0 1 fLDraw _ pLDraw (spA 2 K DK T_draw) := ok_LDraw Z DLDraw
  have GLPick : FnOk l.prog w K mg base CX0 2 fLPick _ pLPick (spA 2 K DK T_law_pick) := ok_LPick Z DLPick DLDraw GLDraw
  have GLAnyCondition : FnOk l.prog w K mg base CX0 9 fLAnyCondition _ pLAnyCondition (spA 4 K DK (T_anyK 6)) := ok_LAnyCondition Z DLAnyCondition DLDraw DLPick GLDraw GLPick
  have GLAnyWord : FnOk l.prog w K mg base CX0 3 fLAnyWord _ pLAnyWord (spA 1 K DK T_law_any_word) := ok_LAnyWord Z DLAnyWord DLDraw DLPick GLDraw GLPick
  have GLMixed : FnOk l.prog w K mg base CX0 2 fLMixed _ pLMixed (spA 2 K DK T_law_mixed) := ok_LMixed Z DLMixed DLDraw GLDraw
  have GLAnyTarget : FnOk l.prog w K mg base CX0 4 fLAnyTarget _ pLAnyTarget (spA 2 K DK T_law_any_target) := ok_LAnyTarget Z DLAnyTarget DLAnyWord DLDraw DLMixed GLAnyWord GLDraw GLMixed
  have GLDealt : FnOk l.prog w K mg base CX0 1 fLDealt _ pLDealt (spDeckI DK K) := ok_LDealt Z DLDealt
  have GLHolds : FnOk l.prog w K mg base CX0 31 fLHolds _ pLHolds (spA 2 K DK (T_holdK 30)) := ok_LHolds Z DLHolds
  have GLSomeWords : FnOk l.prog w K mg base CX0 4 fLSomeWords _ pLSomeWords (spA 2 K DK T_law_some_words) := ok_LSomeWords Z DLSomeWords DLAnyWord GLAnyWord
  have GLSomePairs : FnOk l.prog w K mg base CX0 5 fLSomePairs _ pLSomePairs (spA 1 K DK T_law_some_pairs) := ok_LSomePairs Z DLSomePairs DLPick DLSomeWords GLPick GLSomeWords
  have GIsWord : FnOk l.prog w K mg base CX0 1 fIsWord _ pIsWord (spA 1 K DK T_is_word) := ok_IsWord Z DIsWord
  have GIsTupleOfAtW : FnOk l.prog w K mg base CX0 2 fIsTupleOf _ pIsTupleOf (spA 2 K DK (T_tupF T_is_word fIsWord)) := ok_IsTupleOfAtW Z DIsTupleOf DIsWord GIsWord
  have GIsCondition : FnOk l.prog w K mg base CX0 62 fIsCondition _ pIsCondition (spA 1 K DK (T_condK 30)) := ok_IsCondition Z DIsCondition DIsTupleOf DIsWord GIsTupleOfAtW
  have GCheckCondition : FnOk l.prog w K mg base CX0 63 fCheckCondition _ pCheckCondition (spA 1 K DK T_check_condition) := ok_CheckCondition Z DCheckCondition DIsCondition GIsCondition
  have GIsAscending : FnOk l.prog w K mg base CX0 1 fIsAscending _ pIsAscending (spA 1 K DK T_is_ascending) := ok_IsAscending Z DIsAscending
  have GIsTuple : FnOk l.prog w K mg base CX0 1 fIsTuple _ pIsTuple (spA 2 K DK T_is_tuple) := ok_IsTuple Z DIsTuple
  have GIsTable : FnOk l.prog w K mg base CX0 2 fIsTable _ pIsTable (spA 2 K DK (T_is_table fIsWord)) := ok_IsTable Z DIsTable DIsAscending DIsTuple DIsWord GIsAscending GIsTuple GIsWord
  have GIsTarget : FnOk l.prog w K mg base CX0 3 fIsTarget _ pIsTarget (spA 1 K DK T_is_target) := ok_IsTarget Z DIsTarget DIsTable DIsWord GIsTable
  have GCheckTarget : FnOk l.prog w K mg base CX0 4 fCheckTarget _ pCheckTarget (spA 1 K DK T_check_target) := ok_CheckTarget Z DCheckTarget DIsTarget GIsTarget
  have GHoldsAt : FnOk l.prog w K mg base CX0 31 fHoldsAt _ pHoldsAt (spA 2 K DK (T_holdK 30)) := ok_HoldsAt Z DHoldsAt
  have GDoesHold : FnOk l.prog w K mg base CX0 64 fDoesHold _ pDoesHold (spA 2 K DK T_does_hold) := ok_DoesHold Z DDoesHold DCheckCondition DCheckTarget DHoldsAt GCheckCondition GCheckTarget GHoldsAt
  exact ok_Law Z DLaw DLAllTargets DLAnyCondition DLAnyTarget DLAnyWord DLDealt DLHolds DLMixed DLPairsIn DLPick DLSomePairs DDoesHold GLAllTargets GLAnyCondition GLAnyTarget GLAnyWord GLDealt GLHolds GLMixed GLPairsIn GLPick GLSomePairs GDoesHold kbDoesHold
end Zj

open PySem PySem.W PyProof.Rows in
set_option maxRecDepth 100000 in
set_option maxHeartbeats 0 in
theorem PySem.Challenge.cw_versionjudge_k16_whole_conditions_by_the_holds : PySem.Challenge.rw_versionjudge_k16_whole_conditions_by_the.Holds := by
  w_on; o_law; k_head; (case hw => w_witness2)
  k_fill
  refine Zj.walkG (n := 63) (k := 65) (x := "_law_script") (sp := Zj.spLaw) (l := PySem.Challenge.rw_versionjudge_k16_whole_conditions_by_the) rfl (by decide) rfl ⟨rfl, by decide, by decide⟩ (fun w h Y => PySem.W.kIn_of Y) ?F (fun K H a ns hl hS => ⟨a, ns, rfl, hS, hl, fun _ => rfl⟩)
  case F =>
    intro w mg fa h KX G hmg
    refine' Zj.all_mk KX G hmg ?aLPairsIn ?lLPairsIn ?cLPairsIn ?kLPairsIn ?aLAllTargets ?lLAllTargets ?cLAllTargets ?kLAllTargets ?aLDraw ?lLDraw ?cLDraw ?kLDraw ?aLPick ?lLPick ?cLPick ?kLPick ?aLAnyCondition ?lLAnyCondition ?cLAnyCondition ?kLAnyCondition ?tLAnyCondition ?aLAnyWord ?lLAnyWord ?cLAnyWord ?kLAnyWord ?aLMixed ?lLMixed ?cLMixed ?kLMixed ?aLAnyTarget ?lLAnyTarget ?cLAnyTarget ?kLAnyTarget ?aLDealt ?lLDealt ?cLDealt ?kLDealt ?aLHolds ?lLHolds ?cLHolds ?kLHolds ?aLSomeWords ?lLSomeWords ?cLSomeWords ?kLSomeWords ?aLSomePairs ?lLSomePairs ?cLSomePairs ?kLSomePairs ?aIsWord ?lIsWord ?cIsWord ?kIsWord ?aIsTupleOf ?lIsTupleOf ?cIsTupleOf ?kIsTupleOf ?aIsCondition ?lIsCondition ?cIsCondition ?kIsCondition ?aCheckCondition ?lCheckCondition ?cCheckCondition ?kCheckCondition ?aIsAscending ?lIsAscending ?cIsAscending ?kIsAscending ?aIsTuple ?lIsTuple ?cIsTuple ?kIsTuple ?aIsTable ?lIsTable ?cIsTable ?kIsTable ?aIsTarget ?lIsTarget ?cIsTarget ?kIsTarget ?aCheckTarget ?lCheckTarget ?cCheckTarget ?kCheckTarget ?aHoldsAt ?lHoldsAt ?cHoldsAt ?kHoldsAt ?aDoesHold ?lDoesHold ?cDoesHold ?kDoesHold ?aLaw ?lLaw ?cLaw ?kLaw ?zisinstance ?ztuple ?zbool ?zall ?zany ?zlist ?zrepr ?zenumerate ?zint ?zmax ?zlen ?zrange ?zsorted ?zzip ?zset ?zstr ?zdict ?zmin
    (case aLPairsIn => k_is)
    (case lLPairsIn => k_is)
    (case cLPairsIn => k_is)
    (case kLPairsIn => k_is)
    (case aLAllTargets => k_is)
    (case lLAllTargets => k_is)
    (case cLAllTargets => k_is)
    (case kLAllTargets => k_is)
    (case aLDraw => k_is)
    (case lLDraw => k_is)
    (case cLDraw => k_is)
    (case kLDraw => k_is)
    (case aLPick => k_is)
    (case lLPick => k_is)
    (case cLPick => k_is)
    (case kLPick => k_is)
    (case aLAnyCondition => k_is)
    (case lLAnyCondition => k_is)
    (case cLAnyCondition => k_is)
    (case kLAnyCondition => k_is)
    (case tLAnyCondition => k_is)
    (case aLAnyWord => k_is)
    (case lLAnyWord => k_is)
    (case cLAnyWord => k_is)
    (case kLAnyWord => k_is)
    (case aLMixed => k_is)
    (case lLMixed => k_is)
    (case cLMixed => k_is)
    (case kLMixed => k_is)
    (case aLAnyTarget => k_is)
    (case lLAnyTarget => k_is)
    (case cLAnyTarget => k_is)
    (case kLAnyTarget => k_is)
    (case aLDealt => k_is)
    (case lLDealt => k_is)
    (case cLDealt => k_is)
    (case kLDealt => k_is)
    (case aLHolds => k_is)
    (case lLHolds => k_is)
    (case cLHolds => k_is)
    (case kLHolds => k_is)
    (case aLSomeWords => k_is)
    (case lLSomeWords => k_is)
    (case cLSomeWords => k_is)
    (case kLSomeWords => k_is)
    (case aLSomePairs => k_is)
    (case lLSomePairs => k_is)
    (case cLSomePairs => k_is)
    (case kLSomePairs => k_is)
    (case aIsWord => k_is)
    (case lIsWord => k_is)
    (case cIsWord => k_is)
    (case kIsWord => k_is)
    (case aIsTupleOf => k_is)
    (case lIsTupleOf => k_is)
    (case cIsTupleOf => k_is)
    (case kIsTupleOf => k_is)
    (case aIsCondition => k_is)
    (case lIsCondition => k_is)
    (case cIsCondition => k_is)
    (case kIsCondition => k_is)
    (case aCheckCondition => k_is)
    (case lCheckCondition => k_is)
    (case cCheckCondition => k_is)
    (case kCheckCondition => k_is)
    (case aIsAscending => k_is)
    (case lIsAscending => k_is)
    (case cIsAscending => k_is)
    (case kIsAscending => k_is)
    (case aIsTuple => k_is)
    (case lIsTuple => k_is)
    (case cIsTuple => k_is)
    (case kIsTuple => k_is)
    (case aIsTable => k_is)
    (case lIsTable => k_is)
    (case cIsTable => k_is)
    (case kIsTable => k_is)
    (case aIsTarget => k_is)
    (case lIsTarget => k_is)
    (case cIsTarget => k_is)
    (case kIsTarget => k_is)
    (case aCheckTarget => k_is)
    (case lCheckTarget => k_is)
    (case cCheckTarget => k_is)
    (case kCheckTarget => k_is)
    (case aHoldsAt => k_is)
    (case lHoldsAt => k_is)
    (case cHoldsAt => k_is)
    (case kHoldsAt => k_is)
    (case aDoesHold => k_is)
    (case lDoesHold => k_is)
    (case cDoesHold => k_is)
    (case kDoesHold => k_is)
    (case aLaw => k_is)
    (case lLaw => k_is)
    (case cLaw => k_is)
    (case kLaw => k_is)
    (case zisinstance => k_is)
    (case ztuple => k_is)
    (case zbool => k_is)
    (case zall => k_is)
    (case zany => k_is)
    (case zlist => k_is)
    (case zrepr => k_is)
    (case zenumerate => k_is)
    (case zint => k_is)
    (case zmax => k_is)
    (case zlen => k_is)
    (case zrange => k_is)
    (case zsorted => k_is)
    (case zzip => k_is)
    (case zset => k_is)
    (case zstr => k_is)
    (case zdict => k_is)
    (case zmin => k_is)
#print axioms PySem.Challenge.cw_versionjudge_k16_whole_conditions_by_the_holds
