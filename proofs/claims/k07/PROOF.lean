import PyProof.Rows.All
import Wide.All
import OpenK.AllK
import Wide.FinOn
import KE.KExcIs
import HandS.ForMost
import HandS.Exc
import HandS.ExcOwn
import HandS.Style
import HandS.ExcValue
import PyProof.InstNe
import KE.KCallOwn
import HandS.OwnEq
import HandS.TupSets
import PyProof.StrWalks
import PyProof.WalksS
import KE.SortData
import HandS.Set
import HandS.SetFor
import HandS.SetTxt0
import HandS.SetKeys
import HandS.DictComp
import HandS.Strs
import PyProof.StrLawsChain
import PyProof.StrLawsIn
import PyProof.FitsReplace
import HandS.ClsMeth
import HandS.WordsExc
import HandS.IsInst
import HandS.Codes
import HandS.Star
import KE.KParD
import KE.KDictList
import HandS.ListItems
import HandS.ExcIs
import HandS.ExcField
import HandS.TryMany
import HandS.RaiseMore
import HandS.TupAny
import HandS.StrMore
import PyProof.ListRange
import PyProof.RangeFor
import PyProof.InstSpecial
import PySem.Challenge.RW_loopsdeep_k07_machines_joined
set_option Elab.async false
set_option linter.all false
set_option maxRecDepth 100000
set_option maxHeartbeats 4000000
namespace Vk
open PySem PySem.Spec PyProof.Rows L2
/-! ## a def's promise where no repr is under way -/
structure FnG (P : Program) (w : World) (K : PySem.W.Frag) (mg : Str → Option Value) (base : Heap) (CX : CXT) (k : Nat) (f : Addr) (fd : FuncData) (ps : List Str) (sp : Sp) : Prop where
  len : ∀ vs H Q E, sp vs H Q E → vs.length = ps.length
  run : ∀ (A : Around) (outer : List Env) (s : Shared) (H : Hp) (args : Args) (us : List Value) (vs : List V) (Q : VK) (E : XK), A.guards = some [] → Room k A → Env0 P w K mg base A outer s H →
    BindsTo s fd args (ps.zip us) → Vals vs us → sp vs H Q E → codeAny (model P w) A (.call (.ref f) args) (CR CX outer P w H s Q E) s
section
variable {P : Program} {w : World} {K : PySem.W.Frag} {mg : Str → Option Value} {base : Heap} {CX : CXT}
theorem FnG.mono {j k : Nat} {f : Addr} {fd : FuncData} {ps : List Str} {sp : Sp} (F : FnG P w K mg base CX j f fd ps sp) (h : j ≤ k) : FnG P w K mg base CX k f fd ps sp :=
  ⟨F.len, fun A o s H as us vs Q E hg hr => F.run A o s H as us vs Q E hg (hr.mono h)⟩
theorem fn_ofG {k : Nat} {f : Addr} {nm qual : Str} {pms : Arguments} {body : List Stmt} {sc : Scope} {dV kV doc pm cdv ct oc : Value} {an od : Option Addr} {osl : Array (Option Value)} {N ps : List Str} {sp : Sp}
    (lk : K.lookup f = some ⟨oc, od, .func (PySem.W.fnOf nm qual pms body sc dV kV doc pm an cdv ct), osl⟩) (hcd : PySem.W.codeIn K cdv qual = true) (S : FnScope N ps sc) (len : ∀ vs H Q E, sp vs H Q E → vs.length = ps.length)
    (hb : ∀ (A : Around) (outer : List Env) (s : Shared) (H : Hp) (vs : List V) (Q : VK) (E : XK), A.guards = some [] → Room k (A.deeper (envOfC qual sc s.heap.objs.size f cdv)) → sp vs H Q E →
      ∃ t, PSs (cxOf CX P w K mg base N qual sc f cdv A outer s H E) body t ∧ t { nx := fun _ H' => Q .non H', rt := Q } (start N vs) H) :
    FnG P w K mg base CX (k + 1) f (PySem.W.fnOf nm qual pms body sc dV kV doc pm an cdv ct) ps sp := by
  refine ⟨len, fun A outer s H args us vs Q E hgd hr z0 hbt rv hp => ?_⟩
  have lenv := len _ _ _ _ hp
  have KX : K.In s.heap := z0.mod.kin.keeps fun b o q => (z0.bs b o q).1
  have noL : s.heap.NoLimit := z0.mod.nolimit.keeps fun b o q => (z0.bs b o q).1
  refine codeAny_call_function hr.depth (KX _ _ lk) rfl S.co S.gen rfl (PySem.W.codeRec_of KX hcd) (hbt _ _ _ _ ?_)
  refine wpAny_newFunctionEnv_cells S.kind (fun ⟨y, v⟩ hy => (S.par y (List.of_mem_zip hy).1).elim .inl fun q => .inr ⟨q, PySem.W.cellsFrom_some _ _ _ (.inl q)⟩) fun env he s1 x => ?_
  subst he
  refine ⟨noL.keeps x.toInCall.keep, codeAny_func ?_⟩
  obtain ⟨t, ht, hq⟩ := hb A outer s H vs Q E hgd (hr.deeper _) hp
  have I0 : Inv (cxOf CX P w K mg base N qual sc f cdv A outer s H E) [] (start N vs) H s1 := inv_start S hr.hd z0 lenv rv x
  refine wpAny_mono (ht.run [] s1 _ H _ I0 hq) (fun fl s2 q2 => ?_) fun _ _ q2 => q2
  cases fl with
  | ret u =>
    obtain ⟨v, _, H2, J, r2, q3⟩ := q2
    exact ⟨v, H2, J.os, J.bare, J.base, J.hok, r2, q3⟩
  | next =>
    obtain ⟨_, H2, J, q3⟩ := q2
    exact ⟨V.non, H2, J.os, J.bare, J.base, J.hok, rfl, q3⟩
  | brk =>
    obtain ⟨_, _, _, q3⟩ := q2
    exact q3.elim
  | cont =>
    obtain ⟨_, _, _, q3⟩ := q2
    exact q3.elim
theorem okG {x qual : Str} {st : Stmt} {f : Addr} {fd : FuncData} {N ps : List Str} {k : Nat} {sp : Sp} (F : Fun K x qual st f fd) (S : FnScope N ps (defScope st)) (len : ∀ vs H Q E, sp vs H Q E → vs.length = ps.length)
    (hb : ∀ (cdv : Value) (A : Around) (outer : List Env) (s : Shared) (H : Hp) (vs : List V) (Q : VK) (E : XK), A.guards = some [] → Room k (A.deeper (envOfC qual (defScope st) s.heap.objs.size f cdv)) → sp vs H Q E →
      ∃ t, PSs (cxOf CX0 P w K mg base N qual (defScope st) f cdv A outer s H E).nox (defBody st) t ∧ t { nx := fun _ H' => Q .non H', rt := Q } (start N vs) H) : FnG P w K mg base CX0 (k + 1) f fd ps sp := by
  obtain ⟨oc, od, kV, doc, pm, an, cdv, ct, osl, rfl, lk, hcd⟩ := F.ex
  exact fn_ofG lk hcd S len fun A outer s H vs Q E hg hr hp => let ⟨t, h, q⟩ := hb cdv A outer s H vs Q E hg hr hp; ⟨t, h.nox, q⟩
end
section
variable {X : Cx} {CX : CXT} {k : Nat} {f : Addr} {fd : FuncData} {ps : List Str} {sp : Sp} {E : XK} {x : Str} {p pos : Pos} {e : Expr} {es : List Expr} {t : TA}
theorem pe_callG (F : FnG X.prog X.w X.K X.mg X.base CX k f fd ps sp) (hgd : X.A.guards = some []) (hr : Room k X.A) (hg : Gl X x) (hm : X.mg x = some (.ref f)) (hk : PySem.W.keepIn X.K (.ref f) = true) (hb : Binds X.K fd ps []) (hx : Passes CX X E)
    (ha : PA X (e :: es) t) (hdb : (x == ("__debug__" : Str)) = false := by decide) (he : starEach (e :: es) X.env = (false, eval e X.env) :: starEach es X.env := by rfl) (hpl : (backTo pos (starEach es X.env)).any (·.1) = false := by rfl) :
    PE X (.Call (.Name x p) (e :: es) [] pos) (tCall sp [] E t) := by
  refine ⟨fun pins s σ H Q I h => wpAny_Call_Name_kw (ld_glob I hg hm ?_ hdb)⟩
  refine PySem.W.callWith_K (h₀ := X.base) I.ok.mod.kin hk (thn (ha.run pos pins s σ H _ I h) fun us s1 ⟨vs, H1, I1, r, q⟩ => ⟨I1.kIn, ?_⟩) he hpl
  have q' : sp vs H1 Q E := by
    have z : sp (vs ++ []) H1 Q E := q
    rw [List.append_nil] at z
    exact z
  have hl : us.length = ps.length := r.length.symm.trans (F.len _ _ _ _ q')
  have bt := hb s1 us I1.kIn (by rw [List.append_nil]; exact hl)
  rw [List.append_nil] at bt
  refine wpAny_call (codeAny_mono (F.run X.A X.stack s1 H1 ⟨us, []⟩ us vs Q E hgd hr I1.env0 bt r q') fun z s2 hq => ?_)
  cases z with
  | error er => exact hx pins σ H1 s1 er s2 I1 hq
  | ok fl =>
    cases fl with
    | ret u => exact I1.after hq
    | _ => exact hq.elim
end
/-! ## repr of data: None, bools, ints, texts, lists, tuples, dicts with int and text keys -/
def keyD : Key → PyData
  | .inl i => .int i
  | .inr z => .str z
mutual
inductive Dr (K : PySem.W.Frag) (H : Hp) : V → PyData → Prop
  | non : Dr K H .non .none
  | bl (b : Bool) : Dr K H (.bl b) (.bool b)
  | int (i : Int) : Dr K H (.int i) (.int i)
  | str (x : Str) : Dr K H (.str x) (.str x)
  | lst {a : Addr} {xs : List V} {ds : List PyData} : a ≠ sysModules → SqL K H a xs → DrAll K H xs ds → Dr K H (.ref a) (.list ds)
  | tup {a : Addr} {xs : List V} {ds : List PyData} : SqT K H a xs → DrAll K H xs ds → Dr K H (.ref a) (.tuple ds)
  | dct {a : Addr} {kvs : List (Key × V)} {ds : List PyData} : H a = some (.dK kvs) → DrAll K H (kvs.map (·.2)) ds → Dr K H (.ref a) (.dict ((kvs.map fun q => keyD q.1).zip ds))
inductive DrAll (K : PySem.W.Frag) (H : Hp) : List V → List PyData → Prop
  | nil : DrAll K H [] []
  | cons {v : V} {vs : List V} {d : PyData} {ds : List PyData} : Dr K H v d → DrAll K H vs ds → DrAll K H (v :: vs) (d :: ds)
end
section
variable {X : Cx} {pins : List (Addr × Obj)} {σ : L2.St} {H : Hp} {s : Shared}
theorem DrAll.length {K : PySem.W.Frag} : ∀ {vs : List V} {ds : List PyData}, DrAll K H vs ds → vs.length = ds.length
  | _, _, .nil => rfl
  | _, _, .cons _ t => congrArg Nat.succ (DrAll.length t)
theorem key_reads {h : Heap} : ∀ {k : Key} {u : Value}, keyIs k u = true → Reads h u (keyD k) []
  | .inl i, u, e => by
    obtain ⟨t, rfl⟩ := Value.isInt_shape (k := i) (v := u) e
    exact .int i t
  | .inr x, u, e => by
    obtain ⟨t, rfl⟩ := Value.isStrOf_shape (x := x) (v := u) e
    exact .str x t
theorem pairs_reads {P : Program} {w : World} {h : Heap} : ∀ {kvs : List (Key × V)} {vs : List (Key × Value)} {es : List DictEntry}, KV kvs vs → Pairs (mixKind P w) es vs →
    ReadsAll h (es.map (·.key)) (kvs.map fun q => keyD q.1) [] ∧ Vals (kvs.map (·.2)) (es.map (·.val)) := by
  intro kvs
  induction kvs with
  | nil =>
    intro vs es r p
    cases r
    cases p
    exact ⟨.nil, .nil⟩
  | cons kv r ih =>
    intro vs es q p
    cases q with
    | cons h1 t =>
      cases p with
      | cons hk hv t2 =>
        obtain ⟨q1, q2⟩ := ih t t2
        refine ⟨ReadsAll.cons (as := []) (bs := []) (key_reads (by rw [h1.1]; exact hk)) q1, .cons ?_ q2⟩
        have z := h1.2
        rw [← hv] at z
        exact z
theorem zip_fst {α β : Type} : ∀ (l : List α) (r : List β), l.length = r.length → (l.zip r).map (·.1) = l ∧ (l.zip r).map (·.2) = r
  | [], [], _ => ⟨rfl, rfl⟩
  | a :: l, b :: r, h => by
    obtain ⟨h1, h2⟩ := zip_fst l r (Nat.succ.inj h)
    exact ⟨by rw [List.zip_cons_cons, List.map_cons, h1], by rw [List.zip_cons_cons, List.map_cons, h2]⟩
  | [], _ :: _, h => nomatch h
  | _ :: _, [], h => nomatch h
mutual
theorem Dr.reads (I : Inv X pins σ H s) : ∀ {v : V} {d : PyData} {u : Value}, Dr X.K H v d → RelV v u → ∃ as, Reads s.heap u d as ∧ sysModules ∉ as
  | _, _, _, .non, r => by
    cases r
    exact ⟨_, .none, fun z => nomatch z⟩
  | _, _, _, .bl b, r => by
    cases r
    exact ⟨_, .bool b, fun z => nomatch z⟩
  | _, _, _, .int i, r => by
    obtain ⟨t, rfl⟩ := r
    exact ⟨_, .int i t, fun z => nomatch z⟩
  | _, _, _, .str x, r => by
    obtain ⟨t, rfl⟩ := r
    exact ⟨_, .str x t, fun z => nomatch z⟩
  | _, _, _, .lst (a := a) ns hs ha, r => by
    cases r
    obtain ⟨its, rv, ⟨o, n, ho, hc, _, hd⟩, _⟩ := I.list hs
    obtain ⟨as, hr, hn⟩ := DrAll.reads I ha rv
    exact ⟨_, Reads.list ho hc hd hr, fun z => (List.mem_cons.mp z).elim (fun e => ns e.symm) hn⟩
  | _, _, _, .tup hs ha, r => by
    cases r
    obtain ⟨its, rv, ⟨o, ho, hc, n, hd⟩, _⟩ := I.tuple hs
    obtain ⟨as, hr, hn⟩ := DrAll.reads I ha rv
    exact ⟨_, Reads.tuple ho hc hd hr, hn⟩
  | _, _, _, .dct (a := a) (kvs := kvs) (ds := ds) e ha, r => by
    cases r
    obtain ⟨_, ny, vs, kv, o, es, ep, ho, hx, hd, _, hp, _⟩ := I.hok a _ e
    obtain ⟨q1, q2⟩ := pairs_reads (h := s.heap) kv hp
    obtain ⟨bs, hr, hn⟩ := DrAll.reads I ha q2
    have hl : (kvs.map fun q => keyD q.1).length = ds.length := by rw [List.length_map, ← ha.length, List.length_map]
    obtain ⟨z1, z2⟩ := zip_fst (kvs.map fun q => keyD q.1) ds hl
    refine ⟨_, Reads.dict (as := []) (bs := bs) ho hx.1 hd (by rw [z1]; exact q1) (by rw [z2]; exact hr), fun z => ?_⟩
    rcases List.mem_append.mp z with z | z
    · have e2 : sysModules = a := by simpa using z
      rw [← e2] at ny
      exact absurd ny (by decide)
    · exact hn z
theorem DrAll.reads (I : Inv X pins σ H s) : ∀ {vs : List V} {ds : List PyData} {us : List Value}, DrAll X.K H vs ds → Vals vs us → ∃ as, ReadsAll s.heap us ds as ∧ sysModules ∉ as
  | _, _, _, .nil, r => by
    cases r
    exact ⟨_, .nil, fun z => nomatch z⟩
  | _, _, _, .cons h1 h2, r => by
    cases r with
    | cons r1 r2 =>
      obtain ⟨as, q1, n1⟩ := Dr.reads I h1 r1
      obtain ⟨bs, q2, n2⟩ := DrAll.reads I h2 r2
      exact ⟨_, .cons q1 q2, fun z => (List.mem_append.mp z).elim n1 n2⟩
end
mutual
theorem Dr.same {K : PySem.W.Frag} {H H' : Hp} (e : Same H H') (et : ∀ a xs, SqT K H a xs → SqT K H' a xs) : ∀ {v : V} {d : PyData}, Dr K H v d → Dr K H' v d
  | _, _, .non => .non
  | _, _, .bl b => .bl b
  | _, _, .int i => .int i
  | _, _, .str x => .str x
  | _, _, .lst ns hs ha => .lst ns (e.seq hs) (DrAll.same e et ha)
  | _, _, .tup hs ha => .tup (et _ _ hs) (DrAll.same e et ha)
  | _, _, .dct h ha => .dct (e _ _ h) (DrAll.same e et ha)
theorem DrAll.same {K : PySem.W.Frag} {H H' : Hp} (e : Same H H') (et : ∀ a xs, SqT K H a xs → SqT K H' a xs) : ∀ {vs : List V} {ds : List PyData}, DrAll K H vs ds → DrAll K H' vs ds
  | _, _, .nil => .nil
  | _, _, .cons h t => .cons (Dr.same e et h) (DrAll.same e et t)
end
theorem same_seqT {K : PySem.W.Frag} {H H' : Hp} {a : Addr} {xs : List V} (e : Same H H') (h : SqT K H a xs) : SqT K H' a xs := by
  rcases h with (h | ⟨o, h⟩) | h
  · exact .inl (.inl (e _ _ h))
  · exact .inl (.inr ⟨o, e _ _ h⟩)
  · exact .inr h
theorem Dr.keep {K : PySem.W.Frag} {H H' : Hp} {v : V} {d : PyData} (h : Dr K H v d) (e : Same H H') : Dr K H' v d := h.same e fun _ _ => same_seqT e
theorem DrAll.keep {K : PySem.W.Frag} {H H' : Hp} {v : List V} {d : List PyData} (h : DrAll K H v d) (e : Same H H') : DrAll K H' v d := h.same e fun _ _ => same_seqT e
end
/-- a list's, a tuple's, a dict's repr -/
def rRepr (K : PySem.W.Frag) : List V → Hp → VK → Prop := fun xs H Q => ∃ (a : Addr) (d : PyData), xs = [.ref a] ∧ Dr K H (.ref a) d ∧ d.showable = true ∧ d.depth ≤ 60 ∧ d.shown.length ≤ sizeLine ∧ Q (.str d.shown) H
theorem call_repr {X : Cx} {k : Nat} (hg : X.A.guards = some []) (hr : Room k X.A) : CallR X (.builtin "repr") (rRepr X.K) := by
  intro pins s σ H xs us Q I r h
  obtain ⟨a, d, rfl, hd, hs, hdp, hz, q⟩ := h
  obtain ⟨u, rfl, ru⟩ := vals1 r
  obtain ⟨as, rd, nm⟩ := hd.reads I ru
  cases ru
  refine repr_of_reads' rd hs (fun _ => nm) hg ?_ (fun _ _ e => e) (fun h' u tk hk => ?_) hz
  · have := hr.units
    omega
  · exact ⟨.str d.shown, H, I.kept hk, ⟨u, rfl⟩, q⟩
/-- a list display, its place no table of the machine's -/
def tLstN (t : TA) : TE := fun σ H Q => t σ H fun xs H1 => xs.length ≤ sizeLine ∧ ∀ p, H1 p = none → p ≠ sysModules → Q (.ref p) (upd H1 p (.lst xs))
theorem pe_lstN {X : Cx} {es : List Expr} {t : TA} {pos : Pos} (h : PA X es t) : PE X (.List es pos) (tLstN t) := by
  refine ⟨fun pins s σ H Q I q0 => wpAny_List_spliced (thn (h.run pos pins s σ H _ I q0) fun us s1 ⟨xs, H1, I1, r, z, q⟩ => ⟨r.length ▸ z, ?_⟩)⟩
  have hf : H1 s1.heap.objs.size = none := I1.fresh
  have hn : s1.heap.objs.size ≠ sysModules := Nat.ne_of_gt I1.big
  exact ⟨.ref s1.heap.objs.size, _, I1.laid (t' := s1.toks) (o := .lst xs) (fun b u e => Heap.get?_push_of_some _ e) (Nat.le_refl _) ⟨z, us, 0, r, Heap.get?_push_size _ rfl⟩, rfl, q _ hf hn⟩
end Vk
set_option Elab.async false
set_option linter.all false
set_option maxRecDepth 100000
set_option maxHeartbeats 4000000
namespace PySem
namespace Vx
open PySem.W PySem.Calls PyProof.Rows PySem.HandSPX
/-! ### an own exception class is called, with keywords -/
section
variable {M : Model} {A : Around} {E : Value → Shared → Prop} {h : Heap} {g : Array GenState} {d : Drawn} {t : Nat} {os : OsState}
variable {nm q : Str} {C N : Addr} {bs bm bmB : List Value} {hdct : Bool} {sn : List Str} {sub : List Value} {ab : Bool} {col : Option Bool} {dd : Option Addr} {k0 k1 k2 k3 k5 : Option Value} {B newId initId : String}
theorem chkNew (F : ExcBaseFacts B newId initId bmB) (tl : ∀ T : String, bm.contains (.type T) = bmB.contains (.type T)) {rest : List Value} {kw : List (Str × Value)} {Q : Unit → Shared → Prop}
    (hC : h.get? C = some (excClassObj nm q C N bs bm hdct sn sub ab col dd k0 k1 k2 k3 k5 newId)) (go : Q () ⟨h, g, d, t, os⟩) : wpAny M A (checkBuiltinCall newId ⟨.ref C :: rest, kw⟩) Q E ⟨h, g, d, t, os⟩ := by
  have isB : (Value.ref C :: bm).contains (.type B) = true := by rw [List.contains_cons, tl, F.hasB, Bool.or_true]
  have st := F.noStar
  simp only [checkBuiltinCall, F.newKind, F.newSplit, F.newRow]
  repeat (first | refine wpAny_loadPart_at hC ?_ | (refine wpAny_isSubtype_exc hC ?_; rw [isB]) | refine wpAny_staticBase_exc hC ?_ | refine wpAny_madeBy_exc hC ?_ | simp only [bne_self_eq_false, Bool.false_eq_true, if_false] | wp_step)

  exact go
theorem chkCall {rest : List Value} {kw : List (Str × Value)} {Q : Unit → Shared → Prop} (hC : h.get? C = some (excClassObj nm q C N bs bm hdct sn sub ab col dd k0 k1 k2 k3 k5 newId)) (go : Q () ⟨h, g, d, t, os⟩) :
    wpAny M A (checkBuiltinCall "type.__call__" ⟨.ref C :: rest, kw⟩) Q E ⟨h, g, d, t, os⟩ := by
  have u3 := tc_sub
  have hT : (⟨h, g, d, t, os⟩ : Shared).TypeIs (.ref C) "type" := ⟨_, hC, rfl⟩
  simp only [checkBuiltinCall, tc_kind, tc_split]
  repeat (any_goals (first | assumption | with_reducible refine wpAny_loadPart_at hC ?_ | with_reducible refine wpAny_onRaise ?_ | with_reducible refine wpAny_map ?_ | wp_step))
end
section
variable {prog : Program} {w : World} {A : Around} {E : Value → Shared → Prop} {R : Result → Shared → Prop} {h : Heap} {g : Array GenState} {d : Drawn} {t : Nat} {os : OsState}
variable {nm q : Str} {C N : Addr} {bs bm bmB : List Value} {hdct : Bool} {sn : List Str} {sub : List Value} {ab : Bool} {col : Option Bool} {dd : Option Addr} {k0 k1 k2 k3 k5 : Option Value} {B newId initId : String}
theorem newE (F : ExcBaseFacts B newId initId bmB) (tl : ∀ T : String, bm.contains (.type T) = bmB.contains (.type T)) {rest : List Value} {kw : List (Str × Value)}
    (hC : h.get? C = some (excClassObj nm q C N bs bm hdct sn sub ab col dd k0 k1 k2 k3 k5 newId)) (few : rest.length ≤ sizeLine)
    (go : R (.ok (.ret (.ref (h.objs.size + 1)))) ⟨(h.push (W.kdv_tup rest)).push (excO C h.objs.size), g, d, t, os⟩) :
    codeAny (model prog w) A (.builtin newId ⟨.ref C :: rest, kw⟩) R ⟨h, g, d, t, os⟩ := by
  have en := F.ends
  have isB : (Value.ref C :: bm).contains (.type B) = true := by rw [List.contains_cons, tl, F.hasB, Bool.or_true]
  have noA : (Value.ref C :: bm).contains (.type "AttributeError") = false := by rw [List.contains_cons, tl, F.noAttr]; rfl
  have noN : (Value.ref C :: bm).contains (.type "NameError") = false := by rw [List.contains_cons, tl, F.noName]; rfl
  refine codeAny_builtinAt F.entry ?_
  unfold Builtin.«BaseException.__new__»
  refine wpAt_bind ?_
  show wpAt _ _ _ (stack >>= _) _ _ _
  refine wpAt_bind (wpAt_stack fun p below => wpAt_of_wpAny ?_)
  wp_walk
  refine wpAt_of_wpAny ?_
  rw [F.owner]
  repeat (first | with_reducible refine wpAny_madeHere_exc F.canon hC ?_ | with_reducible refine wpAny_loadPart_at hC ?_ | (with_reducible refine wpAny_isSubtype_exc hC ?_; first | rw [isB] | rw [noA] | rw [noN]) | wp_step)
  show R _ _
  rw [Heap.size_push]
  exact go
theorem typeCallE (F : ExcBaseFacts B newId initId bmB) (tl : ∀ T : String, bm.contains (.type T) = bmB.contains (.type T)) {rest : List Value} {kw : List (Str × Value)} {fI : Addr} {Q : Fin → Shared → Prop}
    (hC : h.get? C = some (excClassObj nm q C N bs bm hdct sn sub ab col dd k0 k1 k2 k3 k5 newId))
    (hi : W.Looks (model prog w) h (typeLookup (.ref C) "__init__") (some (.ref fI))) (hb : ∀ self, W.Looks (model prog w) h (bindSpecial (.ref fI) self) (.ref fI, [self])) (few : rest.length ≤ sizeLine)
    (go : codeAny (model prog w) A (.call (.ref fI) ⟨.ref (h.objs.size + 1) :: rest, kw⟩)
      (fun r s' => match r with | .ok (.ret v) => v = .none ∧ Q (.done (.ret (.ref (h.objs.size + 1)))) s' | .ok _ => False | .error e => E e s') ⟨(h.push (W.kdv_tup rest)).push (excO C h.objs.size), g, d, t, os⟩) :
    wpAny (model prog w) A (Builtin.«type.__call__» ⟨.ref C :: rest, kw⟩) Q E ⟨h, g, d, t, os⟩ := by
  repeat (first | with_reducible refine wpAny_loadPart_at hC ?_ | with_reducible refine wpAny_madeBy_exc hC ?_ | wp_step)
  refine codeAny_call_builtin_code (Code.quiet_builtin _ F.quiet) (chkNew F tl hC ?_)
  refine newE F tl hC few ?_
  show wpAny _ _ _ _ _ _
  have kp : ∀ b o, h.get? b = some o → ((h.push (W.kdv_tup rest)).push (excO C h.objs.size)).get? b = some o := fun b o e => Heap.get?_push_of_some _ (Heap.get?_push_of_some _ e)
  have hC2 := kp _ _ hC
  have at2 : ((h.push (W.kdv_tup rest)).push (excO C h.objs.size)).get? (h.objs.size + 1) = some (excO C h.objs.size) := by heap_get
  have self : (Value.ref C :: bm).contains (.ref C) = true := by simp
  have ii := hi.keeps kp
  have bb := (hb (.ref (h.objs.size + 1))).keeps kp
  unfold isInstance
  repeat (first | with_reducible refine wpAny_loadPart_at at2 ?_ | (with_reducible refine wpAny_isSubtype_exc hC2 ?_; rw [self]) | wp_step)
  show wpAny _ _ (typeLookup (.ref C) _) _ _ _
  refine ii.at ?_
  refine wpAny_holding (wpAny_bind (bb.at ?_))
  refine wpAny_bind (wpAny_call (codeAny_mono go fun r s' z => ?_))
  rcases r with e | (v | _ | _ | _) <;> first | exact z | exact z.elim | skip
  obtain ⟨rfl, z⟩ := z
  first
    | exact wpAny_pure (wpAny_pure z)
    | (wp_walk; exact z)
theorem callE (F : ExcBaseFacts B newId initId bmB) (tl : ∀ T : String, bm.contains (.type T) = bmB.contains (.type T)) {rest : List Value} {kw : List (Str × Value)} {fI : Addr}
    (hC : h.get? C = some (excClassObj nm q C N bs bm hdct sn sub ab col dd k0 k1 k2 k3 k5 newId))
    (hi : W.Looks (model prog w) h (typeLookup (.ref C) "__init__") (some (.ref fI))) (hb : ∀ self, W.Looks (model prog w) h (bindSpecial (.ref fI) self) (.ref fI, [self])) (few : rest.length ≤ sizeLine)
    (go : codeAny (model prog w) (A.under (.builtin "type.__call__" ⟨.ref C :: rest, kw⟩)) (.call (.ref fI) ⟨.ref (h.objs.size + 1) :: rest, kw⟩) (W.InitBack (h.objs.size + 1) R) ⟨(h.push (W.kdv_tup rest)).push (excO C h.objs.size), g, d, t, os⟩) :
    codeAny (model prog w) A (.call (.ref C) ⟨rest, kw⟩) R ⟨h, g, d, t, os⟩ := by
  have u1 := tc_lookup
  have u2 := tc_bind (.ref C)
  have hTy : (⟨h, g, d, t, os⟩ : Shared).TypeIs (.ref C) "type" := ⟨_, hC, rfl⟩
  refine codeAny_of_tree ?_
  show wpAny _ _ (callAny (.ref C) _) _ _ _
  repeat (any_goals (first | assumption | with_reducible refine wpAny_loadPart_at hC ?_ | wp_step))
  refine ⟨rfl, ?_⟩
  refine codeAny_call_builtin_at (Code.quiet_builtin _ (by decide +kernel)) entry_typeCall (chkCall hC (typeCallE F tl hC hi hb few ?_))
  refine codeAny_mono go fun r s' z => ?_
  rcases r with e | (v | _ | _ | _) <;> exact z
end
end Vx
end PySem
set_option Elab.async false
set_option linter.all false
set_option maxRecDepth 100000
set_option maxHeartbeats 4000000
namespace PySem
namespace Vx
open PySem.W PySem.Calls PyProof.Rows PySem.HandSPX Builtin Builtin.ObjectAttr
abbrev exB : List Value := [.type "Exception", .type "BaseException", .type "object"]
/-! ### the text of such an __init__: self.p = p -/
def iA (p : Str) (p1 p2 : Pos) : Arguments := { posonlyargs := [], args := [{ arg := "self", annotation := none, pos := p1 }, { arg := p, annotation := none, pos := p2 }], vararg := none, kwonlyargs := [], kw_defaults := [], kwarg := none, defaults := [] }
def iB (p : Str) (q1 q2 q3 q4 : Pos) : List Stmt := [.Assign [.Attribute (.Name "self" q1) p q2] (.Name p q3) q4]
def iS (p : Str) : Scope := { kind := .function, names := [(PySem.Str.ofString "self", .local), (p, .local)], isGenerator := false, isCoroutine := false, more := [] }
/-- what the written part says of an own error class at C (no own metaclass, base Exception in the end), as one look -/
def ecB (K : Frag) (C : Addr) : Bool := excInitIn K C exB "Exception.__new__" && (excOver K C exB && (hasDictIn K C && (decide (findIn K (.ref C) "__setattr__" = some (some (.builtin "object.__setattr__"))) &&
  (decide (findIn K (.ref C) "__getattribute__" = some (some (.builtin "BaseException.__getattribute__"))) && (decide (findIn K (.ref C) "__getattr__" = some none) && (decide (findIn K (.ref C) "__class__" = some (some (.builtin "object.__class__"))) &&
  (keepIn K (.ref C) && (decide (subIn K (.ref C) (.type "BaseException") = some true) && (decide (typeIn K (.ref C) = some (.type "type")) && (decide (mroIn K C (.type "object") = some true) &&
  (decide (specialIn K (.builtin "object.__class__") "__get__" = some (some (.builtin "getset_descriptor.__get__"))) && decide (takesIn K (.builtin "object.__class__") = some true))))))))))))
structure EcK (K : Frag) (C : Addr) : Prop where
  mke : excInitIn K C exB "Exception.__new__" = true
  ov : excOver K C exB = true
  hd : hasDictIn K C = true
  sa : findIn K (.ref C) "__setattr__" = some (some (.builtin "object.__setattr__"))
  ga : findIn K (.ref C) "__getattribute__" = some (some (.builtin "BaseException.__getattribute__"))
  gg : findIn K (.ref C) "__getattr__" = some none
  cl : findIn K (.ref C) "__class__" = some (some (.builtin "object.__class__"))
  kp : keepIn K (.ref C) = true
  ex : subIn K (.ref C) (.type "BaseException") = some true
  ty : typeIn K (.ref C) = some (.type "type")
  ob : mroIn K C (.type "object") = some true
  gt : specialIn K (.builtin "object.__class__") "__get__" = some (some (.builtin "getset_descriptor.__get__"))
  tk : takesIn K (.builtin "object.__class__") = some true
theorem ecK_of {K : Frag} {C : Addr} (h : ecB K C = true) : EcK K C := by
  unfold ecB at h
  simp only [Bool.and_eq_true, decide_eq_true_eq] at h
  obtain ⟨h1, h2, h3, h4, h5, h6, h7, h8, h9, h10, h11, h12, h13⟩ := h
  exact ⟨h1, h2, h3, h4, h5, h6, h7, h8, h9, h10, h11, h12, h13⟩
/-- its own __init__ at fI, one parameter p, kept under that name -/
structure EcI (K : Frag) (C fI : Addr) (p : Str) : Prop where
  noN : findIn K (.ref C) p = some none
  iC : findIn K (.ref C) "__init__" = some (some (.ref fI))
  tI : typeIn K (.ref fI) = some (.type "function")
  ns : (p == ("self" : Str)) = false
  nd : (p == ("__debug__" : Str)) = false
  fn : ∃ (q : Str) (oc : Value) (od : Option Addr) (doc pm : Value) (an : Option Addr) (cdv ct : Value) (osl : Array (Option Value)) (p1 p2 q1 q2 q3 q4 : Pos),
    K.lookup fI = some ⟨oc, od, .func (fnOf "__init__" q (iA p p1 p2) (iB p q1 q2 q3 q4) (iS p) .none .none doc pm an cdv ct), osl⟩ ∧ codeIn K cdv q = true
  b1 : ∀ (q : Str) (doc pm : Value) (an : Option Addr) (cdv ct : Value) (p1 p2 q1 q2 q3 q4 : Pos) (x v : Value), bindArgs (fnOf "__init__" q (iA p p1 p2) (iB p q1 q2 q3 q4) (iS p) .none .none doc pm an cdv ct) ⟨[x, v], []⟩ = pure ([("self", x), (p, v)] : List (Str × Value))
  b2 : ∀ (q : Str) (doc pm : Value) (an : Option Addr) (cdv ct : Value) (p1 p2 q1 q2 q3 q4 : Pos) (x v : Value), bindArgs (fnOf "__init__" q (iA p p1 p2) (iB p q1 q2 q3 q4) (iS p) .none .none doc pm an cdv ct) ⟨[x], [(p, v)]⟩ = pure ([("self", x), (p, v)] : List (Str × Value))
/-- what __init__ leaves of a fresh exception at x -/
structure InitEnd (h h' : Heap) (x C dx t1 : Addr) (p : Str) (v : Value) : Prop where
  keep : ∀ b o, b ≠ x → h.get? b = some o → h'.get? b = some o
  obj : h'.get? x = some { cls := .ref C, dict := some dx, data := .fields #[.ref t1, .none, .none, .none, .bool false, .none] }
  dbig : h.objs.size ≤ dx
  dne : dx ≠ x
  ns : h'.Ns1 dx (fun y => if y = p then some v else none)
/-- a made one -/
structure Made (h h' : Heap) (e C d : Addr) (p : Str) (v : Value) : Prop where
  keep : ∀ b o, h.get? b = some o → h'.get? b = some o
  new : h.objs.size ≤ e
  obj : ∃ t1 : Addr, h'.get? e = some { cls := .ref C, dict := some d, data := .fields #[.ref t1, .none, .none, .none, .bool false, .none] }
  dbig : h.objs.size ≤ d
  dne : d ≠ e
  ns : h'.Ns1 d (fun y => if y = p then some v else none)
section
variable {prog : Program} {w : World} {A : Around} {E : Value → Shared → Prop} {R : Result → Shared → Prop} {s : Shared} {K : Frag} {C fI : Addr} {p : Str}
theorem store0 {hp : Heap} {g : Array GenState} {d : Drawn} {t : Nat} {os : OsState} {tk : Tok} {v : Value} {x t0 : Addr} (T : EcK K C) (X : K.In hp) (no : findIn K (.ref C) p = some none) (hx : hp.get? x = some (excO C t0))
    (go : ∀ h' tk' dx, (∀ b o, b ≠ x → hp.get? b = some o → h'.get? b = some o) → hp.objs.size ≤ dx → dx ≠ x → h'.get? x = some { cls := .ref C, dict := some dx, data := .fields #[.ref t0, .none, .none, .none, .bool false, .none] } →
      h'.Ns1 dx (fun y => if y = p then some v else none) → R (.ok (.ret .none)) ⟨h', g, d, tk', os⟩) :
    codeAny (model prog w) A (.call (.builtin "object.__setattr__") ⟨[.ref x, .str p tk, v], []⟩) R ⟨hp, g, d, t, os⟩ := by
  refine osa_openX (s := ⟨hp, g, d, t, os⟩) (od := none) (r := none) F.store_Exception X ⟨hx, rfl, rfl, trivial⟩ T.ov (by unfold takerIn; rw [no] <;> rfl) fun b => ?_
  obtain ⟨cd, hc, hdd⟩ := any_some T.hd
  have hne : x ≠ hp.objs.size := Nat.ne_of_lt (Heap.lt_size hx)
  refine wpAny_bind (wpAny_pure (wpAny_bind (instanceDict_exc hx (looks_clsIn X hc) hdd ?_)))
  show wpAny _ _ (storeInDict hp.objs.size (.str p tk) p v) _ _ _
  refine store_in_new ⟨_, #[], _, (Heap.get?_update_ne _ _ _ _ hne.symm).trans (Heap.get?_push_at rfl rfl), rfl, fun e he => absurd he (by simp), fun _ => rfl⟩ fun h' tk' hn hs => ?_
  have hx1 : (hp.push (dictOf [] 0)).get? x = some (excO C t0) := Heap.get?_push_of_some _ hx
  refine go h' tk' hp.objs.size (fun b o hb ho => ?_) (Nat.le_refl _) hne.symm ?_ hn
  · exact (hs.2 b (Nat.ne_of_lt (Heap.lt_size ho))).trans ((Heap.get?_update_ne _ _ _ _ hb).trans (Heap.get?_push_of_some _ ho))
  · exact (hs.2 x hne).trans (Heap.get?_update_self _ hx1 rfl)
theorem lkP (ns : (p == ("self" : Str)) = false) : (iS p).names.lookup p = some .local := by
  show List.lookup p [(PySem.Str.ofString "self", NameKind.local), (p, NameKind.local)] = some .local
  rw [List.lookup_cons, ns, List.lookup_cons, beq_self_eq_true]
theorem initE (T : EcK K C) (U : EcI K C fI p) {x t0 : Addr} {v : Value} {args : Args} (X : K.In s.heap) (hlim : s.heap.NoLimit) (hx : s.heap.get? x = some (excO C t0)) (room : A.depth < recursionLimit)
    (ha : args = ⟨[.ref x, v], []⟩ ∨ args = ⟨[.ref x], [(p, v)]⟩) (go : ∀ h' tk dx, InitEnd s.heap h' x C dx t0 p v → R (.ok (.ret .none)) { s with heap := h', toks := tk }) :
    codeAny (model prog w) A (.call (.ref fI) args) R s := by
  obtain ⟨q, oc, od, doc, pm, an, cdv, ct, osl, p1, p2, q1, q2, q3, q4, ho, hcd⟩ := U.fn
  have hbd : BindsTo s (fnOf "__init__" q (iA p p1 p2) (iB p q1 q2 q3 q4) (iS p) .none .none doc pm an cdv ct) args ([("self", .ref x), (p, v)] : List (Str × Value)) := by
    rcases ha with rfl | rfl
    · exact .of_eq (U.b1 _ _ _ _ _ _ _ _ _ _ _ _ _ _)
    · exact .of_eq (U.b2 _ _ _ _ _ _ _ _ _ _ _ _ _ _)
  refine Att.call_fn (binds := ([("self", .ref x), (p, v)] : List (Str × Value))) X hlim ho hcd room hbd ?_ (fun s₁ IC => ?_) rfl rfl rfl
  · have z1 : ((iS p).names.lookup ("self" : Str) == some NameKind.local || (iS p).names.lookup ("self" : Str) == some NameKind.cell) = true := by rfl
    have z2 : ((iS p).names.lookup p == some NameKind.local || (iS p).names.lookup p == some NameKind.cell) = true := by rw [lkP U.ns] <;> rfl
    simp only [List.all_cons, List.all_nil, z1, z2, Bool.and_self]
  obtain ⟨h₁, tk₁, rfl⟩ := IC.toInCall.same
  have kp : ∀ b o, s.heap.get? b = some o → h₁.get? b = some o := IC.toInCall.keep
  have hn := IC.toInCall.ns
  have X1 : K.In h₁ := X.keeps kp
  have hx1 := kp _ _ hx
  have kl : (envOfC q (iS p) s.heap.objs.size fI cdv).kindOf p = some .local := lkP U.ns
  have ks : (envOfC q (iS p) s.heap.objs.size fI cdv).kindOf "self" = some .local := by rfl
  have nd2 : ([("self" : Str), p]).Nodup := by
    have z : ¬ (("self" : Str) = p) := fun e => by
      have y := U.ns
      rw [← e] at y
      simp at y
    simp [z]
  have vp := L2.bindL_get (P := [("self" : Str), p]) (vs := [Value.ref x, v]) (i := 1) (m := fun _ => none) nd2 rfl rfl kl
  have vsf := L2.bindL_get (P := [("self" : Str), p]) (vs := [Value.ref x, v]) (i := 0) (m := fun _ => none) nd2 rfl rfl ks
  show wpAny _ _ (execs _ _) _ _ _
  refine wpAny_execs_cons (plainObj_wpAny_Assign_Attribute ?_)
  refine wpAny_Name (wpAny_loadName_local rfl kl hn vp ?_) U.nd
  refine wpAny_Name (wpAny_loadName_local rfl ks hn vsf ?_) (by decide)
  refine set_plain X1 (ox := excO C t0) (od := none) ⟨hx1, rfl, rfl, trivial⟩ T.sa ?_
  refine store0 T X1 U.noN hx1 (fun h₃ tk₃ dx k₃ dn dne hx₃ hn₃ => ?_)
  show wpAny _ _ (execs _ _) _ _ _
  have z : s.heap.objs.size < h₁.objs.size := hn.lt
  exact wpAny_execs_nil (go h₃ tk₃ dx ⟨fun b o hb e => k₃ b o hb (kp b o e), hx₃, Nat.le_of_lt (Nat.lt_of_lt_of_le z dn), dne, hn₃⟩)
theorem one_sz (v : Value) : [v].length ≤ sizeLine := by
  rw [sizeLine_eq]
  exact (by decide : 1 ≤ 16777216)
/-- C(v), C(p = v) -/
theorem madeE (T : EcK K C) (U : EcI K C fI p) {v : Value} {args : Args} (X : K.In s.heap) (hlim : s.heap.NoLimit) (room : A.depth + 1 < recursionLimit) (ha : args = ⟨[v], []⟩ ∨ args = ⟨[], [(p, v)]⟩)
    (go : ∀ h' tk e d, Made s.heap h' e C d p v → R (.ok (.ret (.ref e))) { s with heap := h', toks := tk }) : codeAny (model prog w) A (.call (.ref C) args) R s := by
  obtain ⟨nm, N, qn, bs, bm, hdct, sn, sub, ab, col, dd, k0, k1, k2, k3, k5, hC, tl⟩ := excInit_of X T.mke
  obtain ⟨hp, g, dr, tk, os⟩ := s
  have main : ∀ (rest : List Value) (kw : List (Str × Value)), rest.length ≤ sizeLine → (∀ x : Addr, (⟨.ref x :: rest, kw⟩ : Args) = ⟨[.ref x, v], []⟩ ∨ (⟨.ref x :: rest, kw⟩ : Args) = ⟨[.ref x], [(p, v)]⟩) → codeAny (model prog w) A (.call (.ref C) ⟨rest, kw⟩) R ⟨hp, g, dr, tk, os⟩ := by
    intro rest kw hr hk
    have kp : ∀ b o, hp.get? b = some o → ((hp.push (kdv_tup rest)).push (excO C hp.objs.size)).get? b = some o := fun b o e => Heap.get?_push_of_some _ (Heap.get?_push_of_some _ e)
    have hget : ((hp.push (kdv_tup rest)).push (excO C hp.objs.size)).get? (hp.objs.size + 1) = some (excO C hp.objs.size) := by heap_get
    refine callE F.excBase_Exception tl hC (looks_findIn X U.iC) (fun self => bind_fn X self U.tI) hr ?_
    refine initE (s := ⟨(hp.push (kdv_tup rest)).push (excO C hp.objs.size), g, dr, tk, os⟩) T U (X.keeps kp) (hlim.keeps kp) hget ?_ (hk _) fun h' tk' dx ⟨k', hx, dn, dne, hns⟩ => ?_
    · show (A.under _).depth < _
      exact Nat.lt_of_le_of_lt (Nat.le_of_eq L2.make_depth) room
    · have old : ∀ b o, hp.get? b = some o → h'.get? b = some o := fun b o e => k' b o (Nat.ne_of_lt (Nat.lt_succ_of_lt (Heap.lt_size e))) (kp b o e)
      have z : hp.objs.size + 1 + 1 ≤ dx := by
        have q := dn
        rw [Heap.size_push, Heap.size_push] at q
        exact q
      exact ⟨rfl, go h' tk' (hp.objs.size + 1) dx ⟨old, Nat.le_succ _, ⟨_, hx⟩, Nat.le_trans (Nat.le_trans (Nat.le_succ _) (Nat.le_succ _)) z, dne, hns⟩⟩
  rcases ha with rfl | rfl
  · exact main _ _ (one_sz v) fun x => .inl rfl
  · exact main _ _ (Nat.zero_le _) fun x => .inr rfl
end
end Vx
end PySem
set_option Elab.async false
set_option linter.all false
set_option maxRecDepth 100000
set_option maxHeartbeats 4000000
namespace Vk
open PySem PySem.Spec PyProof.Rows L2 PySem.Vx
/-- an exception of the class cls stands at a, its own dict d -/
def ExV (cls : Value) (d : Option Addr) (a : Addr) : HO := .ext fun h => ∃ (oe : Obj) (vs : Array Value), h.get? a = some oe ∧ Zc cls d oe ∧ oe.data = .fields vs
theorem exV_ok {P : Program} {w : World} {H : Hp} {h : Heap} {a : Addr} {cls : Value} {d : Option Addr} {oe : Obj} {vs : Array Value} (e : h.get? a = some oe) (z : Zc cls d oe) (q : oe.data = .fields vs) : ObjOk P w H h a (ExV cls d a) :=
  ⟨⟨oe, vs, e, z, q⟩, ⟨oe, e⟩, fun _ _ ⟨o, v, q, r⟩ k => ⟨o, v, k o q, r⟩⟩
theorem exV_at {P : Program} {w : World} {H : Hp} {h : Heap} {a : Addr} {cls : Value} {d : Option Addr} (k : HOk P w H h) (e : H a = some (ExV cls d a)) : ∃ (oe : Obj) (vs : Array Value), h.get? a = some oe ∧ Zc cls d oe ∧ oe.data = .fields vs := (k a _ e).1
theorem relO_one {p : Str} {v : V} {u : Value} (r : L2.RelV v u) (f : Str) : RelO (List.lookup f [(p, v)]) (if f = p then some u else none) := by
  by_cases h : f = p
  · rw [h, if_pos rfl, List.lookup_cons, beq_self_eq_true]
    exact r
  · have e : (f == p) = false := by simpa using h
    rw [if_neg h, List.lookup_cons, e]
    trivial
section
variable {X : Cx} {pins : List (Addr × Obj)} {σ : L2.St} {H : Hp} {s : Shared} {C fI : Addr} {p x : Str}
/-- two new objects: the exception, its dict -/
theorem Inv.made2 {h' : Heap} {e d : Addr} {v : V} {u : Value} {tk : Nat} (I : Inv X pins σ H s) (M : Made s.heap h' e C d p u) (r : L2.RelV v u) :
    H e = none ∧ H d = none ∧ d ≠ e ∧ Inv X pins σ (upd (upd H d (.xd [(p, v)])) e (ExV (.ref C) (some d) e)) { s with heap := h', toks := tk } := by
  have ne := I.hok.fresh M.new
  have nd := I.hok.fresh M.dbig
  obtain ⟨t1, ho⟩ := M.obj
  refine ⟨ne, nd, M.dne, ?_⟩
  have un0 : ∀ b o, s.heap.get? b = some o → b ≠ e ∧ b ≠ d := fun b o q => ⟨Nat.ne_of_lt (Nat.lt_of_lt_of_le (Heap.lt_size q) M.new), Nat.ne_of_lt (Nat.lt_of_lt_of_le (Heap.lt_size q) M.dbig)⟩
  have tr : ∀ b o, H b = some o → (upd (upd H d (.xd [(p, v)])) e (ExV (.ref C) (some d) e)) b = some o := fun b o q => by rw [upd_ne (ne_of_none q ne), upd_ne (ne_of_none q nd)]; exact q
  have U : Un X.fs [] H (upd (upd H d (.xd [(p, v)])) e (ExV (.ref C) (some d) e)) s.heap h' := {
    keep := fun b o q _ _ _ => M.keep b o q
    slot := fun b o q _ _ _ => ⟨o.slots, M.keep b o q⟩
    free := fun b o q n _ => by rw [upd_ne (un0 b o q).1, upd_ne (un0 b o q).2]; exact n
    there := fun b o q _ => ⟨o, M.keep b o q⟩
    tups := fun b xs q => tr b _ q
    frzs := fun b o xs q => tr b _ q
    tbls := fun b ps q => ⟨#[], by rw [tr b _ q]; simp⟩ }
  refine I.un (t' := tk) U fun b o q => ?_
  by_cases hb : b = e
  · subst hb
    rw [upd_same] at q
    cases q
    exact exV_ok ho ⟨rfl, rfl⟩ rfl
  · rw [upd_ne hb] at q
    by_cases hd : b = d
    · subst hd
      rw [upd_same] at q
      cases q
      exact ⟨_, M.ns, fun f => relO_one r f⟩
    · rw [upd_ne hd] at q
      exact (I.hok b o q).stay (fun c y _ z => M.keep c y z) (fun c z => tr c _ z) fun c xs z => tr c _ z
theorem run_mkE (T : EcK X.K C) (U : EcI X.K C fI p) {k : Nat} (hr : Room k X.A) (I : Inv X pins σ H s) {v : V} {u : Value} (r : L2.RelV v u) {Q : VK} {us : List Value} {kw : List (Str × Value)} (ha : (⟨us, kw⟩ : Args) = ⟨[u], []⟩ ∨ (⟨us, kw⟩ : Args) = ⟨[], [(p, u)]⟩)
    (q : ∀ a d, H a = none → H d = none → d ≠ a → Q (.ref a) (upd (upd H d (.xd [(p, v)])) a (ExV (.ref C) (some d) a))) : wpAny (model X.prog X.w) X.A (call (.ref C) us kw) (EP X pins σ Q) X.xe s := by
  refine wpAny_call (madeE T U I.kIn I.nolimit (by have := hr.dp; omega) ha fun h' tk e d M => ?_)
  obtain ⟨n1, n2, n3, J⟩ := Inv.made2 (tk := tk) I M r
  exact ⟨.ref e, _, J, rfl, q e d n1 n2 n3⟩
def tMkE (C : Addr) (p : Str) (t : TA) : TE := fun σ H Q => t σ H fun vs H1 => ∃ v, vs = [v] ∧ ∀ a d, H1 a = none → H1 d = none → d ≠ a → Q (.ref a) (upd (upd H1 d (.xd [(p, v)])) a (ExV (.ref C) (some d) a))
/-- X(e), an own error, as a value -/
theorem pe_mkE {e : Expr} {t : TA} {np pos : Pos} {k : Nat} (T : EcK X.K C) (U : EcI X.K C fI p) (gC : X.mg x = some (.ref C)) (hr : Room k X.A) (ha : PA X [e] t) (hg : Gl X x := by rfl) (hdb : (x == ("__debug__" : Str)) = false := by decide)
    (he : starEach (e :: []) X.env = (false, eval e X.env) :: starEach [] X.env := by rfl) (hpl : (backTo pos (starEach [] X.env)).any (·.1) = false := by rfl) : PE X (.Call (.Name x np) [e] [] pos) (tMkE C p t) := by
  refine ⟨fun pins s σ H Q I h => wpAny_Call_Name_kw (ld_glob I hg gC ?_ hdb)⟩
  refine PySem.W.callWith_K (h₀ := X.base) I.ok.mod.kin T.kp (thn (ha.run pos pins s σ H _ I h) fun us s1 ⟨vs, H1, I1, r, v, ev, q⟩ => ⟨I1.kIn, ?_⟩) he hpl
  subst ev
  obtain ⟨u, rfl, ru⟩ := vals1 r
  exact run_mkE T U hr I1 ru (.inl rfl) q
/-- X(p = e) -/
theorem pe_mkEk {e : Expr} {te : TE} {np pos kpos : Pos} {k : Nat} (T : EcK X.K C) (U : EcI X.K C fI p) (gC : X.mg x = some (.ref C)) (hr : Room k X.A) (ha : PE X e te) (hg : Gl X x := by rfl) (hdb : (x == ("__debug__" : Str)) = false := by decide)
    (hall : (backToKw pos (keywordEach [⟨some p, e, kpos⟩] X.env)).all (·.1.isSome) = true := by rfl) (hks : (backToKw pos (keywordEach [⟨some p, e, kpos⟩] X.env)).filterMap (·.1) = [p] := by rfl)
    (hpl : ((backTo pos (starEach [] X.env)).any (·.1) || (backToKw pos (keywordEach [⟨some p, e, kpos⟩] X.env)).any (·.1.isNone)) = false := by rfl) : PE X (.Call (.Name x np) [] [⟨some p, e, kpos⟩] pos) (tMkE C p (tCons te tNil)) := by
  refine ⟨fun pins s σ H Q I h => wpAny_Call_Name_kw (ld_glob I hg gC ?_ hdb)⟩
  have hk : PK X [⟨some p, e, kpos⟩] (tCons te tNil) := pk_cons ha pk_nil
  refine PySem.W.callWith_KW0 (h₀ := X.base) I.ok.mod.kin T.kp hall (thn (hk.run pos pins s σ H _ I h) fun us s1 ⟨vs, H1, I1, r, v, ev, q⟩ => ⟨I1.kIn, ?_⟩) hpl
  subst ev
  obtain ⟨u, rfl, ru⟩ := vals1 r
  rw [hks]
  exact run_mkE T U hr I1 ru (.inr rfl) q
/-- a bare own error: no __init__ of its own, no argument -/
theorem made0 {Q : Value → Shared → Prop} {A : Around} {E : Value → Shared → Prop} (T : EcK X.K C) (h0 : PySem.W.findIn X.K (.ref C) "__init__" = some (some (.builtin "Exception.__init__"))) (I : Inv X pins σ H s)
    (q : ∀ (h' : Heap) (a t : Addr), (∀ b o, s.heap.get? b = some o → h'.get? b = some o) → s.heap.objs.size ≤ a → h'.get? a = some (PySem.W.excObj C t none .none) → Q (.ref a) { s with heap := h' }) : wpAny (model X.prog X.w) A (call (.ref C) []) Q E s := by
  obtain ⟨nm, N, qn, bs, bm, hdct, sn, sub, ab, col, dd, k0, k1, k2, k3, k5, hC, tl⟩ := PySem.W.excInit_of I.kIn T.mke
  have hi := PySem.W.looks_findIn (M := model X.prog X.w) I.kIn h0
  obtain ⟨hp, g, d, t, os⟩ := s
  exact PySem.W.call_B F.excBase_Exception tl hC hi (Nat.zero_le _) fun h' k e _ => q h' _ _ k (Nat.le_succ _) e
def tMk0 (C : Addr) : TE := fun _ H Q => ∀ a, H a = none → Q (.ref a) (upd H a (ExV (.ref C) none a))
theorem pe_mk0 {np pos : Pos} (T : EcK X.K C) (h0 : PySem.W.findIn X.K (.ref C) "__init__" = some (some (.builtin "Exception.__init__"))) (gC : X.mg x = some (.ref C)) (hg : Gl X x := by rfl) (hdb : (x == ("__debug__" : Str)) = false := by decide) :
    PE X (.Call (.Name x np) [] [] pos) (tMk0 C) := by
  refine ⟨fun pins s σ H Q I h => wpAny_Call_Name_kw (ld_glob I hg gC ?_ hdb)⟩
  refine PySem.W.callWith_K0 I.kIn T.kp (made0 T h0 I fun h' a t k na ha => ?_)
  exact ⟨.ref a, _, I.laid (t' := s.toks) (o := ExV (.ref C) none a) k na (exV_ok ha ⟨rfl, rfl⟩ rfl), rfl, h a (I.hok.fresh na)⟩
/-- e.f, e an own error -/
def tExf (C : Addr) (f : Str) (te : TE) : TE := fun σ H Q => te σ H fun y H1 => ∃ (a dd : Addr) (fs : List (Str × V)) (v : V), y = .ref a ∧ H1 a = some (ExV (.ref C) (some dd) a) ∧ H1 dd = some (.xd fs) ∧ fs.lookup f = some v ∧ Q v H1
theorem inst_of {H1 : Hp} {a : Addr} {d : Option Addr} (I : Inv X pins σ H1 s) (ha : H1 a = some (ExV (.ref C) d a)) (hd : ∀ dd, d = some dd → ∃ fs, H1 dd = some (.xd fs)) : ∃ (oe : Obj) (od : Option Obj), PySem.W.InstAt s.heap a oe C od ∧
    ∀ dd fs, d = some dd → H1 dd = some (.xd fs) → ∃ o, od = some o ∧ ∀ n v, fs.lookup n = some v → ∃ u, PySem.W.lookIn n o = some (some u) ∧ L2.RelV v u := by
  obtain ⟨oe, vs, ho, hz, hv⟩ := exV_at I.hok ha
  have nc : PySem.W.notCls oe = true := by
    unfold PySem.W.notCls
    rw [hv] <;> rfl
  cases d with
  | none =>
    refine ⟨oe, none, ⟨ho, hz.1, nc, ?_⟩, fun dd _ z => nomatch z⟩
    rw [hz.2]
    trivial
  | some dd =>
    obtain ⟨fs, hf⟩ := hd dd rfl
    obtain ⟨mA, hns, hr⟩ := (show ObjOk X.prog X.w H1 s.heap dd (.xd fs) from I.hok dd _ hf)
    obtain ⟨od, hod, hl⟩ := lookIn_ns hns
    refine ⟨oe, some od, ⟨ho, hz.1, nc, ?_⟩, fun d2 fs2 e2 h2 => ?_⟩
    · rw [hz.2]
      exact hod
    · cases e2
      rw [hf] at h2
      cases h2
      refine ⟨od, rfl, fun n v e => ?_⟩
      obtain ⟨u, hu, ru⟩ := RelO.some_of (v := v) (o := mA n) (by rw [← e]; exact hr n)
      exact ⟨u, by rw [hl, hu], ru⟩
theorem pe_exf {e : Expr} {te : TE} {n : Str} {pos : Pos} (T : EcK X.K C) (hno : PySem.W.findIn X.K (.ref C) n = some none) (he : PE X e te) (hb : attributeBase e n X.env (eval e X.env) = eval e X.env := by rfl) : PE X (.Attribute e n pos) (tExf C n te) := by
  refine ⟨fun pins s σ H Q I h => attr_of hb (thn (he.run pins s σ H _ I h) fun u s1 ⟨y, H1, I1, ry, a, dd, fs, v, ey, ha, hd, hl, q⟩ => ?_)⟩
  subst ey
  obtain rfl : u = Value.ref a := ry
  obtain ⟨oe, od, J, look⟩ := inst_of I1 ha fun d2 e2 => ⟨fs, by cases e2; exact hd⟩
  obtain ⟨o, rfl, lk⟩ := look dd fs rfl hd
  obtain ⟨w', hw, rw'⟩ := lk n v hl
  exact HandSPX.exc_get I1.kIn J T.ga T.gg T.ex (PySem.W.findObj_own T.hd hno rfl hw) (handed_of rw') ⟨v, H1, I1.tok _, rw', q⟩
/-- isinstance(e, c), e an own error -/
def rIsX (K : PySem.W.Frag) (C : Addr) : List V → Hp → VK → Prop := fun xs H Q => ∃ (a : Addr) (d : Option Addr) (c : V) (cv : Value) (b : Bool), xs = [.ref a, c] ∧ H a = some (ExV (.ref C) d a) ∧ (∀ dd, d = some dd → ∃ fs, H dd = some (.xd fs)) ∧
  (∀ u, L2.RelV c u → u = cv) ∧ PySem.W.kitOne K (.ref C) cv = some b ∧ Q (.bl b) H
theorem call_isX (T : EcK X.K C) : CallR X (.builtin "isinstance") (rIsX X.K C) := by
  intro pins s σ H xs us Q I r h
  obtain ⟨a, d, c, cv, b, rfl, ha, hd, hc, e, q⟩ := h
  obtain ⟨u1, u2, rfl, r1, r2⟩ := vals2 r
  cases r1
  have ec := hc _ r2
  subst ec
  obtain ⟨oe, od, J, _⟩ := inst_of I ha hd
  have hcl : (PySem.W.clsIn X.K C).isSome = true := by
    obtain ⟨cd, hcd, _⟩ := PySem.W.any_some T.hd
    rw [hcd]
    rfl
  exact PySem.W.kia_one (PySem.W.kitx_exc hcl T.ga T.gg T.ex T.cl T.gt T.tk T.ob) I.kIn J e (fun z => nomatch z) fun tk => ⟨.bl b, H, I.kept (t' := tk) fun _ _ z => z, rfl, q⟩
end
end Vk
set_option Elab.async false
set_option linter.all false
set_option maxRecDepth 100000
set_option maxHeartbeats 4000000
namespace Vk
open PySem PySem.Spec PyProof.Rows L2 PySem.Vx
section
variable {X : Cx} {pins : List (Addr × Obj)} {σ : L2.St} {H : Hp} {s : Shared} {C fI : Addr} {p x : Str}
/-- raise X(e): the error is let go, its dict stands -/
theorem pmk_E {e : Expr} {t : TA} {np pos : Pos} {k : Nat} (T : EcK X.K C) (U : EcI X.K C fI p) (gC : X.mg x = some (.ref C)) (hr : Room k X.A) (ha : PA X [e] t) (hg : Gl X x := by rfl) (hdb : (x == ("__debug__" : Str)) = false := by decide)
    (he : starEach (e :: []) X.env = (false, eval e X.env) :: starEach [] X.env := by rfl) (hpl : (backTo pos (starEach [] X.env)).any (·.1) = false := by rfl) :
    PMk X (.Call (.Name x np) [e] [] pos) (fun σ H Q => t σ H fun vs H1 => ∃ v, vs = [v] ∧ ∀ d, H1 d = none → Q (.ref C) (some d) (upd H1 d (.xd [(p, v)]))) := by
  intro pins s σ H Q I h
  refine wpAny_Call_Name_kw (ld_glob I hg gC ?_ hdb)
  refine PySem.W.callWith_K (h₀ := X.base) I.ok.mod.kin T.kp (thn (ha.run pos pins s σ H _ I h) fun us s1 ⟨vs, H1, I1, r, v, ev, q⟩ => ⟨I1.kIn, ?_⟩) he hpl
  subst ev
  obtain ⟨u, rfl, ru⟩ := vals1 r
  have room : X.A.depth + 1 < recursionLimit := by have := hr.dp; omega
  refine wpAny_call (madeE T U I1.kIn I1.nolimit room (.inl rfl) fun h' tk e d M => ?_)
  obtain ⟨t1, ho⟩ := M.obj
  obtain ⟨G, g1, g2⟩ := restrict h' fun b => decide (b ≠ e)
  have gk : ∀ b, b ≠ e → G.get? b = h'.get? b := fun b hb => g1 b (decide_eq_true hb)
  have ge : G.get? e = none := g2 e (by simp)
  have ob : ObjOk X.prog X.w (upd H1 d (.xd [(p, v)])) G d (.xd [(p, v)]) := ⟨_, M.ns.at (fun o q => (gk d M.dne).trans q), fun f => relO_one ru f⟩
  have J : Inv X pins σ (upd H1 d (.xd [(p, v)])) ⟨G, s1.gens, s1.drawn, tk, s1.os⟩ := I1.laid (t' := tk) (fun b o q => (gk b (Nat.ne_of_lt (Nat.lt_of_lt_of_le (Heap.lt_size q) M.new))).trans (M.keep b o q)) M.dbig ob
  refine ⟨e, _, _, ⟨G, s1.gens, s1.drawn, tk, s1.os⟩, _, .ref C, some d, rfl, J, fun b o q => ?_, ge, ho, ⟨rfl, rfl⟩, rfl, rfl, ?_, rfl, I1.bare, raises_own T.ex T.ty, q d (I1.hok.fresh M.dbig)⟩
  · by_cases hb : b = e
    · have z : G.get? b = some o := q
      rw [hb, ge] at z
      cases z
    · exact (gk b hb).symm.trans q
  · rw [upd_ne (Ne.symm M.dne)]
    exact I1.hok.fresh M.new
/-- raise X() -/
theorem pmk_0 {np pos : Pos} (T : EcK X.K C) (h0 : PySem.W.findIn X.K (.ref C) "__init__" = some (some (.builtin "Exception.__init__"))) (gC : X.mg x = some (.ref C)) (hg : Gl X x := by rfl) (hdb : (x == ("__debug__" : Str)) = false := by decide) :
    PMk X (.Call (.Name x np) [] [] pos) (fun _ H Q => Q (.ref C) none H) := by
  intro pins s σ H Q I h
  refine wpAny_Call_Name_kw (ld_glob I hg gC ?_ hdb)
  refine PySem.W.callWith_K0 I.kIn T.kp (made0 T h0 I fun h' a t k na ha => ?_)
  have none_a : s.heap.get? a = none := by
    cases e : s.heap.get? a with
    | none => rfl
    | some o => exact absurd (Heap.lt_size e) (Nat.not_lt.mpr na)
  exact ⟨a, _, _, s, H, .ref C, none, rfl, I, k, none_a, ha, ⟨rfl, rfl⟩, rfl, rfl, I.hok.fresh na, rfl, I.bare, raises_own T.ex T.ty, h⟩
/-- a pinned exception that is newer than the def's entry is tracked -/
theorem Inv.track {a : Addr} {oe : Obj} {vs : Array Value} {cls : Value} {d : Option Addr} (I : Inv X ((a, oe) :: pins) σ H s) (hz : Zc cls d oe) (hv : oe.data = .fields vs) (h0 : X.s_0.heap.get? a = none) (hp : ∀ q ∈ X.pn ++ pins, q.1 ≠ a) :
    Inv X pins σ (upd H a (ExV cls d a)) s := by
  obtain ⟨hget, na, nL, nF, ncell⟩ := I.pin (a, oe) (List.mem_append_right _ List.mem_cons_self)
  have tr : ∀ b o, H b = some o → upd H a (ExV cls d a) b = some o := fun b o q => by rw [upd_ne (ne_of_none q na)]; exact q
  refine ⟨I.ok, I.os, I.bare, ⟨I.base.keep, I.base.slot, fun b o e n hx => ?_, I.base.there, fun b xs e => tr b _ (I.base.tups b xs e), fun b o xs e => tr b _ (I.base.frzs b o xs e), fun b ps e => ?_⟩, I.loc, I.cell, ?_, fun y c e => ?_, fun q hq => ?_, fun b o e => ?_, I.len⟩
  · have nb : b ≠ a := fun z => by
      rw [z, h0] at e
      cases e
    rw [upd_ne nb]
    exact I.base.free b o e n hx
  · obtain ⟨m, z⟩ := I.base.tbls b ps e
    exact ⟨m, tr b _ z⟩
  · rw [upd_ne (Ne.symm nL)]
    exact I.free
  · have nc : c ≠ a := fun z => by
      obtain ⟨v, o, ho, hd⟩ := I.cell y c e
      rw [z] at ho
      have hg2 : s.heap.get? a = some oe := hget
      rw [hg2] at ho
      cases ho
      exact ncell v hd
    rw [upd_ne nc]
    exact I.freeC y c e
  · obtain ⟨e1, n1, l1, f1, c1⟩ := I.pin q (by
      rcases List.mem_append.mp hq with z | z
      · exact List.mem_append_left _ z
      · exact List.mem_append_right _ (List.mem_cons_of_mem _ z))
    exact ⟨e1, by rw [upd_ne (hp q hq)]; exact n1, l1, f1, c1⟩
  · by_cases hb : b = a
    · subst hb
      rw [upd_same] at e
      cases e
      exact exV_ok hget hz hv
    · rw [upd_ne hb] at e
      exact (I.hok b o e).stay (fun c v _ z => z) (fun c z => tr c _ z) fun c xs z => tr c _ z
theorem Inv.unsuiteP {a : Addr} {q : Addr × Obj} (I : Inv (X.suite a (q :: (X.pn ++ pins))) [] σ H s) (ok : X.Ok) : Inv X (q :: pins) σ H s :=
  ⟨ok, I.os, I.bare, I.base, I.loc, I.cell, I.free, I.freeC, fun r hr => I.pin r (List.mem_append_left _ (by
    rcases List.mem_append.mp hr with z | z
    · exact List.mem_cons_of_mem _ (List.mem_append_left _ z)
    · rcases List.mem_cons.mp z with z | z
      · rw [z]
        exact List.mem_cons_self
      · exact List.mem_cons_of_mem _ (List.mem_append_right _ z))), I.hok, I.len⟩
end
/-- what 'except x as n' wishes of an exception of the body; behind the suite the exception is tracked -/
def wKeep (K : PySem.W.Frag) (c : Value) (i : Nat) (ts : Addr → Value → Option Addr → TS) (Wout : WX) (D : Ends) : WX := fun cls d σ H =>
  ∃ b, PySem.W.exmOne K cls c = some b ∧ (b = true → ∀ a, H a = none → ts a cls d { nx := fun σ' H' => D.nx (σ'.set i none) (upd H' a (ExV cls d a)), rt := fun v H' => D.rt v (upd H' a (ExV cls d a)), bk := fun σ' H' => D.bk (σ'.set i none) (upd H' a (ExV cls d a)), ct := fun σ' H' => D.ct (σ'.set i none) (upd H' a (ExV cls d a)) } (σ.set i (some (.ref a))) H) ∧ (b = false → Wout cls d σ H)
section
variable {X : Cx} {x n : Str} {c : Value} {i : Nat} {body suite : List Stmt} {b₀ : Stmt} {np pos pos' : Pos} {tb : WX → TS} {ts : Addr → Value → Option Addr → TS} {Wout : WX}
theorem ps_try_keep (hex : X.ex = []) (hs : X.stack = X.env :: X.outer) (hf : X.env.frame = some X.env.locals) (hN : X.N.Nodup) (hi : X.N[i]? = some n) (hln : X.env.kindOf n = some .local) (hc : Names X x c) (tk : Takes X Wout)
    (hb : ∀ (W : WX) (pn : List (Addr × Obj)) (xe : Value → Shared → Prop), Takes (X.tr pn xe) W → PassesOwn (model X.prog X.w) X.A X.env xe → PSs (X.tr pn xe) body (tb W))
    (hsu : ∀ (a : Addr) (oe : Obj) (cls : Value) (d : Option Addr) (pn : List (Addr × Obj)), Zc cls d oe → (∃ vs, oe.data = .fields vs) → PSs (X.suite a ((a, oe) :: pn)) (b₀ :: suite) (ts a cls d)) :
    PS X (.Try body [.ExceptHandler (some (.Name x np)) (some n) (b₀ :: suite) pos'] [] [] pos) (fun D σ H => tb (wKeep X.K c i ts Wout D) D σ H) := by
  refine ⟨fun pins s σ H D I h => ?_⟩
  have ok := I.ok
  have hfr : X.A.frames = some (X.env :: X.outer) := by rw [ok.frames, hs]
  have locN : Loc X.env.scope n := .inl hln
  refine wpAny_Try_except ?_
  refine wpAny_mono ((hb (wKeep X.K c i ts Wout D) (X.pn ++ pins) (fun e s₁ => wpAny (model X.prog X.w) X.A (noteFrame e X.env) (fun _ s₂ => wpAny (model X.prog X.w) X.A (setFlight e none)
    (fun _ s₃ => wpAny (model X.prog X.w) X.A (handleBy e X.env [.ExceptHandler (some (.Name x np)) (some n) (b₀ :: suite) pos']) (SP X pins D) X.xe s₃) X.xe s₂) X.xe s₁) (fun u s' xx => ?_) PassesOwn.looking).run [] s σ H D (I.toTry _) h)
    (fun f s1 hsp => ?_) (fun e s1 he => he)
  · obtain ⟨a, B, sI, pins', σ', H', cls, d, rfl, J', nb, up, sky, na, os, ag, b, hb1, hyes, hno⟩ := xx
    have J : Inv X pins σ' H' sI := J'.ofTry ok
    have sky2 : Sky B (X.env :: X.outer) a (Zc cls d) X.env.locals s'.heap := by rw [← hs]; exact sky
    have notB : B.get? a = none := by
      rcases sky with ⟨_, z, _⟩ | z | z
      · exact z
      · exact z.2.1
      · exact z.2.1
    show wpAny (model X.prog X.w) X.A (noteFrame (.ref a) X.env) _ _ _
    refine Sky.land Zc.steady hfr hf sky2 fun h3 fl3 up3 => ?_
    have J3 : Inv X pins σ' H' { s' with heap := h3 } := J.landed nb fl3.1 (up.trans up3) os ag
    obtain ⟨oe3, vs3, he3, hz3, hd3⟩ := fl3.there
    have nfr : a ∉ frs (X.env :: X.outer) := fun hm => by
      obtain ⟨_, o', e', hnf⟩ := fl3.2.2.1.mem hm
      rw [he3] at e'
      cases e'
      exact hnf _ hd3
    have notI : sI.heap.get? a = none := by
      cases e : sI.heap.get? a with
      | none => rfl
      | some o =>
        have z := nb a o e (by rw [hs]; exact nfr)
        rw [notB] at z
        cases z
    have not0 : X.s_0.heap.get? a = none := by
      cases e : X.s_0.heap.get? a with
      | none => rfl
      | some o =>
        obtain ⟨o', z⟩ := J.base.there a o e (by rw [hex]; exact fun z => nomatch z)
        rw [notI] at z
        cases z
    have nPin : ∀ q ∈ X.pn ++ pins, q.1 ≠ a := fun q hq z => by
      have y := (J'.pin q (List.mem_append_left _ hq)).1
      rw [z, notI] at y
      cases y
    have nL : a ≠ X.env.locals := fun z => nfr (List.mem_filterMap.mpr ⟨X.env, List.mem_cons_self, by rw [hf, z]⟩)
    have nF : a ∉ X.fs := fun hm => by
      obtain ⟨e, he, q⟩ := List.mem_filterMap.mp hm
      exact nfr (List.mem_filterMap.mpr ⟨e, List.mem_cons_of_mem _ he, q⟩)
    have S3 := J3.suite he3 hd3 na nL nF
    refine wpAny_handleBy_cons (codeAny_handlers_test ?_) (by intro q; cases q)
    have LT : PySem.W.Looks (model X.prog X.w) h3 (typeOf (.ref a)) cls := fun A Q E s k q => wpAny_typeOf_ref (k _ _ he3) (by rw [hz3.1]; exact q)
    have LM := PySem.W.exm_one (M := model X.prog X.w) (J3.kIn) LT hb1
    have test : ∀ {Q : Value → Shared → Prop} {E : Value → Shared → Prop}, Q c { s' with heap := h3 } → wpAny (model X.prog X.w) (X.A.mark (some (.ref a))) (eval (.Name x np) X.env) Q E { s' with heap := h3 } := fun {Q E} q => by
      obtain ⟨hg, hdbg, hm | ⟨hm, hv, hnn⟩⟩ := hc
      · exact ld_glob (X := X.suite a ((a, oe3) :: (X.pn ++ pins))) S3 hg hm q hdbg
      · exact ld_blt (X := X.suite a ((a, oe3) :: (X.pn ++ pins))) S3 hg hm hv q hnn hdbg
    refine test (LM.here ?_)
    cases b with
    | true =>
      refine codeAny_handlers_suite_as ?_
      refine HandSPX.lands_againZ fl3 fun h4 fl4 up4 => ?_
      have J4 : Inv X pins σ' H' { s' with heap := h4 } := J.landed nb fl4.1 ((up.trans up3).trans up4) os ag
      obtain ⟨oe4, vs4, he4, hz4, hd4⟩ := fl4.there
      have S4 := J4.suite he4 hd4 na nL nF
      refine store_ok (X := X.suite a ((a, oe4) :: (X.pn ++ pins))) (v := .ref a) S4 hN hi locN rfl (fun s5 S5 => ?_) (.inr hln)
      refine wpAny_mono ((hsu a oe4 cls d (X.pn ++ pins) hz4 ⟨_, hd4⟩).run [] s5 _ H' _ S5 (hyes rfl a na)) (fun f s6 hsp => ?_) (fun _ _ z => False.elim z)
      have fin : ∀ {σ6 : L2.St} {H6 : Hp} {Q : Shared → Prop}, Inv (X.suite a ((a, oe4) :: (X.pn ++ pins))) [] σ6 H6 s6 → (∀ s7, Inv X pins (σ6.set i none) (upd H6 a (ExV cls d a)) s7 → Q s7) →
          wpAny (model X.prog X.w) X.A (do bindName X.env n .none; unbindBehindTheSuite X.env n pos') (fun _ s7 => Q s7) X.xe s6 :=
        fun {σ6 H6 Q} S6 hq => gone_ok (Inv.unsuiteP S6 ok) hN hi hln fun s7 J7 => hq s7 (Inv.track J7 hz4 hd4 not0 nPin)
      cases f with
      | next =>
        obtain ⟨σ6, H6, S6, q6⟩ := hsp
        exact fin S6 fun s7 J7 => ⟨_, _, J7, q6⟩
      | brk =>
        obtain ⟨σ6, H6, S6, q6⟩ := hsp
        exact fin S6 fun s7 J7 => ⟨_, _, J7, q6⟩
      | cont =>
        obtain ⟨σ6, H6, S6, q6⟩ := hsp
        exact fin S6 fun s7 J7 => ⟨_, _, J7, q6⟩
      | ret u =>
        obtain ⟨v6, σ6, H6, S6, r6, q6⟩ := hsp
        exact fin S6 fun s7 J7 => ⟨_, _, _, J7, r6, q6⟩
    | false =>
      show wpAny _ X.A (handleBy (.ref a) X.env []) _ _ _
      refine wpAny_handleBy_nil ?_
      obtain ⟨k1, k2, k3, oe, vs, T, oT, ts', he, hz, hd, h1, hr⟩ := id fl3
      unfold PySem.passOn
      refine wpAny_bind (wpAny_field he hd h1 ?_)
      rw [if_neg (show ¬ ((Value.ref T == Value.none) = true) from by simp)]
      have fin : wpAny (model X.prog X.w) X.A (setFlight (.ref a) X.env.frame) (fun _ s4 => wpAny (model X.prog X.w) X.A (throw (.ref a) : Sem Flow) (SP X pins D) X.xe s4) X.xe { s' with heap := h3 } := by
        rw [hf]
        refine HandSPX.setFlight_upZ fl3 fun h4 hh4 up4 => wpAny_throw (tk _ _ ?_)
        exact ⟨a, B, sI, pins, σ', H', cls, d, rfl, J, nb, (up.trans up3).trans up4, .inr (.inr (by rw [hs]; exact hh4)), na, os, ag, hno rfl⟩
      first
        | exact wpAny_bind (wpAny_pure (wpAny_bind fin))
        | exact wpAny_bind fin
  · cases f with
    | next =>
      obtain ⟨σ', H', J', q⟩ := hsp
      exact wpAny_execs_nil ⟨σ', H', J'.ofTry ok, q⟩
    | brk =>
      obtain ⟨σ', H', J', q⟩ := hsp
      exact ⟨σ', H', J'.ofTry ok, q⟩
    | cont =>
      obtain ⟨σ', H', J', q⟩ := hsp
      exact ⟨σ', H', J'.ofTry ok, q⟩
    | ret u =>
      obtain ⟨v, σ', H', J', r, q⟩ := hsp
      exact ⟨v, σ', H', J'.ofTry ok, r, q⟩
end
end Vk
set_option Elab.async false
set_option linter.all false
set_option maxRecDepth 100000
set_option maxHeartbeats 4000000
namespace Vk
open PySem PySem.Spec PyProof.Rows L2
abbrev St := L2.St
section
variable {X : Cx}
/-- a list comprehension, its list's place no table of the machine's -/
def tLcN (wi : TI) (g : TG) (tt : TT) (te : TE) (vs : List Nat) : TE := fun σ H Q => wi σ H fun J H1 => ∀ D, H1 D = none → D ≠ sysModules → ∃ W : Nat → Nat → Hp → Prop,
  (∃ m, W 0 m (upd H1 D (.lst []))) ∧ ∀ i m H, W i m H → (J.stop i H ∧ Q (.ref D) H) ∨ (J.go i H ∧ ∃ Nx : Hp → Prop, (∀ H', Nx H' → ∃ m', m' < m ∧ W (i + 1) m' H') ∧
    ∀ x H', J.yld i H x H' → g x (wipe σ vs) H' fun σ2 H2 => wipe σ2 vs = wipe σ vs ∧ tt σ2 H2 fun b H3 => if b = true then te σ2 H3 fun y H4 => ∃ acc, H4 D = some (.lst acc) ∧ acc.length < sizeLine ∧ Nx (upd H4 D (.lst (acc ++ [y]))) else Nx H3)
theorem lcN {pins : List (Addr × Obj)} {s : Shared} {σ : St} {H : Hp} {Q : VK} {elt tg iter : Expr} {ifs : List Expr} {scope : Scope} {own : List (Str × Nat)} {pos pos' : Pos} {wi : TI} {g : TG} {tt : TT} {te : TE} {use : Option (Value → Sem Unit)} {Qf : Value → Shared → Prop}
    (hc : X.calm = true) (hN : X.N.Nodup) (I : Inv X pins σ H s) (hi : PI X tg iter wi) (ok : BlkOk X.N X.env.scope scope own)
    (hg : ∀ (s : Shared) (H : Hp) (C : Addr) (cl : List (Str × Addr)) (fp : List Addr), PG (X.blk s H scope (compEnvC scope cl C X.env) fp) tg g) (ht : ∀ (s : Shared) (H : Hp) (C : Addr) (cl : List (Str × Addr)) (fp : List Addr), PTs (X.blk s H scope (compEnvC scope cl C X.env) fp) ifs tt)
    (he : ∀ (s : Shared) (H : Hp) (C : Addr) (cl : List (Str × Addr)) (fp : List Addr), PE (X.blk s H scope (compEnvC scope cl C X.env) fp) elt te) (hs : ∀ x, foldedSetIterable iter X.env x = pure x)
    (h : tLcN wi g tt te (own.map (·.2)) σ H Q)
    (post : ∀ D C s' m H', Inv X pins σ H' s' → Q (.ref D) H' → s'.heap.Ns C m → FpOk X pins H' C → compPost (model X.prog X.w) X.A X.xe use Qf (.ref D) C (.ok .next) s') :
    wpAny (model X.prog X.w) X.A (comprehension (.ListComp elt [⟨tg, iter, ifs, 0⟩] scope pos) scope X.env pos' (newList []) false (eval iter X.env) use) Qf X.xe s := by
  have allFree : ∀ y ∈ scope.names, y.2 = .free → ∃ c, X.env.cells.lookup y.1 = some c := fun y hy e => by
    rcases ok.free y hy e with k | k
    · exact I.ok.has _ (.inl k)
    · exact I.ok.has _ (.inr k)
  refine wpAny_comprehension_free (use := use) rfl hs (closure_ok allFree) ok.kind (fun y hy e => by rw [ok.uniq y hy, e])
    (thn (hi.run pins s σ H _ I h) fun xv z1 hx => thn hx fun itv z2 h2 => ?_)
  obtain ⟨it, fp, tn, J, G2, e, U2, T, at2, okF2, q⟩ := h2
  subst e
  refine wpAny_newObj_type (newEnv_comp ?_) (by show 0 ≤ sizeLine; decide)
  generalize eqD : z2.heap.objs.size = D
  have newD : G2 D = none := U2.hok.fresh (Nat.le_of_eq eqD)
  obtain ⟨W, ⟨start0, first⟩, turn⟩ := q D newD (by rw [← eqD]; exact Nat.ne_of_gt U2.big)
  -- the new list
  generalize eqz3 : ({ z2 with heap := z2.heap.push { cls := .type "list", data := .seq ([] : List Value).toArray } } : Shared) = z3
  have U3 : Inv X pins σ (upd G2 D (.lst [])) z3 := by
    rw [← eqz3]
    refine U2.laid (t' := z2.toks) (fun b o e => Heap.get?_push_of_some _ e) (Nat.le_of_eq eqD) ⟨Nat.zero_le _, [], 0, .nil, ?_⟩
    rw [← eqD]
    exact Heap.get?_push_size _ rfl
  have heap3 : z3.heap = z2.heap.push { cls := .type "list", data := .seq ([] : List Value).toArray } := by rw [← eqz3]
  have below : ∀ b ∈ fp, b < z2.heap.objs.size := fun b hb => by
    obtain ⟨o, e, _⟩ := T.obj _ _ at2 b hb
    exact Heap.lt_size e
  have okF : ∀ b ∈ fp, FpOk X pins (upd G2 D (.lst [])) b ∧ b < z3.heap.objs.size := fun b hb => by
    have hlt := below b hb
    refine ⟨⟨?_, (okF2 b hb).2⟩, by rw [heap3, Heap.size_push]; exact Nat.lt_succ_of_lt hlt⟩
    rw [upd_ne (by rw [← eqD]; exact Nat.ne_of_lt hlt)]
    exact (okF2 b hb).1
  have at3 : tn 0 z3.heap := T.keep _ _ _ at2 fun b _ o e => by rw [heap3]; exact Heap.get?_push_of_some _ e
  have U4 := block_start U3 ok hN okF
  have gg := hg z3 (upd G2 D (.lst [])) z3.heap.objs.size (cellsFrom (z3.heap.objs.size + 1) scope.names (cloFrom X.env.cells scope.names [])) fp
  have gt := ht z3 (upd G2 D (.lst [])) z3.heap.objs.size (cellsFrom (z3.heap.objs.size + 1) scope.names (cloFrom X.env.cells scope.names [])) fp
  have ge := he z3 (upd G2 D (.lst [])) z3.heap.objs.size (cellsFrom (z3.heap.objs.size + 1) scope.names (cloFrom X.env.cells scope.names [])) fp
  show codeAny _ _ (.compStart (.ListComp elt [⟨tg, iter, ifs, 0⟩] scope pos) 0 (.ref it) (.ref D) (compEnvC scope (cellsFrom (z3.heap.objs.size + 1) scope.names (cloFrom X.env.cells scope.names [])) z3.heap.objs.size X.env)) (compPost (model X.prog X.w) X.A X.xe use Qf (.ref D) z3.heap.objs.size) { z3 with heap := pushCells (z3.heap.push { cls := .type "dict", data := .dict #[] }) scope.names }
  have noF : ∀ b ∈ fp, (upd G2 D (.lst [])) b = none := fun b hb => (okF b hb).1.1
  generalize eqC : compEnvC scope (cellsFrom (z3.heap.objs.size + 1) scope.names (cloFrom X.env.cells scope.names [])) z3.heap.objs.size X.env = cenv at U4 gg gt ge ⊢
  have locC : cenv.locals = z3.heap.objs.size := by subst eqC; rfl
  generalize eqG3 : upd G2 D (.lst []) = G3 at U3 U4 gg gt ge first noF okF
  generalize eqz4 : ({ z3 with heap := pushCells (z3.heap.push { cls := .type "dict", data := .dict #[] }) scope.names } : Shared) = z4 at U4 ⊢
  have at4 : tn 0 z4.heap := T.keep _ _ _ at3 fun b _ o e => by rw [← eqz4]; exact pushCells_keeps _ _ _ _ (Heap.get?_push_of_some _ e)
  have still : ∀ {σ' : St} {H' : Hp} {s' : Shared}, Inv (X.blk z3 G3 scope cenv fp) [] σ' H' s' → (∀ b ∈ fp, H' b = none) → ∀ b ∈ fp, FpOk (X.blk z3 G3 scope cenv fp) [] H' b := fun {σ' H' s'} I' nsC b hb =>
    ⟨nsC b hb, (I'.ok.exf b hb).1, I'.ok.exfs b hb, .inl hb, fun x c e => (I'.ok.exf b hb).2 x c e, fun p hp => absurd (show p ∈ ([] : List (Addr × Obj)) ++ [] from hp) (by simp)⟩
  have loop : codeAny (model X.prog X.w) X.A (.compLoop (.ListComp elt [⟨tg, iter, ifs, 0⟩] scope pos) 0 (.ref it) (.ref D) cenv) (compPost (model X.prog X.w) X.A X.xe use Qf (.ref D) z3.heap.objs.size) z4 := by
    refine compLoop_any (fun n s' => ∃ i H', Inv (X.blk z3 G3 scope cenv fp) [] (wipe σ (own.map (·.2))) H' s' ∧ tn i s'.heap ∧ (∀ b ∈ fp, H' b = none) ∧ W i n H') ?_ start0 ⟨0, G3, U4, at4, noF, first⟩
    rintro n z5 ⟨i, G5, U5, at5, no5, at_w⟩
    rcases turn i n G5 at_w with ⟨stop, fin0⟩ | ⟨go, Nx, toNx, goStep⟩
    · have stopD := T.done (X.blk z3 G3 scope cenv fp) rfl rfl rfl hc i [] z5 _ G5 (fun _ _ => False) U5 (still U5 no5) at5 stop
      refine thnF stopD fun r z6 ⟨isR, U6⟩ => ?_
      subst isR
      -- back in the def's context
      have U7 : Inv X pins σ G5 z6 := U3.call' (ch := fp) U6.os U6.base U6.hok U6.bare fun b hb => ⟨(okF b hb).1.2.2.2.1, (okF b hb).1.2.1, (okF b hb).1.2.2.2.2.1, (okF b hb).1.2.2.2.2.2⟩
      have freeC0 : G5 z3.heap.objs.size = none := by
        have z : G5 cenv.locals = none := U6.free
        rw [locC] at z
        exact z
      obtain ⟨m, nsC, _⟩ := U6.loc
      have nsC : z6.heap.Ns cenv.locals m := nsC
      rw [locC] at nsC
      exact post D z3.heap.objs.size z6 m G5 U7 fin0 nsC (U3.fpOk (Nat.le_refl _) freeC0)
    · have itemD := T.item (X.blk z3 G3 scope cenv fp) rfl rfl rfl hc i [] z5 _ G5 (fun _ _ => False) U5 (still U5 no5) at5 go
      refine thnF itemD fun r z6 ⟨u, isR, next6⟩ => ?_
      subst isR
      refine thnF next6 fun _ z7 ⟨x, G7, U7, rel7, yield7, at7, no7⟩ => ?_
      have U7b := U7.pinned (still U7 no7) (T.obj _ _ at7)
      refine thnF (gg.run _ z7 _ G7 x u _ U7b rel7 (goStep x G7 yield7)) fun _ z8 ⟨σe, G8, U8, wiped, r8⟩ => ?_
      refine thnF (gt.run _ z8 σe G8 _ U8 r8) fun b z9 ⟨G9, U9, r9⟩ => ?_
      -- the turn's end
      have close : ∀ {s' : Shared} {H' : Hp}, Inv (X.blk z3 G3 scope cenv fp) ([] ++ pinsAt fp z7.heap) σe H' s' → Nx H' → ∃ m, m < n ∧ ∃ i H', Inv (X.blk z3 G3 scope cenv fp) [] (wipe σ (own.map (·.2))) H' s' ∧ tn i s'.heap ∧ (∀ b ∈ fp, H' b = none) ∧ W i m H' := fun {s' H'} I' isNx => by
        obtain ⟨m', lt0, w'⟩ := toNx H' isNx
        have pinned0 : ∀ b ∈ fp, ∀ o, z7.heap.get? b = some o → s'.heap.get? b = some o ∧ H' b = none := fun b hb o e =>
          let z := I'.pin (b, o) (List.mem_append_right _ (List.mem_append_right _ (mem_pinsAt hb e)))
          ⟨z.1, z.2.1⟩
        have lenE : (wipe σ (own.map (·.2))).length = σe.length := by rw [← wiped, wipe_length]
        refine ⟨m', lt0, i + 1, H', (I'.unpinned (pins := [])).weak lenE (fun j v e => ?_), T.keep _ _ _ at7 fun b hb o e => (pinned0 b hb o e).1, fun b hb => ?_, w'⟩
        · rw [← wiped] at e
          exact (wipe_some e).1
        · obtain ⟨o, e, _⟩ := T.obj _ _ at7 b hb
          exact (pinned0 b hb o e).2
      cases b with
      | false =>
        simp only [Bool.false_eq_true, if_false] at r9 ⊢
        exact close U9 r9
      | true =>
        simp only [if_true] at r9 ⊢
        refine thnF (ge.run _ z9 σe G9 _ U9 r9) fun z z10 ⟨yv, G10, U10, rel10, acc, atD, small, isNx⟩ => ?_
        exact app_ok (X := X.blk z3 G3 scope cenv fp) U10 atD small rel10 fun z11 U11 => close U11 isNx
  exact codeAny_compStart_list loop (T.self X.A 0 _ _ _ at4 loop)
theorem pe_lcN {elt tg iter : Expr} {ifs : List Expr} {scope : Scope} {own : List (Str × Nat)} {pos : Pos} {wi : TI} {g : TG} {tt : TT} {te : TE} (hc : X.calm = true) (hN : X.N.Nodup) (hi : PI X tg iter wi) (ok : BlkOk X.N X.env.scope scope own)
    (hg : ∀ (s : Shared) (H : Hp) (C : Addr) (cl : List (Str × Addr)) (fp : List Addr), PG (X.blk s H scope (compEnvC scope cl C X.env) fp) tg g)
    (ht : ∀ (s : Shared) (H : Hp) (C : Addr) (cl : List (Str × Addr)) (fp : List Addr), PTs (X.blk s H scope (compEnvC scope cl C X.env) fp) ifs tt)
    (he : ∀ (s : Shared) (H : Hp) (C : Addr) (cl : List (Str × Addr)) (fp : List Addr), PE (X.blk s H scope (compEnvC scope cl C X.env) fp) elt te)
    (hs : ∀ x, foldedSetIterable iter X.env x = pure x := by intro _; rfl) : PE X (.ListComp elt [⟨tg, iter, ifs, 0⟩] scope pos) (tLcN wi g tt te (own.map (·.2))) := by
  refine ⟨fun pins s σ H Q I h => ?_⟩
  rw [eval_ListComp]
  refine lcN hc hN I hi ok hg ht he hs h fun D C s' m H' I' q hn f => ⟨m, hn, fun h2 sb => ?_⟩
  obtain ⟨f0, f1, f2, f3, f4, f5⟩ := f
  exact ⟨.ref D, H', I'.turned (t' := s'.toks) (fun b o hb e => (sb.2 b hb).trans e) f0 f1 f3 f4 f5, rfl, q⟩
end
end Vk
set_option Elab.async false
set_option linter.all false
set_option maxRecDepth 100000
set_option maxHeartbeats 4000000
/-! Own ==, != and str() of an instance, by the promise of the class's own def. -/
namespace PySem.W
open PySem PySem.Spec PySem.Calls PyProof.Rows
section
variable {prog : Program} {w : World} {A : Around} {E : Value → Shared → Prop} {s : Shared} {K : Frag} {x C f : Addr} {ox : Obj} {od : Option Obj} {name : Str} {b tb : Value}
theorem bound_bi {M : Model} {args : List Value} {id : String} {Q : Option Value → Shared → Prop} (X : K.In s.heap) (I : InstAt s.heap x ox C od) (hs : findIn K (.ref C) name = some (some (.builtin id)))
    (hb : ∀ self, bindSpecial (.builtin id) self = pure (.builtin id, [self])) (h : wpAny M A (call (.builtin id) (.ref x :: args)) (fun v => Q (some v)) E s) : wpAny M A (callSpecialIfBound? (.ref x) name args) Q E s := by
  simp only [callSpecialIfBound?, bindSpecialIfBound?]
  refine wpAny_holding (wpAny_bind (wpAny_bind (wpAny_bind (I.type.here ((looks_findIn X hs).here ?_)))))
  refine wpAny_bind (wpAny_askSetting (wpAny_ite ?_))
  have fin : wpAny M A (call (.builtin id) ([.ref x] ++ args) >>= fun v => pure (some v)) Q E s := wpAny_bind (wpAny_mono h (fun v s' h' => wpAny_pure h') fun _ _ h' => h')
  split
  · exact wpAny_bind ((Looks.of_pure (hb _)).here (wpAny_pure (by exact fin)))
  · exact wpAny_tryCatch (wpAny_bind ((Looks.of_pure (hb _)).here (wpAny_pure (by exact fin))))
/-- what an own == hands back: a bool, told to Q -/
def TF (Q : Bool → Shared → Prop) (v : Value) (s' : Shared) : Prop := ∃ r, v = .bool r ∧ Q r s'
open Builtin in
theorem own_ne_body {Q : Fin → Shared → Prop} (hu : A.units < cLine) (X : K.In s.heap) (I : InstAt s.heap x ox C od) (hs : findIn K (.ref C) "__eq__" = some (some (.ref f))) (hf : isFn K (.ref f) = true)
    (h : wpAny (model prog w) A (call (.ref f) [.ref x, b]) (TF fun r s' => Q (.done (.ret (.bool (!r)))) s') E s) : wpAny (model prog w) A (Builtin.«object.__ne__» ⟨[.ref x, b], []⟩) Q E s := by
  unfold Builtin.«object.__ne__»
  refine wpAny_bind (m := slotArgs "__ne__" 1 _) (wpAny_pure ?_)
  refine wpAny_bind (m := cRoomFor _ _) (wpAny_cRoomFor hu ?_)
  refine wpAny_bind (m := callSpecialIfBound? (.ref x) (Str.ofString "__eq__") _) (ifBound_K X I hs hf (wpAny_mono h (fun r s' hq => ?_) fun _ _ y => y))
  obtain ⟨r', rfl, hq⟩ := hq
  refine wpAny_bind (wpAny_truthy_bool ?_)
  exact wpAny_pure hq
theorem neq_K {Q : Value → Shared → Prop} (hu : A.units < cLine) (hu1 : A.in1.units < cLine) (X : K.In s.heap) (I : InstAt s.heap x ox C od) (hb : Looks (model prog w) s.heap (typeOf b) tb) (hn : notFirst K C tb = true)
    (hm : mroIn K C (.type "object") = some true) (hne : findIn K (.ref C) "__ne__" = some (some (.builtin "object.__ne__"))) (hs : findIn K (.ref C) "__eq__" = some (some (.ref f))) (hf : isFn K (.ref f) = true)
    (hbind : ∀ self, bindSpecial (.builtin "object.__ne__") self = pure (.builtin "object.__ne__", [self])) (hpl : plainId "object.__ne__" = true)
    (h : wpAny (model prog w) A.in1 (call (.ref f) [.ref x, b]) (TF fun r s' => Q (.bool (!r)) s') E s) : wpAny (model prog w) A (richCompare .NotEq (.ref x) b) Q E s := by
  have one : wpAny (model prog w) A (tryCompare (.ref x) (cmpInfo .NotEq).2.1 b) (fun r s' => ∃ v, r = some v ∧ Q v s') E s := by
    unfold tryCompare
    refine wpAny_bind (bound_bi X I hne hbind (wpAny_call (codeAny_call_builtin hpl F.cmpEntry_ne (check_slot (i := "object.__ne__") (owner := "object") (n := "__ne__") F.cmpKind_ne F.cmpSplit_ne (I.type.andThen (looks_mroIn X hm)) (F.cmpArgs_ne _ _)
      (own_ne_body hu1 X I hs hf (wpAny_mono h (fun v s' hv => ?_) fun _ _ e => e))))))
    obtain ⟨r, rfl, hq⟩ := hv
    exact ⟨r, rfl, wpAny_pure ⟨_, rfl, hq⟩⟩
  unfold richCompare
  simp only [oneThing_ref]
  refine wpAny_holding (wpAny_bind (wpAny_cRoomFor hu ?_))
  refine wpAny_bind (I.type.here (wpAny_bind (hb.here ?_)))
  split
  · rename_i q
    have e : subIn K tb (.ref C) = some false := by
      rcases Bool.or_eq_true_iff.mp hn with e | e
      · rw [beq_iff_eq.mp e] at q; simp at q
      · exact beq_iff_eq.mp e
    refine wpAny_bind ((looks_subIn X e).here ?_)
    simp only [Bool.false_eq_true, if_false]
    refine wpAny_bind (wpAny_mono one (fun r s' z => ?_) fun _ _ e => e)
    obtain ⟨v, rfl, hq⟩ := z
    exact wpAny_pure hq
  · refine wpAny_bind (wpAny_pure ?_)
    simp only [Bool.false_eq_true, if_false]
    refine wpAny_bind (wpAny_mono one (fun r s' z => ?_) fun _ _ e => e)
    obtain ⟨v, rfl, hq⟩ := z
    exact wpAny_pure hq
end
end PySem.W

namespace Vk
open PySem PySem.Spec PyProof.Rows L2
/-- the type of a value, as richCompare looks it up -/
def TyOf (X : Cx) (H : Hp) (y : V) (tb : Value) : Prop := ∀ pins σ s u, Inv X pins σ H s → RelV y u → PySem.W.Looks (model X.prog X.w) s.heap (typeOf u) tb
section
variable {X : Cx} {H : Hp} {CX : CXT} {k : Nat} {f C : Addr} {fd : FuncData} {ps : List Str} {sp : Sp} {E : XK}
theorem ty_ins {b dx : Addr} {fs : List (Str × V)} (h : H b = some (.ins C dx fs)) : TyOf X H (.ref b) (.ref C) := fun pins σ s u I r => by
  cases r
  obtain ⟨m, J, _⟩ := ins_get I.hok h
  obtain ⟨od, J, _⟩ := J.look
  exact J.type
theorem ty_str {z : Str} : TyOf X H (.str z) (.type "str") := fun pins σ s u I r => by
  obtain ⟨t, rfl⟩ := r
  exact .of_pure rfl
theorem ty_int {i : Int} : TyOf X H (.int i) (.type "int") := fun pins σ s u I r => by
  obtain ⟨t, rfl⟩ := r
  exact .of_pure rfl
theorem ty_lst {a : Addr} {xs : List V} (h : SqL X.K H a xs) : TyOf X H (.ref a) (.type "list") := fun pins σ s u I r => by
  cases r
  obtain ⟨its, rv, ⟨o, n, ho, hc, _, hd⟩, _⟩ := I.list h
  rw [← hc]
  exact (PySem.W.Looks.ld (part := none) ho).andThen .now
theorem ty_tup {a : Addr} {xs : List V} (h : SqT X.K H a xs) : TyOf X H (.ref a) (.type "tuple") := fun pins σ s u I r => by
  cases r
  obtain ⟨its, rv, ⟨o, ho, hc, n, hd⟩, _⟩ := I.tuple h
  rw [← hc]
  exact (PySem.W.Looks.ld (part := none) ho).andThen .now
/-- the run of an own def below the running one -/
theorem own_run (F : FnOk X.prog X.w X.K X.mg X.base CX k f fd ps sp) (hb : Binds X.K fd ps []) (hx : Passes CX X E) {A : Around} (hr : Room k A) (hfr : A.frames = X.A.frames) {pins : List (Addr × Obj)} {s : Shared} {σ : L2.St} {vs : List V} {us : List Value} {Q : VK} {R : Value → Shared → Prop}
    (I : Inv X pins σ H s) (r : Vals vs us) (h : sp vs H Q E) (hR : ∀ v s', EP X pins σ Q v s' → R v s') : wpAny (model X.prog X.w) A (call (.ref f) us) R X.xe s := by
  have e0 : Env0 X.prog X.w X.K X.mg X.base A X.stack s H := by
    have e := I.env0
    exact ⟨by rw [hfr]; exact e.frames, e.mod, e.bs, e.bsz, e.funs, e.frf, e.hok, e.bare⟩
  have hl := F.len _ _ _ _ h
  have bt := hb s us I.kIn (by rw [List.append_nil]; exact r.length.symm.trans hl)
  rw [List.append_nil] at bt
  refine wpAny_call (codeAny_mono (F.run A X.stack s H ⟨us, []⟩ us vs Q E hr e0 bt r h) fun z s' hq => ?_)
  cases z with
  | error e => exact hx pins σ H s e s' I hq
  | ok fl =>
    cases fl with
    | ret w => exact hR w s' (I.after hq)
    | next => exact hq.elim
    | brk => exact hq.elim
    | cont => exact hq.elim
/-- str(o) by the own __str__ -/
def rStrO (C : Addr) (sp : Sp) (E : XK) : List V → Hp → VK → Prop := fun vs H Q => ∃ a dx fs, vs = [.ref a] ∧ H a = some (.ins C dx fs) ∧ sp [.ref a] H (fun v H' => ∃ z, v = .str z ∧ Q (.str z) H') E
theorem cr_strO (F : FnOk X.prog X.w X.K X.mg X.base CX k f fd ps sp) (hr : Room (k + 2) X.A) (hs : PySem.W.findIn X.K (.ref C) "__str__" = some (some (.ref f))) (hf : PySem.W.isFn X.K (.ref f) = true) (hb : Binds X.K fd ps []) (hx : Passes CX X E) :
    CallR X (.type "str") (rStrO C sp E) := by
  intro pins s σ H xs us Q I rv h
  obtain ⟨a, dx, fs, rfl, ha, hsp⟩ := h
  cases rv with
  | cons h1 h2 =>
    cases h2
    cases h1
    obtain ⟨m, J, _⟩ := ins_get I.hok ha
    obtain ⟨od, J, _⟩ := J.look
    refine PySem.W.kso_call hr.in1.in1.units0 I.kIn J hs hf (own_run F hb hx hr.in1.in1 rfl I (Paired.cons (F := RelV) (a := V.ref a) rfl .nil) hsp fun v s' z => ?_)
    obtain ⟨v', H', I', r', z', e, q⟩ := z
    subst e
    obtain ⟨t, rfl⟩ := r'
    exact ⟨V.str z', H', I', ⟨t, rfl⟩, q⟩
/-- x == y, x != y by the own __eq__ -/
def rCmpO (X : Cx) (C : Addr) (sp : Sp) (E : XK) (g : Bool → Bool) : R2 := fun x y H Q => ∃ a dx fs tb, x = .ref a ∧ H a = some (.ins C dx fs) ∧ TyOf X H y tb ∧ PySem.W.notFirst X.K C tb = true ∧ sp [.ref a, y] H (fun v H' => ∃ r, v = .bl r ∧ Q (.bl (g r)) H') E
theorem op_eqO (F : FnOk X.prog X.w X.K X.mg X.base CX k f fd ps sp) (hr : Room k X.A) (hs : PySem.W.findIn X.K (.ref C) "__eq__" = some (some (.ref f))) (hf : PySem.W.isFn X.K (.ref f) = true) (hb : Binds X.K fd ps []) (hx : Passes CX X E) :
    OpR X (compareOp .Eq) (rCmpO X C sp E id) := by
  intro pins s σ H x y v u Q I rx ry h
  obtain ⟨a, dx, fs, tb, rfl, ha, ht, hn, hsp⟩ := h
  cases rx
  obtain ⟨m, J, _⟩ := ins_get I.hok ha
  obtain ⟨od, J, _⟩ := J.look
  obtain ⟨m', hF⟩ := I.fr
  refine PySem.W.cmp_K (op := .Eq) hr.units0 hF I.ok.mod.kin J (ht pins σ s u I ry) hn hs hf (own_run F hb hx hr rfl I (Paired.cons (F := RelV) (a := V.ref a) rfl (.cons ry .nil)) hsp fun v s' z => ?_)
  obtain ⟨v', H', I', r', z', e, q⟩ := z
  subst e
  cases r'
  exact ⟨V.bl z', H', I', rfl, q⟩
theorem op_neO (F : FnOk X.prog X.w X.K X.mg X.base CX k f fd ps sp) (hr : Room (k + 1) X.A) (hm : PySem.W.mroIn X.K C (.type "object") = some true) (hne : PySem.W.findIn X.K (.ref C) "__ne__" = some (some (.builtin "object.__ne__")))
    (hs : PySem.W.findIn X.K (.ref C) "__eq__" = some (some (.ref f))) (hf : PySem.W.isFn X.K (.ref f) = true) (hb : Binds X.K fd ps []) (hx : Passes CX X E) : OpR X (compareOp .NotEq) (rCmpO X C sp E not) := by
  intro pins s σ H x y v u Q I rx ry h
  obtain ⟨a, dx, fs, tb, rfl, ha, ht, hn, hsp⟩ := h
  cases rx
  obtain ⟨m, J, _⟩ := ins_get I.hok ha
  obtain ⟨od, J, _⟩ := J.look
  refine PySem.W.neq_K hr.units0 hr.in1.units0 I.kIn J (ht pins σ s u I ry) hn hm hne hs hf PySem.F.slot_zip_ne.bind PySem.F.slot_zip_ne.plain (own_run F hb hx hr.in1 rfl I (Paired.cons (F := RelV) (a := V.ref a) rfl (.cons ry .nil)) hsp fun v s' z => ?_)
  obtain ⟨v', H', I', r', z', e, q⟩ := z
  subst e
  cases r'
  exact ⟨_, rfl, V.bl (!z'), H', I', rfl, q⟩
/-- y in o by the own __contains__ -/
def rInO (C : Addr) (sp : Sp) (E : XK) (g : Bool → Bool) : R2 := fun x y H Q => ∃ a dx fs, y = .ref a ∧ H a = some (.ins C dx fs) ∧ sp [.ref a, x] H (fun v H' => ∃ r, v = .bl r ∧ Q (.bl (g r)) H') E
theorem op_inO (F : FnOk X.prog X.w X.K X.mg X.base CX k f fd ps sp) (hr : Room k X.A) (hs : PySem.W.findIn X.K (.ref C) "__contains__" = some (some (.ref f))) (hf : PySem.W.isFn X.K (.ref f) = true) (hb : Binds X.K fd ps []) (hx : Passes CX X E) :
    OpR X (compareOp .In) (rInO C sp E id) := by
  intro pins s σ H x y v u Q I rx ry h
  obtain ⟨a, dx, fs, rfl, ha, hsp⟩ := h
  cases ry
  obtain ⟨m, J, _⟩ := ins_get I.hok ha
  obtain ⟨od, J, _⟩ := J.look
  obtain ⟨m', hF⟩ := I.fr
  refine PySem.W.in_K hF I.ok.mod.kin J hs hf (own_run F hb hx hr rfl I (Paired.cons (F := RelV) (a := V.ref a) rfl (.cons rx .nil)) hsp fun v s' z => ?_)
  obtain ⟨v', H', I', r', z', e, q⟩ := z
  subst e
  cases r'
  exact wpAny_truthy_bool ⟨V.bl z', H', I', rfl, q⟩
end
end Vk
set_option Elab.async false
set_option linter.all false
set_option maxRecDepth 100000
/-! The places of a set's table, for tables of any size that comes: a search meets all of them. -/
namespace Vt
open PySem PySem.Spec PyProof.Rows L2
/-! ### the round i -> 5 i + 1, modulo a power of two, meets every number -/
def aa : Nat → Nat
  | 0 => 0
  | n + 1 => 5 * aa n + 1
theorem aa_add (n : Nat) : ∀ m, aa (n + m) = aa n + (4 * aa n + 1) * aa m
  | 0 => by simp [aa]
  | m + 1 => by
    show 5 * aa (n + m) + 1 = _
    rw [aa_add n m]
    show _ = aa n + (4 * aa n + 1) * (5 * aa m + 1)
    have key : (4 * aa n + 1) * (5 * aa m + 1) = 5 * ((4 * aa n + 1) * aa m) + (4 * aa n + 1) := by rw [Nat.mul_add, Nat.mul_one, Nat.mul_left_comm]
    rw [key]
    generalize (4 * aa n + 1) * aa m = Z
    omega
theorem aa_pow : ∀ e, ∃ q, aa (2 ^ e) = 2 ^ e * (2 * q + 1)
  | 0 => ⟨0, rfl⟩
  | e + 1 => by
    obtain ⟨q, h⟩ := aa_pow e
    have e2 : (2 : Nat) ^ (e + 1) = 2 ^ e + 2 ^ e := by rw [Nat.pow_succ]; omega
    obtain ⟨x, hx⟩ : ∃ x, x = aa (2 ^ e) := ⟨_, rfl⟩
    have h1 : aa (2 ^ (e + 1)) = 2 * ((2 * x + 1) * x) := by
      rw [e2, aa_add, ← hx, Nat.add_mul, Nat.add_mul, Nat.mul_assoc, Nat.mul_assoc]
      omega
    refine ⟨2 * x * q + x + q, ?_⟩
    rw [h1]
    have h2 : (2 * x + 1) * (2 * q + 1) = 2 * (2 * x * q + x + q) + 1 := by
      rw [Nat.add_mul, Nat.mul_add, Nat.mul_add]
      have : 2 * x * (2 * q) = 2 * (2 * x * q) := Nat.mul_left_comm _ _ _
      omega
    rw [← h2, Nat.pow_succ]
    conv => lhs; rw [show x = 2 ^ e * (2 * q + 1) from hx.trans h]
    rw [← show x = 2 ^ e * (2 * q + 1) from hx.trans h]
    rw [hx.trans h] 
    generalize 2 ^ e = M
    generalize (2 * (M * (2 * q + 1)) + 1) = Z
    rw [Nat.mul_left_comm Z M, Nat.mul_assoc M 2]
    exact Nat.mul_left_comm 2 M _
theorem aa_all : ∀ e j, j < 2 ^ e → ∃ n, n < 2 ^ e ∧ aa n % 2 ^ e = j
  | 0, j, h => ⟨0, by decide, by
    have : j = 0 := by
      have e : (2 : Nat) ^ 0 = 1 := rfl
      omega
    rw [this]
    rfl⟩
  | e + 1, j, h => by
    have hM : 0 < 2 ^ e := Nat.pow_pos (by decide)
    obtain ⟨n, hn, en⟩ := aa_all e (j % 2 ^ e) (Nat.mod_lt _ hM)
    obtain ⟨q, hq⟩ := aa_pow e
    have e2 : (2 : Nat) ^ (e + 1) = 2 * 2 ^ e := by rw [Nat.pow_succ]; omega
    obtain ⟨s, hs⟩ : ∃ s, aa (n + 2 ^ e) = aa n + 2 ^ e * (2 * s + 1) := by
      refine ⟨(4 * aa n + 1) * q + 2 * aa n, ?_⟩
      rw [aa_add, hq, Nat.mul_left_comm]
      congr 1
      congr 1
      rw [Nat.mul_add, Nat.mul_left_comm]
      omega
    rw [e2] at h ⊢
    generalize hMM : 2 ^ e = M at h hn en hs hM ⊢
    have d1 := Nat.div_add_mod (aa n) M
    rw [en] at d1
    have d2 := Nat.div_add_mod j M
    have hj2 : j / M < 2 := (Nat.div_lt_iff_lt_mul hM).mpr (by omega)
    have hr : j % M < M := Nat.mod_lt _ hM
    generalize j % M = r at d1 d2 hr
    generalize aa n / M = c at d1
    generalize j / M = b at d2 hj2
    have two : ∀ d y, y < 2 * M → (M * (2 * d) + y) % (2 * M) = y := fun d y hy => by
      rw [Nat.mul_left_comm, ← Nat.mul_assoc, Nat.mul_add_mod, Nat.mod_eq_of_lt hy]
    rcases Nat.mod_two_eq_zero_or_one (c + b) with z | z
    · refine ⟨n, by omega, ?_⟩
      obtain ⟨d, hd⟩ : ∃ d, c = 2 * d + b := ⟨(c - b) / 2, by omega⟩
      rw [← d1, hd, Nat.mul_add, Nat.add_assoc, d2]
      exact two d j (by omega)
    · refine ⟨n + M, by omega, ?_⟩
      obtain ⟨d, hd⟩ : ∃ d, c + (2 * s + 1) = 2 * d + b := ⟨(c + (2 * s + 1) - b) / 2, by omega⟩
      have e3 : aa n + M * (2 * s + 1) = M * (c + (2 * s + 1)) + r := by
        rw [← d1, Nat.mul_add M c]
        omega
      rw [hs, e3, hd, Nat.mul_add, Nat.add_assoc, d2]
      exact two d j (by omega)
/-- the masks of tables: one less than a power of two -/
def Pw (m : Nat) : Prop := ∃ e, 1 ≤ e ∧ m + 1 = 2 ^ e
theorem lcg_aa (m : Nat) : ∀ n, lcgN m n = aa n % (m + 1)
  | 0 => (Nat.zero_mod _).symm
  | n + 1 => by
    show (lcgN m n * 5 + 1) % (m + 1) = (5 * aa n + 1) % (m + 1)
    rw [lcg_aa m n, Nat.mul_comm 5, Nat.add_mod, Nat.mul_mod, Nat.mod_mod, ← Nat.mul_mod, ← Nat.add_mod]
theorem round_all {m i j : Nat} (p : Pw m) (hi : i ≤ m) (hj : j ≤ m) : ∃ k, k ≤ m ∧ lcgI m i k = j := by
  obtain ⟨e, _, he⟩ := p
  obtain ⟨a, ha, ea⟩ := aa_all e i (by omega)
  obtain ⟨b, hb, eb⟩ := aa_all e j (by omega)
  obtain ⟨q, hq⟩ := aa_pow e
  rw [← he] at ha hb ea eb hq
  have ei : i = lcgN m a := by rw [lcg_aa]; exact ea.symm
  rcases Nat.lt_or_ge b a with c | c
  · refine ⟨b + (m + 1) - a, by omega, ?_⟩
    rw [ei, lcgN_add, lcg_aa, show a + (b + (m + 1) - a) = b + (m + 1) by omega, aa_add, hq, Nat.mul_left_comm, Nat.add_mul_mod_self_left]
    exact eb
  · refine ⟨b - a, by omega, ?_⟩
    rw [ei, lcgN_add, lcg_aa, show a + (b - a) = b by omega]
    exact eb
theorem run_hits {m j : Nat} (p : Pw m) (h : Int) (hj : j ≤ m) : ∃ n, n ≤ m + 12 ∧ runI m (SetTable.bits h) n = j := by
  obtain ⟨k, hk, e⟩ := round_all p (runI_le m (SetTable.bits h) 12) hj
  exact ⟨12 + k, by omega, (runI_tail (bits_lt h) k).trans e⟩
theorem way_hits {m j : Nat} (p : Pw m) (h : Int) (hj : j ≤ m) : ∃ k, k < 10 * SetTable.turns m ∧ way m h k = j := by
  obtain ⟨n, hn, e⟩ := run_hits p h hj
  obtain ⟨k, hk, e2⟩ := run_nth m (SetTable.bits h) n
  refine ⟨k, by unfold SetTable.turns; omega, ?_⟩
  show (nth m (runAt m (SetTable.bits h % (m + 1)) (SetTable.bits h)) k).j = j
  rw [e2]
  exact e
theorem way_top (m : Nat) (h : Int) (k : Nat) : way m h k ≤ m := by
  have i0 : SetTable.bits h % (m + 1) ≤ m := Nat.le_of_lt_succ (Nat.mod_lt _ (Nat.succ_pos _))
  have r := runEnd_bd i0
  have start : (runAt m (SetTable.bits h % (m + 1)) (SetTable.bits h)).j + (runAt m (SetTable.bits h % (m + 1)) (SetTable.bits h)).more ≤ m := by
    show SetTable.bits h % (m + 1) + (SetTable.runEnd m (SetTable.bits h % (m + 1)) - SetTable.bits h % (m + 1)) ≤ m
    omega
  have q := nth_in (m := m) k _ start
  show (nth m (runAt m (SetTable.bits h % (m + 1)) (SetTable.bits h)) k).j ≤ m
  omega
/-- a table without dummies; each hash finds its place before the first free one of its way -/
structure Tab (t : SetTable) (hs : List Int) : Prop where
  up : Ris t.place.toList
  cl : t.dummies = #[]
  len : t.place.size = hs.length
  pw : Pw t.mask
  top : ∀ y ∈ t.place.toList, y ≤ t.mask
  met : ∀ (i : Nat) (h : Int) (j : Nat), hs[i]? = some h → t.place.toList[i]? = some j → ∃ k, way t.mask h k = j ∧ ∀ c, c < k → way t.mask h c ∈ t.place.toList
theorem Tab.odd {t : SetTable} {hs : List Int} (T : Tab t hs) : t.mask % 2 = 1 := by
  obtain ⟨e, h1, h2⟩ := T.pw
  obtain ⟨d, rfl⟩ : ∃ d, e = d + 1 := ⟨e - 1, by omega⟩
  rw [Nat.pow_succ] at h2
  omega
theorem Tab.gap {t : SetTable} {hs : List Int} (T : Tab t hs) (few : hs.length ≤ t.mask) (h : Int) : ∃ K, K < 10 * SetTable.turns t.mask ∧ way t.mask h K ∉ t.place.toList ∧ ∀ c, c < K → way t.mask h c ∈ t.place.toList := by
  obtain ⟨j, hj, out⟩ := st_missing t.place.toList (t.mask + 1) (by rw [Array.length_toList, T.len]; omega)
  obtain ⟨k, hk, rfl⟩ := way_hits T.pw h (Nat.le_of_lt_succ hj)
  obtain ⟨K, a1, a2, a3⟩ := st_least (p := fun c => way t.mask h c ∉ t.place.toList) k out
  exact ⟨K, Nat.lt_of_le_of_lt a1 hk, a2, fun c hc => Classical.byContradiction (a3 c hc)⟩
theorem Tab.ahead {t : SetTable} {hs : List Int} (T : Tab t hs) {h : Int} {K i j : Nat} (out : way t.mask h K ∉ t.place.toList) (hi : hs[i]? = some h) (hj : t.place.toList[i]? = some j) : ∃ k, k < K ∧ way t.mask h k = j := by
  obtain ⟨k, rfl, ins⟩ := T.met i h j hi hj
  refine ⟨k, ?_, rfl⟩
  rcases Nat.lt_trichotomy k K with c | c | c
  · exact c
  · subst c
    exact absurd (List.mem_of_getElem? hj) out
  · exact absurd (ins K c) out
theorem Tab.put {t : SetTable} {hs : List Int} (T : Tab t hs) {h : Int} {K : Nat} (out : way t.mask h K ∉ t.place.toList) (ins : ∀ c, c < K → way t.mask h c ∈ t.place.toList) {p : Nat} (hp : p = SetTable.below t.place (way t.mask h K)) :
    p ≤ hs.length ∧ Tab (t.put (way t.mask h K)).1 (hs.take p ++ h :: hs.drop p) ∧ (t.put (way t.mask h K)).1.fill = hs.length + 1 := by
  have jt := way_top t.mask h K
  obtain ⟨J, hJ⟩ : ∃ J, J = way t.mask h K := ⟨_, rfl⟩
  rw [← hJ] at out jt hp ⊢
  have lenP : t.place.toList.length = hs.length := T.len
  have ph : p ≤ hs.length := by
    rw [hp, ← T.len]
    exact (below_cut T.up J).1
  have pl : p ≤ t.place.toList.length := by rw [lenP]; exact ph
  have pp : (t.put J).1.place.toList = t.place.toList.take p ++ J :: t.place.toList.drop p := by rw [hp]; exact put_place t J
  have psz : (t.put J).1.place.size = hs.length + 1 := by rw [← Array.length_toList, pp, len_ins _ pl, lenP]
  have old : ∀ y, y ∈ t.place.toList → y ∈ (t.put J).1.place.toList := fun y hy => by rw [pp]; exact mem_ins.2 (.inr hy)
  refine ⟨ph, ⟨ris_insert T.up (fun z => out (List.mem_of_getElem? (by rw [Array.getElem?_toList]; exact z))), put_dm T.cl J, psz.trans (len_ins _ ph h).symm, T.pw, fun y hy => ?_, fun i g j gi gj => ?_⟩, ?_⟩
  · rcases mem_ins.1 (pp ▸ hy) with z | z
    · exact z ▸ jt
    · exact T.top y z
  · show ∃ k, way t.mask g k = j ∧ ∀ c, c < k → way t.mask g c ∈ (t.put J).1.place.toList
    have before : ∀ i', hs[i']? = some g → t.place.toList[i']? = some j → ∃ k, way t.mask g k = j ∧ ∀ c, c < k → way t.mask g c ∈ (t.put J).1.place.toList := fun i' y1 y2 => by
      obtain ⟨k, y3, y4⟩ := T.met i' g j y1 y2
      exact ⟨k, y3, fun c hc => old _ (y4 c hc)⟩
    rw [tins_get hs ph] at gi
    rw [pp, tins_get _ pl] at gj
    rcases Nat.lt_trichotomy i p with c | c | c
    · rw [if_pos c] at gi gj
      exact before i gi gj
    · rw [if_neg (by omega), if_pos c] at gi gj
      cases gi
      cases gj
      exact ⟨K, hJ.symm, fun c hc => old _ (ins c hc)⟩
    · rw [if_neg (by omega), if_neg (by omega)] at gi gj
      exact before (i - 1) gi gj
  · show (t.put J).1.place.size + (t.put J).1.dummies.size = _
    rw [psz, put_dm T.cl J] <;> rfl
/-! ### all laid anew -/
theorem free_hits {m j : Nat} (p : Pw m) (ow : Array (Option Nat)) (h : Int) (hj : j ≤ m) (hf : oAt ow j = none) :
    ∃ K, SetTable.layClean.free m ow (SetTable.turns m) (SetTable.bits h % (m + 1)) (SetTable.bits h) = some (way m h K) ∧ oAt ow (way m h K) = none ∧ ∀ c, c < K → oAt ow (way m h c) ≠ none := by
  obtain ⟨n, hn, e⟩ := run_hits p h hj
  have at_ : way m h (off m (SetTable.bits h % (m + 1)) (SetTable.bits h) n) = j := by
    show (nth m (runAt m _ _) _).j = j
    rw [nth_off, itL_run]
    exact e
  obtain ⟨K, a1, a2, a3⟩ := st_least (p := fun c => oAt ow (way m h c) = none) _ (show oAt ow (way m h (off m (SetTable.bits h % (m + 1)) (SetTable.bits h) n)) = none by rw [at_]; exact hf)
  refine ⟨K, free_spec m ow _ n _ _ K (by unfold SetTable.turns; omega) a1 (fun c hc => ?_) ?_, a2, a3⟩
  · show (oAt ow (way m h c)).isNone = false
    cases z : oAt ow (way m h c) with
    | none => exact absurd z (a3 c hc)
    | some _ => rfl
  · show (oAt ow (way m h K)).isNone = true
    rw [show oAt ow (way m h K) = none from a2] <;> rfl
theorem own_step {m : Nat} (p : Pw m) {done : List Int} {ow : Array (Option Nat)} (W : Own m done ow) (room : done.length ≤ m) (h : Int) :
    ∃ j, SetTable.layClean.free m ow (SetTable.turns m) (SetTable.bits h % (m + 1)) (SetTable.bits h) = some j ∧ Own m (done ++ [h]) (ow.setIfInBounds j (some done.length)) := by
  obtain ⟨ps, lps, inps⟩ := W.ps
  obtain ⟨j0, b0, o0⟩ := st_missing ps (m + 1) (by omega)
  have f0 : oAt ow j0 = none := Classical.byContradiction fun z => o0 (inps j0 (Nat.le_of_lt_succ b0) z)
  obtain ⟨K, y1, y2, y3⟩ := free_hits p ow h (Nat.le_of_lt_succ b0) f0
  obtain ⟨J, hJ⟩ : ∃ J, J = way m h K := ⟨_, rfl⟩
  have Jm : J ≤ m := hJ ▸ way_top m h K
  have Jo : J < ow.size := by rw [W.sz]; omega
  rw [← hJ] at y1 y2
  have here := oAt_set_self (some done.length) Jo
  have still : ∀ i, oAt ow i ≠ none → oAt (ow.setIfInBounds J (some done.length)) i ≠ none := fun i hi => by
    by_cases c : i = J
    · rw [c, here]
      exact fun z => nomatch z
    · rw [oAt_set_ne _ c]
      exact hi
  refine ⟨J, y1, ⟨by rw [Array.size_setIfInBounds]; exact W.sz, fun j k hj e => ?_, fun k hk => ?_, J :: ps, by rw [List.length_cons, lps, List.length_append] <;> rfl, fun j hj e => ?_⟩⟩
  · by_cases c : j = J
    · rw [c, here] at e
      cases e
      exact ⟨h, K, by rw [List.getElem?_append_right (Nat.le_refl _), Nat.sub_self] <;> rfl, hJ.symm.trans c.symm, fun c' hc => still _ (y3 c' hc)⟩
    · rw [oAt_set_ne _ c] at e
      obtain ⟨g, L, z1, z2, z3⟩ := W.at_ j k hj e
      exact ⟨g, L, by rw [List.getElem?_append_left (List.getElem?_eq_some_iff.mp z1).1]; exact z1, z2, fun c' hc => still _ (z3 c' hc)⟩
  · rcases Nat.lt_or_ge k done.length with c | c
    · obtain ⟨j, hj, e⟩ := W.all k c
      refine ⟨j, hj, ?_⟩
      rw [oAt_set_ne _ (fun z => by rw [z, y2] at e; cases e)]
      exact e
    · have : k = done.length := by
        rw [List.length_append] at hk
        have e : ([h] : List Int).length = 1 := rfl
        omega
      exact ⟨J, Jm, this ▸ here⟩
  · by_cases c : j = J
    · exact c ▸ List.mem_cons_self
    · rw [oAt_set_ne _ c] at e
      exact .tail _ (inps j hj e)
theorem own_fold {m : Nat} (p : Pw m) : ∀ (rest done : List Int) (ow : Array (Option Nat)), Own m done ow → done.length + rest.length ≤ m →
    ∃ ow', rest.foldl (stepF m) (some (ow, done.length)) = some (ow', (done ++ rest).length) ∧ Own m (done ++ rest) ow'
  | [], done, ow, W, _ => ⟨ow, by rw [List.append_nil] <;> rfl, by rw [List.append_nil]; exact W⟩
  | h :: rest, done, ow, W, room => by
    have l1 : (h :: rest).length = rest.length + 1 := rfl
    obtain ⟨j, y, W1⟩ := own_step p W (by omega) h
    have l2 : (done ++ [h]).length = done.length + 1 := List.length_append
    obtain ⟨ow', f, W2⟩ := own_fold p rest (done ++ [h]) _ W1 (by omega)
    rw [l2] at f
    rw [show done ++ [h] ++ rest = done ++ h :: rest by rw [List.append_assoc] <;> rfl] at f W2
    exact ⟨ow', by rw [List.foldl_cons, stepF_some y]; exact f, W2⟩
theorem lay_own {m : Nat} (p : Pw m) {hs : Array Int} (room : hs.size ≤ m) : ∃ ow, SetTable.layClean m hs = some ow ∧ Own m hs.toList ow := by
  obtain ⟨ow, f, W⟩ := own_fold p hs.toList [] _ (Own.init m) (by show 0 + hs.toList.length ≤ m; rw [Array.length_toList]; omega)
  refine ⟨ow, ?_, by rw [← List.nil_append hs.toList]; exact W⟩
  rw [layClean_eq, show hs.toList.foldl (stepF m) (some (Array.replicate (m + 1) none, 0)) = _ from f] <;> rfl
theorem relaid_tab (t : SetTable) {hs : Array Int} {wanted M : Nat} (hw : SetTable.sizeAbove wanted - 1 = M) (p : Pw M) (room : hs.size ≤ M) :
    ∃ t' ord, t.relaid hs wanted = some (t', ord) ∧ ord.toList.Perm (List.range hs.size) ∧ Tab t' (ord.toList.map fun i => hs.getD i 0) ∧ t'.mask = M ∧ t'.led = t.led ∧ t'.plain = t.plain := by
  obtain ⟨ow, e, W⟩ := lay_own p room
  have two := ris_live (fun j => ow.getD j none) (List.range (M + 1)) (by
    unfold Ris
    first | exact List.pairwise_lt_range | exact List.pairwise_lt_range _)
  have up : Ris ((liveOf M ow).map (·.1)) := two.1
  have inr : ∀ y ∈ (liveOf M ow).map (·.1), y ≤ M := fun y hy => Nat.le_of_lt_succ (List.mem_range.mp (two.2 y hy))
  have nd : ((liveOf M ow).map (·.1)).Nodup := List.Pairwise.imp (fun h => Nat.ne_of_lt h) up
  have hz : hs.toList.length = hs.size := rfl
  have size : (liveOf M ow).length = hs.size := by
    obtain ⟨ps, lps, inps⟩ := W.ps
    have a := nat_nodup_len ((liveOf M ow).map (·.1)) ps nd fun y hy => by
      obtain ⟨⟨y', k⟩, hq, rfl⟩ := List.mem_map.mp hy
      obtain ⟨b1, b2⟩ := (mem_live W.sz).1 hq
      exact inps y' b1 (fun z => by rw [b2] at z; cases z)
    have b := nat_nodup_len (List.range hs.size) ((liveOf M ow).map (·.2)) List.nodup_range fun k hk => by
      obtain ⟨j, b1, b2⟩ := W.all k (List.mem_range.mp hk)
      exact List.mem_map.mpr ⟨(j, k), (mem_live W.sz).2 ⟨b1, b2⟩, rfl⟩
    rw [List.length_map] at a b
    rw [List.length_range] at b
    omega
  refine ⟨tabOf t M ow, ((liveOf M ow).map (·.2)).toArray, by rw [relaid_eq, hw, e] <;> rfl, perm_range hs.size _ ((List.length_map _).trans size) (fun k hk => ?_), ⟨up, rfl, ?_, p, inr, fun i h j h1 h2 => ?_⟩, rfl, rfl, rfl⟩
  · obtain ⟨j, b1, b2⟩ := W.all k hk
    exact List.mem_map.mpr ⟨(j, k), (mem_live W.sz).2 ⟨b1, b2⟩, rfl⟩
  · show ((liveOf M ow).map (·.1)).toArray.size = (((liveOf M ow).map (·.2)).map fun i => hs.getD i 0).length
    simp
  · have g1 : (((liveOf M ow).map (·.2)).map fun i => hs.getD i 0)[i]? = some h := h1
    have g2 : ((liveOf M ow).map (·.1))[i]? = some j := h2
    rw [List.getElem?_map] at g2
    rw [List.getElem?_map, List.getElem?_map] at g1
    cases hq : (liveOf M ow)[i]? with
    | none =>
      rw [hq] at g2
      cases g2
    | some q =>
      obtain ⟨y, k⟩ := q
      rw [hq] at g1 g2
      cases g2
      obtain ⟨b1, b2⟩ := (mem_live W.sz).1 (List.mem_of_getElem? hq)
      obtain ⟨h0, K, c1, c2, c3⟩ := W.at_ _ k b1 b2
      have e0 : hs.getD k 0 = h0 := by rw [Array.getD_eq_getD_getElem?, ← Array.getElem?_toList, c1] <;> rfl
      have eh : h0 = h := e0.symm.trans (Option.some.inj g1)
      subst eh
      refine ⟨K, c2, fun c hc => ?_⟩
      show way M h0 c ∈ (liveOf M ow).map (·.1)
      cases z : oAt ow (way M h0 c) with
      | none => exact absurd z (c3 c hc)
      | some k2 => exact List.mem_map.mpr ⟨(way M h0 c, k2), (mem_live W.sz).2 ⟨way_top .., z⟩, rfl⟩
end Vt
set_option Elab.async false
set_option linter.all false
set_option maxRecDepth 100000
set_option maxHeartbeats 4000000
/-! sorted over any set whose members read as data; sets of texts, made of a text or of a list of texts. -/
namespace Vs
open PySem PySem.Spec PyProof.Rows L2
section
variable {α β : Type} {R : α → β → Prop}
theorem each_swap {a b : α} {xs : List α} {bs : List β} (h : PySem.W.EachIs R (a :: b :: xs) bs) : ∃ bs', bs'.Perm bs ∧ PySem.W.EachIs R (b :: a :: xs) bs' := by
  cases h with
  | cons h1 t =>
    cases t with
    | cons h2 t => exact ⟨_, List.Perm.swap .., .cons h2 (.cons h1 t)⟩
theorem each_perm {xs ys : List α} (p : ys.Perm xs) : ∀ {bs : List β}, PySem.W.EachIs R xs bs → ∃ bs', bs'.Perm bs ∧ PySem.W.EachIs R ys bs' := by
  have key : ∀ {xs ys : List α}, xs.Perm ys → ∀ {bs : List β}, PySem.W.EachIs R xs bs → ∃ bs', bs'.Perm bs ∧ PySem.W.EachIs R ys bs' := by
    intro xs ys p
    induction p with
    | nil => exact fun h => ⟨_, .refl _, h⟩
    | cons x _ ih =>
      intro bs h
      cases h with
      | cons h1 t =>
        obtain ⟨bs', q, e⟩ := ih t
        exact ⟨_, q.cons _, .cons h1 e⟩
    | swap x y l => exact fun h => each_swap h
    | trans _ _ ih1 ih2 =>
      intro bs h
      obtain ⟨b1, q1, e1⟩ := ih1 h
      obtain ⟨b2, q2, e2⟩ := ih2 e1
      exact ⟨b2, q2.trans q1, e2⟩
  intro bs h
  exact key p.symm h
end
section
variable {P : Program} {w : World} {A : Around} {E : Value → Shared → Prop} {s : Shared}
theorem sorted_setG {β : Type} {enc : β → PyData} {R : Value → β → Prop} {bs : List β} {a : Addr} {es : Array (Int × Value)} {ep : Nat} {t : SetTable} {Q : Value → Shared → Prop}
    (hh : A.handled = none) (ha : SetAt s.heap a es ep t) (hf : t.fits es.size = true) (hsz : es.size < scanBound) (hr : Ris t.place.toList) (hl : w.params.followText "set-order" = true ∨ t.led = true)
    (er : PySem.W.EachIs (fun v b => R v b ∧ Reads s.heap v (enc b) []) (es.toList.map (·.2)) bs) (hal : PySem.W.AllAlike (bs.map enc)) (hk : PySem.W.Sortable (bs.map enc)) (hu : ∀ b, b ∈ bs → A.units + 2 + (enc b).depth < cLine)
    (hQ : ∀ s' p (out : List Value) (c : Nat) (bs' : List β), (∀ b o, s.heap.get? b = some o → s'.heap.get? b = some o) → s'.gens = s.gens → s'.os = s.os → s.heap.objs.size ≤ p →
      s'.heap.get? p = some (seqObj "list" out.toArray c) → bs'.Perm bs → PySem.W.EachIs R out (bs'.mergeSort (PySem.W.dataLe false enc)) → Q (.ref p) s') :
    wpAny (model P w) A (call (.builtin "sorted") [.ref a]) Q E s := by
  refine Calls.call_function_entry kind_sorted plain_sorted entry_sorted (args_sorted1 _) (?_)
  unfold Builtin.«sorted»
  refine wpAny_bind (m := checkCount "sorted" 1 1 _) (wpAny_pure (?_))
  refine wpAny_bind (collect_set (A := A.in1) hh ha hf hsz hr hl fun s1 vs k1 hz g1 o1 pm => ?_)
  obtain ⟨bs1, pb, e1⟩ := each_perm pm er
  have hvl : vs.length = es.size := by rw [pm.length_eq, List.length_map, Array.length_toList]
  have hbl : bs1.length = vs.length := e1.length.symm
  have hle : vs.length ≤ sizeLine := by rw [hvl]; exact fits_of_scanBound hsz
  refine wpAny_bind (wpAny_newList ?_ hle)
  have hoL : (s1.heap.push (seqObj "list" vs.toArray 0)).get? s1.heap.objs.size = some (seqObj "list" vs.toArray 0) := Heap.get?_push_size _ rfl
  have mm : ∀ b, b ∈ bs1 → b ∈ bs := fun b hb => pb.mem_iff.mp hb
  have hal1 : PySem.W.AllAlike (bs1.map enc) := fun d hd d' hd' => by
    obtain ⟨b, hb, rfl⟩ := List.mem_map.mp hd
    obtain ⟨b', hb', rfl⟩ := List.mem_map.mp hd'
    exact hal _ (List.mem_map.mpr ⟨b, mm b hb, rfl⟩) _ (List.mem_map.mpr ⟨b', mm b' hb', rfl⟩)
  have hk1 : PySem.W.Sortable (bs1.map enc) := by
    rcases hk with z | z
    · refine .inl fun d hd => ?_
      obtain ⟨b, hb, rfl⟩ := List.mem_map.mp hd
      exact z _ (List.mem_map.mpr ⟨b, mm b hb, rfl⟩)
    · refine .inr fun d hd => ?_
      obtain ⟨b, hb, rfl⟩ := List.mem_map.mp hd
      exact z _ (List.mem_map.mpr ⟨b, mm b hb, rfl⟩)
  refine wpAny_bind (wpAny_holding (PySem.W.list_sort_data (R := R) hoL (e1.mono fun _ _ z => z.1) (e1.mono fun v b z => ⟨[], PyProof.Rows.Reads.keeps (fun b o e => Heap.get?_push_of_some _ (k1 b o e)) z.2, fun y => nomatch y⟩) hal1 hk1
    (by rw [hbl]; exact hle) (fun b hb => ?_) fun out h1 h2 => ?_))
  · have := hu b (mm b hb)
    show A.units + 1 + 1 + (enc b).depth < cLine
    omega
  · obtain ⟨c, hc⟩ := sortedHeap_at (vs := vs) (out := out.toArray) hoL
    refine wpAny_pure ⟨_, rfl, hQ _ s1.heap.objs.size out c bs1 (fun b u e => ?_) g1 o1 hz hc pb h2⟩
    have q := k1 b u e
    have hlt := Heap.lt_size q
    show (sortedHeap (s1.heap.push (seqObj "list" vs.toArray 0)) s1.heap.objs.size vs out.toArray).get? b = some u
    rw [sortedHeap_old (Nat.ne_of_lt hlt) (by rw [size_push']; exact Nat.lt_succ_of_lt hlt)]
    exact Heap.get?_push_of_some _ q
end
/-! ## a set of texts at a: l its members, each once -/
def SetS (P : Program) (w : World) (h : Heap) (a : Addr) (l : List Str) : Prop := ∃ D : Froz.SD, h.get? a = some (Froz.sObj "set" D) ∧ Froz.TxOk P w D l ∧ l.Nodup ∧ l.length < scanBound ∧ Ris D.2.2.place.toList ∧ (w.params.followText "set-order" = true ∨ D.2.2.led = true)
theorem SetS.at {P : Program} {w : World} {h h' : Heap} {a : Addr} {l : List Str} (x : SetS P w h a l) (k : ∀ o, h.get? a = some o → h'.get? a = some o) : SetS P w h' a l := by
  obtain ⟨D, ho, r⟩ := x
  exact ⟨D, k _ ho, r⟩
theorem tail_both {ep : Nat} {es1 : Array (Int × Value)} {t2 : SetTable} {wd : Bool} (r : Ris t2.place.toList) : Ris (Froz.tailTx ep es1 t2 wd).2.2.place.toList ∧ (Froz.tailTx ep es1 t2 wd).2.2.led = t2.led := by
  unfold Froz.tailTx
  by_cases c : (!wd && t2.tooFull) = true
  · rw [if_pos c]
    exact ⟨relayAll_ris _ _ _, relayAll_led _ _ _⟩
  · rw [if_neg c]
    exact ⟨r, rfl⟩
theorem plain_off (t : SetTable) : (if t.plain = true then { t with plain := false } else t).place = t.place ∧ (if t.plain = true then { t with plain := false } else t).led = t.led := by
  split
  · exact ⟨rfl, rfl⟩
  · exact ⟨rfl, rfl⟩
theorem ris_addTx {hv : Int} {v : Value} {D : Froz.SD} (r : Ris D.2.2.place.toList) : Ris (Froz.addTx hv v D).2.2.place.toList := by
  unfold Froz.addTx
  refine (tail_both ?_).1
  rw [(plain_off _).1]
  exact layNew_ris D.2.2 D.1 hv v r
theorem led_addTx {hv : Int} {v : Value} {D : Froz.SD} (r : Ris D.2.2.place.toList) : (Froz.addTx hv v D).2.2.led = D.2.2.led := by
  unfold Froz.addTx
  refine (tail_both ?_).2.trans ((plain_off _).2.trans (layNew_led D.2.2 D.1 hv v))
  rw [(plain_off _).1]
  exact layNew_ris D.2.2 D.1 hv v r
section
variable {P : Program} {w : World} {A : Around} {E : Value → Shared → Prop} {s : Shared} {a : Addr} {l : List Str}
/-- a text that is there already -/
theorem add_again {D : Froz.SD} {k : Str} {u : Tok} {Q : Bool → Shared → Prop} (ho : s.heap.get? a = some (Froz.sObj "set" D)) (F : Froz.TxOk P w D l) (hk : k ∈ l) (hb : l.length < scanBound)
    (h : Q false s) : wpAny (model P w) A (setAddHashed a (.str k u) (hashStr w k)) Q E s := by
  obtain ⟨es, ep, t⟩ := D
  have hb0 : es.size < scanBound := by rw [show es.size = l.length from F.sz]; exact hb
  unfold setAddHashed setAddHashedIn
  refine wpAny_holding (wpAny_bind (wpAny_setState_of (es := es) (ep := ep) (t := t) ho rfl F.fit ?_))
  dsimp only
  rw [byScan_of (x := Value.str k u) rfl hb0 F.el]
  simp only [↓reduceIte]
  unfold setAddByScan
  refine wpAny_bind (wpAny_bind (wpAny_rule (wpAny_bind (wpAny_setScan_of (knd := strKind P w) (k := k) (Froz.is_str k u) ho rfl F.fit F.el ?_))))
  cases hf : List.findIdx? (fun e => (strKind P w).is k e.2) es.toList with
  | some j => exact wpAny_pure (wpAny_pure h)
  | none =>
    obtain ⟨e, he, z⟩ := (F.mem k).mp hk
    have := List.findIdx?_eq_none_iff.mp hf e he
    rw [z] at this
    cases this
theorem setS_add {k : Str} {u : Tok} {Q : Bool → Shared → Prop} (x : SetS P w s.heap a l) (room : l.length + 1 < scanBound)
    (h : ∀ h' b, Heap.SameBut a s.heap h' → SetS P w h' a (if k ∈ l then l else k :: l) → Q b { s with heap := h' }) : wpAny (model P w) A (setAddHashed a (.str k u) (hashStr w k)) Q E s := by
  have x0 := x
  obtain ⟨D, ho, F, nd, hb, r, ld⟩ := x
  by_cases hk : k ∈ l
  · refine add_again ho F hk hb ?_
    have := h s.heap false (Heap.SameBut.refl a s.heap)
    rw [if_pos hk] at this
    exact this x0
  · refine Froz.add_x ho F hk room ?_
    refine h _ true (Heap.SameBut.update _ a _) ?_
    rw [if_neg hk]
    exact ⟨_, Froz.get_upd _ ho rfl, Froz.add_ok u F, List.nodup_cons.mpr ⟨hk, nd⟩, room, ris_addTx r, ld.imp id fun z => by rw [led_addTx r]; exact z⟩
end
/-- l with the texts ks put to it, one by one -/
def putL : List Str → List Str → List Str
  | l, [] => l
  | l, k :: ks => putL (if k ∈ l then l else k :: l) ks
theorem mem_putL {k : Str} : ∀ {ks l : List Str}, k ∈ putL l ks ↔ k ∈ l ∨ k ∈ ks
  | [], l => by simp [putL]
  | z :: ks, l => by
    rw [putL, mem_putL, List.mem_cons]
    by_cases hz : z ∈ l
    · rw [if_pos hz]
      exact ⟨fun q => q.elim .inl fun y => .inr (.inr y), fun q => q.elim .inl fun y => y.elim (fun e => .inl (e ▸ hz)) .inr⟩
    · rw [if_neg hz, List.mem_cons]
      exact ⟨fun q => q.elim (fun y => y.elim (fun e => .inr (.inl e)) .inl) fun y => .inr (.inr y), fun q => q.elim (fun y => .inl (.inr y)) fun y => y.elim (fun e => .inl (.inl e)) .inr⟩
theorem len_putL : ∀ {ks l : List Str}, (putL l ks).length ≤ l.length + ks.length
  | [], l => Nat.le_refl _
  | z :: ks, l => by
    rw [putL]
    refine Nat.le_trans len_putL ?_
    split
    · rw [List.length_cons]; omega
    · rw [List.length_cons, List.length_cons]; omega
section
variable {P : Program} {w : World} {A : Around} {R : Result → Shared → Prop}
theorem update_texts {I : Addr} {fp wr : List Addr} {G : Array GenState → Array GenState → Prop} {n : Nat} {Pv : Nat → Value → Prop} {St : Nat → Shared → Prop} (W : WalksS P w A.in1 I fp wr G n Pv St) (S : Addr) (hS : S ∉ fp)
    (ks : List Str) (hn : n = ks.length) (hv : ∀ i v, Pv i v → ∃ k t, ks[i]? = some k ∧ v = .str k t) : ∀ (m i : Nat) (l : List Str) (s : Shared), n - i = m → i ≤ n → St i s → SetS P w s.heap S l → l.length + (n - i) + 1 < scanBound →
      (∀ s', Moved (S :: wr) G s s' → SetS P w s'.heap S (putL l (ks.drop i)) → R (.ok (.ret .none)) s') → codeAny (model P w) A (.builtin "set.update.loop" ⟨[.ref S, .ref I], []⟩) R s := by
  have hw : S ∉ wr := fun h => hS (W.sub _ h)
  have up : ∀ b ∈ wr, b ∈ S :: wr := fun b hb => .tail _ hb
  intro m
  induction m with
  | zero =>
    intro i l s hm hi st x hb fin
    obtain rfl : i = n := by omega
    refine codeAny_builtin F.entry_set_update_loop (?_)
    rw [(Around.under_plainId F.plain_set_update_loop _ :)]
    show wpAny _ A.in1 (pyNext (.ref I) >>= _) _ _ s
    refine wpAny_bind (W.done s _ _ st fun s' mv => wpAny_pure (fin s' (mv.mono up) ?_))
    rw [List.drop_of_length_le (by omega)]
    exact x.at fun o e => mv.heap S o hw e
  | succ m ih =>
    intro i l s hm hi st x hb fin
    have hlt : i < n := by omega
    refine codeAny_builtin F.entry_set_update_loop (?_)
    rw [(Around.under_plainId F.plain_set_update_loop _ :)]
    show wpAny _ A.in1 (pyNext (.ref I) >>= _) _ _ s
    refine wpAny_bind (W.item i s _ _ hlt st fun v s' pv st' mv => ?_)
    obtain ⟨z, t, hz, rfl⟩ := hv i v pv
    have x' : SetS P w s'.heap S l := x.at fun o e => mv.heap S o hw e
    show wpAny _ A.in1 (holding [Value.str z t] (setAdd S (.str z t)) >>= _) _ _ s'
    refine wpAny_bind (wpAny_holding ?_)
    unfold setAdd
    refine wpAny_holding (wpAny_bind ((strKind P w).pyHash (k := z) (Froz.is_str z t) ?_))
    refine setS_add (s := { s' with toks := s'.toks + 1 }) x' (by omega) fun h' b sb x2 => ?_
    have hd : ks.drop i = z :: ks.drop (i + 1) := by
      have hk : i < ks.length := by omega
      rw [List.drop_eq_getElem_cons hk]
      rw [List.getElem?_eq_getElem hk] at hz
      rw [Option.some.inj hz]
    have keep : ∀ b o, b ≠ S → s'.heap.get? b = some o → h'.get? b = some o := fun b o hb e => (sb.2 b hb).trans e
    refine wpAny_pure ⟨plainId_quiet F.plain_set_update_loop _, ih (i + 1) _ _ (by omega) hlt (W.frame _ s' _ _ st' (Nat.le_succ _) fun b hb o e => keep b o (fun y => hS (y ▸ hb)) e) x2 ?_ fun s2 m2 x3 => ?_⟩
    · split
      · omega
      · rw [List.length_cons]; omega
    · refine fin s2 (Moved.trans W.gtrans ((mv.mono up).then_heap (Nat.le_succ _) fun b o hb e => keep b o (fun y => hb (y ▸ List.mem_cons_self)) e) m2) ?_
      rw [hd]
      exact x3
end
/-- the object of a new set -/
abbrev newO (w : World) : Obj := { cls := .type "set", dict := none, data := .set #[] 0 (.fresh 0 0 (!w.params.followText "set-order")) }
/-- x is iterated: texts xs, one by one, by an iterator that is new -/
def IterT (P : Program) (w : World) (x : Value) (S : Addr) (s1 : Shared) (xs : List Str) : Prop := ∀ (A1 : Around) (E1 : Value → Shared → Prop) (Q1 : Value → Shared → Prop),
  (∀ (o : Obj) (fp : List Addr) (Pv : Nat → Value → Prop) (St : Nat → Shared → Prop), (∀ A2 : Around, A2.handled = none → WalksS P w A2 s1.heap.objs.size fp [s1.heap.objs.size] (fun a b => b = a) xs.length Pv St) → S ∉ fp →
    (∀ i v, Pv i v → ∃ k t, xs[i]? = some k ∧ v = .str k t) → St 0 { s1 with heap := s1.heap.push o } → Q1 (.ref s1.heap.objs.size) { s1 with heap := s1.heap.push o }) → wpAny (model P w) A1 (pyIter x) Q1 E1 s1
theorem setS_new {P : Program} {w : World} {h : Heap} {a : Addr} (ho : h.get? a = some (newO w)) : SetS P w h a [] :=
  ⟨(#[], 0, .fresh 0 0 (!w.params.followText "set-order")), ho, Froz.TxOk.nil (by rfl), .nil, by decide, List.Pairwise.nil, by
    show _ ∨ (!w.params.followText "set-order") = true
    cases w.params.followText "set-order"
    · exact .inr rfl
    · exact .inl rfl⟩
section
variable {P : Program} {w : World} {A : Around} {E : Value → Shared → Prop} {s : Shared}
theorem call_setG {x : Value} {T : String} {xs : List Str} {Q : Value → Shared → Prop} (hh : A.handled = none) (hT : Shared.TypeIs { s with heap := s.heap.push (newO w) } x T) (n1 : isSubtype (.type T) (.type "set") = pure false)
    (n2 : isSubtype (.type T) (.type "frozenset") = pure false) (n3 : (Value.type T == Value.type "dict") = false) (hi : IterT P w x s.heap.objs.size { s with heap := s.heap.push (newO w) } xs) (hb : xs.length + 1 < scanBound)
    (h : ∀ (h' : Heap) (tk : Nat), SetS P w h' s.heap.objs.size (putL [] xs) → (∀ b o, s.heap.get? b = some o → h'.get? b = some o) → Q (.ref s.heap.objs.size) { s with heap := h', toks := tk }) :
    wpAny (model P w) A (call (.type "set") [x]) Q E s := by
  obtain ⟨c, tl, mm⟩ := F.called_set.mro
  have made := F.called_set.made
  have sub := F.called_set.sub
  refine wpAny_call (codeAny_of_tree (?_))
  show wpAny _ _ (callAny (.type "set") ⟨[x], []⟩) _ _ _
  refine wpAny_pure ⟨Code.quiet_builtin _ (by decide +kernel), codeAny_builtin F.entry_type_call (?_)⟩
  rw [(Around.under_plain (weight_type_call_type "set" [x] []) rfl :)]
  have notT := F.called_set.notType
  have can := F.called_set.canCreate
  have tc := F.typeCall_set_1 x
  repeat (any_goals (first | assumption | wp_step))
  refine codeAny_mono (code_set_led1 x (E := E) (Q₁ := fun ob s1 => ob = .ref s.heap.objs.size ∧ s1 = { s with heap := s.heap.push (newO w) }) ⟨rfl, rfl⟩) fun r s1 hr => ?_
  cases r with
  | error e => exact hr
  | ok fl =>
    cases fl with
    | ret ob =>
      obtain ⟨rfl, rfl⟩ := hr
      have hS : (s.heap.push (newO w)).get? s.heap.objs.size = some (newO w) := Heap.get?_push_size _ rfl
      have hTS : Shared.TypeIs { s with heap := s.heap.push (newO w) } (.ref s.heap.objs.size) "set" := ⟨_, hS, rfl⟩
      have il := F.called_set.init.lookup
      have ib := F.called_set.init.bind (.ref s.heap.objs.size)
      repeat (any_goals (first | assumption | wp_step))
      refine codeAny_mono (codeAny_call_builtin (R := wants (fun r s2 => r = .none ∧ ∃ h' tk, s2 = { s with heap := h', toks := tk } ∧ SetS P w h' s.heap.objs.size (putL [] xs) ∧ (∀ b o, s.heap.get? b = some o → h'.get? b = some o)) E)
        F.called_set.init.plain F.entry_set_init (check_set_init_1 hTS ?_)) fun r2 s2 hr2 => ?_
      · unfold Builtin.«set.__init__» noKeywords Builtin.Frozenset.updateFrom
        generalize hPI : pyIter = PI
        wp_walk
        subst hPI
        refine hi _ _ _ fun o fp Pv St W hS' hv st => ?_
        refine wpAny_bind (wpAny_runValue (?_))
        refine update_texts (W _ (by simp [hh])) s.heap.objs.size hS' xs rfl hv xs.length 0 [] _ (by omega) (Nat.zero_le _) st (setS_new (Heap.get?_push_of_some _ hS)) (by show 0 + (xs.length - 0) + 1 < scanBound; omega) fun s' mv y => ?_
        obtain ⟨h', g2, d', tk', os'⟩ := s'
        obtain rfl : g2 = s.gens := mv.gens
        obtain rfl : d' = s.drawn := mv.drawn
        obtain rfl : os' = s.os := mv.os
        show wpAny _ _ _ _ _ _
        refine wpAny_pure ?_
        show wpAny _ _ (ret Value.none) _ _ _
        refine wpAny_pure ⟨rfl, h', tk', rfl, y, fun b o e => ?_⟩
        have b0 : b < s.heap.objs.size := Heap.lt_size e
        refine mv.heap b o (fun z => ?_) (Heap.get?_push_of_some _ (Heap.get?_push_of_some _ e))
        rcases List.mem_cons.mp z with z | z
        · exact absurd b0 (by rw [z]; exact Nat.lt_irrefl _)
        · have z2 : b = s.heap.objs.size + 1 := (List.mem_singleton.mp z).trans (size_push' _ _)
          exact absurd b0 (by rw [z2]; exact Nat.not_lt_of_le (Nat.le_succ _))
      · cases r2 with
        | error e => exact hr2
        | ok f2 =>
          cases f2 with
          | ret r =>
            obtain ⟨rfl, h', tk, rfl, y, k⟩ := hr2
            repeat (any_goals (first | assumption | wp_step))
            exact h _ _ y k
          | _ => exact hr2.elim
    | _ => exact hr.elim
end
section
variable {P : Program} {w : World} {A : Around} {E : Value → Shared → Prop} {s : Shared}
def tsigns (x : Str) : List Str := x.cps.toList.map fun c => ⟨#[c]⟩
theorem iter_text {x : Str} {t : Tok} {S : Addr} (hS : S ≠ s.heap.objs.size) : IterT P w (.str x t) S s (tsigns x) := by
  intro A1 E1 Q1 q
  refine wpAny_pyIter_str fun o St W st => ?_
  refine q o [s.heap.objs.size] (SignAt x) (fun i s' => St i s'.heap) (fun A2 h2 => ?_) (fun z => hS (List.mem_singleton.mp z)) (fun i v hv => ?_) st
  · have z := (W A2 h2).toS
    have e : (tsigns x).length = x.cps.size := by simp [tsigns]
    rw [e]
    exact z
  · obtain ⟨c, u, hc, rfl⟩ := hv
    refine ⟨⟨#[c]⟩, u, ?_, rfl⟩
    unfold tsigns
    rw [List.getElem?_map, Array.getElem?_toList, hc] <;> rfl
theorem iter_listT {l : Addr} {items : List Value} {xs : List Str} {S : Addr} (hl : s.heap.IsList l items.toArray) (hv : PySem.W.EachIs (fun v (k : Str) => ∃ t, v = .str k t) items xs) (hS : S ≠ s.heap.objs.size) (hSl : S ≠ l) : IterT P w (.ref l) S s xs := by
  intro A1 E1 Q1 q
  have hlt : l < s.heap.objs.size := by
    obtain ⟨_, e, _⟩ := hl
    exact Heap.lt_size e
  refine wpAny_pyIter_list hl ?_
  have hsz : items.toArray.size = xs.length := by rw [List.size_toArray]; exact hv.length
  have ne : l ≠ s.heap.objs.size := Nat.ne_of_lt hlt
  refine q _ [s.heap.objs.size, l] (fun i v => items.toArray[i]? = some v) (fun i s' => s'.heap.IsListIter s.heap.objs.size l i ∧ s'.heap.IsList l items.toArray) (fun A2 h2 => ?_) (fun z => ?_) (fun i v e => ?_) ⟨?_, ?_⟩
  · have z := (Walks.list (prog := P) (w := w) h2 s.heap.objs.size l ne items.toArray).toS
    rw [hsz] at z
    exact z
  · rcases List.mem_cons.mp z with z | z
    · exact hS z
    · exact hSl (List.mem_singleton.mp z)
  · have e1 : items[i]? = some v := by
      rw [← e]
      simp
    have key : ∀ {us : List Value} {ks : List Str}, PySem.W.EachIs (fun v (k : Str) => ∃ t, v = .str k t) us ks → ∀ (i : Nat), us[i]? = some v → ∃ k t, ks[i]? = some k ∧ v = .str k t := by
      intro us ks h
      induction h with
      | nil => intro i e; simp at e
      | cons h1 _ ih =>
        intro i e
        cases i with
        | zero =>
          obtain ⟨t, e2⟩ := h1
          simp at e
          exact ⟨_, t, rfl, by rw [← e]; exact e2⟩
        | succ i =>
          rw [List.getElem?_cons_succ] at e
          obtain ⟨k, t, e2, e3⟩ := ih i e
          exact ⟨k, t, by rw [List.getElem?_cons_succ]; exact e2, e3⟩
    exact key hv i e1
  · exact ⟨_, Heap.get?_push_size _ rfl, rfl, rfl⟩
  · exact hl.push _
theorem perm_of_len {α : Type} [DecidableEq α] : ∀ {l ks : List α}, l.Nodup → (∀ x ∈ l, x ∈ ks) → ks.length = l.length → ks.Perm l
  | [], ks, _, _, h => by rw [List.eq_nil_of_length_eq_zero h]
  | x :: l, ks, nd, hs, h => by
    obtain ⟨n1, n2⟩ := List.nodup_cons.mp nd
    have hx := hs x List.mem_cons_self
    have p := List.perm_cons_erase hx
    refine p.trans ((perm_of_len n2 (fun y hy => ?_) ?_).cons x)
    · exact (List.mem_erase_of_ne (fun (e : y = x) => n1 (by rw [← e]; exact hy))).2 (hs y (.tail _ hy))
    · rw [List.length_erase_of_mem hx, h] <;> rfl
end
end Vs
namespace Vk
open PySem PySem.Spec PyProof.Rows L2 Vs
def SetSO (P : Program) (w : World) (a : Addr) (l : List Str) : HO := .ext fun h => SetS P w h a l
def leS (x y : Str) : Bool := decide (x.cps.toList ≤ y.cps.toList)
section
variable {X : Cx}
theorem setSO_new {P : Program} {w : World} {H : Hp} {h : Heap} {a : Addr} {l : List Str} (x : SetS P w h a l) : ObjOk P w H h a (SetSO P w a l) := by
  have ⟨D, ho, _⟩ := x
  exact ⟨x, ⟨_, ho⟩, fun h1 h2 p k => p.at k⟩
/-- set(z) of a text -/
def rSetTxt (P : Program) (w : World) : List V → Hp → VK → Prop := fun vs H Q => ∃ z, vs = [.str z] ∧ z.cps.size + 1 < scanBound ∧ ∀ p, H p = none → Q (.ref p) (upd H p (SetSO P w p (putL [] (tsigns z))))
theorem cr_setTxt (hc : X.calm = true) : CallR X (.type "set") (rSetTxt X.prog X.w) := by
  intro pins s σ H vs us Q I r h
  obtain ⟨z, rfl, hb, q⟩ := h
  obtain ⟨u, rfl, t, rfl⟩ := vals1 r
  have hz1 : (s.heap.push (newO X.w)).objs.size = s.heap.objs.size + 1 := size_push' _ _
  have hls : (tsigns z).length = z.cps.size := by simp [tsigns]
  refine call_setG (I.ok.hd hc) (typeIs_str _ _ _) PySem.F.sub_str_set PySem.F.sub_str_frozenset (by decide) (iter_text (s := { s with heap := s.heap.push (newO X.w) }) (by show s.heap.objs.size ≠ (s.heap.push (newO X.w)).objs.size; rw [hz1]; omega)) (by rw [hls]; exact hb) fun h' tk x k => ?_
  exact ⟨.ref _, _, I.laid (t' := tk) k (Nat.le_refl _) (setSO_new x), rfl, q _ (I.hok.fresh (Nat.le_refl _))⟩
/-- set(l) of a list of texts -/
def rSetLT (K : PySem.W.Frag) (P : Program) (w : World) : List V → Hp → VK → Prop := fun vs H Q => ∃ a ks, vs = [.ref a] ∧ SqL K H a (ks.map V.str) ∧ ks.length + 1 < scanBound ∧ ∀ p, H p = none → Q (.ref p) (upd H p (SetSO P w p (putL [] ks)))
theorem each_texts : ∀ {ks : List Str} {us : List Value}, Vals (ks.map V.str) us → PySem.W.EachIs (fun v (k : Str) => ∃ t, v = .str k t) us ks
  | [], us, r => by
    cases r
    exact .nil
  | k :: ks, us, r => by
    cases r with
    | cons h t => exact .cons h (each_texts t)
theorem cr_setLT (hc : X.calm = true) : CallR X (.type "set") (rSetLT X.K X.prog X.w) := by
  intro pins s σ H vs us Q I r h
  obtain ⟨a, ks, rfl, hs, hb, q⟩ := h
  rw [Vals.ref1 r]
  obtain ⟨its, rv, hl, _⟩ := I.list hs
  have hl' := hl.isList
  have hlt : a < s.heap.objs.size := by
    obtain ⟨_, e, _⟩ := hl'
    exact Heap.lt_size e
  have hz1 : (s.heap.push (newO X.w)).objs.size = s.heap.objs.size + 1 := size_push' _ _
  refine call_setG (I.ok.hd hc) (hl'.push _).typeIs PySem.F.sub_list_set PySem.F.sub_list_frozenset (by decide) (iter_listT (s := { s with heap := s.heap.push (newO X.w) }) (hl'.push _) (each_texts rv) (by show s.heap.objs.size ≠ (s.heap.push (newO X.w)).objs.size; rw [hz1]; omega) (Nat.ne_of_gt hlt)) hb fun h' tk x k => ?_
  exact ⟨.ref _, _, I.laid (t' := tk) k (Nat.le_refl _) (setSO_new x), rfl, q _ (I.hok.fresh (Nat.le_refl _))⟩
/-- sorted(found) of a set of texts -/
def rSortedTx (P : Program) (w : World) : List V → Hp → VK → Prop := fun vs H Q => ∃ a l, vs = [.ref a] ∧ H a = some (SetSO P w a l) ∧
  ∀ (ys : List Str) p, ys.Perm l → ys.Nodup → ys.Pairwise (fun x y => leS x y = true) → H p = none → Q (.ref p) (upd H p (.lst (ys.map V.str)))
theorem elems_texts {P : Program} {w : World} : ∀ {es : List (Int × Value)}, ElemsOf (strKind P w) es → ∃ ks : List Str, PySem.W.EachIs (fun v (k : Str) => ∃ t, v = .str k t) (es.map (·.2)) ks
  | [], _ => ⟨[], .nil⟩
  | e :: es, h => by
    obtain ⟨⟨k, hk, _⟩, _⟩ := h e List.mem_cons_self
    obtain ⟨t, ht⟩ := Value.isStrOf_shape (x := k) (v := e.2) hk
    obtain ⟨ks, r⟩ := elems_texts (P := P) (w := w) (es := es) fun e' he => h e' (.tail _ he)
    exact ⟨k :: ks, .cons ⟨t, ht⟩ r⟩
theorem texts_mem {us : List Value} {ks : List Str} (r : PySem.W.EachIs (fun v (k : Str) => ∃ t, v = .str k t) us ks) : ∀ {v : Value} {k : Str}, v ∈ us → Value.isStrOf k v = true → k ∈ ks := by
  induction r with
  | nil => exact fun h => nomatch h
  | @cons av bk _ _ h1 _ ih =>
    intro v k hv hk
    rcases List.mem_cons.mp hv with e | hv
    · obtain ⟨t, e2⟩ := h1
      rw [e, e2] at hk
      obtain ⟨t2, e3⟩ := Value.isStrOf_shape (x := k) (v := .str bk t) hk
      injection e3 with e4 _
      rw [← e4]
      exact List.mem_cons_self
    · exact .tail _ (ih hv hk)
theorem vals_texts : ∀ {us : List Value} {ks : List Str}, PySem.W.EachIs (fun v (k : Str) => ∃ t, v = .str k t) us ks → Vals (ks.map V.str) us
  | _, _, .nil => .nil
  | _, _, .cons h t => .cons h (vals_texts t)
theorem cr_sortedTx (hc : X.calm = true) (hu : X.A.units + 64 < cLine) : CallR X (.builtin "sorted") (rSortedTx X.prog X.w) := by
  intro pins s σ H vs us Q I r h
  obtain ⟨a, l, rfl, ha, q⟩ := h
  rw [Vals.ref1 r]
  obtain ⟨⟨D, ho, F, nd, hb, hr, ld⟩, _⟩ : SetS X.prog X.w s.heap a l ∧ _ := I.hok a _ ha
  obtain ⟨ks, e⟩ := elems_texts F.el
  have hlen : ks.length = l.length := by
    rw [← e.length, List.length_map, Array.length_toList]
    exact F.sz
  have pk : ks.Perm l := perm_of_len nd (fun k hk => by
    obtain ⟨en, he, z⟩ := (F.mem k).mp hk
    exact texts_mem e (List.mem_map.mpr ⟨en, he, rfl⟩) z) hlen
  refine sorted_setG (enc := PyData.str) (R := fun v (k : Str) => ∃ t, v = .str k t) (I.ok.hd hc) ⟨_, ho, rfl, rfl⟩ F.fit (by rw [F.sz]; exact hb) hr ld (e.mono fun v k z => ⟨z, by obtain ⟨t, rfl⟩ := z; exact .str k t⟩)
    (PySem.W.AllAlike.of fun _ _ => by simp [PySem.W.alike]) (PySem.W.Sortable.others fun b => ⟨(fun z => nomatch z), fun _ z => nomatch z⟩) (fun b _ => by simp [PyData.depth]; omega) fun s' p out c bs' k g o hp hg pb eo => ?_
  have py : (bs'.mergeSort (PySem.W.dataLe false PyData.str)).Perm l := (List.mergeSort_perm _ _).trans (pb.trans pk)
  have hlo : ((bs'.mergeSort (PySem.W.dataLe false PyData.str)).map V.str).length ≤ sizeLine := by
    rw [List.length_map, py.length_eq]
    exact fits_of_scanBound hb
  have hn : H p = none := I.hok.fresh hp
  have e2 : s' = { s with heap := s'.heap, gens := s'.gens, drawn := s'.drawn, toks := s'.toks } := by
    cases s'
    cases s
    cases o
    rfl
  rw [e2]
  have J : Inv X pins σ (upd H p (.lst ((bs'.mergeSort (PySem.W.dataLe false PyData.str)).map V.str))) { s with heap := s'.heap, gens := s'.gens, drawn := s'.drawn, toks := s'.toks } :=
    I.call (ch := []) (Un.laid k hp hn) (I.hok.laid k hp ⟨hlo, out, c, vals_texts eo, hg⟩) (by rw [g]; exact I.bare) (fun _ z => nomatch z)
  refine ⟨.ref p, _, J, rfl, q _ p py (py.nodup_iff.mpr nd) ?_ hn⟩
  have le : PySem.W.dataLe false PyData.str = fun x y : Str => leS x y := PySem.W.dataLe_str (fun b : Str => b)
  rw [le]
  refine List.pairwise_mergeSort (fun x y z h1 h2 => ?_) (fun x y => ?_) bs'
  · simp only [leS, decide_eq_true_eq] at h1 h2 ⊢
    exact List.le_trans h1 h2
  · simp only [leS, Bool.or_eq_true, decide_eq_true_eq]
    exact List.le_total _ _
end
end Vk
set_option Elab.async false
set_option linter.all false
set_option maxRecDepth 100000
set_option maxHeartbeats 4000000
/-! Sets of tuples of ints and texts: made, asked, added to; sorted. -/
namespace Vt
open PySem PySem.Spec PyProof.Rows L2
/-- the tuple at a has the keys k -/
abbrev IsM (P : Program) (w : World) (h : Heap) (k : List Key) (a : Addr) : Prop := IsTupleKey (mixKind P w) h k a
abbrev mh (P : Program) (w : World) (k : List Key) : Int := tupleKeyHash (mixKind P w) k
def mRows (P : Program) (w : World) (L : List (Addr × List Key)) : List (Int × Value) := L.map fun p => (mh P w p.2, Value.ref p.1)
structure SetM (P : Program) (w : World) (h : Heap) (a : Addr) (L : List (Addr × List Key)) (es : Array (Int × Value)) (ep : Nat) (t : SetTable) : Prop where
  ob : ∃ o, h.get? a = some o ∧ o.ExactSet ∧ o.data = .set es ep t
  rows : es.toList = mRows P w L
  tab : Tab t (L.map fun p => mh P w p.2)
  nd : (L.map (·.2)).Nodup
  tup : ∀ p ∈ L, IsM P w h p.2 p.1
  led : w.params.followText "set-order" = true ∨ t.led = true
  room : L.length * 5 < t.mask * 3
  mm : t.mask = 7 ∨ t.mask = 31 ∨ t.mask = 127 ∨ t.mask = 511 ∨ t.mask = 2047 ∨ t.mask = 8191
  few : L.length ≤ 4000
section
variable {P : Program} {w : World} {A : Around} {E : Value → Shared → Prop} {s : Shared}
theorem items_mix {k : List Key} {vs : List Value} (h : ItemsAre (mixKind P w) k vs) : ∀ v ∈ vs, (∃ i t, v = Value.int i t) ∨ ∃ x t, v = Value.str x t := by
  induction h with
  | nil => exact fun v hv => nomatch hv
  | cons h1 _ ih =>
    intro v hv
    rcases List.mem_cons.mp hv with e | hv
    · rcases keyIs_shape h1 with ⟨i, t, _, e2⟩ | ⟨x, t, _, e2⟩
      · exact .inl ⟨i, t, e.trans e2⟩
      · exact .inr ⟨x, t, e.trans e2⟩
    · exact ih v hv
theorem cls_mix (n : Nat) {v : Value} (h : (∃ i t, v = Value.int i t) ∨ ∃ x t, v = Value.str x t) : ofAClassStatement n v = pure false := by
  rcases h with ⟨i, t, rfl⟩ | ⟨x, t, rfl⟩
  · cases n <;> rfl
  · cases n <;> rfl
theorem cls_tupM {k : List Key} {b : Addr} {Q : Bool → Shared → Prop} (hk : IsM P w s.heap k b) (h : Q false s) : wpAny (model P w) A (ofAClassStatement 8 (.ref b)) Q E s := by
  have ty := hk.typeIs
  obtain ⟨o, items, n, ho, _, hd, hi⟩ := hk
  unfold ofAClassStatement
  refine wpAny_bind (wpAny_typeOf ty ?_)
  dsimp only
  simp only [show (("tuple" : String) == "tuple") = true by decide, if_true, Bool.not_true, Bool.false_eq_true, if_false]
  try refine wpAny_bind (wpAny_pure ?_)
  try simp only [Bool.not_true, Bool.false_eq_true, if_false]
  show wpAny _ _ (seqItems? (.ref b) >>= _) _ _ s
  refine wpAny_bind (wpAny_seqItems ho hd ?_)
  dsimp only
  refine wpAny_bind ?_
  show wpAny _ _ (forIn items _ _) _ _ s
  rw [← Array.forIn_toList]
  refine wpAny_forIn_list _ (fun rest r s' => (r.1 = none ∧ s' = s) ∧ ∀ v ∈ rest, (∃ i t, v = Value.int i t) ∨ ∃ x t, v = Value.str x t) _ (fun v rest r s' z => ?_) (fun r s' z => ?_) _ _ ⟨⟨rfl, rfl⟩, items_mix hi⟩
  · obtain ⟨⟨z1, rfl⟩, z2⟩ := z
    rw [cls_mix _ (z2 v List.mem_cons_self)]
    refine wpAny_bind (wpAny_pure ?_)
    simp only [Bool.false_eq_true, if_false]
    exact wpAny_pure ⟨⟨rfl, rfl⟩, fun u hu => z2 u (.tail _ hu)⟩
  · obtain ⟨r1, r2⟩ := r
    obtain ⟨⟨z1, rfl⟩, _⟩ := z
    simp only at z1
    subst z1
    exact wpAny_pure h
theorem byval_mix {v : Value} (n : Nat) (h : (∃ i t, v = Value.int i t) ∨ ∃ x t, v = Value.str x t) : ∃ b, hashByValue n v = pure b := by
  rcases h with ⟨i, t, rfl⟩ | ⟨x, t, rfl⟩
  · exact ⟨true, by cases n <;> rfl⟩
  · exact ⟨false, by cases n <;> rfl⟩
theorem byval_tupM {k : List Key} {b : Addr} {Q : Bool → Shared → Prop} (hk : IsM P w s.heap k b) (h : ∀ r, Q r s) : wpAny (model P w) A (hashByValue 8 (.ref b)) Q E s := by
  have ty := hk.typeIs
  obtain ⟨o, items, n, ho, _, hd, hi⟩ := hk
  unfold hashByValue
  refine wpAny_bind (wpAny_specialOf ty PySem.F.slot_tuple_hash.lookup ?_)
  show wpAny _ _ (seqItems? (.ref b) >>= _) _ _ s
  refine wpAny_bind (wpAny_seqItems ho hd ?_)
  refine wpAny_bind ?_
  show wpAny _ _ (forIn items _ _) _ _ s
  rw [← Array.forIn_toList]
  refine wpAny_forIn_list _ (fun rest r s' => (r.1 = none ∧ s' = s) ∧ ∀ v ∈ rest, (∃ i t, v = Value.int i t) ∨ ∃ x t, v = Value.str x t) _ (fun v rest r s' z => ?_) (fun r s' z => ?_) _ _ ⟨⟨rfl, rfl⟩, items_mix hi⟩
  · obtain ⟨⟨z1, rfl⟩, z2⟩ := z
    obtain ⟨b, eb⟩ := byval_mix (v := v) 7 (z2 v List.mem_cons_self)
    rw [eb]
    refine wpAny_bind (wpAny_pure ?_)
    cases b with
    | true =>
      simp only [Bool.not_true, Bool.false_eq_true, if_false]
      exact wpAny_pure ⟨⟨rfl, rfl⟩, fun u hu => z2 u (.tail _ hu)⟩
    | false =>
      simp only [Bool.not_false, if_true]
      exact wpAny_pure (wpAny_pure (h false))
  · obtain ⟨r1, r2⟩ := r
    obtain ⟨⟨z1, rfl⟩, _⟩ := z
    simp only at z1
    subst z1
    exact wpAny_pure (h true)
theorem seen_M {k : List Key} {b : Addr} {Q : Bool → Shared → Prop} (hk : IsM P w s.heap k b) {ys : List Value} (hy : ∀ y ∈ ys, ∃ k' c, y = Value.ref c ∧ IsM P w s.heap k' c) (h : Q false s) : wpAny (model P w) A (searchCouldBeSeen (.ref b) ys) Q E s := by
  unfold searchCouldBeSeen
  refine wpAny_bind ?_
  refine wpAny_forIn_list _ (fun rest r s' => (r.1 = none ∧ s' = s) ∧ ∀ y ∈ rest, ∃ k' c, y = Value.ref c ∧ IsM P w s.heap k' c) _ (fun v rest r s' z => ?_) (fun r s' z => ?_) _ _ ⟨⟨rfl, rfl⟩, hy⟩
  · obtain ⟨⟨z1, rfl⟩, z2⟩ := z
    obtain ⟨k', c, rfl, hc⟩ := z2 v List.mem_cons_self
    have on : ∀ y ∈ rest, ∃ k' c, y = Value.ref c ∧ IsM P w s'.heap k' c := fun u hu => z2 u (.tail _ hu)
    dsimp only
    by_cases same : (b == c || (carriedByValue (.ref b) && carriedByValue (.ref c))) = true
    · exact wp_if_pos same (wpAny_pure ⟨⟨rfl, rfl⟩, on⟩)
    · refine wp_if_neg same (wpAny_bind (wpAny_eqIsQuiet_tuple hk ?_))
      simp only [Bool.not_true, Bool.false_eq_true, if_false]
      refine wpAny_bind (wpAny_eqIsQuiet_tuple hc ?_)
      simp only [Bool.not_true, Bool.false_eq_true, if_false]
      refine wpAny_bind (cls_tupM hk ?_)
      simp only [Bool.false_eq_true, if_false]
      refine wpAny_bind (cls_tupM hc ?_)
      simp only [Bool.false_eq_true, if_false]
      exact wpAny_pure ⟨⟨rfl, rfl⟩, on⟩
  · obtain ⟨r1, r2⟩ := r
    obtain ⟨⟨z1, rfl⟩, _⟩ := z
    simp only at z1
    subst z1
    exact wpAny_pure h
variable {a : Addr} {L : List (Addr × List Key)} {es : Array (Int × Value)} {ep : Nat} {t : SetTable}
theorem SetM.size (R : SetM P w s.heap a L es ep t) : es.size = L.length := by
  have h := congrArg List.length R.rows
  rw [mRows, List.length_map, Array.length_toList] at h
  exact h
theorem SetM.maskLe (R : SetM P w s.heap a L es ep t) : 7 ≤ t.mask ∧ t.mask ≤ 8191 := by
  rcases R.mm with e | e | e | e | e | e <;> omega
theorem SetM.fits (R : SetM P w s.heap a L es ep t) : t.fits es.size = true := by
  have h1 := R.tab.len
  rw [List.length_map] at h1
  have h2 := R.size
  have h3 := R.room
  rw [SetTable.fits, SetTable.fill, R.tab.cl, Bool.and_eq_true, beq_iff_eq, decide_eq_true_eq]
  show t.place.size = es.size ∧ t.place.size + 0 ≤ t.mask
  omega
theorem SetM.at (R : SetM P w s.heap a L es ep t) {i : Nat} {p : Addr × List Key} (h : L[i]? = some p) : es[i]? = some (mh P w p.2, Value.ref p.1) := by
  rw [← Array.getElem?_toList, R.rows, mRows, List.getElem?_map, h] <;> rfl
theorem SetM.way0 (R : SetM P w s.heap a L es ep t) : ¬ t.gaveWay = true := by
  rw [SetTable.gaveWay, R.tab.odd]
  decide
abbrev from0 (m : Nat) (h : Int) : SetTable.Probe := runAt m (SetTable.bits h % (m + 1)) (SetTable.bits h)
theorem nth_no (m : Nat) : ∀ (n : Nat) (p : SetTable.Probe), p.dummy = none → (nth m p n).dummy = none
  | 0, _, h => h
  | n + 1, p, h => nth_no m n _ (by unfold adv; split <;> exact h)
theorem search_m (R : SetM P w s.heap a L es ep t) {x : Addr} {k : List Key} (hx : IsM P w s.heap k x) (hu : A.units < cLine) {add : Bool} {H : Int} (hH : H = mh P w k) {K : Nat} (kf : K < 10 * SetTable.turns t.mask)
    (out : way t.mask H K ∉ t.place.toList) (ins : ∀ c, c < K → way t.mask H c ∈ t.place.toList) {Q : SetFound → Shared → Prop}
    (yes : k ∈ L.map (·.2) → ∀ o, (add = false → o.isSome = true) → Q (.there o) s) (no : k ∉ L.map (·.2) → Q (.free (way t.mask H K) false) s) :
    ∀ (f c : Nat) (stand : Option SetTable.Probe), stand.getD (t.probeStart H) = nth t.mask (from0 t.mask H) c → c ≤ K → K - c < f →
      (∀ (i : Nat) p, L[i]? = some p → p.2 = k → ∃ d, c ≤ d ∧ d < K ∧ t.place.toList[i]? = some (way t.mask H d)) → wpAny (model P w) A (setSearchFrom a (.ref x) H add f stand) Q E s
  | 0, _, _, _, _, hf, _ => absurd hf (Nat.not_lt_zero _)
  | f + 1, c, stand, hst, hc, hf, left => by
    obtain ⟨o, ho, hex, hd⟩ := R.ob
    rw [setSearchFrom_succ]
    refine wpAny_bind (wpAny_setState_of ho hd R.fits ?_)
    dsimp only
    refine wp_if_neg R.way0 ?_
    try refine wpAny_bind (wpAny_pure ?_)
    have sh : ∀ q, (nth t.mask (nth t.mask (from0 t.mask H) c) q).j = way t.mask H (c + q) := fun q => congrArg SetTable.Probe.j (nth_add t.mask c _ q).symm
    have hh : ∀ (i : Nat) p, L[i]? = some p → (es[i]?.map (·.1)).getD 0 = mh P w p.2 := fun i p hp => by rw [R.at hp] <;> rfl
    have spec := go_spec t R.tab.up R.tab.cl (fun i => (es[i]?.map (·.1)).getD 0) H (10 * SetTable.turns t.mask) (K - c) (nth t.mask (from0 t.mask H) c) (nth_no _ _ _ rfl) (by omega)
      (fun q hq => by rw [sh]; exact ins (c + q) (by omega)) (by rw [sh, show c + (K - c) = K by omega]; exact out)
    rcases spec with ⟨q, i, hq, hi, he, hno, pr⟩ | ⟨hno, pr⟩
    · have pr2 : t.probe (fun i => (es[i]?.map (·.1)).getD 0) H (stand.getD (t.probeStart H)) = some (.candidate (nth t.mask (nth t.mask (from0 t.mask H) c) q).j i (nth t.mask (nth t.mask (from0 t.mask H) c) (q + 1))) := by
        rw [hst]
        exact pr
      rw [pr2]
      dsimp only
      rw [sh] at hi
      have il : i < L.length := by
        have h1 := (List.getElem?_eq_some_iff.mp hi).1
        rw [Array.length_toList, R.tab.len, List.length_map] at h1
        exact h1
      obtain ⟨p, hp⟩ : ∃ p, L[i]? = some p := ⟨_, List.getElem?_eq_getElem il⟩
      have pm := List.mem_of_getElem? hp
      have rest : wpAny (model P w) A (searchRest a (.ref x) H add f es t (nth t.mask (nth t.mask (from0 t.mask H) c) q).j i (nth t.mask (nth t.mask (from0 t.mask H) c) (q + 1))) Q E s := by
        unfold searchRest
        rw [R.at hp]
        dsimp only
        refine wpAny_bind (wpAny_holding (wpAny_eqBool_tuple hu (R.tup p pm) hx ?_))
        refine wpAny_bind (wpAny_setState_of ho hd R.fits ?_)
        dsimp only
        rw [sh]
        have sl : t.slot (way t.mask H (c + q)) = .live i := slot_live R.tab.up hi
        by_cases kk : p.2 = k
        · have km : k ∈ L.map (·.2) := List.mem_map.mpr ⟨p, pm, kk⟩
          cases add with
          | true => exact wp_if_pos (by simp [kk]) (wpAny_pure (yes km _ fun z => nomatch z))
          | false =>
            refine wp_if_neg (by simp) ?_
            try refine wpAny_bind (wpAny_pure ?_)
            rw [sameMem]
            dsimp only
            simp only [if_true, sl, R.at hp]
            refine wpAny_bind (wpAny_isSame_ref_self (wpAny_bind (wpAny_pure ?_)))
            simp only [if_true]
            exact wp_if_pos (by simp [kk]) (wpAny_pure (yes km _ fun _ => rfl))
        · refine wp_if_neg (by simp [kk]) ?_
          try refine wpAny_bind (wpAny_pure ?_)
          rw [sameMem]
          dsimp only
          simp only [if_true, sl, R.at hp]
          refine wpAny_bind (wpAny_isSame_ref_self (wpAny_bind (wpAny_pure ?_)))
          simp only [if_true]
          refine wp_if_neg (by simp [kk]) ?_
          refine search_m R hx hu hH kf out ins yes no f (c + (q + 1)) _ (nth_add t.mask c _ (q + 1)).symm (by omega) (by omega) fun i0 p0 h0 k0 => ?_
          obtain ⟨d, d1, d2, d3⟩ := left i0 p0 h0 k0
          refine ⟨d, ?_, d2, d3⟩
          rcases Nat.lt_trichotomy d (c + q) with z | z | z
          · exact absurd ((hh i0 p0 h0).trans ((congrArg (mh P w) k0).trans hH.symm)) (hno (d - c) i0 (by omega) (by rw [sh, show c + (d - c) = d by omega]; exact d3))
          · rw [z] at d3
            have s0 := slot_live R.tab.up d3
            rw [sl] at s0
            injection s0 with s0
            rw [← s0, hp] at h0
            cases h0
            exact absurd k0 kk
          · omega
      by_cases hl : t.led = true
      · refine wp_if_neg (by simp [hl]) ?_
        try refine wpAny_bind (wpAny_pure ?_)
        exact rest
      · refine wp_if_pos (by simp [hl]) (wpAny_bind (seen_M hx (fun y hy => ?_) ?_))
        · obtain ⟨e, he2, rfl⟩ := List.mem_map.mp hy
          have e1 : e ∈ es ∧ e.1 = H := by simpa using he2
          have e2 : e ∈ es.toList := by simpa using e1.1
          rw [R.rows] at e2
          obtain ⟨p2, hp2, rfl⟩ := List.mem_map.mp e2
          exact ⟨p2.2, p2.1, rfl, R.tup p2 hp2⟩
        · refine wp_if_neg (by decide) ?_
          try refine wpAny_bind (wpAny_pure ?_)
          exact rest
    · have pr2 : t.probe (fun i => (es[i]?.map (·.1)).getD 0) H (stand.getD (t.probeStart H)) = some (.empty (nth t.mask (nth t.mask (from0 t.mask H) c) (K - c)).j none) := by
        rw [hst]
        exact pr
      rw [pr2]
      dsimp only
      rw [sh, show c + (K - c) = K by omega]
      refine wpAny_pure (no fun hm => ?_)
      obtain ⟨p0, h0, k0⟩ := List.mem_map.mp hm
      obtain ⟨i0, hi0, e0⟩ := List.getElem_of_mem h0
      have g0 : L[i0]? = some p0 := by rw [List.getElem?_eq_getElem hi0, e0]
      obtain ⟨d, d1, d2, d3⟩ := left i0 p0 g0 k0
      exact hno (d - c) i0 (by omega) (by rw [sh, show c + (d - c) = d by omega]; exact d3) ((hh i0 p0 g0).trans ((congrArg (mh P w) k0).trans hH.symm))
/-- a search, from its begin -/
theorem search_M (R : SetM P w s.heap a L es ep t) {x : Addr} {k : List Key} (hx : IsM P w s.heap k x) (hu : A.units < cLine) {add : Bool} {Q : SetFound → Shared → Prop}
    (yes : k ∈ L.map (·.2) → ∀ o, (add = false → o.isSome = true) → Q (.there o) s)
    (no : ∀ K, k ∉ L.map (·.2) → way t.mask (mh P w k) K ∉ t.place.toList → (∀ c, c < K → way t.mask (mh P w k) c ∈ t.place.toList) → Q (.free (way t.mask (mh P w k) K) false) s) :
    wpAny (model P w) A (setSearch a (.ref x) (mh P w k) add) Q E s := by
  have rm := R.room
  obtain ⟨m1, m2⟩ := R.maskLe
  obtain ⟨K, kf, out, ins⟩ := R.tab.gap (by rw [List.length_map]; omega) (mh P w k)
  have big : K < 100000 := by
    unfold SetTable.turns at kf
    omega
  unfold setSearch
  refine search_m R hx hu rfl kf out ins yes (fun z => no K z out ins) 100000 0 none rfl (Nat.zero_le _) (by omega) fun i p hp hk => ?_
  have hi : (L.map fun p => mh P w p.2)[i]? = some (mh P w k) := by rw [List.getElem?_map, hp, ← hk] <;> rfl
  have il : i < t.place.toList.length := by
    rw [Array.length_toList, R.tab.len, List.length_map]
    exact (List.getElem?_eq_some_iff.mp hp).1
  obtain ⟨d, hd, e⟩ := R.tab.ahead out hi (List.getElem?_eq_getElem il)
  exact ⟨d, Nat.zero_le _, hd, by rw [List.getElem?_eq_getElem il, e]⟩
/-- k in the set -/
theorem has_M (R : SetM P w s.heap a L es ep t) {x : Addr} {k : List Key} (hx : IsM P w s.heap k x) (hu : A.units < cLine) {Q : Bool → Shared → Prop} (h : ∀ tk b, (b = true ↔ k ∈ L.map (·.2)) → Q b { s with toks := tk }) :
    wpAny (model P w) A (setContains a (.ref x)) Q E s := by
  unfold setContains
  refine wpAny_holding (wpAny_bind (wpAny_pyHash_tuple hu hx ?_))
  obtain ⟨o, ho, hex, hd⟩ := R.ob
  unfold setFind setFindIn
  refine wpAny_bind ?_
  refine wpAny_bind (wpAny_setState_of (s := { s with toks := s.toks + (k.length + 1) }) ho hd R.fits ?_)
  dsimp only
  refine wp_if_neg (by simp [byScan, Value.scannable]) ?_
  try refine wpAny_bind (wpAny_pure ?_)
  refine wpAny_bind (search_M (s := { s with toks := s.toks + (k.length + 1) }) (add := false) R hx hu (fun hm o ok => ?_) fun K hm _ _ => ?_)
  · refine wpAny_pure (wpAny_pure ?_)
    have := h (s.toks + (k.length + 1)) true ⟨fun _ => hm, fun _ => rfl⟩
    rw [ok rfl]
    exact this
  · refine wpAny_pure (wpAny_pure ?_)
    exact h (s.toks + (k.length + 1)) false ⟨(fun z => nomatch z), fun z => absurd z hm⟩
theorem pick_rows (L : List (Addr × List Key)) (es : Array (Int × Value)) (hr : es.toList = mRows P w L) : ∀ l : List Nat, (∀ i ∈ l, i < L.length) → l.filterMap (fun i => es[i]?) = mRows P w (l.filterMap fun i => L[i]?) ∧
    ((l.filterMap fun i => L[i]?).map fun p => mh P w p.2) = l.map fun i => (es.map (·.1)).getD i 0
  | [], _ => ⟨rfl, rfl⟩
  | i :: l, h => by
    have hi := h i List.mem_cons_self
    obtain ⟨e1, e2⟩ := pick_rows L es hr l fun j hj => h j (.tail _ hj)
    have g : es[i]? = some (mh P w (L[i]).2, Value.ref (L[i]).1) := by
      rw [← Array.getElem?_toList, hr, mRows, List.getElem?_map, List.getElem?_eq_getElem hi] <;> rfl
    have g2 : (es.map (·.1)).getD i 0 = mh P w (L[i]).2 := by
      rw [Array.getD_eq_getD_getElem?, Array.getElem?_map, g] <;> rfl
    rw [List.filterMap_cons_some g, List.filterMap_cons_some (List.getElem?_eq_getElem hi), e1, List.map_cons, List.map_cons, e2, g2]
    exact ⟨rfl, rfl⟩
theorem pick_all {α : Type} (L : List α) : (List.range L.length).filterMap (fun i => L[i]?) = L := by
  have key : ∀ n, n ≤ L.length → (List.range n).filterMap (fun i => L[i]?) = L.take n := fun n => by
    induction n with
    | zero => exact fun _ => rfl
    | succ n ih =>
      intro hn
      rw [List.range_succ, List.filterMap_append, ih (by omega), List.filterMap_cons_some (List.getElem?_eq_getElem hn), List.take_add_one, List.getElem?_eq_getElem hn] <;> rfl
  have := key _ (Nat.le_refl _)
  rw [List.take_length] at this
  exact this
theorem isM_but {h h' : Heap} {k : List Key} {a b : Addr} {o : Obj} {es : Array (Int × Value)} {ep : Nat} {t : SetTable} (hb : IsM P w h k b) (ho : h.get? a = some o) (hd : o.data = .set es ep t) (hs : Heap.SameBut a h h') : IsM P w h' k b := by
  obtain ⟨ob, items, n, hob, hc, hdb, hi⟩ := hb
  refine ⟨ob, items, n, (hs.2 b fun z => ?_).trans hob, hc, hdb, hi⟩
  subst z
  rw [ho] at hob
  cases hob
  rw [hd] at hdb
  cases hdb
def Mk (m : Nat) : Prop := m = 7 ∨ m = 31 ∨ m = 127 ∨ m = 511 ∨ m = 2047 ∨ m = 8191
theorem pw_of {m : Nat} (h : Mk m) : Pw m := by
  rcases h with e | e | e | e | e | e
  · exact ⟨3, by decide, by rw [e]⟩
  · exact ⟨5, by decide, by rw [e]⟩
  · exact ⟨7, by decide, by rw [e]⟩
  · exact ⟨9, by decide, by rw [e]⟩
  · exact ⟨11, by decide, by rw [e]⟩
  · exact ⟨13, by decide, by rw [e]⟩
theorem relay_M {o : Obj} (ho : s.heap.get? a = some o) (hex : o.ExactSet) (hd : o.data = .set es ep t) (rows : es.toList = mRows P w L) (hsz : t.place.size = es.size) (hcl : t.dummies = #[]) (hfl : es.size ≤ t.mask)
    (nd : (L.map (·.2)).Nodup) (tup : ∀ p ∈ L, IsM P w s.heap p.2 p.1) (led : w.params.followText "set-order" = true ∨ t.led = true) (few : L.length ≤ 4000) {wanted M : Nat}
    (hw : SetTable.sizeAbove wanted - 1 = M) (hM : Mk M) (room : L.length * 5 < M * 3) {Q : Unit → Shared → Prop}
    (hQ : ∀ h' L' es' ep' t', Heap.SameBut a s.heap h' → SetM P w h' a L' es' ep' t' → L'.Perm L → Q () { s with heap := h' }) : wpAny (model P w) A (setRelay a wanted) Q E s := by
  have sl : es.size = L.length := by
    have h := congrArg List.length rows
    rw [mRows, List.length_map, Array.length_toList] at h
    exact h
  have fit : t.fits es.size = true := by
    rw [SetTable.fits, SetTable.fill, hcl, Bool.and_eq_true, beq_iff_eq, decide_eq_true_eq]
    show t.place.size = es.size ∧ t.place.size + 0 ≤ t.mask
    omega
  have M1 : M ≤ 8191 := by rcases hM with e | e | e | e | e | e <;> omega
  obtain ⟨t', ord, e, hp, T, em, el, ep1⟩ := relaid_tab t (hs := es.map (·.1)) (wanted := wanted) hw (pw_of hM) (by rw [Array.size_map, sl]; omega)
  rw [Array.size_map, sl] at hp
  obtain ⟨r1, r2⟩ := pick_rows (P := P) (w := w) L es rows ord.toList fun i hi => List.mem_range.mp (hp.mem_iff.mp hi)
  have pm : (ord.toList.filterMap fun i => L[i]?).Perm L := by
    have := hp.filterMap fun i => L[i]?
    rw [pick_all] at this
    exact this
  rw [← r2] at T
  have r3 : (ord.filterMap (es[·]?)).toList = mRows P w (ord.toList.filterMap fun i => L[i]?) := by
    rw [← r1]
    simp
  generalize (ord.toList.filterMap fun i => L[i]?) = L2 at T r3 pm
  have s2 : (ord.filterMap (es[·]?)).size = es.size := by
    have h := congrArg List.length r3
    rw [mRows, List.length_map, Array.length_toList, pm.length_eq] at h
    rw [h, sl]
  rw [setRelay_eq]
  refine wpAny_bind (wpAny_setState_of ho hd fit ?_)
  dsimp only
  refine wp_if_neg (by rw [sizeLine_eq]; omega) ?_
  try refine wpAny_bind (wpAny_pure ?_)
  rw [e]
  dsimp only
  refine wpAny_bind (wp_if_neg (by rw [s2]; simp) ?_)
  try refine wpAny_bind (wpAny_pure ?_)
  refine wpAny_pure ?_
  dsimp only
  refine wpAny_storeSet_of ho hd ?_ (by rw [s2, sl, sizeLine_eq]; omega)
  have sb : Heap.SameBut a s.heap (s.heap.update a (Obj.putSet (ord.filterMap (es[·]?)) t')) := Heap.SameBut.update ..
  exact hQ _ L2 (ord.filterMap (es[·]?)) (ep + 1) t' sb ⟨⟨_, store_at ho hd, ⟨hex.1, hex.2.1, hex.2.2⟩, rfl⟩, r3, T, (pm.map (·.2)).nodup_iff.mpr nd, fun p hpm => isM_but (tup p (pm.mem_iff.mp hpm)) ho hd sb, by rw [el]; exact led,
    by rw [pm.length_eq, em]; exact room, by rw [em]; exact hM, by rw [pm.length_eq]; exact few⟩ pm
/-- the table that comes when this one is full -/
theorem next_M {m n : Nat} (h : Mk m) (h1 : n * 5 < m * 3) (h2 : (n + 1) * 5 ≥ m * 3) (few : n + 1 ≤ 4000) : ∃ M, SetTable.sizeAbove (SetTable.grown (n + 1)) - 1 = M ∧ Mk M ∧ (n + 1) * 5 < M * 3 ∧ n + 1 ≤ m := by
  rcases h with e | e | e | e | e | e
  · obtain rfl : n = 4 := by omega
    exact ⟨31, by decide +kernel, .inr (.inl rfl), by decide, by omega⟩
  · obtain rfl : n = 18 := by omega
    exact ⟨127, by decide +kernel, .inr (.inr (.inl rfl)), by decide, by omega⟩
  · obtain rfl : n = 76 := by omega
    exact ⟨511, by decide +kernel, .inr (.inr (.inr (.inl rfl))), by decide, by omega⟩
  · obtain rfl : n = 306 := by omega
    exact ⟨2047, by decide +kernel, .inr (.inr (.inr (.inr (.inl rfl)))), by decide, by omega⟩
  · obtain rfl : n = 1228 := by omega
    exact ⟨8191, by decide +kernel, .inr (.inr (.inr (.inr (.inr rfl)))), by decide, by omega⟩
  · omega
/-- adding a tuple -/
theorem add_M (R : SetM P w s.heap a L es ep t) {x : Addr} {k : List Key} (hx : IsM P w s.heap k x) (hu : A.units < cLine) (few : L.length + 1 ≤ 4000) {Q : Bool → Shared → Prop}
    (hQ : ∀ b h' L' es' ep' t', Heap.SameBut a s.heap h' → SetM P w h' a L' es' ep' t' → (k ∈ L.map (·.2) → L' = L) → (k ∉ L.map (·.2) → L'.Perm ((x, k) :: L)) → Q b { s with heap := h' }) :
    wpAny (model P w) A (setAddHashed a (.ref x) (mh P w k)) Q E s := by
  obtain ⟨o, ho, hex, hd⟩ := R.ob
  have sl := R.size
  have rm := R.room
  unfold setAddHashed
  refine wpAny_holding ?_
  rw [show (100000 : Nat) = 99999 + 1 from rfl, setAddHashedIn_succ]
  refine wpAny_bind (wpAny_setState_of ho hd R.fits ?_)
  dsimp only
  refine wp_if_neg (by simp [byScan, Value.scannable]) ?_
  try refine wpAny_bind (wpAny_pure ?_)
  refine wpAny_bind (search_M (add := true) R hx hu (fun hm o' _ => ?_) fun K hm out ins => ?_)
  · dsimp only
    exact wpAny_pure (hQ false s.heap L es ep t (Heap.SameBut.refl a s.heap) R (fun _ => rfl) fun z => absurd hm z)
  · dsimp only
    refine wpAny_bind (wpAny_setState_of ho hd R.fits ?_)
    dsimp only
    obtain ⟨p, hp⟩ : ∃ p, p = SetTable.below t.place (way t.mask (mh P w k) K) := ⟨_, rfl⟩
    obtain ⟨q1, q2, q3⟩ := R.tab.put out ins hp
    have q0 : t.put (way t.mask (mh P w k) K) = ((t.put (way t.mask (mh P w k) K)).1, p) := by rw [hp] <;> rfl
    have q4 : (t.put (way t.mask (mh P w k) K)).1.mask = t.mask := rfl
    have q5 : (t.put (way t.mask (mh P w k) K)).1.led = t.led := rfl
    rw [q0]
    generalize (t.put (way t.mask (mh P w k) K)).1 = t1 at q2 q3 q4 q5 ⊢
    dsimp only
    have rows1 : (SetTable.insertAt es p (mh P w k, Value.ref x)).toList = mRows P w (L.take p ++ (x, k) :: L.drop p) := by
      rw [SetTable.toList_insertAt, R.rows, mRows, mRows, List.map_append, List.map_cons, List.map_take, List.map_drop]
    have pm : (L.take p ++ (x, k) :: L.drop p).Perm ((x, k) :: L) := by
      have z : (L.take p ++ (x, k) :: L.drop p).Perm ((x, k) :: (L.take p ++ L.drop p)) := List.perm_middle
      rw [List.take_append_drop] at z
      exact z
    have tab1 : Tab t1 ((L.take p ++ (x, k) :: L.drop p).map fun p => mh P w p.2) := by
      rw [List.map_append, List.map_cons, List.map_take, List.map_drop]
      exact q2
    have len1 : (L.take p ++ (x, k) :: L.drop p).length = L.length + 1 := pm.length_eq
    have nd1 : ((L.take p ++ (x, k) :: L.drop p).map (·.2)).Nodup := (pm.map (·.2)).nodup_iff.mpr (by rw [List.map_cons]; exact List.nodup_cons.mpr ⟨hm, R.nd⟩)
    have siz1 : (SetTable.insertAt es p (mh P w k, Value.ref x)).size = L.length + 1 := by
      have h := congrArg List.length rows1
      rw [mRows, List.length_map, Array.length_toList, len1] at h
      exact h
    generalize SetTable.insertAt es p (mh P w k, Value.ref x) = es1 at rows1 siz1 ⊢
    generalize L.take p ++ (x, k) :: L.drop p = L1 at rows1 pm tab1 len1 nd1
    have go : ∀ (t2 : SetTable), t2.place = t1.place → t2.dummies = t1.dummies → t2.mask = t1.mask → t2.led = t1.led →
        wpAny (model P w) A (do
          storeSet a es1 t2
          if !false && t2.tooFull then setRelay a (SetTable.grown (es.size + 1))
          return true) Q E s := by
      intro t2 e1 e2 e3 e4
      have tab2 : Tab t2 (L1.map fun p => mh P w p.2) := ⟨by rw [e1]; exact tab1.up, by rw [e2]; exact tab1.cl, by rw [e1]; exact tab1.len, by rw [e3]; exact tab1.pw, by rw [e1, e3]; exact tab1.top, by rw [e1, e3]; exact tab1.met⟩
      have fill2 : t2.fill = L.length + 1 := by
        have : t2.fill = t1.fill := by
          unfold SetTable.fill
          rw [e1, e2]
        rw [this, q3, List.length_map]
      refine wpAny_bind (wpAny_storeSet_of ho hd ?_ (by rw [siz1, sizeLine_eq]; omega))
      have sb : Heap.SameBut a s.heap (s.heap.update a (Obj.putSet es1 t2)) := Heap.SameBut.update ..
      have ho1 := store_at (es' := es1) (t' := t2) ho hd
      generalize s.heap.update a (Obj.putSet es1 t2) = h1 at sb ho1 ⊢
      have tup1 : ∀ p ∈ L1, IsM P w h1 p.2 p.1 := fun p hp => by
        rcases List.mem_cons.mp (pm.mem_iff.mp hp) with z | z
        · rw [z]; exact isM_but hx ho hd sb
        · exact isM_but (R.tup p z) ho hd sb
      have led1 : w.params.followText "set-order" = true ∨ t2.led = true := by rw [e4, q5]; exact R.led
      by_cases hf : t2.tooFull = true
      · have full : (L.length + 1) * 5 ≥ t.mask * 3 := by
          have h := hf
          rw [SetTable.tooFull, decide_eq_true_eq, fill2, e3, q4] at h
          exact h
        obtain ⟨M, y1, y2, y3, y4⟩ := next_M R.mm rm full few
        rw [sl]
        first
          | refine wp_if_pos (by simp [hf]) (wpAny_bind ?_)
          | refine wpAny_bind (wp_if_pos (by simp [hf]) ?_)
        refine relay_M (s := { s with heap := h1 }) ho1 ⟨hex.1, hex.2.1, hex.2.2⟩ rfl rows1 (by rw [siz1]; have := tab2.len; rw [List.length_map, len1] at this; exact this) tab2.cl (by rw [siz1, e3, q4]; exact y4) nd1 tup1 led1 (by rw [len1]; exact few) y1 y2 (by rw [len1]; exact y3) ?_
        intro h2 L2 es2 ep2 t3 sb2 R2 pm2
        exact wpAny_pure (hQ true h2 L2 es2 ep2 t3 (sb.trans sb2) R2 (fun z => absurd z hm) fun _ => pm2.trans pm)
      · have notFull : (L.length + 1) * 5 < t.mask * 3 := by
          have h := hf
          rw [SetTable.tooFull, decide_eq_true_eq, fill2, e3, q4] at h
          omega
        first
          | refine wp_if_neg (by simp [hf]) ?_
          | refine wpAny_bind (wp_if_neg (by simp [hf]) (wpAny_pure ?_))
        exact wpAny_pure (hQ true h1 L1 es1 (ep + 1) t2 sb ⟨⟨_, ho1, ⟨hex.1, hex.2.1, hex.2.2⟩, rfl⟩, rows1, tab2, nd1, tup1, led1, by rw [len1, e3, q4]; exact notFull, by rw [e3, q4]; exact R.mm, by rw [len1]; exact few⟩ (fun z => absurd z hm) fun _ => pm)
    by_cases hpl : t1.plain = true
    · first
        | (refine wpAny_bind ?_; refine wp_if_pos hpl ?_; refine byval_tupM hx fun r => ?_)
        | refine wp_if_pos hpl (wpAny_bind (byval_tupM hx fun r => ?_))
      cases r with
      | true =>
        simp only [if_true]
        exact go t1 rfl rfl rfl rfl
      | false =>
        simp only [Bool.false_eq_true, if_false]
        exact go _ rfl rfl rfl rfl
    · first
        | (refine wpAny_bind ?_; refine wp_if_neg hpl ?_; refine wpAny_pure ?_)
        | refine wp_if_neg hpl (wpAny_bind (wpAny_pure ?_))
      simp only [if_true]
      exact go t1 rfl rfl rfl rfl
end
end Vt
set_option Elab.async false
set_option linter.all false
set_option maxRecDepth 100000
set_option maxHeartbeats 4000000
/-! set(xs) of a list or a tuple of tuples; the hand layer's rules for sets of tuples of ints and texts. -/
namespace Vt
open PySem PySem.Spec PyProof.Rows L2 Vs
section
variable {P : Program} {w : World} {A : Around} {E : Value → Shared → Prop} {s : Shared}
theorem call_setX {x : Value} {T : String} {Post : Heap → Prop} {Q : Value → Shared → Prop} (hT : Shared.TypeIs { s with heap := s.heap.push (newO w) } x T) (n1 : isSubtype (.type T) (.type "set") = pure false)
    (n2 : isSubtype (.type T) (.type "frozenset") = pure false) (n3 : (Value.type T == Value.type "dict") = false)
    (body : ∀ (A1 : Around) (E1 R1 : Value → Shared → Prop), (A.handled = none → A1.in1.handled = none) → A1.in1.units ≤ A.units + 3 → (∀ (h' : Heap) (tk : Nat), Post h' → (∀ b o, s.heap.get? b = some o → h'.get? b = some o) → R1 .none { s with heap := h', toks := tk }) →
      wpAny (model P w) A1 (pyIter x) (fun it s2 => wpAny (model P w) A1 (runValue (.builtin "set.update.loop" ⟨[.ref s.heap.objs.size, it], []⟩)) R1 E1 s2) E1 { s with heap := s.heap.push (newO w) })
    (h : ∀ (h' : Heap) (tk : Nat), Post h' → (∀ b o, s.heap.get? b = some o → h'.get? b = some o) → Q (.ref s.heap.objs.size) { s with heap := h', toks := tk }) : wpAny (model P w) A (call (.type "set") [x]) Q E s := by
  obtain ⟨c, tl, mm⟩ := F.called_set.mro
  have made := F.called_set.made
  have sub := F.called_set.sub
  refine wpAny_call (codeAny_of_tree (?_))
  show wpAny _ _ (callAny (.type "set") ⟨[x], []⟩) _ _ _
  refine wpAny_pure ⟨Code.quiet_builtin _ (by decide +kernel), codeAny_builtin F.entry_type_call (?_)⟩
  rw [(Around.under_plain (weight_type_call_type "set" [x] []) rfl :)]
  have notT := F.called_set.notType
  have can := F.called_set.canCreate
  have tc := F.typeCall_set_1 x
  repeat (any_goals (first | assumption | wp_step))
  refine codeAny_mono (code_set_led1 x (E := E) (Q₁ := fun ob s1 => ob = .ref s.heap.objs.size ∧ s1 = { s with heap := s.heap.push (newO w) }) ⟨rfl, rfl⟩) fun r s1 hr => ?_
  cases r with
  | error e => exact hr
  | ok fl =>
    cases fl with
    | ret ob =>
      obtain ⟨rfl, rfl⟩ := hr
      have hS : (s.heap.push (newO w)).get? s.heap.objs.size = some (newO w) := Heap.get?_push_size _ rfl
      have hTS : Shared.TypeIs { s with heap := s.heap.push (newO w) } (.ref s.heap.objs.size) "set" := ⟨_, hS, rfl⟩
      have il := F.called_set.init.lookup
      have ib := F.called_set.init.bind (.ref s.heap.objs.size)
      repeat (any_goals (first | assumption | wp_step))
      refine codeAny_mono (codeAny_call_builtin (R := wants (fun r s2 => r = .none ∧ ∃ h' tk, s2 = { s with heap := h', toks := tk } ∧ Post h' ∧ (∀ b o, s.heap.get? b = some o → h'.get? b = some o)) E)
        F.called_set.init.plain F.entry_set_init (check_set_init_1 hTS ?_)) fun r2 s2 hr2 => ?_
      · unfold Builtin.«set.__init__» noKeywords Builtin.Frozenset.updateFrom
        generalize hPI : pyIter = PI
        wp_walk
        subst hPI
        refine wpAny_mono (body _ _ (fun v s' => v = .none ∧ ∃ h' tk, s' = { s with heap := h', toks := tk } ∧ Post h' ∧ (∀ b o, s.heap.get? b = some o → h'.get? b = some o)) (fun hh => by simp [hh]) (by show A.units + 1 + 1 + 1 ≤ A.units + 3; omega) fun h' tk y k => ⟨rfl, h', tk, rfl, y, k⟩)
          (fun it s' z => wpAny_bind (m := runValue _) (wpAny_mono z (fun v s'' q => ?_) fun _ _ e => e)) fun _ _ e => e
        obtain ⟨rfl, h', tk, rfl, y, k⟩ := q
        refine wpAny_pure ?_
        show wpAny _ _ (ret Value.none) _ _ _
        exact wpAny_pure ⟨rfl, h', tk, rfl, y, k⟩
      · cases r2 with
        | error e => exact hr2
        | ok f2 =>
          cases f2 with
          | ret r =>
            obtain ⟨rfl, h', tk, rfl, y, k⟩ := hr2
            repeat (any_goals (first | assumption | wp_step))
            exact h _ _ y k
          | _ => exact hr2.elim
    | _ => exact hr.elim
end
end Vt
set_option Elab.async false
set_option linter.all false
set_option maxRecDepth 100000
set_option maxHeartbeats 4000000
/-! The hand layer's rules for sets of tuples of ints and texts. -/
namespace Vt
open PySem PySem.Spec PyProof.Rows L2 Vs
/-- all but the members' own objects -/
structure SetC (P : Program) (w : World) (h : Heap) (a : Addr) (L : List (Addr × List Key)) (es : Array (Int × Value)) (ep : Nat) (t : SetTable) : Prop where
  ob : ∃ o, h.get? a = some o ∧ o.ExactSet ∧ o.data = .set es ep t
  rows : es.toList = mRows P w L
  tab : Tab t (L.map fun p => mh P w p.2)
  nd : (L.map (·.2)).Nodup
  led : w.params.followText "set-order" = true ∨ t.led = true
  room : L.length * 5 < t.mask * 3
  mm : t.mask = 7 ∨ t.mask = 31 ∨ t.mask = 127 ∨ t.mask = 511 ∨ t.mask = 2047 ∨ t.mask = 8191
  few : L.length ≤ 4000
section
variable {P : Program} {w : World} {A : Around} {E : Value → Shared → Prop} {s : Shared} {h h' : Heap} {a : Addr} {L : List (Addr × List Key)} {es : Array (Int × Value)} {ep : Nat} {t : SetTable}
theorem SetM.core (R : SetM P w h a L es ep t) : SetC P w h a L es ep t := ⟨R.ob, R.rows, R.tab, R.nd, R.led, R.room, R.mm, R.few⟩
theorem SetC.full (R : SetC P w h a L es ep t) (tup : ∀ p ∈ L, IsM P w h p.2 p.1) : SetM P w h a L es ep t := ⟨R.ob, R.rows, R.tab, R.nd, tup, R.led, R.room, R.mm, R.few⟩
theorem SetC.at (R : SetC P w h a L es ep t) (k : ∀ o, h.get? a = some o → h'.get? a = some o) : SetC P w h' a L es ep t := by
  obtain ⟨o, ho, r⟩ := R.ob
  exact ⟨⟨o, k o ho, r⟩, R.rows, R.tab, R.nd, R.led, R.room, R.mm, R.few⟩
theorem setC_new (ho : h.get? a = some (newO w)) : SetC P w h a [] #[] 0 (.fresh 0 0 (!w.params.followText "set-order")) where
  ob := ⟨_, ho, ⟨rfl, rfl, rfl⟩, rfl⟩
  rows := rfl
  tab := ⟨List.Pairwise.nil, rfl, rfl, ⟨3, by decide, rfl⟩, (fun y hy => by cases hy), fun i h j hi => by simp at hi⟩
  nd := List.nodup_nil
  led := by
    show _ ∨ (!w.params.followText "set-order") = true
    cases w.params.followText "set-order"
    · exact .inr rfl
    · exact .inl rfl
  room := by
    show 0 * 5 < 7 * 3
    decide
  mm := .inl rfl
  few := Nat.zero_le _
theorem isM_keep {k : List Key} {b : Addr} (x : IsM P w h k b) (hk : ∀ c o, h.get? c = some o → h'.get? c = some o) : IsM P w h' k b := by
  obtain ⟨o, items, n, ho, r⟩ := x
  exact ⟨o, items, n, hk b o ho, r⟩
/-- what is in the set of the first i -/
structure Of (ks : List (Addr × List Key)) (i : Nat) (L : List (Addr × List Key)) : Prop where
  sub : ∀ p ∈ L, p ∈ ks.take i
  all : ∀ p ∈ ks.take i, p.2 ∈ L.map (·.2)
  len : L.length ≤ i
theorem Of.more {ks L L' : List (Addr × List Key)} {i : Nat} {x : Addr × List Key} (g : Of ks i L) (h : ks[i]? = some x) (c1 : x.2 ∈ L.map (·.2) → L' = L) (c2 : x.2 ∉ L.map (·.2) → L'.Perm ((x.1, x.2) :: L)) : Of ks (i + 1) L' := by
  have tk : ks.take (i + 1) = ks.take i ++ [x] := by rw [List.take_add_one, h] <;> rfl
  rcases Classical.em (x.2 ∈ L.map (·.2)) with c | c
  · rw [c1 c]
    refine ⟨fun p hp => by rw [tk]; exact List.mem_append_left _ (g.sub p hp), fun p hp => ?_, Nat.le_succ_of_le g.len⟩
    rw [tk] at hp
    rcases List.mem_append.mp hp with z | z
    · exact g.all p z
    · rw [List.mem_singleton.mp z]; exact c
  · have pm := c2 c
    refine ⟨fun p hp => ?_, fun p hp => ?_, by rw [pm.length_eq, List.length_cons]; exact Nat.succ_le_succ g.len⟩
    · rw [tk]
      rcases List.mem_cons.mp (pm.mem_iff.mp hp) with e | z
      · exact List.mem_append_right _ (List.mem_singleton.mpr e)
      · exact List.mem_append_left _ (g.sub p z)
    · rw [(pm.map (·.2)).mem_iff, List.map_cons]
      rw [tk] at hp
      rcases List.mem_append.mp hp with z | z
      · exact .tail _ (g.all p z)
      · rw [List.mem_singleton.mp z]; exact List.mem_cons_self
theorem update_tups {R : Result → Shared → Prop} {I : Addr} {fp wr : List Addr} {G : Array GenState → Array GenState → Prop} {n : Nat} {Pv : Nat → Value → Prop} {St : Nat → Shared → Prop} (W : WalksS P w A.in1 I fp wr G n Pv St) (S : Addr) (hS : S ∉ fp)
    (ks : List (Addr × List Key)) (hn : n = ks.length) (few : ks.length ≤ 4000) (hv : ∀ i v, Pv i v → ∃ p, ks[i]? = some p ∧ v = .ref p.1) (h0 : Heap) (hk : ∀ p ∈ ks, IsM P w h0 p.2 p.1) (hS0 : h0.get? S = none) (hw0 : ∀ b ∈ wr, h0.get? b = none) (hu : A.in1.units < cLine) :
    ∀ (m i : Nat) (s : Shared) (L : List (Addr × List Key)) (es : Array (Int × Value)) (ep : Nat) (t : SetTable), n - i = m → i ≤ n → St i s → (∀ b o, h0.get? b = some o → s.heap.get? b = some o) → SetC P w s.heap S L es ep t → Of ks i L →
      (∀ s' L es ep t, Moved (S :: wr) G s s' → SetC P w s'.heap S L es ep t → Of ks n L → R (.ok (.ret .none)) s') → codeAny (model P w) A (.builtin "set.update.loop" ⟨[.ref S, .ref I], []⟩) R s := by
  have hw : S ∉ wr := fun h => hS (W.sub _ h)
  have up : ∀ b ∈ wr, b ∈ S :: wr := fun b hb => .tail _ hb
  have on : ∀ {s s' : Shared}, Moved wr G s s' → (∀ b o, h0.get? b = some o → s.heap.get? b = some o) → ∀ b o, h0.get? b = some o → s'.heap.get? b = some o := fun mv k b o e =>
    mv.heap b o (fun hb => by rw [hw0 b hb] at e; cases e) (k b o e)
  intro m
  induction m with
  | zero =>
    intro i s L es ep t hm hi st kp C g fin
    obtain rfl : i = n := by omega
    refine codeAny_builtin F.entry_set_update_loop (?_)
    rw [(Around.under_plainId F.plain_set_update_loop _ :)]
    show wpAny _ A.in1 (pyNext (.ref I) >>= _) _ _ s
    exact wpAny_bind (W.done s _ _ st fun s' mv => wpAny_pure (fin s' L es ep t (mv.mono up) (C.at fun o e => mv.heap S o hw e) g))
  | succ m ih =>
    intro i s L es ep t hm hi st kp C g fin
    have hlt : i < n := by omega
    refine codeAny_builtin F.entry_set_update_loop (?_)
    rw [(Around.under_plainId F.plain_set_update_loop _ :)]
    show wpAny _ A.in1 (pyNext (.ref I) >>= _) _ _ s
    refine wpAny_bind (W.item i s _ _ hlt st fun v s' pv st' mv => ?_)
    obtain ⟨p, hp, rfl⟩ := hv i v pv
    have kp' := on mv kp
    have pk : ∀ q ∈ L, q ∈ ks := fun q hq => List.mem_of_mem_take (g.sub q hq)
    have M' : SetM P w s'.heap S L es ep t := (C.at fun o e => mv.heap S o hw e).full fun q hq => isM_keep (hk q (pk q hq)) kp'
    have hx : IsM P w s'.heap p.2 p.1 := isM_keep (hk p (List.mem_of_getElem? hp)) kp'
    show wpAny _ A.in1 (holding [Value.ref p.1] (setAdd S (.ref p.1)) >>= _) _ _ s'
    refine wpAny_bind (wpAny_holding ?_)
    unfold setAdd
    refine wpAny_holding (wpAny_bind (wpAny_pyHash_tuple hu hx ?_))
    refine add_M (s := { s' with toks := s'.toks + (p.2.length + 1) }) M' hx hu (by have := g.len; omega) fun b h' L' es' ep' t' sb M2 c1 c2 => ?_
    have keep : ∀ b o, b ≠ S → s'.heap.get? b = some o → h'.get? b = some o := fun b o hb e => (sb.2 b hb).trans e
    refine wpAny_pure ⟨plainId_quiet F.plain_set_update_loop _, ih (i + 1) _ L' es' ep' t' (by omega) hlt (W.frame _ s' _ _ st' (Nat.le_add_right _ _) fun b hb o e => keep b o (fun y => hS (y ▸ hb)) e)
      (fun b o e => keep b o (fun z => by rw [z, hS0] at e; cases e) (kp' b o e)) M2.core (g.more hp c1 c2) fun s2 L2 es2 ep2 t2 m2 C2 g2 => ?_⟩
    exact fin s2 L2 es2 ep2 t2 (Moved.trans W.gtrans ((mv.mono up).then_heap (Nat.le_add_right _ _) fun b o hb e => keep b o (fun y => hb (y ▸ List.mem_cons_self)) e) m2) C2 g2
theorem none_above {h : Heap} {b : Addr} (hb : h.objs.size ≤ b) : h.get? b = none := by
  cases q : h.get? b with
  | none => rfl
  | some o => exact absurd (Heap.lt_size q) (Nat.not_lt_of_le hb)
/-- set(l) of a tuple or a list of tuples -/
theorem call_setM {l : Addr} {ks : List (Addr × List Key)} {items : List Value} {Q : Value → Shared → Prop} (hh : A.handled = none) (hl : s.heap.IsTuple l items.toArray ∨ s.heap.IsList l items.toArray) (hit : items = ks.map fun p => Value.ref p.1)
    (hk : ∀ p ∈ ks, IsM P w s.heap p.2 p.1) (few : ks.length ≤ 4000) (hu : A.units + 3 < cLine)
    (h : ∀ (h' : Heap) (tk : Nat) L es ep t, SetC P w h' s.heap.objs.size L es ep t → Of ks ks.length L → (∀ b o, s.heap.get? b = some o → h'.get? b = some o) → Q (.ref s.heap.objs.size) { s with heap := h', toks := tk }) :
    wpAny (model P w) A (call (.type "set") [.ref l]) Q E s := by
  have hz1 : (s.heap.push (newO w)).objs.size = s.heap.objs.size + 1 := size_push' _ _
  have hS : (s.heap.push (newO w)).get? s.heap.objs.size = some (newO w) := Heap.get?_push_size _ rfl
  have isz : items.toArray.size = ks.length := by rw [List.size_toArray, hit, List.length_map]
  have val : ∀ (i : Nat) (v : Value), items.toArray[i]? = some v → ∃ p, ks[i]? = some p ∧ v = .ref p.1 := fun i v e => by
    have e1 : items[i]? = some v := by rw [← e]; simp
    rw [hit, List.getElem?_map] at e1
    obtain ⟨p, hp, rfl⟩ := Option.map_eq_some_iff.mp e1
    exact ⟨p, hp, rfl⟩
  have old2 : ∀ (o2 : Obj) b o, s.heap.get? b = some o → ((s.heap.push (newO w)).push o2).get? b = some o := fun o2 b o e => Heap.get?_push_of_some _ (Heap.get?_push_of_some _ e)
  have hlt : l < s.heap.objs.size := by
    rcases hl with ⟨_, e, _⟩ | ⟨_, e, _⟩
    · exact Heap.lt_size e
    · exact Heap.lt_size e
  have fin : ∀ (A1 : Around) (E1 R1 : Value → Shared → Prop), (A.handled = none → A1.in1.handled = none) → A1.in1.units ≤ A.units + 3 →
      (∀ (h' : Heap) (tk : Nat), (∃ L es ep t, SetC P w h' s.heap.objs.size L es ep t ∧ Of ks ks.length L) → (∀ b o, s.heap.get? b = some o → h'.get? b = some o) → R1 .none { s with heap := h', toks := tk }) →
      ∀ (o2 : Obj) (St : Nat → Shared → Prop), WalksS P w A1.in1 (s.heap.push (newO w)).objs.size [(s.heap.push (newO w)).objs.size, l] [(s.heap.push (newO w)).objs.size] (fun a b => b = a) items.toArray.size (fun i v => items.toArray[i]? = some v) St →
        St 0 { s with heap := (s.heap.push (newO w)).push o2 } → wpAny (model P w) A1 (runValue (.builtin "set.update.loop" ⟨[.ref s.heap.objs.size, .ref (s.heap.push (newO w)).objs.size], []⟩)) R1 E1 { s with heap := (s.heap.push (newO w)).push o2 } := by
    intro A1 E1 R1 h1 h2 q o2 St W st
    refine wpAny_runValue ?_
    have out : s.heap.objs.size ∉ [(s.heap.push (newO w)).objs.size, l] := fun z => by
      rcases List.mem_cons.mp z with z | z
      · exact absurd (z.trans hz1) (Nat.ne_of_lt (Nat.lt_succ_self _))
      · exact absurd (List.mem_singleton.mp z) (Nat.ne_of_gt hlt)
    refine update_tups W s.heap.objs.size out ks isz few val s.heap hk (none_above (Nat.le_refl _)) (fun b hb => none_above (by rw [List.mem_singleton.mp hb, hz1]; exact Nat.le_succ _)) (by omega) items.toArray.size 0 _ [] #[] 0 _ rfl (Nat.zero_le _) st (old2 o2)
      (setC_new (Heap.get?_push_of_some _ hS)) ⟨(fun p hp => by cases hp), (fun p hp => by simp at hp), Nat.le_refl _⟩ fun s' L es ep t mv C g => ?_
    obtain ⟨h', g2, d', tk', os'⟩ := s'
    obtain rfl : g2 = s.gens := mv.gens
    obtain rfl : d' = s.drawn := mv.drawn
    obtain rfl : os' = s.os := mv.os
    rw [isz] at g
    refine q h' tk' ⟨L, es, ep, t, C, g⟩ fun b o e => ?_
    have b0 : b < s.heap.objs.size := Heap.lt_size e
    refine mv.heap b o (fun z => ?_) (old2 o2 b o e)
    rcases List.mem_cons.mp z with z | z
    · exact absurd b0 (by rw [z]; exact Nat.lt_irrefl _)
    · have z2 : b = s.heap.objs.size + 1 := (List.mem_singleton.mp z).trans hz1
      exact absurd b0 (by rw [z2]; exact Nat.not_lt_of_le (Nat.le_succ _))
  have ne : l ≠ (s.heap.push (newO w)).objs.size := by rw [hz1]; exact Nat.ne_of_lt (Nat.lt_succ_of_lt hlt)
  rcases hl with hl | hl
  · have hl1 : (s.heap.push (newO w)).IsTuple l items.toArray := hl.push _
    refine call_setX (T := "tuple") (Post := fun h' => ∃ L es ep t, SetC P w h' s.heap.objs.size L es ep t ∧ Of ks ks.length L) hl1.typeIs PySem.F.sub_tuple_set PySem.F.sub_tuple_frozenset (by decide) (fun A1 E1 R1 h1 h2 q => ?_) fun h' tk ⟨L, es, ep, t, C, g⟩ k => h h' tk L es ep t C g k
    refine wpAny_pyIter_tuple hl1 ?_
    exact fin A1 E1 R1 h1 h2 q _ _ (Walks.tuple (h1 hh) _ l ne items.toArray).toS ⟨⟨_, Heap.get?_push_size _ rfl, rfl, rfl⟩, hl1.push _⟩
  · have hl1 : (s.heap.push (newO w)).IsList l items.toArray := hl.push _
    refine call_setX (T := "list") (Post := fun h' => ∃ L es ep t, SetC P w h' s.heap.objs.size L es ep t ∧ Of ks ks.length L) hl1.typeIs PySem.F.sub_list_set PySem.F.sub_list_frozenset (by decide) (fun A1 E1 R1 h1 h2 q => ?_) fun h' tk ⟨L, es, ep, t, C, g⟩ k => h h' tk L es ep t C g k
    refine wpAny_pyIter_list hl1 ?_
    exact fin A1 E1 R1 h1 h2 q _ _ (Walks.list (h1 hh) _ l ne items.toArray).toS ⟨⟨_, Heap.get?_push_size _ rfl, rfl, rfl⟩, hl1.push _⟩
end
end Vt
set_option Elab.async false
set_option linter.all false
set_option maxRecDepth 100000
set_option maxHeartbeats 4000000
/-! The hand layer's rules: sets of tuples of ints and texts. -/
namespace Vk
open PySem PySem.Spec PyProof.Rows L2 Vs Vt
def SetMO (P : Program) (w : World) (a : Addr) (L : List (Addr × List Key)) : HO := .ext fun h => ∃ es ep t, SetC P w h a L es ep t
section
variable {P : Program} {w : World} {H : Hp} {h h' : Heap} {a : Addr} {L : List (Addr × List Key)}
theorem setMO_new {es : Array (Int × Value)} {ep : Nat} {t : SetTable} (C : SetC P w h a L es ep t) : ObjOk P w H h a (SetMO P w a L) := by
  have ⟨o, ho, _⟩ := C.ob
  exact ⟨⟨es, ep, t, C⟩, ⟨o, ho⟩, fun h1 h2 ⟨es, ep, t, C⟩ k => ⟨es, ep, t, C.at k⟩⟩
end
section
variable {X : Cx} {pins : List (Addr × Obj)} {s : Shared} {σ : L2.St} {H : Hp}
theorem isM_of (I : Inv X pins σ H s) {q : Addr} {k : List Key} (h : SqT X.K H q (k.map kV)) : IsM X.prog X.w s.heap k q := by
  obtain ⟨its, r, ⟨o, ho, hc, n, hd⟩, _⟩ := I.tuple h
  exact ⟨o, its.toArray, n, ho, hc, hd, items_are r⟩
theorem setM_of (I : Inv X pins σ H s) {a : Addr} {L : List (Addr × List Key)} (ha : H a = some (SetMO X.prog X.w a L)) (tup : ∀ p ∈ L, SqT X.K H p.1 (p.2.map kV)) : ∃ es ep t, SetM X.prog X.w s.heap a L es ep t := by
  obtain ⟨⟨es, ep, t, C⟩, _⟩ : (∃ es ep t, SetC X.prog X.w s.heap a L es ep t) ∧ _ := I.hok a _ ha
  exact ⟨es, ep, t, C.full fun p hp => isM_of I (tup p hp)⟩
/-- set() -/
def rSet0M (P : Program) (w : World) : List V → Hp → VK → Prop := fun vs H Q => vs = [] ∧ ∀ p, H p = none → Q (.ref p) (upd H p (SetMO P w p []))
theorem cr_set0M : CallR X (.type "set") (rSet0M X.prog X.w) := by
  intro pins s σ H vs us Q I r h
  obtain ⟨rfl, q⟩ := h
  cases r
  refine setR_new fun _ => ?_
  exact ⟨.ref _, _, I.laid (t' := s.toks) (fun b u e => Heap.get?_push_of_some _ e) (Nat.le_refl _) (setMO_new (setC_new (Heap.get?_push_size _ rfl))), rfl, q _ (I.hok.fresh (Nat.le_refl _))⟩
/-- set(xs) of a tuple or a list of such tuples -/
def rSetM (K : PySem.W.Frag) (P : Program) (w : World) : List V → Hp → VK → Prop := fun vs H Q => ∃ (l : Addr) (ks : List (Addr × List Key)), vs = [.ref l] ∧ (SqT K H l (ks.map fun p => V.ref p.1) ∨ SqL K H l (ks.map fun p => V.ref p.1)) ∧ (∀ p ∈ ks, SqT K H p.1 (p.2.map kV)) ∧ ks.length ≤ 4000 ∧
  ∀ a L, H a = none → (∀ p ∈ L, p ∈ ks) → (∀ p ∈ ks, p.2 ∈ L.map (·.2)) → (L.map (·.2)).Nodup → L.length ≤ 4000 → Q (.ref a) (upd H a (SetMO P w a L))
theorem refs_are : ∀ {ks : List (Addr × List Key)} {us : List Value}, Vals (ks.map fun p => V.ref p.1) us → us = ks.map fun p => Value.ref p.1
  | [], us, r => by
    cases r
    rfl
  | p :: ks, us, r => by
    cases r with
    | cons h t =>
      have e : _ = Value.ref p.1 := h
      rw [e, refs_are t] <;> rfl
theorem cr_setM (hc : X.calm = true) (hu : X.A.units + 64 < cLine) : CallR X (.type "set") (rSetM X.K X.prog X.w) := by
  intro pins s σ H vs us Q I r h
  obtain ⟨l, ks, rfl, hl, tup, few, q⟩ := h
  rw [Vals.ref1 r]
  have tp : ∀ p ∈ ks, IsM X.prog X.w s.heap p.2 p.1 := fun p hp => isM_of I (tup p hp)
  have go : ∀ items : List Value, (s.heap.IsTuple l items.toArray ∨ s.heap.IsList l items.toArray) → Vals (ks.map fun p => V.ref p.1) items → wpAny (model X.prog X.w) X.A (call (.type "set") [.ref l]) (EP X pins σ Q) X.xe s := by
    intro items hi rv
    refine call_setM (I.ok.hd hc) hi (refs_are rv) tp few (by omega) fun h' tk L es ep t C g k => ?_
    exact ⟨.ref _, _, I.laid (t' := tk) k (Nat.le_refl _) (setMO_new C), rfl, q _ L (I.hok.fresh (Nat.le_refl _)) (fun p hp => List.mem_of_mem_take (g.sub p hp)) (fun p hp => g.all p (by rw [List.take_length]; exact hp)) C.nd C.few⟩
  rcases hl with hl | hl
  · obtain ⟨its, rv, z, _⟩ := I.tuple hl
    exact go its (.inl z) rv
  · obtain ⟨its, rv, z, _⟩ := I.list hl
    exact go its (.inr z.isList) rv
/-- found.add(t) -/
def rAddM (K : PySem.W.Frag) (P : Program) (w : World) : V → List V → Hp → VK → Prop := fun x xs H Q => ∃ (a q : Addr) (k : List Key) (L : List (Addr × List Key)), x = .ref a ∧ xs = [.ref q] ∧ H a = some (SetMO P w a L) ∧ (∀ p ∈ L, SqT K H p.1 (p.2.map kV)) ∧ SqT K H q (k.map kV) ∧ L.length + 1 ≤ 4000 ∧
  ∀ L', (k ∈ L.map (·.2) → L' = L) → (k ∉ L.map (·.2) → L'.Perm ((q, k) :: L)) → Q .non (upd H a (SetMO P w a L'))
theorem mt_addM (hu : X.A.units + 64 < cLine) : MtR X "set.add" (rAddM X.K X.prog X.w) := by
  intro pins s σ H x xs v us Q I rx rxs h
  obtain ⟨a, q, k, L, rfl, rfl, ha, tup, hq, few, fin⟩ := h
  cases rx
  rw [Vals.ref1 rxs]
  obtain ⟨es, ep, t, R⟩ := setM_of I ha tup
  have hx := isM_of I hq
  obtain ⟨o, ho, hex, hd⟩ := R.ob
  have hT : s.TypeIs (.ref a) "set" := ⟨o, ho, hex.1⟩
  refine wpAny_call_entry PySem.F.slot_set_add hT PySem.F.entry_set_add ?_ (PySem.F.args_set_add_2 _ _)
  unfold Builtin.«set.add» Builtin.Frozenset.oneOther
  simp only [List.isEmpty_nil, bind_assoc]
  unfold Builtin.Frozenset.addrOf setAdd
  refine wpAny_bind (wpAny_pure ?_)
  try dsimp only
  refine wpAny_bind (wpAny_pure ?_)
  try dsimp only
  refine wpAny_bind (wpAny_holding (wpAny_bind (wpAny_pyHash_tuple (by show X.A.units + 1 < cLine; omega) hx ?_)))
  refine add_M (s := { s with toks := s.toks + (k.length + 1) }) R hx (by show X.A.units + 1 < cLine; omega) few fun b h' L' es' ep' t' sb R' c1 c2 => ?_
  show wpAny _ _ (ret Value.none) _ _ _
  refine wpAny_pure ⟨_, rfl, .non, upd H a (SetMO X.prog X.w a L'), ?_, rfl, fin L' c1 c2⟩
  have ⟨o', ho', _⟩ := R'.ob
  exact I.write (e := a) (t' := s.toks + (k.length + 1)) (by rw [ha]; trivial) (.inl rfl) (fun b u hb hu => (sb.2 b hb).trans hu) ⟨o', ho'⟩ (setMO_new R'.core)
def tAddM (K : PySem.W.Frag) (P : Program) (w : World) (to : TE) (t : TA) : TE := fun σ H Q => to σ H fun x H1 => (∃ a L, x = V.ref a ∧ H1 a = some (SetMO P w a L)) ∧ t σ H1 fun xs H2 => rAddM K P w x xs H2 Q
variable {o e : Expr} {es : List Expr} {to : TE} {t : TA} {apos cpos : Pos}
theorem pe_addM (hu : X.A.units + 64 < cLine) (ho : PE X o to) (ha : PA X (e :: es) t)
    (hbase : attributeBase o "add" X.env (eval o X.env) = eval o X.env := by rfl)
    (hfew : ((backTo cpos (starEach (e :: es) X.env)).all (fun x => !x.1) && (backToKw cpos (keywordEach [] X.env)).all (fun x => x.1.isSome) && decide ((e :: es).length + ([] : List Keyword).length + (if ([] : List Keyword).isEmpty then 0 else 1) < 30)) = true := by rfl)
    (hline : (apos.endLine == cpos.line) = true := by rfl) (hs : starEach (e :: es) X.env = (false, eval e X.env) :: starEach es X.env := by rfl) (hplain : (backTo cpos (starEach es X.env)).any (·.1) = false := by rfl) :
    PE X (.Call (.Attribute o "add" apos) (e :: es) [] cpos) (tAddM X.K X.prog X.w to t) := by
  refine ⟨fun pins s σ H Q I h => wpAny_Call_method_late hbase hfew hline rfl (thn (ho.run pins s σ H _ I h) fun v s1 ⟨x, H1, I1, r1, ⟨a, L, ex, hka⟩, q1⟩ => ?_)⟩
  subst ex
  cases r1
  obtain ⟨⟨es', ep, tt, C⟩, _⟩ : (∃ es ep t, SetC X.prog X.w s1.heap a L es ep t) ∧ _ := I1.hok a _ hka
  obtain ⟨ob, hob, hex, hd⟩ := C.ob
  refine ⟨"set", "set.add", PySem.F.plainAttrs_set, PySem.F.slot_set_add, PySem.F.type_set_add, ⟨ob, hob, hex.1⟩, (fun b e => by cases e; exact ⟨ob, hob, hex.2.1⟩), ?_⟩
  have hA := ha.run cpos pins s1 σ H1 _ I1 q1
  rw [hs] at hA ⊢
  refine Calls.callWith_builtin (by show (false || (backTo cpos (starEach es X.env)).any (·.1)) = false; rw [hplain] <;> rfl) (Calls.evalArgs_plain ?_)
  exact thn hA fun us s2 ⟨vs, H2, I2, r2, q2⟩ => mt_addM hu pins s2 σ H2 (.ref a) vs (.ref a) us Q I2 rfl r2 q2
/-- t in found, t not in found -/
def rInM (K : PySem.W.Frag) (P : Program) (w : World) (neg : Bool) : V → V → Hp → VK → Prop := fun x y H Q => ∃ (a q : Addr) (k : List Key) (L : List (Addr × List Key)), x = .ref q ∧ y = .ref a ∧ H a = some (SetMO P w a L) ∧ (∀ p ∈ L, SqT K H p.1 (p.2.map kV)) ∧ SqT K H q (k.map kV) ∧
  ∀ b : Bool, (b = true ↔ k ∈ L.map (·.2)) → Q (.bl (if neg then !b else b)) H
theorem contains_M {a q : Addr} {k : List Key} {L : List (Addr × List Key)} {es : Array (Int × Value)} {ep : Nat} {t : SetTable} {Q : Bool → Shared → Prop} {E : Value → Shared → Prop} (R : SetM X.prog X.w s.heap a L es ep t) (hx : IsM X.prog X.w s.heap k q) (hu : X.A.units + 64 < cLine)
    (h : ∀ tk b, (b = true ↔ k ∈ L.map (·.2)) → Q b { s with toks := tk }) : wpAny (model X.prog X.w) X.A (contains (.ref a) (.ref q)) Q E s := by
  obtain ⟨o, ho, hex, hd⟩ := R.ob
  have hT : s.TypeIs (.ref a) "set" := ⟨o, ho, hex.1⟩
  unfold contains
  try with_reducible refine wpAny_holding ?_
  refine wpAny_bind (wpAny_specialOf hT PySem.F.slot_set_contains.lookup ?_)
  show wpAny _ _ (if (some (Value.builtin "set.__contains__") == some Value.none) = true then _ else _) _ E s
  rw [if_neg (show ¬ ((some (Value.builtin "set.__contains__") == some Value.none) = true) by rw [beq_builtin_none]; exact Bool.false_ne_true)]
  refine wpAny_bind (wpAny_callSpecialUnlessNone?_slot (name := Str.ofString "__contains__") hT PySem.F.slot_set_contains (wpAny_call_entry PySem.F.slot_set_contains hT entry_set_contains ?_ (PySem.F.args_set_contains_2 _ _)))
  unfold Builtin.«frozenset.__contains__» Builtin.Frozenset.oneOther
  simp only [List.isEmpty_nil, bind_assoc]
  unfold Builtin.Frozenset.addrOf Builtin.Frozenset.withSetAsKey
  refine wpAny_bind (wpAny_pure ?_)
  try dsimp only
  refine wpAny_bind (wpAny_pure ?_)
  try dsimp only
  refine wpAny_bind (wpAny_tryCatch (has_M R hx (by show X.A.units + 1 < cLine; omega) fun tk b hb => ?_))
  show wpAny _ _ (ret (Value.bool b)) _ _ _
  exact wpAny_pure ⟨_, rfl, wpAny_truthy_bool (h tk b hb)⟩
theorem op_inM (hu : X.A.units + 64 < cLine) : OpR X (compareOp .In) (rInM X.K X.prog X.w false) := by
  intro pins s σ H x y v u Q I rx ry h
  obtain ⟨a, q, k, L, rfl, rfl, ha, tup, hq, fin⟩ := h
  cases rx
  cases ry
  obtain ⟨es, ep, t, R⟩ := setM_of I ha tup
  show wpAny _ _ (do return Value.bool (← contains (.ref a) (.ref q))) _ _ _
  exact wpAny_bind (contains_M R (isM_of I hq) hu fun tk b hb => wpAny_pure ⟨.bl b, H, I.tok _, rfl, fin b hb⟩)
theorem op_notInM (hu : X.A.units + 64 < cLine) : OpR X (compareOp .NotIn) (rInM X.K X.prog X.w true) := by
  intro pins s σ H x y v u Q I rx ry h
  obtain ⟨a, q, k, L, rfl, rfl, ha, tup, hq, fin⟩ := h
  cases rx
  cases ry
  obtain ⟨es, ep, t, R⟩ := setM_of I ha tup
  show wpAny _ _ (do return Value.bool (!(← contains (.ref a) (.ref q)))) _ _ _
  exact wpAny_bind (contains_M R (isM_of I hq) hu fun tk b hb => wpAny_pure ⟨.bl (!b), H, I.tok _, rfl, fin b hb⟩)
/-! sorted(found) -/
def encM (p : Addr × List Key) : PyData := .tuple (p.2.map keyD)
def leM (x y : Addr × List Key) : Bool := PySem.W.dataLe false encM x y
def rSortedM (K : PySem.W.Frag) (P : Program) (w : World) : List V → Hp → VK → Prop := fun vs H Q => ∃ (a : Addr) (L : List (Addr × List Key)), vs = [.ref a] ∧ H a = some (SetMO P w a L) ∧ (∀ p ∈ L, SqT K H p.1 (p.2.map kV)) ∧ PySem.W.AllAlike (L.map encM) ∧ (∀ p ∈ L, p.2 ≠ []) ∧
  ∀ (ys : List (Addr × List Key)) p, ys.Perm L → ys.Pairwise (fun x y => leM x y = true) → H p = none → Q (.ref p) (upd H p (.lst (ys.map fun q => V.ref q.1)))
theorem items_read {h : Heap} : ∀ {k : List Key} {vs : List Value}, ItemsAre (mixKind X.prog X.w) k vs → ReadsAll h vs (k.map keyD) []
  | _, _, .nil => .nil
  | _, _, .cons h1 t => ReadsAll.cons (as := []) (bs := []) (key_reads h1) (items_read t)
theorem isM_reads {h : Heap} {q : Addr} {k : List Key} (x : IsM X.prog X.w h k q) : Reads h (.ref q) (.tuple (k.map keyD)) [] := by
  obtain ⟨o, its, n, ho, hc, hd, hi⟩ := x
  have hd2 : o.data = .seq its.toList.toArray n := by rw [hd]
  exact Reads.tuple (vs := its) ho hc hd (items_read hi)
theorem depth_keys : ∀ k : List Key, PyData.depthAll (k.map keyD) = 0
  | [] => by simp [PyData.depthAll]
  | x :: k => by
    have e : (keyD x).depth = 0 := by cases x <;> simp [keyD, PyData.depth]
    rw [List.map_cons, PyData.depthAll, depth_keys k, e] <;> rfl
theorem each_rows : ∀ {L : List (Addr × List Key)} {es : List (Int × Value)}, es = mRows X.prog X.w L → ∀ {T : Value → Addr × List Key → Prop}, (∀ p ∈ L, T (.ref p.1) p) → PySem.W.EachIs T (es.map (·.2)) L
  | [], _, rfl, _, _ => .nil
  | p :: L, _, rfl, T, h => .cons (h p List.mem_cons_self) (each_rows (L := L) rfl fun q hq => h q (.tail _ hq))
theorem vals_refs : ∀ {us : List Value} {L : List (Addr × List Key)}, PySem.W.EachIs (fun v (p : Addr × List Key) => v = .ref p.1) us L → Vals (L.map fun q => V.ref q.1) us
  | _, _, .nil => .nil
  | _, _, .cons h t => .cons h (vals_refs t)
theorem cr_sortedM (hc : X.calm = true) (hu : X.A.units + 64 < cLine) : CallR X (.builtin "sorted") (rSortedM X.K X.prog X.w) := by
  intro pins s σ H vs us Q I r h
  obtain ⟨a, L, rfl, ha, tup, al, ne, q⟩ := h
  rw [Vals.ref1 r]
  obtain ⟨es, ep, t, R⟩ := setM_of I ha tup
  obtain ⟨o, ho, hex, hd⟩ := R.ob
  have few := R.few
  have dep : ∀ p : Addr × List Key, (encM p).depth ≤ 1 := fun p => by
    unfold encM
    rw [PyData.depth, depth_keys] <;> omega
  refine sorted_setG (enc := encM) (R := fun v (p : Addr × List Key) => v = .ref p.1) (bs := L) (I.ok.hd hc) ⟨o, ho, hex.1, hd⟩ R.fits (by rw [R.size]; unfold scanBound; omega) R.tab.up R.led (each_rows R.rows fun p hp => ⟨rfl, isM_reads (R.tup p hp)⟩) al
    (.inl fun d hd => ?_) (fun b _ => by have := dep b; omega) fun s' p out c bs' k g og hp hg pb eo => ?_
  · obtain ⟨p, hp, rfl⟩ := List.mem_map.mp hd
    cases z : p.2 with
    | nil => exact absurd z (ne p hp)
    | cons x k => exact ⟨keyD x, k.map keyD, by rw [encM, z, List.map_cons]⟩
  have py : (bs'.mergeSort (PySem.W.dataLe false encM)).Perm L := (List.mergeSort_perm _ _).trans pb
  have hlo : ((bs'.mergeSort (PySem.W.dataLe false encM)).map fun q => V.ref q.1).length ≤ sizeLine := by
    rw [List.length_map, py.length_eq, sizeLine_eq]
    omega
  have hn : H p = none := I.hok.fresh hp
  have e2 : s' = { s with heap := s'.heap, gens := s'.gens, drawn := s'.drawn, toks := s'.toks } := by
    cases s'
    cases s
    cases og
    rfl
  rw [e2]
  have J : Inv X pins σ (upd H p (.lst ((bs'.mergeSort (PySem.W.dataLe false encM)).map fun q => V.ref q.1))) { s with heap := s'.heap, gens := s'.gens, drawn := s'.drawn, toks := s'.toks } :=
    I.call (ch := []) (Un.laid k hp hn) (I.hok.laid k hp ⟨hlo, out, c, vals_refs eo, hg⟩) (by rw [g]; exact I.bare) (fun _ z => nomatch z)
  refine ⟨.ref p, _, J, rfl, q _ p py ?_ hn⟩
  have tot := PySem.W.sortLe_total (listOrd itemOrd) false fun b : Addr × List Key => PySem.W.keyToks (encM b)
  exact List.pairwise_mergeSort tot.trans (fun x y => by rw [Bool.or_eq_true]; exact tot.total x y) bs'
end
end Vk
set_option Elab.async false
set_option linter.all false
set_option maxRecDepth 100000
set_option maxHeartbeats 4000000
/-! Dict comprehensions whose keys are tuples of ints and texts. -/
namespace Vk
open PySem PySem.Spec PyProof.Rows L2
theorem dictSet_T {X : Cx} {pins : List (Addr × Obj)} {σ : L2.St} {H : Hp} {s : Shared} {E : Value → Shared → Prop} {D b : Addr} {kvs : List (List Key × V)} {k : List Key} {v : V} {u r : Value} {Q : Unit → Shared → Prop} (hu : X.A.units + 64 < cLine) (I : Inv X pins σ H s)
    (hD : H D = some (.dT kvs)) (hz : kvs.length < sizeLine) (hb : H b = some (.tup (k.map kV))) (ry : RelV (.ref b) u) (rv : RelV v r) (h : ∀ s', Inv X pins σ (upd H D (.dT (putK kvs k v))) s' → Q () s') : wpAny (model X.prog X.w) X.A (dictSet D u r) Q E s := by
  cases (show u = Value.ref b from ry)
  obtain ⟨z, nd, xs, rel, dd⟩ := dt_of I.hok hD
  have lx : xs.length ≤ sizeLine := by rw [← Paired.length rel]; exact z
  have ln : (putK kvs k v).length ≤ sizeLine := by have := length_putK kvs k v; omega
  refine wpAny_dictSet_heap (hsz := lx) (show X.A.units < cLine by omega) (key_of I.hok hb) dd fun h' d2 hs => h _ ?_
  obtain ⟨q, es, ep, hq, y2, y3, y4, _, y5⟩ := d2
  refine d_write I (by rw [hD]; trivial) hs ⟨q, hq⟩ ⟨ln, nd, _, (rel.put k hb rv).keeps fun c ys ec => ?_, q, es, ep, hq, y2, y3, y4, y5⟩
  rw [upd_ne (ne_of ec hD (fun z => nomatch z))]
  exact ec
section
variable {X : Cx}
def tDcT (wi : TI) (g : TG) (tt : TT) (tk tv : TE) (vs : List Nat) : TE := fun σ H Q => wi σ H fun J H1 => ∀ D, H1 D = none → ∃ W : Nat → Nat → Hp → Prop, (∃ m, W 0 m (upd H1 D (.dT []))) ∧ ∀ i m H, W i m H → (J.stop i H ∧ Q (.ref D) H) ∨ (J.go i H ∧ ∃ Nx : Hp → Prop, (∀ H', Nx H' → ∃ m', m' < m ∧ W (i + 1) m' H') ∧
  ∀ x H', J.yld i H x H' → g x (wipe σ vs) H' fun σ2 H2 => wipe σ2 vs = wipe σ vs ∧ tt σ2 H2 fun b H3 => if b = true then tk σ2 H3 fun y H4 => tv σ2 H4 fun z H5 => ∃ (kvs : List (List Key × V)) (k : List Key) (q : Addr), y = .ref q ∧ H5 q = some (.tup (k.map kV)) ∧ H5 D = some (.dT kvs) ∧ kvs.length < sizeLine ∧ Nx (upd H5 D (.dT (putK kvs k z))) else Nx H3)
theorem pe_dcT {kx vx tg iter : Expr} {ifs : List Expr} {scope : Scope} {own : List (Str × Nat)} {pos : Pos} {wi : TI} {g : TG} {tt : TT} {tk tv : TE} (hu : X.A.units + 64 < cLine) (hc : X.calm = true) (hN : X.N.Nodup) (hi : PI X tg iter wi) (ok : BlkOk X.N X.env.scope scope own)
    (hg : ∀ (s : Shared) (H : Hp) (C : Addr) (cl : List (Str × Addr)) (fp : List Addr), PG (X.blk s H scope (compEnvC scope cl C X.env) fp) tg g) (ht : ∀ (s : Shared) (H : Hp) (C : Addr) (cl : List (Str × Addr)) (fp : List Addr), PTs (X.blk s H scope (compEnvC scope cl C X.env) fp) ifs tt)
    (hk : ∀ (s : Shared) (H : Hp) (C : Addr) (cl : List (Str × Addr)) (fp : List Addr), PE (X.blk s H scope (compEnvC scope cl C X.env) fp) kx tk) (he : ∀ (s : Shared) (H : Hp) (C : Addr) (cl : List (Str × Addr)) (fp : List Addr), PE (X.blk s H scope (compEnvC scope cl C X.env) fp) vx tv)
    (hs : ∀ x, foldedSetIterable iter X.env x = pure x := by intro _; rfl) : PE X (.DictComp kx vx [⟨tg, iter, ifs, 0⟩] scope pos) (tDcT wi g tt tk tv (own.map (·.2))) := by
  refine ⟨fun pins s σ H Q I h => ?_⟩
  rw [arm_eval_DictComp]
  have free : ∀ y ∈ scope.names, y.2 = .free → ∃ c, X.env.cells.lookup y.1 = some c := fun y hy e => (ok.free y hy e).elim (fun z => I.ok.has _ (.inl z)) fun z => I.ok.has _ (.inr z)
  refine wpAny_comprehension_free rfl hs (closure_ok free) ok.kind (fun y hy e => by rw [ok.uniq y hy, e]) (thn (hi.run pins s σ H _ I h) fun xv s1 hx => thn hx fun itv s2 ⟨it, fp, tn, J, H2, e, I2, T, st2, f2, q⟩ => ?_)
  subst e
  refine wpAny_newObj_type (newEnv_comp ?_)
  obtain ⟨D, hD⟩ : ∃ D, D = s2.heap.objs.size := ⟨_, rfl⟩
  rw [← hD]
  have nD : H2 D = none := I2.hok.fresh (Nat.le_of_eq hD.symm)
  obtain ⟨W, ⟨m0, w0⟩, turn⟩ := q D nD
  obtain ⟨s3, e3⟩ : ∃ s3 : Shared, s3 = { s2 with heap := s2.heap.push { cls := .type "dict", data := .dict #[] } } := ⟨_, rfl⟩
  have I3 : Inv X pins σ (upd H2 D (.dT [])) s3 := by
    rw [e3]
    refine I2.laid (t' := s2.toks) (fun b o z => Heap.get?_push_of_some _ z) (Nat.le_of_eq hD.symm) ?_
    rw [hD]
    exact dt_empty s2.heap I2.big
  have p3 : s3.heap = s2.heap.push { cls := .type "dict", data := .dict #[] } := by rw [e3]
  have low : ∀ b ∈ fp, b < s2.heap.objs.size := fun b hb => by
    obtain ⟨o, z, _⟩ := T.obj _ _ st2 b hb
    exact Heap.lt_size z
  have f3 : ∀ b ∈ fp, FpOk X pins (upd H2 D (.dT [])) b ∧ b < s3.heap.objs.size := fun b hb => by
    have lb := low b hb
    refine ⟨⟨?_, (f2 b hb).2⟩, by rw [p3, Heap.size_push]; exact Nat.lt_succ_of_lt lb⟩
    rw [upd_ne (by rw [hD]; exact Nat.ne_of_lt lb)]
    exact (f2 b hb).1
  have st3 : tn 0 s3.heap := T.keep _ _ _ st2 fun b _ o z => by rw [p3]; exact Heap.get?_push_of_some _ z
  have I4 := block_start I3 ok hN f3
  obtain ⟨cl, ecl⟩ : ∃ cl, cl = cellsFrom (s3.heap.objs.size + 1) scope.names (cloFrom X.env.cells scope.names []) := ⟨_, rfl⟩
  have pg := hg s3 (upd H2 D (.dT [])) s3.heap.objs.size cl fp
  have pt := ht s3 (upd H2 D (.dT [])) s3.heap.objs.size cl fp
  have pk := hk s3 (upd H2 D (.dT [])) s3.heap.objs.size cl fp
  have pe := he s3 (upd H2 D (.dT [])) s3.heap.objs.size cl fp
  rw [← e3]
  rw [← ecl] at I4
  show codeAny _ _ (.compStart (.DictComp kx vx [⟨tg, iter, ifs, 0⟩] scope pos) 0 (.ref it) (.ref D) (compEnvC scope (cellsFrom (s3.heap.objs.size + 1) scope.names (cloFrom X.env.cells scope.names [])) s3.heap.objs.size X.env)) (compPost (model X.prog X.w) X.A X.xe none (EP X pins σ Q) (.ref D) s3.heap.objs.size) _
  rw [← ecl]
  have empt : ∀ b ∈ fp, (upd H2 D (.dT [])) b = none := fun b hb => (f3 b hb).1.1
  obtain ⟨ce, ece⟩ : ∃ ce, ce = compEnvC scope cl s3.heap.objs.size X.env := ⟨_, rfl⟩
  have lc : ce.locals = s3.heap.objs.size := by rw [ece] <;> rfl
  rw [← ece] at I4 pg pt pk pe ⊢
  obtain ⟨H3, eH⟩ : ∃ H3, H3 = upd H2 D (.dT []) := ⟨_, rfl⟩
  rw [← eH] at I3 I4 pg pt pk pe w0 empt f3
  obtain ⟨s4, e4⟩ : ∃ s4 : Shared, s4 = { s3 with heap := pushCells (s3.heap.push { cls := .type "dict", data := .dict #[] }) scope.names } := ⟨_, rfl⟩
  rw [← e4] at I4
  show codeAny _ _ _ _ { s3 with heap := pushCells (s3.heap.push { cls := .type "dict", data := .dict #[] }) scope.names }
  rw [← e4]
  have st4 : tn 0 s4.heap := T.keep _ _ _ st3 fun b _ o z => by rw [e4]; exact pushCells_keeps _ _ _ _ (Heap.get?_push_of_some _ z)
  have still : ∀ {σ' : L2.St} {H' : Hp} {s' : Shared}, Inv (X.blk s3 H3 scope ce fp) [] σ' H' s' → (∀ b ∈ fp, H' b = none) → ∀ b ∈ fp, FpOk (X.blk s3 H3 scope ce fp) [] H' b := fun {σ' H' s'} I' hn b hb =>
    ⟨hn b hb, (I'.ok.exf b hb).1, I'.ok.exfs b hb, .inl hb, fun x c z => (I'.ok.exf b hb).2 x c z, fun p hp => absurd (show p ∈ ([] : List (Addr × Obj)) ++ [] from hp) (by simp)⟩
  have loop : codeAny (model X.prog X.w) X.A (.compLoop (.DictComp kx vx [⟨tg, iter, ifs, 0⟩] scope pos) 0 (.ref it) (.ref D) ce) (compPost (model X.prog X.w) X.A X.xe none (EP X pins σ Q) (.ref D) s3.heap.objs.size) s4 := by
    refine compLoop_anyD (fun n s' => ∃ i H', Inv (X.blk s3 H3 scope ce fp) [] (wipe σ (own.map (·.2))) H' s' ∧ tn i s'.heap ∧ (∀ b ∈ fp, H' b = none) ∧ W i n H') (fun n s5 ⟨i, H5, I5, st5, n5, w5⟩ => ?_) m0 ⟨0, H3, I4, st4, empt, w0⟩
    rcases turn i n H5 w5 with ⟨stop, qq⟩ | ⟨go, Nx, hNx, step⟩
    · refine thnF (T.done (X.blk s3 H3 scope ce fp) rfl rfl rfl hc i [] s5 _ H5 (fun _ _ => False) I5 (still I5 n5) st5 stop) fun r s6 ⟨er, I6⟩ => ?_
      subst er
      have I7 : Inv X pins σ H5 s6 := I3.call' (ch := fp) I6.os I6.base I6.hok I6.bare fun b hb => ⟨(f3 b hb).1.2.2.2.1, (f3 b hb).1.2.1, (f3 b hb).1.2.2.2.2.1, (f3 b hb).1.2.2.2.2.2⟩
      have nC : H5 s3.heap.objs.size = none := by
        rw [← lc]
        exact I6.free
      obtain ⟨m, hn, _⟩ := I6.loc
      have hn2 : s6.heap.Ns s3.heap.objs.size m := by
        rw [← lc]
        exact hn
      refine ⟨m, hn2, fun h'' sb => ?_⟩
      obtain ⟨_, y1, _, y3, y4, y5⟩ := I3.fpOk (H' := H5) (Nat.le_refl _) nC
      exact ⟨.ref D, H5, I7.turned (t' := s6.toks) (fun b o hb z => (sb.2 b hb).trans z) nC y1 y3 y4 y5, rfl, qq⟩
    · refine thnF (T.item (X.blk s3 H3 scope ce fp) rfl rfl rfl hc i [] s5 _ H5 (fun _ _ => False) I5 (still I5 n5) st5 go) fun r s6 ⟨u, er, h6⟩ => ?_
      subst er
      refine thnF h6 fun _ s7 ⟨x, H7, I7, r7, y7, st7, n7⟩ => ?_
      refine thnF (pg.run _ s7 _ H7 x u _ (I7.pinned (still I7 n7) (T.obj _ _ st7)) r7 (step x H7 y7)) fun _ s8 ⟨σ8, H8, I8, hw8, q8⟩ => ?_
      refine thnF (pt.run _ s8 σ8 H8 _ I8 q8) fun b s9 ⟨H9, I9, q9⟩ => ?_
      have fin : ∀ {s' : Shared} {H' : Hp}, Inv (X.blk s3 H3 scope ce fp) ([] ++ pinsAt fp s7.heap) σ8 H' s' → Nx H' → ∃ m, m < n ∧ ∃ i H', Inv (X.blk s3 H3 scope ce fp) [] (wipe σ (own.map (·.2))) H' s' ∧ tn i s'.heap ∧ (∀ b ∈ fp, H' b = none) ∧ W i m H' := fun {s' H'} I' nx => by
        obtain ⟨m', lm, w'⟩ := hNx H' nx
        have pin : ∀ c ∈ fp, ∀ o, s7.heap.get? c = some o → s'.heap.get? c = some o ∧ H' c = none := fun c hc2 o z =>
          let y := I'.pin (c, o) (List.mem_append_right _ (List.mem_append_right _ (mem_pinsAt hc2 z)))
          ⟨y.1, y.2.1⟩
        have lw : (wipe σ (own.map (·.2))).length = σ8.length := by rw [← hw8, wipe_length]
        refine ⟨m', lm, i + 1, H', (I'.unpinned (pins := [])).weak lw (fun j v z => ?_), T.keep _ _ _ st7 fun c hc2 o z => (pin c hc2 o z).1, fun c hc2 => ?_, w'⟩
        · rw [← hw8] at z
          exact (wipe_some z).1
        · obtain ⟨o, z, _⟩ := T.obj _ _ st7 c hc2
          exact (pin c hc2 o z).2
      cases b with
      | false =>
        simp only [Bool.false_eq_true, if_false] at q9 ⊢
        exact fin I9 q9
      | true =>
        simp only [if_true] at q9 ⊢
        refine thnF (pk.run _ s9 σ8 H9 _ I9 q9) fun z s10 ⟨yk, H10, I10, r10, q10⟩ => ?_
        refine thnF (pe.run _ s10 σ8 H10 _ I10 q10) fun z2 s11 ⟨yv, H11, I11, r11, kvs, k, qa, ek, hq, hD11, hz, nx⟩ => ?_
        subst ek
        exact dictSet_T (X := X.blk s3 H3 scope ce fp) hu I11 hD11 hz hq r10 r11 fun s12 I12 => fin I12 nx
  exact codeAny_compStart_dict loop (T.self X.A 0 _ _ _ st4 loop)
/-- over a tuple that stays -/
theorem dcT_tup {K : PySem.W.Frag} {a : Addr} {xs : List V} {g : TG} {tt : TT} {tk tv : TE} {vs : List Nat} {σ : L2.St} {H1 : Hp} {D : Addr} {Qd : Hp → Prop} (Pv : Nat → Hp → Prop) (h0 : Pv 0 (upd H1 D (.dT []))) (hl : ∀ i H, i ≤ xs.length → Pv i H → SqT K H a xs)
    (step : ∀ i x H, xs[i]? = some x → Pv i H → g x (wipe σ vs) H fun σ2 H2 => wipe σ2 vs = wipe σ vs ∧ tt σ2 H2 fun b H3 => if b = true then tk σ2 H3 fun y H4 => tv σ2 H4 fun z H5 => ∃ (kvs : List (List Key × V)) (k : List Key) (q : Addr), y = .ref q ∧ H5 q = some (.tup (k.map kV)) ∧ H5 D = some (.dT kvs) ∧ kvs.length < sizeLine ∧ Pv (i + 1) (upd H5 D (.dT (putK kvs k z))) else Pv (i + 1) H3)
    (fin : ∀ H, Pv xs.length H → Qd H) :
    ∃ W : Nat → Nat → Hp → Prop, (∃ m, W 0 m (upd H1 D (.dT []))) ∧ ∀ i m H, W i m H → ((Itt K a).stop i H ∧ Qd H) ∨ ((Itt K a).go i H ∧ ∃ Nx : Hp → Prop, (∀ H', Nx H' → ∃ m', m' < m ∧ W (i + 1) m' H') ∧ ∀ x H', (Itt K a).yld i H x H' → g x (wipe σ vs) H' fun σ2 H2 => wipe σ2 vs = wipe σ vs ∧ tt σ2 H2 fun b H3 =>
      if b = true then tk σ2 H3 fun y H4 => tv σ2 H4 fun z H5 => ∃ (kvs : List (List Key × V)) (k : List Key) (q : Addr), y = .ref q ∧ H5 q = some (.tup (k.map kV)) ∧ H5 D = some (.dT kvs) ∧ kvs.length < sizeLine ∧ Nx (upd H5 D (.dT (putK kvs k z))) else Nx H3) := by
  refine ⟨fun i m H => m + i = xs.length ∧ Pv i H, ⟨xs.length, rfl, h0⟩, fun i m H ⟨em, p⟩ => ?_⟩
  have q := hl i H (by omega) p
  rcases Nat.lt_or_ge i xs.length with c | c
  · refine .inr ⟨⟨xs, xs[i], q, by simp [c]⟩, Pv (i + 1), fun H' p' => ⟨m - 1, by omega, by omega, p'⟩, fun x H' ⟨e, y⟩ => ?_⟩
    subst e
    exact step i x _ (y xs q) p
  · obtain rfl : i = xs.length := by omega
    exact .inl ⟨⟨xs, q, Nat.le_refl _⟩, fin H p⟩
end
end Vk
set_option Elab.async false
set_option linter.all false
set_option maxRecDepth 100000
set_option maxHeartbeats 4000000
/-! set(l) of a list of whole numbers, in the terms of the hand layer's sets of ints. -/
namespace Vt
open PySem PySem.Spec PyProof.Rows L2 Vs
theorem int_at : ∀ {ns : List Int} {us : List Value} {i : Nat} {u : Value}, Vals (ns.map V.int) us → us[i]? = some u → ∃ k tk, ns[i]? = some k ∧ u = .int k tk
  | [], _, i, u, .nil, h => by cases h
  | n :: ns, _, 0, u, .cons r t, h => by
    obtain ⟨tk, e⟩ := r
    rw [List.getElem?_cons_zero] at h
    exact ⟨n, tk, rfl, (Option.some.inj h).symm.trans e⟩
  | n :: ns, _, i + 1, u, .cons r t, h => by
    rw [List.getElem?_cons_succ] at h
    exact int_at (ns := ns) t h
section
variable {P : Program} {w : World} {A : Around} {E : Value → Shared → Prop} {s : Shared}
/-- the set at S has just the first i of ns -/
def OfI (w : World) (h : Heap) (S : Addr) (ns : List Int) (i : Nat) : Prop := ∃ (f : Int → Bool) (n : Nat), SetR w h S f n ∧ (∀ k, f k = true ↔ k ∈ ns.take i) ∧ n ≤ i
theorem update_ints {R : Result → Shared → Prop} {I : Addr} {fp wr : List Addr} {G : Array GenState → Array GenState → Prop} {n : Nat} {Pv : Nat → Value → Prop} {St : Nat → Shared → Prop} (W : WalksS P w A.in1 I fp wr G n Pv St) (S : Addr) (hS : S ∉ fp)
    (ns : List Int) (hn : n = ns.length) (few : ns.length ≤ 4000) (hv : ∀ i v, Pv i v → ∃ k tk, ns[i]? = some k ∧ v = .int k tk) :
    ∀ (m i : Nat) (s : Shared), n - i = m → i ≤ n → St i s → OfI w s.heap S ns i →
      (∀ s', Moved (S :: wr) G s s' → OfI w s'.heap S ns n → R (.ok (.ret .none)) s') → codeAny (model P w) A (.builtin "set.update.loop" ⟨[.ref S, .ref I], []⟩) R s := by
  have hw : S ∉ wr := fun h => hS (W.sub _ h)
  have up : ∀ b ∈ wr, b ∈ S :: wr := fun b hb => .tail _ hb
  intro m
  induction m with
  | zero =>
    intro i s hm hi st C fin
    obtain rfl : i = n := by omega
    refine codeAny_builtin F.entry_set_update_loop (?_)
    rw [(Around.under_plainId F.plain_set_update_loop _ :)]
    show wpAny _ A.in1 (pyNext (.ref I) >>= _) _ _ s
    refine wpAny_bind (W.done s _ _ st fun s' mv => wpAny_pure (fin s' (mv.mono up) ?_))
    obtain ⟨f, k, c1, c2⟩ := C
    exact ⟨f, k, c1.at fun o e => mv.heap S o hw e, c2⟩
  | succ m ih =>
    intro i s hm hi st C fin
    have hlt : i < n := by omega
    refine codeAny_builtin F.entry_set_update_loop (?_)
    rw [(Around.under_plainId F.plain_set_update_loop _ :)]
    show wpAny _ A.in1 (pyNext (.ref I) >>= _) _ _ s
    refine wpAny_bind (W.item i s _ _ hlt st fun v s' pv st' mv => ?_)
    obtain ⟨k, tk, hp, rfl⟩ := hv i v pv
    obtain ⟨f, q, c1, c2, c3⟩ := C
    have c1' := c1.at (h' := s'.heap) fun o e => mv.heap S o hw e
    show wpAny _ A.in1 (holding [Value.int k tk] (setAdd S (.int k tk)) >>= _) _ _ s'
    refine wpAny_bind (wpAny_holding ?_)
    unfold setAdd
    refine wpAny_holding (wpAny_bind ((intKind P w).pyHash (intKind_is P w k tk) ?_))
    refine setR_add_hashed (s := { s' with toks := s'.toks + 1 }) c1' (by unfold scanBound; omega) fun h' sb c1'' => ?_
    have keep : ∀ b o, b ≠ S → s'.heap.get? b = some o → h'.get? b = some o := fun b o hb e => (sb.2 b hb).trans e
    have tk1 : ns.take (i + 1) = ns.take i ++ [k] := by rw [List.take_add_one, hp] <;> rfl
    have next : OfI w h' S ns (i + 1) := by
      refine ⟨_, _, c1'', fun j => ?_, ?_⟩
      · rw [Bool.or_eq_true, c2 j, decide_eq_true_eq, tk1, List.mem_append, List.mem_singleton]
      · split <;> omega
    refine wpAny_pure ⟨plainId_quiet F.plain_set_update_loop _, ih (i + 1) _ (by omega) hlt (W.frame _ s' _ _ st' (Nat.le_add_right _ _) fun b hb o e => keep b o (fun y => hS (y ▸ hb)) e) next fun s2 m2 C2 => ?_⟩
    exact fin s2 (Moved.trans W.gtrans ((mv.mono up).then_heap (Nat.le_add_right _ _) fun b o hb e => keep b o (fun y => hb (y ▸ List.mem_cons_self)) e) m2) C2
theorem call_setI {l : Addr} {ns : List Int} {items : List Value} {Q : Value → Shared → Prop} (hh : A.handled = none) (hl : s.heap.IsList l items.toArray) (hit : Vals (ns.map V.int) items) (few : ns.length ≤ 4000) (hu : A.units + 3 < cLine)
    (h : ∀ (h' : Heap) (tk : Nat), OfI w h' s.heap.objs.size ns ns.length → (∀ b o, s.heap.get? b = some o → h'.get? b = some o) → Q (.ref s.heap.objs.size) { s with heap := h', toks := tk }) :
    wpAny (model P w) A (call (.type "set") [.ref l]) Q E s := by
  have hz1 : (s.heap.push (newO w)).objs.size = s.heap.objs.size + 1 := size_push' _ _
  have isz : items.toArray.size = ns.length := by rw [List.size_toArray, ← hit.length, List.length_map]
  have val : ∀ (i : Nat) (v : Value), items.toArray[i]? = some v → ∃ k tk, ns[i]? = some k ∧ v = .int k tk := fun i v e => by
    have e1 : items[i]? = some v := by rw [← e]; simp
    exact int_at hit e1
  have old2 : ∀ (o2 : Obj) b o, s.heap.get? b = some o → ((s.heap.push (newO w)).push o2).get? b = some o := fun o2 b o e => Heap.get?_push_of_some _ (Heap.get?_push_of_some _ e)
  have hlt : l < s.heap.objs.size := by
    obtain ⟨_, e, _⟩ := hl
    exact Heap.lt_size e
  have ne : l ≠ (s.heap.push (newO w)).objs.size := by rw [hz1]; exact Nat.ne_of_lt (Nat.lt_succ_of_lt hlt)
  have hl1 : (s.heap.push (newO w)).IsList l items.toArray := hl.push _
  refine call_setX (T := "list") (Post := fun h' => OfI w h' s.heap.objs.size ns ns.length) hl1.typeIs PySem.F.sub_list_set PySem.F.sub_list_frozenset (by decide) (fun A1 E1 R1 h1 h2 q => ?_) h
  refine wpAny_pyIter_list hl1 ?_
  refine wpAny_runValue ?_
  have out : s.heap.objs.size ∉ [(s.heap.push (newO w)).objs.size, l] := fun z => by
    rcases List.mem_cons.mp z with z | z
    · exact absurd (z.trans hz1) (Nat.ne_of_lt (Nat.lt_succ_self _))
    · exact absurd (List.mem_singleton.mp z) (Nat.ne_of_gt hlt)
  refine update_ints (Walks.list (h1 hh) _ l ne items.toArray).toS s.heap.objs.size out ns isz few val items.toArray.size 0 _ rfl (Nat.zero_le _) ⟨⟨_, Heap.get?_push_size _ rfl, rfl, rfl⟩, hl1.push _⟩ ⟨fun _ => false, 0, (setR_fresh w).at fun o e => Heap.get?_push_of_some _ e, fun k => by simp, Nat.le_refl _⟩ fun s' mv C => ?_
  obtain ⟨h', g2, d', tk', os'⟩ := s'
  obtain rfl : g2 = s.gens := mv.gens
  obtain rfl : d' = s.drawn := mv.drawn
  obtain rfl : os' = s.os := mv.os
  rw [isz] at C
  refine q h' tk' C fun b o e => ?_
  have b0 : b < s.heap.objs.size := Heap.lt_size e
  refine mv.heap b o (fun z => ?_) (old2 _ b o e)
  rcases List.mem_cons.mp z with z | z
  · exact absurd b0 (by rw [z]; exact Nat.lt_irrefl _)
  · have z2 : b = s.heap.objs.size + 1 := (List.mem_singleton.mp z).trans hz1
    exact absurd b0 (by rw [z2]; exact Nat.not_lt_of_le (Nat.le_succ _))
end
/-- set(l), l a list of ints -/
def rSetI (K : PySem.W.Frag) (w : World) : List V → Hp → VK → Prop := fun vs H Q => ∃ (l : Addr) (ns : List Int), vs = [.ref l] ∧ SqL K H l (ns.map V.int) ∧ ns.length ≤ 4000 ∧ ∀ (f : Int → Bool) (n : Nat) p, (∀ k, f k = true ↔ k ∈ ns) → n ≤ ns.length → H p = none → Q (.ref p) (upd H p (SetO w p f n))
theorem cr_setI {X : Cx} (hc : X.calm = true) (hu : X.A.units + 64 < cLine) : CallR X (.type "set") (rSetI X.K X.w) := by
  intro pins s σ H vs us Q I r h
  obtain ⟨l, ns, rfl, hl, few, q⟩ := h
  rw [Vals.ref1 r]
  obtain ⟨its, rv, z, _⟩ := I.list hl
  refine call_setI (I.ok.hd hc) z.isList rv few (by omega) fun h' tk ⟨f, n, C, cf, cn⟩ k => ?_
  rw [List.take_length] at cf
  exact ⟨.ref _, _, I.laid (t' := tk) k (Nat.le_refl _) (setO_new C), rfl, q f n _ cf cn (I.hok.fresh (Nat.le_refl _))⟩
end Vt
set_option Elab.async false
set_option linter.all false
/-! split by one sign takes a joined text apart again. -/
namespace Vs1
open PySem PySem.StrLaws Builtin Builtin.Str
theorem occ_go (x : Str) (c : Nat) : ∀ (n a : Nat) (st : Array Nat × Nat), a + n = x.length + 1 → st.snd ≤ a → st.fst.size ≤ a →
    (forIn (List.range' a n) st (occBody x ⟨#[c]⟩ x.length (x.length + 1))).run.fst.size = st.fst.size + (x.cps.toList.drop a).count c
  | 0, a, st, e, _, _ => by
    have d : x.cps.toList.drop a = [] := List.drop_of_length_le (by rw [Array.length_toList]; show x.length ≤ a; omega)
    rw [d]
    rfl
  | n + 1, a, st, e, h1, h2 => by
    rw [List.range'_succ, List.forIn_cons]
    unfold occBody
    have one := subAt_one x c a
    by_cases hc : x.cps.toList[a]? = some c
    · have q := one.mpr hc
      rw [if_pos ⟨⟨⟨by omega, h1⟩, q.1⟩, q.2⟩]
      have il : a < x.cps.toList.length := (List.getElem?_eq_some_iff.mp hc).1
      have d : x.cps.toList.drop a = c :: x.cps.toList.drop (a + 1) := by
        rw [List.drop_eq_getElem_cons il]
        rw [List.getElem?_eq_getElem il] at hc
        rw [Option.some.inj hc]
      have ih := occ_go x c n (a + 1) (st.fst.push a, a + 1) (by omega) (Nat.le_refl _) (by rw [Array.size_push]; omega)
      rw [Array.size_push] at ih
      rw [d, List.count_cons_self]
      refine Eq.trans ih ?_
      omega
    · rw [if_neg fun z => hc (one.mp ⟨z.1.2, z.2⟩)]
      have ih := occ_go x c n (a + 1) (st.fst, st.snd) (by omega) (by show st.snd ≤ a + 1; omega) (by show st.fst.size ≤ a + 1; omega)
      refine Eq.trans ih ?_
      by_cases il : a < x.cps.toList.length
      · have d : x.cps.toList.drop a = x.cps.toList[a] :: x.cps.toList.drop (a + 1) := List.drop_eq_getElem_cons il
        rw [List.getElem?_eq_getElem il] at hc
        rw [d, List.count_cons_of_ne (fun z => hc (by rw [z]))]
      · rw [List.drop_of_length_le (Nat.le_of_not_lt il), List.drop_of_length_le (by omega)]
theorem occ_count (x : Str) (c : Nat) : (occurrences x ⟨#[c]⟩ 0 x.length (x.length + 1)).length = x.cps.toList.count c := by
  rw [occ_eq, Array.length_toList]
  have := occ_go x c (x.length + 1) 0 (#[], 0) (by omega) (Nat.le_refl _) (Nat.le_refl _)
  rw [List.drop_zero] at this
  rw [Nat.sub_zero]
  refine Eq.trans this ?_
  show 0 + _ = _
  omega
theorem split_len (x : Str) {c : Nat} (hc : c < 256) : (Txt.split x ⟨#[c]⟩).length = x.cps.toList.count c + 1 := by
  have k : strKind (⟨#[c]⟩ : Str) = 1 := by
    unfold Str.strKind
    rw [if_pos (by simp [hc])]
  have k1 : 1 ≤ strKind x := by
    unfold Str.strKind
    split
    · exact Nat.le_refl _
    · split <;> decide
  have oc := occ_count x c
  unfold Txt.split
  split
  · rename_i h
    rw [Bool.or_eq_true, decide_eq_true_eq, decide_eq_true_eq, k] at h
    have h0 : x.length = 0 := by
      rcases h with h | h
      · have : (⟨#[c]⟩ : Str).length = 1 := rfl
        omega
      · omega
    have e : x.cps.toList = [] := List.eq_nil_of_length_eq_zero (by rw [Array.length_toList]; exact h0)
    rw [e]
    rfl
  · split
    · rename_i h
      have : (occurrences x ⟨#[c]⟩ 0 x.length (x.length + 1)).length = 0 := by rw [List.isEmpty_iff.mp h] <;> rfl
      rw [← oc, this]
      rfl
    · rw [length_partsBetween, oc]
/-- texts joined by one sign, on lists -/
def jl (c : Nat) : List (List Nat) → List Nat
  | [] => []
  | [a] => a
  | a :: b :: r => a ++ c :: jl c (b :: r)
theorem join_jl (c : Nat) : ∀ L : List Str, (Str.join ⟨#[c]⟩ L).cps.toList = jl c (L.map fun x => x.cps.toList)
  | [] => rfl
  | [a] => rfl
  | a :: b :: r => by
    have ih := join_jl c (b :: r)
    show ((a ++ (⟨#[c]⟩ : Str) ++ Str.join ⟨#[c]⟩ (b :: r)) : Str).cps.toList = _
    rw [PySem.Str.cps_append, PySem.Str.cps_append, Array.toList_append, Array.toList_append, ih, List.append_assoc]
    rfl
theorem count_jl (c : Nat) : ∀ L : List (List Nat), L ≠ [] → (jl c L).count c + 1 = (L.map fun a => a.count c).sum + L.length
  | [], h => absurd rfl h
  | [a], _ => by simp [jl]
  | a :: b :: r, _ => by
    have ih := count_jl c (b :: r) (List.cons_ne_nil _ _)
    rw [jl, List.count_append, List.count_cons_self, List.map_cons, List.sum_cons, List.length_cons]
    omega
theorem tw_app {c : Nat} : ∀ {a r : List Nat}, c ∉ a → (a ++ c :: r).takeWhile (fun x => x != c) = a ∧ (a ++ c :: r).dropWhile (fun x => x != c) = c :: r
  | [], r, _ => by simp
  | x :: a, r, h => by
    have hx : (x != c) = true := bne_iff_ne.mpr fun e => h (e ▸ List.mem_cons_self)
    obtain ⟨h1, h2⟩ := tw_app (a := a) (r := r) fun z => h (.tail _ z)
    rw [List.cons_append, List.takeWhile_cons, List.dropWhile_cons, hx]
    exact ⟨by simp [h1], by simp [h2]⟩
theorem jl_inj {c : Nat} : ∀ {L M : List (List Nat)}, L ≠ [] → M ≠ [] → (∀ a ∈ L, c ∉ a) → (∀ a ∈ M, c ∉ a) → jl c L = jl c M → L = M
  | [], _, h, _, _, _, _ => absurd rfl h
  | _, [], _, h, _, _, _ => absurd rfl h
  | [a], [b], _, _, _, _, e => by
    have e' : a = b := e
    rw [e']
  | [a], b :: d :: r, _, _, h1, _, e => by
    exfalso
    have e' : a = b ++ c :: jl c (d :: r) := e
    exact h1 a List.mem_cons_self (by rw [e']; exact List.mem_append_right _ List.mem_cons_self)
  | a :: d :: r, [b], _, _, _, h2, e => by
    exfalso
    have e' : a ++ c :: jl c (d :: r) = b := e
    exact h2 b List.mem_cons_self (by rw [← e']; exact List.mem_append_right _ List.mem_cons_self)
  | a :: a2 :: r, b :: b2 :: s, _, _, h1, h2, e => by
    have e' : a ++ c :: jl c (a2 :: r) = b ++ c :: jl c (b2 :: s) := e
    obtain ⟨x1, x2⟩ := tw_app (r := jl c (a2 :: r)) (h1 a List.mem_cons_self)
    obtain ⟨y1, y2⟩ := tw_app (r := jl c (b2 :: s)) (h2 b List.mem_cons_self)
    rw [e'] at x1 x2
    have ab : a = b := x1.symm.trans y1
    have e2 : jl c (a2 :: r) = jl c (b2 :: s) := (List.cons.inj (x2.symm.trans y2)).2
    rw [ab, jl_inj (List.cons_ne_nil _ _) (List.cons_ne_nil _ _) (fun z hz => h1 z (.tail _ hz)) (fun z hz => h2 z (.tail _ hz)) e2]
theorem sum_zero : ∀ {l : List Nat}, l.sum = 0 → ∀ x ∈ l, x = 0
  | [], _, _, h => nomatch h
  | y :: l, e, x, h => by
    rw [List.sum_cons] at e
    rcases List.mem_cons.mp h with z | z
    · omega
    · exact sum_zero (by omega) x z
/-- split takes apart what join put together -/
theorem split_join {c : Nat} (hc : c < 256) {L : List Str} (ne : L ≠ []) (no : ∀ a ∈ L, c ∉ a.cps.toList) : Txt.split (Str.join ⟨#[c]⟩ L) ⟨#[c]⟩ = L := by
  obtain ⟨x, ex⟩ : ∃ x, x = Str.join ⟨#[c]⟩ L := ⟨_, rfl⟩
  obtain ⟨M, eM⟩ : ∃ M, M = Txt.split x ⟨#[c]⟩ := ⟨_, rfl⟩
  rw [← ex, ← eM]
  have jM : Str.join ⟨#[c]⟩ M = x := by rw [eM, join_split]
  have lM : M.length = x.cps.toList.count c + 1 := by rw [eM, split_len x hc]
  have neM : M ≠ [] := fun z => by rw [z] at lM; simp at lM
  have tx : x.cps.toList = jl c (L.map fun a => a.cps.toList) := by rw [ex, join_jl]
  have tm : x.cps.toList = jl c (M.map fun a => a.cps.toList) := by rw [← jM, join_jl]
  have cx := count_jl c (L.map fun a => a.cps.toList) (by simpa using ne)
  have cm := count_jl c (M.map fun a => a.cps.toList) (by simpa using neM)
  rw [← tm, List.length_map] at cm
  have z : ((M.map fun a => a.cps.toList).map fun a => a.count c).sum = 0 := by omega
  have noM : ∀ a ∈ M.map (fun a => a.cps.toList), c ∉ a := fun a ha hz => by
    have := sum_zero z _ (List.mem_map.mpr ⟨a, ha, rfl⟩)
    exact absurd (List.count_pos_iff.mpr hz) (by omega)
  have e := jl_inj (c := c) (L := M.map fun a => a.cps.toList) (M := L.map fun a => a.cps.toList) (by simpa using neM) (by simpa using ne) noM (fun a ha => by
    obtain ⟨b, hb, rfl⟩ := List.mem_map.mp ha
    exact no b hb) (tm.symm.trans tx)
  have inj : ∀ {A B : List Str}, A.map (fun a => a.cps.toList) = B.map (fun a => a.cps.toList) → A = B := by
    intro A
    induction A with
    | nil =>
      intro B h
      exact (List.map_eq_nil_iff.mp h.symm).symm
    | cons a A ih =>
      intro B h
      cases B with
      | nil => cases h
      | cons b B =>
        rw [List.map_cons, List.map_cons] at h
        obtain ⟨h1, h2⟩ := List.cons.inj h
        rw [ih h2, Str.ext' (Array.toList_inj.mp h1)]
  exact inj e
end Vs1
set_option Elab.async false
set_option linter.all false
set_option maxRecDepth 100000
namespace Vk
open PySem PySem.Spec PyProof.Rows L2 ClX
/-! C.m(k = v, ..), m a classmethod, nothing by position -/
def tCMethK (C : Addr) (sp : Sp) (gV : List V → List V → List V) (E : XK) (ta : TE) (tk : TA) : TE := fun σ H Q => ta σ H fun x H1 => x = .ref C ∧ tk σ H1 fun zs H2 => sp (gV [.ref C] zs) H2 Q E
section
variable {X : Cx} {CX : CXT} {k : Nat} {C p g : Addr} {mc : Value} {fd : FuncData} {ps ks : List Str} {sp : Sp} {E : XK} {o : Expr} {m : Str} {pos apos : Pos} {ta : TE} {tk : TA} {pl : Sem Bool} {kws : List Keyword}
  {gg : List Value → List Value → List Value} {gV : List V → List V → List V}
theorem callwith_cmk {pins : List (Addr × Obj)} {σ : L2.St} {H : Hp} {s : Shared} {A : Around} {q : Addr} {Q E : Value → Shared → Prop} (hf : PySem.W.fnIn X.K g = true) (hall : (backToKw pos (keywordEach kws X.env)).all (·.1.isSome) = true)
    (h : wpAny (model X.prog X.w) A (evalAll ((backToKw pos (keywordEach kws X.env)).map (·.2))) (fun ws s₂ => PySem.W.MethP X.K q g (.ref C) s₂.heap ∧ wpAny (model X.prog X.w) A (call (.ref q) ([] ++ []) (((backToKw pos (keywordEach kws X.env)).filterMap (·.1)).zip ws)) Q E s₂) E s)
    (hplain : ((backTo pos (starEach [] X.env)).any (·.1) || (backToKw pos (keywordEach kws X.env)).any (·.1.isNone)) = false) :
    wpAny (model X.prog X.w) A (callWith pos (.ref q) [] (backTo pos (starEach [] X.env)) (backToKw pos (keywordEach kws X.env))) Q E s :=
  PySem.W.callWith_of hplain (PySem.W.keeps_M hf) (PyProof.Rows.evalArgs_kw2_nil hall h)
theorem run_cmk {pins : List (Addr × Obj)} {σ : L2.St} {H : Hp} {s : Shared} {q : Addr} {Q : VK} {ws : List Value} {zs : List V} (F : FnOk X.prog X.w X.K X.mg X.base CX k g fd ps sp) (hr : Room k X.A) (hb : KBinds X.K fd ps ks gg gV) (hx : Passes CX X E)
    (I : Inv X ((q, PySem.W.methodObj (.ref g) (.ref C)) :: pins) σ H s) (rz : Vals zs ws) (h : sp (gV [.ref C] zs) H Q E) : wpAny (model X.prog X.w) X.A (call (.ref q) [] (ks.zip ws)) (EP X pins σ Q) X.xe s := by
  have r2 := hb.rel (show Vals [V.ref C] [Value.ref C] from .cons rfl .nil) rz
  have hl : (gg [.ref C] ws).length = ps.length := by rw [← r2.length]; exact F.len _ _ _ _ h
  have z : wpAny (model X.prog X.w) X.A (call (.ref q) [] (ks.zip ws)) (EP X ((q, PySem.W.methodObj (.ref g) (.ref C)) :: pins) σ Q) X.xe s := by
    refine wpAny_call (PySem.W.method_call (pin_at I) (codeAny_mono (F.run X.A X.stack s H ⟨[.ref C], ks.zip ws⟩ (gg [.ref C] ws) (gV [.ref C] zs) Q E hr I.env0 (hb.to s [.ref C] ws I.kIn hl) r2 h) fun r s' hq => ?_))
    cases r with
    | error e => exact hx _ σ H s e s' I hq
    | ok fl =>
      cases fl with
      | ret u => exact I.after hq
      | next => exact False.elim hq
      | brk => exact False.elim hq
      | cont => exact False.elim hq
  exact thn z fun _ _ y => unpinE y
theorem pe_cmethK (he : PE X o ta) (r : CRead X.K C mc) (c : CMet X.K C mc m p g) (F : FnOk X.prog X.w X.K X.mg X.base CX k g fd ps sp) (hr : Room k X.A) (hb : KBinds X.K fd ps ks gg gV) (hx : Passes CX X E) (hkw : PK X kws tk)
    (hall : (backToKw pos (keywordEach kws X.env)).all (·.1.isSome) = true := by rfl) (hks : (backToKw pos (keywordEach kws X.env)).filterMap (·.1) = ks := by rfl)
    (hpl : ((backTo pos (starEach [] X.env)).any (·.1) || (backToKw pos (keywordEach kws X.env)).any (·.1.isNone)) = false := by rfl)
    (ht : eval (.Call (.Attribute o m apos) [] kws pos) X.env = (do
      let ov ← eval o X.env
      standAt apos.atName
      let (f, first) ← holding [ov] (getMethod ov m pl)
      callWith pos f first (backTo pos (starEach [] X.env)) (backToKw pos (keywordEach kws X.env))) := by rfl) :
    PE X (.Call (.Attribute o m apos) [] kws pos) (tCMethK C sp gV E ta tk) := by
  refine ⟨fun pins s σ H Q I h => ?_⟩
  refine PySem.W.methodCall_KW (pl := pl) (thn (he.run pins s σ H _ I h) fun u s1 ⟨x, H1, I1, rx, ex, q⟩ => ?_) ht
  subst ex
  obtain rfl : u = Value.ref C := rx
  refine getmethcm_ok I1 r c fun s2 I2 => ?_
  refine callwith_cmk (pins := pins) (σ := σ) (H := H) c.fi hall (thn (hkw.run pos _ s2 σ H1 _ I2 q) fun ws s3 ⟨zs, H2, I3, rz, q2⟩ => ⟨⟨pin_at I3, I3.kIn⟩, ?_⟩) hpl
  rw [hks]
  exact run_cmk F hr hb hx I3 rz q2
end
end Vk
set_option Elab.async false
set_option linter.all false
set_option maxRecDepth 100000
namespace Vk
open PySem PySem.Spec PyProof.Rows L2 ClX
/-! C.m(e), m a classmethod that may raise, within a try -/
def tCMethS (C : Addr) (sp : Sp) (E : L2.St → XK) (ta : TE) (t : TA) : TE := fun σ H Q => ta σ H fun x H1 => x = .ref C ∧ t σ H1 fun vs H2 => sp (.ref C :: vs) H2 Q (E σ)
section
variable {X : Cx} {CX : CXT} {k : Nat} {C p g : Addr} {mc : Value} {fd : FuncData} {ps : List Str} {sp : Sp} {E : L2.St → XK} {o e : Expr} {es : List Expr} {m : Str} {pos apos : Pos} {ta : TE} {t : TA} {pl : Sem Bool}
theorem run_cmS {pins : List (Addr × Obj)} {σ : L2.St} {H : Hp} {s : Shared} {q : Addr} {Q : VK} {us : List Value} {vs : List V} (F : FnOk X.prog X.w X.K X.mg X.base CX k g fd ps sp) (hr : Room k X.A) (hb : Binds X.K fd ps []) (hx : PassesAt CX X σ (E σ))
    (I : Inv X ((q, PySem.W.methodObj (.ref g) (.ref C)) :: pins) σ H s) (r : Vals vs us) (h : sp (.ref C :: vs) H Q (E σ)) : wpAny (model X.prog X.w) X.A (call (.ref q) us) (EP X pins σ Q) X.xe s := by
  have r2 : Vals (V.ref C :: vs) (Value.ref C :: us ++ []) := by rw [List.append_nil]; exact .cons rfl r
  have hl : (Value.ref C :: us).length + 0 = ps.length := by
    have e1 := F.len _ _ _ _ h
    have e2 := r2.length
    rw [List.append_nil] at e2
    rw [Nat.add_zero, ← e2, e1]
  have z : wpAny (model X.prog X.w) X.A (call (.ref q) us) (EP X ((q, PySem.W.methodObj (.ref g) (.ref C)) :: pins) σ Q) X.xe s := by
    refine wpAny_call (PySem.W.method_call (pin_at I) (codeAny_mono (F.run X.A X.stack s H ⟨Value.ref C :: us, []⟩ (Value.ref C :: us ++ []) (.ref C :: vs) Q (E σ) hr I.env0 (hb s (Value.ref C :: us) I.kIn (by rw [List.length_append]; exact hl)) r2 h) fun r s' hq => ?_))
    cases r with
    | error e => exact hx _ H s e s' I hq
    | ok fl =>
      cases fl with
      | ret u => exact I.after hq
      | next => exact False.elim hq
      | brk => exact False.elim hq
      | cont => exact False.elim hq
  exact thn z fun _ _ y => unpinE y
theorem pe_cmethS (he : PE X o ta) (r : CRead X.K C mc) (c : CMet X.K C mc m p g) (F : FnOk X.prog X.w X.K X.mg X.base CX k g fd ps sp) (hr : Room k X.A) (hb : Binds X.K fd ps []) (hx : ∀ σ, PassesAt CX X σ (E σ)) (ha : PA X (e :: es) t)
    (hst : starEach (e :: es) X.env = (false, eval e X.env) :: starEach es X.env := by rfl) (hpl : (backTo pos (starEach es X.env)).any (·.1) = false := by rfl)
    (ht : eval (.Call (.Attribute o m apos) (e :: es) [] pos) X.env = (do
      let ov ← eval o X.env
      standAt apos.atName
      let (f, first) ← holding [ov] (getMethod ov m pl)
      callWith pos f first (backTo pos (starEach (e :: es) X.env)) (backToKw pos (keywordEach [] X.env))) := by rfl) :
    PE X (.Call (.Attribute o m apos) (e :: es) [] pos) (tCMethS C sp E ta t) := by
  refine ⟨fun pins s σ H Q I h => ?_⟩
  refine PySem.W.methodCall_KW (pl := pl) (thn (he.run pins s σ H _ I h) fun u s1 ⟨x, H1, I1, rx, ex, q⟩ => ?_) ht
  subst ex
  obtain rfl : u = Value.ref C := rx
  refine getmethcm_ok I1 r c fun s2 I2 => ?_
  refine callwith_cm I2 (base_none I1 (Nat.le_refl _)) c.fi (thn (ha.run pos _ s2 σ H1 _ I2 q) fun us s3 ⟨vs, H2, I3, rv, q2⟩ => ⟨⟨pin_at I3, I3.kIn⟩, ?_⟩) hst hpl
  exact run_cmS F hr hb (hx σ) I3 rv q2
end
end Vk
set_option Elab.async false
set_option linter.all false
set_option maxRecDepth 100000
set_option maxHeartbeats 4000000
namespace Vk
open PySem PySem.Spec PyProof.Rows L2
/-- sorted(xs), xs a list of tuples of whole numbers and texts -/
def rSortedLM (K : PySem.W.Frag) : List V → Hp → VK → Prop := fun vs H Q => ∃ (a : Addr) (L : List (Addr × List Key)), vs = [.ref a] ∧ SqL K H a (L.map fun p => V.ref p.1) ∧ (∀ p ∈ L, SqT K H p.1 (p.2.map kV)) ∧ PySem.W.AllAlike (L.map encM) ∧ (∀ p ∈ L, p.2 ≠ []) ∧ L.length ≤ 4000 ∧
  ∀ (ys : List (Addr × List Key)) p, ys.Perm L → ys.Pairwise (fun x y => leM x y = true) → H p = none → Q (.ref p) (upd H p (.lst (ys.map fun q => V.ref q.1)))
theorem each_vals {T : Value → Addr × List Key → Prop} : ∀ {L : List (Addr × List Key)} {us : List Value}, Vals (L.map fun p => V.ref p.1) us → (∀ p ∈ L, T (.ref p.1) p) → PySem.W.EachIs T us L
  | [], _, .nil, _ => .nil
  | p :: L, _, .cons r t, h => by
    cases r
    exact .cons (h p List.mem_cons_self) (each_vals t fun q hq => h q (.tail _ hq))
theorem cr_sortedL {X : Cx} (hu : X.A.units + 64 < cLine) : CallR X (.builtin "sorted") (rSortedLM X.K) := by
  intro pins s σ H vs us Q I r h
  obtain ⟨a, L, rfl, hs, tup, al, ne, few, q⟩ := h
  obtain ⟨its, rv, hl, _⟩ := I.list hs
  rw [Vals.ref1 r]
  have dep : ∀ p : Addr × List Key, (encM p).depth ≤ 1 := fun p => by
    unfold encM
    rw [PyData.depth, depth_keys] <;> omega
  refine PySem.W.sorted_data (vs := its) (bs := L) (enc := encM) (R := fun v (p : Addr × List Key) => v = .ref p.1) hl.isList (each_vals rv fun _ _ => rfl) (each_vals rv fun p hp => ⟨[], isM_reads (isM_of I (tup p hp))⟩) al
    (.inl fun d hd => ?_) (by rw [sizeLine_eq]; omega) (fun b _ => by have := dep b; omega) fun out ol eo => ?_
  · obtain ⟨p, hp, rfl⟩ := List.mem_map.mp hd
    cases z : p.2 with
    | nil => exact absurd z (ne p hp)
    | cons x k => exact ⟨keyD x, k.map keyD, by rw [encM, z, List.map_cons]⟩
  obtain ⟨ep, he⟩ := PyProof.Rows.sortedAll_at s.heap its out.toArray
  have py : (L.mergeSort (PySem.W.dataLe false encM)).Perm L := List.mergeSort_perm _ _
  have hlen : ((L.mergeSort (PySem.W.dataLe false encM)).map fun q => V.ref q.1).length ≤ sizeLine := by
    rw [List.length_map, py.length_eq, sizeLine_eq]
    omega
  have tot := PySem.W.sortLe_total (listOrd itemOrd) false fun b : Addr × List Key => PySem.W.keyToks (encM b)
  exact ⟨.ref _, upd H (s.heap.objs.size + 1) (.lst ((L.mergeSort (PySem.W.dataLe false encM)).map fun q => V.ref q.1)), I.laid (t' := s.toks) (fun _ _ => PyProof.Rows.sortedAll_old) (Nat.le_succ _) ⟨hlen, out, ep, vals_refs eo, he⟩, rfl,
    q _ _ py (List.pairwise_mergeSort tot.trans (fun x y => by rw [Bool.or_eq_true]; exact tot.total x y) L) (I.hok.fresh (Nat.le_succ _))⟩
end Vk
set_option Elab.async false
set_option linter.all false
set_option maxRecDepth 100000
set_option maxHeartbeats 4000000
namespace Vk
open PySem PySem.Spec PyProof.Rows L2
def top8 (i : Nat) : Stmt := PySem.Challenge.pw_loopsdeep_k07_machines_joined.main.body.getD i (.Pass ⟨0, 0, 0, 0⟩)
abbrev sNum : Stmt := top8 7
abbrev sLet : Stmt := top8 8
abbrev sState : Stmt := top8 12
abbrev sMove : Stmt := top8 13
/-- a statement that is never come to -/
theorem ps_never {X : Cx} {st : Stmt} : PS X st (fun _ _ _ => False) := ⟨fun _ _ _ _ _ _ h => h.elim⟩
/-! ## the data of machines -/
structure Mv where
  s : Nat
  c : Nat
  t : Nat
def sg (c : Nat) : Str := ⟨#[c]⟩
def mvV (m : Mv) : List V := [.int (m.s : Int), .str (sg m.c), .int (m.t : Int)]
def mvK (m : Mv) : List Key := [.inl (m.s : Int), .inr (sg m.c), .inl (m.t : Int)]
def OkMv (n : Nat) (m : Mv) : Prop := m.s < n ∧ m.t < n ∧ 97 ≤ m.c ∧ m.c ≤ 122
structure MvsAt (K : PySem.W.Frag) (H : Hp) (l : Addr) (ms : List (Addr × Mv)) : Prop where
  tp : SqT K H l (ms.map fun p => V.ref p.1)
  it : ∀ p ∈ ms, SqT K H p.1 (mvV p.2)
structure Txt8 (K : PySem.W.Frag) (mg : Str → Option Value) : Prop where
  isi : mg "isinstance" = none
  int : mg "int" = none
  bool : mg "bool" = none
  str : mg "str" = none
  tup : mg "tuple" = none
  len : mg "len" = none
  lst : mg "list" = none
  srt : mg "sorted" = none
  set : mg "set" = none
  rng : mg "range" = none
section
variable {P : Program} {w : World} {K : PySem.W.Frag} {mg : Str → Option Value} {base : Heap}
def spNum : Sp := fun vs H Q _ => ∃ i : Int, vs = [.int i] ∧ Q (.bl true) H
theorem scN : FnScope ["thing"] ["thing"] (defScope sNum) := ⟨rfl, rfl, rfl, by decide +kernel, rfl, by decide +kernel, by decide +kernel⟩
theorem ok_num {f : Addr} {fd : FuncData} (F : Fun K "is_number" "is_number" sNum f fd) (T : Txt8 K mg) : FnOk P w K mg base CX0 1 f fd ["thing"] spNum := by
  refine F.ok scN (fun vs H Q E h => ?_) (fun cdv A outer s H vs Q E hr h => ?_)
  · obtain ⟨i, rfl, _⟩ := h
    rfl
  · obtain ⟨i, rfl, k⟩ := h
    refine ⟨_, (pss_one (ps_ret (pe_and (pe_callB call_isi (by rfl) T.isi (by decide +kernel) (pa_cons (pv 0) (pa_cons (pe_bltn (v := .ty "int") (by rfl) T.int (by decide +kernel) rfl) pa_nil))) (pe_one (pe_not (pe_callB call_isi (by rfl) T.isi (by decide +kernel) (pa_cons (pv 0) (pa_cons (pe_bltn (v := .ty "bool") (by rfl) T.bool (by decide +kernel) rfl) pa_nil)))))))), ?_⟩
    refine ⟨_, rfl, _, _, _, _, true, rfl, .ty "int", .base (.int i), rfl, _, rfl, ?_⟩
    refine ⟨_, rfl, _, _, _, _, false, rfl, .ty "bool", .base (.int i), rfl, _, rfl, ?_⟩
    exact k
theorem no_lt {a b : Nat} (h : b ≤ a) : (!decide ([a] < [b])) = true := by
  simp [List.cons_lt_cons_iff]
  omega
def spLet : Sp := fun vs H Q _ => ∃ c : Nat, vs = [.str (sg c)] ∧ 97 ≤ c ∧ c ≤ 122 ∧ Q (.bl true) H
theorem scE : FnScope ["thing"] ["thing"] (defScope sLet) := ⟨rfl, rfl, rfl, by decide +kernel, rfl, by decide +kernel, by decide +kernel⟩
theorem ok_let {f : Addr} {fd : FuncData} (F : Fun K "is_letter" "is_letter" sLet f fd) (T : Txt8 K mg) : FnOk P w K mg base CX0 1 f fd ["thing"] spLet := by
  refine F.ok scE (fun vs H Q E h => ?_) (fun cdv A outer s H vs Q E hr h => ?_)
  · obtain ⟨c, rfl, _⟩ := h
    rfl
  · obtain ⟨c, rfl, h1, h2, k⟩ := h
    refine ⟨_, (pss_one (ps_ret (pe_and (pe_callB call_isi (by rfl) T.isi (by decide +kernel) (pa_cons (pv 0) (pa_cons (pe_bltn (v := .ty "str") (by rfl) T.str (by decide +kernel) rfl) pa_nil))) (pe_and (pe_cmpR op_eq (pe_callB call_len_str (by rfl) T.len PySem.boot_len (pa_cons (pv 0) pa_nil)) pe_int (nomark _)) (pe_one (pe_chain op_le_str op_le_str pe_str (pv 0) pe_str)))))), ?_⟩
    refine ⟨_, rfl, _, _, _, _, true, rfl, .ty "str", .base (.str _), rfl, _, rfl, ?_⟩
    refine iteT ?_
    refine ⟨_, rfl, _, rfl, (show 1 ≤ sizeLine by decide), rfl, _, rfl, ?_⟩
    refine iteT ?_
    refine ⟨_, rfl, _, _, rfl, rfl, _, rfl, ?_⟩
    refine ite2 (fun _ => ?_) (fun z => ?_)
    · refine ⟨_, _, rfl, rfl, ?_⟩
      show Q (.bl (!decide ([122] < [c])))  H
      rw [no_lt h2]
      exact k
    · exact absurd (no_lt h1) z
def spState : Sp := fun vs H Q _ => ∃ i n : Int, vs = [.int i, .int n] ∧ 0 ≤ i ∧ i < n ∧ Q (.bl true) H
theorem scS : FnScope ["thing", "size"] ["thing", "size"] (defScope sState) := ⟨rfl, rfl, rfl, by decide +kernel, rfl, by decide +kernel, by decide +kernel⟩
theorem ok_state {f fN : Addr} {fd fdN : FuncData} (F : Fun K "is_state" "is_state" sState f fd) (T : Txt8 K mg) (FN : Fun K "is_number" "is_number" sNum fN fdN) (gN : mg "is_number" = some (.ref fN)) (bN : Binds K fdN ["thing"] []) : FnOk P w K mg base CX0 2 f fd ["thing", "size"] spState := by
  have GN : FnOk P w K mg base CX0 1 fN fdN ["thing"] spNum := ok_num FN T
  refine F.ok scS (fun vs H Q E h => ?_) (fun cdv A outer s H vs Q E hr h => ?_)
  · obtain ⟨i, n, rfl, _⟩ := h
    rfl
  · obtain ⟨i, n, rfl, h1, h2, k⟩ := h
    refine ⟨_, (pss_one (ps_ret (pe_and (pe_call GN hr rfl gN FN.kp bN .nil pass0 (pa_cons (pv 0) pa_nil)) (pe_one (pe_chain op_le op_lt pe_int (pv 0) (pv 1)))))), ?_⟩
    refine ⟨_, rfl, i, rfl, _, rfl, ?_⟩
    refine iteT ?_
    refine ⟨_, rfl, _, _, rfl, rfl, _, rfl, ?_⟩
    rw [decide_eq_true h1]
    refine iteT ?_
    refine ⟨_, rfl, _, _, rfl, rfl, ?_⟩
    show Q (.bl (decide (i < n))) H
    rw [decide_eq_true h2]
    exact k
def spMove (K : PySem.W.Frag) : Sp := fun vs H Q _ => ∃ (a : Addr) (m : Mv) (n : Nat), vs = [.ref a, .int (n : Int)] ∧ SqT K H a (mvV m) ∧ OkMv n m ∧ Q (.bl true) H
theorem scM : FnScope ["thing", "size"] ["thing", "size"] (defScope sMove) := ⟨rfl, rfl, rfl, by decide +kernel, rfl, by decide +kernel, by decide +kernel⟩
theorem tyT {H : Hp} {a : Addr} {xs : List V} (h : SqT K H a xs) : TyX K H (.ref a) (.type "tuple") := by
  rcases h with (h | ⟨o, h⟩) | ⟨o, its, n, h, hc, _⟩
  · exact .base (.tup h)
  · exact .fTuple h
  · exact .kTuple h hc
theorem ok_move {f fN fS fE : Addr} {fd fdN fdS fdE : FuncData} (F : Fun K "is_move" "is_move" sMove f fd) (T : Txt8 K mg) (FN : Fun K "is_number" "is_number" sNum fN fdN) (gN : mg "is_number" = some (.ref fN)) (bN : Binds K fdN ["thing"] [])
    (FS : Fun K "is_state" "is_state" sState fS fdS) (gS : mg "is_state" = some (.ref fS)) (bS : Binds K fdS ["thing", "size"] []) (FE : Fun K "is_letter" "is_letter" sLet fE fdE) (gE : mg "is_letter" = some (.ref fE)) (bE : Binds K fdE ["thing"] []) :
    FnOk P w K mg base CX0 3 f fd ["thing", "size"] (spMove K) := by
  have GS : FnOk P w K mg base CX0 2 fS fdS ["thing", "size"] spState := ok_state FS T FN gN bN
  have GE : FnOk P w K mg base CX0 2 fE fdE ["thing"] spLet := (ok_let FE T).mono (by decide)
  refine F.ok scM (fun vs H Q E h => ?_) (fun cdv A outer s H vs Q E hr h => ?_)
  · obtain ⟨a, m, n, rfl, _⟩ := h
    rfl
  · obtain ⟨a, m, n, rfl, hS, ⟨h1, h2, h3, h4⟩, k⟩ := h
    refine ⟨_, (pss_cons (ps_if (PW.pt (pw_or (pt_not (pt_val (pe_callB call_isi (by rfl) T.isi (by decide +kernel) (pa_cons (pv 0) (pa_cons (pe_bltn (v := .ty "tuple") (by rfl) T.tup (by decide +kernel) rfl) pa_nil))))) (pw_or1 (pt_cmpR op_ne (pe_callB call_len (by rfl) T.len PySem.boot_len (pa_cons (pv 0) pa_nil)) pe_int (nomark _))))) (pss_one (ps_ret pe_bl)) pss_nil)
        (pss_one (ps_ret (pe_and (pe_call GS hr rfl gS FS.kp bS .nil pass0 (pa_cons (pe_ix ix_tup (pv 0) pe_int (fun _ _ => rfl)) (pa_cons (pv 1) pa_nil))) (pe_and (pe_call GE hr rfl gE FE.kp bE .nil pass0 (pa_cons (pe_ix ix_tup (pv 0) pe_int (fun _ _ => rfl)) pa_nil)) (pe_one (pe_call GS hr rfl gS FS.kp bS .nil pass0 (pa_cons (pe_ix ix_tup (pv 0) pe_int (fun _ _ => rfl)) (pa_cons (pv 1) pa_nil))))))))), ?_⟩
    refine ⟨_, rfl, _, _, _, _, true, rfl, .ty "tuple", tyT hS, rfl, _, rfl, ?_⟩
    refine iteF ?_
    refine ⟨_, rfl, _, 3, rfl, .inr ⟨_, hS, rfl⟩, rfl, _, rfl, ?_⟩
    refine iteF ?_
    refine ⟨_, rfl, a, _, _, _, rfl, rfl, hS, rfl, _, rfl, _, _, rfl, Int.natCast_nonneg _, Int.ofNat_lt.mpr h1, _, rfl, ?_⟩
    refine iteT ?_
    refine ⟨_, rfl, a, _, _, _, rfl, rfl, hS, rfl, _, rfl, h3, h4, _, rfl, ?_⟩
    refine iteT ?_
    exact ⟨_, rfl, a, _, _, _, rfl, rfl, hS, rfl, _, rfl, _, _, rfl, Int.natCast_nonneg _, Int.ofNat_lt.mpr h2, k⟩
end
end Vk
set_option Elab.async false
set_option linter.all false
set_option maxRecDepth 100000
set_option maxHeartbeats 4000000
namespace Vk
open PySem PySem.Spec PyProof.Rows L2 Vt
abbrev sMoves : Stmt := top8 14
abbrev sEnds : Stmt := top8 15
/-- a sorted arrangement is the one that rises -/
theorem rising_one {α : Type} {le : α → α → Bool} : ∀ {ks ys : List α}, ys.Perm ks → ys.Pairwise (fun x y => le x y = true) → ks.Pairwise (fun x y => le y x = false) → ys = ks
  | [], ys, p, _, _ => List.Perm.eq_nil p
  | k :: ks, [], p, _, _ => absurd p.length_eq (by simp)
  | k :: ks, y :: ys, p, s, r => by
    obtain ⟨s1, s2⟩ := List.pairwise_cons.mp s
    obtain ⟨r1, r2⟩ := List.pairwise_cons.mp r
    have e : y = k := by
      rcases List.mem_cons.mp (p.mem_iff.mp List.mem_cons_self) with e | hy
      · exact e
      · rcases List.mem_cons.mp (p.mem_iff.mpr List.mem_cons_self) with e | hk
        · exact e.symm
        · have a := s1 k hk
          rw [r1 y hy] at a
          cases a
    subst e
    rw [rising_one ((List.perm_cons y).mp p) s2 r2]
theorem same_up {H : Hp} {p : Addr} {o : HO} (hp : H p = none) : Same H (upd H p o) := fun b u e => by
  rw [upd_ne (ne_of_none e hp)]
  exact e
def kp (p : Addr × Mv) : Addr × List Key := (p.1, mvK p.2)
/-- moves in ascending order, each once -/
def Asc (ms : List (Addr × Mv)) : Prop := (ms.map kp).Pairwise fun x y => leM y x = false
def mvD (m : Mv) : PyData := .tuple [.int (m.s : Int), .str (sg m.c), .int (m.t : Int)]
theorem perm_of_subs {L ks : List (Addr × List Key)} (h1 : ∀ p ∈ L, p ∈ ks) (h2 : ∀ p ∈ ks, p.2 ∈ L.map (·.2)) (nL : (L.map (·.2)).Nodup) (nk : (ks.map (·.2)).Nodup) : L.Perm ks := by
  have inj : ∀ {l : List (Addr × List Key)}, (l.map (·.2)).Nodup → ∀ {p q}, p ∈ l → q ∈ l → p.2 = q.2 → p = q := by
    intro l
    induction l with
    | nil => exact fun _ _ _ h => nomatch h
    | cons a l ih =>
      intro n p q hp hq e
      obtain ⟨n1, n2⟩ := List.nodup_cons.mp n
      rcases List.mem_cons.mp hp with z | z
      · rcases List.mem_cons.mp hq with y | y
        · exact z.trans y.symm
        · exact absurd (List.mem_map.mpr ⟨q, y, by rw [← e, z]⟩) n1
      · rcases List.mem_cons.mp hq with y | y
        · exact absurd (List.mem_map.mpr ⟨p, z, by rw [e, y]⟩) n1
        · exact ih n2 z y e
  have nd : ∀ {l : List (Addr × List Key)}, (l.map (·.2)).Nodup → l.Nodup := fun h => List.Pairwise.of_map _ (fun _ _ ne e => ne (congrArg _ e)) h
  exact (List.perm_ext_iff_of_nodup (nd nL) (nd nk)).mpr fun p => ⟨h1 p, fun hp => by
    obtain ⟨q, hq, e⟩ := List.mem_map.mp (h2 p hp)
    rw [← inj nk (h1 q hq) hp e]
    exact hq⟩
theorem leM_key {x y : Addr × List Key} (e : x.2 = y.2) : leM x y = true := by
  have tot := PySem.W.sortLe_total (listOrd itemOrd) false fun b : Addr × List Key => PySem.W.keyToks (encM b)
  have h : leM x x = true := (tot.total x x).elim id id
  have e2 : encM y = encM x := by unfold encM; rw [e]
  rw [← h]
  show (!PySem.W.dataLt (encM y) (encM x)) = (!PySem.W.dataLt (encM x) (encM x))
  rw [e2]
theorem asc_keys {ms : List (Addr × Mv)} (h : Asc ms) : ((ms.map kp).map (·.2)).Nodup := by
  unfold List.Nodup
  rw [List.pairwise_map]
  refine List.Pairwise.imp (fun {x y} z e => ?_) h
  rw [leM_key e.symm] at z
  cases z
theorem dp_mvs {K : PySem.W.Frag} {H : Hp} : ∀ {ms : List (Addr × Mv)}, (∀ p ∈ ms, SqT K H p.1 (mvV p.2)) → DpAll K H (ms.map fun p => V.ref p.1) (ms.map fun p => mvD p.2)
  | [], _ => .nil
  | p :: ms, h => .cons (.tup (h p List.mem_cons_self) (.cons (.int _) (.cons (.str _) (.cons (.int _) .nil)))) (dp_mvs fun q hq => h q (.tail _ hq))
theorem lay_mvs : ∀ ms : List (Addr × Mv), (∀ p ∈ ms, p.2.c ≤ 122) → PyData.canLayAll0 (ms.map fun p => mvD p.2) = true ∧ PyData.depthAll (ms.map fun p => mvD p.2) ≤ 1
  | [], _ => ⟨rfl, by simp [PyData.depthAll]⟩
  | p :: ms, hc => by
    obtain ⟨h1, h2⟩ := lay_mvs ms fun q hq => hc q (.tail _ hq)
    have so : PyData.strOk (sg p.2.c) = true := by
      have := hc p List.mem_cons_self
      simp [PyData.strOk, sg, Str.length]
      try omega
    have e1 : (mvD p.2).canLay0 = true := by simp [mvD, PyData.canLay0, PyData.canLayAll0, so]
    have e2 : (mvD p.2).depth ≤ 1 := by simp [mvD, PyData.depth, PyData.depthAll]
    rw [List.map_cons]
    refine ⟨by rw [PyData.canLayAll0, e1, h1] <;> rfl, ?_⟩
    rw [PyData.depthAll]
    exact Nat.max_le.mpr ⟨e2, h2⟩
theorem shaped_mvs (ms : List (Addr × Mv)) (hc : ∀ p ∈ ms, p.2.c ≤ 122) : SeqAt.shaped (.list (ms.map fun p => mvD p.2)) = true := by
  obtain ⟨h1, h2⟩ := lay_mvs ms hc
  unfold SeqAt.shaped
  rw [Bool.and_eq_true, decide_eq_true_eq]
  refine ⟨by rw [PyData.canLay0]; exact h1, ?_⟩
  rw [PyData.depth]
  omega
section
variable {P : Program} {w : World} {K : PySem.W.Frag} {mg : Str → Option Value} {base : Heap}
def spMoves (K : PySem.W.Frag) : Sp := fun vs H Q _ => ∃ (n : Nat) (l : Addr) (ms : List (Addr × Mv)), vs = [.int (n : Int), .ref l] ∧ MvsAt K H l ms ∧ (∀ p ∈ ms, OkMv n p.2) ∧ Asc ms ∧ ms.length ≤ 4000 ∧ ∀ H', Same H H' → Q .non H'
theorem scC : FnScope ["size", "moves", "move"] ["size", "moves"] (defScope sMoves) := ⟨rfl, rfl, rfl, by decide +kernel, rfl, by decide +kernel, by decide +kernel⟩
theorem ok_moves {f fM fN fS fE : Addr} {fd fdM fdN fdS fdE : FuncData} (F : Fun K "check_moves" "check_moves" sMoves f fd) (T : Txt8 K mg) (FM : Fun K "is_move" "is_move" sMove fM fdM) (gM : mg "is_move" = some (.ref fM)) (bM : Binds K fdM ["thing", "size"] [])
    (GM : FnOk P w K mg base CX0 3 fM fdM ["thing", "size"] (spMove K)) : FnOk P w K mg base CX0 4 f fd ["size", "moves"] (spMoves K) := by
  refine F.ok scC (fun vs H Q E h => ?_) (fun cdv A outer s H vs Q E hr h => ?_)
  · obtain ⟨n, l, ms, rfl, _⟩ := h
    rfl
  · obtain ⟨n, l, ms, rfl, hM, ok, asc, few, k⟩ := h
    have oc : ∀ p ∈ ms, p.2.c ≤ 122 := fun p hp => (ok p hp).2.2.2
    refine ⟨_, (pss_cons (ps_if (pt_not (pt_val (pe_callB call_isi (by rfl) T.isi (by decide +kernel) (pa_cons (pv 1) (pa_cons (pe_bltn (v := .ty "tuple") (by rfl) T.tup (by decide +kernel) rfl) pa_nil))))) (pss_one ps_never) pss_nil)
        (pss_cons (ps_for PassesOwn.never rfl (pi_tup (pv 1)) (pg_name (i := 2) scC.nd rfl (.inl rfl)) (pss_one (ps_if (pt_not (pt_val (pe_call GM hr rfl gM FM.kp bM .nil pass0 (pa_cons (pv 2) (pa_cons (pv 0) pa_nil))))) (pss_one ps_never) pss_nil)))
        (pss_one (ps_if (pt_cmpR (op_neD hr.units) (pe_callTy call_list_of (by rfl) T.lst (by decide +kernel) (pa_cons (pv 1) pa_nil)) (pe_callB (cr_sortedM (by rfl) hr.units) (by rfl) T.srt (by decide +kernel) (pa_cons (pe_callTy (cr_setM (by rfl) hr.units) (by rfl) T.set (by decide +kernel) (pa_cons (pv 1) pa_nil)) pa_nil)) (nomark _)) (pss_one ps_never) pss_nil)))), ?_⟩
    refine ⟨_, rfl, _, _, _, _, true, rfl, .ty "tuple", tyT hM.tp, rfl, _, rfl, ?_⟩
    refine iteF ?_
    refine ⟨_, rfl, l, rfl, ⟨_, hM.tp⟩, ?_⟩
    refine for_tup (K := K) (a := l) (xs := ms.map fun p => V.ref p.1) (fun i σ H' => ∃ v : Option V, σ = [some (.int (n : Int)), some (.ref l), v] ∧ H' = H) ⟨none, rfl, rfl⟩ (fun i σ H' _ ⟨_, _, e⟩ => by rw [e]; exact hM.tp) ?_ ?_
    · rintro i y σ H' hi ⟨v, rfl, rfl⟩
      rw [List.getElem?_map] at hi
      obtain ⟨p, hp, rfl⟩ := Option.map_eq_some_iff.mp hi
      have pm := List.mem_of_getElem? hp
      refine ⟨_, rfl, _, rfl, p.1, p.2, n, rfl, hM.it p pm, ok p pm, _, rfl, ?_⟩
      refine iteF ?_
      exact ⟨_, rfl, rfl⟩
    · rintro σ H' ⟨v, rfl, rfl⟩
      have kd : (ms.map kp).map (fun p => V.ref p.1) = ms.map fun p => V.ref p.1 := by rw [List.map_map] <;> rfl
      refine ⟨_, rfl, l, _, rfl, .inr hM.tp, fun l1 n1 => ?_⟩
      have s1 := same_up (o := .lst (ms.map fun p => V.ref p.1)) n1
      refine ⟨_, rfl, l, ms.map kp, rfl, .inl (by rw [kd]; exact same_seqT s1 hM.tp), fun p hp => ?_, by rw [List.length_map]; exact few, fun a L na h1 h2 h3 h4 => ?_⟩
      · obtain ⟨q, hq, rfl⟩ := List.mem_map.mp hp
        exact same_seqT s1 (hM.it q hq)
      have s2 := s1.trans (same_up (o := SetMO P w a L) na)
      have gk : ∀ {H2 : Hp}, Same H' H2 → ∀ p ∈ ms.map kp, SqT K H2 p.1 (p.2.map kV) := fun S p hp => by
        obtain ⟨q, hq, rfl⟩ := List.mem_map.mp hp
        exact same_seqT S (hM.it q hq)
      refine ⟨a, L, rfl, upd_same, fun p hp => gk s2 p (h1 p hp), fun d hd d' hd' => ?_, fun p hp => ?_, fun ys b py srt nb => ?_⟩
      · obtain ⟨p, hp, rfl⟩ := List.mem_map.mp hd
        obtain ⟨p', hp', rfl⟩ := List.mem_map.mp hd'
        obtain ⟨q, _, rfl⟩ := List.mem_map.mp (h1 p hp)
        obtain ⟨q', _, rfl⟩ := List.mem_map.mp (h1 p' hp')
        simp [encM, kp, mvK, keyD, PySem.W.alike, PySem.W.alikeAll]
      · obtain ⟨q, _, rfl⟩ := List.mem_map.mp (h1 p hp)
        exact fun z => by cases z
      · have pL : L.Perm (ms.map kp) := perm_of_subs h1 h2 h3 (asc_keys asc)
        obtain rfl : ys = ms.map kp := rising_one (py.trans pL) srt asc
        rw [kd]
        have s3 := s2.trans (same_up (o := .lst (ms.map fun p => V.ref p.1)) nb)
        have e1 : upd (upd (upd H' l1 (.lst (ms.map fun p => V.ref p.1))) a (SetMO P w a L)) b (.lst (ms.map fun p => V.ref p.1)) l1 = some (.lst (ms.map fun p => V.ref p.1)) := by
          rw [upd_ne (ne_of_none (by rw [upd_ne (ne_of_none upd_same na)]; exact upd_same) nb), upd_ne (ne_of_none upd_same na)]
          exact upd_same
        have dp : DpAll K (upd (upd (upd H' l1 (.lst (ms.map fun p => V.ref p.1))) a (SetMO P w a L)) b (.lst (ms.map fun p => V.ref p.1))) (ms.map fun p => V.ref p.1) (ms.map fun p => mvD p.2) := dp_mvs fun p hp => same_seqT s3 (hM.it p hp)
        refine ⟨.list (ms.map fun (p : Addr × Mv) => mvD p.2), .list (ms.map fun (p : Addr × Mv) => mvD p.2), Dp.lst (K := K) (SqL.of e1) dp, Dp.lst (K := K) (SqL.of upd_same) dp, shaped_mvs ms oc, shaped_mvs ms oc, _, rfl, ?_⟩
        rw [PySem.SeqAt.eqv_refl _ (SeqAt.canLay_of_shaped (shaped_mvs ms oc))]
        refine iteF ?_
        exact k _ s3
end
end Vk
set_option Elab.async false
set_option linter.all false
set_option maxRecDepth 100000
set_option maxHeartbeats 4000000
namespace Vk
open PySem PySem.Spec PyProof.Rows L2 Vt
def eK (e : Int) (m : Mv) : List Key := [.inr (sg m.c), .inl (if e = 0 then (m.s : Int) else (m.t : Int))]
section
variable {P : Program} {w : World} {K : PySem.W.Frag} {mg : Str → Option Value} {base : Heap}
def spEnds (K : PySem.W.Frag) : Sp := fun vs H Q _ => ∃ (e : Int) (l : Addr) (ms : List (Addr × Mv)), vs = [.ref l, .int e] ∧ (e = 0 ∨ e = 2) ∧ MvsAt K H l ms ∧ (ms.map fun p => eK e p.2).Nodup ∧ ms.length ≤ 3999 ∧ ∀ H', Same H H' → Q .non H'
theorem scX : FnScope ["moves", "end", "seen", "move"] ["moves", "end"] (defScope sEnds) := ⟨rfl, rfl, rfl, by decide +kernel, rfl, by decide +kernel, by decide +kernel⟩
theorem ok_ends {f : Addr} {fd : FuncData} (F : Fun K "check_ends" "check_ends" sEnds f fd) (T : Txt8 K mg) : FnOk P w K mg base CX0 1 f fd ["moves", "end"] (spEnds K) := by
  refine F.ok scX (fun vs H Q E h => ?_) (fun cdv A outer s H vs Q E hr h => ?_)
  · obtain ⟨e, l, ms, rfl, _⟩ := h
    rfl
  · obtain ⟨e, l, ms, rfl, he, hM, nd, few, k⟩ := h
    refine ⟨_, (pss_cons (ps_set (i := 2) scX.nd rfl (.inl rfl) (pe_callTy0 cr_set0M (by rfl) T.set (by decide +kernel)))
        (pss_one (ps_for PassesOwn.never rfl (pi_tup (pv 0)) (pg_name (i := 3) scX.nd rfl (.inl rfl)) (pss_cons (ps_if (pt_cmpR (op_inM hr.units) (pe_tup (pa_cons (pe_ix ix_tup (pv 3) pe_int (fun _ _ => rfl)) (pa_cons (pe_ix ix_tup (pv 3) (pv 1) (fun _ _ => rfl)) pa_nil))) (pv 2) (by rfl)) (pss_one ps_never) pss_nil)
        (pss_one (ps_expr (pe_addM hr.units (pv 2) (pa_cons (pe_tup (pa_cons (pe_ix ix_tup (pv 3) pe_int (fun _ _ => rfl)) (pa_cons (pe_ix ix_tup (pv 3) (pv 1) (fun _ _ => rfl)) pa_nil))) pa_nil)))))))), ?_⟩
    refine ⟨rfl, fun S nS => ?_⟩
    have s0 := same_up (o := SetMO P w S []) nS
    refine ⟨_, rfl, l, rfl, ⟨_, same_seqT s0 hM.tp⟩, ?_⟩
    refine for_tup (K := K) (a := l) (xs := ms.map fun p => V.ref p.1) (fun i σ H' => ∃ (v : Option V) (L : List (Addr × List Key)), σ = [some (.ref l), some (.int e), some (.ref S), v] ∧ Same H H' ∧ H' S = some (SetMO P w S L) ∧ (∀ p ∈ L, H' p.1 = some (.tup (p.2.map kV))) ∧
      (∀ x ∈ L, x.2 ∈ (ms.take i).map fun p => eK e p.2) ∧ L.length ≤ i) ⟨none, [], rfl, s0, upd_same, (fun p hp => by cases hp), (fun p hp => by cases hp), Nat.le_refl _⟩ (fun i σ H' _ ⟨_, _, _, S', _⟩ => same_seqT S' hM.tp) ?_ ?_
    · rintro i y σ H' hi ⟨v, L, rfl, S', hL, tup, sub, len⟩
      rw [List.getElem?_map] at hi
      obtain ⟨p, hp, rfl⟩ := Option.map_eq_some_iff.mp hi
      have pm := List.mem_of_getElem? hp
      have il : i < ms.length := (List.getElem?_eq_some_iff.mp hp).1
      have hit := same_seqT S' (hM.it p pm)
      have hat : atI (mvV p.2) e = some (.int (if e = 0 then (p.2.s : Int) else (p.2.t : Int))) := by
        rcases he with rfl | rfl <;> rfl
      have out : eK e p.2 ∉ L.map (·.2) := fun z => by
        obtain ⟨x, hx, ex⟩ := List.mem_map.mp z
        have y := sub x hx
        rw [show x.2 = eK e p.2 from ex] at y
        have n2 := nd
        rw [← List.take_append_drop i (ms.map fun p => eK e p.2)] at n2
        rw [← List.map_take] at n2
        refine (List.nodup_append.mp n2).2.2 _ y _ ?_ rfl
        rw [List.drop_eq_getElem_cons (by rw [List.length_map]; exact il)]
        rw [List.getElem_map]
        have e3 : ms[i] = p := by
          rw [List.getElem?_eq_getElem il] at hp
          exact Option.some.inj hp
        rw [e3]
        exact List.mem_cons_self
      refine ⟨_, rfl, p.1, _, _, _, rfl, rfl, hit, rfl, _, rfl, _, rfl, p.1, _, _, _, rfl, rfl, hit, hat, (by show 2 ≤ sizeLine; decide), fun q nq => ?_⟩
      obtain ⟨H1, e1⟩ : ∃ H1, H1 = upd H' q (.tup ((eK e p.2).map kV)) := ⟨_, rfl⟩
      have s1 : Same H' H1 := by rw [e1]; exact same_up nq
      have hS1 : H1 S = some (SetMO P w S L) := s1 _ _ hL
      have tup1 : ∀ x ∈ L, H1 x.1 = some (.tup (x.2.map kV)) := fun x hx => s1 _ _ (tup x hx)
      have hit1 := same_seqT s1 hit
      have hq1 : H1 q = some (.tup ((eK e p.2).map kV)) := by rw [e1]; exact upd_same
      have S1 := S'.trans s1
      have go : ∀ H1 : Hp, Same H H1 → H1 S = some (SetMO P w S L) → (∀ x ∈ L, H1 x.1 = some (.tup (x.2.map kV))) → SqT K H1 p.1 (mvV p.2) →
          ∀ q2, H1 q2 = none → ∀ L', (eK e p.2 ∈ L.map (·.2) → L' = L) → (eK e p.2 ∉ L.map (·.2) → L'.Perm ((q2, eK e p.2) :: L)) →
          ∃ (v : Option V) (L3 : List (Addr × List Key)), ([some (V.ref l), some (V.int e), some (V.ref S), some (V.ref p.1)] : List (Option V)) = [some (.ref l), some (.int e), some (.ref S), v] ∧ Same H (upd (upd H1 q2 (.tup ((eK e p.2).map kV))) S (SetMO P w S L')) ∧ (upd (upd H1 q2 (.tup ((eK e p.2).map kV))) S (SetMO P w S L')) S = some (SetMO P w S L3) ∧
            (∀ p_1 ∈ L3, (upd (upd H1 q2 (.tup ((eK e p.2).map kV))) S (SetMO P w S L')) p_1.1 = some (.tup (p_1.2.map kV))) ∧ (∀ x ∈ L3, x.2 ∈ (ms.take (i + 1)).map fun p => eK e p.2) ∧ L3.length ≤ i + 1 := by
        intro H1 S1 hS1 tup1 hit1 q2 nq2 L' _ c2
        have pm2 := c2 out
        have nSq : q2 ≠ S := (ne_of_none hS1 nq2).symm
        refine ⟨_, L', rfl, fun b o z => ?_, upd_same, fun x hx => ?_, fun x hx => ?_, ?_⟩
        · rw [upd_ne (ne_of_none z nS), upd_ne (ne_of_none (S1 _ _ z) nq2)]
          exact S1 _ _ z
        · rcases List.mem_cons.mp (pm2.mem_iff.mp hx) with z | z
          · rw [z]
            show upd (upd H1 q2 _) S _ q2 = _
            rw [upd_ne nSq]
            exact upd_same
          · have t := tup1 x z
            rw [upd_ne (ne_of t hS1 (fun y => by cases y)), upd_ne (ne_of_none t nq2)]
            exact t
        · rw [List.take_add_one, hp]
          rcases List.mem_cons.mp (pm2.mem_iff.mp hx) with z | z
          · rw [z]
            simp
          · have := sub x z
            simp only [List.map_append, List.mem_append]
            exact .inl this
        · rw [pm2.length_eq, List.length_cons]
          omega
      refine ⟨_, rfl, S, q, eK e p.2, L, rfl, rfl, ?_, ?_, ?_, fun b hb => ?_⟩
      · rw [e1] at hS1
        exact hS1
      · rw [e1] at tup1
        exact fun x hx => SqT.of (tup1 x hx)
      · exact SqT.of upd_same
      refine ⟨_, rfl, ?_⟩
      cases b with
      | true => exact absurd (hb.mp rfl) out
      | false =>
        refine iteF ?_
        rw [e1] at hS1 tup1 hit1 S1
        refine ⟨_, rfl, ⟨S, L, rfl, hS1⟩, _, rfl, p.1, _, _, _, rfl, rfl, hit1, rfl, _, rfl, _, rfl, p.1, _, _, _, rfl, rfl, hit1, hat, (by show 2 ≤ sizeLine; decide), fun q2 nq2 => ?_⟩
        have s2 := same_up (o := .tup ((eK e p.2).map kV)) nq2
        refine ⟨S, q2, eK e p.2, L, rfl, rfl, s2 _ _ hS1, fun x hx => SqT.of (s2 _ _ (tup1 x hx)), SqT.of upd_same, by omega, fun L' c1 c2 => ?_⟩
        exact go _ S1 hS1 tup1 hit1 q2 nq2 L' c1 c2
    · rintro σ H' ⟨v, L, rfl, S', _⟩
      exact k H' S'
end
end Vk
set_option Elab.async false
set_option linter.all false
set_option maxRecDepth 100000
set_option maxHeartbeats 4000000
namespace Vk
open PySem PySem.Spec PyProof.Rows L2 Vt
abbrev sReached : Stmt := top8 17
/-- the list at A of lists of ints -/
structure Rows (H : Hp) (A : Addr) (rs : List Addr) (f : Nat → List Nat) : Prop where
  top : H A = some (.lst (rs.map V.ref))
  nd : rs.Nodup
  row : ∀ i r, rs[i]? = some r → H r = some (.lst ((f i).map fun (x : Nat) => V.int (x : Int)))
  ne : A ∉ rs
def okD (fnd : List Nat) : List (Key × V) := fnd.map fun (i : Nat) => (.inl (i : Int), .bl true)
theorem go_name {i : Nat} {v : V} {σ : L2.St} {H : Hp} {Q : L2.St → Hp → Prop} (h : Q (σ.set i (some v)) H) : gName i v σ H Q := h
theorem go_seq {σ : L2.St} {H : Hp} {t u : TS} {D : Ends} (h : t { D with nx := u D } σ H) : tSeq t u D σ H := h
section
variable {P : Program} {w : World} {K : PySem.W.Frag} {mg : Str → Option Value} {base : Heap}
/-- pairs of states at sp; the answer: a dict of states, the first one among them, closed under the pairs -/
def spReached (K : PySem.W.Frag) : Sp := fun vs H Q _ => ∃ (n st : Nat) (sp : Addr) (ps : List (Addr × Nat × Nat)), vs = [.int (n : Int), .int (st : Int), .ref sp] ∧ SqL K H sp (ps.map fun p => V.ref p.1) ∧ (∀ p ∈ ps, SqT K H p.1 [.int (p.2.1 : Int), .int (p.2.2 : Int)]) ∧
  (∀ p ∈ ps, p.2.1 < n ∧ p.2.2 < n) ∧ st < n ∧ n ≤ 4000 ∧ ps.length ≤ 4000 ∧
  ∀ (d : Addr) (fnd : List Nat) (H' : Hp), Same H H' → H d = none → H' d = some (.dK (okD fnd)) → st ∈ fnd → (∀ p ∈ ps, p.2.1 ∈ fnd → p.2.2 ∈ fnd) → Q (.ref d) H'
theorem scR : FnScope ["size", "start", "steps", "ahead", "_", "source", "target", "found", "waiting", "state"] ["size", "start", "steps"] (defScope sReached) := ⟨rfl, rfl, rfl, by decide +kernel, rfl, by decide +kernel, by decide +kernel⟩
theorem ok_reached {f : Addr} {fd : FuncData} (F : Fun K "reached" "reached" sReached f fd) (T : Txt8 K mg) : FnOk P w K mg base CX0 1 f fd ["size", "start", "steps"] (spReached K) := by
  refine F.ok scR (fun vs H Q E h => ?_) (fun cdv A outer s H vs Q E hr h => ?_)
  · obtain ⟨n, st, sp, ps, rfl, _⟩ := h
    rfl
  · obtain ⟨n, st, sp, ps, rfl, hS, tup, lt, st0, nB, pB, k⟩ := h
    have hu := hu_of hr
    refine ⟨_, (pss_cons (ps_setLc (i := 3) (own := [("_", 4)]) (g := gName 4) (by rfl) scR.nd rfl rfl (sw_true rfl rfl rfl (by decide +kernel)) (pi_range1 (by rfl) T.rng (pa_cons (pv 0) pa_nil)) (blkOk_by (own := [("_", 4)]) (N := ["size", "start", "steps", "ahead", "_", "source", "target", "found", "waiting", "state"]) (sc := defScope sReached) (by decide +kernel)) (fun _ _ _ _ _ => (pg_name (i := 4) scR.nd rfl (.inl rfl))) (fun _ _ _ _ _ => pts_nil) (fun _ _ _ _ _ => (pe_lst pa_nil)))
        (pss_cons (ps_for PassesOwn.never rfl (pi_list (pv 2)) (pg_tup rfl (pgs_cons (pg_name (i := 5) scR.nd rfl (.inl rfl)) (pgs_cons (pg_name (i := 6) scR.nd rfl (.inl rfl)) pgs_nil))) (pss_one (ps_expr (pe_bm PySem.F.plainAttrs_list PySem.F.slot_list_append PySem.F.type_list_append mt_append (pe_ix ix_list (pv 3) (pv 5) (fun _ _ => rfl)) (pa_cons (pv 6) pa_nil)))))
        (pss_cons (ps_set (i := 7) scR.nd rfl (.inl rfl) (pe_disp (pps_cons (pv 1) pe_bl pps_nil) (by rfl) (by rfl) (fun z => by cases z) (by decide)))
        (pss_cons (ps_set (i := 8) scR.nd rfl (.inl rfl) (pe_lst (pa_cons (pv 1) pa_nil)))
        (pss_cons (ps_while PassesOwn.never (pt_truth (pv 8) (by intro _; rfl)) (pss_cons (ps_set (i := 9) scR.nd rfl (.inl rfl) (pe_bm0 PySem.F.plainAttrs_list PySem.F.slot_list_pop PySem.F.type_list_pop mt_pop (pv 8)))
        (pss_one (ps_for PassesOwn.never rfl (pi_list (pe_ix ix_list (pv 3) (pv 9) (fun _ _ => rfl))) (pg_name (i := 6) scR.nd rfl (.inl rfl)) (pss_one (ps_if (pt_cmp (pc_dnotin hu (pv 6) (pv 7))) (pss_cons (ps_dput hu (pv 7) (pv 6) pe_bl rfl)
        (pss_one (ps_expr (pe_bm PySem.F.plainAttrs_list PySem.F.slot_list_append PySem.F.type_list_append mt_append (pv 8) (pa_cons (pv 6) pa_nil))))) pss_nil))))))
        (pss_one (ps_ret (pv 7)))))))), ?_⟩
    refine ⟨_, rfl, (n : Int), rfl, by omega, by omega, fun A nA => ?_⟩
    rw [Int.toNat_natCast]
    refine lc_range (lo := 0) (n := n) (fun i H' => ∃ rs : List Addr, rs.length = i ∧ Same H H' ∧ H' A = some (.lst (rs.map V.ref)) ∧ rs.Nodup ∧ A ∉ rs ∧ ∀ r ∈ rs, H' r = some (.lst []) ∧ H r = none) ⟨[], rfl, same_up nA, upd_same, List.nodup_nil, (fun z => by cases z), (fun r z => by cases z)⟩ ?_ ?_
    · rintro i H' hi ⟨rs, e, S', hA, nd, ne, row⟩
      refine ⟨rfl, ?_⟩
      refine ⟨Nat.zero_le _, fun r nr => ?_⟩
      have nAr : A ≠ r := ne_of_none hA nr
      have nr0 : H r = none := S'.free nr
      refine ⟨rs.map V.ref, by rw [upd_ne nAr]; exact hA, by rw [List.length_map, e, sizeLine_eq]; omega, rs ++ [r], by rw [List.length_append, e] <;> rfl, fun b o z => ?_, by rw [upd_same, List.map_append] <;> rfl, ?_, ?_, fun q hq => ?_⟩
      · rw [upd_ne (ne_of_none z nA), upd_ne (ne_of_none z nr0)]
        exact S' _ _ z
      · refine List.nodup_append.mpr ⟨nd, List.nodup_cons.mpr ⟨(fun z => by cases z), List.nodup_nil⟩, fun a ha b hb => ?_⟩
        rw [List.mem_singleton.mp hb]
        exact ne_of_none (row a ha).1 nr
      · exact fun z => (List.mem_append.mp z).elim ne fun y => nAr (List.mem_singleton.mp y)
      · rcases List.mem_append.mp hq with z | z
        · have y := (row q z).1
          refine ⟨?_, (row q z).2⟩
          rw [upd_ne (fun (x : q = A) => ne (by rw [← x]; exact z)), upd_ne (ne_of_none y nr)]
          exact y
        · rw [List.mem_singleton.mp z]
          exact ⟨by rw [upd_ne nAr.symm]; exact upd_same, nr0⟩
    · rintro H1 ⟨rs, ers, S1, hA, nd, ne, row⟩
      have h0 : Rows H1 A rs fun _ => [] := ⟨hA, nd, fun i r z => (row r (List.mem_of_getElem? z)).1, ne⟩
      have old : ∀ r ∈ rs, H r = none := fun r z => (row r z).2
      clear row hA
      refine ⟨_, rfl, sp, rfl, ⟨_, S1.seq hS⟩, ?_⟩
      -- for source, target in steps
      refine for_list (K := K) (a := sp) (xs := ps.map fun p => V.ref p.1) (fun i σ H' => ∃ (v1 v2 : Option V) (f : Nat → List Nat), σ = [some (.int (n : Int)), some (.int (st : Int)), some (.ref sp), some (.ref A), none, v1, v2, none, none, none] ∧ Same H H' ∧ Rows H' A rs f ∧
        (∀ j x, x ∈ f j ↔ ∃ p ∈ ps.take i, p.2 = (j, x)) ∧ ∀ j, (f j).length ≤ i) ⟨none, none, fun _ => [], rfl, S1, h0, (fun j x => by simp), fun j => Nat.zero_le _⟩ (fun i σ H' _ ⟨_, _, _, _, S', _⟩ => S'.seq hS) ?_ ?_
      · rintro i y σ H' hi ⟨v1, v2, f, rfl, S', R, mem, len⟩
        rw [List.getElem?_map] at hi
        obtain ⟨p, hp, rfl⟩ := Option.map_eq_some_iff.mp hi
        have pm := List.mem_of_getElem? hp
        obtain ⟨q, a, b⟩ := p
        have hit := same_seqT S' (tup _ pm)
        have la : a < n := (lt _ pm).1
        have lb : b < n := (lt _ pm).2
        have al : a < rs.length := by omega
        obtain ⟨r, hr1⟩ : ∃ r, rs[a]? = some r := ⟨_, List.getElem?_eq_getElem al⟩
        have hrow := R.row a r hr1
        have hat : atI (rs.map V.ref) (a : Int) = some (.ref r) := atI_nat (by rw [List.getElem?_map, hr1] <;> rfl)
        have rm := List.mem_of_getElem? hr1
        refine ⟨q, _, rfl, hit, rfl, ?_⟩
        refine ⟨_, _, rfl, _, _, rfl, rfl, ?_⟩
        refine ⟨_, rfl, _, rfl, A, _, _, _, rfl, rfl, SqL.of R.top, hat, ?_⟩
        have nAr : A ≠ r := fun z => R.ne (by rw [z]; exact rm)
        have fl := len a
        have il : i < ps.length := (List.getElem?_eq_some_iff.mp hp).1
        refine ⟨.inl ⟨rfl, _, SqL.of hrow⟩, _, rfl, r, _, _, rfl, rfl, hrow, by rw [List.length_map, sizeLine_eq]; omega, _, _, fun j => if j = a then f a ++ [b] else f j, rfl, fun c o z => ?_, ⟨?_, R.nd, fun j r' hj => ?_, R.ne⟩, fun j x => ?_, fun j => ?_⟩
        · rw [upd_ne (ne_of_none z (old r rm))]
          exact S' _ _ z
        · rw [upd_ne nAr]
          exact R.top
        · show _ = some (HO.lst ((if j = a then f a ++ [b] else f j).map fun (x : Nat) => V.int (x : Int)))
          by_cases e : j = a
          · subst e
            rw [hr1] at hj
            cases hj
            rw [upd_same]
            simp
          · have ne2 : r' ≠ r := fun z => e ((List.getElem?_inj (List.getElem?_eq_some_iff.mp hj).1 R.nd).mp (by rw [hj, hr1, z]))
            rw [upd_ne ne2, if_neg e]
            exact R.row j r' hj
        · rw [List.take_add_one, hp]
          show x ∈ (if j = a then f a ++ [b] else f j) ↔ _
          by_cases e : j = a
          · subst e
            rw [if_pos rfl, List.mem_append, mem j x]
            simp only [Option.toList, List.mem_append, List.mem_singleton]
            constructor
            · rintro (⟨p, z, y⟩ | rfl)
              · exact ⟨p, .inl z, y⟩
              · exact ⟨_, .inr rfl, rfl⟩
            · rintro ⟨p, z | rfl, y⟩
              · exact .inl ⟨p, z, y⟩
              · exact .inr (congrArg Prod.snd y).symm
          · rw [if_neg e, mem j x]
            simp only [Option.toList, List.mem_append, List.mem_singleton]
            constructor
            · rintro ⟨p, z, y⟩
              exact ⟨p, .inl z, y⟩
            · rintro ⟨p, z | rfl, y⟩
              · exact ⟨p, z, y⟩
              · exact absurd (congrArg Prod.fst y).symm e
        · show (if j = a then f a ++ [b] else f j).length ≤ i + 1
          by_cases e : j = a
          · rw [if_pos e, List.length_append]
            show (f a).length + 1 ≤ i + 1
            omega
          · rw [if_neg e]
            exact Nat.le_succ_of_le (len j)
      · rintro σ H' ⟨v1, v2, f, rfl, S', R, mem, len⟩
        rw [List.length_map, List.take_length] at mem
        rw [List.length_map] at len
        have fB : ∀ j x, x ∈ f j → x < n := fun j x hx => by
          obtain ⟨p, hp, e⟩ := (mem j x).mp hx
          have := (lt p hp).2
          rw [e] at this
          exact this
        refine fun F nF => ⟨_, rfl, upd_same, [(.inl (st : Int), .bl true)], rfl, by show 1 ≤ 15; decide, ?_⟩
        refine ⟨_, rfl, by show 1 ≤ sizeLine; decide, fun W nW => ?_⟩
        rw [upd_upd] at nW ⊢
        have nF0 : H F = none := S'.free nF
        have nFW : F ≠ W := ne_of_none upd_same nW
        have nW1 : H' W = none := by rw [upd_ne nFW.symm] at nW; exact nW
        have nW0 : H W = none := S'.free nW1
        have aF : A ≠ F := ne_of_none R.top nF
        have aW : A ≠ W := ne_of_none R.top nW1
        have rF : F ∉ rs := fun z => by
          obtain ⟨i, hi, e⟩ := List.getElem_of_mem z
          have := R.row i F (by rw [List.getElem?_eq_getElem hi, e])
          rw [nF] at this
          cases this
        have rW : W ∉ rs := fun z => by
          obtain ⟨i, hi, e⟩ := List.getElem_of_mem z
          have := R.row i W (by rw [List.getElem?_eq_getElem hi, e])
          rw [nW1] at this
          cases this
        have keepR : ∀ {G : Hp} {o : HO} {q : Addr}, (q = F ∨ q = W) → Rows G A rs f → Rows (upd G q o) A rs f := fun {G o q} hq y => by
          have n1 : A ≠ q := by rcases hq with z | z <;> rw [z] <;> assumption
          have n2 : q ∉ rs := by rcases hq with z | z <;> rw [z] <;> assumption
          exact ⟨by rw [upd_ne n1]; exact y.top, y.nd, fun i r z => by rw [upd_ne (fun (e : r = q) => n2 (by rw [← e]; exact List.mem_of_getElem? z))]; exact y.row i r z, y.ne⟩
        have keepS : ∀ {G : Hp} {o : HO} {q : Addr}, (q = F ∨ q = W) → Same H G → Same H (upd G q o) := fun {G o q} hq y => by
          have n0 : H q = none := by rcases hq with z | z <;> rw [z] <;> assumption
          intro c u z
          rw [upd_ne (ne_of_none z n0)]
          exact y _ _ z
        have okN : ∀ {fnd : List Nat} (t : Nat), (valV (okD fnd) (Sum.inl (t : Int) : Key) = none → t ∉ fnd) ∧ (∀ v, valV (okD fnd) (Sum.inl (t : Int) : Key) = some v → t ∈ fnd) := fun {fnd} t => by
          induction fnd with
          | nil => exact ⟨fun _ z => (by cases z), fun v z => (by cases z)⟩
          | cons x fnd ih =>
            have e0 : okD (x :: fnd) = ((Sum.inl (x : Int) : Key), V.bl true) :: okD fnd := rfl
            rw [e0]
            unfold valV
            rw [List.find?_cons]
            by_cases e : x = t
            · subst e
              simp
            · have ne1 : decide ((Sum.inl (x : Int) : Key) = Sum.inl (t : Int)) = false := decide_eq_false fun z => e (Int.ofNat.inj (Sum.inl.inj z))
              rw [ne1]
              refine ⟨fun z y => ?_, fun v z => .tail _ (ih.2 v z)⟩
              rcases List.mem_cons.mp y with y | y
              · exact e y.symm
              · exact ih.1 z y
        have bound : ∀ {fnd : List Nat}, fnd.Nodup → (∀ x ∈ fnd, x < n) → fnd.length ≤ n := fun {fnd} h1 h2 => by
          have := nat_nodup_len fnd (List.range n) h1 fun x hx => List.mem_range.mpr (h2 x hx)
          rw [List.length_range] at this
          exact this
        have mk : mergeK [] [((Sum.inl (st : Int) : Key), V.bl true)] = okD [st] := rfl
        rw [mk]
        refine go_name ?_
        dsimp only
        refine go_seq ?_
        refine while_by (fun σ G => ∃ (v1 v2 v3 : Option V) (fnd wait : List Nat), σ = [some (.int (n : Int)), some (.int (st : Int)), some (.ref sp), some (.ref A), none, v1, v2, some (.ref F), some (.ref W), v3] ∧ Same H G ∧ Rows G A rs f ∧ G F = some (.dK (okD fnd)) ∧ G W = some (.lst (wait.map fun (x : Nat) => V.int (x : Int))) ∧
          fnd.Nodup ∧ (∀ x ∈ fnd, x < n) ∧ (∀ x ∈ wait, x ∈ fnd) ∧ st ∈ fnd ∧ wait.length ≤ fnd.length ∧ ∀ a ∈ fnd, a ∈ wait ∨ ∀ b ∈ f a, b ∈ fnd)
          (fun _ G => match G W, G F with | some (.lst xs), some (.dK kvs) => xs.length + (n - kvs.length) | _, _ => 0)
          ⟨v1, v2, none, [st], [st], rfl, keepS (.inr rfl) (keepS (.inl rfl) S'), keepR (.inr rfl) (keepR (.inl rfl) R), by rw [upd_ne nFW]; exact upd_same, upd_same, List.nodup_cons.mpr ⟨(fun z => by cases z), List.nodup_nil⟩, (fun x hx => by rw [List.mem_singleton.mp hx]; exact st0), (fun x hx => hx), List.mem_cons_self, Nat.le_refl _, fun a ha => .inl ha⟩ ?_ ?_
        · rintro σ G ⟨v1, v2, v3, fnd, wait, rfl, SG, RG, hF, hW, nd, ltn, sub, stf, wl, cl⟩
          rcases List.eq_nil_or_concat wait with e | ⟨w0, x, e⟩
          · subst e
            refine ⟨_, rfl, false, .inl ⟨_, SqL.of hW, rfl⟩, ?_⟩
            refine iteF ?_
            refine ⟨_, rfl, k F fnd G SG nF0 hF stf fun p hp hx => ?_⟩
            rcases cl _ hx with z | z
            · cases z
            · exact z _ ((mem _ _).mpr ⟨p, hp, rfl⟩)
          · rw [List.concat_eq_append] at e
            subst e
            have hxn : x ∈ fnd := sub x (List.mem_append_right _ (List.mem_singleton.mpr rfl))
            have xl : x < n := ltn x hxn
            obtain ⟨r, hr1⟩ : ∃ r, rs[x]? = some r := ⟨_, List.getElem?_eq_getElem (by omega)⟩
            have rm := List.mem_of_getElem? hr1
            have hat : atI (rs.map V.ref) (x : Int) = some (.ref r) := atI_nat (by rw [List.getElem?_map, hr1] <;> rfl)
            have dl : ((w0 ++ [x]).map fun (x : Nat) => V.int (x : Int)).dropLast = w0.map fun (x : Nat) => V.int (x : Int) := by
              rw [List.map_append]
              exact List.dropLast_concat
            refine ⟨_, rfl, true, .inl ⟨_, SqL.of hW, by simp⟩, ?_⟩
            refine iteT ?_
            refine ⟨_, rfl, .inl ⟨rfl, _, SqL.of hW⟩, W, _, .int (x : Int), rfl, rfl, hW, by simp, ?_⟩
            rw [dl]
            have G1 : Same H (upd G W (.lst (w0.map fun (x : Nat) => V.int (x : Int)))) := keepS (.inr rfl) SG
            have R1 := keepR (o := .lst (w0.map fun (x : Nat) => V.int (x : Int))) (.inr rfl) RG
            have nrW : r ≠ W := fun z => rW (by rw [← z]; exact rm)
            have nrF : r ≠ F := fun z => rF (by rw [← z]; exact rm)
            refine ⟨_, rfl, _, rfl, A, _, _, _, rfl, rfl, SqL.of R1.top, hat, r, rfl, ⟨_, SqL.of (R1.row x r hr1)⟩, ?_⟩
            have okl : ∀ l : List Nat, (okD l).length = l.length := fun l => List.length_map _
            refine for_list (K := K) (a := r) (xs := (f x).map fun (x : Nat) => V.int (x : Int)) (fun j σ G' => ∃ (v1 v2 : Option V) (fd wt : List Nat), σ = [some (.int (n : Int)), some (.int (st : Int)), some (.ref sp), some (.ref A), none, v1, v2, some (.ref F), some (.ref W), some (.int (x : Int))] ∧
              Same H G' ∧ Rows G' A rs f ∧ G' F = some (.dK (okD fd)) ∧ G' W = some (.lst (wt.map fun (x : Nat) => V.int (x : Int))) ∧ fd.Nodup ∧ (∀ x ∈ fd, x < n) ∧ (∀ x ∈ wt, x ∈ fd) ∧ st ∈ fd ∧ wt.length ≤ fd.length ∧ (∀ a ∈ fd, a = x ∨ a ∈ wt ∨ ∀ b ∈ f a, b ∈ fd) ∧ x ∈ fd ∧ (∀ b ∈ (f x).take j, b ∈ fd) ∧
              wt.length + (n - fd.length) < (w0 ++ [x]).length + (n - fnd.length))
              ⟨v1, v2, fnd, w0, rfl, G1, R1, by rw [upd_ne nFW]; exact hF, upd_same, nd, ltn, (fun y hy => sub y (List.mem_append_left _ hy)), stf, (by rw [List.length_append] at wl; omega), (fun a ha => by
                rcases cl a ha with z | z
                · rcases List.mem_append.mp z with y | y
                  · exact .inr (.inl y)
                  · exact .inl (List.mem_singleton.mp y)
                · exact .inr (.inr z)), hxn, (fun b hb => by simp at hb), by rw [List.length_append]; show w0.length + _ < w0.length + 1 + _; omega⟩
              (fun j σ G' _ ⟨_, _, _, _, _, _, RG', _⟩ => SqL.of (RG'.row x r hr1)) ?_ ?_
            · rintro j y σ G' hj ⟨v1, v2, fd, wt, rfl, SG', RG', hF', hW', nd', ltn', sub', stf', wl', cl', hx', tk, ms⟩
              rw [List.getElem?_map] at hj
              obtain ⟨t, ht, rfl⟩ := Option.map_eq_some_iff.mp hj
              have tn : t < n := fB x t (List.mem_of_getElem? ht)
              have tk1 : (f x).take (j + 1) = (f x).take j ++ [t] := by rw [List.take_add_one, ht] <;> rfl
              have fb := bound nd' ltn'
              refine ⟨_, rfl, _, rfl, F, _, rfl, DGet.k (k := Sum.inl (t : Int)) hF', _, rfl, ?_⟩
              cases e : valV (okD fd) (Sum.inl (t : Int) : Key) with
              | some v =>
                refine iteF ?_
                refine ⟨v1, _, fd, wt, rfl, SG', RG', hF', hW', nd', ltn', sub', stf', wl', cl', hx', fun b hb => ?_, ms⟩
                rw [tk1] at hb
                rcases List.mem_append.mp hb with z | z
                · exact tk b z
                · rw [List.mem_singleton.mp z]
                  exact (okN t).2 v e
              | none =>
                have tf := (okN t).1 e
                refine iteT ?_
                have pk : putK (okD fd) (Sum.inl (t : Int) : Key) (V.bl true) = okD (fd ++ [t]) := by
                  rw [putK_new _ e]
                  unfold okD
                  rw [List.map_append] <;> rfl
                have nd2 : (fd ++ [t]).Nodup := List.nodup_append.mpr ⟨nd', List.nodup_cons.mpr ⟨(fun z => by cases z), List.nodup_nil⟩, fun a ha b hb z => tf (by rw [← List.mem_singleton.mp hb, ← z]; exact ha)⟩
                have lt2 : ∀ y ∈ fd ++ [t], y < n := fun y hy => (List.mem_append.mp hy).elim (ltn' y) fun z => by rw [List.mem_singleton.mp z]; exact tn
                have fb2 := bound nd2 lt2
                rw [List.length_append] at fb2
                have fb3 : fd.length + 1 ≤ n := fb2
                refine ⟨_, rfl, _, rfl, F, _, rfl, DPut.k (k := Sum.inl (t : Int)) hF' (by rw [okl, sizeLine_eq]; omega), ?_⟩
                rw [pk]
                have hW2 : (upd G' F (.dK (okD (fd ++ [t])))) W = some (.lst (wt.map fun (x : Nat) => V.int (x : Int))) := by rw [upd_ne nFW.symm]; exact hW'
                refine ⟨_, rfl, .inl ⟨rfl, _, SqL.of hW2⟩, _, rfl, W, _, _, rfl, rfl, hW2, by rw [List.length_map, sizeLine_eq]; omega, v1, _, fd ++ [t], wt ++ [t], rfl, keepS (.inr rfl) (keepS (.inl rfl) SG'), keepR (.inr rfl) (keepR (.inl rfl) RG'), by rw [upd_ne nFW]; exact upd_same,
                  by rw [upd_same, List.map_append] <;> rfl, nd2, lt2, fun y hy => ?_, List.mem_append_left _ stf', by rw [List.length_append, List.length_append]; exact Nat.succ_le_succ wl', fun a ha => ?_, List.mem_append_left _ hx', fun b hb => ?_, ?_⟩
                · rcases List.mem_append.mp hy with z | z
                  · exact List.mem_append_left _ (sub' y z)
                  · exact List.mem_append_right _ z
                · rcases List.mem_append.mp ha with z | z
                  · rcases cl' a z with q | q | q
                    · exact .inl q
                    · exact .inr (.inl (List.mem_append_left _ q))
                    · exact .inr (.inr fun b hb => List.mem_append_left _ (q b hb))
                  · exact .inr (.inl (List.mem_append_right _ z))
                · rw [tk1] at hb
                  rcases List.mem_append.mp hb with z | z
                  · exact List.mem_append_left _ (tk b z)
                  · exact List.mem_append_right _ z
                · rw [List.length_append, List.length_append]
                  show wt.length + 1 + (n - (fd.length + 1)) < _
                  omega
            · rintro σ G' ⟨v1, v2, fd, wt, rfl, SG', RG', hF', hW', nd', ltn', sub', stf', wl', cl', hx', tk, ms⟩
              rw [List.length_map, List.take_length] at tk
              refine ⟨⟨v1, v2, _, fd, wt, rfl, SG', RG', hF', hW', nd', ltn', sub', stf', wl', fun a ha => ?_⟩, ?_⟩
              · rcases cl' a ha with q | q | q
                · rw [q]
                  exact .inr tk
                · exact .inl q
                · exact .inr q
              · rw [hW', hF', hW, hF]
                show (wt.map _).length + (n - (okD fd).length) < ((w0 ++ [x]).map _).length + (n - (okD fnd).length)
                rw [okl, okl, List.length_map, List.length_map]
                exact ms
        · intro σ G Q1 Q2 h ⟨v, e, c, t, q⟩
          exact ⟨v, e, c, t, h _ _ q⟩
end
end Vk
set_option Elab.async false
set_option linter.all false
set_option maxRecDepth 100000
set_option maxHeartbeats 4000000
namespace Vk
open PySem PySem.Spec PyProof.Rows L2 Vt
abbrev sPaths : Stmt := top8 16
abbrev sCheck : Stmt := top8 11
/-- from st all n states are come to -/
def Conn (n st : Nat) (es : List (Nat × Nat)) : Prop := ∀ S : List Nat, st ∈ S → (∀ e ∈ es, e.1 ∈ S → e.2 ∈ S) → ∀ x, x < n → x ∈ S
def fw (ms : List (Addr × Mv)) : List (Nat × Nat) := ms.map fun p => (p.2.s, p.2.t)
def bw (ms : List (Addr × Mv)) : List (Nat × Nat) := ms.map fun p => (p.2.t, p.2.s)
theorem val_okD {fnd : List Nat} {t : Nat} (h : t ∈ fnd) : ∃ v, valV (okD fnd) (Sum.inl (t : Int) : Key) = some v := by
  induction fnd with
  | nil => cases h
  | cons x fnd ih =>
    have e0 : okD (x :: fnd) = ((Sum.inl (x : Int) : Key), V.bl true) :: okD fnd := rfl
    rw [e0]
    unfold valV
    rw [List.find?_cons]
    by_cases e : x = t
    · subst e
      exact ⟨.bl true, by simp⟩
    · have ne1 : decide ((Sum.inl (x : Int) : Key) = Sum.inl (t : Int)) = false := decide_eq_false fun z => e (Int.ofNat.inj (Sum.inl.inj z))
      rw [ne1]
      exact ih ((List.mem_cons.mp h).elim (fun z => absurd z.symm e) id)
section
variable {P : Program} {w : World} {K : PySem.W.Frag} {mg : Str → Option Value} {base : Heap}
def spPaths (K : PySem.W.Frag) : Sp := fun vs H Q _ => ∃ (n st la : Nat) (l : Addr) (ms : List (Addr × Mv)), vs = [.int (n : Int), .int (st : Int), .int (la : Int), .ref l] ∧ MvsAt K H l ms ∧ (∀ p ∈ ms, OkMv n p.2) ∧ st < n ∧ la < n ∧ n ≤ 4000 ∧ ms.length ≤ 4000 ∧
  Conn n st (fw ms) ∧ Conn n la (bw ms) ∧ ∀ H', Same H H' → Q .non H'
theorem scP : FnScope ["size", "first", "last", "moves", "ahead", "move", "behind", "state"] ["size", "first", "last", "moves"] (defScope sPaths) := ⟨rfl, rfl, rfl, by decide +kernel, rfl, by decide +kernel, by decide +kernel⟩
theorem ok_paths {f fR : Addr} {fd fdR : FuncData} (F : Fun K "check_paths" "check_paths" sPaths f fd) (T : Txt8 K mg) (FR : Fun K "reached" "reached" sReached fR fdR) (gR : mg "reached" = some (.ref fR)) (bR : Binds K fdR ["size", "start", "steps"] []) :
    FnOk P w K mg base CX0 2 f fd ["size", "first", "last", "moves"] (spPaths K) := by
  have GR : FnOk P w K mg base CX0 1 fR fdR ["size", "start", "steps"] (spReached K) := ok_reached FR T
  refine F.ok scP (fun vs H Q E h => ?_) (fun cdv A outer s H vs Q E hr h => ?_)
  · obtain ⟨n, st, la, l, ms, rfl, _⟩ := h
    rfl
  · obtain ⟨n, st, la, l, ms, rfl, hM, ok, st0, la0, nB, mB, cf, cb, k⟩ := h
    have hu := hu_of hr
    refine ⟨_, (pss_cons (ps_set (i := 4) scP.nd rfl (.inl rfl) (pe_call GR hr rfl gR FR.kp bR .nil pass0 (pa_cons (pv 0) (pa_cons (pv 1) (pa_cons (pe_lc (own := [("move", 5)]) (g := gName 5) (by rfl) scP.nd (pi_tup (pv 3)) (blkOk_by (own := [("move", 5)]) (N := ["size", "first", "last", "moves", "ahead", "move", "behind", "state"]) (sc := defScope sPaths) (by decide +kernel)) (fun _ _ _ _ _ => (pg_name (i := 5) scP.nd rfl (.inl rfl))) (fun _ _ _ _ _ => pts_nil) (fun _ _ _ _ _ => (pe_tup (pa_cons (pe_ix (r := rIxT K) ix_tup (pv 5) pe_int (fun _ _ => rfl)) (pa_cons (pe_ix (r := rIxT K) ix_tup (pv 5) pe_int (fun _ _ => rfl)) pa_nil))))) pa_nil)))))
        (pss_cons (ps_set (i := 6) scP.nd rfl (.inl rfl) (pe_call GR hr rfl gR FR.kp bR .nil pass0 (pa_cons (pv 0) (pa_cons (pv 2) (pa_cons (pe_lc (own := [("move", 5)]) (g := gName 5) (by rfl) scP.nd (pi_tup (pv 3)) (blkOk_by (own := [("move", 5)]) (N := ["size", "first", "last", "moves", "ahead", "move", "behind", "state"]) (sc := defScope sPaths) (by decide +kernel)) (fun _ _ _ _ _ => (pg_name (i := 5) scP.nd rfl (.inl rfl))) (fun _ _ _ _ _ => pts_nil) (fun _ _ _ _ _ => (pe_tup (pa_cons (pe_ix (r := rIxT K) ix_tup (pv 5) pe_int (fun _ _ => rfl)) (pa_cons (pe_ix (r := rIxT K) ix_tup (pv 5) pe_int (fun _ _ => rfl)) pa_nil))))) pa_nil)))))
        (pss_one (ps_for PassesOwn.never rfl (pi_range1 (by rfl) T.rng (pa_cons (pv 0) pa_nil)) (pg_name (i := 7) scP.nd rfl (.inl rfl)) (pss_one (ps_if (PW.pt (pw_or (pt_cmp (pc_dnotin hu (pv 7) (pv 4))) (pw_or1 (pt_cmp (pc_dnotin hu (pv 7) (pv 6)))))) (pss_one ps_never) pss_nil)))))), ?_⟩
    refine ⟨_, rfl, _, rfl, _, rfl, l, rfl, ⟨_, hM.tp⟩, fun D nD => ?_⟩
    refine lc_tup (K := K) (a := l) (xs := ms.map fun p => V.ref p.1) (fun i H' => ∃ qs : List (Addr × Nat × Nat), qs.map (·.2) = (fw ms).take i ∧ Same H H' ∧ H' D = some (.lst (qs.map fun p => V.ref p.1)) ∧ ∀ p ∈ qs, H' p.1 = some (.tup [.int (p.2.1 : Int), .int (p.2.2 : Int)]))
      ⟨[], rfl, same_up nD, upd_same, fun p z => by cases z⟩ (fun i H' _ ⟨_, _, S', _⟩ => same_seqT S' hM.tp) ?_ ?_
    · rintro i y H' hi ⟨qs, eq, S', hD, rows⟩
      rw [List.getElem?_map] at hi
      obtain ⟨p, hp, rfl⟩ := Option.map_eq_some_iff.mp hi
      have hit := same_seqT S' (hM.it p (List.mem_of_getElem? hp))
      have il : i < ms.length := (List.getElem?_eq_some_iff.mp hp).1
      have ql : qs.length ≤ i := by
        have := congrArg List.length eq
        rw [List.length_map, List.length_take] at this
        omega
      refine ⟨rfl, _, rfl, p.1, _, _, _, rfl, rfl, hit, rfl, _, rfl, p.1, _, _, _, rfl, rfl, hit, rfl, (by show 2 ≤ sizeLine; decide), fun q nq => ?_⟩
      have nDq : D ≠ q := ne_of_none hD nq
      refine ⟨qs.map fun p => V.ref p.1, by rw [upd_ne nDq]; exact hD, by rw [List.length_map, sizeLine_eq]; omega, qs ++ [(q, p.2.s, p.2.t)], ?_, fun c o z => ?_, by rw [upd_same, List.map_append] <;> rfl, fun r hr => ?_⟩
      · rw [List.map_append, eq, List.take_add_one]
        unfold fw
        rw [List.getElem?_map, hp] <;> rfl
      · rw [upd_ne (ne_of_none z nD)]
        exact same_up nq _ _ (S' _ _ z)
      · rcases List.mem_append.mp hr with z | z
        · have y := rows r z
          rw [upd_ne (ne_of y hD (fun x => by cases x)), upd_ne (ne_of_none y nq)]
          exact y
        · rw [List.mem_singleton.mp z, upd_ne nDq.symm]
          exact upd_same
    · rintro H1 ⟨qs, eq, S1, hD, rows⟩
      rw [List.length_map, show ms.length = (fw ms).length from (List.length_map _).symm, List.take_length] at eq
      have inq : ∀ {p : Addr × Nat × Nat}, p ∈ qs → p.2 ∈ fw ms := fun {p} hp => by rw [← eq]; exact List.mem_map.mpr ⟨p, hp, rfl⟩
      have qok : ∀ p ∈ qs, p.2.1 < n ∧ p.2.2 < n := fun p hp => by
        obtain ⟨m, hm, e⟩ := List.mem_map.mp (inq hp)
        rw [← e]
        exact ⟨(ok m hm).1, (ok m hm).2.1⟩
      have ql : qs.length ≤ 4000 := by
        have := congrArg List.length eq
        rw [List.length_map] at this
        unfold fw at this
        rw [List.length_map] at this
        omega
      refine ⟨n, st, D, qs, rfl, SqL.of hD, fun p hp => SqT.of (rows p hp), qok, st0, nB, ql, fun d1 f1 H2 S2 nd1 hd1 st1 c1 => ?_⟩
      have S12 := S1.trans S2
      have hM2 : MvsAt K H2 l ms := ⟨same_seqT S12 hM.tp, fun p hp => same_seqT S12 (hM.it p hp)⟩
      refine ⟨_, rfl, _, rfl, _, rfl, l, rfl, ⟨_, hM2.tp⟩, fun E2 nE => ?_⟩
      refine lc_tup (K := K) (a := l) (xs := ms.map fun p => V.ref p.1) (fun i H' => ∃ qs : List (Addr × Nat × Nat), qs.map (·.2) = (bw ms).take i ∧ Same H2 H' ∧ H' E2 = some (.lst (qs.map fun p => V.ref p.1)) ∧ ∀ p ∈ qs, H' p.1 = some (.tup [.int (p.2.1 : Int), .int (p.2.2 : Int)]))
        ⟨[], rfl, same_up nE, upd_same, fun p z => by cases z⟩ (fun i H' _ ⟨_, _, S', _⟩ => same_seqT S' hM2.tp) ?_ ?_
      · rintro i y H' hi ⟨qs, eq, S', hD, rows⟩
        rw [List.getElem?_map] at hi
        obtain ⟨p, hp, rfl⟩ := Option.map_eq_some_iff.mp hi
        have hit := same_seqT S' (hM2.it p (List.mem_of_getElem? hp))
        have il : i < ms.length := (List.getElem?_eq_some_iff.mp hp).1
        have ql : qs.length ≤ i := by
          have := congrArg List.length eq
          rw [List.length_map, List.length_take] at this
          omega
        refine ⟨rfl, _, rfl, p.1, _, _, _, rfl, rfl, hit, rfl, _, rfl, p.1, _, _, _, rfl, rfl, hit, rfl, (by show 2 ≤ sizeLine; decide), fun q nq => ?_⟩
        have nDq : E2 ≠ q := ne_of_none hD nq
        refine ⟨qs.map fun p => V.ref p.1, by rw [upd_ne nDq]; exact hD, by rw [List.length_map, sizeLine_eq]; omega, qs ++ [(q, p.2.t, p.2.s)], ?_, fun c o z => ?_, by rw [upd_same, List.map_append] <;> rfl, fun r hr => ?_⟩
        · rw [List.map_append, eq, List.take_add_one]
          unfold bw
          rw [List.getElem?_map, hp] <;> rfl
        · rw [upd_ne (ne_of_none z nE)]
          exact same_up nq _ _ (S' _ _ z)
        · rcases List.mem_append.mp hr with z | z
          · have y := rows r z
            rw [upd_ne (ne_of y hD (fun x => by cases x)), upd_ne (ne_of_none y nq)]
            exact y
          · rw [List.mem_singleton.mp z, upd_ne nDq.symm]
            exact upd_same
      · rintro H3 ⟨qs2, eq2, S3, hE, rows2⟩
        rw [List.length_map, show ms.length = (bw ms).length from (List.length_map _).symm, List.take_length] at eq2
        have inq2 : ∀ {p : Addr × Nat × Nat}, p ∈ qs2 → p.2 ∈ bw ms := fun {p} hp => by rw [← eq2]; exact List.mem_map.mpr ⟨p, hp, rfl⟩
        have qok2 : ∀ p ∈ qs2, p.2.1 < n ∧ p.2.2 < n := fun p hp => by
          obtain ⟨m, hm, e⟩ := List.mem_map.mp (inq2 hp)
          rw [← e]
          exact ⟨(ok m hm).2.1, (ok m hm).1⟩
        have ql2 : qs2.length ≤ 4000 := by
          have := congrArg List.length eq2
          rw [List.length_map] at this
          unfold bw at this
          rw [List.length_map] at this
          omega
        refine ⟨n, la, E2, qs2, rfl, SqL.of hE, fun p hp => SqT.of (rows2 p hp), qok2, la0, nB, ql2, fun d2 f2 H4 S4 nd2 hd2 st2 c2 => ?_⟩
        have hd1' := S4 _ _ (S3 _ _ hd1)
        have S14 := (S12.trans S3).trans S4
        have all1 : ∀ x, x < n → x ∈ f1 := cf f1 st1 fun e he h1 => by
          rw [← eq] at he
          obtain ⟨p, hp, rfl⟩ := List.mem_map.mp he
          exact c1 p hp h1
        have all2 : ∀ x, x < n → x ∈ f2 := cb f2 st2 fun e he h1 => by
          rw [← eq2] at he
          obtain ⟨p, hp, rfl⟩ := List.mem_map.mp he
          exact c2 p hp h1
        refine ⟨_, rfl, (n : Int), rfl, by omega, by omega, ?_⟩
        rw [Int.toNat_natCast]
        refine for_range (lo := 0) (n := n) (fun i σ H' => ∃ v : Option V, σ = [some (.int (n : Int)), some (.int (st : Int)), some (.int (la : Int)), some (.ref l), some (.ref d1), none, some (.ref d2), v] ∧ H' = H4) ⟨none, rfl, rfl⟩ ?_ ?_
        · rintro i σ H' hi ⟨v, rfl, rfl⟩
          obtain ⟨v1, e1⟩ := val_okD (all1 i hi)
          obtain ⟨v2, e2⟩ := val_okD (all2 i hi)
          have iz : (0 : Int) + (i : Int) = (i : Int) := Int.zero_add _
          refine ⟨_, rfl, _, rfl, d1, _, rfl, by rw [iz]; exact DGet.k (k := Sum.inl (i : Int)) hd1', _, rfl, ?_⟩
          rw [e1]
          refine iteF ?_
          refine ⟨_, rfl, _, rfl, d2, _, rfl, by rw [iz]; exact DGet.k (k := Sum.inl (i : Int)) hd2, _, rfl, ?_⟩
          rw [e2]
          refine iteF ?_
          exact ⟨_, rfl, rfl⟩
        · rintro σ H' ⟨v, rfl, rfl⟩
          exact k _ S14
end
end Vk
set_option Elab.async false
set_option linter.all false
set_option maxRecDepth 100000
set_option maxHeartbeats 4000000
namespace Vk
open PySem PySem.Spec PyProof.Rows L2 Vt
/-- a machine's four parts are as they have to be -/
structure OkM (n st la : Nat) (ms : List (Addr × Mv)) : Prop where
  n1 : 1 ≤ n
  n2 : n ≤ 999
  hst : st < n
  hla : la < n
  ok : ∀ p ∈ ms, OkMv n p.2
  asc : Asc ms
  e0 : (ms.map fun p => eK 0 p.2).Nodup
  e2 : (ms.map fun p => eK 2 p.2).Nodup
  few : ms.length ≤ 3999
  fw : Conn n st (fw ms)
  bw : Conn n la (bw ms)
section
variable {P : Program} {w : World} {K : PySem.W.Frag} {mg : Str → Option Value} {base : Heap}
def spCheck (K : PySem.W.Frag) : Sp := fun vs H Q _ => ∃ (n st la : Nat) (l : Addr) (ms : List (Addr × Mv)), vs = [.int (n : Int), .int (st : Int), .int (la : Int), .ref l] ∧ MvsAt K H l ms ∧ OkM n st la ms ∧ ∀ H', Same H H' → Q .non H'
theorem scK : FnScope ["size", "first", "last", "moves"] ["size", "first", "last", "moves"] (defScope sCheck) := ⟨rfl, rfl, rfl, by decide +kernel, rfl, by decide +kernel, by decide +kernel⟩
theorem ok_check {f fN fS fC fX fP : Addr} {fd fdN fdS fdC fdX fdP : FuncData} (F : Fun K "check_machine" "check_machine" sCheck f fd) (T : Txt8 K mg) {tk : Tok} (hmost : mg "MOST_STATES" = some (.int 999 tk))
    (FN : Fun K "is_number" "is_number" sNum fN fdN) (gN : mg "is_number" = some (.ref fN)) (bN : Binds K fdN ["thing"] [])
    (FS : Fun K "is_state" "is_state" sState fS fdS) (gS : mg "is_state" = some (.ref fS)) (bS : Binds K fdS ["thing", "size"] [])
    (FC : Fun K "check_moves" "check_moves" sMoves fC fdC) (gC : mg "check_moves" = some (.ref fC)) (bC : Binds K fdC ["size", "moves"] []) (GC : FnOk P w K mg base CX0 4 fC fdC ["size", "moves"] (spMoves K))
    (FX : Fun K "check_ends" "check_ends" sEnds fX fdX) (gX : mg "check_ends" = some (.ref fX)) (bX : Binds K fdX ["moves", "end"] [])
    (FP : Fun K "check_paths" "check_paths" sPaths fP fdP) (gP : mg "check_paths" = some (.ref fP)) (bP : Binds K fdP ["size", "first", "last", "moves"] []) (GP0 : FnOk P w K mg base CX0 2 fP fdP ["size", "first", "last", "moves"] (spPaths K)) :
    FnOk P w K mg base CX0 5 f fd ["size", "first", "last", "moves"] (spCheck K) := by
  have GN : FnOk P w K mg base CX0 4 fN fdN ["thing"] spNum := (ok_num FN T).mono (by decide)
  have GS : FnOk P w K mg base CX0 4 fS fdS ["thing", "size"] spState := (ok_state FS T FN gN bN).mono (by decide)
  have GX : FnOk P w K mg base CX0 4 fX fdX ["moves", "end"] (spEnds K) := (ok_ends FX T).mono (by decide)
  have GP : FnOk P w K mg base CX0 4 fP fdP ["size", "first", "last", "moves"] (spPaths K) := GP0.mono (by decide)
  refine F.ok scK (fun vs H Q E h => ?_) (fun cdv A outer s H vs Q E hr h => ?_)
  · obtain ⟨n, st, la, l, ms, rfl, _⟩ := h
    rfl
  · obtain ⟨n, st, la, l, ms, rfl, hM, ok, k⟩ := h
    have n2 := ok.n2
    refine ⟨_, (pss_cons (ps_if (PW.pt (pw_or (pt_not (pt_val (pe_call GN hr rfl gN FN.kp bN .nil pass0 (pa_cons (pv 0) pa_nil)))) (pw_or1 (pt_not (pt_chain op_le op_le pe_int (pv 0) (pe_glob (v := .int 999) (by rfl) hmost ⟨_, rfl⟩)))))) (pss_one ps_never) pss_nil)
        (pss_cons (ps_if (pt_not (pt_val (pe_call GS hr rfl gS FS.kp bS .nil pass0 (pa_cons (pv 1) (pa_cons (pv 0) pa_nil))))) (pss_one ps_never) pss_nil)
        (pss_cons (ps_if (pt_not (pt_val (pe_call GS hr rfl gS FS.kp bS .nil pass0 (pa_cons (pv 2) (pa_cons (pv 0) pa_nil))))) (pss_one ps_never) pss_nil)
        (pss_cons (ps_expr (pe_call GC hr rfl gC FC.kp bC .nil pass0 (pa_cons (pv 0) (pa_cons (pv 3) pa_nil))))
        (pss_cons (ps_expr (pe_call GX hr rfl gX FX.kp bX .nil pass0 (pa_cons (pv 3) (pa_cons pe_int pa_nil))))
        (pss_cons (ps_expr (pe_call GX hr rfl gX FX.kp bX .nil pass0 (pa_cons (pv 3) (pa_cons pe_int pa_nil))))
        (pss_one (ps_expr (pe_call GP hr rfl gP FP.kp bP .nil pass0 (pa_cons (pv 0) (pa_cons (pv 1) (pa_cons (pv 2) (pa_cons (pv 3) pa_nil))))))))))))), ?_⟩
    refine ⟨_, rfl, _, rfl, _, rfl, ?_⟩
    refine iteF ?_
    refine ⟨_, rfl, _, _, rfl, rfl, _, rfl, ?_⟩
    rw [decide_eq_true (show (1 : Int) ≤ (n : Int) from Int.ofNat_le.mpr ok.n1)]
    refine iteT ?_
    refine ⟨_, _, rfl, rfl, _, rfl, ?_⟩
    refine iteNS (show (n : Int) ≤ 999 by omega) ?_
    refine ⟨_, rfl, _, rfl, _, _, rfl, Int.natCast_nonneg _, Int.ofNat_lt.mpr ok.hst, _, rfl, ?_⟩
    refine iteF ?_
    refine ⟨_, rfl, _, rfl, _, _, rfl, Int.natCast_nonneg _, Int.ofNat_lt.mpr ok.hla, _, rfl, ?_⟩
    refine iteF ?_
    refine ⟨_, rfl, _, rfl, n, l, ms, rfl, hM, ok.ok, ok.asc, by have := ok.few; omega, fun H1 S1 => ?_⟩
    have hM1 : MvsAt K H1 l ms := ⟨same_seqT S1 hM.tp, fun p hp => same_seqT S1 (hM.it p hp)⟩
    refine ⟨_, rfl, 0, l, ms, rfl, .inl rfl, hM1, ok.e0, ok.few, fun H2 S2 => ?_⟩
    have hM2 : MvsAt K H2 l ms := ⟨same_seqT S2 hM1.tp, fun p hp => same_seqT S2 (hM1.it p hp)⟩
    refine ⟨_, rfl, 2, l, ms, rfl, .inr rfl, hM2, ok.e2, ok.few, fun H3 S3 => ?_⟩
    have hM3 : MvsAt K H3 l ms := ⟨same_seqT S3 hM2.tp, fun p hp => same_seqT S3 (hM2.it p hp)⟩
    refine ⟨_, rfl, _, rfl, _, rfl, _, rfl, n, st, la, l, ms, rfl, hM3, ok.ok, ok.hst, ok.hla, by omega, by have := ok.few; omega, ok.fw, ok.bw, fun H4 S4 => ?_⟩
    exact k _ (((S1.trans S2).trans S3).trans S4)
end
end Vk
set_option Elab.async false
set_option linter.all false
set_option maxRecDepth 100000
set_option maxHeartbeats 4000000
namespace Vk
open PySem PySem.Spec PyProof.Rows L2 Vt
abbrev sInit : Stmt := inClass (top8 27) 0
def entK (m : Mv) : List Key := [.inl (m.s : Int), .inr (sg m.c)]
def lefK (m : Mv) : List Key := [.inl (m.t : Int), .inr (sg m.c)]
def ents (ms : List (Addr × Mv)) : List (List Key × V) := ms.map fun p => (entK p.2, .int (p.2.t : Int))
def lefs (ms : List (Addr × Mv)) : List (List Key × V) := ms.map fun p => (lefK p.2, .int (p.2.s : Int))
def mF (n st la : Nat) (l : Addr) (z : Str) (E F : Addr) : List (Str × V) := [("size", .int (n : Int)), ("first", .int (st : Int)), ("last", .int (la : Int)), ("moves", .ref l), ("letters", .str z), ("_entered", .ref E), ("_left", .ref F)]
theorem put1 (a : V) : putF "size" a ([] : List (Str × V)) = ([("size", a)] : List (Str × V)) := by rfl
theorem put2 (a b : V) : putF "first" b ([("size", a)] : List (Str × V)) = ([("size", a), ("first", b)] : List (Str × V)) := by rfl
theorem put3 (a b c : V) : putF "last" c ([("size", a), ("first", b)] : List (Str × V)) = ([("size", a), ("first", b), ("last", c)] : List (Str × V)) := by rfl
theorem put4 (a b c d : V) : putF "moves" d ([("size", a), ("first", b), ("last", c)] : List (Str × V)) = ([("size", a), ("first", b), ("last", c), ("moves", d)] : List (Str × V)) := by rfl
theorem put5 (a b c d e : V) : putF "letters" e ([("size", a), ("first", b), ("last", c), ("moves", d)] : List (Str × V)) = ([("size", a), ("first", b), ("last", c), ("moves", d), ("letters", e)] : List (Str × V)) := by rfl
theorem put6 (a b c d e f : V) : putF "_entered" f ([("size", a), ("first", b), ("last", c), ("moves", d), ("letters", e)] : List (Str × V)) = ([("size", a), ("first", b), ("last", c), ("moves", d), ("letters", e), ("_entered", f)] : List (Str × V)) := by rfl
theorem put7 (a b c d e f g : V) : putF "_left" g ([("size", a), ("first", b), ("last", c), ("moves", d), ("letters", e), ("_entered", f)] : List (Str × V)) = ([("size", a), ("first", b), ("last", c), ("moves", d), ("letters", e), ("_entered", f), ("_left", g)] : List (Str × V)) := by rfl
/-- the letters of a machine's moves, ascending -/
def lettersM (ms : List (Addr × Mv)) : List Nat := (List.range 123).filter fun c => ms.any fun p => p.2.c == c
theorem mem_lettersM {ms : List (Addr × Mv)} {c : Nat} (hc : ∀ p ∈ ms, p.2.c ≤ 122) : c ∈ lettersM ms ↔ ∃ p ∈ ms, p.2.c = c := by
  unfold lettersM
  rw [List.mem_filter, List.mem_range, List.any_eq_true]
  refine ⟨fun ⟨_, p, hp, e⟩ => ⟨p, hp, beq_iff_eq.mp e⟩, fun ⟨p, hp, e⟩ => ⟨?_, p, hp, beq_iff_eq.mpr e⟩⟩
  have := hc p hp
  omega
theorem lettersM_asc (ms : List (Addr × Mv)) : (lettersM ms).Pairwise (· < ·) := List.Pairwise.filter _ List.pairwise_lt_range
theorem asc_ext : ∀ {a b : List Nat}, a.Pairwise (· < ·) → b.Pairwise (· < ·) → (∀ c, c ∈ a ↔ c ∈ b) → a = b
  | [], [], _, _, _ => rfl
  | [], y :: b, _, _, h => nomatch (h y).mpr List.mem_cons_self
  | x :: a, [], _, _, h => nomatch (h x).mp List.mem_cons_self
  | x :: a, y :: b, ha, hb, h => by
    have h1 := List.pairwise_cons.mp ha
    have h2 := List.pairwise_cons.mp hb
    have exy : x = y := by
      rcases List.mem_cons.mp ((h x).mp List.mem_cons_self) with e | m
      · exact e
      · rcases List.mem_cons.mp ((h y).mpr List.mem_cons_self) with e | m'
        · exact e.symm
        · have := h2.1 x m
          have := h1.1 y m'
          omega
    subst exy
    rw [asc_ext h1.2 h2.2 fun c => ?_]
    refine ⟨fun m => ?_, fun m => ?_⟩
    · rcases List.mem_cons.mp ((h c).mp (.tail _ m)) with e | m'
      · have := h1.1 c m
        omega
      · exact m'
    · rcases List.mem_cons.mp ((h c).mpr (.tail _ m)) with e | m'
      · have := h2.1 c m
        omega
      · exact m'
theorem join_sg : ∀ cs : List Nat, (Txt.join "" (cs.map sg)).cps.toList = cs := fun cs => by
  have e : cs.map sg = (cs.map fun c => [c]).map SX.S := by rw [List.map_map] <;> rfl
  have j : ∀ cs : List Nat, TL.joinL [] (cs.map fun c => [c]) = cs := fun cs => by
    induction cs with
    | nil => rfl
    | cons c cs ih =>
      cases cs with
      | nil => rfl
      | cons d cs =>
        have i2 : TL.joinL [] ([d] :: List.map (fun c => [c]) cs) = d :: cs := ih
        rw [List.map_cons, List.map_cons, TL.joinL, i2] <;> rfl
  rw [e, show ("" : Str) = SX.S [] from rfl, SX.join_S, j]
theorem les_sg (a b : Nat) : leS (sg a) (sg b) = true ↔ a ≤ b := by
  unfold leS
  rw [decide_eq_true_eq]
  show [a] ≤ [b] ↔ _
  rw [List.cons_le_cons_iff]
  refine ⟨fun h => ?_, fun h => ?_⟩
  · rcases h with h | ⟨h, _⟩
    · exact Nat.le_of_lt h
    · omega
  · rcases Nat.lt_or_eq_of_le h with h | h
    · exact .inl h
    · exact .inr ⟨h, List.le_refl _⟩
/-- the letters as the constructor joins them -/
theorem letters_are {ys : List Str} {ms : List (Addr × Mv)} (hc : ∀ p ∈ ms, p.2.c ≤ 122) (hy : ∀ y, y ∈ ys ↔ ∃ p ∈ ms, y = sg p.2.c) (nd : ys.Nodup) (srt : ys.Pairwise (fun x y => leS x y = true)) : (Txt.join "" ys).cps.toList = lettersM ms := by
  have ey : ys = (ys.map fun y => y.cps.toList.headD 0).map sg := by
    rw [List.map_map]
    refine (List.map_id ys).symm.trans (List.map_congr_left fun y h => ?_)
    obtain ⟨p, _, rfl⟩ := (hy y).mp h
    rfl
  generalize (ys.map fun y => y.cps.toList.headD 0) = cs at ey
  subst ey
  rw [join_sg]
  refine asc_ext ?_ (lettersM_asc ms) fun c => ?_
  · have n2 : cs.Nodup := (List.pairwise_map.mp nd).imp fun h e => h (by rw [e])
    rw [List.pairwise_map] at srt
    exact (List.Pairwise.and n2 srt).imp fun ⟨h1, h2⟩ => by
      have := (les_sg _ _).mp h2
      omega
  · rw [mem_lettersM hc]
    refine ⟨fun m => ?_, fun ⟨p, hp, e⟩ => ?_⟩
    · obtain ⟨p, hp, e⟩ := (hy (sg c)).mp (List.mem_map.mpr ⟨c, m, rfl⟩)
      exact ⟨p, hp, (List.cons.inj (congrArg (fun y : Str => y.cps.toList) e)).1.symm⟩
    · obtain ⟨d, hd, e2⟩ := List.mem_map.mp ((hy (sg c)).mpr ⟨p, hp, by rw [e]⟩)
      have : d = c := (List.cons.inj (congrArg (fun y : Str => y.cps.toList) e2)).1
      rw [← this]
      exact hd
/-- a machine stands at a -/
structure MachAt (K : PySem.W.Frag) (C : Addr) (H : Hp) (a : Addr) (n st la : Nat) (ms : List (Addr × Mv)) : Prop where
  ok : OkM n st la ms
  ob : ∃ (dx l E F : Addr) (z : Str), H a = some (.ins C dx (mF n st la l z E F)) ∧ MvsAt K H l ms ∧ H E = some (.dT (ents ms)) ∧ H F = some (.dT (lefs ms))
  lt : ∀ (dx l E F : Addr) (z : Str), H a = some (.ins C dx (mF n st la l z E F)) → z.cps.toList = lettersM ms
structure MCls (K : PySem.W.Frag) (C : Addr) : Prop where
  cl : Cls K C
  a1 : NoAttr K C "size"
  a2 : NoAttr K C "first"
  a3 : NoAttr K C "last"
  a4 : NoAttr K C "moves"
  a5 : NoAttr K C "letters"
  a6 : NoAttr K C "_entered"
  a7 : NoAttr K C "_left"
theorem ins_inj {C dx C' dx' : Addr} {fs gs : List (Str × V)} (h : some (HO.ins C dx fs) = some (HO.ins C' dx' gs)) : fs = gs := by
  injection h with h
  injection h
theorem mF_z {n st la n' st' la' : Nat} {l l' E E' F F' : Addr} {z z' : Str} (h : mF n st la l z E F = mF n' st' la' l' z' E' F') : z = z' := by
  have e : (mF n st la l z E F)[4]? = (mF n' st' la' l' z' E' F')[4]? := by rw [h]
  injection e with e
  injection e with _ e
  injection e
theorem seqT_ins {K : PySem.W.Frag} {H : Hp} {a b C dx : Addr} {fs : List (Str × V)} {o : HO} {xs : List V} (h : SqT K H b xs) (ha : H a = some (.ins C dx fs)) : SqT K (upd H a o) b xs := by
  rcases h with (h | ⟨u, h⟩) | h
  · exact .inl (.inl (by rw [upd_ne (ne_of h ha (fun z => by cases z))]; exact h))
  · exact .inl (.inr ⟨u, by rw [upd_ne (ne_of h ha (fun z => by cases z))]; exact h⟩)
  · exact .inr h
theorem mvs_ins {K : PySem.W.Frag} {H : Hp} {a C dx l : Addr} {fs : List (Str × V)} {o : HO} {ms : List (Addr × Mv)} (h : MvsAt K H l ms) (ha : H a = some (.ins C dx fs)) : MvsAt K (upd H a o) l ms := ⟨seqT_ins h.tp ha, fun p hp => seqT_ins (h.it p hp) ha⟩
theorem ones : ∀ {ys : List Str}, (∀ y ∈ ys, y.length = 1) → (ys.map fun x => x.length).sum = ys.length
  | [], _ => rfl
  | y :: ys, h => by
    rw [List.map_cons, List.sum_cons, h y List.mem_cons_self, ones fun z hz => h z (.tail _ hz), List.length_cons]
    omega
theorem nin_take {α : Type} {l : List α} {i : Nat} {x : α} (nd : l.Nodup) (h : l[i]? = some x) : x ∉ l.take i := fun z => by
  have il := (List.getElem?_eq_some_iff.mp h).1
  rw [← List.take_append_drop i l] at nd
  refine (List.nodup_append.mp nd).2.2 x z x ?_ rfl
  rw [List.drop_eq_getElem_cons il]
  rw [List.getElem?_eq_getElem il] at h
  rw [Option.some.inj h]
  exact List.mem_cons_self
theorem val_no {kvs : List (List Key × V)} {k : List Key} (h : k ∉ kvs.map (·.1)) : valV kvs k = none := by
  unfold valV
  rw [List.find?_eq_none.mpr fun q hq z => h (List.mem_map.mpr ⟨q, hq, of_decide_eq_true z⟩)] <;> rfl
theorem nd_map {α β γ : Type} {f : α → β} {g : α → γ} (h : ∀ a b, g a = g b → f a = f b) {l : List α} (nd : (l.map f).Nodup) : (l.map g).Nodup := by
  unfold List.Nodup at nd ⊢
  rw [List.pairwise_map] at nd ⊢
  exact List.Pairwise.imp (fun ne e => ne (h _ _ e)) nd
section
variable {P : Program} {w : World} {K : PySem.W.Frag} {mg : Str → Option Value} {base : Heap}
def spInit (K : PySem.W.Frag) (C : Addr) : Sp := fun vs H Q _ => ∃ (n st la : Nat) (a dx l : Addr) (ms : List (Addr × Mv)), vs = [.ref a, .int (n : Int), .int (st : Int), .int (la : Int), .ref l] ∧ H a = some (.ins C dx []) ∧ MvsAt K H l ms ∧ OkM n st la ms ∧
  ∀ H', (∀ b o, H b = some o → b ≠ a → H' b = some o) → MachAt K C H' a n st la ms → Q .non H'
theorem scI : FnScope ["self", "size", "first", "last", "moves", "move", "source", "letter", "target"] ["self", "size", "first", "last", "moves"] (defScope sInit) := ⟨rfl, rfl, rfl, by decide +kernel, rfl, by decide +kernel, by decide +kernel⟩
theorem ok_init {f fK C : Addr} {fd fdK : FuncData} (F : Fun K "__init__" "Machine.__init__" sInit f fd) (T : Txt8 K mg) (M : MCls K C) (FK : Fun K "check_machine" "check_machine" sCheck fK fdK) (gK : mg "check_machine" = some (.ref fK)) (bK : Binds K fdK ["size", "first", "last", "moves"] [])
    (GK : FnOk P w K mg base CX0 5 fK fdK ["size", "first", "last", "moves"] (spCheck K)) : FnOk P w K mg base CX0 6 f fd ["self", "size", "first", "last", "moves"] (spInit K C) := by
  refine F.ok scI (fun vs H Q E h => ?_) (fun cdv A outer s H vs Q E hr h => ?_)
  · obtain ⟨n, st, la, a, dx, l, ms, rfl, _⟩ := h
    rfl
  · obtain ⟨n, st, la, a, dx, l, ms, rfl, ha, hM, ok, k⟩ := h
    refine ⟨_, (pss_cons (ps_expr (pe_call GK hr rfl gK FK.kp bK .nil pass0 (pa_cons (pv 1) (pa_cons (pv 2) (pa_cons (pv 3) (pa_cons (pv 4) pa_nil))))))
        (pss_cons (ps_fld (pv 0) (pv 1) rfl)
        (pss_cons (ps_fld (pv 0) (pv 2) rfl)
        (pss_cons (ps_fld (pv 0) (pv 3) rfl)
        (pss_cons (ps_fld (pv 0) (pv 4) rfl)
        (pss_cons (ps_fld (pv 0) (pe_join pe_str (pe_callB (cr_sortedTx (by rfl) hr.units) (by rfl) T.srt (by decide +kernel) (pa_cons (pe_callTy (cr_setLT (by rfl)) (by rfl) T.set (by decide +kernel) (pa_cons (pe_lc (own := [("move", 5)]) (g := gName 5) (by rfl) scI.nd (pi_tup (pv 4)) (blkOk_by (own := [("move", 5)]) (N := ["self", "size", "first", "last", "moves", "move", "source", "letter", "target"]) (sc := defScope sInit) (by decide +kernel)) (fun _ _ _ _ _ => (pg_name (i := 5) scI.nd rfl (.inl rfl))) (fun _ _ _ _ _ => pts_nil) (fun _ _ _ _ _ => (pe_ix (r := rIxT K) ix_tup (pv 5) pe_int (fun _ _ => rfl)))) pa_nil)) pa_nil))) rfl)
        (pss_cons (ps_fld (pv 0) (pe_dcT (g := gTup K 3 (gCons (gName 6) (gCons (gName 7) (gCons (gName 8) gNil)))) hr.units (own := [("source", 6), ("letter", 7), ("target", 8)]) (by rfl) scI.nd (pi_tup (pv 4)) (blkOk_by (own := [("source", 6), ("letter", 7), ("target", 8)]) (N := ["self", "size", "first", "last", "moves", "move", "source", "letter", "target"]) (sc := defScope sInit) (by decide +kernel)) (fun _ _ _ _ _ => (pg_tup (by rfl) (pgs_cons (pg_name (i := 6) scI.nd rfl (.inl rfl)) (pgs_cons (pg_name (i := 7) scI.nd rfl (.inl rfl)) (pgs_cons (pg_name (i := 8) scI.nd rfl (.inl rfl)) pgs_nil))))) (fun _ _ _ _ _ => pts_nil) (fun _ _ _ _ _ => (pe_tup (pa_cons (pv 6) (pa_cons (pv 7) pa_nil)))) (fun _ _ _ _ _ => (pv 8))) rfl)
        (pss_one (ps_fld (pv 0) (pe_dcT (g := gTup K 3 (gCons (gName 6) (gCons (gName 7) (gCons (gName 8) gNil)))) hr.units (own := [("source", 6), ("letter", 7), ("target", 8)]) (by rfl) scI.nd (pi_tup (pv 4)) (blkOk_by (own := [("source", 6), ("letter", 7), ("target", 8)]) (N := ["self", "size", "first", "last", "moves", "move", "source", "letter", "target"]) (sc := defScope sInit) (by decide +kernel)) (fun _ _ _ _ _ => (pg_tup (by rfl) (pgs_cons (pg_name (i := 6) scI.nd rfl (.inl rfl)) (pgs_cons (pg_name (i := 7) scI.nd rfl (.inl rfl)) (pgs_cons (pg_name (i := 8) scI.nd rfl (.inl rfl)) pgs_nil))))) (fun _ _ _ _ _ => pts_nil) (fun _ _ _ _ _ => (pe_tup (pa_cons (pv 8) (pa_cons (pv 7) pa_nil)))) (fun _ _ _ _ _ => (pv 6))) rfl))))))))), ?_⟩
    refine ⟨_, rfl, _, rfl, _, rfl, _, rfl, n, st, la, l, ms, rfl, hM, ok, fun H1 S1 => ?_⟩
    have ha1 := S1 _ _ ha
    have hM1 : MvsAt K H1 l ms := ⟨same_seqT S1 hM.tp, fun p hp => same_seqT S1 (hM.it p hp)⟩
    have few := ok.few
    refine ⟨_, rfl, _, rfl, a, C, dx, _, rfl, ha1, M.cl, M.a1, (by show 0 < 1000; decide), ?_⟩
    rw [put1]
    refine ⟨_, rfl, _, rfl, a, C, dx, _, rfl, upd_same, M.cl, M.a2, (by show 1 < 1000; decide), ?_⟩
    rw [upd_upd, put2]
    refine ⟨_, rfl, _, rfl, a, C, dx, _, rfl, upd_same, M.cl, M.a3, (by show 2 < 1000; decide), ?_⟩
    rw [upd_upd, put3]
    refine ⟨_, rfl, _, rfl, a, C, dx, _, rfl, upd_same, M.cl, M.a4, (by show 3 < 1000; decide), ?_⟩
    rw [upd_upd, put4]
    obtain ⟨G, eG⟩ : ∃ G, G = upd H1 a (.ins C dx [("size", .int (n : Int)), ("first", .int (st : Int)), ("last", .int (la : Int)), ("moves", .ref l)]) := ⟨_, rfl⟩
    have hMG : MvsAt K G l ms := by rw [eG]; exact mvs_ins hM1 ha1
    have haG : G a = some (.ins C dx [("size", .int (n : Int)), ("first", .int (st : Int)), ("last", .int (la : Int)), ("moves", .ref l)]) := by rw [eG]; exact upd_same
    have bG : ∀ b o, H b = some o → b ≠ a → G b = some o := fun b o z nb => by rw [eG, upd_ne nb]; exact S1 _ _ z
    rw [← eG]
    refine ⟨⟨_, rfl⟩, _, rfl, l, rfl, ⟨_, hMG.tp⟩, fun D nD => ?_⟩
    refine lc_tup (K := K) (a := l) (xs := ms.map fun p => V.ref p.1) (fun i H' => H' = upd G D (.lst ((ms.take i).map fun p => V.str (sg p.2.c)))) rfl (fun i H' _ e => by rw [e]; exact same_seqT (same_up nD) hMG.tp) ?_ ?_
    · rintro i y H' hi rfl
      rw [List.getElem?_map] at hi
      obtain ⟨p, hp, rfl⟩ := Option.map_eq_some_iff.mp hi
      have hit := same_seqT (same_up (o := .lst ((ms.take i).map fun p => V.str (sg p.2.c))) nD) (hMG.it p (List.mem_of_getElem? hp))
      have il : i < ms.length := (List.getElem?_eq_some_iff.mp hp).1
      refine ⟨rfl, _, rfl, p.1, _, _, _, rfl, rfl, hit, rfl, _, upd_same, by rw [List.length_map, List.length_take, sizeLine_eq]; omega, ?_⟩
      rw [upd_upd, List.take_add_one, hp, List.map_append] <;> rfl
    · rintro H2 rfl
      rw [List.length_map, List.take_length]
      have S2 : Same G (upd G D (.lst (ms.map fun p => V.str (sg p.2.c)))) := same_up nD
      have mm : (ms.map fun p => V.str (sg p.2.c)) = (ms.map fun p => sg p.2.c).map V.str := by rw [List.map_map] <;> rfl
      refine ⟨D, ms.map fun p => sg p.2.c, rfl, SqL.of (by rw [upd_same, mm]), by rw [List.length_map]; unfold scanBound; omega, fun S nS => ?_⟩
      have S3 := S2.trans (same_up (o := SetSO P w S (Vs.putL [] (ms.map fun p => sg p.2.c))) nS)
      refine ⟨S, _, rfl, upd_same, fun ys p pm nd srt np => ?_⟩
      have S4 := S3.trans (same_up (o := .lst (ys.map V.str)) np)
      have y1 : ∀ y ∈ ys, y.length = 1 := fun y hy => by
        rcases Vs.mem_putL.mp (pm.mem_iff.mp hy) with z | z
        · cases z
        · obtain ⟨m, _, rfl⟩ := List.mem_map.mp z
          rfl
      have yl : ys.length ≤ 3999 := by
        rw [pm.length_eq]
        refine Nat.le_trans Vs.len_putL ?_
        rw [List.length_map]
        show 0 + ms.length ≤ 3999
        omega
      refine ⟨_, p, ys, rfl, rfl, .inl (SqL.of upd_same), by rw [ones y1]; show ys.length + ys.length * 0 ≤ 16777216; omega, ?_⟩
      have zl : (Txt.join "" ys).cps.toList = lettersM ms := by
        refine letters_are (fun p hp => (ok.ok p hp).2.2.2) (fun y => ?_) nd srt
        rw [pm.mem_iff, Vs.mem_putL]
        refine ⟨fun h => ?_, fun ⟨p, hp, e⟩ => .inr (List.mem_map.mpr ⟨p, hp, e.symm⟩)⟩
        rcases h with z | z
        · cases z
        · obtain ⟨p, hp, e⟩ := List.mem_map.mp z
          exact ⟨p, hp, e.symm⟩
      obtain ⟨z, ez⟩ : ∃ z, z = Txt.join "" ys := ⟨_, rfl⟩
      rw [← ez] at zl ⊢
      obtain ⟨G4, e4⟩ : ∃ G4, G4 = upd (upd (upd G D (.lst (ms.map fun p => V.str (sg p.2.c)))) S (SetSO P w S (Vs.putL [] (ms.map fun p => sg p.2.c)))) p (.lst (ys.map V.str)) := ⟨_, rfl⟩
      have S4' : Same G G4 := by rw [e4]; exact S4
      have ha4 := S4' _ _ haG
      have hM4 : MvsAt K G4 l ms := ⟨same_seqT S4' hMG.tp, fun p hp => same_seqT S4' (hMG.it p hp)⟩
      have nd0 : (ms.map fun p => entK p.2).Nodup := nd_map (f := fun (p : Addr × Mv) => eK 0 p.2) (g := fun (p : Addr × Mv) => entK p.2) (fun a b e => by
        simp only [entK, List.cons.injEq, Sum.inl.injEq, Sum.inr.injEq, and_true] at e
        simp only [eK, if_true]
        rw [e.1, e.2]) ok.e0
      have nd2 : (ms.map fun p => lefK p.2).Nodup := nd_map (f := fun (p : Addr × Mv) => eK 2 p.2) (g := fun (p : Addr × Mv) => lefK p.2) (fun a b e => by
        simp only [lefK, List.cons.injEq, Sum.inl.injEq, Sum.inr.injEq, and_true] at e
        have h2 : ¬ ((2 : Int) = 0) := by decide
        simp only [eK, if_neg h2]
        rw [e.1, e.2]) ok.e2
      erw [← e4]
      refine ⟨_, rfl, a, C, dx, _, rfl, ha4, M.cl, M.a5, (by show 4 < 1000; decide), ?_⟩
      rw [put5]
      obtain ⟨G5, e5⟩ : ∃ G5, G5 = upd G4 a (.ins C dx [("size", .int (n : Int)), ("first", .int (st : Int)), ("last", .int (la : Int)), ("moves", .ref l), ("letters", .str z)]) := ⟨_, rfl⟩
      have hM5 : MvsAt K G5 l ms := by rw [e5]; exact mvs_ins hM4 ha4
      have ha5 : G5 a = some (.ins C dx [("size", .int (n : Int)), ("first", .int (st : Int)), ("last", .int (la : Int)), ("moves", .ref l), ("letters", .str z)]) := by rw [e5]; exact upd_same
      have b5 : ∀ b o, H b = some o → b ≠ a → G5 b = some o := fun b o y nb => by rw [e5, upd_ne nb]; exact S4' _ _ (bG b o y nb)
      rw [← e5]
      refine ⟨_, rfl, l, rfl, ⟨_, hM5.tp⟩, fun E2 nE => ?_⟩
      refine dcT_tup (K := K) (a := l) (xs := ms.map fun p => V.ref p.1) (fun i H' => Same G5 H' ∧ H' E2 = some (.dT ((ents ms).take i))) ⟨same_up nE, upd_same⟩ (fun i H' _ ⟨S', _⟩ => same_seqT S' hM5.tp) ?_ ?_
      · rintro i y H' hi ⟨S', hE⟩
        rw [List.getElem?_map] at hi
        obtain ⟨p, hp, rfl⟩ := Option.map_eq_some_iff.mp hi
        have il : i < ms.length := (List.getElem?_eq_some_iff.mp hp).1
        have hit := same_seqT S' (hM5.it p (List.mem_of_getElem? hp))
        have no : valV ((ents ms).take i) (entK p.2) = none := by
          refine val_no fun z => nin_take nd0 (show (ms.map fun p => entK p.2)[i]? = some (entK p.2) by rw [List.getElem?_map, hp] <;> rfl) ?_
          rw [← List.map_take]
          unfold ents at z
          rw [← List.map_take, List.map_map] at z
          exact z
        refine ⟨p.1, _, rfl, hit, rfl, _, _, rfl, _, _, rfl, _, _, rfl, rfl, rfl, ?_⟩
        refine ⟨_, rfl, _, rfl, (by show 2 ≤ sizeLine; decide), fun q nq => ⟨_, rfl, (ents ms).take i, entK p.2, q, rfl, upd_same, ?_, ?_, fun c o z => ?_, ?_⟩⟩
        · rw [upd_ne (ne_of_none hE nq)]
          exact hE
        · rw [List.length_take, sizeLine_eq]
          omega
        · rw [upd_ne (ne_of_none z nE)]
          exact same_up nq _ _ (S' _ _ z)
        · rw [upd_same, putK_new _ no, List.take_add_one]
          unfold ents
          rw [List.getElem?_map, hp] <;> rfl
      · rintro H6 ⟨S6, hE6⟩
        rw [List.length_map, show ms.length = (ents ms).length from (List.length_map _).symm, List.take_length] at hE6
        have ha6 := S6 _ _ ha5
        refine ⟨_, rfl, a, C, dx, _, rfl, ha6, M.cl, M.a6, (by show 5 < 1000; decide), ?_⟩
        rw [put6]
        obtain ⟨G7, e7⟩ : ∃ G7, G7 = upd H6 a (.ins C dx [("size", .int (n : Int)), ("first", .int (st : Int)), ("last", .int (la : Int)), ("moves", .ref l), ("letters", .str z), ("_entered", .ref E2)]) := ⟨_, rfl⟩
        have hM6 : MvsAt K H6 l ms := ⟨same_seqT S6 hM5.tp, fun p hp => same_seqT S6 (hM5.it p hp)⟩
        have hM7 : MvsAt K G7 l ms := by rw [e7]; exact mvs_ins hM6 ha6
        have ha7 : G7 a = some (.ins C dx [("size", .int (n : Int)), ("first", .int (st : Int)), ("last", .int (la : Int)), ("moves", .ref l), ("letters", .str z), ("_entered", .ref E2)]) := by rw [e7]; exact upd_same
        have hE7 : G7 E2 = some (.dT (ents ms)) := by rw [e7, upd_ne (ne_of hE6 ha6 (fun y => by cases y))]; exact hE6
        have b7 : ∀ b o, H b = some o → b ≠ a → G7 b = some o := fun b o y nb => by rw [e7, upd_ne nb]; exact S6 _ _ (b5 b o y nb)
        rw [← e7]
        refine ⟨_, rfl, l, rfl, ⟨_, hM7.tp⟩, fun F2 nF => ?_⟩
        refine dcT_tup (K := K) (a := l) (xs := ms.map fun p => V.ref p.1) (fun i H' => Same G7 H' ∧ H' F2 = some (.dT ((lefs ms).take i))) ⟨same_up nF, upd_same⟩ (fun i H' _ ⟨S', _⟩ => same_seqT S' hM7.tp) ?_ ?_
        · rintro i y H' hi ⟨S', hE⟩
          rw [List.getElem?_map] at hi
          obtain ⟨p, hp, rfl⟩ := Option.map_eq_some_iff.mp hi
          have il : i < ms.length := (List.getElem?_eq_some_iff.mp hp).1
          have hit := same_seqT S' (hM7.it p (List.mem_of_getElem? hp))
          have no : valV ((lefs ms).take i) (lefK p.2) = none := by
            refine val_no fun z => nin_take nd2 (show (ms.map fun p => lefK p.2)[i]? = some (lefK p.2) by rw [List.getElem?_map, hp] <;> rfl) ?_
            rw [← List.map_take]
            unfold lefs at z
            rw [← List.map_take, List.map_map] at z
            exact z
          refine ⟨p.1, _, rfl, hit, rfl, _, _, rfl, _, _, rfl, _, _, rfl, rfl, rfl, ?_⟩
          refine ⟨_, rfl, _, rfl, (by show 2 ≤ sizeLine; decide), fun q nq => ⟨_, rfl, (lefs ms).take i, lefK p.2, q, rfl, upd_same, ?_, ?_, fun c o z => ?_, ?_⟩⟩
          · rw [upd_ne (ne_of_none hE nq)]
            exact hE
          · rw [List.length_take, sizeLine_eq]
            omega
          · rw [upd_ne (ne_of_none z nF)]
            exact same_up nq _ _ (S' _ _ z)
          · rw [upd_same, putK_new _ no, List.take_add_one]
            unfold lefs
            rw [List.getElem?_map, hp] <;> rfl
        · rintro H8 ⟨S8, hF8⟩
          rw [List.length_map, show ms.length = (lefs ms).length from (List.length_map _).symm, List.take_length] at hF8
          have ha8 := S8 _ _ ha7
          have hE8 := S8 _ _ hE7
          have hM8 : MvsAt K H8 l ms := ⟨same_seqT S8 hM7.tp, fun p hp => same_seqT S8 (hM7.it p hp)⟩
          refine ⟨_, rfl, a, C, dx, _, rfl, ha8, M.cl, M.a7, (by show 6 < 1000; decide), ?_⟩
          rw [put7]
          refine k _ (fun b o y nb => by rw [upd_ne nb]; exact S8 _ _ (b7 b o y nb)) ⟨ok, ⟨dx, l, E2, F2, z, upd_same, mvs_ins hM8 ha8, ?_, ?_⟩, fun dx' l' E' F' z' h => ?_⟩
          · rw [upd_ne (ne_of hE8 ha8 (fun y => by cases y))]
            exact hE8
          · rw [upd_ne (ne_of hF8 ha8 (fun y => by cases y))]
            exact hF8
          · rw [upd_same] at h
            have e := mF_z (ins_inj h)
            rw [← e]
            exact zl
end
end Vk
set_option Elab.async false
set_option linter.all false
set_option maxRecDepth 100000
set_option maxHeartbeats 4000000
namespace Vk
open PySem PySem.Spec PyProof.Rows L2 Vt
abbrev sAfter : Stmt := inClass (top8 27) 5
abbrev sStateOf : Stmt := inClass (top8 27) 7
abbrev sCont : Stmt := inClass (top8 27) 8
abbrev sWord : Stmt := top8 26
/-- where the move by a letter leads, if there is one -/
def stepM (ms : List (Addr × Mv)) (s c : Nat) : Option Nat := (ms.find? fun p => decide (p.2.s = s ∧ p.2.c = c)).map fun p => p.2.t
def optV : Option Nat → V
  | none => .non
  | some t => .int (t : Int)
def walkM (ms : List (Addr × Mv)) : Nat → List Nat → Option Nat
  | s, [] => some s
  | s, c :: r => (stepM ms s c).bind fun t => walkM ms t r
theorem val_ents (s c : Nat) : ∀ ms : List (Addr × Mv), (valV (ents ms) [Sum.inl (s : Int), Sum.inr (sg c)]).getD .non = optV (stepM ms s c)
  | [] => rfl
  | p :: ms => by
    have e0 : ents (p :: ms) = (entK p.2, V.int (p.2.t : Int)) :: ents ms := rfl
    have ih := val_ents s c ms
    rw [e0]
    unfold valV at ih ⊢
    unfold stepM at ih ⊢
    rw [List.find?_cons, List.find?_cons]
    by_cases e : p.2.s = s ∧ p.2.c = c
    · obtain ⟨rfl, rfl⟩ := e
      rw [decide_eq_true (show entK p.2 = [Sum.inl (p.2.s : Int), Sum.inr (sg p.2.c)] from rfl), decide_eq_true (⟨rfl, rfl⟩ : p.2.s = p.2.s ∧ p.2.c = p.2.c)]
      rfl
    · rw [decide_eq_false e, decide_eq_false (show ¬ entK p.2 = [Sum.inl (s : Int), Sum.inr (sg c)] from fun z => e ?_)]
      · exact ih
      · simp only [entK, List.cons.injEq, Sum.inl.injEq, Sum.inr.injEq, and_true] at z
        refine ⟨Int.ofNat.inj z.1, ?_⟩
        have := congrArg (fun y : Str => y.cps.toList) z.2
        simpa [sg] using this
section
variable {P : Program} {w : World} {K : PySem.W.Frag} {mg : Str → Option Value} {base : Heap}
def spAfter (K : PySem.W.Frag) (C : Addr) : Sp := fun vs H Q _ => ∃ (a : Addr) (n st la s c : Nat) (ms : List (Addr × Mv)), vs = [.ref a, .int (s : Int), .str (sg c)] ∧ MachAt K C H a n st la ms ∧ ∀ H', Same H H' → Q (optV (stepM ms s c)) H'
theorem scA : FnScope ["self", "state", "letter"] ["self", "state", "letter"] (defScope sAfter) := ⟨rfl, rfl, rfl, by decide +kernel, rfl, by decide +kernel, by decide +kernel⟩
theorem lk6 (n st la : Nat) (l : Addr) (z : Str) (E F : Addr) : (mF n st la l z E F).lookup ("_entered" : Str) = some (.ref E) := by rfl
theorem lk2 (n st la : Nat) (l : Addr) (z : Str) (E F : Addr) : (mF n st la l z E F).lookup ("first" : Str) = some (.int (st : Int)) := by rfl
theorem lk3 (n st la : Nat) (l : Addr) (z : Str) (E F : Addr) : (mF n st la l z E F).lookup ("last" : Str) = some (.int (la : Int)) := by rfl
theorem lk1 (n st la : Nat) (l : Addr) (z : Str) (E F : Addr) : (mF n st la l z E F).lookup ("size" : Str) = some (.int (n : Int)) := by rfl
theorem lk4 (n st la : Nat) (l : Addr) (z : Str) (E F : Addr) : (mF n st la l z E F).lookup ("moves" : Str) = some (.ref l) := by rfl
theorem ok_after {f C : Addr} {fd : FuncData} (F : Fun K "after" "Machine.after" sAfter f fd) (M : MCls K C) : FnOk P w K mg base CX0 1 f fd ["self", "state", "letter"] (spAfter K C) := by
  refine F.ok scA (fun vs H Q E h => ?_) (fun cdv A outer s H vs Q E hr h => ?_)
  · obtain ⟨a, n, st, la, s, c, ms, rfl, _⟩ := h
    rfl
  · obtain ⟨a, n, st, la, s, c, ms, rfl, hA, k⟩ := h
    have hu := hu_of hr
    obtain ⟨dx, l, E1, F1, z, ha, hM, hE, hF⟩ := hA.ob
    refine ⟨_, (pss_one (ps_ret (pe_dget1 hu (pe_fld (pv 0) rfl) (pe_tup (pa_cons (pv 1) (pa_cons (pv 2) pa_nil))) ⟨rfl, rfl, rfl, rfl⟩))), ?_⟩
    refine ⟨_, rfl, a, C, dx, _, _, rfl, ha, M.cl, M.a6, lk6 .., E1, rfl, .inr ⟨_, .inl hE⟩, _, rfl, _, rfl, (by show 2 ≤ sizeLine; decide), fun q nq => ?_⟩
    have S1 := same_up (o := .tup [.int (s : Int), .str (sg c)]) nq
    refine ⟨_, DGet.t (k := [Sum.inl (s : Int), Sum.inr (sg c)]) (S1 _ _ hE) upd_same, ?_⟩
    rw [val_ents]
    exact k _ S1
end
end Vk
set_option Elab.async false
set_option linter.all false
set_option maxRecDepth 100000
set_option maxHeartbeats 4000000
namespace Vk
open PySem PySem.Spec PyProof.Rows L2 Vt
theorem for_text {x : Str} {g : TG} {tb : TS} {D : Ends} {σ : L2.St} {H : Hp} (Pv : Nat → L2.St → Hp → Prop) (h0 : Pv 0 σ H)
    (hs : ∀ i c σ H, x.cps[i]? = some c → Pv i σ H → g (.str ⟨#[c]⟩) σ H fun σ2 H2 => tb { D with nx := Pv (i + 1), ct := Pv (i + 1), bk := D.nx } σ2 H2) (hd : ∀ σ H, Pv x.cps.size σ H → D.nx σ H) :
    ∃ W : Nat → Nat → L2.St → Hp → Prop, (∃ m, W 0 m σ H) ∧ ∀ i m σ H, W i m σ H → ((Its x).stop i H ∧ D.nx σ H) ∨ ((Its x).go i H ∧ ∃ N : L2.St → Hp → Prop, (∀ σ' H', N σ' H' → ∃ m', m' < m ∧ W (i + 1) m' σ' H') ∧ ∀ y H', (Its x).yld i H y H' → g y σ H' fun σ2 H2 => tb { D with nx := N, ct := N, bk := D.nx } σ2 H2) := by
  refine ⟨fun i m σ H => m + i = x.cps.size ∧ Pv i σ H, ⟨x.cps.size, rfl, h0⟩, fun i m σ H ⟨em, p⟩ => ?_⟩
  rcases Nat.lt_or_ge i x.cps.size with c | c
  · refine .inr ⟨c, Pv (i + 1), fun σ' H' p' => ⟨m - 1, by omega, by omega, p'⟩, fun y H' ⟨e, z, hz, ey⟩ => ?_⟩
    subst e ey
    exact hs i z σ _ hz p
  · obtain rfl : i = x.cps.size := by omega
    exact .inl ⟨Nat.le_refl _, hd σ H p⟩
theorem lc_text {x : Str} {g : TG} {tt : TT} {te : TE} {vs : List Nat} {σ : L2.St} {H1 : Hp} {D : Addr} {Qd : Hp → Prop} (Pv : Nat → Hp → Prop) (h0 : Pv 0 (upd H1 D (.lst [])))
    (hs : ∀ i c H, x.cps[i]? = some c → Pv i H → g (.str ⟨#[c]⟩) (wipe σ vs) H fun σ2 H2 => wipe σ2 vs = wipe σ vs ∧ tt σ2 H2 fun b H3 => if b = true then te σ2 H3 fun y H4 => ∃ acc, H4 D = some (.lst acc) ∧ acc.length < sizeLine ∧ Pv (i + 1) (upd H4 D (.lst (acc ++ [y]))) else Pv (i + 1) H3)
    (hd : ∀ H, Pv x.cps.size H → Qd H) :
    ∃ W : Nat → Nat → Hp → Prop, (∃ m, W 0 m (upd H1 D (.lst []))) ∧ ∀ i m H, W i m H → ((Its x).stop i H ∧ Qd H) ∨ ((Its x).go i H ∧ ∃ Nx : Hp → Prop, (∀ H', Nx H' → ∃ m', m' < m ∧ W (i + 1) m' H') ∧ ∀ y H', (Its x).yld i H y H' → g y (wipe σ vs) H' fun σ2 H2 => wipe σ2 vs = wipe σ vs ∧ tt σ2 H2 fun b H3 =>
      if b = true then te σ2 H3 fun y H4 => ∃ acc, H4 D = some (.lst acc) ∧ acc.length < sizeLine ∧ Nx (upd H4 D (.lst (acc ++ [y]))) else Nx H3) := by
  refine ⟨fun i m H => m + i = x.cps.size ∧ Pv i H, ⟨x.cps.size, rfl, h0⟩, fun i m H ⟨em, p⟩ => ?_⟩
  rcases Nat.lt_or_ge i x.cps.size with c | c
  · refine .inr ⟨c, Pv (i + 1), fun H' p' => ⟨m - 1, by omega, by omega, p'⟩, fun y H' ⟨e, z, hz, ey⟩ => ?_⟩
    subst e ey
    exact hs i z _ hz p
  · obtain rfl : i = x.cps.size := by omega
    exact .inl ⟨Nat.le_refl _, hd H p⟩
theorem MachAt.same {K : PySem.W.Frag} {C a : Addr} {H H' : Hp} {n st la : Nat} {ms : List (Addr × Mv)} (h : MachAt K C H a n st la ms) (S : Same H H') : MachAt K C H' a n st la ms := by
  obtain ⟨dx, l, E, F, z, ha, hM, hE, hF⟩ := h.ob
  refine ⟨h.ok, ⟨dx, l, E, F, z, S _ _ ha, ⟨same_seqT S hM.tp, fun p hp => same_seqT S (hM.it p hp)⟩, S _ _ hE, S _ _ hF⟩, fun dx' l' E' F' z' y => ?_⟩
  rw [S _ _ ha] at y
  rw [← mF_z (ins_inj y)]
  exact h.lt _ _ _ _ _ ha
section
variable {P : Program} {w : World} {K : PySem.W.Frag} {mg : Str → Option Value} {base : Heap}
def spStateOf (K : PySem.W.Frag) (C : Addr) : Sp := fun vs H Q _ => ∃ (a : Addr) (n st la : Nat) (x : Str) (ms : List (Addr × Mv)), vs = [.ref a, .str x] ∧ MachAt K C H a n st la ms ∧ ∀ H', Same H H' → Q (optV (walkM ms st x.cps.toList)) H'
theorem scO : FnScope ["self", "word", "state", "letter"] ["self", "word"] (defScope sStateOf) := ⟨rfl, rfl, rfl, by decide +kernel, rfl, by decide +kernel, by decide +kernel⟩
theorem no_after (n st la : Nat) (l : Addr) (z : Str) (E F : Addr) : (mF n st la l z E F).lookup ("after" : Str) = none := by rfl
theorem ok_stateof {f fA C : Addr} {fd fdA : FuncData} (F : Fun K "state_of" "Machine.state_of" sStateOf f fd) (M : MCls K C) (mA : Meth K C "after" fA) (FA : Fun K "after" "Machine.after" sAfter fA fdA) (bA : Binds K fdA ["self", "state", "letter"] []) :
    FnOk P w K mg base CX0 2 f fd ["self", "word"] (spStateOf K C) := by
  have GA : FnOk P w K mg base CX0 1 fA fdA ["self", "state", "letter"] (spAfter K C) := ok_after FA M
  refine F.ok scO (fun vs H Q E h => ?_) (fun cdv A outer s H vs Q E hr h => ?_)
  · obtain ⟨a, n, st, la, x, ms, rfl, _⟩ := h
    rfl
  · obtain ⟨a, n, st, la, x, ms, rfl, hA, k⟩ := h
    obtain ⟨dx, l, E1, F1, z, ha, _⟩ := hA.ob
    refine ⟨_, (pss_cons (ps_set (i := 2) scO.nd rfl (.inl rfl) (pe_fld (pv 0) rfl))
        (pss_cons (ps_for PassesOwn.never rfl (pi_str (pv 1)) (pg_name (i := 3) scO.nd rfl (.inl rfl)) (pss_cons (ps_set (i := 2) scO.nd rfl (.inl rfl) (pe_meth (pv 0) M.cl mA GA hr bA .nil pass0 (pa_cons (pv 2) (pa_cons (pv 3) pa_nil))))
        (pss_one (ps_if (pt_cmpR op_isN (pv 2) pe_non (nomark _)) (pss_one (ps_ret pe_non)) pss_nil))))
        (pss_one (ps_ret (pv 2))))), ?_⟩
    refine ⟨_, rfl, a, C, dx, _, _, rfl, ha, M.cl, M.a2, lk2 .., ?_⟩
    refine ⟨_, rfl, x, rfl, ?_⟩
    refine for_text (x := x) (fun i σ H' => ∃ (s : Nat) (v : Option V), σ = [some (.ref a), some (.str x), some (.int (s : Int)), v] ∧ Same H H' ∧ walkM ms st x.cps.toList = walkM ms s (x.cps.toList.drop i)) ⟨st, none, rfl, Same.refl _, by rw [List.drop_zero]⟩ ?_ ?_
    · rintro i c σ H' hi ⟨s, v, rfl, S', e⟩
      have hA' := hA.same S'
      obtain ⟨dx', l', E', F', z', ha', _⟩ := hA'.ob
      have hd : x.cps.toList.drop i = c :: x.cps.toList.drop (i + 1) := by
        have il : i < x.cps.toList.length := by
          rw [← Array.getElem?_toList] at hi
          exact (List.getElem?_eq_some_iff.mp hi).1
        rw [List.drop_eq_getElem_cons il]
        rw [← Array.getElem?_toList, List.getElem?_eq_getElem il] at hi
        rw [Option.some.inj hi]
      rw [hd, walkM] at e
      refine ⟨_, rfl, a, dx', _, rfl, ha', no_after .., _, rfl, _, rfl, a, n, st, la, s, c, ms, rfl, hA', fun H2 S2 => ?_⟩
      cases ez : stepM ms s c with
      | none =>
        rw [ez] at e
        refine ⟨_, rfl, rfl, _, rfl, ?_⟩
        refine iteT ?_
        have := k H2 (S'.trans S2)
        rw [e] at this
        exact this
      | some t =>
        rw [ez] at e
        refine ⟨_, rfl, rfl, _, rfl, ?_⟩
        refine iteF ?_
        exact ⟨t, _, rfl, S'.trans S2, e⟩
    · rintro σ H' ⟨s, v, rfl, S', e⟩
      have hl : x.cps.toList.drop x.cps.size = [] := List.drop_of_length_le (by rw [Array.length_toList]; exact Nat.le_refl _)
      rw [hl, walkM] at e
      refine ⟨_, rfl, ?_⟩
      have := k H' S'
      rw [e] at this
      exact this
end
end Vk
set_option Elab.async false
set_option linter.all false
set_option maxRecDepth 100000
set_option maxHeartbeats 4000000
namespace Vk
open PySem PySem.Spec PyProof.Rows L2 Vt
def OkW (x : Str) : Prop := (∀ c ∈ x.cps.toList, 97 ≤ c ∧ c ≤ 122) ∧ x.cps.size ≤ 100000
section
variable {P : Program} {w : World} {K : PySem.W.Frag} {mg : Str → Option Value} {base : Heap}
def spWord : Sp := fun vs H Q _ => ∃ x : Str, vs = [.str x] ∧ OkW x ∧ ∀ H', Same H H' → Q (.bl true) H'
theorem scZ : FnScope ["thing", "sign"] ["thing"] (defScope sWord) := ⟨rfl, rfl, rfl, by decide +kernel, rfl, by decide +kernel, by decide +kernel⟩
theorem ok_word {f fE : Addr} {fd fdE : FuncData} (F : Fun K "is_word" "is_word" sWord f fd) (T : Txt8 K mg) (mall : mg "all" = none) (FE : Fun K "is_letter" "is_letter" sLet fE fdE) (gE : mg "is_letter" = some (.ref fE)) (bE : Binds K fdE ["thing"] []) :
    FnOk P w K mg base CX0 2 f fd ["thing"] spWord := by
  have GE : FnOk P w K mg base CX0 1 fE fdE ["thing"] spLet := ok_let FE T
  refine F.ok scZ (fun vs H Q E h => ?_) (fun cdv A outer s H vs Q E hr h => ?_)
  · obtain ⟨x, rfl, _⟩ := h
    rfl
  · obtain ⟨x, rfl, ⟨h1, h2⟩, k⟩ := h
    refine ⟨_, (pss_one (ps_ret (pe_and (pe_callB call_isi (by rfl) T.isi (by decide +kernel) (pa_cons (pv 0) (pa_cons (pe_bltn (v := .ty "str") (by rfl) T.str (by decide +kernel) rfl) pa_nil))) (pe_one (pe_callB (cr_all (by rfl)) (by rfl) mall (by decide +kernel) (pa_cons (pe_lc (own := [("sign", 1)]) (g := gName 1) (by rfl) scZ.nd (pi_str (pv 0)) (blkOk_by (own := [("sign", 1)]) (N := ["thing", "sign"]) (sc := defScope sWord) (by decide +kernel)) (fun _ _ _ _ _ => (pg_name (i := 1) scZ.nd rfl (.inl rfl))) (fun _ _ _ _ _ => pts_nil) (fun _ _ _ _ _ => (pe_call GE hr rfl gE FE.kp bE .nil pass0 (pa_cons (pv 1) pa_nil)))) pa_nil)))))), ?_⟩
    refine ⟨_, rfl, _, _, _, _, true, rfl, .ty "str", .base (.str _), rfl, _, rfl, ?_⟩
    refine iteT ?_
    refine ⟨_, rfl, x, rfl, fun D nD => ?_⟩
    refine lc_text (x := x) (fun i H' => H' = upd H D (.lst ((List.replicate i true).map V.bl))) rfl ?_ ?_
    · rintro i c H' hi rfl
      have hc := h1 c (by rw [← Array.getElem?_toList] at hi; exact List.mem_of_getElem? hi)
      have il : i < x.cps.size := (Array.getElem?_eq_some_iff.mp hi).1
      refine ⟨rfl, _, rfl, c, rfl, hc.1, hc.2, _, upd_same, by rw [List.length_map, List.length_replicate, sizeLine_eq]; omega, ?_⟩
      rw [upd_upd, List.replicate_succ', List.map_append] <;> rfl
    · rintro H' rfl
      refine ⟨D, List.replicate x.cps.size true, rfl, SqL.of upd_same, ?_⟩
      have e : (List.replicate x.cps.size true).all id = true := by simp
      rw [e]
      exact k _ (same_up nD)
def spCont (K : PySem.W.Frag) (C : Addr) : Sp := fun vs H Q _ => ∃ (a : Addr) (n st la : Nat) (x : Str) (ms : List (Addr × Mv)), vs = [.ref a, .str x] ∧ OkW x ∧ MachAt K C H a n st la ms ∧ ∀ H', Same H H' → Q (.bl (decide (walkM ms st x.cps.toList = some la))) H'
theorem scQ : FnScope ["self", "word"] ["self", "word"] (defScope sCont) := ⟨rfl, rfl, rfl, by decide +kernel, rfl, by decide +kernel, by decide +kernel⟩
theorem no_stateof (n st la : Nat) (l : Addr) (z : Str) (E F : Addr) : (mF n st la l z E F).lookup ("state_of" : Str) = none := by rfl
theorem ok_cont {f fZ fO C : Addr} {fd fdZ fdO : FuncData} (F : Fun K "__contains__" "Machine.__contains__" sCont f fd) (M : MCls K C) (FZ : Fun K "is_word" "is_word" sWord fZ fdZ) (gZ : mg "is_word" = some (.ref fZ)) (bZ : Binds K fdZ ["thing"] []) (GZ : FnOk P w K mg base CX0 2 fZ fdZ ["thing"] spWord)
    (mO : Meth K C "state_of" fO) (FO : Fun K "state_of" "Machine.state_of" sStateOf fO fdO) (bO : Binds K fdO ["self", "word"] []) (GO : FnOk P w K mg base CX0 2 fO fdO ["self", "word"] (spStateOf K C)) : FnOk P w K mg base CX0 3 f fd ["self", "word"] (spCont K C) := by
  refine F.ok scQ (fun vs H Q E h => ?_) (fun cdv A outer s H vs Q E hr h => ?_)
  · obtain ⟨a, n, st, la, x, ms, rfl, _⟩ := h
    rfl
  · obtain ⟨a, n, st, la, x, ms, rfl, ox, hA, k⟩ := h
    refine ⟨_, (pss_one (ps_ret (pe_and (pe_call GZ hr rfl gZ FZ.kp bZ .nil pass0 (pa_cons (pv 1) pa_nil)) (pe_one (pe_cmpR op_eq (pe_meth (pv 0) M.cl mO GO hr bO .nil pass0 (pa_cons (pv 1) pa_nil)) (pe_fld (pv 0) rfl) (nomark _)))))), ?_⟩
    refine ⟨_, rfl, x, rfl, ox, fun H1 S1 => ⟨_, rfl, ?_⟩⟩
    refine iteT ?_
    have hA1 := hA.same S1
    obtain ⟨dx, l, E1, F1, z, ha, _⟩ := hA1.ob
    refine ⟨_, rfl, a, dx, _, rfl, ha, no_stateof .., _, rfl, a, n, st, la, x, ms, rfl, hA1, fun H2 S2 => ?_⟩
    obtain ⟨dx2, l2, E2, F2, z2, ha2, _⟩ := (hA1.same S2).ob
    refine ⟨_, rfl, a, C, dx2, _, _, rfl, ha2, M.cl, M.a3, lk3 .., ?_⟩
    have fin := k H2 (S1.trans S2)
    cases ew : walkM ms st x.cps.toList with
    | none =>
      rw [ew] at fin
      exact ⟨rfl, fin⟩
    | some t =>
      rw [ew] at fin
      refine ⟨rfl, ?_⟩
      have e : decide (V.int (t : Int) = V.int (la : Int)) = decide (some t = some la) := by
        by_cases y : t = la
        · rw [y]
          simp
        · rw [decide_eq_false (show ¬ V.int (t : Int) = V.int (la : Int) from fun z => y (by injection z with z; omega)), decide_eq_false (fun z => y (Option.some.inj z))]
      show Q (.bl (decide (V.int (t : Int) = V.int (la : Int)))) H2
      rw [e]
      exact fin
end
end Vk
set_option Elab.async false
set_option linter.all false
set_option maxRecDepth 100000
set_option maxHeartbeats 4000000
namespace Vk
open PySem PySem.Spec PyProof.Rows L2 Vt
abbrev sEq : Stmt := inClass (top8 27) 2
theorem shaped_mvsT (ms : List (Addr × Mv)) (hc : ∀ p ∈ ms, p.2.c ≤ 122) : SeqAt.shaped (.tuple (ms.map fun p => mvD p.2)) = true := by
  obtain ⟨h1, h2⟩ := lay_mvs ms hc
  unfold SeqAt.shaped
  rw [Bool.and_eq_true, decide_eq_true_eq]
  refine ⟨by rw [PyData.canLay0]; exact h1, ?_⟩
  rw [PyData.depth]
  omega
section
variable {P : Program} {w : World} {K : PySem.W.Frag} {mg : Str → Option Value} {base : Heap}
/-- equal parts: equal machines -/
def spEqM (K : PySem.W.Frag) (C : Addr) : Sp := fun vs H Q _ => ∃ (a b : Addr) (n st la : Nat) (ms1 ms2 : List (Addr × Mv)), vs = [.ref a, .ref b] ∧ MachAt K C H a n st la ms1 ∧ MachAt K C H b n st la ms2 ∧ ms1.map (·.2) = ms2.map (·.2) ∧ Q (.bl true) H
theorem scEq : FnScope ["self", "other"] ["self", "other"] (defScope sEq) := ⟨rfl, rfl, rfl, by decide +kernel, rfl, by decide +kernel, by decide +kernel⟩
theorem ok_eq {f C : Addr} {fd : FuncData} (F : Fun K "__eq__" "Machine.__eq__" sEq f fd) (T : Txt8 K mg) (M : MCls K C) (IC : C8.InsC K C) (gM : mg "Machine" = some (.ref C)) : FnOk P w K mg base CX0 1 f fd ["self", "other"] (spEqM K C) := by
  refine F.ok scEq (fun vs H Q E h => ?_) (fun cdv A outer s H vs Q E hr h => ?_)
  · obtain ⟨a, b, n, st, la, ms1, ms2, rfl, _⟩ := h
    rfl
  · obtain ⟨a, b, n, st, la, ms1, ms2, rfl, hA, hB, em, k⟩ := h
    obtain ⟨d1, l1, E1, F1, z1, ha, hM1, _⟩ := hA.ob
    obtain ⟨d2, l2, E2, F2, z2, hb, hM2, _⟩ := hB.ob
    refine ⟨_, (pss_one (ps_ret (pe_and (pe_callB (C8.call_isC IC) (by rfl) T.isi (by decide +kernel) (pa_cons (pv 1) (pa_cons (pe_glob (v := .ref C) (by rfl) gM rfl) pa_nil))) (pe_and (pe_cmpR op_eq (pe_fld (pv 0) rfl) (pe_fld (pv 1) rfl) (nomark _)) (pe_and (pe_cmpR op_eq (pe_fld (pv 0) rfl) (pe_fld (pv 1) rfl) (nomark _)) (pe_and (pe_cmpR op_eq (pe_fld (pv 0) rfl) (pe_fld (pv 1) rfl) (nomark _)) (pe_one (pe_cmpR (op_eqD hr.units) (pe_fld (pv 0) rfl) (pe_fld (pv 1) rfl) (nomark _))))))))), ?_⟩
    refine ⟨_, rfl, b, d2, _, rfl, hb, _, rfl, ?_⟩
    refine iteT ?_
    refine ⟨_, rfl, a, C, d1, _, _, rfl, ha, M.cl, M.a1, lk1 .., _, rfl, b, C, d2, _, _, rfl, hb, M.cl, M.a1, lk1 .., rfl, _, rfl, ?_⟩
    rw [decide_eq_true rfl]
    refine iteT ?_
    refine ⟨_, rfl, a, C, d1, _, _, rfl, ha, M.cl, M.a2, lk2 .., _, rfl, b, C, d2, _, _, rfl, hb, M.cl, M.a2, lk2 .., rfl, _, rfl, ?_⟩
    rw [decide_eq_true rfl]
    refine iteT ?_
    refine ⟨_, rfl, a, C, d1, _, _, rfl, ha, M.cl, M.a3, lk3 .., _, rfl, b, C, d2, _, _, rfl, hb, M.cl, M.a3, lk3 .., rfl, _, rfl, ?_⟩
    rw [decide_eq_true rfl]
    refine iteT ?_
    refine ⟨_, rfl, a, C, d1, _, _, rfl, ha, M.cl, M.a4, lk4 .., _, rfl, b, C, d2, _, _, rfl, hb, M.cl, M.a4, lk4 .., ?_⟩
    have e2 : (ms2.map fun p => mvD p.2) = ms1.map fun p => mvD p.2 := by
      have := congrArg (List.map mvD) em
      rw [List.map_map, List.map_map] at this
      exact this.symm
    have hc : ∀ p ∈ ms1, p.2.c ≤ 122 := fun p hp => (hA.ok.ok p hp).2.2.2
    have dp2 := dp_mvs hM2.it
    rw [e2] at dp2
    refine ⟨.tuple (ms1.map fun (p : Addr × Mv) => mvD p.2), .tuple (ms1.map fun (p : Addr × Mv) => mvD p.2), Dp.tup (K := K) hM1.tp (dp_mvs hM1.it), Dp.tup (K := K) hM2.tp dp2, shaped_mvsT ms1 hc, shaped_mvsT ms1 hc, ?_⟩
    rw [PySem.SeqAt.eqv_refl _ (SeqAt.canLay_of_shaped (shaped_mvsT ms1 hc))]
    exact k
end
end Vk
set_option Elab.async false
set_option linter.all false
set_option maxRecDepth 100000
set_option maxHeartbeats 4000000
namespace Vk
open PySem PySem.Spec PyProof.Rows L2 Vt
/-! ## which rows of moves make a machine: a look that the kernel can take -/
def mvLt (a b : Mv) : Prop := a.s < b.s ∨ a.s = b.s ∧ (a.c < b.c ∨ a.c = b.c ∧ a.t < b.t)
theorem mvLt_trans {a b c : Mv} (h : mvLt a b) (k : mvLt b c) : mvLt a c := by
  unfold mvLt at *
  omega
theorem blt_int {i j : Int} (h : i < j) : itemOrd.blt (.inl i) (.inl j) = true := by
  show decide (i < j) = true
  exact decide_eq_true h
theorem blt_txt {c d : Nat} (h : c < d) : itemOrd.blt (.inr [c]) (.inr [d]) = true := by
  show decide (([c] : List Nat) < [d]) = true
  refine decide_eq_true ?_
  exact List.Lex.rel h
theorem leM_lt {a b : Mv} (h : mvLt a b) (p q : Addr) : leM (q, mvK b) (p, mvK a) = false := by
  have z : PySem.W.dataLt (encM (p, mvK a)) (encM (q, mvK b)) = true := by
    show lexLt itemOrd [.inl 1, .inl (a.s : Int), .inl 1, .inr [a.c], .inl 1, .inl (a.t : Int), .inl 0] [.inl 1, .inl (b.s : Int), .inl 1, .inr [b.c], .inl 1, .inl (b.t : Int), .inl 0] = true
    rw [lex_self (O := itemOrd)]
    rcases h with h | ⟨h1, h⟩
    · exact lex_true.mpr (.inl (blt_int (by omega)))
    rw [h1, lex_self (O := itemOrd), lex_self (O := itemOrd)]
    rcases h with h | ⟨h1, h⟩
    · exact lex_true.mpr (.inl (blt_txt h))
    rw [h1, lex_self (O := itemOrd), lex_self (O := itemOrd)]
    exact lex_true.mpr (.inl (blt_int (by omega)))
  show (!PySem.W.dataLt (encM (p, mvK a)) (encM (q, mvK b))) = false
  rw [z]
  rfl
def mvLtB (a b : Mv) : Bool := Nat.blt a.s b.s || (Nat.beq a.s b.s && (Nat.blt a.c b.c || (Nat.beq a.c b.c && Nat.blt a.t b.t)))
theorem mvLt_of {a b : Mv} (h : mvLtB a b = true) : mvLt a b := by
  unfold mvLtB at h
  rw [Bool.or_eq_true, Bool.and_eq_true, Bool.or_eq_true, Bool.and_eq_true] at h
  rcases h with h | ⟨h1, h | ⟨h2, h3⟩⟩
  · exact .inl (Nat.le_of_ble_eq_true h)
  · exact .inr ⟨Nat.eq_of_beq_eq_true h1, .inl (Nat.le_of_ble_eq_true h)⟩
  · exact .inr ⟨Nat.eq_of_beq_eq_true h1, .inr ⟨Nat.eq_of_beq_eq_true h2, Nat.le_of_ble_eq_true h3⟩⟩
def upB : Mv → List Mv → Bool
  | _, [] => true
  | m, b :: r => mvLtB m b && upB b r
def ascB : List Mv → Bool
  | [] => true
  | m :: r => upB m r
theorem up_all : ∀ {r : List Mv} {m : Mv}, upB m r = true → (∀ x ∈ r, mvLt m x) ∧ r.Pairwise mvLt
  | [], _, _ => ⟨(fun _ h => nomatch h), List.Pairwise.nil⟩
  | b :: r, m, h => by
    rw [upB, Bool.and_eq_true] at h
    obtain ⟨h1, h2⟩ := up_all h.2
    have mb := mvLt_of h.1
    refine ⟨fun x hx => ?_, .cons h1 h2⟩
    rcases List.mem_cons.mp hx with rfl | hx
    · exact mb
    · exact mvLt_trans mb (h1 x hx)
theorem asc_of : ∀ {l : List Mv}, ascB l = true → l.Pairwise mvLt
  | [], _ => List.Pairwise.nil
  | _ :: _, h => .cons (up_all h).1 (up_all h).2
def eachB : List Nat → Bool
  | [] => true
  | x :: r => r.all (fun y => !Nat.beq x y) && eachB r
theorem each_of : ∀ {l : List Nat}, eachB l = true → l.Nodup
  | [], _ => List.Pairwise.nil
  | x :: r, h => by
    rw [eachB, Bool.and_eq_true] at h
    refine List.nodup_cons.mpr ⟨fun hx => ?_, each_of h.2⟩
    have := List.all_eq_true.mp h.1 x hx
    rw [Nat.beq_refl] at this
    cases this
def passB (S : List Nat) : List (Nat × Nat) → List Nat
  | [] => S
  | e :: r => bif S.any (Nat.beq e.1) && !S.any (Nat.beq e.2) then passB (e.2 :: S) r else passB S r
theorem any_mem {S : List Nat} {x : Nat} (h : S.any (Nat.beq x) = true) : x ∈ S := by
  obtain ⟨y, hy, e⟩ := List.any_eq_true.mp h
  rw [Nat.eq_of_beq_eq_true e]
  exact hy
theorem pass_in {T : List Nat} : ∀ {es : List (Nat × Nat)} {S : List Nat}, (∀ e ∈ es, e.1 ∈ T → e.2 ∈ T) → (∀ x ∈ S, x ∈ T) → ∀ x ∈ passB S es, x ∈ T
  | [], _, _, h => h
  | e :: r, S, c, h => by
    rw [passB]
    cases z : S.any (Nat.beq e.1) && !S.any (Nat.beq e.2) with
    | false => exact pass_in (fun e he => c e (.tail _ he)) h
    | true =>
      refine pass_in (fun e he => c e (.tail _ he)) fun x hx => ?_
      rcases List.mem_cons.mp hx with rfl | hx
      · exact c e List.mem_cons_self (h _ (any_mem (Bool.and_eq_true_iff.mp z).1))
      · exact h x hx
def allPass (n : Nat) : Nat → List Nat → List (Nat × Nat) → List Nat
  | 0, S, _ => S
  | k + 1, S, es => bif Nat.ble n S.length then S else allPass n k (passB S es) es
theorem all_in {n : Nat} {T : List Nat} {es : List (Nat × Nat)} (c : ∀ e ∈ es, e.1 ∈ T → e.2 ∈ T) : ∀ {k : Nat} {S : List Nat}, (∀ x ∈ S, x ∈ T) → ∀ x ∈ allPass n k S es, x ∈ T
  | 0, _, h => h
  | k + 1, S, h => by
    rw [allPass]
    cases Nat.ble n S.length with
    | true => exact h
    | false => exact all_in c (pass_in c h)
def connB (n st : Nat) (es : List (Nat × Nat)) : Bool := (List.range n).all fun x => (allPass n n [st] es).any (Nat.beq x)
theorem conn_of {n st : Nat} {es : List (Nat × Nat)} (h : connB n st es = true) : Conn n st es := fun S hs c x hx => by
  refine all_in c (k := n) (n := n) (S := [st]) (fun y hy => ?_) x (any_mem (List.all_eq_true.mp h x (List.mem_range.mpr hx)))
  rw [List.mem_singleton.mp hy]
  exact hs
def okMB (n st la : Nat) (l : List Mv) : Bool :=
  (Nat.ble 1 n && Nat.ble n 999 && Nat.blt st n && Nat.blt la n) && (l.all fun m => Nat.blt m.s n && Nat.blt m.t n && Nat.ble 97 m.c && Nat.ble m.c 122) &&
  ascB l && eachB (l.map fun m => m.c * 1000 + m.s) && eachB (l.map fun m => m.c * 1000 + m.t) && Nat.ble l.length 3999 &&
  connB n st (l.map fun m => (m.s, m.t)) && connB n la (l.map fun m => (m.t, m.s))
theorem nod_eK (e : Int) (he : e = 0 ∨ e = 2) {ms : List (Addr × Mv)} {n : Nat} (h9 : n ≤ 999) (ok : ∀ p ∈ ms, OkMv n p.2) (h : (ms.map fun p => p.2.c * 1000 + (if e = 0 then p.2.s else p.2.t)).Nodup) : (ms.map fun p => eK e p.2).Nodup := by
  unfold List.Nodup at *
  rw [List.pairwise_map] at *
  refine List.Pairwise.imp (fun {x y} z q => z ?_) h
  unfold eK at q
  injection q with q1 q2
  injection q2 with q2 _
  injection q1 with q1
  injection q2 with q2
  have c : x.2.c = y.2.c := by
    unfold sg at q1
    injection q1 with q1
    have := congrArg (fun a : Array Nat => a.toList) q1
    exact (List.cons.inj this).1
  rw [c]
  by_cases z0 : e = 0
  · rw [if_pos z0, if_pos z0] at *
    omega
  · rw [if_neg z0, if_neg z0] at *
    omega
theorem okM_of {n st la : Nat} {l : List Mv} (h : okMB n st la l = true) {ms : List (Addr × Mv)} (e : ms.map (·.2) = l) : OkM n st la ms := by
  subst e
  unfold okMB at h
  simp only [Bool.and_eq_true] at h
  obtain ⟨⟨⟨⟨⟨⟨⟨⟨⟨⟨h1, h2⟩, h3⟩, h4⟩, h5⟩, h6⟩, h7⟩, h8⟩, h9⟩, h10⟩, h11⟩ := h
  have n9 : n ≤ 999 := Nat.le_of_ble_eq_true h2
  have ok : ∀ p ∈ ms, OkMv n p.2 := fun p hp => by
    have := List.all_eq_true.mp h5 p.2 (List.mem_map.mpr ⟨p, hp, rfl⟩)
    simp only [Bool.and_eq_true] at this
    obtain ⟨⟨⟨a, b⟩, c⟩, d⟩ := this
    exact ⟨Nat.le_of_ble_eq_true a, Nat.le_of_ble_eq_true b, Nat.le_of_ble_eq_true c, Nat.le_of_ble_eq_true d⟩
  refine ⟨Nat.le_of_ble_eq_true h1, n9, Nat.le_of_ble_eq_true h3, Nat.le_of_ble_eq_true h4, ok, ?_, nod_eK 0 (.inl rfl) n9 ok ?_, nod_eK 2 (.inr rfl) n9 ok ?_, ?_, ?_, ?_⟩
  · have := asc_of h6
    rw [List.pairwise_map] at this
    unfold Asc
    rw [List.pairwise_map]
    exact this.imp fun {x y} z => leM_lt z x.1 y.1
  · have := each_of h7
    rw [List.map_map] at this
    exact this
  · have := each_of h8
    rw [List.map_map] at this
    exact this
  · have := Nat.le_of_ble_eq_true h9
    rw [List.length_map] at this
    exact this
  · have := conn_of h10
    rw [List.map_map] at this
    exact this
  · have := conn_of h11
    rw [List.map_map] at this
    exact this
def ringL (n : Nat) : List Mv := (List.range n).map fun s => ⟨s, 97, (s + 1) % n⟩
def corrL (n : Nat) : List Mv := (List.range n).flatMap fun s => (if s + 1 < n then [⟨s, 97, s + 1⟩] else []) ++ (if 0 < s then [⟨s, 98, s - 1⟩] else [])
def allL (n : Nat) : List Mv := (List.range n).flatMap fun s => (List.range (n - 1)).map fun f => ⟨s, 97 + f, (s + (f + 1)) % n⟩
theorem ring_look : ((List.range 20).all fun k => okMB (k + 1) 0 0 (ringL (k + 1))) = true := by decide +kernel
theorem corr_look : ((List.range 20).all fun k => okMB (k + 1) 0 0 (corrL (k + 1))) = true := by decide +kernel
theorem all_look : ((List.range 20).all fun k => okMB (k + 1) 0 0 (allL (k + 1))) = true := by decide +kernel
theorem look_at {f : Nat → List Mv} (h : ((List.range 20).all fun k => okMB (k + 1) 0 0 (f (k + 1))) = true) {n : Nat} (h1 : 1 ≤ n) (h2 : n ≤ 20) : okMB n 0 0 (f n) = true := by
  have := List.all_eq_true.mp h (n - 1) (List.mem_range.mpr (by omega))
  rw [Nat.sub_add_cancel h1] at this
  exact this
end Vk
set_option Elab.async false
set_option linter.all false
set_option maxRecDepth 100000
set_option maxHeartbeats 4000000
namespace Vk
open PySem PySem.Spec PyProof.Rows L2 Vt
abbrev sRing : Stmt := top8 33
section
variable {P : Program} {w : World} {K : PySem.W.Frag} {mg : Str → Option Value} {base : Heap}
/-- a maker: the machine of that size with those moves -/
def spMk (K : PySem.W.Frag) (C : Addr) (f : Nat → List Mv) : Sp := fun vs H Q _ => ∃ n : Nat, vs = [.int (n : Int)] ∧ 1 ≤ n ∧ n ≤ 20 ∧ ∀ (H' : Hp) (a : Addr) (ms : List (Addr × Mv)), Same H H' → H a = none → ms.map (·.2) = f n → MachAt K C H' a n 0 0 ms → Q (.ref a) H'
theorem scRg : FnScope ["size", "moves", "state"] ["size"] (defScope sRing) := ⟨rfl, rfl, rfl, by decide +kernel, rfl, by decide +kernel, by decide +kernel⟩
theorem ok_ring {f C fI : Addr} {fd fdI : FuncData} (F : Fun K "ring" "ring" sRing f fd) (T : Txt8 K mg) (MK : Mk K C fI) (gM : mg "Machine" = some (.ref C)) (bI : Binds K fdI ["self", "size", "first", "last", "moves"] [])
    (FI : FnOk P w K mg base CX0 6 fI fdI ["self", "size", "first", "last", "moves"] (spInit K C)) : FnOk P w K mg base CX0 8 f fd ["size"] (spMk K C ringL) := by
  refine F.ok scRg (fun vs H Q E h => ?_) (fun cdv A outer s H vs Q E hr h => ?_)
  · obtain ⟨n, rfl, _⟩ := h
    rfl
  · obtain ⟨n, rfl, n1, n2, k⟩ := h
    refine ⟨_, (pss_cons (ps_setLc (i := 1) (own := [("state", 2)]) (g := gName 2) (by rfl) scRg.nd rfl rfl (sw_true rfl rfl rfl (by decide +kernel)) (pi_range1 (by rfl) T.rng (pa_cons (pv 0) pa_nil)) (blkOk_by (own := [("state", 2)]) (N := ["size", "moves", "state"]) (sc := defScope sRing) (by decide +kernel)) (fun _ _ _ _ _ => (pg_name (i := 2) scRg.nd rfl (.inl rfl))) (fun _ _ _ _ _ => pts_nil) (fun _ _ _ _ _ => (pe_tup (pa_cons (pv 2) (pa_cons pe_str (pa_cons (pe_op op_mod (pe_op op_add (pv 2) pe_int) (pv 0)) pa_nil))))))
        (pss_one (ps_ret (pe_make MK FI hr rfl gM bI .nil pass0 (pa_cons (pv 0) (pa_cons pe_int (pa_cons pe_int (pa_cons (pe_callTy call_tuple_of (by rfl) T.tup (by decide +kernel) (pa_cons (pv 1) pa_nil)) pa_nil)))))))), ?_⟩
    refine ⟨_, rfl, n, rfl, by omega, by omega, fun D nD => ?_⟩
    refine lc_range (n := n) (fun i H' => ∃ qs : List (Addr × Mv), qs.map (·.2) = (ringL n).take i ∧ Same H H' ∧ H' D = some (.lst (qs.map fun p => V.ref p.1)) ∧ ∀ p ∈ qs, H' p.1 = some (.tup (mvV p.2)))
      ⟨[], rfl, same_up nD, upd_same, fun p z => by cases z⟩ ?_ ?_
    · rintro i H' hi ⟨qs, eq, S', hD, rows⟩
      have il : i < n := hi
      have ei : (0 : Int) + (i : Nat) = (i : Int) := by omega
      have ql : qs.length ≤ i := by
        have := congrArg List.length eq
        rw [List.length_map, List.length_take] at this
        omega
      refine ⟨rfl, _, rfl, _, rfl, _, _, rfl, rfl, _, rfl, _, _, rfl, rfl, by omega, (by show 3 ≤ sizeLine; decide), fun q nq => ?_⟩
      have nDq : D ≠ q := ne_of_none hD nq
      refine ⟨qs.map fun p => V.ref p.1, by rw [upd_ne nDq]; exact hD, by rw [List.length_map, sizeLine_eq]; omega, qs ++ [(q, ⟨i, 97, (i + 1) % n⟩)], ?_, fun c o z => ?_, by rw [upd_same, List.map_append] <;> rfl, fun r hr => ?_⟩
      · rw [List.map_append, eq, List.take_add_one]
        unfold ringL
        rw [List.getElem?_map, List.getElem?_range il] <;> rfl
      · rw [upd_ne (ne_of_none z nD)]
        exact same_up nq _ _ (S' _ _ z)
      · rcases List.mem_append.mp hr with z | z
        · have y := rows r z
          rw [upd_ne (ne_of y hD (fun x => by cases x)), upd_ne (ne_of_none y nq)]
          exact y
        · rw [List.mem_singleton.mp z, upd_ne nDq.symm, ei]
          exact upd_same
    · rintro H1 ⟨qs, eq, S1, hD, rows⟩
      have len : (ringL n).length = n := by unfold ringL; rw [List.length_map, List.length_range]
      rw [List.take_of_length_le (Nat.le_of_eq len)] at eq
      refine ⟨_, rfl, _, rfl, D, _, rfl, .inl ⟨SqL.of hD, fun l nl => fun x dx nx nd ne => ?_⟩⟩
      have S2 : Same H1 (upd H1 l (.tup (qs.map fun p => V.ref p.1))) := same_up nl
      have S3 : Same (upd H1 l (.tup (qs.map fun p => V.ref p.1))) (upd (upd (upd H1 l (.tup (qs.map fun p => V.ref p.1))) dx (.own x)) x (.ins C dx [])) := fun b o z => by
        rw [upd_ne (ne_of_none z nx), upd_ne (ne_of_none z nd)]
        exact z
      refine ⟨n, 0, 0, x, dx, l, qs, rfl, upd_same, ⟨SqT.of (S3 _ _ upd_same), fun p hp => SqT.of (S3 _ _ (S2 _ _ (rows p hp)))⟩, okM_of (look_at ring_look n1 n2) eq, fun H' keep M => ⟨rfl, ?_⟩⟩
      have hx : H x = none := by
        cases e : H x with
        | none => rfl
        | some o => rw [S2 _ _ (S1 _ _ e)] at nx; cases nx
      exact k H' x qs (fun b o z => keep b o (S3 _ _ (S2 _ _ (S1 _ _ z))) (ne_of_none z hx)) hx eq M
end
end Vk
set_option Elab.async false
set_option linter.all false
set_option maxRecDepth 100000
set_option maxHeartbeats 4000000
namespace Vk
open PySem PySem.Spec PyProof.Rows L2 Vt
/-- a list of moves under way, made after H -/
def MkL (H H' : Hp) (L : Addr) (l : List Mv) : Prop := ∃ qs : List (Addr × Mv), qs.map (·.2) = l ∧ Same H H' ∧ H' L = some (.lst (qs.map fun p => V.ref p.1)) ∧ ∀ p ∈ qs, H' p.1 = some (.tup (mvV p.2))
theorem mkL_add {H H' : Hp} {L q : Addr} {l : List Mv} {m : Mv} {qs : List (Addr × Mv)} (eq : qs.map (·.2) = l) (S' : Same H H') (hD : H' L = some (.lst (qs.map fun p => V.ref p.1))) (rows : ∀ p ∈ qs, H' p.1 = some (.tup (mvV p.2))) (nD : H L = none) (nq : H' q = none) :
    MkL H (upd (upd H' q (.tup (mvV m))) L (.lst ((qs.map fun p => V.ref p.1) ++ [.ref q]))) L (l ++ [m]) := by
  have nDq : L ≠ q := ne_of_none hD nq
  refine ⟨qs ++ [(q, m)], by rw [List.map_append, eq] <;> rfl, fun c o z => ?_, by rw [upd_same, List.map_append] <;> rfl, fun r hr => ?_⟩
  · rw [upd_ne (ne_of_none z nD)]
    exact same_up nq _ _ (S' _ _ z)
  · rcases List.mem_append.mp hr with z | z
    · have y := rows r z
      rw [upd_ne (ne_of y hD (fun x => by cases x)), upd_ne (ne_of_none y nq)]
      exact y
    · rw [List.mem_singleton.mp z, upd_ne nDq.symm]
      exact upd_same
end Vk
set_option Elab.async false
set_option linter.all false
set_option maxRecDepth 100000
set_option maxHeartbeats 4000000
namespace Vk
open PySem PySem.Spec PyProof.Rows L2 Vt
abbrev sCorr : Stmt := top8 34
def rawL (i : Nat) : List Mv := (List.range i).flatMap fun s => [⟨s, 97, s + 1⟩, ⟨s + 1, 98, s⟩]
theorem raw_succ (i : Nat) : rawL (i + 1) = rawL i ++ [⟨i, 97, i + 1⟩, ⟨i + 1, 98, i⟩] := by
  unfold rawL
  rw [List.range_succ, List.flatMap_append, List.flatMap_cons, List.flatMap_nil, List.append_nil]
theorem len_raw : ∀ i, (rawL i).length = 2 * i
  | 0 => rfl
  | i + 1 => by rw [raw_succ, List.length_append, len_raw i, List.length_cons, List.length_cons, List.length_nil]; omega
def m3 (m : Mv) : Nat × Nat × Nat := (m.s, m.c, m.t)
theorem raw_look : ((List.range 20).all fun k => ((rawL k).map m3).isPerm ((corrL (k + 1)).map m3)) = true := by decide +kernel
theorem raw_perm {n : Nat} (h1 : 1 ≤ n) (h2 : n ≤ 20) : (rawL (n - 1)).Perm (corrL n) := by
  have h := List.all_eq_true.mp raw_look (n - 1) (List.mem_range.mpr (by omega))
  rw [Nat.sub_add_cancel h1] at h
  have p := (List.isPerm_iff.mp h).map fun (x : Nat × Nat × Nat) => (⟨x.1, x.2.1, x.2.2⟩ : Mv)
  rw [List.map_map, List.map_map] at p
  have e : ∀ l : List Mv, l.map ((fun (x : Nat × Nat × Nat) => (⟨x.1, x.2.1, x.2.2⟩ : Mv)) ∘ m3) = l := fun l => List.map_id'' (fun _ => rfl) l
  rw [e, e] at p
  exact p
theorem asc0 {l : List Mv} (h : ascB l = true) : (l.map fun m => ((0 : Addr), mvK m)).Pairwise fun x y => leM y x = false := by
  rw [List.pairwise_map]
  exact (asc_of h).imp fun {x y} z => leM_lt z 0 0
theorem zip_kp : ∀ {ys : List (Addr × List Key)} {l : List Mv}, ys.map (·.2) = l.map mvK → ((ys.map (·.1)).zip l).map kp = ys ∧ ((ys.map (·.1)).zip l).map (·.2) = l
  | [], [], _ => ⟨rfl, rfl⟩
  | [], _ :: _, h => by cases h
  | _ :: _, [], h => by cases h
  | y :: ys, m :: l, h => by
    rw [List.map_cons, List.map_cons] at h
    injection h with h1 h2
    obtain ⟨i1, i2⟩ := zip_kp h2
    refine ⟨?_, ?_⟩
    · rw [List.map_cons, List.zip_cons_cons, List.map_cons, i1]
      show (y.1, mvK m) :: ys = y :: ys
      rw [← h1]
    · rw [List.map_cons, List.zip_cons_cons, List.map_cons, i2]
theorem sort_up {qs : List (Addr × Mv)} {l : List Mv} {ys : List (Addr × List Key)} (hp : ys.Perm (qs.map kp)) (srt : ys.Pairwise fun x y => leM x y = true) (hl : (qs.map (·.2)).Perm l) (asc : ascB l = true) : ∃ qs' : List (Addr × Mv), qs'.map kp = ys ∧ qs'.map (·.2) = l ∧ ∀ p ∈ qs', ∃ p0 ∈ qs, p0.1 = p.1 ∧ mvK p0.2 = mvK p.2 := by
  have p1 : (ys.map fun y => ((0 : Addr), y.2)).Perm (l.map fun m => ((0 : Addr), mvK m)) := by
    have a := hp.map fun y : Addr × List Key => ((0 : Addr), y.2)
    have b := hl.map fun m => ((0 : Addr), mvK m)
    rw [List.map_map] at a b
    exact a.trans b
  have s1 : (ys.map fun y => ((0 : Addr), y.2)).Pairwise fun x y => leM x y = true := by
    rw [List.pairwise_map]
    exact srt.imp fun {x y} z => z
  have e := congrArg (List.map Prod.snd) (rising_one p1 s1 (asc0 asc))
  rw [List.map_map, List.map_map] at e
  obtain ⟨i1, i2⟩ := zip_kp (ys := ys) (l := l) e
  refine ⟨_, i1, i2, fun p hp2 => ?_⟩
  have : kp p ∈ ys := by rw [← i1]; exact List.mem_map.mpr ⟨p, hp2, rfl⟩
  obtain ⟨p0, h0, e0⟩ := List.mem_map.mp (hp.mem_iff.mp this)
  unfold kp at e0
  injection e0 with e1 e2
  exact ⟨p0, h0, e1, e2⟩
theorem mvV_of {m k : Mv} (h : mvK m = mvK k) : mvV m = mvV k := by
  have a : ∀ m, mvV m = (mvK m).map kV := fun _ => rfl
  rw [a, a, h]
theorem kp_alike (ms : List (Addr × Mv)) : PySem.W.AllAlike ((ms.map kp).map encM) := by
  intro a ha b hb
  obtain ⟨x, hx, rfl⟩ := List.mem_map.mp ha
  obtain ⟨y, hy, rfl⟩ := List.mem_map.mp hb
  obtain ⟨p, _, rfl⟩ := List.mem_map.mp hx
  obtain ⟨q, _, rfl⟩ := List.mem_map.mp hy
  rfl
section
variable {P : Program} {w : World} {K : PySem.W.Frag} {mg : Str → Option Value} {base : Heap}
theorem scCo : FnScope ["size", "moves", "state"] ["size"] (defScope sCorr) := ⟨rfl, rfl, rfl, by decide +kernel, rfl, by decide +kernel, by decide +kernel⟩
theorem ok_corr {f C fI : Addr} {fd fdI : FuncData} (F : Fun K "corridor" "corridor" sCorr f fd) (T : Txt8 K mg) (MK : Mk K C fI) (gM : mg "Machine" = some (.ref C)) (bI : Binds K fdI ["self", "size", "first", "last", "moves"] [])
    (FI : FnOk P w K mg base CX0 6 fI fdI ["self", "size", "first", "last", "moves"] (spInit K C)) : FnOk P w K mg base CX0 8 f fd ["size"] (spMk K C corrL) := by
  refine F.ok scCo (fun vs H Q E h => ?_) (fun cdv A outer s H vs Q E hr h => ?_)
  · obtain ⟨n, rfl, _⟩ := h
    rfl
  · obtain ⟨n, rfl, n1, n2, k⟩ := h
    have hm1 : ((n : Int) - 1).toNat = n - 1 := by omega
    refine ⟨_, (pss_cons (ps_set (i := 1) scCo.nd rfl (.inl rfl) (pe_lst pa_nil))
        (pss_cons (ps_for PassesOwn.never rfl (pi_range1 (by rfl) T.rng (pa_cons (pe_op op_sub (pv 0) pe_int) pa_nil)) (pg_name (i := 2) scCo.nd rfl (.inl rfl)) (pss_cons (ps_expr (pe_bm PySem.F.plainAttrs_list PySem.F.slot_list_append PySem.F.type_list_append mt_append (pv 1) (pa_cons (pe_tup (pa_cons (pv 2) (pa_cons pe_str (pa_cons (pe_op op_add (pv 2) pe_int) pa_nil)))) pa_nil)))
        (pss_one (ps_expr (pe_bm PySem.F.plainAttrs_list PySem.F.slot_list_append PySem.F.type_list_append mt_append (pv 1) (pa_cons (pe_tup (pa_cons (pe_op op_add (pv 2) pe_int) (pa_cons pe_str (pa_cons (pv 2) pa_nil)))) pa_nil))))))
        (pss_one (ps_ret (pe_make MK FI hr rfl gM bI .nil pass0 (pa_cons (pv 0) (pa_cons pe_int (pa_cons pe_int (pa_cons (pe_callTy call_tuple_of (by rfl) T.tup (by decide +kernel) (pa_cons (pe_callB (cr_sortedL hr.units) (by rfl) T.srt (by decide +kernel) (pa_cons (pv 1) pa_nil)) pa_nil)) pa_nil))))))))), ?_⟩
    refine ⟨by show 0 ≤ sizeLine; decide, fun L nL => ?_⟩
    refine ⟨_, rfl, _, _, rfl, rfl, (n : Int) - 1, rfl, by omega, by omega, for_range (lo := 0) (n := ((n : Int) - 1).toNat) (fun i σ H' => ∃ x2 : Option V, σ = [some (.int (n : Int)), some (.ref L), x2] ∧ MkL H H' L (rawL i)) ⟨none, rfl, [], rfl, same_up nL, upd_same, fun p z => by cases z⟩ ?_ ?_⟩
    · rintro i σ H1 il ⟨x2, rfl, qs, eq, S', hL, rows⟩
      have ei : (0 : Int) + (i : Nat) = (i : Int) := by omega
      rw [hm1] at il
      have lenQ : qs.length ≤ 400 := by
        have h1 := congrArg List.length eq
        rw [List.length_map, len_raw] at h1
        omega
      rw [ei]
      refine ⟨_, rfl, .inl ⟨rfl, _, SqL.of hL⟩, _, rfl, _, rfl, _, _, rfl, rfl, (by show 3 ≤ sizeLine; decide), fun q nq => ?_⟩
      have nLq : L ≠ q := ne_of_none hL nq
      refine ⟨L, _, _, rfl, rfl, by rw [upd_ne nLq]; exact hL, by rw [List.length_map, sizeLine_eq]; omega, ?_⟩
      have M1 : MkL H _ L _ := mkL_add (m := ⟨i, 97, i + 1⟩) eq S' hL rows nL nq
      obtain ⟨qs2, eq2, S2, hL2, rows2⟩ := M1
      have len2 : qs2.length ≤ 400 := by
        have h1 := congrArg List.length eq2
        rw [List.length_map, List.length_append, len_raw] at h1
        have h2 : [(⟨i, 97, i + 1⟩ : Mv)].length = 1 := rfl
        omega
      refine ⟨_, rfl, .inl ⟨rfl, _, SqL.of hL2⟩, _, rfl, _, _, rfl, rfl, _, rfl, (by show 3 ≤ sizeLine; decide), fun q2 nq2 => ?_⟩
      have nLq2 : L ≠ q2 := ne_of_none hL2 nq2
      refine ⟨L, _, _, rfl, rfl, by rw [upd_ne nLq2]; exact hL2, by rw [List.length_map, sizeLine_eq]; omega, _, rfl, ?_⟩
      have M2 := mkL_add (m := ⟨i + 1, 98, i⟩) eq2 S2 hL2 rows2 nL nq2
      rw [List.append_assoc] at M2
      rw [raw_succ]
      exact M2
    · rintro σ H1 ⟨x2, rfl, qs, eq, S1, hD, rows⟩
      rw [hm1] at eq
      have few : qs.length ≤ 400 := by
        have h1 := congrArg List.length eq
        rw [List.length_map, len_raw] at h1
        omega
      refine ⟨_, rfl, _, rfl, L, qs.map kp, rfl, by rw [List.map_map]; exact SqL.of hD, fun p hp => ?_, kp_alike qs, fun p hp => ?_, by rw [List.length_map]; omega, fun ys D pm srt nD => ?_⟩
      · obtain ⟨p0, h0, rfl⟩ := List.mem_map.mp hp
        exact SqT.of (rows p0 h0)
      · obtain ⟨p0, _, rfl⟩ := List.mem_map.mp hp
        exact fun z => nomatch z
      have okC := look_at corr_look n1 n2
      have ascC : ascB (corrL n) = true := by
        unfold okMB at okC
        simp only [Bool.and_eq_true] at okC
        exact okC.1.1.1.1.1.2
      obtain ⟨qs', i1, i2, i3⟩ := sort_up pm srt (by rw [eq]; exact raw_perm n1 n2) ascC
      have er : (ys.map fun q => V.ref q.1) = qs'.map fun p => V.ref p.1 := by rw [← i1, List.map_map] <;> rfl
      rw [er]
      have rows' : ∀ p ∈ qs', H1 p.1 = some (.tup (mvV p.2)) := fun p hp => by
        obtain ⟨p0, h0, e1, e2⟩ := i3 p hp
        rw [← e1, ← mvV_of e2]
        exact rows p0 h0
      obtain ⟨G, eG⟩ : ∃ G, G = upd H1 D (.lst (qs'.map fun p => V.ref p.1)) := ⟨_, rfl⟩
      have hG : G D = some (.lst (qs'.map fun p => V.ref p.1)) := by rw [eG]; exact upd_same
      have SG : Same H1 G := by rw [eG]; exact same_up nD
      rw [← eG]
      refine ⟨D, _, rfl, .inl ⟨SqL.of hG, fun l nl => fun x dx nx nd ne => ?_⟩⟩
      have S2 : Same G (upd G l (.tup (qs'.map fun p => V.ref p.1))) := same_up nl
      have S3 : Same (upd G l (.tup (qs'.map fun p => V.ref p.1))) (upd (upd (upd G l (.tup (qs'.map fun p => V.ref p.1))) dx (.own x)) x (.ins C dx [])) := fun b o z => by
        rw [upd_ne (ne_of_none z nx), upd_ne (ne_of_none z nd)]
        exact z
      refine ⟨n, 0, 0, x, dx, l, qs', rfl, upd_same, ⟨SqT.of (S3 _ _ upd_same), fun p hp => SqT.of (S3 _ _ (S2 _ _ (SG _ _ (rows' p hp))))⟩, okM_of okC i2, fun H' keep M => ⟨rfl, ?_⟩⟩
      have hx : H x = none := by
        cases e : H x with
        | none => rfl
        | some o => rw [S2 _ _ (SG _ _ (S1 _ _ e))] at nx; cases nx
      exact k H' x qs' (fun b o z => keep b o (S3 _ _ (S2 _ _ (SG _ _ (S1 _ _ z)))) (ne_of_none z hx)) hx i2 M
end
end Vk
set_option Elab.async false
set_option linter.all false
set_option maxRecDepth 100000
set_option maxHeartbeats 4000000
namespace Vk
open PySem PySem.Spec PyProof.Rows L2

abbrev sDeck : Stmt := top8 36
abbrev sDraw : Stmt := top8 37
abbrev sPick : Stmt := top8 38
/-- the deck's pairs -/
def deckK (g : Addr) (m l : Int) : List (Key × V) := [(.inr "great", .ref g), (.inr "mixed", .int m), (.inr "lap", .int l)]
/-- a deck stands at d, its great numbers at g; at most n times drawn -/
structure DeckAt (H : Hp) (d g : Addr) (n : Int) : Prop where
  dk : ∃ m l : Int, H d = some (.dK (deckK g m l)) ∧ 0 ≤ m ∧ m < 2147483648 ∧ 0 ≤ l ∧ l ≤ n
  gr : ∃ gs : List Int, H g = some (.lst (gs.map V.int)) ∧ gs.length ≤ 63
theorem DeckAt.ne {H : Hp} {d g : Addr} {n : Int} (D : DeckAt H d g n) : d ≠ g := by
  obtain ⟨m, l, h1, _⟩ := D.dk
  obtain ⟨gs, h2, _⟩ := D.gr
  exact ne_of h1 h2 (by intro z; cases z)
theorem merge_deck (g : Addr) (m l : Int) : mergeK [] (deckK g m l) = deckK g m l := by
  rfl
/-- all but the deck stays -/
def But (d g : Addr) (H H' : Hp) : Prop := ∀ b o, H b = some o → b ≠ d → b ≠ g → H' b = some o
def spDeck (K : PySem.W.Frag) : Sp := fun vs H Q _ => ∃ (a : Addr) (ns : List Int), vs = [.ref a] ∧ SqL K H a (ns.map V.int) ∧ ns.length ≤ 63 ∧
  ∀ (d g : Addr) (H' : Hp), Same H H' → H d = none → H g = none → DeckAt H' d g 0 → Q (.ref d) H'
section
variable {P : Program} {w : World} {K : PySem.W.Frag} {mg : Str → Option Value} {base : Heap}
theorem scD : FnScope ["_law_script", "_law_mixed", "_law_cell"] ["_law_script"] (defScope sDeck) := ⟨rfl, rfl, rfl, by decide +kernel, rfl, by decide +kernel, by decide +kernel⟩
theorem same_new {H : Hp} {p : Addr} {o : HO} (hp : H p = none) : Same H (upd H p o) := fun b u e => by
  rw [upd_ne (ne_of_none e hp)]
  exact e
theorem ok_deck {f : Addr} {fd : FuncData} (F : Fun K "_law_deck" "_law_deck" sDeck f fd) (mi : mg "int" = none) : FnOk P w K mg base CX0 1 f fd ["_law_script"] (spDeck K) := by
  refine F.ok scD (fun vs H Q E h => ?_) (fun cdv A outer s H vs Q E hr h => ?_)
  · obtain ⟨a, ns, rfl, _⟩ := h
    rfl
  · obtain ⟨a, ns, rfl, hS, hlen, k⟩ := h
    refine ⟨_, pss_cons (ps_set (i := 1) scD.nd rfl (.inl rfl) pe_int)
      (pss_cons (ps_for PassesOwn.never rfl (pi_list (pe_slice sl_list (pv 0) po_none (po_some pe_int))) (pg_name (i := 2) scD.nd rfl (.inl rfl))
        (pss_one (ps_set (i := 1) scD.nd rfl (.inl rfl) (pe_op op_mod (pe_callTy call_int1 (by rfl) mi (by decide +kernel) (pa_cons (pe_op op_add (pe_op op_add (pe_op op_mul (pv 1) pe_int)
          (pe_op op_mod (pe_callTy call_int1 (by rfl) mi (by decide +kernel) (pa_cons (pv 2) pa_nil)) pe_int)) pe_int) pa_nil)) pe_int))))
      (pss_one (ps_ret (pe_disp (pps_cons pe_str (pe_revL (pe_lc (own := [("_law_cell", 2)]) (g := gName 2) (by rfl) scD.nd (pi_list (pe_slice sl_list (pv 0) po_none (po_some pe_int)))
          (blkOk_by (own := [("_law_cell", 2)]) (N := ["_law_script", "_law_mixed", "_law_cell"]) (sc := defScope sDeck) (by decide +kernel))
          (fun _ _ _ _ _ => pg_name (i := 2) scD.nd rfl (Or.inl rfl)) (fun _ _ _ _ _ => pts_one (pt_cmpR op_ge (pv 2) (pe_op op_pow pe_int pe_int) (nomark _))) (fun _ _ _ _ _ => pv 2)))
        (pps_cons pe_str (pv 1) (pps_cons pe_str pe_int pps_nil))) (by rfl) (by rfl) (fun z => by cases z) (by decide))))), ?_⟩
    obtain ⟨L, eL⟩ : ∃ L, L = cutV (ns.map V.int) none (some 63) := ⟨_, rfl⟩
    have ec : L = (ns.take 63).map V.int := by
      rw [eL]
      unfold cutV
      rw [HT.sIx_none, List.drop_zero, Nat.sub_zero, List.length_map, show ((63 : Int)) = ((63 : Nat) : Int) from rfl, HT.sIx_nat, ← List.map_take]
      congr 1
      rw [List.take_eq_take_iff]
      omega
    have hL63 : L.length ≤ 63 := by
      rw [ec, List.length_map, List.length_take]
      omega
    refine ⟨_, rfl, 63, rfl, a, _, rfl, hS, fun p hp => ⟨p, rfl, ⟨_, SqL.of upd_same⟩, ?_⟩⟩
    rw [← eL]
    have s1 : Same H (upd H p (.lst L)) := same_new hp
    refine for_list (K := K) (a := p) (xs := L) (fun i σ H' => ∃ (m : Int) (v : Option V), σ = [some (.ref a), some (.int m), v] ∧ 0 ≤ m ∧ m < 2147483648 ∧ H' = upd H p (.lst L))
      ⟨_, none, rfl, by decide, by decide, rfl⟩ (fun i σ H' _ ⟨_, _, _, _, _, e⟩ => by rw [e]; exact SqL.of upd_same) ?_ ?_
    · rintro i y σ H' hi ⟨m, v, rfl, h0, h1, rfl⟩
      rw [ec, List.getElem?_map] at hi
      obtain ⟨z, _, rfl⟩ := Option.map_eq_some_iff.mp hi
      refine ⟨_, rfl, _, _, rfl, rfl, .inr ⟨by decide, by decide⟩, _, rfl, .inl ⟨_, rfl, _, _, rfl, rfl, (by show (0 : Int) < 2147483629; decide), _, _, rfl, rfl, _, _, rfl, rfl, .inl ⟨_, rfl, _, _, rfl, rfl, (by show (0 : Int) < 2147483587; decide), ?_⟩⟩⟩
      refine ⟨_, _, rfl, Int.emod_nonneg _ (by decide), ?_, rfl⟩
      refine Int.lt_trans (Int.emod_lt_of_pos _ (by decide)) (by decide)
    · rintro σ H' ⟨m, v, rfl, h0, h1, rfl⟩
      intro d hd
      have hd0 : H d = none := s1.free hd
      have s2 : Same H (upd (upd H p (.lst L)) d (.dK [])) := s1.trans (same_new hd)
      refine ⟨_, rfl, 63, rfl, a, _, rfl, s2.seq hS, fun q hq => ⟨q, rfl, ⟨_, SqL.of upd_same⟩, fun D hD => ?_⟩⟩
      rw [← eL] at hD ⊢
      have ndq : d ≠ q := ne_of_none upd_same hq
      have s3 := s2.trans (same_new (o := .lst L) hq)
      have ndD : d ≠ D := ne_of_none (by rw [upd_ne ndq]; exact upd_same) hD
      have nqD : q ≠ D := ne_of_none upd_same hD
      obtain ⟨H4, e4⟩ : ∃ H4, H4 = upd (upd (upd H p (.lst L)) d (.dK [])) q (.lst L) := ⟨_, rfl⟩
      rw [← e4] at hD s3 ⊢
      have hq4 : H4 q = some (.lst L) := by rw [e4]; exact upd_same
      have hd4 : H4 d = some (.dK []) := by rw [e4, upd_ne ndq]; exact upd_same
      refine lc_list (K := K) (a := q) (xs := L) (fun i H' => ∃ gs : List Int, gs.length ≤ i ∧ H' = upd H4 D (.lst (gs.map V.int))) ⟨[], Nat.le_refl _, rfl⟩
        (fun i H' _ ⟨_, _, e⟩ => by rw [e]; exact SqL.of (by rw [upd_ne nqD]; exact hq4)) ?_ ?_
      · rintro i y H' hi ⟨gs, hg, rfl⟩
        have hil : i < L.length := (List.getElem?_eq_some_iff.mp hi).1
        rw [ec, List.getElem?_map] at hi
        obtain ⟨z, _, rfl⟩ := Option.map_eq_some_iff.mp hi
        refine ⟨rfl, _, rfl, _, _, rfl, rfl, ⟨by decide, by decide, by decide⟩, _, _, rfl, rfl, _, rfl, ?_⟩
        refine ite2 (fun _ => ?_) (fun _ => ?_)
        · refine ⟨_, rfl, _, upd_same, ?_, gs ++ [z], ?_, ?_⟩
          · rw [List.length_map]
            exact Nat.lt_of_le_of_lt (show gs.length ≤ 63 by omega) (by decide)
          · rw [List.length_append]
            show gs.length + 1 ≤ i + 1
            omega
          · rw [upd_upd, List.map_append]
            rfl
        · exact ⟨gs, Nat.le_succ_of_le hg, rfl⟩
      · rintro H' ⟨gs, hg, rfl⟩
        refine ⟨D, _, rfl, SqL.of upd_same, fun g hgn => ?_⟩
        have ngD : D ≠ g := ne_of_none upd_same hgn
        have ndg : d ≠ g := ne_of_none (by rw [upd_ne ndD]; exact hd4) hgn
        have s5 := (s3.trans (same_new (o := .lst (gs.map V.int)) hD)).trans (same_new (o := .lst (gs.map V.int).reverse) hgn)
        refine ⟨_, rfl, ?_, deckK g m 0, rfl, by show 3 ≤ 15; decide, ?_⟩
        · rw [upd_ne ndg, upd_ne ndD]
          exact hd4
        · rw [merge_deck]
          refine k d g _ ?_ hd0 ?_ ⟨⟨m, 0, upd_same, h0, h1, Int.le_refl _, Int.le_refl _⟩, gs.reverse, ?_, ?_⟩
          · intro b o e
            rw [upd_ne (ne_of_none e hd0)]
            exact s5 b o e
          · exact (s3.trans (same_new (o := .lst (gs.map V.int)) hD)).free hgn
          · rw [upd_ne ndg.symm, upd_same, List.map_reverse]
          · rw [List.length_reverse]
            omega
/-- the draw: some number below, the deck once more drawn, nothing else touched -/
def spDraw : Sp := fun vs H Q _ => ∃ (d g : Addr) (below n : Int), vs = [.ref d, .int below] ∧ DeckAt H d g n ∧ 0 < below ∧ below < 1000000 ∧ n < 1000000000 ∧
  ∀ (r : Int) (H' : Hp), 0 ≤ r → r < below → DeckAt H' d g (n + 1) → But d g H H' → Q (.int r) H'
theorem scW : FnScope ["_law_deck_here", "_law_below", "_law_cell", "_law_lap", "_law_mixed"] ["_law_deck_here", "_law_below"] (defScope sDraw) := ⟨rfl, rfl, rfl, by decide +kernel, rfl, by decide +kernel, by decide +kernel⟩
theorem val_great (g : Addr) (m l : Int) : valV (deckK g m l) (Sum.inr "great" : Key) = some (.ref g) := by rfl
theorem val_mixed (g : Addr) (m l : Int) : valV (deckK g m l) (Sum.inr "mixed" : Key) = some (.int m) := by rfl
theorem val_lap (g : Addr) (m l : Int) : valV (deckK g m l) (Sum.inr "lap" : Key) = some (.int l) := by rfl
theorem put_lap (g : Addr) (m l z : Int) : putK (deckK g m l) (Sum.inr "lap" : Key) (.int z) = deckK g m z := by rfl
theorem dp_ints {K : PySem.W.Frag} {H : Hp} : ∀ gs : List Int, DpAll K H (gs.map V.int) (gs.map PyData.int)
  | [] => .nil
  | i :: r => .cons (.int i) (dp_ints r)
theorem lay_ints : ∀ gs : List Int, PyData.canLayAll0 (gs.map PyData.int) = true ∧ PyData.depthAll (gs.map PyData.int) = 0
  | [] => ⟨rfl, rfl⟩
  | i :: r => by
    obtain ⟨h1, h2⟩ := lay_ints r
    refine ⟨?_, ?_⟩
    · show (PyData.canLay0 (.int i) && PyData.canLayAll0 (r.map PyData.int)) = true
      rw [h1] <;> rfl
    · show max (PyData.depth (.int i)) (PyData.depthAll (r.map PyData.int)) = 0
      rw [h2] <;> rfl
theorem shaped_ints (gs : List Int) : SeqAt.shaped (.list (gs.map PyData.int)) = true := by
  obtain ⟨h1, h2⟩ := lay_ints gs
  have e1 : PyData.canLay0 (.list (gs.map PyData.int)) = true := h1
  have e2 : PyData.depth (.list (gs.map PyData.int)) = 1 := by
    show PyData.depthAll (gs.map PyData.int) + 1 = 1
    rw [h2]
  unfold SeqAt.shaped
  rw [e1, e2]
  rfl
theorem eqv_nil (gs : List Int) : PyData.eqv (.list (gs.map PyData.int)) (.list []) = decide (gs = []) := by
  cases gs with
  | nil => rfl
  | cons i r => rfl
theorem ok_draw {f : Addr} {fd : FuncData} (F : Fun K "_law_draw" "_law_draw" sDraw f fd) (mi : mg "int" = none) : FnOk P w K mg base CX0 1 f fd ["_law_deck_here", "_law_below"] spDraw := by
  refine F.ok scW (fun vs H Q E h => ?_) (fun cdv A outer s H vs Q E hr h => ?_)
  · obtain ⟨d, g, b, n, rfl, _⟩ := h
    rfl
  · obtain ⟨d, g, b, n, rfl, D, hb0, hb1, hn, k⟩ := h
    have hu := hu_of hr
    refine ⟨_, pss_cons (ps_if (pt_cmpR (op_neD hr.units) (pe_dget hu (pv 0) pe_str (fun _ _ => rfl)) (pe_lst pa_nil) (nomark _))
        (pss_cons (ps_set (i := 2) scW.nd rfl (.inl rfl) (pe_callTy call_int1 (by rfl) mi (by decide +kernel) (pa_cons
            (pe_bm0 PySem.F.plainAttrs_list PySem.F.slot_list_pop PySem.F.type_list_pop mt_pop (pe_dget hu (pv 0) pe_str (fun _ _ => rfl))) pa_nil)))
        (pss_cons (ps_if (pt_cmpR op_ge (pv 2) (pv 1) (nomark _))
            (pss_one (ps_expr (pe_bm PySem.F.plainAttrs_list PySem.F.slot_list_append PySem.F.type_list_append mt_append (pe_dget hu (pv 0) pe_str (fun _ _ => rfl)) (pa_cons (pe_op op_fdiv (pv 2) (pv 1)) pa_nil)))) pss_nil)
        (pss_one (ps_ret (pe_op op_mod (pv 2) (pv 1)))))) pss_nil)
      (pss_cons (ps_set (i := 3) scW.nd rfl (.inl rfl) (pe_op op_add (pe_dget hu (pv 0) pe_str (fun _ _ => rfl)) pe_int))
      (pss_cons (ps_dput hu (pv 0) pe_str (pv 3) rfl)
      (pss_cons (ps_set (i := 4) scW.nd rfl (.inl rfl) (pe_op op_mod (pe_callTy call_int1 (by rfl) mi (by decide +kernel) (pa_cons (pe_op op_mul (pe_callTy call_int1 (by rfl) mi (by decide +kernel) (pa_cons
            (pe_op op_add (pe_op op_add (pe_dget hu (pv 0) pe_str (fun _ _ => rfl)) (pe_op op_mul (pe_op op_mul pe_int (pv 3)) (pv 3))) pe_int) pa_nil)) pe_int) pa_nil)) pe_int))
      (pss_cons (ps_set (i := 4) scW.nd rfl (.inl rfl) (pe_op op_mod (pe_callTy call_int1 (by rfl) mi (by decide +kernel) (pa_cons (pe_op op_add (pe_op op_mul (pv 4) (pv 4)) (pe_op op_mul pe_int (pv 3))) pa_nil)) pe_int))
      (pss_one (ps_ret (pe_op op_mod (pe_op op_fdiv (pe_op op_mod (pe_callTy call_int1 (by rfl) mi (by decide +kernel) (pa_cons (pe_op op_mul (pv 4) pe_int) pa_nil)) pe_int) pe_int) (pv 1)))))))), ?_⟩
    obtain ⟨⟨m, l, hd, hm0, hm1, hl0, hl1⟩, ⟨gs, hg, hg63⟩⟩ := id D
    have ndg : d ≠ g := D.ne
    refine ⟨_, rfl, _, _, rfl, DGet.k (k := Sum.inr "great") hd, ?_⟩
    refine ⟨Nat.zero_le _, fun p hp => ?_⟩
    have npd : d ≠ p := ne_of_none hd hp
    have npg : g ≠ p := ne_of_none hg hp
    have hd1 : upd H p (.lst []) d = some (.dK (deckK g m l)) := by rw [upd_ne npd]; exact hd
    have hg1 : upd H p (.lst []) g = some (.lst (gs.map V.int)) := by rw [upd_ne npg]; exact hg
    have b1 : But d g H (upd H p (.lst [])) := fun b o e _ _ => by rw [upd_ne (ne_of_none e hp)]; exact e
    refine ⟨.list (gs.map PyData.int), .list [], .lst (SqL.of hg1) (dp_ints gs), .lst (SqL.of upd_same) .nil, shaped_ints gs, by decide, _, rfl, ?_⟩
    rw [eqv_nil]
    by_cases hgs : gs = []
    · -- by the lap
      rw [decide_eq_true hgs]
      refine iteF ?_
      refine ⟨_, rfl, _, _, rfl, DGet.k (k := Sum.inr "lap") hd1, _, _, rfl, rfl, ?_⟩
      refine ⟨_, rfl, _, rfl, d, _, rfl, DPut.k (k := Sum.inr "lap") hd1 (by show 3 < sizeLine; decide), ?_⟩
      rw [put_lap]
      have hd2 : upd (upd H p (.lst [])) d (.dK (deckK g m (l + 1))) d = some (.dK (deckK g m (l + 1))) := upd_same
      refine ⟨_, rfl, _, _, rfl, DGet.k (k := Sum.inr "mixed") hd2, _, rfl, _, _, rfl, rfl, .inl ⟨by decide, by decide⟩, _, rfl, _, _, rfl, rfl, .inr ⟨by omega, by omega⟩, _, _, rfl, rfl, _, _, rfl, rfl,
        .inl ⟨_, rfl, _, _, rfl, rfl, .inr ⟨by decide, by decide⟩, .inl ⟨_, rfl, _, _, rfl, rfl, (by show (0 : Int) < 2147483647; decide), ?_⟩⟩⟩
      obtain ⟨M, eM⟩ : ∃ M, M = (m + 48271 * (l + 1) * (l + 1) + 101) * 39373 % 2147483647 := ⟨_, rfl⟩
      have M0 : 0 ≤ M := by rw [eM]; exact Int.emod_nonneg _ (by decide)
      have M1 : M < 2147483647 := by rw [eM]; exact Int.emod_lt_of_pos _ (by decide)
      dsimp only
      rw [← eM]
      refine ⟨_, rfl, _, rfl, _, _, rfl, rfl, .inl ⟨by omega, by omega⟩, _, rfl, _, _, rfl, rfl, .inl ⟨by decide, by decide⟩, _, _, rfl, rfl, .inl ⟨_, rfl, _, _, rfl, rfl, (by show (0 : Int) < 2147483579; decide), ?_⟩⟩
      refine ⟨_, rfl, _, _, rfl, rfl, .inr ⟨by decide, by decide⟩, .inl ⟨_, rfl, _, _, rfl, rfl, (by show (0 : Int) < 2147483563; decide), _, _, rfl, rfl, ⟨by decide, by decide⟩, _, rfl, _, _, rfl, rfl, hb0, ?_⟩⟩
      refine k _ _ (Int.emod_nonneg _ (by omega)) (Int.emod_lt_of_pos _ hb0) ⟨⟨m, l + 1, upd_same, hm0, hm1, by omega, by omega⟩, gs, ?_, hg63⟩ fun c o e h1 h2 => ?_
      · rw [upd_ne ndg.symm]
        exact hg1
      · rw [upd_ne h1]
        exact b1 c o e h1 h2
    · -- by a great number
      rw [decide_eq_false hgs]
      refine iteT ?_
      obtain ⟨hs, z, rfl⟩ : ∃ hs z, gs = hs ++ [z] := ⟨_, _, (List.dropLast_concat_getLast hgs).symm⟩
      have hlen : hs.length + 1 ≤ 63 := by simpa using hg63
      have eLast : ((hs ++ [z]).map V.int)[((hs ++ [z]).map V.int).length - 1]? = some (V.int z) := by simp
      have eDrop : ((hs ++ [z]).map V.int).dropLast = hs.map V.int := by simp
      refine ⟨_, rfl, _, _, rfl, DGet.k (k := Sum.inr "great") hd1, .inl ⟨rfl, _, SqL.of hg1⟩, g, _, _, rfl, rfl, hg1, eLast, .inl ⟨_, rfl, ?_⟩⟩
      rw [eDrop]
      refine ⟨_, rfl, _, rfl, _, _, rfl, rfl, _, rfl, ?_⟩
      have hd2 : upd (upd H p (.lst [])) g (.lst (hs.map V.int)) d = some (.dK (deckK g m l)) := by rw [upd_ne ndg]; exact hd1
      have b2 : But d g H (upd (upd H p (.lst [])) g (.lst (hs.map V.int))) := fun c o e h1 h2 => by rw [upd_ne h2]; exact b1 c o e h1 h2
      refine ite2 (fun _ => ?_) (fun _ => ?_)
      · refine ⟨_, rfl, _, _, rfl, DGet.k (k := Sum.inr "great") hd2, .inl ⟨rfl, _, SqL.of upd_same⟩, _, rfl, _, rfl, _, _, rfl, rfl, ⟨hb0, by omega⟩, g, _, _, rfl, rfl, upd_same, ?_, ?_⟩
        · rw [List.length_map]
          exact Nat.lt_of_le_of_lt (show hs.length ≤ 63 by omega) (by decide)
        refine ⟨_, rfl, _, rfl, _, _, rfl, rfl, hb0, ?_⟩
        refine k _ _ (Int.emod_nonneg _ (by omega)) (Int.emod_lt_of_pos _ hb0) ⟨⟨m, l, ?_, hm0, hm1, hl0, by omega⟩, hs ++ [z / b], ?_, by simpa using hlen⟩ fun c o e h1 h2 => ?_
        · rw [upd_ne ndg]
          exact hd2
        · rw [upd_same, List.map_append]
          rfl
        · rw [upd_ne h2]
          exact b2 c o e h1 h2
      · refine ⟨_, rfl, _, rfl, _, _, rfl, rfl, hb0, ?_⟩
        exact k _ _ (Int.emod_nonneg _ (by omega)) (Int.emod_lt_of_pos _ hb0) ⟨⟨m, l, hd2, hm0, hm1, hl0, by omega⟩, hs, upd_same, by omega⟩ b2
/-- a sign of a text -/
def spPickS : Sp := fun vs H Q _ => ∃ (d g : Addr) (n : Int) (z : Str), vs = [.ref d, .str z] ∧ DeckAt H d g n ∧ n < 1000000000 ∧ 0 < z.cps.size ∧ z.cps.size < 1000000 ∧
  ∀ (i c : Nat) (H' : Hp), z.cps[i]? = some c → DeckAt H' d g (n + 1) → But d g H H' → Q (.str (sg c)) H'
theorem scPk : FnScope ["_law_deck_here", "_law_menu"] ["_law_deck_here", "_law_menu"] (defScope sPick) := ⟨rfl, rfl, rfl, by decide +kernel, rfl, by decide +kernel, by decide +kernel⟩
theorem ok_pickS {f fD : Addr} {fd fdD : FuncData} (F : Fun K "_law_pick" "_law_pick" sPick f fd) (FD : Fun K "_law_draw" "_law_draw" sDraw fD fdD) (gD : mg "_law_draw" = some (.ref fD)) (bD : Binds K fdD ["_law_deck_here", "_law_below"] []) (GD0 : FnOk P w K mg base CX0 1 fD fdD ["_law_deck_here", "_law_below"] spDraw) (ml : mg "len" = none) :
    FnOk P w K mg base CX0 2 f fd ["_law_deck_here", "_law_menu"] spPickS := by
  have GD := GD0
  refine F.ok scPk (fun vs H Q E h => ?_) (fun cdv A outer s H vs Q E hr h => ?_)
  · obtain ⟨d, g, n, z, rfl, _⟩ := h
    rfl
  · obtain ⟨d, g, n, z, rfl, D, hn, h0, h1, k⟩ := h
    have zl : z.length = z.cps.size := rfl
    refine ⟨_, pss_one (ps_ret (pe_ix ix_str (pv 1) (pe_call GD hr rfl gD FD.kp bD .nil pass0 (pa_cons (pv 0) (pa_cons (pe_callB call_len_str (by rfl) ml PySem.boot_len (pa_cons (pv 1) pa_nil)) pa_nil))) (fun _ _ => rfl))), ?_⟩
    refine ⟨_, rfl, _, rfl, _, rfl, z, rfl, by rw [zl, sizeLine_eq]; omega, d, g, _, n, rfl, D, by rw [zl]; omega, by rw [zl]; omega, hn, fun r H' r0 r1 D' bt => ?_⟩
    obtain ⟨i, rfl⟩ : ∃ i : Nat, r = (i : Int) := ⟨r.toNat, by omega⟩
    have hi : i < z.cps.size := by rw [← zl]; omega
    have hv : z.cps[i]? = some z.cps[i] := by simp [hi]
    exact ⟨z, _, z.cps[i], rfl, rfl, by rw [zl, sizeLine_eq]; omega, atI_nat (by rw [Array.getElem?_toList]; exact hv), k i _ H' hv D' bt⟩
end
end Vk
set_option Elab.async false
set_option linter.all false
set_option maxRecDepth 100000
set_option maxHeartbeats 4000000
namespace Vk
open PySem PySem.Spec PyProof.Rows L2 Vt
/-! ## what is led to, on paper -/
/-- just what pairs lead to from b -/
structure Led (E : List (Nat × Nat)) (b : Nat) (l : List Nat) : Prop where
  nd : l.Nodup
  st : b ∈ l
  cl : ∀ e ∈ E, e.1 ∈ l → e.2 ∈ l
  mn : ∀ S : List Nat, b ∈ S → (∀ e ∈ E, e.1 ∈ S → e.2 ∈ S) → ∀ x ∈ l, x ∈ S
theorem nd_len : ∀ (n : Nat) (l : List Nat), l.Nodup → (∀ x ∈ l, x < n) → l.length ≤ n
  | 0, [], _, _ => Nat.le_refl _
  | 0, x :: l, _, h => absurd (h x List.mem_cons_self) (Nat.not_lt_zero _)
  | n + 1, l, nd, h => by
    have a := nd_len n (l.erase n) (nd.erase n) fun x hx => by
      have m := List.mem_of_mem_erase hx
      have ne : x ≠ n := fun z => (nd.mem_erase_iff.mp hx).1 z
      have := h x m
      omega
    by_cases hn : n ∈ l
    · rw [List.length_erase_of_mem hn] at a
      omega
    · rw [List.erase_of_not_mem hn] at a
      omega
def nI (l : List Nat) : List V := l.map fun (x : Nat) => V.int (x : Int)
theorem nI_len (l : List Nat) : (nI l).length = l.length := List.length_map _
theorem nI_app (l m : List Nat) : nI l ++ nI m = nI (l ++ m) := (List.map_append ..).symm
theorem flat_nI : ∀ l : List Nat, (nI l).all flatV = true
  | [] => rfl
  | x :: l => by
    show (flatV (.int (x : Int)) && (nI l).all flatV) = true
    rw [flat_nI l] <;> rfl
theorem eqV_int (x y : Nat) : eqV (.int (y : Int)) (.int (x : Int)) = decide (y = x) := by
  show ((y : Int) == (x : Int)) = decide (y = x)
  rw [Bool.eq_iff_iff, beq_iff_eq, decide_eq_true_eq]
  omega
theorem inV_nI (x : Nat) (l : List Nat) : inV (.int (x : Int)) (nI l) = decide (x ∈ l) := by
  induction l with
  | nil => rfl
  | cons y l ih =>
    have e : inV (.int (x : Int)) (nI (y :: l)) = (eqV (.int (y : Int)) (.int (x : Int)) || inV (.int (x : Int)) (nI l)) := rfl
    rw [e, ih, eqV_int, Bool.eq_iff_iff, Bool.or_eq_true, decide_eq_true_eq, decide_eq_true_eq, decide_eq_true_eq, List.mem_cons]
    exact ⟨fun h => h.imp Eq.symm id, fun h => h.imp Eq.symm id⟩
/-- a rising list of ints from 0 on, as naturals -/
theorem to_nats : ∀ {ns : List Int}, (∀ k ∈ ns, 0 ≤ k) → ns.map V.int = nI (ns.map Int.toNat)
  | [], _ => rfl
  | k :: ns, h => by
    have e := to_nats (ns := ns) fun j hj => h j (.tail _ hj)
    have hk := h k List.mem_cons_self
    have ek : ((k.toNat : Nat) : Int) = k := Int.toNat_of_nonneg hk
    rw [List.map_cons, e, List.map_cons]
    show V.int k :: _ = V.int ((k.toNat : Nat) : Int) :: _
    rw [ek] <;> rfl
end Vk
set_option Elab.async false
set_option linter.all false
set_option maxRecDepth 100000
set_option maxHeartbeats 4000000
namespace Vk
open PySem PySem.Spec PyProof.Rows L2 Vt
abbrev sLed : Stmt := top8 39
theorem same_updN {H H' : Hp} {a : Addr} {o : HO} (S : Same H H') (n : H a = none) : Same H (upd H' a o) := fun b u e => by
  rw [upd_ne (ne_of_none e n)]
  exact S _ _ e
section
variable {P : Program} {w : World} {K : PySem.W.Frag} {mg : Str → Option Value} {base : Heap}
def spLed (K : PySem.W.Frag) : Sp := fun vs H Q _ => ∃ (b n : Nat) (sp : Addr) (ps : List (Addr × Nat × Nat)), vs = [.int (b : Int), .ref sp] ∧ SqL K H sp (ps.map fun p => V.ref p.1) ∧ (∀ p ∈ ps, SqT K H p.1 [.int (p.2.1 : Int), .int (p.2.2 : Int)]) ∧
  (∀ p ∈ ps, p.2.1 < n ∧ p.2.2 < n) ∧ b < n ∧ n ≤ 60 ∧ ps.length ≤ 60 ∧ ∀ (q : Addr) (l : List Nat) (H' : Hp), Same H H' → H q = none → H' q = some (.lst (nI l)) → Led (ps.map (·.2)) b l → (∀ x ∈ l, x < n) → Q (.ref q) H'
theorem scLd : FnScope ["_law_begin", "_law_pairs", "_law_found", "_law_at", "_law_here", "_law_there"] ["_law_begin", "_law_pairs"] (defScope sLed) := ⟨rfl, rfl, rfl, by decide +kernel, rfl, by decide +kernel, by decide +kernel⟩
theorem ok_led {f : Addr} {fd : FuncData} (F : Fun K "_law_led" "_law_led" sLed f fd) (T : Txt8 K mg) : FnOk P w K mg base CX0 1 f fd ["_law_begin", "_law_pairs"] (spLed K) := by
  refine F.ok scLd (fun vs H Q E h => ?_) (fun cdv A outer s H vs Q E hr h => ?_)
  · obtain ⟨b, n, sp, ps, rfl, _⟩ := h
    rfl
  · obtain ⟨b, n, sp, ps, rfl, hS, tup, lt, b0, nB, pB, k⟩ := h
    refine ⟨_, (pss_cons (ps_asg (pe_tup (pa_cons (pe_lst (pa_cons (pv 0) pa_nil)) (pa_cons pe_int pa_nil))) (pg_tup rfl (pgs_cons (pg_name (i := 2) scLd.nd rfl (.inr rfl)) (pgs_cons (pg_name (i := 3) scLd.nd rfl (.inr rfl)) pgs_nil))))
        (pss_cons (ps_while PassesOwn.never (pt_cmpR op_lt (pv 3) (pe_callB call_len (by rfl) T.len PySem.boot_len (pa_cons (pv 2) pa_nil)) (nomark _)) (pss_cons (ps_expr (pe_bm PySem.F.plainAttrs_list PySem.F.slot_list_extend PySem.F.type_list_extend mt_extend (pv 2) (pa_cons (pe_callB (cr_sortedSet (by rfl)) (by rfl) T.srt (by decide +kernel) (pa_cons (pe_callTy (cr_setI (by rfl) hr.units) (by rfl) T.set (by decide +kernel) (pa_cons (pe_lc (own := [("_law_here", 4), ("_law_there", 5)]) (g := (gTup K 2 (gCons (gName 4) (gCons (gName 5) gNil)))) (by rfl) scLd.nd (pi_list (pv 1)) (blkOk_by (own := [("_law_here", 4), ("_law_there", 5)]) (N := ["_law_begin", "_law_pairs", "_law_found", "_law_at", "_law_here", "_law_there"]) (sc := defScope sLed) (by decide +kernel)) (fun _ _ _ _ _ => (pg_tup (by rfl) (pgs_cons (pg_name (i := 4) scLd.nd rfl (.inl rfl)) (pgs_cons (pg_name (i := 5) scLd.nd rfl (.inl rfl)) pgs_nil)))) (fun _ _ _ _ _ => (pts_one (PW.pt (pw_and (pt_cmpR op_eq (pv 4) (pe_ix (r := rIxL K) ix_list (pv 2) (pv 3) (fun _ _ => rfl)) (nomark _)) (pw_and1 (pt_cmpR (r := rIn K true) op_notIn_seq (pv 5) (pv 2) (by rfl))))))) (fun _ _ _ _ _ => (pv 5))) pa_nil)) pa_nil)) pa_nil)))
        (pss_one (ps_set (i := 3) scLd.nd rfl (.inr rfl) (pe_op op_add (pv 3) pe_int)))))
        (pss_one (ps_ret (pv 2))))), ?_⟩
    refine ⟨_, rfl, by show 1 ≤ sizeLine; decide, fun F0 nF0 => ⟨by show 2 ≤ sizeLine; decide, fun tp ntp => ?_⟩⟩
    refine ⟨tp, _, rfl, SqT.of upd_same, rfl, _, _, rfl, _, _, rfl, rfl, ?_⟩
    dsimp only
    refine go_seq ?_
    have hF1 : upd (upd H F0 (.lst [.int (b : Int)])) tp (.tup [.ref F0, .int 0]) F0 = some (.lst (nI [b])) := by
      rw [upd_ne (ne_of_none upd_same ntp)]
      exact upd_same
    refine while_by (fun σ G => ∃ (l : List Nat) (a : Nat) (v4 v5 : Option V), σ = [some (.int (b : Int)), some (.ref sp), some (.ref F0), some (.int (a : Int)), v4, v5] ∧ Same H G ∧ G F0 = some (.lst (nI l)) ∧ l.Nodup ∧ (∀ x ∈ l, x < n) ∧ b ∈ l ∧ a ≤ l.length ∧
        (∀ p ∈ ps, (∃ i, i < a ∧ l[i]? = some p.2.1) → p.2.2 ∈ l) ∧ ∀ S : List Nat, b ∈ S → (∀ e ∈ ps.map (·.2), e.1 ∈ S → e.2 ∈ S) → ∀ x ∈ l, x ∈ S)
      (fun σ _ => match σ with | [_, _, _, some (.int a), _, _] => n - a.toNat | _ => 0)
      ⟨[b], 0, _, _, rfl, same_updN (same_updN (Same.refl _) nF0) ((same_up (o := .lst [.int (b : Int)]) nF0).free ntp), hF1, List.nodup_cons.mpr ⟨(fun z => by cases z), List.nodup_nil⟩, (fun x hx => by rw [List.mem_singleton.mp hx]; exact b0), List.mem_cons_self, Nat.zero_le _, (fun p _ ⟨i, hi, _⟩ => absurd hi (Nat.not_lt_zero _)), fun S hb _ x hx => by rw [List.mem_singleton.mp hx]; exact hb⟩ ?_ ?_
    · rintro σ G ⟨l, a, v4, v5, rfl, SG, hF, nd, ltn, bl, al, cl, mn⟩
      have len1 : l.length ≤ n := nd_len n l nd ltn
      refine ⟨_, rfl, _, rfl, _, l.length, rfl, .inl ⟨_, SqL.of hF, (nI_len l).symm⟩, _, _, rfl, rfl, _, rfl, ?_⟩
      by_cases c : a < l.length
      · rw [decide_eq_true (by omega)]
        refine iteT ?_
        obtain ⟨la, hla⟩ : ∃ la, l[a]? = some la := ⟨_, List.getElem?_eq_getElem c⟩
        refine ⟨_, rfl, .inl ⟨rfl, _, SqL.of hF⟩, _, rfl, sp, rfl, ⟨_, SG.seq hS⟩, fun D nD => ?_⟩
        have nFD : F0 ≠ D := ne_of_none hF nD
        refine lc_list (K := K) (a := sp) (xs := ps.map fun p => V.ref p.1) (fun i H' => ∃ ts : List Nat, ts.length ≤ i ∧ (∀ x, x ∈ ts ↔ ∃ p ∈ ps.take i, p.2.1 = la ∧ p.2.2 = x ∧ x ∉ l) ∧ H' = upd G D (.lst (nI ts)))
          ⟨[], Nat.le_refl _, (fun x => by simp), rfl⟩ (fun i H' _ ⟨_, _, _, e⟩ => by rw [e]; exact (SG.trans (same_up nD)).seq hS) ?_ ?_
        · rintro i y H' hi ⟨ts, tl, tm, rfl⟩
          rw [List.getElem?_map] at hi
          obtain ⟨p, hp, rfl⟩ := Option.map_eq_some_iff.mp hi
          have il : i < ps.length := (List.getElem?_eq_some_iff.mp hp).1
          have tk : ps.take (i + 1) = ps.take i ++ [p] := by rw [List.take_add_one, hp] <;> rfl
          have SD : Same G (upd G D (.lst (nI ts))) := same_up nD
          have hF' := SD _ _ hF
          refine ⟨p.1, _, rfl, same_seqT (SG.trans SD) (tup p (List.mem_of_getElem? hp)), rfl, _, _, rfl, _, _, rfl, rfl, ⟨rfl, ?_⟩⟩
          refine ⟨_, rfl, _, rfl, _, rfl, F0, _, _, .int (la : Int), rfl, rfl, SqL.of hF', atI_nat (by unfold nI; rw [List.getElem?_map, hla] <;> rfl), rfl, _, rfl, ?_⟩
          by_cases e1 : p.2.1 = la
          · rw [decide_eq_true (by rw [e1])]
            refine iteT ?_
            refine ⟨_, rfl, _, rfl, F0, _, rfl, .inl (SqL.of hF'), rfl, flat_nI l, _, rfl, ?_⟩
            rw [inV_nI]
            by_cases e2 : p.2.2 ∈ l
            · rw [decide_eq_true e2]
              refine iteF ?_
              refine ⟨ts, Nat.le_succ_of_le tl, fun x => ?_, rfl⟩
              rw [tm, tk]
              refine ⟨fun ⟨q, hq, r⟩ => ⟨q, List.mem_append_left _ hq, r⟩, fun ⟨q, hq, r1, r2, r3⟩ => ?_⟩
              rcases List.mem_append.mp hq with z | z
              · exact ⟨q, z, r1, r2, r3⟩
              · rw [List.mem_singleton.mp z] at r2
                exact absurd (r2 ▸ e2) r3
            · rw [decide_eq_false e2]
              refine iteT ?_
              refine ⟨_, rfl, _, upd_same, by rw [nI_len, sizeLine_eq]; omega, ts ++ [p.2.2], by rw [List.length_append]; show ts.length + 1 ≤ i + 1; omega, fun x => ?_, by rw [upd_upd]; exact congrArg (fun z => upd G D (.lst z)) (nI_app ts [p.2.2])⟩
              rw [tk, List.mem_append, tm, List.mem_singleton]
              refine ⟨fun z => ?_, fun ⟨q, hq, r1, r2, r3⟩ => ?_⟩
              · rcases z with ⟨q, hq, r⟩ | z
                · exact ⟨q, List.mem_append_left _ hq, r⟩
                · exact ⟨p, List.mem_append_right _ List.mem_cons_self, e1, z.symm, z ▸ e2⟩
              · rcases List.mem_append.mp hq with z | z
                · exact .inl ⟨q, z, r1, r2, r3⟩
                · rw [List.mem_singleton.mp z] at r2
                  exact .inr r2.symm
          · rw [decide_eq_false fun z => e1 (by injection z with z; omega)]
            refine iteF ?_
            refine iteF ?_
            refine ⟨ts, Nat.le_succ_of_le tl, fun x => ?_, rfl⟩
            rw [tm, tk]
            refine ⟨fun ⟨q, hq, r⟩ => ⟨q, List.mem_append_left _ hq, r⟩, fun ⟨q, hq, r1, r2, r3⟩ => ?_⟩
            rcases List.mem_append.mp hq with z | z
            · exact ⟨q, z, r1, r2, r3⟩
            · rw [List.mem_singleton.mp z] at r1
              exact absurd r1 e1
        · rintro H' ⟨ts, tl, tm, rfl⟩
          rw [List.length_map, List.take_length] at *
          have SD : Same G (upd G D (.lst (nI ts))) := same_up nD
          have eI : nI ts = (ts.map fun (x : Nat) => (x : Int)).map V.int := by unfold nI; rw [List.map_map] <;> rfl
          refine ⟨D, ts.map fun (x : Nat) => (x : Int), rfl, SqL.of (by rw [← eI]; exact upd_same), by rw [List.length_map]; omega, fun f cnt p1 hf hc np1 => ?_⟩
          rw [List.length_map] at hc
          refine ⟨p1, f, cnt, rfl, upd_same, by omega, fun ns p2 asc mem len np2 => ?_⟩
          have S1 := SD.trans (same_up (o := SetO w p1 f cnt) np1)
          have nn : ∀ j ∈ ns, 0 ≤ j ∧ j.toNat ∈ ts := fun j hj => by
            obtain ⟨y, hy, e⟩ := List.mem_map.mp ((hf j).mp ((mem j).mp hj))
            subst e
            exact ⟨Int.natCast_nonneg _, hy⟩
          rw [to_nats fun j hj => (nn j hj).1]
          obtain ⟨zs, ez⟩ : ∃ zs, zs = ns.map Int.toNat := ⟨_, rfl⟩
          rw [← ez]
          have S2 : Same G _ := S1.trans (same_up (o := .lst (nI zs)) np2)
          have zt : ∀ x, x ∈ zs ↔ x ∈ ts := fun x => by
            rw [ez]
            refine ⟨fun hx => ?_, fun hx => ?_⟩
            · obtain ⟨j, hj, e⟩ := List.mem_map.mp hx
              exact e ▸ (nn j hj).2
            · exact List.mem_map.mpr ⟨(x : Int), (mem _).mpr ((hf _).mpr (List.mem_map.mpr ⟨x, hx, rfl⟩)), Int.toNat_natCast x⟩
          have zn : zs.Nodup := by
            rw [ez]
            unfold List.Nodup
            rw [List.pairwise_map]
            refine List.Pairwise.imp_of_mem (fun {x y} hx hy z e => ?_) asc
            have a1 := (nn x hx).1
            have a2 := (nn y hy).1
            omega
          have zl : ∀ x ∈ zs, x ∉ l ∧ ∃ p ∈ ps, p.2.1 = la ∧ p.2.2 = x := fun x hx => by
            obtain ⟨q, hq, r1, r2, r3⟩ := (tm x).mp ((zt x).mp hx)
            exact ⟨r3, q, hq, r1, r2⟩
          have nd2 : (l ++ zs).Nodup := List.nodup_append.mpr ⟨nd, zn, fun x hx y hy e => (zl y hy).1 (e ▸ hx)⟩
          have lt2 : ∀ x ∈ l ++ zs, x < n := fun x hx => (List.mem_append.mp hx).elim (ltn x) fun z => by
            obtain ⟨_, q, hq, _, r2⟩ := zl x z
            exact r2 ▸ (lt q hq).2
          have len2 := nd_len n _ nd2 lt2
          rw [List.length_append] at len2
          refine ⟨F0, p2, _, _, rfl, rfl, S2 _ _ hF, upd_same, by rw [nI_len, nI_len, sizeLine_eq]; omega, ?_⟩
          rw [nI_app]
          refine ⟨_, rfl, _, _, rfl, rfl, ⟨l ++ zs, a + 1, v4, v5, rfl, fun c o e => ?_, upd_same, nd2, lt2, List.mem_append_left _ bl, by rw [List.length_append]; omega, fun p hp ⟨i, hi, hli⟩ => ?_, fun S hb hc x hx => ?_⟩, ?_⟩
          · rw [upd_ne (ne_of_none e nF0)]
            exact S2 _ _ (SG _ _ e)
          · by_cases e1 : i = a
            · rw [e1, List.getElem?_append_left c, hla] at hli
              by_cases e2 : p.2.2 ∈ l
              · exact List.mem_append_left _ e2
              · exact List.mem_append_right _ ((zt _).mpr ((tm _).mpr ⟨p, hp, (Option.some.inj hli).symm, rfl, e2⟩))
            · have hi2 : i < a := by omega
              rw [List.getElem?_append_left (by omega)] at hli
              exact List.mem_append_left _ (cl p hp ⟨i, hi2, hli⟩)
          · rcases List.mem_append.mp hx with z | z
            · exact mn S hb hc x z
            · obtain ⟨_, q, hq, r1, r2⟩ := zl x z
              have a1 := hc q.2 (List.mem_map.mpr ⟨q, hq, rfl⟩) (by rw [r1]; exact mn S hb hc la (List.mem_of_getElem? hla))
              rw [r2] at a1
              exact a1
          · show n - ((a : Int) + 1).toNat < n - ((a : Nat) : Int).toNat
            omega
      · rw [decide_eq_false (by omega)]
        refine iteF ?_
        have ea : a = l.length := by omega
        refine ⟨_, rfl, k F0 l G SG nF0 hF ⟨nd, bl, fun e he hx => ?_, mn⟩ ltn⟩
        obtain ⟨p, hp, rfl⟩ := List.mem_map.mp he
        obtain ⟨i, hi⟩ := List.mem_iff_getElem?.mp hx
        exact cl p hp ⟨i, by rw [ea]; exact (List.getElem?_eq_some_iff.mp hi).1, hi⟩
    · exact fun σ H Q Q' hq ⟨v, e1, u, e2, x, n, e3, e4, i, j, e5, e6, c, e7, q⟩ => ⟨v, e1, u, e2, x, n, e3, e4, i, j, e5, e6, c, e7, hq _ _ q⟩
end
end Vk
set_option Elab.async false
set_option linter.all false
set_option maxRecDepth 100000
set_option maxHeartbeats 4000000
namespace Vk
open PySem PySem.Spec PyProof.Rows L2 Vt
/-! ## a drawn machine, on paper -/
/-- two moves that leave or enter one state by one letter -/
def Clash (a b : Mv) : Prop := b.c = a.c ∧ (b.s = a.s ∨ b.t = a.t)
instance (a b : Mv) : Decidable (Clash a b) := inferInstanceAs (Decidable (b.c = a.c ∧ (b.s = a.s ∨ b.t = a.t)))
theorem mvLt_or {a b : Mv} (h : ¬ Clash a b) : mvLt a b ∨ mvLt b a := by
  unfold Clash at h
  unfold mvLt
  omega
theorem asc_sorted {ms : List (Addr × Mv)} (srt : (ms.map kp).Pairwise fun x y => leM x y = true) (nc : ms.Pairwise fun p q => ¬ Clash p.2 q.2) : Asc ms := by
  unfold Asc
  rw [List.pairwise_map] at srt ⊢
  refine (srt.and nc).imp fun {x y} ⟨h1, h2⟩ => ?_
  rcases mvLt_or h2 with z | z
  · exact leM_lt z x.1 y.1
  · have := leM_lt z y.1 x.1
    have h1' : leM (x.1, mvK x.2) (y.1, mvK y.2) = true := h1
    rw [this] at h1'
    cases h1'
theorem eK_of {e : Int} {a b : Mv} (h : eK e a = eK e b) : a.c = b.c ∧ (if e = 0 then a.s else a.t) = (if e = 0 then b.s else b.t) := by
  unfold eK at h
  injection h with q1 q2
  injection q2 with q2 _
  injection q1 with q1
  injection q2 with q2
  unfold sg at q1
  injection q1 with q1
  have := congrArg (fun a : Array Nat => a.toList) q1
  refine ⟨(List.cons.inj this).1, ?_⟩
  by_cases z0 : e = 0
  · rw [if_pos z0, if_pos z0] at *
    omega
  · rw [if_neg z0, if_neg z0] at *
    omega
theorem idx_lt {l : List Nat} {x : Nat} (h : x ∈ l) : l.idxOf x < l.length := List.idxOf_lt_length_iff.mpr h
theorem idx_get {l : List Nat} {x : Nat} (h : x ∈ l) : l[l.idxOf x]? = some x := by
  rw [List.getElem?_eq_getElem (idx_lt h), List.getElem_idxOf]
theorem idx_inj {l : List Nat} {x y : Nat} (hx : x ∈ l) (hy : y ∈ l) (e : l.idxOf x = l.idxOf y) : x = y := by
  have a := idx_get hx
  rw [e, idx_get hy] at a
  exact (Option.some.inj a).symm
theorem idx_at {l : List Nat} (nd : l.Nodup) {i x : Nat} (h : l[i]? = some x) : l.idxOf x = i := by
  obtain ⟨hi, rfl⟩ := List.getElem?_eq_some_iff.mp h
  exact nd.idxOf_getElem i hi
structure Drawn (wide b gl : Nat) (qs : List Mv) (A B kept : List Nat) : Prop where
  ha : Led (qs.map fun m => (m.s, m.t)) b A
  hb : Led (qs.map fun m => (m.t, m.s)) gl B
  ga : gl ∈ A
  al : ∀ x ∈ A, x < wide
  w9 : wide ≤ 999
  ok : ∀ m ∈ qs, OkMv wide m
  nc : qs.Pairwise fun a b => ¬ Clash a b
  kpt : kept = (List.range wide).filter fun k => decide (k ∈ A) && decide (k ∈ B)
section
variable {wide b gl : Nat} {qs : List Mv} {A B kept : List Nat}
theorem Drawn.mem (W : Drawn wide b gl qs A B kept) {k : Nat} : k ∈ kept ↔ k ∈ A ∧ k ∈ B := by
  rw [W.kpt, List.mem_filter, List.mem_range, Bool.and_eq_true, decide_eq_true_eq, decide_eq_true_eq]
  exact ⟨fun h => h.2, fun h => ⟨W.al k h.1, h⟩⟩
theorem Drawn.nd (W : Drawn wide b gl qs A B kept) : kept.Nodup := by
  rw [W.kpt]
  exact List.nodup_range.filter _
theorem Drawn.bB (W : Drawn wide b gl qs A B kept) : b ∈ B := by
  have h := W.ha.mn (A.filter fun k => decide (k ∈ B → b ∈ B)) (List.mem_filter.mpr ⟨W.ha.st, decide_eq_true fun z => z⟩) (fun e he hs => ?_) gl W.ga
  · exact of_decide_eq_true (List.mem_filter.mp h).2 W.hb.st
  · obtain ⟨m, hm, rfl⟩ := List.mem_map.mp he
    obtain ⟨h1, h2⟩ := List.mem_filter.mp hs
    refine List.mem_filter.mpr ⟨W.ha.cl _ (List.mem_map.mpr ⟨m, hm, rfl⟩) h1, decide_eq_true fun z => ?_⟩
    exact of_decide_eq_true h2 (W.hb.cl (m.t, m.s) (List.mem_map.mpr ⟨m, hm, rfl⟩) z)
theorem Drawn.bk (W : Drawn wide b gl qs A B kept) : b ∈ kept := W.mem.mpr ⟨W.ha.st, W.bB⟩
theorem Drawn.gk (W : Drawn wide b gl qs A B kept) : gl ∈ kept := W.mem.mpr ⟨W.ga, W.hb.st⟩
def wayM (kept : List Nat) (m : Mv) : Mv := ⟨kept.idxOf m.s, m.c, kept.idxOf m.t⟩
def ways (kept : List Nat) (qs : List Mv) : List Mv := (qs.filter fun m => decide (m.s ∈ kept) && decide (m.t ∈ kept)).map (wayM kept)
theorem mem_ways {m : Mv} : m ∈ ways kept qs ↔ ∃ q ∈ qs, q.s ∈ kept ∧ q.t ∈ kept ∧ wayM kept q = m := by
  unfold ways
  rw [List.mem_map]
  constructor
  · rintro ⟨q, hq, e⟩
    rw [List.mem_filter, Bool.and_eq_true, decide_eq_true_eq, decide_eq_true_eq] at hq
    exact ⟨q, hq.1, hq.2.1, hq.2.2, e⟩
  · rintro ⟨q, hq, h1, h2, e⟩
    exact ⟨q, by rw [List.mem_filter, Bool.and_eq_true, decide_eq_true_eq, decide_eq_true_eq]; exact ⟨hq, h1, h2⟩, e⟩
theorem ways_nc (nc : qs.Pairwise fun a b => ¬ Clash a b) : (ways kept qs).Pairwise fun a b => ¬ Clash a b := by
  unfold ways
  rw [List.pairwise_map]
  refine List.Pairwise.imp_of_mem (fun {x y} hx hy h z => h ?_) (nc.filter _)
  rw [List.mem_filter, Bool.and_eq_true, decide_eq_true_eq, decide_eq_true_eq] at hx hy
  exact ⟨z.1, z.2.imp (fun e => idx_inj hy.2.1 hx.2.1 e) fun e => idx_inj hy.2.2 hx.2.2 e⟩
theorem Drawn.fw (W : Drawn wide b gl qs A B kept) {es : List (Nat × Nat)} (he : ∀ m ∈ ways kept qs, (m.s, m.t) ∈ es) : Conn kept.length (kept.idxOf b) es := by
  intro S hS cl x hx
  obtain ⟨k, hk⟩ : ∃ k, kept[x]? = some k := ⟨_, List.getElem?_eq_getElem hx⟩
  have mk := W.mem.mp (List.mem_of_getElem? hk)
  have h := W.ha.mn (A.filter fun k => decide (k ∈ B → kept.idxOf k ∈ S)) (List.mem_filter.mpr ⟨W.ha.st, decide_eq_true fun _ => hS⟩) (fun e hee hs => ?_) k mk.1
  · have := of_decide_eq_true (List.mem_filter.mp h).2 mk.2
    rw [idx_at W.nd hk] at this
    exact this
  · obtain ⟨m, hm, rfl⟩ := List.mem_map.mp hee
    obtain ⟨h1, h2⟩ := List.mem_filter.mp hs
    have tA := W.ha.cl _ (List.mem_map.mpr ⟨m, hm, rfl⟩) h1
    refine List.mem_filter.mpr ⟨tA, decide_eq_true fun tB => ?_⟩
    have sB := W.hb.cl (m.t, m.s) (List.mem_map.mpr ⟨m, hm, rfl⟩) tB
    exact cl _ (he (wayM kept m) (mem_ways.mpr ⟨m, hm, W.mem.mpr ⟨h1, sB⟩, W.mem.mpr ⟨tA, tB⟩, rfl⟩)) (of_decide_eq_true h2 sB)
theorem Drawn.bw (W : Drawn wide b gl qs A B kept) (bl : ∀ x ∈ B, x < wide) {es : List (Nat × Nat)} (he : ∀ m ∈ ways kept qs, (m.t, m.s) ∈ es) : Conn kept.length (kept.idxOf gl) es := by
  intro S hS cl x hx
  obtain ⟨k, hk⟩ : ∃ k, kept[x]? = some k := ⟨_, List.getElem?_eq_getElem hx⟩
  have mk := W.mem.mp (List.mem_of_getElem? hk)
  have h := W.hb.mn (B.filter fun k => decide (k ∈ A → kept.idxOf k ∈ S)) (List.mem_filter.mpr ⟨W.hb.st, decide_eq_true fun _ => hS⟩) (fun e hee hs => ?_) k mk.2
  · have := of_decide_eq_true (List.mem_filter.mp h).2 mk.1
    rw [idx_at W.nd hk] at this
    exact this
  · obtain ⟨m, hm, rfl⟩ := List.mem_map.mp hee
    obtain ⟨h1, h2⟩ := List.mem_filter.mp hs
    have sB := W.hb.cl _ (List.mem_map.mpr ⟨m, hm, rfl⟩) h1
    refine List.mem_filter.mpr ⟨sB, decide_eq_true fun sA => ?_⟩
    have tA := W.ha.cl (m.s, m.t) (List.mem_map.mpr ⟨m, hm, rfl⟩) sA
    exact cl _ (he (wayM kept m) (mem_ways.mpr ⟨m, hm, W.mem.mpr ⟨sA, sB⟩, W.mem.mpr ⟨tA, h1⟩, rfl⟩)) (of_decide_eq_true h2 tA)
/-- the drawn machine is one -/
theorem Drawn.okM (W : Drawn wide b gl qs A B kept) (bl : ∀ x ∈ B, x < wide) (few : qs.length ≤ 3999) {ms : List (Addr × Mv)} (pm : (ms.map (·.2)).Perm (ways kept qs)) (srt : (ms.map kp).Pairwise fun x y => leM x y = true) : OkM kept.length (kept.idxOf b) (kept.idxOf gl) ms := by
  have nc : (ms.map (·.2)).Pairwise fun a b => ¬ Clash a b := pm.symm.pairwise (ways_nc W.nc) fun {x y} h z => h ⟨z.1.symm, z.2.imp Eq.symm Eq.symm⟩
  have nc2 : ms.Pairwise fun p q => ¬ Clash p.2 q.2 := List.pairwise_map.mp nc
  have len : kept.length ≤ wide := by
    rw [W.kpt]
    exact Nat.le_trans (List.length_filter_le _ _) (Nat.le_of_eq List.length_range)
  have bk := idx_lt W.bk
  have inW : ∀ p ∈ ms, ∃ q ∈ qs, q.s ∈ kept ∧ q.t ∈ kept ∧ wayM kept q = p.2 := fun p hp => mem_ways.mp (pm.mem_iff.mp (List.mem_map.mpr ⟨p, hp, rfl⟩))
  have w9 := W.w9
  refine ⟨by omega, by omega, bk, idx_lt W.gk, fun p hp => ?_, asc_sorted srt nc2, ?_, ?_, ?_, W.fw fun m hm => ?_, W.bw bl fun m hm => ?_⟩
  · obtain ⟨q, hq, h1, h2, e⟩ := inW p hp
    rw [← e]
    exact ⟨idx_lt h1, idx_lt h2, (W.ok q hq).2.2⟩
  · unfold List.Nodup
    rw [List.pairwise_map]
    exact nc2.imp fun {x y} h z => h ⟨(eK_of z).1.symm, .inl (by have := (eK_of z).2; rw [if_pos rfl, if_pos rfl] at this; exact this.symm)⟩
  · unfold List.Nodup
    rw [List.pairwise_map]
    exact nc2.imp fun {x y} h z => h ⟨(eK_of z).1.symm, .inr (by have := (eK_of z).2; rw [if_neg (by decide), if_neg (by decide)] at this; exact this.symm)⟩
  · have := pm.length_eq
    unfold ways at this
    rw [List.length_map, List.length_map] at this
    have := List.length_filter_le (fun m : Mv => decide (m.s ∈ kept) && decide (m.t ∈ kept)) qs
    omega
  · obtain ⟨p, hp, rfl⟩ := List.mem_map.mp (pm.mem_iff.mpr hm)
    exact List.mem_map.mpr ⟨p, hp, rfl⟩
  · obtain ⟨p, hp, rfl⟩ := List.mem_map.mp (pm.mem_iff.mpr hm)
    exact List.mem_map.mpr ⟨p, hp, rfl⟩
end
end Vk
set_option Elab.async false
set_option linter.all false
set_option maxRecDepth 100000
set_option maxHeartbeats 4000000
namespace Vk
open PySem PySem.Spec PyProof.Rows L2 Vt
theorem DeckAt.same {H H' : Hp} {d g : Addr} {n : Int} (D : DeckAt H d g n) (s : Same H H') : DeckAt H' d g n := by
  obtain ⟨m, l, h1, h2⟩ := D.dk
  obtain ⟨gs, h3, h4⟩ := D.gr
  exact ⟨⟨m, l, s _ _ h1, h2⟩, gs, s _ _ h3, h4⟩
/-- what stands at d is a dict, at g a list -/
theorem DeckAt.two {H : Hp} {d g : Addr} {n : Int} (D : DeckAt H d g n) : (∃ kvs, H d = some (.dK kvs)) ∧ ∃ xs, H g = some (.lst xs) := by
  obtain ⟨m, l, h1, h2⟩ := D.dk
  obtain ⟨gs, h3, h4⟩ := D.gr
  exact ⟨⟨_, h1⟩, _, h3⟩
/-- all but dicts and lists stays -/
def Off (H H' : Hp) : Prop := ∀ b o, H b = some o → (∀ kvs, o ≠ .dK kvs) → (∀ xs, o ≠ .lst xs) → H' b = some o
theorem off_same {H H' : Hp} (S : Same H H') : Off H H' := fun b o h _ _ => S b o h
theorem Off.trans {H H' H2 : Hp} (S : Off H H') (T : Off H' H2) : Off H H2 := fun b o h n1 n2 => T b o (S b o h n1 n2) n1 n2
theorem But.off {H H' : Hp} {d g : Addr} {n : Int} (B : But d g H H') (D : DeckAt H d g n) : Off H H' := fun b o h n1 n2 => by
  obtain ⟨⟨kvs, h1⟩, xs, h2⟩ := D.two
  exact B b o h (ne_of h h1 (n1 kvs)) (ne_of h h2 (n2 xs))
theorem off_lst {H : Hp} {L : Addr} {xs : List V} {o' : HO} (h : H L = some (.lst xs)) : Off H (upd H L o') := fun b o hb _ n2 => by
  rw [upd_ne (ne_of hb h (n2 xs))]
  exact hb
theorem Off.tup {K : PySem.W.Frag} {H H' : Hp} {b : Addr} {xs : List V} (S : Off H H') (h : SqT K H b xs) : SqT K H' b xs := by
  rcases h with (h | ⟨o, h⟩) | h
  · exact .inl (.inl (S _ _ h (fun _ z => by cases z) (fun _ z => by cases z)))
  · exact .inl (.inr ⟨o, S _ _ h (fun _ z => by cases z) (fun _ z => by cases z)⟩)
  · exact .inr h
theorem MvsAt.off {K : PySem.W.Frag} {H H' : Hp} {l : Addr} {ms : List (Addr × Mv)} (h : MvsAt K H l ms) (S : Off H H') : MvsAt K H' l ms := ⟨S.tup h.tp, fun p hp => S.tup (h.it p hp)⟩
theorem MachAt.off {K : PySem.W.Frag} {C a : Addr} {H H' : Hp} {n st la : Nat} {ms : List (Addr × Mv)} (h : MachAt K C H a n st la ms) (S : Off H H') : MachAt K C H' a n st la ms := by
  obtain ⟨dx, l, E, F, z, ha, hM, hE, hF⟩ := h.ob
  refine ⟨h.ok, ⟨dx, l, E, F, z, S _ _ ha (fun _ z => by cases z) (fun _ z => by cases z), hM.off S, S _ _ hE (fun _ z => by cases z) (fun _ z => by cases z), S _ _ hF (fun _ z => by cases z) (fun _ z => by cases z)⟩, fun dx' l' E' F' z' y => ?_⟩
  rw [S _ _ ha (fun _ z => by cases z) (fun _ z => by cases z)] at y
  rw [← mF_z (ins_inj y)]
  exact h.lt _ _ _ _ _ ha
theorem deck_upd {H : Hp} {d g D : Addr} {n : Int} {o : HO} (h : DeckAt H d g n) (n1 : d ≠ D) (n2 : g ≠ D) : DeckAt (upd H D o) d g n := by
  obtain ⟨mm, l, h1, h2⟩ := h.dk
  obtain ⟨gs, h3, h4⟩ := h.gr
  exact ⟨⟨mm, l, by rw [upd_ne n1]; exact h1, h2⟩, gs, by rw [upd_ne n2]; exact h3, h4⟩
theorem But.seq {d g a : Addr} {n : Int} {K : PySem.W.Frag} {H H' : Hp} {xs : List V} (e : But d g H H') (D : DeckAt H d g n) (ng : a ≠ g) (h : SqL K H a xs) : SqL K H' a xs := by
  obtain ⟨m, l, hd, _⟩ := D.dk
  rcases h with (h | ⟨o, h⟩) | h
  · exact .inl (.inl (e _ _ h (ne_of h hd (by intro z; cases z)) ng))
  · exact .inl (.inr ⟨o, e _ _ h (ne_of h hd (by intro z; cases z)) ng⟩)
  · exact .inr h
theorem But.trans {d g : Addr} {H H' H2 : Hp} (e : But d g H H') (f : But d g H' H2) : But d g H H2 := fun b o h n1 n2 => f b o (e b o h n1 n2) n1 n2
theorem but_same {d g : Addr} {H H' : Hp} (S : Same H H') : But d g H H' := fun b o h _ _ => S b o h
theorem sg_dec (a b : Nat) : decide (V.str (sg a) = V.str (sg b)) = decide (a = b) := by
  rw [Bool.eq_iff_iff, decide_eq_true_eq, decide_eq_true_eq]
  refine ⟨fun z => ?_, fun z => by rw [z]⟩
  injection z with z
  exact (List.cons.inj (congrArg (fun y : Str => y.cps.toList) z)).1
theorem int_dec (a b : Nat) : decide (V.int (a : Int) = V.int (b : Int)) = decide (a = b) := by
  rw [Bool.eq_iff_iff, decide_eq_true_eq, decide_eq_true_eq]
  refine ⟨fun z => ?_, fun z => by rw [z]⟩
  injection z with z
  omega
/-- tracked texts of the law's letters -/
def signsL : List V := [.str "a", .str "ab", .str "ab", .str "abc", .str "xyz"]
/-- the letters of a drawn machine -/
def sigs : List (List Nat) := [[97], [97, 98], [97, 98, 99], [120, 121, 122]]
def OkZ (z : Str) (n : Nat) (m : Mv) : Prop := OkMv n m ∧ m.c ∈ z.cps.toList
theorem signs_at {i : Nat} {v : V} (h : signsL[i]? = some v) : ∃ z : Str, v = .str z ∧ 0 < z.cps.size ∧ z.cps.size < 1000000 ∧ (∀ (j c : Nat), z.cps[j]? = some c → 97 ≤ c ∧ c ≤ 122) ∧ z.cps.toList ∈ sigs := by
  have fin : ∀ z : Str, (z.cps.toList.all fun c => decide (97 ≤ c ∧ c ≤ 122)) = true → ∀ (j c : Nat), z.cps[j]? = some c → 97 ≤ c ∧ c ≤ 122 := fun z h j c hj => by
    rw [← Array.getElem?_toList] at hj
    exact of_decide_eq_true (List.all_eq_true.mp h c (List.mem_of_getElem? hj))
  match i, h with
  | 0, rfl => exact ⟨"a", rfl, by decide, by decide, fin _ (by decide), by decide⟩
  | 1, rfl => exact ⟨"ab", rfl, by decide, by decide, fin _ (by decide), by decide⟩
  | 2, rfl => exact ⟨"ab", rfl, by decide, by decide, fin _ (by decide), by decide⟩
  | 3, rfl => exact ⟨"abc", rfl, by decide, by decide, fin _ (by decide), by decide⟩
  | 4, rfl => exact ⟨"xyz", rfl, by decide, by decide, fin _ (by decide), by decide⟩
/-- rows of a list: moves -/
structure RowsM (H : Hp) (R : Addr) (qs : List (Addr × Mv)) : Prop where
  ls : H R = some (.lst (qs.map fun p => V.ref p.1))
  it : ∀ p ∈ qs, H p.1 = some (.tup (mvV p.2))
theorem RowsM.same {H H' : Hp} {R : Addr} {qs : List (Addr × Mv)} (h : RowsM H R qs) (S : Same H H') : RowsM H' R qs := ⟨S _ _ h.ls, fun p hp => S _ _ (h.it p hp)⟩
theorem RowsM.but {H H' : Hp} {R d g : Addr} {n : Int} {qs : List (Addr × Mv)} (h : RowsM H R qs) (D : DeckAt H d g n) (B : But d g H H') (ng : R ≠ g) : RowsM H' R qs := by
  obtain ⟨⟨kvs, h1⟩, xs, h2⟩ := D.two
  exact ⟨B _ _ h.ls (ne_of h.ls h1 (fun z => by cases z)) ng, fun p hp => B.off D _ _ (h.it p hp) (fun _ z => by cases z) (fun _ z => by cases z)⟩
/-- pairs of states in a list -/
structure PairsM (H : Hp) (R : Addr) (ps : List (Addr × Nat × Nat)) : Prop where
  ls : H R = some (.lst (ps.map fun p => V.ref p.1))
  it : ∀ p ∈ ps, H p.1 = some (.tup [.int (p.2.1 : Int), .int (p.2.2 : Int)])
theorem PairsM.add {G H : Hp} {R t : Addr} {ps : List (Addr × Nat × Nat)} {a b : Nat} (h : PairsM H R ps) (nt : H t = none) (gR : G R = none) (S : Same G H) :
    Same G (upd (upd H t (.tup [.int (a : Int), .int (b : Int)])) R (.lst ((ps.map fun p => V.ref p.1) ++ [.ref t]))) ∧ PairsM (upd (upd H t (.tup [.int (a : Int), .int (b : Int)])) R (.lst ((ps.map fun p => V.ref p.1) ++ [.ref t]))) R (ps ++ [(t, a, b)]) := by
  have nRt : R ≠ t := ne_of_none h.ls nt
  refine ⟨fun c o e => ?_, ?_, fun p hp => ?_⟩
  · rw [upd_ne (ne_of_none e gR), upd_ne (ne_of_none (S _ _ e) nt)]
    exact S _ _ e
  · rw [upd_same, List.map_append] <;> rfl
  · rcases List.mem_append.mp hp with z | z
    · have y := h.it p z
      rw [upd_ne (ne_of y h.ls (fun z => by cases z)), upd_ne (ne_of_none y nt)]
      exact y
    · rw [List.mem_singleton.mp z, upd_ne nRt.symm]
      exact upd_same
theorem RowsM.add {G H : Hp} {R t : Addr} {qs : List (Addr × Mv)} {m : Mv} (h : RowsM H R qs) (nt : H t = none) (gR : G R = none) (S : Same G H) :
    Same G (upd (upd H t (.tup (mvV m))) R (.lst ((qs.map fun p => V.ref p.1) ++ [.ref t]))) ∧ RowsM (upd (upd H t (.tup (mvV m))) R (.lst ((qs.map fun p => V.ref p.1) ++ [.ref t]))) R (qs ++ [(t, m)]) := by
  have nRt : R ≠ t := ne_of_none h.ls nt
  refine ⟨fun c o e => ?_, ?_, fun p hp => ?_⟩
  · rw [upd_ne (ne_of_none e gR), upd_ne (ne_of_none (S _ _ e) nt)]
    exact S _ _ e
  · rw [upd_same, List.map_append] <;> rfl
  · rcases List.mem_append.mp hp with z | z
    · have y := h.it p z
      rw [upd_ne (ne_of y h.ls (fun z => by cases z)), upd_ne (ne_of_none y nt)]
      exact y
    · rw [List.mem_singleton.mp z, upd_ne nRt.symm]
      exact upd_same
theorem if_int {c : Prop} [Decidable c] {σ : L2.St} {H : Hp} {Q : VK} {i j x y : Nat} (hx : σ[i]? = some (some (.int (x : Int)))) (hy : σ[j]? = some (some (.int (y : Int)))) (h : Q (.int (((if c then x else y) : Nat) : Int)) H) : if decide c = true then tVar i σ H Q else tVar j σ H Q := by
  by_cases e : c
  · rw [decide_eq_true e]
    rw [if_pos e] at h
    exact iteT ⟨_, hx, h⟩
  · rw [decide_eq_false e]
    rw [if_neg e] at h
    exact iteF ⟨_, hy, h⟩
theorem idx_nI {l : List Nat} {x : Nat} (h : x ∈ l) : (nI l)[l.idxOf x]? = some (.int (x : Int)) ∧ eqV (.int (x : Int)) (.int (x : Int)) = true ∧ ∀ (m : Nat) (z' : V), m < l.idxOf x → (nI l)[m]? = some z' → eqV z' (.int (x : Int)) = false := by
  refine ⟨?_, by rw [eqV_int, decide_eq_true rfl], fun m z' hm hz => ?_⟩
  · unfold nI
    rw [List.getElem?_map, idx_get h] <;> rfl
  · unfold nI at hz
    rw [List.getElem?_map] at hz
    obtain ⟨y, hy, rfl⟩ := Option.map_eq_some_iff.mp hz
    rw [eqV_int]
    refine decide_eq_false fun e => ?_
    subst e
    have h2 : l.idxOf y ≤ m := by
      have hml : m < l.length := (List.getElem?_eq_some_iff.mp hy).1
      refine Nat.le_of_not_lt fun q => ?_
      have := List.not_of_lt_findIdx (p := (· == y)) (xs := l) q
      rw [(List.getElem?_eq_some_iff.mp hy).2] at this
      simp at this
    omega
theorem perm_of_map {α β : Type} {f : α → β} {l₁ l₂ : List β} (p : l₁.Perm l₂) : ∀ xs : List α, xs.map f = l₂ → ∃ ys : List α, ys.Perm xs ∧ ys.map f = l₁ := by
  induction p with
  | nil =>
    intro xs h
    rw [List.map_eq_nil_iff.mp h]
    exact ⟨[], .nil, rfl⟩
  | cons x p ih =>
    intro xs h
    obtain ⟨y, ys, rfl, rfl, h2⟩ := List.map_eq_cons_iff.mp h
    obtain ⟨zs, pz, ez⟩ := ih ys h2
    exact ⟨y :: zs, pz.cons y, by rw [List.map_cons, ez]⟩
  | swap x y l =>
    intro xs h
    obtain ⟨a, r, rfl, rfl, h2⟩ := List.map_eq_cons_iff.mp h
    obtain ⟨b, s, rfl, rfl, h3⟩ := List.map_eq_cons_iff.mp h2
    exact ⟨b :: a :: s, .swap a b s, by rw [List.map_cons, List.map_cons, h3]⟩
  | trans p q ih1 ih2 =>
    intro xs h
    obtain ⟨ys, py, ey⟩ := ih2 xs h
    obtain ⟨zs, pz, ez⟩ := ih1 ys ey
    exact ⟨zs, pz.trans py, ez⟩
theorem filter_range (p : Nat → Bool) (n : Nat) : (List.range (n + 1)).filter p = (List.range n).filter p ++ if p n = true then [n] else [] := by
  rw [List.range_succ, List.filter_append, List.filter_cons, List.filter_nil]
theorem ways_take {kept : List Nat} {qs : List (Addr × Mv)} {i : Nat} {p : Addr × Mv} (h : qs[i]? = some p) : ways kept ((qs.take (i + 1)).map (·.2)) = ways kept ((qs.take i).map (·.2)) ++ (if (decide (p.2.s ∈ kept) && decide (p.2.t ∈ kept)) = true then [wayM kept p.2] else []) := by
  unfold ways
  rw [List.take_add_one, h]
  show List.map _ (List.filter _ (List.map _ (List.take i qs ++ [p]))) = _
  rw [List.map_append, List.filter_append, List.map_append, List.map_cons, List.map_nil, List.filter_cons, List.filter_nil]
  split <;> rfl
theorem rin {K : PySem.W.Frag} {H : Hp} {Q : VK} {p : Addr} {l : List Nat} {x : Nat} (h : H p = some (.lst (nI l))) (q : Q (.bl (decide (x ∈ l))) H) : rIn K false (.int (x : Int)) (.ref p) H Q :=
  ⟨p, _, rfl, .inl (SqL.of h), rfl, flat_nI _, by rw [if_neg Bool.false_ne_true, inV_nI]; exact q⟩
theorem ridx {K : PySem.W.Frag} {H : Hp} {Q : VK} {p : Addr} {l : List Nat} {x : Nat} (h : H p = some (.lst (nI l))) (m : x ∈ l) (q : Q (.int ((l.idxOf x : Nat) : Int)) H) : rIndex K (.ref p) [.int (x : Int)] H Q :=
  let ⟨i1, i2, i3⟩ := idx_nI m
  ⟨p, _, _, _, _, rfl, rfl, SqL.of h, rfl, flat_nI _, i1, i2, i3, q⟩
/-- xs.index(y), also in a comprehension -/
theorem pe_index {X : Cx} {K : PySem.W.Frag} (hK : X.K = K) {o e : Expr} {to : TE} {t : TA} {apos cpos : Pos} (ho : PE X o to) (ha : PA X [e] t)
    (hbase : attributeBase o "index" X.env (eval o X.env) = eval o X.env)
    (hfew : ((backTo cpos (starEach [e] X.env)).all (fun x => !x.1) && (backToKw cpos (keywordEach [] X.env)).all (fun x => x.1.isSome)
      && decide ([e].length + ([] : List Keyword).length + (if ([] : List Keyword).isEmpty then 0 else 1) < 30)) = true)
    (hline : (apos.endLine == cpos.line) = true) (hs : starEach [e] X.env = (false, eval e X.env) :: starEach [] X.env) (hplain : (backTo cpos (starEach [] X.env)).any (·.1) = false) :
    PE X (.Call (.Attribute o "index" apos) [e] [] cpos) (tBM K "list" (rIndex K) to t) := by
  subst hK
  exact pe_bm PySem.F.plainAttrs_list PySem.F.slot_list_index PySem.F.type_list_index mt_index ho ha hbase hfew hline hs hplain
section
variable {P : Program} {w : World} {K : PySem.W.Frag} {mg : Str → Option Value} {base : Heap}
/-- an item of a list -/
def spPickL (K : PySem.W.Frag) : Sp := fun vs H Q _ => ∃ (d g a : Addr) (n : Int) (xs : List V), vs = [.ref d, .ref a] ∧ DeckAt H d g n ∧ n < 1000000000 ∧ SqL K H a xs ∧ 0 < xs.length ∧ xs.length < 1000000 ∧ a ≠ g ∧
  ∀ (i : Nat) (v : V) (H' : Hp), xs[i]? = some v → DeckAt H' d g (n + 1) → But d g H H' → Q v H'
theorem ok_pickL {f fD : Addr} {fd fdD : FuncData} (F : Fun K "_law_pick" "_law_pick" sPick f fd) (FD : Fun K "_law_draw" "_law_draw" sDraw fD fdD) (gD : mg "_law_draw" = some (.ref fD)) (bD : Binds K fdD ["_law_deck_here", "_law_below"] []) (GD : FnOk P w K mg base CX0 1 fD fdD ["_law_deck_here", "_law_below"] spDraw) (ml : mg "len" = none) :
    FnOk P w K mg base CX0 2 f fd ["_law_deck_here", "_law_menu"] (spPickL K) := by
  refine F.ok scPk (fun vs H Q E h => ?_) (fun cdv A outer s H vs Q E hr h => ?_)
  · obtain ⟨d, g, a, n, xs, rfl, _⟩ := h
    rfl
  · obtain ⟨d, g, a, n, xs, rfl, D, hn, hS, h0, h1, ng, k⟩ := h
    refine ⟨_, pss_one (ps_ret (pe_ix ix_list (pv 1) (pe_call GD hr rfl gD FD.kp bD .nil pass0 (pa_cons (pv 0) (pa_cons (pe_callB call_len_seq (by rfl) ml PySem.boot_len (pa_cons (pv 1) pa_nil)) pa_nil))) (fun _ _ => rfl))), ?_⟩
    refine ⟨_, rfl, _, rfl, _, rfl, a, _, rfl, .inl hS, d, g, _, n, rfl, D, by omega, by omega, hn, fun r H' r0 r1 D' bt => ?_⟩
    obtain ⟨i, rfl⟩ : ∃ i : Nat, r = (i : Int) := ⟨r.toNat, by omega⟩
    have hi : i < xs.length := by omega
    have hv : xs[i]? = some xs[i] := List.getElem?_eq_getElem hi
    exact ⟨a, xs, _, xs[i], rfl, rfl, bt.seq D ng hS, atI_nat hv, k i _ H' hv D' bt⟩
end
end Vk
set_option Elab.async false
set_option linter.all false
set_option maxRecDepth 100000
set_option maxHeartbeats 4000000
namespace Vk
open PySem PySem.Spec PyProof.Rows L2 Vt
abbrev sWorld : Stmt := top8 40
def planK (n st la : Nat) (l : Addr) : List (Key × V) := [(.inr "size", .int (n : Int)), (.inr "first", .int (st : Int)), (.inr "last", .int (la : Int)), (.inr "moves", .ref l)]
section
variable {P : Program} {w : World} {K : PySem.W.Frag} {mg : Str → Option Value} {base : Heap}
/-- a drawn machine's parts, in a dict -/
def spWorld (K : PySem.W.Frag) : Sp := fun vs H Q _ => ∃ (d g : Addr) (m : Int) (top many : Nat), vs = [.ref d, .int (top : Int), .int (many : Int)] ∧ DeckAt H d g m ∧ 1 ≤ top ∧ top ≤ 8 ∧ many ≤ 20 ∧ m < 900000000 ∧
  ∀ (q l : Addr) (n st la : Nat) (ms : List (Addr × Mv)) (H' : Hp) (m' : Int), But d g H H' → H q = none → H' q = some (.dK (planK n st la l)) → MvsAt K H' l ms → OkM n st la ms → n ≤ top → DeckAt H' d g m' → m' ≤ m + 70 → (∃ zs ∈ sigs, ∀ p ∈ ms, p.2.c ∈ zs) → ms.length ≤ many → Q (.ref q) H'
theorem scWo : FnScope ["_law_deck_here", "_law_top", "_law_many", "_law_wide", "_law_signs", "_law_rows", "_law_k", "_law_row", "_law_s", "_law_x", "_law_t", "_law_begin", "_law_goal", "_law_ahead", "_law_homes", "_law_kept", "_law_ways"] ["_law_deck_here", "_law_top", "_law_many"] (defScope sWorld) := ⟨rfl, rfl, rfl, by decide +kernel, rfl, by decide +kernel, by decide +kernel⟩
theorem ok_world {f fDr fPi fLd : Addr} {fd fdDr fdPi fdLd : FuncData} (F : Fun K "_law_world" "_law_world" sWorld f fd) (T : Txt8 K mg)
    (GDr : FnOk P w K mg base CX0 1 fDr fdDr ["_law_deck_here", "_law_below"] spDraw) (gDr : mg "_law_draw" = some (.ref fDr)) (kDr : PySem.W.keepIn K (.ref fDr) = true) (bDr : Binds K fdDr ["_law_deck_here", "_law_below"] [])
    (GPs : FnOk P w K mg base CX0 2 fPi fdPi ["_law_deck_here", "_law_menu"] spPickS) (GPl : FnOk P w K mg base CX0 2 fPi fdPi ["_law_deck_here", "_law_menu"] (spPickL K)) (gPi : mg "_law_pick" = some (.ref fPi)) (kPi : PySem.W.keepIn K (.ref fPi) = true) (bPi : Binds K fdPi ["_law_deck_here", "_law_menu"] [])
    (GLd : FnOk P w K mg base CX0 1 fLd fdLd ["_law_begin", "_law_pairs"] (spLed K)) (gLd : mg "_law_led" = some (.ref fLd)) (kLd : PySem.W.keepIn K (.ref fLd) = true) (bLd : Binds K fdLd ["_law_begin", "_law_pairs"] []) :
    FnOk P w K mg base CX0 3 f fd ["_law_deck_here", "_law_top", "_law_many"] (spWorld K) := by
  refine F.ok scWo (fun vs H Q E h => ?_) (fun cdv A outer s H vs Q E hr h => ?_)
  · obtain ⟨d, g, m, top, many, rfl, _⟩ := h
    rfl
  · obtain ⟨d, g, m, top, many, rfl, DD0, t1, t2, m2, mB, k⟩ := h
    have hr1 : Room 1 _ := hr.mono (by decide)
    have hr2 : Room 2 _ := hr
    refine ⟨_, (pss_cons (ps_par3 (i := 3) (j := 4) (l := 5) (by rfl) scWo.nd rfl rfl rfl (by decide) (by decide) (by decide) rfl rfl rfl (pa_cons (pe_op op_add pe_int (pe_call GDr hr1 rfl gDr kDr bDr .nil pass0 (pa_cons (pv 0) (pa_cons (pv 1) pa_nil)))) (pa_cons (pe_call GPl hr2 rfl gPi kPi bPi .nil pass0 (pa_cons (pv 0) (pa_cons (pe_lst (pa_cons pe_str (pa_cons pe_str (pa_cons pe_str (pa_cons pe_str (pa_cons pe_str pa_nil)))))) pa_nil))) (pa_cons (pe_lst pa_nil) pa_nil))) (by rfl))
        (pss_cons (ps_for PassesOwn.never rfl (pi_range1 (by rfl) T.rng (pa_cons (pe_call GDr hr1 rfl gDr kDr bDr .nil pass0 (pa_cons (pv 0) (pa_cons (pe_op op_add (pv 2) pe_int) pa_nil))) pa_nil)) (pg_name (i := 6) scWo.nd rfl (.inl rfl)) (pss_cons (ps_set (i := 7) scWo.nd rfl (.inr rfl) (pe_tup (pa_cons (pe_call GDr hr1 rfl gDr kDr bDr .nil pass0 (pa_cons (pv 0) (pa_cons (pv 3) pa_nil))) (pa_cons (pe_call GPs hr2 rfl gPi kPi bPi .nil pass0 (pa_cons (pv 0) (pa_cons (pv 4) pa_nil))) (pa_cons (pe_call GDr hr1 rfl gDr kDr bDr .nil pass0 (pa_cons (pv 0) (pa_cons (pv 3) pa_nil))) pa_nil)))))
        (pss_one (ps_if (pt_cmpR (op_eqD hr.units) (pe_lc (own := [("_law_s", 8), ("_law_x", 9), ("_law_t", 10)]) (g := (gTup K 3 (gCons (gName 8) (gCons (gName 9) (gCons (gName 10) gNil))))) (by rfl) scWo.nd (pi_list (pv 5)) (blkOk_by (own := [("_law_s", 8), ("_law_x", 9), ("_law_t", 10)]) (N := ["_law_deck_here", "_law_top", "_law_many", "_law_wide", "_law_signs", "_law_rows", "_law_k", "_law_row", "_law_s", "_law_x", "_law_t", "_law_begin", "_law_goal", "_law_ahead", "_law_homes", "_law_kept", "_law_ways"]) (sc := defScope sWorld) (by decide +kernel)) (fun _ _ _ _ _ => (pg_tup (by rfl) (pgs_cons (pg_name (i := 8) scWo.nd rfl (.inl rfl)) (pgs_cons (pg_name (i := 9) scWo.nd rfl (.inl rfl)) (pgs_cons (pg_name (i := 10) scWo.nd rfl (.inl rfl)) pgs_nil))))) (fun _ _ _ _ _ => (pts_one (PW.pt (pw_and (pt_cmpR op_eq (pv 9) (pe_ix (r := rIxT K) ix_tup (pv 7) pe_int (fun _ _ => rfl)) (nomark _)) (pw_and1 (PW.pt (pw_or (pt_cmpR op_eq (pv 8) (pe_ix (r := rIxT K) ix_tup (pv 7) pe_int (fun _ _ => rfl)) (nomark _)) (pw_or1 (pt_cmpR op_eq (pv 10) (pe_ix (r := rIxT K) ix_tup (pv 7) pe_int (fun _ _ => rfl)) (nomark _)))))))))) (fun _ _ _ _ _ => pe_int)) (pe_lst pa_nil) (nomark _)) (pss_one (ps_expr (pe_bm PySem.F.plainAttrs_list PySem.F.slot_list_append PySem.F.type_list_append mt_append (pv 5) (pa_cons (pv 7) pa_nil)))) pss_nil))))
        (pss_cons (ps_par (i := 11) (j := 12) (by rfl) scWo.nd rfl rfl (by decide) rfl rfl (pa_cons (pe_call GDr hr1 rfl gDr kDr bDr .nil pass0 (pa_cons (pv 0) (pa_cons (pv 3) pa_nil))) (pa_cons (pe_call GDr hr1 rfl gDr kDr bDr .nil pass0 (pa_cons (pv 0) (pa_cons (pv 3) pa_nil))) pa_nil)) (by rfl))
        (pss_cons (ps_set (i := 13) scWo.nd rfl (.inr rfl) (pe_call GLd hr1 rfl gLd kLd bLd .nil pass0 (pa_cons (pv 11) (pa_cons (pe_lc (own := [("_law_s", 8), ("_law_x", 9), ("_law_t", 10)]) (g := (gTup K 3 (gCons (gName 8) (gCons (gName 9) (gCons (gName 10) gNil))))) (by rfl) scWo.nd (pi_list (pv 5)) (blkOk_by (own := [("_law_s", 8), ("_law_x", 9), ("_law_t", 10)]) (N := ["_law_deck_here", "_law_top", "_law_many", "_law_wide", "_law_signs", "_law_rows", "_law_k", "_law_row", "_law_s", "_law_x", "_law_t", "_law_begin", "_law_goal", "_law_ahead", "_law_homes", "_law_kept", "_law_ways"]) (sc := defScope sWorld) (by decide +kernel)) (fun _ _ _ _ _ => (pg_tup (by rfl) (pgs_cons (pg_name (i := 8) scWo.nd rfl (.inl rfl)) (pgs_cons (pg_name (i := 9) scWo.nd rfl (.inl rfl)) (pgs_cons (pg_name (i := 10) scWo.nd rfl (.inl rfl)) pgs_nil))))) (fun _ _ _ _ _ => pts_nil) (fun _ _ _ _ _ => (pe_tup (pa_cons (pv 8) (pa_cons (pv 10) pa_nil))))) pa_nil))))
        (pss_cons (ps_set (i := 12) scWo.nd rfl (.inl rfl) (pe_ifExp (pt_cmpR op_in_seq (pv 12) (pv 13) (by rfl)) (pv 12) (pv 11)))
        (pss_cons (ps_set (i := 14) scWo.nd rfl (.inr rfl) (pe_call GLd hr1 rfl gLd kLd bLd .nil pass0 (pa_cons (pv 12) (pa_cons (pe_lc (own := [("_law_s", 8), ("_law_x", 9), ("_law_t", 10)]) (g := (gTup K 3 (gCons (gName 8) (gCons (gName 9) (gCons (gName 10) gNil))))) (by rfl) scWo.nd (pi_list (pv 5)) (blkOk_by (own := [("_law_s", 8), ("_law_x", 9), ("_law_t", 10)]) (N := ["_law_deck_here", "_law_top", "_law_many", "_law_wide", "_law_signs", "_law_rows", "_law_k", "_law_row", "_law_s", "_law_x", "_law_t", "_law_begin", "_law_goal", "_law_ahead", "_law_homes", "_law_kept", "_law_ways"]) (sc := defScope sWorld) (by decide +kernel)) (fun _ _ _ _ _ => (pg_tup (by rfl) (pgs_cons (pg_name (i := 8) scWo.nd rfl (.inl rfl)) (pgs_cons (pg_name (i := 9) scWo.nd rfl (.inl rfl)) (pgs_cons (pg_name (i := 10) scWo.nd rfl (.inl rfl)) pgs_nil))))) (fun _ _ _ _ _ => pts_nil) (fun _ _ _ _ _ => (pe_tup (pa_cons (pv 10) (pa_cons (pv 8) pa_nil))))) pa_nil))))
        (pss_cons (ps_set (i := 15) scWo.nd rfl (.inr rfl) (pe_lc (own := [("_law_k", 6)]) (g := (gName 6)) (by rfl) scWo.nd (pi_range1 (by rfl) T.rng (pa_cons (pv 3) pa_nil)) (blkOk_by (own := [("_law_k", 6)]) (N := ["_law_deck_here", "_law_top", "_law_many", "_law_wide", "_law_signs", "_law_rows", "_law_k", "_law_row", "_law_s", "_law_x", "_law_t", "_law_begin", "_law_goal", "_law_ahead", "_law_homes", "_law_kept", "_law_ways"]) (sc := defScope sWorld) (by decide +kernel)) (fun _ _ _ _ _ => (pg_name (i := 6) scWo.nd rfl (.inl rfl))) (fun _ _ _ _ _ => (pts_one (PW.pt (pw_and (pt_cmpR (r := rIn K false) op_in_seq (pv 6) (pv 13) (by rfl)) (pw_and1 (pt_cmpR (r := rIn K false) op_in_seq (pv 6) (pv 14) (by rfl))))))) (fun _ _ _ _ _ => (pv 6))))
        (pss_cons (ps_setLc (i := 16) (own := [("_law_s", 8), ("_law_x", 9), ("_law_t", 10)]) (g := (gTup K 3 (gCons (gName 8) (gCons (gName 9) (gCons (gName 10) gNil))))) (by rfl) scWo.nd rfl rfl (sw_true rfl rfl rfl (by decide +kernel)) (pi_list (pv 5)) (blkOk_by (own := [("_law_s", 8), ("_law_x", 9), ("_law_t", 10)]) (N := ["_law_deck_here", "_law_top", "_law_many", "_law_wide", "_law_signs", "_law_rows", "_law_k", "_law_row", "_law_s", "_law_x", "_law_t", "_law_begin", "_law_goal", "_law_ahead", "_law_homes", "_law_kept", "_law_ways"]) (sc := defScope sWorld) (by decide +kernel)) (fun _ _ _ _ _ => (pg_tup (by rfl) (pgs_cons (pg_name (i := 8) scWo.nd rfl (.inl rfl)) (pgs_cons (pg_name (i := 9) scWo.nd rfl (.inl rfl)) (pgs_cons (pg_name (i := 10) scWo.nd rfl (.inl rfl)) pgs_nil))))) (fun _ _ _ _ _ => (pts_one (PW.pt (pw_and (pt_cmpR (r := rIn K false) op_in_seq (pv 8) (pv 15) (by rfl)) (pw_and1 (pt_cmpR (r := rIn K false) op_in_seq (pv 10) (pv 15) (by rfl))))))) (fun _ _ _ _ _ => (pe_tup (pa_cons (pe_index (K := K) (by rfl) (pv 15) (pa_cons (pv 8) pa_nil) (by rfl) (by rfl) (by rfl) (by rfl) (by rfl)) (pa_cons (pv 9) (pa_cons (pe_index (K := K) (by rfl) (pv 15) (pa_cons (pv 10) pa_nil) (by rfl) (by rfl) (by rfl) (by rfl) (by rfl)) pa_nil))))))
        (pss_one (ps_ret (pe_disp (pps_cons pe_str (pe_callB call_len (by rfl) T.len PySem.boot_len (pa_cons (pv 15) pa_nil)) (pps_cons pe_str (pe_index (K := K) (by rfl) (pv 15) (pa_cons (pv 11) pa_nil) (by rfl) (by rfl) (by rfl) (by rfl) (by rfl)) (pps_cons pe_str (pe_index (K := K) (by rfl) (pv 15) (pa_cons (pv 12) pa_nil) (by rfl) (by rfl) (by rfl) (by rfl) (by rfl)) (pps_cons pe_str (pe_callTy call_tuple_of (by rfl) T.tup (by decide +kernel) (pa_cons (pe_callB (cr_sortedL hr.units) (by rfl) T.srt (by decide +kernel) (pa_cons (pv 16) pa_nil)) pa_nil)) pps_nil)))) (by rfl) (by rfl) (fun z => by cases z) (by decide)))))))))))), ?_⟩
    refine ⟨_, rfl, _, rfl, d, g, _, m, rfl, DD0, by omega, by omega, by omega, fun r0 H1 r00 r01 D1 B1 => ⟨_, _, rfl, rfl, ?_⟩⟩
    refine ⟨_, rfl, by show 5 ≤ sizeLine; decide, fun Lp nLp => ?_⟩
    have SL1 := same_up (o := .lst signsL) nLp
    obtain ⟨⟨kd1, hd1⟩, xg1, hg1⟩ := D1.two
    have ngL : Lp ≠ g := (ne_of_none hg1 nLp).symm
    refine ⟨d, g, Lp, m + 1, signsL, rfl, D1.same SL1, by omega, SqL.of upd_same, by decide, by decide, ngL, fun iz v H2 hz D2 B2 => ?_⟩
    refine ⟨Nat.zero_le _, fun R nR => ⟨_, _, _, rfl, ?_⟩⟩
    obtain ⟨z, rfl, z0, z1, zin, zsig⟩ := signs_at hz
    obtain ⟨W, eW⟩ : ∃ W : Nat, (W : Int) = 1 + r0 := ⟨(1 + r0).toNat, by omega⟩
    have W1 : 1 ≤ W := by omega
    have W2 : W ≤ top := by omega
    dsimp only
    rw [← eW]
    have S3 := same_up (o := .lst []) nR
    have D3 := D2.same S3
    obtain ⟨⟨kd2, hd2⟩, xg2, hg2⟩ := D2.two
    have ndR : d ≠ R := ne_of_none hd2 nR
    have ngR : g ≠ R := ne_of_none hg2 nR
    have nR2 := nR
    have B3 : But d g H (upd H2 R (.lst [])) := ((B1.trans (but_same SL1)).trans B2).trans (but_same S3)
    have nR0 : H R = none := by
      cases e : H R with
      | none => rfl
      | some o =>
        have := ((B1.trans (but_same SL1)).trans B2) R o e ndR.symm ngR.symm
        rw [this] at nR
        cases nR
    have hR3 : upd H2 R (.lst []) R = some (.lst []) := upd_same
    clear hd1 hg1 SL1 hd2 hg2
    refine ⟨_, rfl, _, rfl, _, _, rfl, rfl, d, g, _, m + 1 + 1, rfl, D3, by omega, by omega, by omega, fun r1 H4 r10 r11 D4 B4 => ⟨r1, rfl, by omega, by omega, ?_⟩⟩
    have hR4 := B4 _ _ hR3 ndR.symm ngR.symm
    refine for_range (lo := 0) (n := r1.toNat) (fun i σ H' => ∃ (m2 : Int) (x6 x7 : Option V) (qs : List (Addr × Mv)), σ = [some (.ref d), some (.int (top : Int)), some (.int (many : Int)), some (.int (W : Int)), some (.str z), some (.ref R), x6, x7, none, none, none, none, none, none, none, none, none] ∧ DeckAt H' d g m2 ∧ m2 ≤ m + 3 + 3 * (i : Int) ∧
        But d g H H' ∧ RowsM H' R qs ∧ (∀ p ∈ qs, OkZ z W p.2) ∧ (qs.map (·.2)).Pairwise (fun a b => ¬ Clash a b) ∧ qs.length ≤ i)
      ⟨m + 3, _, _, [], rfl, (show m + 1 + 1 + 1 = m + 3 by omega) ▸ D4, by omega, B3.trans B4, ⟨hR4, fun p hp => nomatch hp⟩, (fun p hp => nomatch hp), List.Pairwise.nil, Nat.le_refl _⟩ ?_ ?_
    · rintro i σ H5 hi ⟨m2, x6, x7, qs, rfl, D5, hm2, B5, R5, ok5, nc5, len5⟩
      have ir : i < 21 := by omega
      refine ⟨_, rfl, _, rfl, d, g, _, m2, rfl, D5, by omega, by omega, by omega, fun s0 H6 s00 s01 D6 B6 => ?_⟩
      refine ⟨_, rfl, _, rfl, d, g, m2 + 1, z, rfl, D6, by omega, z0, z1, fun ix c H7 hc D7 B7 => ?_⟩
      refine ⟨_, rfl, _, rfl, d, g, _, m2 + 1 + 1, rfl, D7, by omega, by omega, by omega, fun t0 H8 t00 t01 D8 B8 => ⟨by show 3 ≤ sizeLine; decide, fun rw nrw => ?_⟩⟩
      obtain ⟨s, es⟩ : ∃ s : Nat, (s : Int) = s0 := ⟨s0.toNat, by omega⟩
      obtain ⟨t, et⟩ : ∃ t : Nat, (t : Int) = t0 := ⟨t0.toNat, by omega⟩
      rw [← es, ← et]
      obtain ⟨mv, emv⟩ : ∃ mv : Mv, mv = ⟨s, c, t⟩ := ⟨_, rfl⟩
      have etup : ([.int (s : Int), .str (sg c), .int (t : Int)] : List V) = mvV mv := by rw [emv] <;> rfl
      rw [etup]
      have okm : OkZ z W mv := by
        rw [emv]
        exact ⟨⟨by show s < W; omega, by show t < W; omega, zin ix c hc⟩, by
          show c ∈ z.cps.toList
          rw [← Array.getElem?_toList] at hc
          exact List.mem_of_getElem? hc⟩
      have R8 := ((R5.but D5 B6 ngR.symm).but D6 B7 ngR.symm).but D7 B8 ngR.symm
      have S9 := same_up (o := .tup (mvV mv)) nrw
      have R9 := R8.same S9
      have D9 := D8.same S9
      have B9 := ((B5.trans B6).trans B7).trans (B8.trans (but_same S9))
      have hrw : upd H8 rw (.tup (mvV mv)) rw = some (.tup (mvV mv)) := upd_same
      generalize upd H8 rw (.tup (mvV mv)) = H9 at R9 D9 B9 hrw ⊢
      clear S9 R8
      refine ⟨_, rfl, R, rfl, ⟨_, SqL.of R9.ls⟩, fun D nD => ?_⟩
      refine lc_list (K := K) (a := R) (xs := qs.map fun p => V.ref p.1) (fun i' H' => ∃ ones : List Int, (ones = [] ↔ ∀ q ∈ qs.take i', ¬ Clash q.2 mv) ∧ ones.length ≤ i' ∧ H' = upd H9 D (.lst (ones.map V.int)))
        ⟨[], by simp, Nat.le_refl _, rfl⟩ (fun i' H' _ ⟨_, _, _, e⟩ => by rw [e]; exact SqL.of (same_up nD _ _ R9.ls)) ?_ ?_
      · rintro i' y H' hi' ⟨ones, on, ol, rfl⟩
        rw [List.getElem?_map] at hi'
        obtain ⟨p, hp, rfl⟩ := Option.map_eq_some_iff.mp hi'
        have il : i' < qs.length := (List.getElem?_eq_some_iff.mp hp).1
        have tk : qs.take (i' + 1) = qs.take i' ++ [p] := by rw [List.take_add_one, hp] <;> rfl
        have SD := same_up (o := .lst (ones.map V.int)) nD
        refine ⟨p.1, _, rfl, SqT.of (SD _ _ (R9.it p (List.mem_of_getElem? hp))), rfl, _, _, rfl, _, _, rfl, _, _, rfl, rfl, ⟨rfl, ?_⟩⟩
        have hrw' := SD _ _ hrw
        have fin : ∀ bb : Bool, bb = decide (Clash p.2 mv) → (if bb = true then (∃ acc, upd H9 D (.lst (ones.map V.int)) D = some (.lst acc) ∧ acc.length < sizeLine ∧ ∃ ones' : List Int, (ones' = [] ↔ ∀ q ∈ qs.take (i' + 1), ¬ Clash q.2 mv) ∧ ones'.length ≤ i' + 1 ∧ upd (upd H9 D (.lst (ones.map V.int))) D (.lst (acc ++ [.int 1])) = upd H9 D (.lst (ones'.map V.int)))
            else ∃ ones' : List Int, (ones' = [] ↔ ∀ q ∈ qs.take (i' + 1), ¬ Clash q.2 mv) ∧ ones'.length ≤ i' + 1 ∧ upd H9 D (.lst (ones.map V.int)) = upd H9 D (.lst (ones'.map V.int))) := by
          intro bb eb
          by_cases cl : Clash p.2 mv
          · rw [eb, decide_eq_true cl]
            refine iteT ⟨_, upd_same, by rw [List.length_map, sizeLine_eq]; omega, ones ++ [1], ⟨fun e => by simp at e, fun h => absurd cl (h p (by rw [tk]; exact List.mem_append_right _ List.mem_cons_self))⟩, by rw [List.length_append]; exact Nat.succ_le_succ ol, by rw [upd_upd, List.map_append] <;> rfl⟩
          · rw [eb, decide_eq_false cl]
            refine iteF ⟨ones, ?_, Nat.le_succ_of_le ol, rfl⟩
            rw [on, tk]
            refine ⟨fun h q hq => (List.mem_append.mp hq).elim (h q) fun y => by rw [List.mem_singleton.mp y]; exact cl, fun h q hq => h q (List.mem_append_left _ hq)⟩
        refine ⟨_, rfl, _, rfl, rw, _, 1, .str (sg mv.c), rfl, rfl, SqT.of hrw', rfl, rfl, _, rfl, ?_⟩
        rw [sg_dec]
        by_cases e1 : p.2.c = mv.c
        · rw [decide_eq_true e1]
          refine iteT ?_
          refine ⟨_, rfl, _, rfl, rw, _, 0, .int (mv.s : Int), rfl, rfl, SqT.of hrw', rfl, rfl, _, rfl, ?_⟩
          rw [int_dec]
          by_cases e2 : p.2.s = mv.s
          · rw [decide_eq_true e2]
            refine iteT ?_
            exact fin true (decide_eq_true ⟨e1.symm, .inl e2.symm⟩).symm
          · rw [decide_eq_false e2]
            refine iteF ?_
            refine ⟨_, rfl, _, rfl, rw, _, 2, .int (mv.t : Int), rfl, rfl, SqT.of hrw', rfl, rfl, _, rfl, ?_⟩
            rw [int_dec]
            refine fin _ ?_
            rw [Bool.eq_iff_iff, decide_eq_true_eq, decide_eq_true_eq]
            exact ⟨fun h => ⟨e1.symm, .inr h.symm⟩, fun h => h.2.elim (fun y => absurd y.symm e2) Eq.symm⟩
        · rw [decide_eq_false e1]
          refine iteF ?_
          exact fin false (decide_eq_false fun h => e1 h.1.symm).symm
      · rintro H' ⟨ones, on, ol, rfl⟩
        rw [List.length_map, List.take_length] at on
        have SD := same_up (o := .lst (ones.map V.int)) nD
        refine ⟨Nat.zero_le _, fun p0 np0 => ?_⟩
        have S0 := same_up (o := .lst []) np0
        have hD0 := S0 _ _ (upd_same (H := H9) (a := D) (o := .lst (ones.map V.int)))
        refine ⟨.list (ones.map PyData.int), .list [], .lst (SqL.of hD0) (dp_ints ones), .lst (SqL.of upd_same) .nil, shaped_ints ones, by decide, _, rfl, ?_⟩
        rw [eqv_nil]
        have S10 := SD.trans S0
        have R10 := R9.same S10
        have D10 := D9.same S10
        have B10 := B9.trans (but_same S10)
        have hrw10 := S10 _ _ hrw
        generalize upd (upd H9 D (.lst (ones.map V.int))) p0 (.lst []) = H10 at R10 D10 B10 hrw10 ⊢
        by_cases e0 : ones = []
        · rw [decide_eq_true e0]
          refine iteT ?_
          refine ⟨_, rfl, .inl ⟨rfl, _, SqL.of R10.ls⟩, _, rfl, R, _, _, rfl, rfl, R10.ls, by rw [List.length_map, sizeLine_eq]; omega, ?_⟩
          refine ⟨m2 + 1 + 1 + 1, _, _, qs ++ [(rw, mv)], rfl, deck_upd D10 ndR ngR, by omega, fun b o e n1 n2 => ?_, ⟨?_, fun p hp => ?_⟩, fun p hp => ?_, ?_, ?_⟩
          · rw [upd_ne (ne_of_none e nR0)]
            exact B10 b o e n1 n2
          · rw [upd_same, List.map_append] <;> rfl
          · have y : H10 p.1 = some (.tup (mvV p.2)) := (List.mem_append.mp hp).elim (R10.it p) fun y => by rw [List.mem_singleton.mp y]; exact hrw10
            rw [upd_ne (ne_of y R10.ls (fun x => by cases x))]
            exact y
          · exact (List.mem_append.mp hp).elim (ok5 p) fun y => by rw [List.mem_singleton.mp y]; exact okm
          · rw [List.map_append, List.pairwise_append]
            refine ⟨nc5, List.pairwise_singleton _ _, fun a ha b hb => ?_⟩
            obtain ⟨q, hq, rfl⟩ := List.mem_map.mp ha
            rw [List.mem_singleton.mp hb]
            exact on.mp e0 q hq
          · rw [List.length_append]
            exact Nat.succ_le_succ len5
        · rw [decide_eq_false e0]
          refine iteF ?_
          exact ⟨m2 + 1 + 1 + 1, _, _, qs, rfl, D10, by omega, B10, R10, ok5, nc5, Nat.le_succ_of_le len5⟩
    · rintro σ H5 ⟨m2, x6, x7, qs, rfl, D5, hm2, B5, R5, ok5, nc5, len5⟩
      have len20 : qs.length ≤ 20 := by omega
      have lenM : qs.length ≤ many := by omega
      have mB2 : m2 ≤ m + 66 := by omega
      dsimp only
      refine go_seq ?_
      refine ⟨_, rfl, _, rfl, d, g, _, m2, rfl, D5, by omega, by omega, by omega, fun b0 H6 b00 b01 D6 B6 => ?_⟩
      refine ⟨_, rfl, _, rfl, d, g, _, m2 + 1, rfl, D6, by omega, by omega, by omega, fun g0 H7 g00 g01 D7 B7 => ⟨_, _, rfl, ?_⟩⟩
      obtain ⟨b, eb⟩ : ∃ b : Nat, (b : Int) = b0 := ⟨b0.toNat, by omega⟩
      obtain ⟨g1, eg⟩ : ∃ g1 : Nat, (g1 : Int) = g0 := ⟨g0.toNat, by omega⟩
      rw [← eb, ← eg]
      have bW : b < W := by omega
      have gW : g1 < W := by omega
      have R7 := (R5.but D5 B6 ngR.symm).but D6 B7 ngR.symm
      have B07 := (B5.trans B6).trans B7
      clear D5 D6 B6 B7 B5 R5
      -- the states ahead
      refine ⟨_, rfl, _, rfl, R, rfl, ⟨_, SqL.of R7.ls⟩, fun DA nDA => ?_⟩
      refine lc_list (K := K) (a := R) (xs := qs.map fun p => V.ref p.1) (fun i' H' => ∃ ps : List (Addr × Nat × Nat), ps.map (·.2) = (qs.take i').map (fun p => (p.2.s, p.2.t)) ∧ ps.length ≤ i' ∧ Same H7 H' ∧ PairsM H' DA ps)
        ⟨[], rfl, Nat.le_refl _, same_up nDA, ⟨upd_same, fun p hp => nomatch hp⟩⟩ (fun i' H' _ ⟨_, _, _, S, _⟩ => SqL.of (S _ _ R7.ls)) ?_ ?_
      · rintro i' y H' hi' ⟨ps, ep, pl, S, PS⟩
        rw [List.getElem?_map] at hi'
        obtain ⟨p, hp, rfl⟩ := Option.map_eq_some_iff.mp hi'
        have il : i' < qs.length := (List.getElem?_eq_some_iff.mp hp).1
        refine ⟨p.1, _, rfl, SqT.of (S _ _ (R7.it p (List.mem_of_getElem? hp))), rfl, _, _, rfl, _, _, rfl, _, _, rfl, rfl, ⟨rfl, ?_⟩⟩
        refine ⟨_, rfl, _, rfl, by show 2 ≤ sizeLine; decide, fun t nt => ?_⟩
        have nDt : DA ≠ t := ne_of_none PS.ls nt
        obtain ⟨A1, A2⟩ := PS.add (a := p.2.s) (b := p.2.t) nt nDA S
        refine ⟨_, by rw [upd_ne nDt]; exact PS.ls, by rw [List.length_map, sizeLine_eq]; omega, ps ++ [(t, p.2.s, p.2.t)], ?_, by rw [List.length_append]; exact Nat.succ_le_succ pl, A1, A2⟩
        rw [List.map_append, ep, List.take_add_one, hp, List.map_append] <;> rfl
      rintro H8 ⟨psA, epA, plA, S8, PA⟩
      rw [List.length_map, List.take_length] at epA
      rw [List.length_map] at plA
      have bdA : ∀ p ∈ psA, p.2.1 < W ∧ p.2.2 < W := fun p hp => by
        have : p.2 ∈ psA.map (·.2) := List.mem_map.mpr ⟨p, hp, rfl⟩
        rw [epA] at this
        obtain ⟨q, hq, e⟩ := List.mem_map.mp this
        rw [← e]
        exact ⟨(ok5 q hq).1.1, (ok5 q hq).1.2.1⟩
      refine ⟨b, W, DA, psA, rfl, SqL.of PA.ls, fun p hp => SqT.of (PA.it p hp), bdA, bW, by omega, by omega, fun A0 A H9 S9 nA0 hA LA ltA => ?_⟩
      rw [epA] at LA
      have R9 := (R7.same S8).same S9
      have D9 := (D7.same S8).same S9
      have B9 := B07.trans (but_same (S8.trans S9))
      clear R7 D7 B07 S8 S9 PA
      -- the goal
      refine ⟨_, rfl, _, rfl, rin hA ⟨_, rfl, if_int rfl rfl ?_⟩⟩
      obtain ⟨gl, egl⟩ : ∃ gl : Nat, gl = if g1 ∈ A then g1 else b := ⟨_, rfl⟩
      rw [← egl]
      have glA : gl ∈ A := by
        rw [egl]
        split
        · assumption
        · exact LA.st
      have glW : gl < W := ltA _ glA
      -- the states from which the goal is reached
      refine ⟨_, rfl, _, rfl, R, rfl, ⟨_, SqL.of R9.ls⟩, fun DB nDB => ?_⟩
      refine lc_list (K := K) (a := R) (xs := qs.map fun p => V.ref p.1) (fun i' H' => ∃ ps : List (Addr × Nat × Nat), ps.map (·.2) = (qs.take i').map (fun p => (p.2.t, p.2.s)) ∧ ps.length ≤ i' ∧ Same H9 H' ∧ PairsM H' DB ps)
        ⟨[], rfl, Nat.le_refl _, same_up nDB, ⟨upd_same, fun p hp => nomatch hp⟩⟩ (fun i' H' _ ⟨_, _, _, S, _⟩ => SqL.of (S _ _ R9.ls)) ?_ ?_
      · rintro i' y H' hi' ⟨ps, ep, pl, S, PS⟩
        rw [List.getElem?_map] at hi'
        obtain ⟨p, hp, rfl⟩ := Option.map_eq_some_iff.mp hi'
        have il : i' < qs.length := (List.getElem?_eq_some_iff.mp hp).1
        refine ⟨p.1, _, rfl, SqT.of (S _ _ (R9.it p (List.mem_of_getElem? hp))), rfl, _, _, rfl, _, _, rfl, _, _, rfl, rfl, ⟨rfl, ?_⟩⟩
        refine ⟨_, rfl, _, rfl, by show 2 ≤ sizeLine; decide, fun t nt => ?_⟩
        have nDt : DB ≠ t := ne_of_none PS.ls nt
        obtain ⟨A1, A2⟩ := PS.add (a := p.2.t) (b := p.2.s) nt nDB S
        refine ⟨_, by rw [upd_ne nDt]; exact PS.ls, by rw [List.length_map, sizeLine_eq]; omega, ps ++ [(t, p.2.t, p.2.s)], ?_, by rw [List.length_append]; exact Nat.succ_le_succ pl, A1, A2⟩
        rw [List.map_append, ep, List.take_add_one, hp, List.map_append] <;> rfl
      rintro H10 ⟨psB, epB, plB, S10, PB⟩
      rw [List.length_map, List.take_length] at epB
      rw [List.length_map] at plB
      have bdB : ∀ p ∈ psB, p.2.1 < W ∧ p.2.2 < W := fun p hp => by
        have : p.2 ∈ psB.map (·.2) := List.mem_map.mpr ⟨p, hp, rfl⟩
        rw [epB] at this
        obtain ⟨q, hq, e⟩ := List.mem_map.mp this
        rw [← e]
        exact ⟨(ok5 q hq).1.2.1, (ok5 q hq).1.1⟩
      refine ⟨gl, W, DB, psB, rfl, SqL.of PB.ls, fun p hp => SqT.of (PB.it p hp), bdB, glW, by omega, by omega, fun B0 Bs H11 S11 nB0 hB LB ltB => ?_⟩
      rw [epB] at LB
      have hA11 := S11 _ _ (S10 _ _ hA)
      have R11 := (R9.same S10).same S11
      have D11 := (D9.same S10).same S11
      have B11 := B9.trans (but_same (S10.trans S11))
      clear R9 D9 B9 S10 S11 PB hA
      -- the states kept
      refine go_name ?_
      dsimp only
      refine go_seq ?_
      refine ⟨_, rfl, (W : Int), rfl, by omega, by omega, fun DK nDK => ?_⟩
      rw [Int.toNat_natCast]
      have nAK : A0 ≠ DK := ne_of_none hA11 nDK
      have nBK : B0 ≠ DK := ne_of_none hB nDK
      refine lc_range (lo := 0) (n := W) (fun i' H' => H' = upd H11 DK (.lst (nI ((List.range i').filter fun k => decide (k ∈ A) && decide (k ∈ Bs))))) rfl ?_ ?_
      · rintro i' H' hi' rfl
        have e0 : (0 : Int) + (i' : Nat) = ((i' : Nat) : Int) := by omega
        rw [e0]
        have SK := same_up (o := .lst (nI ((List.range i').filter fun k => decide (k ∈ A) && decide (k ∈ Bs)))) nDK
        have lk : ((List.range i').filter fun k => decide (k ∈ A) && decide (k ∈ Bs)).length ≤ i' := Nat.le_trans (List.length_filter_le _ _) (Nat.le_of_eq List.length_range)
        refine ⟨rfl, ?_⟩
        refine ⟨_, rfl, _, rfl, rin (SK _ _ hA11) ⟨_, rfl, ?_⟩⟩
        by_cases a1 : i' ∈ A
        · rw [decide_eq_true a1]
          refine iteT ?_
          refine ⟨_, rfl, _, rfl, rin (SK _ _ hB) ⟨_, rfl, ?_⟩⟩
          by_cases a2 : i' ∈ Bs
          · rw [decide_eq_true a2]
            refine iteT ?_
            refine ⟨_, rfl, _, upd_same, by rw [nI_len, sizeLine_eq]; omega, ?_⟩
            rw [upd_upd, filter_range, decide_eq_true a1, decide_eq_true a2, Bool.and_self, if_pos rfl, ← nI_app]
            rfl
          · rw [decide_eq_false a2]
            refine iteF ?_
            rw [filter_range, decide_eq_false a2, Bool.and_false, if_neg Bool.false_ne_true, List.append_nil]
        · rw [decide_eq_false a1]
          refine iteF ?_
          refine iteF ?_
          rw [filter_range, decide_eq_false a1, Bool.false_and, if_neg Bool.false_ne_true, List.append_nil]
      rintro H' rfl
      obtain ⟨kept, ekept⟩ : ∃ kept, kept = (List.range W).filter fun k => decide (k ∈ A) && decide (k ∈ Bs) := ⟨_, rfl⟩
      rw [← ekept]
      have WW : Drawn W b gl (qs.map (·.2)) A Bs kept := ⟨by rw [List.map_map]; exact LA, by rw [List.map_map]; exact LB, glA, ltA, by omega, fun m hm => by
        obtain ⟨p, hp, rfl⟩ := List.mem_map.mp hm
        exact (ok5 p hp).1, nc5, ekept⟩
      have lenK : kept.length ≤ W := by rw [ekept]; exact Nat.le_trans (List.length_filter_le _ _) (Nat.le_of_eq List.length_range)
      have SK := same_up (o := .lst (nI kept)) nDK
      have hK : upd H11 DK (.lst (nI kept)) DK = some (.lst (nI kept)) := upd_same
      have R12 := R11.same SK
      have D12 := D11.same SK
      have B12 := B11.trans (but_same SK)
      generalize upd H11 DK (.lst (nI kept)) = H12 at hK R12 D12 B12 ⊢
      clear SK R11 D11 B11 hA11 hB
      -- the ways
      refine go_name ?_
      dsimp only
      refine go_seq ?_
      refine ⟨_, rfl, R, rfl, ⟨_, SqL.of R12.ls⟩, fun DW nDW => ?_⟩
      refine lc_list (K := K) (a := R) (xs := qs.map fun p => V.ref p.1) (fun i' H' => ∃ ws : List (Addr × Mv), ws.map (·.2) = ways kept ((qs.take i').map (·.2)) ∧ ws.length ≤ i' ∧ Same H12 H' ∧ RowsM H' DW ws)
        ⟨[], rfl, Nat.le_refl _, same_up nDW, ⟨upd_same, fun p hp => nomatch hp⟩⟩ (fun i' H' _ ⟨_, _, _, S, _⟩ => SqL.of (S _ _ R12.ls)) ?_ ?_
      · rintro i' y H' hi' ⟨ws, ew, wl, S, RW⟩
        rw [List.getElem?_map] at hi'
        obtain ⟨p, hp, rfl⟩ := Option.map_eq_some_iff.mp hi'
        have il : i' < qs.length := (List.getElem?_eq_some_iff.mp hp).1
        refine ⟨p.1, _, rfl, SqT.of (S _ _ (R12.it p (List.mem_of_getElem? hp))), rfl, _, _, rfl, _, _, rfl, _, _, rfl, rfl, ⟨rfl, ?_⟩⟩
        have hK' := S _ _ hK
        refine ⟨_, rfl, _, rfl, rin hK' ⟨_, rfl, ?_⟩⟩
        have stay : (decide (p.2.s ∈ kept) && decide (p.2.t ∈ kept)) = false → ∃ ws' : List (Addr × Mv), ws'.map (·.2) = ways kept ((qs.take (i' + 1)).map (·.2)) ∧ ws'.length ≤ i' + 1 ∧ Same H12 H' ∧ RowsM H' DW ws' := fun e => ⟨ws, by rw [ew, ways_take hp, e, if_neg Bool.false_ne_true, List.append_nil], Nat.le_succ_of_le wl, S, RW⟩
        by_cases a1 : p.2.s ∈ kept
        · rw [decide_eq_true a1]
          refine iteT ?_
          refine ⟨_, rfl, _, rfl, rin hK' ⟨_, rfl, ?_⟩⟩
          by_cases a2 : p.2.t ∈ kept
          · rw [decide_eq_true a2]
            refine iteT ?_
            obtain ⟨i1, i2, i3⟩ := idx_nI a1
            obtain ⟨j1, j2, j3⟩ := idx_nI a2
            refine ⟨_, rfl, .inl ⟨rfl, _, SqL.of hK'⟩, _, rfl, DK, _, _, _, _, rfl, rfl, SqL.of hK', rfl, flat_nI _, i1, i2, i3, ?_⟩
            refine ⟨_, rfl, _, rfl, .inl ⟨rfl, _, SqL.of hK'⟩, _, rfl, DK, _, _, _, _, rfl, rfl, SqL.of hK', rfl, flat_nI _, j1, j2, j3, ?_⟩
            refine ⟨by show 3 ≤ sizeLine; decide, fun t nt => ?_⟩
            have nDt : DW ≠ t := ne_of_none RW.ls nt
            obtain ⟨A1, A2⟩ := RW.add (m := wayM kept p.2) nt nDW S
            refine ⟨_, by rw [upd_ne nDt]; exact RW.ls, by rw [List.length_map, sizeLine_eq]; omega, ws ++ [(t, wayM kept p.2)], ?_, by rw [List.length_append]; exact Nat.succ_le_succ wl, A1, A2⟩
            rw [List.map_append, ew, ways_take hp, decide_eq_true a1, decide_eq_true a2, Bool.and_self, if_pos rfl] <;> rfl
          · rw [decide_eq_false a2]
            refine iteF ?_
            exact stay (by rw [decide_eq_false a2, Bool.and_false])
        · rw [decide_eq_false a1]
          refine iteF ?_
          refine iteF ?_
          exact stay (by rw [decide_eq_false a1, Bool.false_and])
      rintro H13 ⟨ws, ew, wl, S13, RW⟩
      rw [List.length_map, List.take_length] at ew
      rw [List.length_map] at wl
      have hK13 := S13 _ _ hK
      have D13 := D12.same S13
      have B13 := B12.trans (but_same S13)
      clear R12 D12 B12 S13 hK
      have few : ws.length ≤ 20 := by omega
      refine fun pd npd => ⟨_, rfl, _, kept.length, rfl, .inl ⟨_, SqL.of (same_up npd _ _ hK13), (nI_len kept).symm⟩, ?_⟩
      have Sp := same_up (o := .dK []) npd
      have hKp := Sp _ _ hK13
      have hpd0 : upd H13 pd (.dK []) pd = some (.dK []) := upd_same
      have RWp : RowsM (upd H13 pd (.dK [])) DW ws := RW.same Sp
      have Dp0 := D13.same Sp
      have Bp := B13.trans (but_same Sp)
      obtain ⟨⟨kd, hd13⟩, xg, hg13⟩ := D13.two
      have ndp : d ≠ pd := ne_of_none hd13 npd
      have ngp : g ≠ pd := ne_of_none hg13 npd
      have npH : H pd = none := by
        cases e : H pd with
        | none => rfl
        | some o => rw [B13 pd o e ndp.symm ngp.symm] at npd; cases npd
      generalize upd H13 pd (.dK []) = Hp0 at hKp hpd0 RWp Dp0 Bp ⊢
      obtain ⟨i1, i2, i3⟩ := idx_nI WW.bk
      obtain ⟨j1, j2, j3⟩ := idx_nI WW.gk
      refine ⟨_, rfl, .inl ⟨rfl, _, SqL.of hKp⟩, _, rfl, DK, _, _, _, _, rfl, rfl, SqL.of hKp, rfl, flat_nI _, i1, i2, i3, ?_⟩
      refine ⟨_, rfl, .inl ⟨rfl, _, SqL.of hKp⟩, _, rfl, DK, _, _, _, _, rfl, rfl, SqL.of hKp, rfl, flat_nI _, j1, j2, j3, ?_⟩
      refine ⟨_, rfl, DW, ws.map Vk.kp, rfl, by rw [List.map_map]; exact SqL.of RWp.ls, fun p hp => ?_, kp_alike ws, fun p hp => ?_, by rw [List.length_map]; omega, fun ys D2 pm srt nD2 => ?_⟩
      · obtain ⟨p0, h0, rfl⟩ := List.mem_map.mp hp
        exact SqT.of (RWp.it p0 h0)
      · obtain ⟨p0, _, rfl⟩ := List.mem_map.mp hp
        exact fun z => nomatch z
      obtain ⟨ms, pms, ems⟩ := perm_of_map pm ws rfl
      have er : (ys.map fun q => V.ref q.1) = ms.map fun p => V.ref p.1 := by rw [← ems, List.map_map] <;> rfl
      rw [er]
      rw [← ems] at srt
      have S2 := same_up (o := .lst (ms.map fun p => V.ref p.1)) nD2
      refine ⟨D2, _, rfl, .inl ⟨SqL.of upd_same, fun l nl => ?_⟩⟩
      have S3 := S2.trans (same_up (o := .tup (ms.map fun p => V.ref p.1)) nl)
      have hl : upd (upd Hp0 D2 (.lst (ms.map fun p => V.ref p.1))) l (.tup (ms.map fun p => V.ref p.1)) l = some (.tup (ms.map fun p => V.ref p.1)) := upd_same
      have hpd1 := S3 _ _ hpd0
      have RW1 := RWp.same S3
      have D1' := Dp0.same S3
      have B1' := Bp.trans (but_same S3)
      generalize upd (upd Hp0 D2 (.lst (ms.map fun p => V.ref p.1))) l (.tup (ms.map fun p => V.ref p.1)) = HL at hl hpd1 RW1 D1' B1' ⊢
      refine ⟨hpd1, planK kept.length (kept.idxOf b) (kept.idxOf gl) l, rfl, by show 4 ≤ 15; decide, ?_⟩
      have em : mergeK [] (planK kept.length (kept.idxOf b) (kept.idxOf gl) l) = planK kept.length (kept.idxOf b) (kept.idxOf gl) l := by rfl
      rw [em]
      have OK := WW.okM ltB (by rw [List.length_map]; omega) (ms := ms) (by rw [← ew]; exact pms.map _) srt
      refine k pd l kept.length (kept.idxOf b) (kept.idxOf gl) ms _ _ (fun c o e n1 n2 => ?_) npH upd_same ⟨?_, fun p hp => ?_⟩ OK (by omega) (deck_upd D1' ndp ngp) (by omega) ⟨_, zsig, fun p hp => ?_⟩ (by rw [pms.length_eq]; omega)
      · rw [upd_ne (ne_of_none e npH)]
        exact B1' c o e n1 n2
      · refine SqT.of ?_
        rw [upd_ne (ne_of hl hpd1 (fun z => by cases z))]
        exact hl
      · have y := RW1.it p (pms.mem_iff.mp hp)
        refine SqT.of ?_
        rw [upd_ne (ne_of y hpd1 (fun z => by cases z))]
        exact y
      · have : p.2 ∈ ws.map (·.2) := List.mem_map.mpr ⟨p, pms.mem_iff.mp hp, rfl⟩
        rw [ew] at this
        obtain ⟨q, hq, _, _, e⟩ := mem_ways.mp this
        obtain ⟨q0, hq0, rfl⟩ := List.mem_map.mp hq
        have c := (ok5 q0 hq0).2
        rw [← e]
        exact c
end
end Vk
set_option Elab.async false
set_option linter.all false
set_option maxRecDepth 100000
set_option maxHeartbeats 4000000
namespace Vk
open PySem PySem.Spec PyProof.Rows L2 Vt
abbrev sLCode : Stmt := top8 41
abbrev sLPlain : Stmt := top8 42
abbrev sLParts : Stmt := top8 43
instance : DecidableEq Mv := fun a b => decidable_of_iff (a.s = b.s ∧ a.c = b.c ∧ a.t = b.t) ⟨fun ⟨h1, h2, h3⟩ => by
  cases a
  cases b
  simp only at h1 h2 h3
  rw [h1, h2, h3], fun h => by rw [h]; exact ⟨rfl, rfl, rfl⟩⟩
theorem mv_eq {a b : Mv} : a = b ↔ a.s = b.s ∧ a.c = b.c ∧ a.t = b.t := by
  refine ⟨fun h => by rw [h]; exact ⟨rfl, rfl, rfl⟩, fun ⟨h1, h2, h3⟩ => ?_⟩
  cases a
  cases b
  simp only at h1 h2 h3
  rw [h1, h2, h3]
theorem eqv_mv (a b : Mv) : PyData.eqv (mvD a) (mvD b) = decide (a = b) := by
  show (((a.s : Int) == (b.s : Int)) && ((sg a.c == sg b.c) && (((a.t : Int) == (b.t : Int)) && true))) = decide (a = b)
  rw [Bool.eq_iff_iff, decide_eq_true_eq, mv_eq, Bool.and_eq_true, Bool.and_eq_true, Bool.and_eq_true, beq_iff_eq, beq_iff_eq, beq_iff_eq]
  refine ⟨fun ⟨h1, h2, h3, _⟩ => ⟨by omega, ?_, by omega⟩, fun ⟨h1, h2, h3⟩ => ⟨by rw [h1], by rw [h2], by rw [h3], rfl⟩⟩
  exact (List.cons.inj (congrArg (fun y : Str => y.cps.toList) h2)).1
theorem eqv_mvs : ∀ l m : List Mv, PyData.eqvAll (l.map mvD) (m.map mvD) = decide (l = m)
  | [], [] => rfl
  | [], b :: m => by rw [decide_eq_false (fun z => nomatch z)] <;> rfl
  | a :: l, [] => by rw [decide_eq_false (fun z => nomatch z)] <;> rfl
  | a :: l, b :: m => by
    rw [List.map_cons, List.map_cons, PyData.eqvAll, eqv_mv, eqv_mvs l m, Bool.eq_iff_iff, Bool.and_eq_true, decide_eq_true_eq, decide_eq_true_eq, decide_eq_true_eq, List.cons.injEq]
section
variable {P : Program} {w : World} {K : PySem.W.Frag} {mg : Str → Option Value} {base : Heap}
/-- two machines: equal exactly if their parts are -/
def spEqA (K : PySem.W.Frag) (C : Addr) : Sp := fun vs H Q _ => ∃ (a b : Addr) (n1 st1 la1 n2 st2 la2 : Nat) (ms1 ms2 : List (Addr × Mv)), vs = [.ref a, .ref b] ∧ MachAt K C H a n1 st1 la1 ms1 ∧ MachAt K C H b n2 st2 la2 ms2 ∧ Q (.bl (decide (n1 = n2 ∧ st1 = st2 ∧ la1 = la2 ∧ ms1.map (·.2) = ms2.map (·.2)))) H
theorem scEqA : FnScope ["self", "other"] ["self", "other"] (defScope sEq) := ⟨rfl, rfl, rfl, by decide +kernel, rfl, by decide +kernel, by decide +kernel⟩
theorem ok_eqA {f C : Addr} {fd : FuncData} (F : Fun K "__eq__" "Machine.__eq__" sEq f fd) (T : Txt8 K mg) (M : MCls K C) (IC : C8.InsC K C) (gM : mg "Machine" = some (.ref C)) : FnOk P w K mg base CX0 1 f fd ["self", "other"] (spEqA K C) := by
  refine F.ok scEqA (fun vs H Q E h => ?_) (fun cdv A outer s H vs Q E hr h => ?_)
  · obtain ⟨a, b, n1, st1, la1, n2, st2, la2, ms1, ms2, rfl, _⟩ := h
    rfl
  · obtain ⟨a, b, n1, st1, la1, n2, st2, la2, ms1, ms2, rfl, hA, hB, k⟩ := h
    obtain ⟨d1, l1, E1, F1, z1, ha, hM1, _⟩ := hA.ob
    obtain ⟨d2, l2, E2, F2, z2, hb, hM2, _⟩ := hB.ob
    have no : ¬ (n1 = n2 ∧ st1 = st2 ∧ la1 = la2 ∧ ms1.map (·.2) = ms2.map (·.2)) → Q (.bl false) H := fun z => by
      rw [decide_eq_false z] at k
      exact k
    refine ⟨_, (pss_one (ps_ret (pe_and (pe_callB (C8.call_isC IC) (by rfl) T.isi (by decide +kernel) (pa_cons (pv 1) (pa_cons (pe_glob (v := .ref C) (by rfl) gM rfl) pa_nil))) (pe_and (pe_cmpR op_eq (pe_fld (pv 0) rfl) (pe_fld (pv 1) rfl) (nomark _)) (pe_and (pe_cmpR op_eq (pe_fld (pv 0) rfl) (pe_fld (pv 1) rfl) (nomark _)) (pe_and (pe_cmpR op_eq (pe_fld (pv 0) rfl) (pe_fld (pv 1) rfl) (nomark _)) (pe_one (pe_cmpR (op_eqD hr.units) (pe_fld (pv 0) rfl) (pe_fld (pv 1) rfl) (nomark _))))))))), ?_⟩
    refine ⟨_, rfl, b, d2, _, rfl, hb, _, rfl, ?_⟩
    refine iteT ?_
    refine ⟨_, rfl, a, C, d1, _, _, rfl, ha, M.cl, M.a1, lk1 .., _, rfl, b, C, d2, _, _, rfl, hb, M.cl, M.a1, lk1 .., rfl, _, rfl, ?_⟩
    rw [int_dec]
    by_cases e1 : n1 = n2
    · rw [decide_eq_true e1]
      refine iteT ?_
      refine ⟨_, rfl, a, C, d1, _, _, rfl, ha, M.cl, M.a2, lk2 .., _, rfl, b, C, d2, _, _, rfl, hb, M.cl, M.a2, lk2 .., rfl, _, rfl, ?_⟩
      rw [int_dec]
      by_cases e2 : st1 = st2
      · rw [decide_eq_true e2]
        refine iteT ?_
        refine ⟨_, rfl, a, C, d1, _, _, rfl, ha, M.cl, M.a3, lk3 .., _, rfl, b, C, d2, _, _, rfl, hb, M.cl, M.a3, lk3 .., rfl, _, rfl, ?_⟩
        rw [int_dec]
        by_cases e3 : la1 = la2
        · rw [decide_eq_true e3]
          refine iteT ?_
          refine ⟨_, rfl, a, C, d1, _, _, rfl, ha, M.cl, M.a4, lk4 .., _, rfl, b, C, d2, _, _, rfl, hb, M.cl, M.a4, lk4 .., ?_⟩
          have hc1 : ∀ p ∈ ms1, p.2.c ≤ 122 := fun p hp => (hA.ok.ok p hp).2.2.2
          have hc2 : ∀ p ∈ ms2, p.2.c ≤ 122 := fun p hp => (hB.ok.ok p hp).2.2.2
          refine ⟨.tuple (ms1.map fun (p : Addr × Mv) => mvD p.2), .tuple (ms2.map fun (p : Addr × Mv) => mvD p.2), Dp.tup (K := K) hM1.tp (dp_mvs hM1.it), Dp.tup (K := K) hM2.tp (dp_mvs hM2.it), shaped_mvsT ms1 hc1, shaped_mvsT ms2 hc2, ?_⟩
          have e4 : PyData.eqv (.tuple (ms1.map fun (p : Addr × Mv) => mvD p.2)) (.tuple (ms2.map fun (p : Addr × Mv) => mvD p.2)) = decide (n1 = n2 ∧ st1 = st2 ∧ la1 = la2 ∧ ms1.map (·.2) = ms2.map (·.2)) := by
            have h := eqv_mvs (ms1.map (·.2)) (ms2.map (·.2))
            rw [List.map_map, List.map_map] at h
            show PyData.eqvAll (ms1.map fun (p : Addr × Mv) => mvD p.2) (ms2.map fun (p : Addr × Mv) => mvD p.2) = _
            refine Eq.trans h ?_
            rw [Bool.eq_iff_iff, decide_eq_true_eq, decide_eq_true_eq]
            exact ⟨fun z => ⟨e1, e2, e3, z⟩, fun z => z.2.2.2⟩
          rw [e4]
          exact k
        · rw [decide_eq_false e3]
          refine iteF ?_
          exact no fun z => e3 z.2.2.1
      · rw [decide_eq_false e2]
        refine iteF ?_
        exact no fun z => e2 z.2.1
    · rw [decide_eq_false e1]
      refine iteF ?_
      exact no fun z => e1 z.1
/-- the machine of a plan -/
def spCode (K : PySem.W.Frag) (C : Addr) : Sp := fun vs H Q _ => ∃ (q l : Addr) (n st la : Nat) (ms : List (Addr × Mv)), vs = [.ref q] ∧ H q = some (.dK (planK n st la l)) ∧ MvsAt K H l ms ∧ OkM n st la ms ∧
  ∀ (a : Addr) (H' : Hp), Same H H' → H a = none → MachAt K C H' a n st la ms → Q (.ref a) H'
theorem scCd : FnScope ["_law_w"] ["_law_w"] (defScope sLCode) := ⟨rfl, rfl, rfl, by decide +kernel, rfl, by decide +kernel, by decide +kernel⟩
theorem v_size (n st la : Nat) (l : Addr) : valV (planK n st la l) (Sum.inr "size" : Key) = some (.int (n : Int)) := by rfl
theorem v_first (n st la : Nat) (l : Addr) : valV (planK n st la l) (Sum.inr "first" : Key) = some (.int (st : Int)) := by rfl
theorem v_last (n st la : Nat) (l : Addr) : valV (planK n st la l) (Sum.inr "last" : Key) = some (.int (la : Int)) := by rfl
theorem v_moves (n st la : Nat) (l : Addr) : valV (planK n st la l) (Sum.inr "moves" : Key) = some (.ref l) := by rfl
theorem plan_get {H : Hp} {q : Addr} {kvs : List (Key × V)} {k : Str} {v : V} (h : H q = some (.dK kvs)) (e : valV kvs (Sum.inr k : Key) = some v) : DGet H q (.str k) (some v) := by
  have := DGet.k (k := Sum.inr k) h
  rw [e] at this
  exact this
theorem ok_code {f C fI : Addr} {fd fdI : FuncData} (F : Fun K "_law_code" "_law_code" sLCode f fd) (MK : Mk K C fI) (gM : mg "Machine" = some (.ref C)) (bI : Binds K fdI ["self", "size", "first", "last", "moves"] [])
    (GI : FnOk P w K mg base CX0 6 fI fdI ["self", "size", "first", "last", "moves"] (spInit K C)) : FnOk P w K mg base CX0 8 f fd ["_law_w"] (spCode K C) := by
  refine F.ok scCd (fun vs H Q E h => ?_) (fun cdv A outer s H vs Q E hr h => ?_)
  · obtain ⟨q, l, n, st, la, ms, rfl, _⟩ := h
    rfl
  · obtain ⟨q, l, n, st, la, ms, rfl, hq, hM, ok, k⟩ := h
    have hu := hu_of hr
    refine ⟨_, (pss_one (ps_ret (pe_make MK GI hr rfl gM bI .nil pass0 (pa_cons (pe_dget hu (pv 0) pe_str (fun _ _ => rfl)) (pa_cons (pe_dget hu (pv 0) pe_str (fun _ _ => rfl)) (pa_cons (pe_dget hu (pv 0) pe_str (fun _ _ => rfl)) (pa_cons (pe_dget hu (pv 0) pe_str (fun _ _ => rfl)) pa_nil))))))), ?_⟩
    refine ⟨_, rfl, q, _, rfl, plan_get hq (v_size ..), _, rfl, q, _, rfl, plan_get hq (v_first ..), _, rfl, q, _, rfl, plan_get hq (v_last ..), _, rfl, q, _, rfl, plan_get hq (v_moves ..), fun x dx nx nd ne => ?_⟩
    have S3 : Same H (upd (upd H dx (.own x)) x (.ins C dx [])) := fun b o z => by
      rw [upd_ne (ne_of_none z nx), upd_ne (ne_of_none z nd)]
      exact z
    refine ⟨n, st, la, x, dx, l, ms, rfl, upd_same, hM.off (off_same S3), ok, fun H' keep M => ⟨rfl, ?_⟩⟩
    exact k x H' (fun b o z => keep b o (S3 _ _ z) (ne_of_none z nx)) nx M
/-- the parts of a plan, in a tuple -/
def spPlain (K : PySem.W.Frag) : Sp := fun vs H Q _ => ∃ (q l : Addr) (n st la : Nat), vs = [.ref q] ∧ H q = some (.dK (planK n st la l)) ∧ ∀ p, H p = none → Q (.ref p) (upd H p (.tup [.int (n : Int), .int (st : Int), .int (la : Int), .ref l]))
theorem scPl : FnScope ["_law_w"] ["_law_w"] (defScope sLPlain) := ⟨rfl, rfl, rfl, by decide +kernel, rfl, by decide +kernel, by decide +kernel⟩
theorem ok_plain {f : Addr} {fd : FuncData} (F : Fun K "_law_plain" "_law_plain" sLPlain f fd) : FnOk P w K mg base CX0 1 f fd ["_law_w"] (spPlain K) := by
  refine F.ok scPl (fun vs H Q E h => ?_) (fun cdv A outer s H vs Q E hr h => ?_)
  · obtain ⟨q, l, n, st, la, rfl, _⟩ := h
    rfl
  · obtain ⟨q, l, n, st, la, rfl, hq, k⟩ := h
    have hu := hu_of hr
    refine ⟨_, (pss_one (ps_ret (pe_tup (pa_cons (pe_dget hu (pv 0) pe_str (fun _ _ => rfl)) (pa_cons (pe_dget hu (pv 0) pe_str (fun _ _ => rfl)) (pa_cons (pe_dget hu (pv 0) pe_str (fun _ _ => rfl)) (pa_cons (pe_dget hu (pv 0) pe_str (fun _ _ => rfl)) pa_nil))))))), ?_⟩
    exact ⟨_, rfl, q, _, rfl, plan_get hq (v_size ..), _, rfl, q, _, rfl, plan_get hq (v_first ..), _, rfl, q, _, rfl, plan_get hq (v_last ..), _, rfl, q, _, rfl, plan_get hq (v_moves ..), by show 4 ≤ sizeLine; decide, k⟩
def spLParts (K : PySem.W.Frag) (C : Addr) : Sp := fun vs H Q _ => ∃ (a : Addr) (n st la : Nat) (ms : List (Addr × Mv)), vs = [.ref a] ∧ MachAt K C H a n st la ms ∧
  ∀ q l, H q = none → MvsAt K H l ms → Q (.ref q) (upd H q (.tup [.int (n : Int), .int (st : Int), .int (la : Int), .ref l]))
theorem scPa : FnScope ["_law_it"] ["_law_it"] (defScope sLParts) := ⟨rfl, rfl, rfl, by decide +kernel, rfl, by decide +kernel, by decide +kernel⟩
theorem ok_lparts {f C : Addr} {fd : FuncData} (F : Fun K "_law_parts" "_law_parts" sLParts f fd) (M : MCls K C) : FnOk P w K mg base CX0 1 f fd ["_law_it"] (spLParts K C) := by
  refine F.ok scPa (fun vs H Q E h => ?_) (fun cdv A outer s H vs Q E hr h => ?_)
  · obtain ⟨a, n, st, la, ms, rfl, _⟩ := h
    rfl
  · obtain ⟨a, n, st, la, ms, rfl, hA, k⟩ := h
    obtain ⟨d, l, E1, F1, z, ha, hM, _⟩ := hA.ob
    refine ⟨_, (pss_one (ps_ret (pe_tup (pa_cons (pe_fld (pv 0) rfl) (pa_cons (pe_fld (pv 0) rfl) (pa_cons (pe_fld (pv 0) rfl) (pa_cons (pe_fld (pv 0) rfl) pa_nil))))))), ?_⟩
    refine ⟨_, rfl, a, C, d, _, _, rfl, ha, M.cl, M.a1, lk1 .., _, rfl, a, C, d, _, _, rfl, ha, M.cl, M.a2, lk2 .., _, rfl, a, C, d, _, _, rfl, ha, M.cl, M.a3, lk3 .., _, rfl, a, C, d, _, _, rfl, ha, M.cl, M.a4, lk4 .., (by show 4 ≤ sizeLine; decide), fun q nq => ?_⟩
    exact k q l nq hM
end
end Vk
set_option Elab.async false
set_option linter.all false
set_option maxRecDepth 100000
set_option maxHeartbeats 4000000
namespace Vk
open PySem PySem.Spec PyProof.Rows L2 Vt
abbrev sGoes : Stmt := top8 44
abbrev sTakes : Stmt := top8 45
/-- all ends of moves from s by c -/
def goB (ms : List (Addr × Mv)) (s c : Nat) : List Nat := (ms.filter fun p => decide (p.2.s = s ∧ p.2.c = c)).map fun p => p.2.t
theorem goB_step (ms : List (Addr × Mv)) (s c : Nat) : (goB ms s c)[0]? = stepM ms s c := by
  unfold goB stepM
  rw [List.getElem?_map, ← List.head?_eq_getElem?, List.head?_filter]
section
variable {P : Program} {w : World} {K : PySem.W.Frag} {mg : Str → Option Value} {base : Heap}
/-- a path by hand -/
def spGoes (K : PySem.W.Frag) : Sp := fun vs H Q _ => ∃ (q l : Addr) (n st la s : Nat) (x : Str) (ms : List (Addr × Mv)), vs = [.ref q, .int (s : Int), .str x] ∧ H q = some (.dK (planK n st la l)) ∧ MvsAt K H l ms ∧ ms.length ≤ 3999 ∧ ∀ H', Same H H' → Q (optV (walkM ms s x.cps.toList)) H'
theorem scGo : FnScope ["_law_w", "_law_here", "_law_word", "_law_sign", "_law_some", "_law_s", "_law_x", "_law_t"] ["_law_w", "_law_here", "_law_word"] (defScope sGoes) := ⟨rfl, rfl, rfl, by decide +kernel, rfl, by decide +kernel, by decide +kernel⟩
theorem ok_goes {f : Addr} {fd : FuncData} (F : Fun K "_law_goes" "_law_goes" sGoes f fd) : FnOk P w K mg base CX0 1 f fd ["_law_w", "_law_here", "_law_word"] (spGoes K) := by
  refine F.ok scGo (fun vs H Q E h => ?_) (fun cdv A outer s H vs Q E hr h => ?_)
  · obtain ⟨q, l, n, st, la, s, x, ms, rfl, _⟩ := h
    rfl
  · obtain ⟨q, l, n, st, la, s0, x, ms, rfl, hq, hM, few, k⟩ := h
    have hu := hu_of hr
    refine ⟨_, (pss_cons (ps_for PassesOwn.never rfl (pi_str (pv 2)) (pg_name (i := 3) scGo.nd rfl (.inr rfl)) (pss_cons (ps_setLc (i := 4) (own := [("_law_s", 5), ("_law_x", 6), ("_law_t", 7)]) (g := (gTup K 3 (gCons (gName 5) (gCons (gName 6) (gCons (gName 7) gNil))))) (by rfl) scGo.nd rfl rfl (sw_true rfl rfl rfl (by decide +kernel)) (pi_tup (pe_dget hu (pv 0) pe_str (fun _ _ => rfl))) (blkOk_by (own := [("_law_s", 5), ("_law_x", 6), ("_law_t", 7)]) (N := ["_law_w", "_law_here", "_law_word", "_law_sign", "_law_some", "_law_s", "_law_x", "_law_t"]) (sc := defScope sGoes) (by decide +kernel)) (fun _ _ _ _ _ => (pg_tup (by rfl) (pgs_cons (pg_name (i := 5) scGo.nd rfl (.inl rfl)) (pgs_cons (pg_name (i := 6) scGo.nd rfl (.inl rfl)) (pgs_cons (pg_name (i := 7) scGo.nd rfl (.inl rfl)) pgs_nil))))) (fun _ _ _ _ _ => (pts_one (PW.pt (pw_and (pt_cmpR op_eq (pv 5) (pv 1) (nomark _)) (pw_and1 (pt_cmpR op_eq (pv 6) (pv 3) (nomark _))))))) (fun _ _ _ _ _ => (pv 7)))
        (pss_cons (ps_if (pt_cmpR (op_eqD hr.units) (pv 4) (pe_lst pa_nil) (nomark _)) (pss_one (ps_ret pe_non)) pss_nil)
        (pss_one (ps_set (i := 1) scGo.nd rfl (.inr rfl) (pe_ix ix_list (pv 4) pe_int (fun _ _ => rfl)))))))
        (pss_one (ps_ret (pv 1)))), ?_⟩
    refine ⟨_, rfl, x, rfl, ?_⟩
    refine for_text (x := x) (fun i σ H' => ∃ (s : Nat) (v3 v4 : Option V), σ = [some (.ref q), some (.int (s : Int)), some (.str x), v3, v4, none, none, none] ∧ Same H H' ∧ walkM ms s0 x.cps.toList = walkM ms s (x.cps.toList.drop i)) ⟨s0, none, none, rfl, Same.refl _, by rw [List.drop_zero]⟩ ?_ ?_
    · rintro i c σ H' hi ⟨s, v3, v4, rfl, S', e⟩
      have hd : x.cps.toList.drop i = c :: x.cps.toList.drop (i + 1) := by
        have il : i < x.cps.toList.length := by
          rw [← Array.getElem?_toList] at hi
          exact (List.getElem?_eq_some_iff.mp hi).1
        rw [List.drop_eq_getElem_cons il]
        rw [← Array.getElem?_toList, List.getElem?_eq_getElem il] at hi
        rw [Option.some.inj hi]
      refine ⟨_, rfl, q, _, rfl, plan_get (S' _ _ hq) (v_moves ..), l, rfl, ⟨_, same_seqT S' hM.tp⟩, fun D nD => ?_⟩
      refine lc_tup (K := K) (a := l) (xs := ms.map fun p => V.ref p.1) (fun i H2 => Same H' H2 ∧ H2 D = some (.lst ((goB (ms.take i) s c).map fun (t : Nat) => V.int (t : Int)))) ⟨same_up nD, upd_same⟩ (fun i H2 _ h => same_seqT (S'.trans h.1) hM.tp) ?_ ?_
      · rintro j y H2 hj ⟨S2, hD⟩
        rw [List.getElem?_map] at hj
        obtain ⟨p, hp, rfl⟩ := Option.map_eq_some_iff.mp hj
        have pm := List.mem_of_getElem? hp
        refine ⟨p.1, _, rfl, same_seqT (S'.trans S2) (hM.it p pm), rfl, _, _, rfl, _, _, rfl, _, _, rfl, rfl, ?_⟩
        have few2 : (goB (ms.take j) s c).length ≤ j := by
          unfold goB
          rw [List.length_map]
          refine Nat.le_trans (List.length_filter_le _ _) ?_
          rw [List.length_take]
          omega
        have jl : j < ms.length := (List.getElem?_eq_some_iff.mp hp).1
        have more : goB (ms.take (j + 1)) s c = goB (ms.take j) s c ++ (if p.2.s = s ∧ p.2.c = c then [p.2.t] else []) := by
          unfold goB
          rw [List.take_add_one, hp, List.filter_append, List.map_append]
          by_cases z : p.2.s = s ∧ p.2.c = c
          · simp [z]
          · simp [z]
        refine ⟨rfl, ?_⟩
        refine ⟨_, rfl, _, rfl, rfl, _, rfl, ?_⟩
        by_cases e1 : p.2.s = s
        · rw [decide_eq_true (show V.int (p.2.s : Int) = V.int (s : Int) by rw [e1])]
          refine iteT ?_
          refine ⟨_, rfl, _, rfl, rfl, _, rfl, ?_⟩
          by_cases e2 : p.2.c = c
          · rw [decide_eq_true (show V.str (sg p.2.c) = V.str ⟨#[c]⟩ by rw [e2] <;> rfl)]
            refine iteT ?_
            refine ⟨_, rfl, _, hD, by rw [List.length_map, sizeLine_eq]; omega, fun c o e => ?_, ?_⟩
            · rw [upd_ne (ne_of_none e nD)]
              exact S2 _ _ e
            · rw [upd_same, more, if_pos ⟨e1, e2⟩, List.map_append] <;> rfl
          · rw [decide_eq_false (show ¬ V.str (sg p.2.c) = V.str ⟨#[c]⟩ from fun z => e2 (by
              injection z with z
              exact (List.cons.inj (congrArg (fun y : Str => y.cps.toList) z)).1))]
            refine iteF ?_
            rw [more, if_neg (fun z => e2 z.2), List.append_nil]
            exact ⟨S2, hD⟩
        · rw [decide_eq_false (show ¬ V.int (p.2.s : Int) = V.int (s : Int) from fun z => e1 (by injection z with z; omega))]
          refine iteF ?_
          rw [more, if_neg (fun z => e1 z.1), List.append_nil]
          exact ⟨S2, hD⟩
      · rintro H2 ⟨S2, hD⟩
        rw [List.length_map, List.take_length] at hD
        refine go_name ?_
        refine ⟨_, rfl, ⟨Nat.zero_le _, fun L nL => ?_⟩⟩
        have T3 := same_up (o := .lst []) nL
        have hD3 := T3 _ _ hD
        have dps : ∀ g : List Nat, DpAll K (upd H2 L (.lst [])) (g.map fun (t : Nat) => V.int (t : Int)) (g.map fun (t : Nat) => PyData.int (t : Int)) := fun g => by
          induction g with
          | nil => exact .nil
          | cons t g ih => exact .cons (.int _) ih
        have shp : ∀ g : List Nat, SeqAt.shaped (.list (g.map fun (t : Nat) => PyData.int (t : Int))) = true := fun g => by
          have h1 : PyData.canLayAll0 (g.map fun (t : Nat) => PyData.int (t : Int)) = true ∧ PyData.depthAll (g.map fun (t : Nat) => PyData.int (t : Int)) = 0 := by
            induction g with
            | nil => exact ⟨rfl, rfl⟩
            | cons t g ih =>
              rw [List.map_cons, PyData.canLayAll0, PyData.depthAll, ih.1, ih.2]
              exact ⟨rfl, rfl⟩
          unfold SeqAt.shaped
          rw [PyData.canLay0, h1.1, PyData.depth, h1.2]
          rfl
        have wk : walkM ms s0 x.cps.toList = (stepM ms s c).bind fun t => walkM ms t (x.cps.toList.drop (i + 1)) := by
          rw [e, hd] <;> rfl
        have S3 := (S'.trans S2).trans T3
        refine ⟨.list ((goB ms s c).map fun (t : Nat) => PyData.int (t : Int)), .list [], .lst (SqL.of hD3) (dps _), .lst (SqL.of upd_same) .nil, shp _, rfl, ?_⟩
        have gs := goB_step ms s c
        cases eg : goB ms s c with
        | nil =>
          rw [eg] at gs
          refine ⟨_, rfl, ?_⟩
          refine iteT ?_
          rw [← gs] at wk
          have z : V.non = optV (walkM ms s0 x.cps.toList) := by rw [wk] <;> rfl
          show Q .non _
          rw [z]
          exact k _ S3
        | cons t g =>
          rw [eg] at gs hD3
          refine ⟨_, rfl, ?_⟩
          refine iteF ?_
          refine ⟨_, rfl, D, _, _, _, rfl, rfl, SqL.of hD3, atI_nat (j := 0) rfl, t, _, _, rfl, S3, ?_⟩
          rw [wk, ← gs] <;> rfl
    · rintro σ H' ⟨s, v3, v4, rfl, S', e⟩
      rw [← Array.length_toList, List.drop_length] at e
      refine ⟨_, rfl, ?_⟩
      rw [show V.int (s : Int) = optV (some s) from rfl, show (some s) = walkM ms s [] from rfl, ← e]
      exact k H' S'
/-- a word by hand -/
def spTakes (K : PySem.W.Frag) : Sp := fun vs H Q _ => ∃ (q l : Addr) (n st la : Nat) (x : Str) (ms : List (Addr × Mv)), vs = [.ref q, .str x] ∧ H q = some (.dK (planK n st la l)) ∧ MvsAt K H l ms ∧ ms.length ≤ 3999 ∧ ∀ H', Same H H' → Q (.bl (decide (walkM ms st x.cps.toList = some la))) H'
theorem scTk : FnScope ["_law_w", "_law_word"] ["_law_w", "_law_word"] (defScope sTakes) := ⟨rfl, rfl, rfl, by decide +kernel, rfl, by decide +kernel, by decide +kernel⟩
theorem ok_takes {f fGo : Addr} {fd fdGo : FuncData} (F : Fun K "_law_takes" "_law_takes" sTakes f fd) (FGo : Fun K "_law_goes" "_law_goes" sGoes fGo fdGo) (gGo : mg "_law_goes" = some (.ref fGo)) (bGo : Binds K fdGo ["_law_w", "_law_here", "_law_word"] []) : FnOk P w K mg base CX0 2 f fd ["_law_w", "_law_word"] (spTakes K) := by
  have GGo : FnOk P w K mg base CX0 1 fGo fdGo ["_law_w", "_law_here", "_law_word"] (spGoes K) := ok_goes FGo
  refine F.ok scTk (fun vs H Q E h => ?_) (fun cdv A outer s H vs Q E hr h => ?_)
  · obtain ⟨q, l, n, st, la, x, ms, rfl, _⟩ := h
    rfl
  · obtain ⟨q, l, n, st, la, x, ms, rfl, hq, hM, few, k⟩ := h
    have hu := hu_of hr
    refine ⟨_, (pss_one (ps_ret (pe_cmpR op_eq (pe_call GGo hr rfl gGo FGo.kp bGo .nil pass0 (pa_cons (pv 0) (pa_cons (pe_dget hu (pv 0) pe_str (fun _ _ => rfl)) (pa_cons (pv 1) pa_nil)))) (pe_dget hu (pv 0) pe_str (fun _ _ => rfl)) (nomark _)))), ?_⟩
    refine ⟨_, rfl, _, rfl, q, _, rfl, plan_get hq (v_first ..), _, rfl, q, l, n, st, la, st, x, ms, rfl, hq, hM, few, fun H1 S1 => ?_⟩
    refine ⟨_, rfl, q, _, rfl, plan_get (S1 _ _ hq) (v_last ..), ?_⟩
    have fin := k H1 S1
    cases ew : walkM ms st x.cps.toList with
    | none =>
      rw [ew] at fin
      exact ⟨rfl, fin⟩
    | some t =>
      rw [ew] at fin
      refine ⟨rfl, ?_⟩
      have e : decide (V.int (t : Int) = V.int (la : Int)) = decide (some t = some la) := by
        by_cases y : t = la
        · rw [y]
          simp
        · rw [decide_eq_false (show ¬ V.int (t : Int) = V.int (la : Int) from fun z => y (by injection z with z; omega)), decide_eq_false (fun z => y (Option.some.inj z))]
      show Q (.bl (decide (V.int (t : Int) = V.int (la : Int)))) H1
      rw [e]
      exact fin
end
end Vk
set_option Elab.async false
set_option linter.all false
set_option maxRecDepth 100000
set_option maxHeartbeats 4000000
namespace Vk
open PySem PySem.Spec PyProof.Rows L2 Vt
abbrev sTexts : Stmt := top8 46
/-- all words of k signs -/
def lastL (sg : List Nat) : Nat → List Str
  | 0 => [Str.empty]
  | k + 1 => (lastL sg k).flatMap fun w => sg.map fun c => w ++ ⟨#[c]⟩
/-- all words of at most k signs, shorter ones first -/
def foundL (sg : List Nat) : Nat → List Str
  | 0 => [Str.empty]
  | k + 1 => foundL sg k ++ lastL sg (k + 1)
theorem flat_le {sg : List Nat} : ∀ l : List Str, (l.flatMap fun w => sg.map fun c => w ++ (⟨#[c]⟩ : Str)).length = l.length * sg.length
  | [] => by simp
  | w :: l => by
    rw [List.flatMap_cons, List.length_append, flat_le l, List.length_map, List.length_cons, Nat.succ_mul]
    omega
theorem last_le {sg : List Nat} (h : sg.length ≤ 4) : ∀ k, (lastL sg k).length ≤ 4 ^ k
  | 0 => Nat.le_refl _
  | k + 1 => by
    rw [lastL, flat_le, Nat.pow_succ]
    exact Nat.mul_le_mul (last_le h k) h
theorem last_len {sg : List Nat} : ∀ k, ∀ w ∈ lastL sg k, w.length = k
  | 0, w, h => by rw [List.mem_singleton.mp h] <;> rfl
  | k + 1, w, h => by
    obtain ⟨v, hv, h⟩ := List.mem_flatMap.mp h
    obtain ⟨c, _, rfl⟩ := List.mem_map.mp h
    rw [PySem.Str.length_append, last_len k v hv] <;> rfl
theorem found_le {sg : List Nat} (h : sg.length ≤ 4) : ∀ k, (foundL sg k).length ≤ 5 ^ k
  | 0 => Nat.le_refl _
  | k + 1 => by
    have a := found_le h k
    have b := last_le h (k + 1)
    have c : 4 ^ (k + 1) ≤ 4 * 5 ^ k := by
      rw [Nat.pow_succ, Nat.mul_comm]
      exact Nat.mul_le_mul_left _ (Nat.pow_le_pow_left (by decide) k)
    rw [foundL, List.length_append, Nat.pow_succ]
    omega
theorem none_back {H H' : Hp} {p : Addr} (S : Same H H') (h : H' p = none) : H p = none := by
  cases e : H p with
  | none => rfl
  | some o =>
    rw [S _ _ e] at h
    cases h
section
variable {P : Program} {w : World} {K : PySem.W.Frag} {mg : Str → Option Value} {base : Heap}
def spTexts : Sp := fun vs H Q _ => ∃ (x : Str) (top : Nat), vs = [.str x, .int (top : Int)] ∧ x.cps.toList.length ≤ 4 ∧ top ≤ 4 ∧ ∀ H' p, Same H H' → H p = none → H' p = some (.lst ((foundL x.cps.toList top).map V.str)) → Q (.ref p) H'
theorem scTx : FnScope ["_law_signs", "_law_top", "_law_found", "_law_last", "_law_turn", "_law_longer", "_law_word", "_law_sign"] ["_law_signs", "_law_top"] (defScope sTexts) := ⟨rfl, rfl, rfl, by decide +kernel, rfl, by decide +kernel, by decide +kernel⟩
theorem ok_texts {f : Addr} {fd : FuncData} (F : Fun K "_law_texts" "_law_texts" sTexts f fd) (T : Txt8 K mg) : FnOk P w K mg base CX0 1 f fd ["_law_signs", "_law_top"] spTexts := by
  refine F.ok scTx (fun vs H Q E h => ?_) (fun cdv A outer s H vs Q E hr h => ?_)
  · obtain ⟨x, top, rfl, _⟩ := h
    rfl
  · obtain ⟨x, top, rfl, h4, t4, k⟩ := h
    refine ⟨_, (pss_cons (ps_par (i := 2) (j := 3) (by rfl) scTx.nd rfl rfl (by decide) rfl rfl (pa_cons (pe_lst (pa_cons pe_str pa_nil)) (pa_cons (pe_lst (pa_cons pe_str pa_nil)) pa_nil)) (by rfl))
        (pss_cons (ps_for PassesOwn.never rfl (pi_range1 (by rfl) T.rng (pa_cons (pv 1) pa_nil)) (pg_name (i := 4) scTx.nd rfl (.inl rfl)) (pss_cons (ps_set (i := 5) scTx.nd rfl (.inl rfl) (pe_lst pa_nil))
        (pss_cons (ps_for PassesOwn.never rfl (pi_list (pv 3)) (pg_name (i := 6) scTx.nd rfl (.inr rfl)) (pss_one (ps_expr (pe_bm PySem.F.plainAttrs_list PySem.F.slot_list_extend PySem.F.type_list_extend mt_extend (pv 5) (pa_cons (pe_lc (own := [("_law_sign", 7)]) (g := (gName 7)) (by rfl) scTx.nd (pi_str (pv 0)) (blkOk_by (own := [("_law_sign", 7)]) (N := ["_law_signs", "_law_top", "_law_found", "_law_last", "_law_turn", "_law_longer", "_law_word", "_law_sign"]) (sc := defScope sTexts) (by decide +kernel)) (fun _ _ _ _ _ => (pg_name (i := 7) scTx.nd rfl (.inl rfl))) (fun _ _ _ _ _ => pts_nil) (fun _ _ _ _ _ => (pe_op op_add_str (pv 6) (pv 7)))) pa_nil)))))
        (pss_one (ps_par (i := 2) (j := 3) (by rfl) scTx.nd rfl rfl (by decide) rfl rfl (pa_cons (pe_op op_cat (pv 2) (pv 5)) (pa_cons (pv 5) pa_nil)) (by rfl))))))
        (pss_one (ps_ret (pv 2))))), ?_⟩
    obtain ⟨sg, esg⟩ : ∃ sg, sg = x.cps.toList := ⟨_, rfl⟩
    rw [← esg] at h4 k
    refine ⟨by show 1 ≤ sizeLine; decide, fun fa na => ⟨by show 1 ≤ sizeLine; decide, fun lb nb => ?_⟩⟩
    refine ⟨_, _, rfl, ?_⟩
    have Sa := same_up (o := .lst [.str Str.empty]) na
    have Sb := same_up (o := .lst [.str Str.empty]) nb
    refine ⟨_, rfl, (top : Int), rfl, by omega, by omega, ?_⟩
    rw [Int.toNat_natCast]
    refine for_range (lo := 0) (n := top) (fun i σ H' => ∃ (fo la : Addr) (x4 x5 x6 : Option V), σ = [some (.str x), some (.int (top : Int)), some (.ref fo), some (.ref la), x4, x5, x6, none] ∧ Same H H' ∧ H fo = none ∧
      H' fo = some (.lst ((foundL sg i).map V.str)) ∧ H' la = some (.lst ((lastL sg i).map V.str))) ⟨fa, lb, _, _, _, rfl, Sa.trans Sb, na, Sb _ _ upd_same, upd_same⟩ ?_ ?_
    · rintro i σ H1 hi ⟨fo, la, x4, x5, x6, rfl, S1, n1, hfo, hla⟩
      refine ⟨Nat.zero_le _, fun Lg nL => ?_⟩
      have SL : Same H1 (upd H1 Lg (.lst [])) := same_up nL
      have l4 := last_le h4 i
      have p4 : 4 ^ i ≤ 4 ^ 4 := Nat.pow_le_pow_right (by decide) (by omega)
      have l9 : (lastL sg i).length ≤ 256 := Nat.le_trans l4 p4
      refine ⟨_, rfl, la, rfl, ⟨_, SqL.of (SL _ _ hla)⟩, ?_⟩
      refine for_list (K := K) (a := la) (xs := (lastL sg i).map V.str) (fun j σ H2 => ∃ (x6 : Option V), σ = [some (.str x), some (.int (top : Int)), some (.ref fo), some (.ref la), some (.int (0 + (i : Nat))), some (.ref Lg), x6, none] ∧ Same H1 H2 ∧
        H2 Lg = some (.lst ((((lastL sg i).take j).flatMap fun w => sg.map fun c => w ++ (⟨#[c]⟩ : Str)).map V.str))) ⟨_, rfl, SL, upd_same⟩ (fun j σ H2 _ ⟨_, _, S2, _⟩ => SqL.of (S2 _ _ hla)) ?_ ?_
      · rintro j y σ H2 hj ⟨x6, rfl, S2, hLg⟩
        rw [List.getElem?_map] at hj
        obtain ⟨w, hw, rfl⟩ := Option.map_eq_some_iff.mp hj
        have wl := last_len i w (List.mem_of_getElem? hw)
        have jl : j < (lastL sg i).length := (List.getElem?_eq_some_iff.mp hw).1
        refine ⟨_, rfl, .inl ⟨rfl, _, SqL.of hLg⟩, ?_⟩
        refine ⟨_, rfl, x, rfl, fun D nD => ?_⟩
        refine lc_text (x := x) (fun m H3 => Same H2 H3 ∧ H3 D = some (.lst (((sg.take m).map fun c => w ++ (⟨#[c]⟩ : Str)).map V.str))) ⟨same_up nD, upd_same⟩ ?_ ?_
        · rintro m c H3 hm ⟨S3, hD⟩
          have hm' : sg[m]? = some c := by rw [esg, Array.getElem?_toList]; exact hm
          have ml : m < sg.length := (List.getElem?_eq_some_iff.mp hm').1
          refine ⟨rfl, _, rfl, _, rfl, _, _, rfl, rfl, by rw [wl, sizeLine_eq]; show i + 1 ≤ _; omega, _, hD, by rw [List.length_map, List.length_map, List.length_take, sizeLine_eq]; omega, fun c o e => ?_, ?_⟩
          · rw [upd_ne (ne_of_none e nD)]
            exact S3 _ _ e
          · rw [upd_same, List.take_add_one, hm', List.map_append, List.map_append] <;> rfl
        · rintro H3 ⟨S3, hD⟩
          rw [List.take_of_length_le (by rw [esg, Array.length_toList] <;> exact Nat.le_refl _)] at hD
          have hLg3 := S3 _ _ hLg
          refine ⟨Lg, D, _, _, rfl, rfl, hLg3, hD, ?_, ?_⟩
          · rw [List.length_map, flat_le, List.length_map, List.length_map, List.length_take, sizeLine_eq]
            have q1 : min j (lastL sg i).length ≤ 256 := Nat.le_trans (Nat.min_le_right _ _) l9
            have q2 : min j (lastL sg i).length * sg.length ≤ 256 * 4 := Nat.mul_le_mul q1 h4
            omega
          · refine ⟨_, rfl, fun c o e => ?_, ?_⟩
            · rw [upd_ne (ne_of_none e nL)]
              exact S3 _ _ (S2 _ _ e)
            · rw [upd_same, List.take_add_one, hw, List.flatMap_append, List.map_append]
              show some (HO.lst (_ ++ _)) = some (HO.lst (_ ++ List.map V.str (List.flatMap _ [w])))
              rw [List.flatMap_cons, List.flatMap_nil, List.append_nil]
      · rintro σ H2 ⟨x6, rfl, S2, hLg⟩
        rw [List.length_map, List.take_length] at hLg
        have f4 := found_le h4 i
        have p5 : 5 ^ i ≤ 5 ^ 4 := Nat.pow_le_pow_right (by decide) (by omega)
        have g4 := last_le h4 (i + 1)
        have p6 : 4 ^ (i + 1) ≤ 4 ^ 5 := Nat.pow_le_pow_right (by decide) (by omega)
        have hLg' : H2 Lg = some (.lst ((lastL sg (i + 1)).map V.str)) := hLg
        refine ⟨_, rfl, _, rfl, fo, Lg, _, _, rfl, rfl, S2 _ _ hfo, hLg', ?_, fun p np => ?_⟩
        · rw [List.length_map, List.length_map, sizeLine_eq]
          have : (5 : Nat) ^ 4 = 625 := by decide
          have : (4 : Nat) ^ 5 = 1024 := by decide
          omega
        have Sp := same_up (o := .lst ((foundL sg i).map V.str ++ (lastL sg (i + 1)).map V.str)) np
        have S12 := S1.trans (S2.trans Sp)
        refine ⟨_, rfl, _, _, rfl, p, Lg, _, _, _, rfl, S12, none_back (S1.trans S2) np, ?_, Sp _ _ hLg'⟩
        rw [upd_same, foundL, List.map_append]
    · rintro σ H1 ⟨fo, la, x4, x5, x6, rfl, S1, n1, hfo, hla⟩
      exact ⟨_, rfl, k H1 fo S1 n1 hfo⟩
end
end Vk
set_option Elab.async false
set_option linter.all false
set_option maxRecDepth 100000
set_option maxHeartbeats 4000000
namespace Vk
open PySem PySem.Spec PyProof.Rows L2 Vt
/-! ## machines on paper: moves apart from their places -/
theorem mvLt_tri (a b : Mv) : mvLt a b ∨ a = b ∨ mvLt b a := by
  rw [mv_eq]
  unfold mvLt
  omega
theorem mvLt_irr (a : Mv) : ¬ mvLt a a := by
  unfold mvLt
  omega
theorem mvLt_asym {a b : Mv} (h : mvLt a b) (k : mvLt b a) : False := mvLt_irr _ (mvLt_trans h k)
theorem mvLtB_iff {a b : Mv} : mvLtB a b = true ↔ mvLt a b := by
  refine ⟨mvLt_of, fun h => ?_⟩
  unfold mvLtB
  rw [Bool.or_eq_true, Bool.and_eq_true, Bool.or_eq_true, Bool.and_eq_true]
  rcases h with h | ⟨h1, h | ⟨h2, h3⟩⟩
  · exact .inl (Nat.ble_eq_true_of_le h)
  · exact .inr ⟨by rw [h1]; exact Nat.beq_refl _, .inl (Nat.ble_eq_true_of_le h)⟩
  · exact .inr ⟨by rw [h1]; exact Nat.beq_refl _, .inr ⟨by rw [h2]; exact Nat.beq_refl _, Nat.ble_eq_true_of_le h3⟩⟩
/-- two ascending rows with the same members -/
theorem mv_ext : ∀ {a b : List Mv}, a.Pairwise mvLt → b.Pairwise mvLt → (∀ c, c ∈ a ↔ c ∈ b) → a = b
  | [], [], _, _, _ => rfl
  | [], y :: b, _, _, h => nomatch (h y).mpr List.mem_cons_self
  | x :: a, [], _, _, h => nomatch (h x).mp List.mem_cons_self
  | x :: a, y :: b, ha, hb, h => by
    have h1 := List.pairwise_cons.mp ha
    have h2 := List.pairwise_cons.mp hb
    have exy : x = y := by
      rcases List.mem_cons.mp ((h x).mp List.mem_cons_self) with e | m
      · exact e
      · rcases List.mem_cons.mp ((h y).mpr List.mem_cons_self) with e | m'
        · exact e.symm
        · exact (mvLt_asym (h2.1 x m) (h1.1 y m')).elim
    subst exy
    rw [mv_ext h1.2 h2.2 fun c => ?_]
    refine ⟨fun m => ?_, fun m => ?_⟩
    · rcases List.mem_cons.mp ((h c).mp (.tail _ m)) with e | m'
      · subst e
        exact (mvLt_irr _ (h1.1 c m)).elim
      · exact m'
    · rcases List.mem_cons.mp ((h c).mpr (.tail _ m)) with e | m'
      · subst e
        exact (mvLt_irr _ (h2.1 c m)).elim
      · exact m'
def leB (a b : Mv) : Bool := !mvLtB b a
/-- in ascending order -/
def sortL (l : List Mv) : List Mv := l.mergeSort leB
theorem sortL_perm (l : List Mv) : (sortL l).Perm l := List.mergeSort_perm l leB
theorem mem_sortL {l : List Mv} {m : Mv} : m ∈ sortL l ↔ m ∈ l := (sortL_perm l).mem_iff
theorem sortL_len (l : List Mv) : (sortL l).length = l.length := (sortL_perm l).length_eq
theorem leB_tot (a b : Mv) : (leB a b || leB b a) = true := by
  unfold leB
  rw [Bool.or_eq_true, Bool.not_eq_true', Bool.not_eq_true']
  rcases mvLt_tri a b with h | h | h
  · refine .inl (Bool.eq_false_iff.mpr fun z => mvLt_asym h (mvLt_of z))
  · refine .inl (Bool.eq_false_iff.mpr fun z => ?_)
    rw [h] at z
    exact mvLt_irr _ (mvLt_of z)
  · refine .inr (Bool.eq_false_iff.mpr fun z => mvLt_asym h (mvLt_of z))
theorem leB_trans (a b c : Mv) (h : leB a b = true) (k : leB b c = true) : leB a c = true := by
  unfold leB at *
  rw [Bool.not_eq_true', Bool.eq_false_iff] at *
  intro z
  have h' : ¬ mvLt b a := fun y => h (mvLtB_iff.mpr y)
  have k' : ¬ mvLt c b := fun y => k (mvLtB_iff.mpr y)
  have z' := mvLt_of z
  rcases mvLt_tri a b with q | q | q
  · exact k' (mvLt_trans z' q)
  · subst q
    exact k' z'
  · exact h' q
theorem sortL_up {l : List Mv} (nd : l.Nodup) : (sortL l).Pairwise mvLt := by
  have p := List.pairwise_mergeSort leB_trans leB_tot l
  have n2 : (sortL l).Nodup := (sortL_perm l).nodup_iff.mpr nd
  refine (List.Pairwise.and n2 p).imp fun {a b} ⟨ne, h⟩ => ?_
  unfold leB at h
  rw [Bool.not_eq_true', Bool.eq_false_iff] at h
  rcases mvLt_tri a b with q | q | q
  · exact q
  · exact (ne q).elim
  · exact (h (mvLtB_iff.mpr q)).elim
theorem nodup_up {l : List Mv} (h : l.Pairwise mvLt) : l.Nodup := by
  refine List.Pairwise.imp (fun {a b} q e => ?_) h
  subst e
  exact mvLt_irr _ q
theorem sortL_id {l : List Mv} (h : l.Pairwise mvLt) : sortL l = l := mv_ext (sortL_up (nodup_up h)) h fun _ => mem_sortL
theorem sortL_eq {l k : List Mv} (nl : l.Nodup) (nk : k.Nodup) (h : ∀ m, m ∈ l ↔ m ∈ k) : sortL l = sortL k := mv_ext (sortL_up nl) (sortL_up nk) fun m => by rw [mem_sortL, mem_sortL, h]
theorem lt_of_asc {ms : List (Addr × Mv)} (h : Asc ms) : (ms.map (·.2)).Pairwise mvLt := by
  unfold Asc at h
  rw [List.pairwise_map] at h ⊢
  refine h.imp fun {x y} z => ?_
  have z' : leM (y.1, mvK y.2) (x.1, mvK x.2) = false := z
  rcases mvLt_tri x.2 y.2 with c | c | c
  · exact c
  · rw [leM_key (x := (y.1, mvK y.2)) (y := (x.1, mvK x.2)) (by rw [c])] at z'
    cases z'
  · exfalso
    have w := leM_lt c y.1 x.1
    have tot := PySem.W.sortLe_total (listOrd itemOrd) false fun b : Addr × List Key => PySem.W.keyToks (encM b)
    rcases tot.total (x.1, mvK x.2) (y.1, mvK y.2) with q | q
    · have q' : leM (x.1, mvK x.2) (y.1, mvK y.2) = true := q
      rw [w] at q'
      cases q'
    · have q' : leM (y.1, mvK y.2) (x.1, mvK x.2) = true := q
      rw [z'] at q'
      cases q'
theorem asc_of_lt {ms : List (Addr × Mv)} (h : (ms.map (·.2)).Pairwise mvLt) : Asc ms := by
  unfold Asc
  rw [List.pairwise_map] at h ⊢
  exact h.imp fun {x y} z => leM_lt z x.1 y.1
/-- sorted of a list of moves, by places -/
theorem sort_upP {qs : List (Addr × Mv)} {l : List Mv} {ys : List (Addr × List Key)} (hp : ys.Perm (qs.map kp)) (srt : ys.Pairwise fun x y => leM x y = true) (hl : (qs.map (·.2)).Perm l) (asc : l.Pairwise mvLt) : ∃ qs' : List (Addr × Mv), qs'.map kp = ys ∧ qs'.map (·.2) = l ∧ ∀ p ∈ qs', ∃ p0 ∈ qs, p0.1 = p.1 ∧ mvK p0.2 = mvK p.2 := by
  have p1 : (ys.map fun y => ((0 : Addr), y.2)).Perm (l.map fun m => ((0 : Addr), mvK m)) := by
    have a := hp.map fun y : Addr × List Key => ((0 : Addr), y.2)
    have b := hl.map fun m => ((0 : Addr), mvK m)
    rw [List.map_map] at a b
    exact a.trans b
  have s1 : (ys.map fun y => ((0 : Addr), y.2)).Pairwise fun x y => leM x y = true := by
    rw [List.pairwise_map]
    exact srt.imp fun {x y} z => z
  have a0 : (l.map fun m => ((0 : Addr), mvK m)).Pairwise fun x y => leM y x = false := by
    rw [List.pairwise_map]
    exact asc.imp fun {x y} z => leM_lt z 0 0
  have e := congrArg (List.map Prod.snd) (rising_one p1 s1 a0)
  rw [List.map_map, List.map_map] at e
  obtain ⟨i1, i2⟩ := zip_kp (ys := ys) (l := l) e
  refine ⟨_, i1, i2, fun p hp2 => ?_⟩
  have : kp p ∈ ys := by rw [← i1]; exact List.mem_map.mpr ⟨p, hp2, rfl⟩
  obtain ⟨p0, h0, e0⟩ := List.mem_map.mp (hp.mem_iff.mp this)
  unfold kp at e0
  injection e0 with e1 e2
  exact ⟨p0, h0, e1, e2⟩
structure OkL (n st la : Nat) (L : List Mv) : Prop where
  n1 : 1 ≤ n
  n2 : n ≤ 999
  hst : st < n
  hla : la < n
  ok : ∀ m ∈ L, OkMv n m
  asc : L.Pairwise mvLt
  e0 : ∀ m ∈ L, ∀ k ∈ L, m.s = k.s → m.c = k.c → m = k
  e2 : ∀ m ∈ L, ∀ k ∈ L, m.t = k.t → m.c = k.c → m = k
  few : L.length ≤ 3999
  fw : ∀ S : List Nat, st ∈ S → (∀ m ∈ L, m.s ∈ S → m.t ∈ S) → ∀ x, x < n → x ∈ S
  bw : ∀ S : List Nat, la ∈ S → (∀ m ∈ L, m.t ∈ S → m.s ∈ S) → ∀ x, x < n → x ∈ S
theorem eK0_inj {m k : Mv} (h : eK 0 m = eK 0 k) : m.s = k.s ∧ m.c = k.c := by
  simp only [eK, if_true, List.cons.injEq, Sum.inr.injEq, Sum.inl.injEq, and_true] at h
  exact ⟨Int.ofNat.inj h.2, (List.cons.inj (congrArg (fun y : Str => y.cps.toList) h.1)).1⟩
theorem eK2_inj {m k : Mv} (h : eK 2 m = eK 2 k) : m.t = k.t ∧ m.c = k.c := by
  have h2 : ¬ ((2 : Int) = 0) := by decide
  simp only [eK, if_neg h2, List.cons.injEq, Sum.inr.injEq, Sum.inl.injEq, and_true] at h
  exact ⟨Int.ofNat.inj h.2, (List.cons.inj (congrArg (fun y : Str => y.cps.toList) h.1)).1⟩
theorem eq_of_nodup {α β : Type} {f : α → β} : ∀ {l : List α}, (l.map f).Nodup → ∀ x ∈ l, ∀ y ∈ l, f x = f y → x = y
  | [], _, _, h, _, _, _ => nomatch h
  | a :: l, nd, x, hx, y, hy, e => by
    obtain ⟨n1, n2⟩ := List.nodup_cons.mp nd
    rcases List.mem_cons.mp hx with ex | hx'
    · rcases List.mem_cons.mp hy with ey | hy'
      · rw [ex, ey]
      · exact (n1 (List.mem_map.mpr ⟨y, hy', by rw [← e, ex]⟩)).elim
    · rcases List.mem_cons.mp hy with ey | hy'
      · exact (n1 (List.mem_map.mpr ⟨x, hx', by rw [e, ey]⟩)).elim
      · exact eq_of_nodup n2 x hx' y hy' e
theorem nodup_of_inj {α β : Type} {f : α → β} : ∀ {l : List α}, l.Nodup → (∀ x ∈ l, ∀ y ∈ l, f x = f y → x = y) → (l.map f).Nodup
  | [], _, _ => List.Pairwise.nil
  | a :: l, nd, h => by
    obtain ⟨n1, n2⟩ := List.nodup_cons.mp nd
    rw [List.map_cons]
    refine List.nodup_cons.mpr ⟨fun z => ?_, nodup_of_inj n2 fun x hx y hy => h x (.tail _ hx) y (.tail _ hy)⟩
    obtain ⟨b, hb, e⟩ := List.mem_map.mp z
    rw [h b (.tail _ hb) a List.mem_cons_self e] at hb
    exact n1 hb
theorem OkM.onL {n st la : Nat} {ms : List (Addr × Mv)} (o : OkM n st la ms) : OkL n st la (ms.map (·.2)) := by
  have e0 : ((ms.map (·.2)).map (eK 0)).Nodup := by rw [List.map_map]; exact o.e0
  have e2 : ((ms.map (·.2)).map (eK 2)).Nodup := by rw [List.map_map]; exact o.e2
  refine ⟨o.n1, o.n2, o.hst, o.hla, fun m hm => ?_, lt_of_asc o.asc, fun m hm k hk h1 h2 => eq_of_nodup e0 m hm k hk ?_, fun m hm k hk h1 h2 => eq_of_nodup e2 m hm k hk ?_, by rw [List.length_map]; exact o.few, fun S hS h => o.fw S hS ?_, fun S hS h => o.bw S hS ?_⟩
  · obtain ⟨p, hp, rfl⟩ := List.mem_map.mp hm
    exact o.ok p hp
  · unfold eK
    rw [h1, h2]
    rfl
  · unfold eK
    rw [h1, h2]
    rfl
  · intro e he
    obtain ⟨p, hp, rfl⟩ := List.mem_map.mp he
    exact h p.2 (List.mem_map.mpr ⟨p, hp, rfl⟩)
  · intro e he
    obtain ⟨p, hp, rfl⟩ := List.mem_map.mp he
    exact h p.2 (List.mem_map.mpr ⟨p, hp, rfl⟩)
theorem OkL.onM {n st la : Nat} {ms : List (Addr × Mv)} {L : List Mv} (o : OkL n st la L) (e : ms.map (·.2) = L) : OkM n st la ms := by
  subst e
  have nd := nodup_up o.asc
  have a0 : ((ms.map (·.2)).map (eK 0)).Nodup := nodup_of_inj nd fun x hx y hy h => o.e0 x hx y hy (eK0_inj h).1 (eK0_inj h).2
  have a2 : ((ms.map (·.2)).map (eK 2)).Nodup := nodup_of_inj nd fun x hx y hy h => o.e2 x hx y hy (eK2_inj h).1 (eK2_inj h).2
  rw [List.map_map] at a0 a2
  have few := o.few
  rw [List.length_map] at few
  refine ⟨o.n1, o.n2, o.hst, o.hla, fun p hp => o.ok p.2 (List.mem_map.mpr ⟨p, hp, rfl⟩), asc_of_lt o.asc, a0, a2, few, fun S hS h => o.fw S hS fun m hm => ?_, fun S hS h => o.bw S hS fun m hm => ?_⟩
  · obtain ⟨p, hp, rfl⟩ := List.mem_map.mp hm
    exact h (p.2.s, p.2.t) (List.mem_map.mpr ⟨p, hp, rfl⟩)
  · obtain ⟨p, hp, rfl⟩ := List.mem_map.mp hm
    exact h (p.2.t, p.2.s) (List.mem_map.mpr ⟨p, hp, rfl⟩)
def stepL (L : List Mv) (s c : Nat) : Option Nat := (L.find? fun m => decide (m.s = s ∧ m.c = c)).map fun m => m.t
def walkL (L : List Mv) : Nat → List Nat → Option Nat
  | s, [] => some s
  | s, c :: r => (stepL L s c).bind fun t => walkL L t r
theorem stepM_L (ms : List (Addr × Mv)) (s c : Nat) : stepM ms s c = stepL (ms.map (·.2)) s c := by
  unfold stepM stepL
  rw [List.find?_map, Option.map_map] <;> rfl
theorem walkM_L (ms : List (Addr × Mv)) : ∀ (s : Nat) (w : List Nat), walkM ms s w = walkL (ms.map (·.2)) s w
  | s, [] => rfl
  | s, c :: r => by
    rw [walkM, walkL, stepM_L]
    congr 1
    funext t
    exact walkM_L ms t r
theorem stepL_iff {n st la : Nat} {L : List Mv} (o : OkL n st la L) {s c t : Nat} : stepL L s c = some t ↔ (⟨s, c, t⟩ : Mv) ∈ L := by
  unfold stepL
  rw [Option.map_eq_some_iff]
  refine ⟨fun ⟨m, h, e⟩ => ?_, fun h => ?_⟩
  · have h1 := List.mem_of_find?_eq_some h
    have h2 := of_decide_eq_true (p := m.s = s ∧ m.c = c) (List.find?_some (p := fun m : Mv => decide (m.s = s ∧ m.c = c)) h)
    rw [← h2.1, ← h2.2, ← e]
    exact h1
  · cases f : L.find? fun m => decide (m.s = s ∧ m.c = c) with
    | none =>
      have := List.find?_eq_none.mp f _ h
      exact (this (decide_eq_true ⟨rfl, rfl⟩)).elim
    | some m =>
      have h1 := List.mem_of_find?_eq_some f
      have h2 := of_decide_eq_true (p := m.s = s ∧ m.c = c) (List.find?_some (p := fun m : Mv => decide (m.s = s ∧ m.c = c)) f)
      refine ⟨m, rfl, ?_⟩
      rw [o.e0 m h1 _ h h2.1 h2.2]
theorem walkL_lt {n st la : Nat} {L : List Mv} (o : OkL n st la L) : ∀ {w : List Nat} {s t : Nat}, s < n → walkL L s w = some t → t < n
  | [], s, t, h, e => by
    injection e with e
    omega
  | c :: r, s, t, h, e => by
    rw [walkL, Option.bind_eq_some_iff] at e
    obtain ⟨u, hu, e⟩ := e
    exact walkL_lt o (o.ok _ ((stepL_iff o).mp hu)).2.1 e
end Vk
set_option Elab.async false
set_option linter.all false
set_option maxRecDepth 100000
set_option maxHeartbeats 4000000
namespace Vk
open PySem PySem.Spec PyProof.Rows L2 Vt
/-! ## two machines side by side, on paper -/
def mvA (n2 j : Nat) (m : Mv) : Mv := ⟨m.s * n2 + j, m.c, m.t * n2 + j⟩
def mvB (n2 i : Nat) (m : Mv) : Mv := ⟨i * n2 + m.s, m.c, i * n2 + m.t⟩
def rawP (n1 : Nat) (A : List Mv) (n2 : Nat) (B : List Mv) : List Mv := (A.flatMap fun m => (List.range n2).map fun j => mvA n2 j m) ++ (B.flatMap fun m => (List.range n1).map fun i => mvB n2 i m)
def prodL (n1 : Nat) (A : List Mv) (n2 : Nat) (B : List Mv) : List Mv := sortL (rawP n1 A n2 B)
theorem mem_rawP {n1 n2 : Nat} {A B : List Mv} {m : Mv} : m ∈ rawP n1 A n2 B ↔ (∃ a ∈ A, ∃ j, j < n2 ∧ mvA n2 j a = m) ∨ (∃ b ∈ B, ∃ i, i < n1 ∧ mvB n2 i b = m) := by
  unfold rawP
  rw [List.mem_append, List.mem_flatMap, List.mem_flatMap]
  simp only [List.mem_map, List.mem_range]
theorem mem_prodL {n1 n2 : Nat} {A B : List Mv} {m : Mv} : m ∈ prodL n1 A n2 B ↔ (∃ a ∈ A, ∃ j, j < n2 ∧ mvA n2 j a = m) ∨ (∃ b ∈ B, ∃ i, i < n1 ∧ mvB n2 i b = m) := by
  rw [prodL, mem_sortL, mem_rawP]
theorem pair_inj {n i j i' j' : Nat} (h1 : j < n) (h2 : j' < n) (e : i * n + j = i' * n + j') : i = i' ∧ j = j' := by
  have n0 : 0 < n := by omega
  have a1 : (i * n + j) / n = i := by rw [Nat.mul_comm, Nat.mul_add_div n0, Nat.div_eq_of_lt h1, Nat.add_zero]
  have a2 : (i' * n + j') / n = i' := by rw [Nat.mul_comm, Nat.mul_add_div n0, Nat.div_eq_of_lt h2, Nat.add_zero]
  have : i = i' := by rw [← a1, e, a2]
  subst this
  exact ⟨rfl, by omega⟩
theorem pair_lt {n1 n2 i j : Nat} (h1 : i < n1) (h2 : j < n2) : i * n2 + j < n1 * n2 := by
  have : (i + 1) * n2 ≤ n1 * n2 := Nat.mul_le_mul_right _ h1
  rw [Nat.succ_mul] at this
  omega
theorem pair_of {n1 n2 x : Nat} (h : x < n1 * n2) : ∃ i j, i < n1 ∧ j < n2 ∧ x = i * n2 + j := by
  have n0 : 0 < n2 := Nat.pos_of_ne_zero fun e => by rw [e, Nat.mul_zero] at h; omega
  refine ⟨x / n2, x % n2, (Nat.div_lt_iff_lt_mul n0).mpr h, Nat.mod_lt _ n0, ?_⟩
  rw [Nat.mul_comm]
  exact (Nat.div_add_mod x n2).symm
/-- no letter in common -/
def Apart (A B : List Mv) : Prop := ∀ a ∈ A, ∀ b ∈ B, a.c ≠ b.c
theorem mv_ne {a b : Mv} (h : a.s ≠ b.s ∨ a.c ≠ b.c ∨ a.t ≠ b.t) : a ≠ b := fun e => by
  subst e
  rcases h with h | h | h <;> exact h rfl
theorem raw_nodup {n1 st1 la1 n2 st2 la2 : Nat} {A B : List Mv} (oA : OkL n1 st1 la1 A) (oB : OkL n2 st2 la2 B) (ap : Apart A B) : (rawP n1 A n2 B).Nodup := by
  have nA := nodup_up oA.asc
  have nB := nodup_up oB.asc
  unfold rawP List.Nodup
  rw [List.pairwise_append, List.pairwise_flatMap, List.pairwise_flatMap]
  refine ⟨⟨fun a ha => ?_, ?_⟩, ⟨fun a ha => ?_, ?_⟩, fun x hx y hy e => ?_⟩
  · rw [List.pairwise_map]
    refine List.Pairwise.imp (fun {i j} h e => ?_) List.pairwise_lt_range
    have : a.s * n2 + i = a.s * n2 + j := congrArg Mv.s e
    omega
  · refine List.Pairwise.imp_of_mem (fun {a b} ha hb ne x hx y hy e => ?_) nA
    obtain ⟨i, hi, rfl⟩ := List.mem_map.mp hx
    obtain ⟨j, hj, rfl⟩ := List.mem_map.mp hy
    have h1 := pair_inj (List.mem_range.mp hi) (List.mem_range.mp hj) (congrArg Mv.s e)
    have h2 : a.c = b.c := by
      have := congrArg Mv.c e
      exact this
    exact ne (oA.e0 a ha b hb h1.1 h2)
  · rw [List.pairwise_map]
    refine List.Pairwise.imp_of_mem (fun {i j} hi hj h e => ?_) List.pairwise_lt_range
    have h1 := pair_inj (oB.ok a ha).1 (oB.ok a ha).1 (congrArg Mv.s e)
    omega
  · refine List.Pairwise.imp_of_mem (fun {a b} ha hb ne x hx y hy e => ?_) nB
    obtain ⟨i, hi, rfl⟩ := List.mem_map.mp hx
    obtain ⟨j, hj, rfl⟩ := List.mem_map.mp hy
    have h1 := pair_inj (oB.ok a ha).1 (oB.ok b hb).1 (congrArg Mv.s e)
    have h2 : a.c = b.c := by
      have := congrArg Mv.c e
      exact this
    exact ne (oB.e0 a ha b hb h1.2 h2)
  · obtain ⟨a, ha, hx⟩ := List.mem_flatMap.mp hx
    obtain ⟨i, hi, rfl⟩ := List.mem_map.mp hx
    obtain ⟨b, hb, hy⟩ := List.mem_flatMap.mp hy
    obtain ⟨j, hj, rfl⟩ := List.mem_map.mp hy
    have := congrArg Mv.c e
    exact ap a ha b hb this
theorem flat_len {α β : Type} {f : α → List β} {k : Nat} : ∀ {l : List α}, (∀ a ∈ l, (f a).length = k) → (l.flatMap f).length = l.length * k
  | [], _ => by rw [List.flatMap_nil, List.length_nil, List.length_nil, Nat.zero_mul]
  | a :: l, h => by
    rw [List.flatMap_cons, List.length_append, h a List.mem_cons_self, flat_len fun b hb => h b (.tail _ hb), List.length_cons, Nat.succ_mul, Nat.add_comm]
theorem raw_len (n1 : Nat) (A : List Mv) (n2 : Nat) (B : List Mv) : (rawP n1 A n2 B).length = A.length * n2 + B.length * n1 := by
  unfold rawP
  rw [List.length_append, flat_len (k := n2) fun a _ => by rw [List.length_map, List.length_range], flat_len (k := n1) fun a _ => by rw [List.length_map, List.length_range]]
theorem prod_len (n1 : Nat) (A : List Mv) (n2 : Nat) (B : List Mv) : (prodL n1 A n2 B).length = A.length * n2 + B.length * n1 := by
  rw [prodL, sortL_len, raw_len]
theorem ok_prod {n1 st1 la1 n2 st2 la2 : Nat} {A B : List Mv} (oA : OkL n1 st1 la1 A) (oB : OkL n2 st2 la2 B) (ap : Apart A B) (hn : n1 * n2 ≤ 999) (hm : A.length * n2 + B.length * n1 ≤ 3999) : OkL (n1 * n2) (st1 * n2 + st2) (la1 * n2 + la2) (prodL n1 A n2 B) := by
  have p1 : 0 < n1 := oA.n1
  have p2 : 0 < n2 := oB.n1
  have conn : ∀ (st1 st2 : Nat) (f g : Mv → Nat), st1 < n1 → st2 < n2 → (∀ S : List Nat, st1 ∈ S → (∀ m ∈ A, f m ∈ S → g m ∈ S) → ∀ x, x < n1 → x ∈ S) → (∀ S : List Nat, st2 ∈ S → (∀ m ∈ B, f m ∈ S → g m ∈ S) → ∀ x, x < n2 → x ∈ S) →
      (∀ m ∈ A, f m < n1 ∧ g m < n1) → (∀ m ∈ B, f m < n2 ∧ g m < n2) → ∀ S : List Nat, st1 * n2 + st2 ∈ S → (∀ m ∈ A, ∀ j, j < n2 → f m * n2 + j ∈ S → g m * n2 + j ∈ S) → (∀ m ∈ B, ∀ i, i < n1 → i * n2 + f m ∈ S → i * n2 + g m ∈ S) → ∀ x, x < n1 * n2 → x ∈ S := by
    intro st1 st2 f g h1 h2 cA cB bA bB S hS kA kB x hx
    obtain ⟨i, j, hi, hj, rfl⟩ := pair_of hx
    have one : ∀ y, y < n2 → st1 * n2 + y ∈ S := fun y hy => by
      have := cB ((List.range n2).filter fun y => decide (st1 * n2 + y ∈ S)) (List.mem_filter.mpr ⟨List.mem_range.mpr h2, decide_eq_true hS⟩) (fun m hm hf => by
        have := of_decide_eq_true (List.mem_filter.mp hf).2
        exact List.mem_filter.mpr ⟨List.mem_range.mpr (bB m hm).2, decide_eq_true (kB m hm st1 h1 this)⟩) y hy
      exact of_decide_eq_true (List.mem_filter.mp this).2
    have := cA ((List.range n1).filter fun z => decide (z * n2 + j ∈ S)) (List.mem_filter.mpr ⟨List.mem_range.mpr h1, decide_eq_true (one j hj)⟩) (fun m hm hf => by
      have := of_decide_eq_true (List.mem_filter.mp hf).2
      exact List.mem_filter.mpr ⟨List.mem_range.mpr (bA m hm).2, decide_eq_true (kA m hm j hj this)⟩) i hi
    exact of_decide_eq_true (List.mem_filter.mp this).2
  refine ⟨Nat.mul_pos p1 p2, hn, pair_lt oA.hst oB.hst, pair_lt oA.hla oB.hla, fun m hm => ?_, sortL_up (raw_nodup oA oB ap), fun m hm k hk h1 h2 => ?_, fun m hm k hk h1 h2 => ?_, by rw [prod_len]; exact hm, fun S hS h => ?_, fun S hS h => ?_⟩
  · rcases mem_prodL.mp hm with ⟨a, ha, j, hj, rfl⟩ | ⟨b, hb, i, hi, rfl⟩
    · exact ⟨pair_lt (oA.ok a ha).1 hj, pair_lt (oA.ok a ha).2.1 hj, (oA.ok a ha).2.2⟩
    · exact ⟨pair_lt hi (oB.ok b hb).1, pair_lt hi (oB.ok b hb).2.1, (oB.ok b hb).2.2⟩
  · rcases mem_prodL.mp hm with ⟨a, ha, j, hj, rfl⟩ | ⟨b, hb, i, hi, rfl⟩
    · rcases mem_prodL.mp hk with ⟨a', ha', j', hj', rfl⟩ | ⟨b', hb', i', hi', rfl⟩
      · obtain ⟨e1, e2⟩ := pair_inj hj hj' h1
        rw [e2, oA.e0 a ha a' ha' e1 h2]
      · exact (ap a ha b' hb' h2).elim
    · rcases mem_prodL.mp hk with ⟨a', ha', j', hj', rfl⟩ | ⟨b', hb', i', hi', rfl⟩
      · exact (ap a' ha' b hb h2.symm).elim
      · obtain ⟨e1, e2⟩ := pair_inj (oB.ok b hb).1 (oB.ok b' hb').1 h1
        rw [e1, oB.e0 b hb b' hb' e2 h2]
  · rcases mem_prodL.mp hm with ⟨a, ha, j, hj, rfl⟩ | ⟨b, hb, i, hi, rfl⟩
    · rcases mem_prodL.mp hk with ⟨a', ha', j', hj', rfl⟩ | ⟨b', hb', i', hi', rfl⟩
      · obtain ⟨e1, e2⟩ := pair_inj hj hj' h1
        rw [e2, oA.e2 a ha a' ha' e1 h2]
      · exact (ap a ha b' hb' h2).elim
    · rcases mem_prodL.mp hk with ⟨a', ha', j', hj', rfl⟩ | ⟨b', hb', i', hi', rfl⟩
      · exact (ap a' ha' b hb h2.symm).elim
      · obtain ⟨e1, e2⟩ := pair_inj (oB.ok b hb).2.1 (oB.ok b' hb').2.1 h1
        rw [e1, oB.e2 b hb b' hb' e2 h2]
  · exact conn st1 st2 Mv.s Mv.t oA.hst oB.hst oA.fw oB.fw (fun m hm => ⟨(oA.ok m hm).1, (oA.ok m hm).2.1⟩) (fun m hm => ⟨(oB.ok m hm).1, (oB.ok m hm).2.1⟩) S hS (fun m hm j hj => h (mvA n2 j m) (mem_prodL.mpr (.inl ⟨m, hm, j, hj, rfl⟩))) fun m hm i hi => h (mvB n2 i m) (mem_prodL.mpr (.inr ⟨m, hm, i, hi, rfl⟩))
  · exact conn la1 la2 Mv.t Mv.s oA.hla oB.hla oA.bw oB.bw (fun m hm => ⟨(oA.ok m hm).2.1, (oA.ok m hm).1⟩) (fun m hm => ⟨(oB.ok m hm).2.1, (oB.ok m hm).1⟩) S hS (fun m hm j hj => h (mvA n2 j m) (mem_prodL.mpr (.inl ⟨m, hm, j, hj, rfl⟩))) fun m hm i hi => h (mvB n2 i m) (mem_prodL.mpr (.inr ⟨m, hm, i, hi, rfl⟩))
/-- what a word does in two machines side by side -/
def bothP (n2 : Nat) : Option Nat → Option Nat → Option Nat
  | some a, some b => some (a * n2 + b)
  | _, _ => none
def ownF (A : List Mv) (c : Nat) : Bool := A.any fun m => m.c == c
theorem ownF_iff {A : List Mv} {c : Nat} : ownF A c = true ↔ ∃ m ∈ A, m.c = c := by
  unfold ownF
  rw [List.any_eq_true]
  exact ⟨fun ⟨m, h, e⟩ => ⟨m, h, beq_iff_eq.mp e⟩, fun ⟨m, h, e⟩ => ⟨m, h, beq_iff_eq.mpr e⟩⟩
theorem opt_ext {a b : Option Nat} (h : ∀ t, a = some t ↔ b = some t) : a = b := by
  cases a with
  | none =>
    cases b with
    | none => rfl
    | some y => exact (nomatch (h y).mpr rfl)
  | some x => exact ((h x).mp rfl).symm
theorem walk_prod {n1 st1 la1 n2 st2 la2 st la : Nat} {A B : List Mv} (oA : OkL n1 st1 la1 A) (oB : OkL n2 st2 la2 B) (ap : Apart A B) (oP : OkL (n1 * n2) st la (prodL n1 A n2 B)) :
    ∀ (w : List Nat) (i j : Nat), i < n1 → j < n2 → walkL (prodL n1 A n2 B) (i * n2 + j) w = bothP n2 (walkL A i (w.filter (ownF A))) (walkL B j (w.filter fun c => !ownF A c))
  | [], i, j, hi, hj => rfl
  | c :: w, i, j, hi, hj => by
    have ih := walk_prod oA oB ap oP w
    rw [walkL]
    cases oc : ownF A c with
    | true =>
      obtain ⟨a0, ha0, ec⟩ := ownF_iff.mp oc
      rw [List.filter_cons_of_pos oc, List.filter_cons_of_neg (by rw [oc]; decide), walkL]
      have st : stepL (prodL n1 A n2 B) (i * n2 + j) c = (stepL A i c).map fun t => t * n2 + j := by
        refine opt_ext fun t => ?_
        rw [stepL_iff oP, Option.map_eq_some_iff, mem_prodL]
        refine ⟨fun h => ?_, fun ⟨u, hu, e⟩ => ?_⟩
        · rcases h with ⟨a, ha, j', hj', e⟩ | ⟨b, hb, i', hi', e⟩
          · injection e with e1 e2 e3
            obtain ⟨f1, f2⟩ := pair_inj hj' hj e1
            refine ⟨a.t, (stepL_iff oA).mpr ?_, by rw [← f2]; exact e3⟩
            rw [← f1, ← e2]
            exact ha
          · injection e with e1 e2 e3
            exact (ap a0 ha0 b hb (ec.trans e2.symm)).elim
        · have := (stepL_iff oA).mp hu
          refine .inl ⟨_, this, j, hj, ?_⟩
          rw [← e]
          rfl
      rw [st]
      cases sa : stepL A i c with
      | none => rfl
      | some t =>
        have ht := (oA.ok _ ((stepL_iff oA).mp sa)).2.1
        show walkL (prodL n1 A n2 B) (t * n2 + j) w = _
        rw [ih t j ht hj] <;> rfl
    | false =>
      rw [List.filter_cons_of_neg (by rw [oc]; decide), List.filter_cons_of_pos (by rw [oc]; decide), walkL]
      have st : stepL (prodL n1 A n2 B) (i * n2 + j) c = (stepL B j c).map fun t => i * n2 + t := by
        refine opt_ext fun t => ?_
        rw [stepL_iff oP, Option.map_eq_some_iff, mem_prodL]
        refine ⟨fun h => ?_, fun ⟨u, hu, e⟩ => ?_⟩
        · rcases h with ⟨a, ha, j', hj', e⟩ | ⟨b, hb, i', hi', e⟩
          · injection e with e1 e2 e3
            rw [ownF_iff.mpr ⟨a, ha, e2⟩] at oc
            cases oc
          · injection e with e1 e2 e3
            obtain ⟨f1, f2⟩ := pair_inj (oB.ok b hb).1 hj e1
            refine ⟨b.t, (stepL_iff oB).mpr ?_, by rw [← f1]; exact e3⟩
            rw [← f2, ← e2]
            exact hb
        · have := (stepL_iff oB).mp hu
          refine .inr ⟨_, this, i, hi, ?_⟩
          rw [← e]
          rfl
      rw [st]
      cases sb : stepL B j c with
      | none =>
        cases walkL A i (w.filter (ownF A)) <;> rfl
      | some t =>
        have ht := (oB.ok _ ((stepL_iff oB).mp sb)).2.1
        show walkL (prodL n1 A n2 B) (i * n2 + t) w = _
        rw [ih i t hi ht] <;> rfl
theorem word_prod {n1 st1 la1 n2 st2 la2 : Nat} {A B : List Mv} (oA : OkL n1 st1 la1 A) (oB : OkL n2 st2 la2 B) (ap : Apart A B) (oP : OkL (n1 * n2) (st1 * n2 + st2) (la1 * n2 + la2) (prodL n1 A n2 B)) (w : List Nat) :
    decide (walkL (prodL n1 A n2 B) (st1 * n2 + st2) w = some (la1 * n2 + la2)) = (decide (walkL A st1 (w.filter (ownF A)) = some la1) && decide (walkL B st2 (w.filter fun c => !ownF A c) = some la2)) := by
  rw [walk_prod oA oB ap oP w st1 st2 oA.hst oB.hst, Bool.eq_iff_iff, Bool.and_eq_true, decide_eq_true_eq, decide_eq_true_eq, decide_eq_true_eq]
  cases ea : walkL A st1 (w.filter (ownF A)) with
  | none =>
    refine ⟨fun h => ?_, fun h => ?_⟩
    · cases h
    · cases h.1
  | some a =>
    cases eb : walkL B st2 (w.filter fun c => !ownF A c) with
    | none =>
      refine ⟨fun h => ?_, fun h => ?_⟩
      · cases h
      · cases h.2
    | some b =>
      have hb := walkL_lt oB oB.hst eb
      refine ⟨fun h => ?_, fun ⟨h1, h2⟩ => ?_⟩
      · injection h with h
        obtain ⟨h1, h2⟩ := pair_inj hb oB.hla h
        exact ⟨by rw [h1], by rw [h2]⟩
      · injection h1 with h1
        injection h2 with h2
        rw [h1, h2] <;> rfl
/-- three joined either way -/
theorem prod_assoc {n1 n2 n3 : Nat} {st1 la1 st2 la2 st3 la3 : Nat} {A B C : List Mv} (oA : OkL n1 st1 la1 A) (oB : OkL n2 st2 la2 B) (oC : OkL n3 st3 la3 C) (aAB : Apart A B) (aAC : Apart A C) (aBC : Apart B C)
    (oAB : OkL (n1 * n2) (st1 * n2 + st2) (la1 * n2 + la2) (prodL n1 A n2 B)) (oBC : OkL (n2 * n3) (st2 * n3 + st3) (la2 * n3 + la3) (prodL n2 B n3 C)) : prodL (n1 * n2) (prodL n1 A n2 B) n3 C = prodL n1 A (n2 * n3) (prodL n2 B n3 C) := by
  have a1 : Apart (prodL n1 A n2 B) C := fun m hm c hc => by
    rcases mem_prodL.mp hm with ⟨a, ha, j, hj, rfl⟩ | ⟨b, hb, i, hi, rfl⟩
    · exact aAC a ha c hc
    · exact aBC b hb c hc
  have a2 : Apart A (prodL n2 B n3 C) := fun a ha m hm => by
    rcases mem_prodL.mp hm with ⟨b, hb, j, hj, rfl⟩ | ⟨c, hc, i, hi, rfl⟩
    · exact aAB a ha b hb
    · exact aAC a ha c hc
  refine sortL_eq (raw_nodup oAB oC a1) (raw_nodup oA oBC a2) fun m => ?_
  rw [mem_rawP, mem_rawP]
  have q1 : ∀ i j k : Nat, (i * n2 + j) * n3 + k = i * (n2 * n3) + (j * n3 + k) := fun i j k => by rw [Nat.add_mul, Nat.mul_assoc, Nat.add_assoc]
  refine ⟨fun h => ?_, fun h => ?_⟩
  · rcases h with ⟨x, hx, k, hk, rfl⟩ | ⟨c, hc, x, hx, rfl⟩
    · rcases mem_prodL.mp hx with ⟨a, ha, j, hj, rfl⟩ | ⟨b, hb, i, hi, rfl⟩
      · refine .inl ⟨a, ha, j * n3 + k, pair_lt hj hk, ?_⟩
        simp only [mvA, q1]
      · refine .inr ⟨mvA n3 k b, mem_prodL.mpr (.inl ⟨b, hb, k, hk, rfl⟩), i, hi, ?_⟩
        simp only [mvA, mvB, q1]
    · obtain ⟨i, j, hi, hj, rfl⟩ := pair_of hx
      refine .inr ⟨mvB n3 j c, mem_prodL.mpr (.inr ⟨c, hc, j, hj, rfl⟩), i, hi, ?_⟩
      simp only [mvB, q1]
  · rcases h with ⟨a, ha, x, hx, rfl⟩ | ⟨x, hx, i, hi, rfl⟩
    · obtain ⟨j, k, hj, hk, rfl⟩ := pair_of hx
      refine .inl ⟨mvA n2 j a, mem_prodL.mpr (.inl ⟨a, ha, j, hj, rfl⟩), k, hk, ?_⟩
      simp only [mvA, q1]
    · rcases mem_prodL.mp hx with ⟨b, hb, k, hk, rfl⟩ | ⟨c, hc, j, hj, rfl⟩
      · refine .inl ⟨mvB n2 i b, mem_prodL.mpr (.inr ⟨b, hb, i, hi, rfl⟩), k, hk, ?_⟩
        simp only [mvA, mvB, q1]
      · refine .inr ⟨c, hc, i * n2 + j, pair_lt hi hj, ?_⟩
        simp only [mvB, q1]
end Vk
set_option Elab.async false
set_option linter.all false
set_option maxRecDepth 100000
set_option maxHeartbeats 4000000
namespace Vk
open PySem PySem.Spec PyProof.Rows L2 Vt
/-! ## the order in which states are met, on paper -/
def metC (L : List Mv) (s : Nat) (ord : List Nat) (c : Nat) : List Nat := match stepL L s c with
  | some t => if t ∈ ord then ord else ord ++ [t]
  | none => ord
def visitL (L : List Mv) (cs : List Nat) (s : Nat) (ord : List Nat) : List Nat := cs.foldl (metC L s) ord
def metL (L : List Mv) (cs : List Nat) (st : Nat) : Nat → List Nat
  | 0 => [st]
  | p + 1 => match (metL L cs st p)[p]? with
    | some s => visitL L cs s (metL L cs st p)
    | none => metL L cs st p
theorem metC_pre (L : List Mv) (s : Nat) (ord : List Nat) (c : Nat) : ∃ r, metC L s ord c = ord ++ r := by
  unfold metC
  cases stepL L s c with
  | none => exact ⟨[], (List.append_nil _).symm⟩
  | some t =>
    show ∃ r, (if t ∈ ord then ord else ord ++ [t]) = ord ++ r
    split
    · exact ⟨[], (List.append_nil _).symm⟩
    · exact ⟨[t], rfl⟩
theorem visit_pre (L : List Mv) (s : Nat) : ∀ (cs ord : List Nat), ∃ r, visitL L cs s ord = ord ++ r
  | [], ord => ⟨[], (List.append_nil _).symm⟩
  | c :: cs, ord => by
    obtain ⟨r1, e1⟩ := metC_pre L s ord c
    obtain ⟨r2, e2⟩ := visit_pre L s cs (metC L s ord c)
    exact ⟨r1 ++ r2, by rw [visitL, List.foldl_cons, ← visitL, e2, e1, List.append_assoc]⟩
structure MetOk (n st : Nat) (ord : List Nat) : Prop where
  nd : ord.Nodup
  lt : ∀ x ∈ ord, x < n
  st : st ∈ ord
theorem metC_ok {n st la : Nat} {L : List Mv} (o : OkL n st la L) {s c : Nat} {ord : List Nat} (h : MetOk n st ord) : MetOk n st (metC L s ord c) := by
  unfold metC
  cases e : stepL L s c with
  | none => exact h
  | some t =>
    show MetOk n st (if t ∈ ord then ord else ord ++ [t])
    have ht := (o.ok _ ((stepL_iff o).mp e)).2.1
    split
    · exact h
    · rename_i no
      refine ⟨?_, fun x hx => ?_, List.mem_append_left _ h.st⟩
      · unfold List.Nodup
        rw [List.pairwise_append]
        refine ⟨h.nd, List.pairwise_singleton _ _, fun a ha b hb e => no ?_⟩
        rw [← List.mem_singleton.mp hb, ← e]
        exact ha
      · rcases List.mem_append.mp hx with y | y
        · exact h.lt x y
        · rw [List.mem_singleton.mp y]
          exact ht
theorem visit_ok {n st la : Nat} {L : List Mv} (o : OkL n st la L) {s : Nat} : ∀ {cs ord : List Nat}, MetOk n st ord → MetOk n st (visitL L cs s ord)
  | [], ord, h => h
  | c :: cs, ord, h => visit_ok o (cs := cs) (metC_ok o h)
theorem met_ok {n st la : Nat} {L : List Mv} (o : OkL n st la L) (cs : List Nat) : ∀ p, MetOk n st (metL L cs st p)
  | 0 => ⟨List.pairwise_singleton _ _, fun x h => by rw [List.mem_singleton.mp h]; exact o.hst, List.mem_singleton.mpr rfl⟩
  | p + 1 => by
    rw [metL]
    cases (metL L cs st p)[p]? with
    | none => exact met_ok o cs p
    | some s => exact visit_ok o (met_ok o cs p)
theorem nodup_len : ∀ {n : Nat} {l : List Nat}, l.Nodup → (∀ x ∈ l, x < n) → l.length ≤ n
  | 0, [], _, _ => Nat.le_refl _
  | 0, x :: l, _, h => (Nat.not_lt_zero _ (h x List.mem_cons_self)).elim
  | n + 1, l, nd, h => by
    have a : (l.filter fun x => decide (x ≠ n)).length ≤ n := nodup_len (List.Pairwise.filter _ nd) fun x hx => by
      have h1 := h x (List.mem_filter.mp hx).1
      have h2 := of_decide_eq_true (List.mem_filter.mp hx).2
      omega
    have c : l.countP (fun x => !decide (x ≠ n)) ≤ 1 := by
      have : l.countP (fun x => !decide (x ≠ n)) = l.count n := by
        unfold List.count
        refine List.countP_congr fun x _ => ?_
        simp
      rw [this]
      exact List.nodup_iff_count.mp nd n
    have := List.length_eq_countP_add_countP (fun x => decide (x ≠ n)) (l := l)
    rw [List.countP_eq_length_filter] at this
    have e2 : List.countP (fun a => decide ¬(decide (a ≠ n) = true)) l = l.countP (fun x => !decide (x ≠ n)) := List.countP_congr fun x _ => by simp
    omega
theorem met_end {n st la : Nat} {L : List Mv} (o : OkL n st la L) (cs : List Nat) {p : Nat} (h : (metL L cs st p).length ≤ p) : ∀ k, metL L cs st (p + k) = metL L cs st p
  | 0 => rfl
  | k + 1 => by
    have ih := met_end o cs h k
    rw [← Nat.add_assoc, metL, ih, List.getElem?_eq_none (by omega)]
/-- the whole order -/
def ordL (n st : Nat) (L : List Mv) (cs : List Nat) : List Nat := metL L cs st n
theorem met_done {n st la : Nat} {L : List Mv} (o : OkL n st la L) (cs : List Nat) {p : Nat} (h : (metL L cs st p).length ≤ p) : metL L cs st p = ordL n st L cs := by
  have hn : (metL L cs st n).length ≤ n := nodup_len (met_ok o cs n).nd (met_ok o cs n).lt
  rcases Nat.le_total p n with q | q
  · have := met_end o cs h (n - p)
    rw [Nat.add_sub_cancel' q] at this
    exact this.symm
  · have := met_end o cs hn (p - n)
    rw [Nat.add_sub_cancel' q] at this
    exact this
theorem visit_all {L : List Mv} {s c t : Nat} (e : stepL L s c = some t) : ∀ {cs ord : List Nat}, c ∈ cs → t ∈ visitL L cs s ord
  | [], _, h => nomatch h
  | d :: cs, ord, h => by
    rcases List.mem_cons.mp h with rfl | h
    · obtain ⟨r, er⟩ := visit_pre L s cs (metC L s ord c)
      show t ∈ visitL L cs s (metC L s ord c)
      rw [er]
      refine List.mem_append_left _ ?_
      unfold metC
      rw [e]
      show t ∈ (if t ∈ ord then ord else ord ++ [t])
      split
      · assumption
      · exact List.mem_append_right _ (List.mem_singleton.mpr rfl)
    · exact visit_all e (cs := cs) h
theorem met_grow (L : List Mv) (cs : List Nat) (st : Nat) (p : Nat) : ∃ r, metL L cs st (p + 1) = metL L cs st p ++ r := by
  rw [metL]
  cases (metL L cs st p)[p]? with
  | none => exact ⟨[], (List.append_nil _).symm⟩
  | some s => exact visit_pre L s cs _
theorem met_grows (L : List Mv) (cs : List Nat) (st : Nat) (p : Nat) : ∀ k, ∃ r, metL L cs st (p + k) = metL L cs st p ++ r
  | 0 => ⟨[], (List.append_nil _).symm⟩
  | k + 1 => by
    obtain ⟨r, e⟩ := met_grows L cs st p k
    obtain ⟨r2, e2⟩ := met_grow L cs st (p + k)
    exact ⟨r ++ r2, by rw [← Nat.add_assoc, e2, e, List.append_assoc]⟩
theorem ord_all {n st la : Nat} {L : List Mv} {cs : List Nat} (o : OkL n st la L) (hc : ∀ m ∈ L, m.c ∈ cs) : ∀ x, x < n → x ∈ ordL n st L cs := by
  have ok := met_ok o cs n
  refine o.fw _ ok.st fun m hm hs => ?_
  obtain ⟨i, hi⟩ := List.getElem?_of_mem hs
  have il : i < (metL L cs st n).length := (List.getElem?_eq_some_iff.mp hi).1
  have nl : (metL L cs st n).length ≤ n := nodup_len ok.nd ok.lt
  -- at place i the state is taken up
  obtain ⟨r, er⟩ := met_grows L cs st i (n - i)
  rw [Nat.add_sub_cancel' (by omega)] at er
  obtain ⟨r2, er2⟩ := met_grows L cs st (i + 1) (n - (i + 1))
  rw [Nat.add_sub_cancel' (by omega)] at er2
  by_cases q : i < (metL L cs st i).length
  · have g : (metL L cs st i)[i]? = some m.s := by
      have : (ordL n st L cs)[i]? = some m.s := hi
      unfold ordL at this
      rw [er, List.getElem?_append_left q] at this
      exact this
    have inn : m.t ∈ metL L cs st (i + 1) := by
      rw [metL, g]
      exact visit_all ((stepL_iff o).mpr (show (⟨m.s, m.c, m.t⟩ : Mv) ∈ L from hm)) (hc m hm)
    show m.t ∈ metL L cs st n
    rw [er2]
    exact List.mem_append_left _ inn
  · have e1 := met_end o cs (p := i) (by omega) (n - i)
    rw [Nat.add_sub_cancel' (by omega)] at e1
    rw [e1] at il
    omega
theorem ord_len {n st la : Nat} {L : List Mv} {cs : List Nat} (o : OkL n st la L) (hc : ∀ m ∈ L, m.c ∈ cs) : (ordL n st L cs).Nodup ∧ (∀ x, x ∈ ordL n st L cs ↔ x < n) :=
  ⟨(met_ok o cs n).nd, fun x => ⟨(met_ok o cs n).lt x, ord_all o hc x⟩⟩
/-- states renamed -/
def reM (f : Nat → Nat) (m : Mv) : Mv := ⟨f m.s, m.c, f m.t⟩
structure Bij (n : Nat) (f : Nat → Nat) : Prop where
  lt : ∀ x, x < n → f x < n
  inj : ∀ x y, x < n → y < n → f x = f y → x = y
  sur : ∀ y, y < n → ∃ x, x < n ∧ f x = y
def reL (f : Nat → Nat) (L : List Mv) : List Mv := sortL (L.map (reM f))
theorem re_nodup {n st la : Nat} {L : List Mv} {f : Nat → Nat} (o : OkL n st la L) (b : Bij n f) : (L.map (reM f)).Nodup := nodup_of_inj (nodup_up o.asc) fun x hx y hy e => by
  injection e with e1 e2 e3
  exact o.e0 x hx y hy (b.inj _ _ (o.ok x hx).1 (o.ok y hy).1 e1) e2
theorem ok_re {n st la : Nat} {L : List Mv} {f : Nat → Nat} (o : OkL n st la L) (b : Bij n f) : OkL n (f st) (f la) (reL f L) := by
  have mem : ∀ {m}, m ∈ reL f L ↔ ∃ k ∈ L, reM f k = m := fun {m} => by rw [reL, mem_sortL, List.mem_map]
  have conn : ∀ (st : Nat) (g h : Mv → Nat), st < n → (∀ m ∈ L, h m < n) → (∀ S : List Nat, st ∈ S → (∀ m ∈ L, g m ∈ S → h m ∈ S) → ∀ x, x < n → x ∈ S) → ∀ S : List Nat, f st ∈ S → (∀ m ∈ L, f (g m) ∈ S → f (h m) ∈ S) → ∀ x, x < n → x ∈ S := by
    intro st g h hst hh c S hS k x hx
    obtain ⟨y, hy, rfl⟩ := b.sur x hx
    have := c ((List.range n).filter fun z => decide (f z ∈ S)) (List.mem_filter.mpr ⟨List.mem_range.mpr hst, decide_eq_true hS⟩) (fun m hm hf => by
      have := of_decide_eq_true (List.mem_filter.mp hf).2
      exact List.mem_filter.mpr ⟨List.mem_range.mpr (hh m hm), decide_eq_true (k m hm this)⟩) y hy
    exact of_decide_eq_true (List.mem_filter.mp this).2
  refine ⟨o.n1, o.n2, b.lt _ o.hst, b.lt _ o.hla, fun m hm => ?_, sortL_up (re_nodup o b), fun m hm k hk h1 h2 => ?_, fun m hm k hk h1 h2 => ?_, by rw [reL, sortL_len, List.length_map]; exact o.few, fun S hS h => ?_, fun S hS h => ?_⟩
  · obtain ⟨k, hk, rfl⟩ := mem.mp hm
    exact ⟨b.lt _ (o.ok k hk).1, b.lt _ (o.ok k hk).2.1, (o.ok k hk).2.2⟩
  · obtain ⟨x, hx, rfl⟩ := mem.mp hm
    obtain ⟨y, hy, rfl⟩ := mem.mp hk
    rw [o.e0 x hx y hy (b.inj _ _ (o.ok x hx).1 (o.ok y hy).1 h1) h2]
  · obtain ⟨x, hx, rfl⟩ := mem.mp hm
    obtain ⟨y, hy, rfl⟩ := mem.mp hk
    rw [o.e2 x hx y hy (b.inj _ _ (o.ok x hx).2.1 (o.ok y hy).2.1 h1) h2]
  · exact conn st Mv.s Mv.t o.hst (fun m hm => (o.ok m hm).2.1) o.fw S hS fun m hm => h (reM f m) (mem.mpr ⟨m, hm, rfl⟩)
  · exact conn la Mv.t Mv.s o.hla (fun m hm => (o.ok m hm).1) o.bw S hS fun m hm => h (reM f m) (mem.mpr ⟨m, hm, rfl⟩)
/-- the number of a state -/
def numL (n st : Nat) (L : List Mv) (cs : List Nat) (x : Nat) : Nat := (ordL n st L cs).idxOf x
theorem num_bij {n st la : Nat} {L : List Mv} {cs : List Nat} (o : OkL n st la L) (hc : ∀ m ∈ L, m.c ∈ cs) : Bij n (numL n st L cs) := by
  obtain ⟨nd, mem⟩ := ord_len o hc
  have len : (ordL n st L cs).length = n := by
    refine Nat.le_antisymm (nodup_len nd fun x hx => (mem x).mp hx) ?_
    have : (List.range n).length ≤ (ordL n st L cs).length := by
      have p : (List.range n).Perm (ordL n st L cs) := (List.perm_ext_iff_of_nodup List.nodup_range nd).mpr fun x => by rw [List.mem_range, mem]
      exact Nat.le_of_eq p.length_eq
    rw [List.length_range] at this
    exact this
  refine ⟨fun x hx => ?_, fun x y hx hy e => ?_, fun y hy => ?_⟩
  · have := List.idxOf_lt_length_iff.mpr ((mem x).mpr hx)
    rw [len] at this
    exact this
  · have h1 := List.getElem_idxOf (List.idxOf_lt_length_iff.mpr ((mem x).mpr hx))
    have h2 := List.getElem_idxOf (List.idxOf_lt_length_iff.mpr ((mem y).mpr hy))
    rw [← h1, ← h2]
    congr 1
  · have yl : y < (ordL n st L cs).length := by omega
    refine ⟨(ordL n st L cs)[y], (mem _).mp (List.getElem_mem _), ?_⟩
    unfold numL
    exact List.Nodup.idxOf_getElem nd y yl
/-- the numbered machine's moves -/
def nmbL (n st : Nat) (L : List Mv) (cs : List Nat) : List Mv := reL (numL n st L cs) L
/-! the same of a machine whose states are renamed -/
theorem step_re {n st la : Nat} {L K : List Mv} {f : Nat → Nat} (o : OkL n st la L) (ok : OkL n (f st) (f la) K) (b : Bij n f) (h : ∀ m, m ∈ K ↔ ∃ k ∈ L, reM f k = m) {s c : Nat} (hs : s < n) : stepL K (f s) c = (stepL L s c).map f := by
  refine opt_ext fun t => ?_
  rw [stepL_iff ok, Option.map_eq_some_iff, h]
  refine ⟨fun ⟨k, hk, e⟩ => ?_, fun ⟨u, hu, e⟩ => ?_⟩
  · injection e with e1 e2 e3
    refine ⟨k.t, (stepL_iff o).mpr ?_, e3⟩
    rw [← b.inj _ _ (o.ok k hk).1 hs e1, ← e2]
    exact hk
  · refine ⟨_, (stepL_iff o).mp hu, ?_⟩
    rw [← e]
    rfl
theorem metC_re {n st la : Nat} {L K : List Mv} {f : Nat → Nat} (o : OkL n st la L) (ok : OkL n (f st) (f la) K) (b : Bij n f) (h : ∀ m, m ∈ K ↔ ∃ k ∈ L, reM f k = m) {s c : Nat} (hs : s < n) {ord : List Nat} (m : MetOk n st ord) : metC K (f s) (ord.map f) c = (metC L s ord c).map f := by
  unfold metC
  rw [step_re o ok b h hs]
  cases e : stepL L s c with
  | none => rfl
  | some t =>
    have ht := (o.ok _ ((stepL_iff o).mp e)).2.1
    show (if f t ∈ ord.map f then ord.map f else ord.map f ++ [f t]) = (if t ∈ ord then ord else ord ++ [t]).map f
    by_cases q : t ∈ ord
    · rw [if_pos q, if_pos (List.mem_map.mpr ⟨t, q, rfl⟩)]
    · have q2 : ¬ f t ∈ ord.map f := fun z => by
        obtain ⟨u, hu, e⟩ := List.mem_map.mp z
        rw [b.inj _ _ (m.lt u hu) ht e] at hu
        exact q hu
      rw [if_neg q, if_neg q2, List.map_append]
      rfl
theorem visit_re {n st la : Nat} {L K : List Mv} {f : Nat → Nat} (o : OkL n st la L) (ok : OkL n (f st) (f la) K) (b : Bij n f) (h : ∀ m, m ∈ K ↔ ∃ k ∈ L, reM f k = m) {s : Nat} (hs : s < n) : ∀ {cs ord : List Nat}, MetOk n st ord → visitL K cs (f s) (ord.map f) = (visitL L cs s ord).map f
  | [], _, _ => rfl
  | c :: cs, ord, m => by
    show visitL K cs (f s) (metC K (f s) (ord.map f) c) = (visitL L cs s (metC L s ord c)).map f
    rw [metC_re o ok b h hs m, visit_re o ok b h hs (metC_ok o m)]
theorem met_re {n st la : Nat} {L K : List Mv} {f : Nat → Nat} (o : OkL n st la L) (ok : OkL n (f st) (f la) K) (b : Bij n f) (h : ∀ m, m ∈ K ↔ ∃ k ∈ L, reM f k = m) (cs : List Nat) : ∀ p, metL K cs (f st) p = (metL L cs st p).map f
  | 0 => rfl
  | p + 1 => by
    rw [metL, metL, met_re o ok b h cs p, List.getElem?_map]
    cases e : (metL L cs st p)[p]? with
    | none => rfl
    | some s =>
      have m := met_ok o cs p
      exact visit_re o ok b h (m.lt s (List.mem_of_getElem? e)) m
theorem idx_map {n : Nat} {f : Nat → Nat} (b : Bij n f) : ∀ {l : List Nat} {x : Nat}, (∀ y ∈ l, y < n) → x < n → (l.map f).idxOf (f x) = l.idxOf x
  | [], _, _, _ => rfl
  | y :: l, x, h, hx => by
    rw [List.map_cons, List.idxOf_cons, List.idxOf_cons, idx_map b (fun z hz => h z (.tail _ hz)) hx]
    have : (f y == f x) = (y == x) := by
      rw [Bool.eq_iff_iff, beq_iff_eq, beq_iff_eq]
      exact ⟨b.inj _ _ (h y List.mem_cons_self) hx, fun e => by rw [e]⟩
    rw [this]
/-- machines whose states stand for each other have the same numbers -/
theorem nmb_re {n st la : Nat} {L K : List Mv} {f : Nat → Nat} (o : OkL n st la L) (ok : OkL n (f st) (f la) K) (b : Bij n f) (h : ∀ m, m ∈ K ↔ ∃ k ∈ L, reM f k = m) {cs : List Nat} (hc : ∀ m ∈ L, m.c ∈ cs) :
    nmbL n (f st) K cs = nmbL n st L cs ∧ ∀ x, x < n → numL n (f st) K cs (f x) = numL n st L cs x := by
  have num : ∀ x, x < n → numL n (f st) K cs (f x) = numL n st L cs x := fun x hx => by
    unfold numL ordL
    rw [met_re o ok b h cs n]
    exact idx_map b (met_ok o cs n).lt hx
  refine ⟨?_, num⟩
  have hk : ∀ m ∈ K, m.c ∈ cs := fun m hm => by
    obtain ⟨k, hk, rfl⟩ := (h m).mp hm
    exact hc k hk
  refine sortL_eq (re_nodup ok (num_bij ok hk)) (re_nodup o (num_bij o hc)) fun m => ?_
  rw [List.mem_map, List.mem_map]
  have two : ∀ k ∈ L, reM (numL n (f st) K cs) (reM f k) = reM (numL n st L cs) k := fun k hk => by
    show (⟨numL n (f st) K cs (f k.s), k.c, numL n (f st) K cs (f k.t)⟩ : Mv) = ⟨_, _, _⟩
    rw [num _ (o.ok k hk).1, num _ (o.ok k hk).2.1]
  refine ⟨fun ⟨x, hx, e⟩ => ?_, fun ⟨k, hk, e⟩ => ?_⟩
  · obtain ⟨k, hk, rfl⟩ := (h x).mp hx
    exact ⟨k, hk, by rw [← two k hk]; exact e⟩
  · exact ⟨reM f k, (h _).mpr ⟨k, hk, rfl⟩, by rw [two k hk]; exact e⟩
/-! two machines side by side, either way -/
def swapF (n1 n2 x : Nat) : Nat := (x % n2) * n1 + x / n2
theorem swap_pair {n1 n2 i j : Nat} (hj : j < n2) : swapF n1 n2 (i * n2 + j) = j * n1 + i := by
  have n0 : 0 < n2 := by omega
  unfold swapF
  rw [Nat.mul_comm i n2, Nat.mul_add_mod, Nat.mod_eq_of_lt hj, Nat.mul_add_div n0, Nat.div_eq_of_lt hj, Nat.add_zero]
theorem swap_bij (n1 n2 : Nat) : Bij (n1 * n2) (swapF n1 n2) := by
  refine ⟨fun x hx => ?_, fun x y hx hy e => ?_, fun y hy => ?_⟩
  · obtain ⟨i, j, hi, hj, rfl⟩ := pair_of hx
    rw [swap_pair hj, Nat.mul_comm n1 n2]
    exact pair_lt hj hi
  · obtain ⟨i, j, hi, hj, rfl⟩ := pair_of hx
    obtain ⟨i', j', hi', hj', rfl⟩ := pair_of hy
    rw [swap_pair hj, swap_pair hj'] at e
    obtain ⟨e1, e2⟩ := pair_inj hi hi' e
    rw [e1, e2]
  · rw [Nat.mul_comm] at hy
    obtain ⟨j, i, hj, hi, rfl⟩ := pair_of hy
    exact ⟨i * n2 + j, pair_lt hi hj, swap_pair hj⟩
theorem swap_prod {n1 st1 la1 n2 st2 la2 : Nat} {A B : List Mv} (oA : OkL n1 st1 la1 A) (oB : OkL n2 st2 la2 B) (m : Mv) : m ∈ prodL n2 B n1 A ↔ ∃ k ∈ prodL n1 A n2 B, reM (swapF n1 n2) k = m := by
  have qa : ∀ a ∈ A, ∀ j, j < n2 → reM (swapF n1 n2) (mvA n2 j a) = mvB n1 j a := fun a ha j hj => by
    show (⟨swapF n1 n2 (a.s * n2 + j), a.c, swapF n1 n2 (a.t * n2 + j)⟩ : Mv) = ⟨j * n1 + a.s, a.c, j * n1 + a.t⟩
    rw [swap_pair hj, swap_pair hj]
  have qb : ∀ b ∈ B, ∀ i, i < n1 → reM (swapF n1 n2) (mvB n2 i b) = mvA n1 i b := fun b hb i hi => by
    show (⟨swapF n1 n2 (i * n2 + b.s), b.c, swapF n1 n2 (i * n2 + b.t)⟩ : Mv) = ⟨b.s * n1 + i, b.c, b.t * n1 + i⟩
    rw [swap_pair (oB.ok b hb).1, swap_pair (oB.ok b hb).2.1]
  refine ⟨fun h => ?_, fun ⟨k, hk, e⟩ => ?_⟩
  · rcases mem_prodL.mp h with ⟨b, hb, i, hi, rfl⟩ | ⟨a, ha, j, hj, rfl⟩
    · exact ⟨mvB n2 i b, mem_prodL.mpr (.inr ⟨b, hb, i, hi, rfl⟩), qb b hb i hi⟩
    · exact ⟨mvA n2 j a, mem_prodL.mpr (.inl ⟨a, ha, j, hj, rfl⟩), qa a ha j hj⟩
  · rcases mem_prodL.mp hk with ⟨a, ha, j, hj, rfl⟩ | ⟨b, hb, i, hi, rfl⟩
    · rw [← e, qa a ha j hj]
      exact mem_prodL.mpr (.inr ⟨a, ha, j, hj, rfl⟩)
    · rw [← e, qb b hb i hi]
      exact mem_prodL.mpr (.inl ⟨b, hb, i, hi, rfl⟩)
/-- joined the other way round: the same when numbered -/
theorem swap_same {n1 st1 la1 n2 st2 la2 : Nat} {A B : List Mv} (oA : OkL n1 st1 la1 A) (oB : OkL n2 st2 la2 B)
    (oP : OkL (n1 * n2) (st1 * n2 + st2) (la1 * n2 + la2) (prodL n1 A n2 B)) (oQ : OkL (n2 * n1) (st2 * n1 + st1) (la2 * n1 + la1) (prodL n2 B n1 A)) {cs : List Nat} (hc : ∀ m ∈ prodL n1 A n2 B, m.c ∈ cs) :
    nmbL (n2 * n1) (st2 * n1 + st1) (prodL n2 B n1 A) cs = nmbL (n1 * n2) (st1 * n2 + st2) (prodL n1 A n2 B) cs ∧
    numL (n2 * n1) (st2 * n1 + st1) (prodL n2 B n1 A) cs (st2 * n1 + st1) = numL (n1 * n2) (st1 * n2 + st2) (prodL n1 A n2 B) cs (st1 * n2 + st2) ∧
    numL (n2 * n1) (st2 * n1 + st1) (prodL n2 B n1 A) cs (la2 * n1 + la1) = numL (n1 * n2) (st1 * n2 + st2) (prodL n1 A n2 B) cs (la1 * n2 + la2) := by
  have e0 := Nat.mul_comm n2 n1
  have e1 : st2 * n1 + st1 = swapF n1 n2 (st1 * n2 + st2) := (swap_pair oB.hst).symm
  have e2 : la2 * n1 + la1 = swapF n1 n2 (la1 * n2 + la2) := (swap_pair oB.hla).symm
  rw [e0, e1, e2] at oQ ⊢
  obtain ⟨h1, h2⟩ := nmb_re oP oQ (swap_bij n1 n2) (swap_prod oA oB) hc
  exact ⟨h1, h2 _ oP.hst, h2 _ oP.hla⟩
end Vk
set_option Elab.async false
set_option linter.all false
set_option maxRecDepth 100000
set_option maxHeartbeats 4000000
namespace Vk
open PySem PySem.Spec PyProof.Rows L2 Vt
section
variable {X : Cx} {H : Hp} {CX : CXT} {k : Nat} {f C : Addr} {fd : FuncData} {ps : List Str} {sp : Sp} {E : XK}
/-- x & y by the own __and__, both of one class -/
def rAndO (C : Addr) (sp : Sp) (E : XK) : R2 := fun x y H Q => ∃ a b dx fs dy gs, x = .ref a ∧ y = .ref b ∧ H a = some (.ins C dx fs) ∧ H b = some (.ins C dy gs) ∧ sp [.ref a, .ref b] H (fun v H' => ∃ c, v = .ref c ∧ Q (.ref c) H') E
theorem op_andO (F : FnOk X.prog X.w X.K X.mg X.base CX k f fd ps sp) (hr : Room k X.A) (hc : PySem.W.selfFirst X.K C = true) (hs : PySem.W.findIn X.K (.ref C) "__and__" = some (some (.ref f))) (hf : PySem.W.isFn X.K (.ref f) = true) (hb : Binds X.K fd ps []) (hx : Passes CX X E) :
    OpR X (binaryOp .BitAnd) (rAndO C sp E) := by
  intro pins s σ H x y v u Q I rx ry h
  obtain ⟨a, b, dx, fs, dy, gs, rfl, rfl, ha, hb2, hsp⟩ := h
  cases rx
  cases ry
  obtain ⟨m, J, _⟩ := ins_get I.hok ha
  obtain ⟨od, J, _⟩ := J.look
  obtain ⟨m', hF⟩ := I.fr
  refine PySem.W.binop_K (op := .BitAnd) hF I.ok.mod.kin J (ty_ins hb2 pins σ s _ I rfl) hc hs hf (own_run F hb hx hr rfl I (Paired.cons (F := RelV) (a := V.ref a) rfl (.cons (F := RelV) (a := V.ref b) rfl .nil)) hsp fun v s' z => ?_)
  obtain ⟨v', H', I', r', c, e, q⟩ := z
  subst e
  cases r'
  exact ⟨V.ref c, H', I', rfl, q⟩
end
/-- what lets nothing out, told without exceptions -/
theorem FnOk.calm {P : Program} {w : World} {K : PySem.W.Frag} {mg : Str → Option Value} {base : Heap} {k : Nat} {f : Addr} {fd : FuncData} {ps : List Str} {sp : Sp} (F : FnOk P w K mg base (L2.CX P w) k f fd ps sp) :
    FnOk P w K mg base CX0 k f fd ps (fun vs H Q _ => sp vs H Q (fun _ _ _ => False)) := by
  refine ⟨fun vs H Q E h => F.len vs H Q _ h, fun A outer s H args us vs Q E hr e0 hb rv h => ?_⟩
  refine codeAny_mono (F.run A outer s H args us vs Q (fun _ _ _ => False) hr e0 hb rv h) fun z s' hq => ?_
  cases z with
  | error e =>
    obtain ⟨_, _, _, _, _, _, _, _, _, _, _, _, no⟩ := hq
    exact no.elim
  | ok fl => cases fl <;> exact hq
end Vk
set_option Elab.async false
set_option linter.all false
set_option maxRecDepth 100000
set_option maxHeartbeats 4000000
namespace Vk
open PySem PySem.Spec PyProof.Rows L2 Vt
abbrev sMet : Stmt := top8 30
/-- a dict of numbers in the order in which states are met -/
def numD : Nat → List Nat → List (Key × V)
  | _, [] => []
  | k, x :: r => (.inl (x : Int), .int (k : Int)) :: numD (k + 1) r
theorem numD_len : ∀ (k : Nat) (l : List Nat), (numD k l).length = l.length
  | _, [] => rfl
  | k, x :: r => by rw [numD, List.length_cons, numD_len, List.length_cons]
theorem numD_app : ∀ (k : Nat) (l : List Nat) (t : Nat), numD k (l ++ [t]) = numD k l ++ [(.inl (t : Int), .int ((k + l.length : Nat) : Int))]
  | _, [], _ => rfl
  | k, x :: r, t => by
    rw [List.cons_append, numD, numD_app, numD, List.length_cons, List.cons_append, Nat.add_right_comm, Nat.add_assoc]
theorem numD_val : ∀ (k : Nat) (l : List Nat) (x : Nat), valV (numD k l) (Sum.inl (x : Int) : Key) = if x ∈ l then some (.int ((k + l.idxOf x : Nat) : Int)) else none
  | _, [], _ => rfl
  | k, y :: r, x => by
    have ih := numD_val (k + 1) r x
    unfold valV at ih ⊢
    rw [numD, List.find?_cons]
    by_cases e : y = x
    · subst e
      rw [decide_eq_true rfl, if_pos List.mem_cons_self, List.idxOf_cons_self]
      rfl
    · rw [decide_eq_false (show ¬ (Sum.inl (y : Int) : Key) = Sum.inl (x : Int) from fun z => e (by injection z with z; omega))]
      rw [ih, List.idxOf_cons, show (y == x) = false from beq_eq_false_iff_ne.mpr e]
      by_cases m : x ∈ r
      · rw [if_pos m, if_pos (.tail _ m), Bool.cond_false, Nat.add_right_comm, Nat.add_assoc]
      · rw [if_neg m, if_neg (fun z => (List.mem_cons.mp z).elim (fun q => e q.symm) m)]
section
variable {P : Program} {w : World} {K : PySem.W.Frag} {mg : Str → Option Value} {base : Heap}
abbrev mL (ms : List (Addr × Mv)) : List Mv := ms.map (·.2)
theorem MachAt.let {C a : Addr} {H : Hp} {n st la : Nat} {ms : List (Addr × Mv)} (h : MachAt K C H a n st la ms) : ∃ (dx l E F : Addr) (z : Str), H a = some (.ins C dx (mF n st la l z E F)) ∧ MvsAt K H l ms ∧ z.cps.toList = lettersM ms := by
  obtain ⟨dx, l, E, F, z, ha, hM, _⟩ := h.ob
  exact ⟨dx, l, E, F, z, ha, hM, h.lt _ _ _ _ _ ha⟩
theorem lk5 (n st la : Nat) (l : Addr) (z : Str) (E F : Addr) : (mF n st la l z E F).lookup ("letters" : Str) = some (.str z) := by rfl
/-- the numbers of the states -/
def spMet (K : PySem.W.Frag) (C : Addr) : Sp := fun vs H Q _ => ∃ (a : Addr) (n st la : Nat) (ms : List (Addr × Mv)), vs = [.ref a] ∧ MachAt K C H a n st la ms ∧
  ∀ (H' : Hp) (d : Addr), Same H H' → H d = none → H' d = some (.dK (numD 0 (ordL n st (mL ms) (lettersM ms)))) → Q (.ref d) H'
theorem scMt : FnScope ["machine", "numbers", "order", "place", "letter", "target"] ["machine"] (defScope sMet) := ⟨rfl, rfl, rfl, by decide +kernel, rfl, by decide +kernel, by decide +kernel⟩
theorem ok_met {f fA C : Addr} {fd fdA : FuncData} (F : Fun K "met_numbers" "met_numbers" sMet f fd) (T : Txt8 K mg) (M : MCls K C) (mA : Meth K C "after" fA) (FA : Fun K "after" "Machine.after" sAfter fA fdA) (bA : Binds K fdA ["self", "state", "letter"] []) : FnOk P w K mg base CX0 2 f fd ["machine"] (spMet K C) := by
  have GA : FnOk P w K mg base CX0 1 fA fdA ["self", "state", "letter"] (spAfter K C) := ok_after FA M
  refine F.ok scMt (fun vs H Q E h => ?_) (fun cdv A outer s H vs Q E hr h => ?_)
  · obtain ⟨a, n, st, la, ms, rfl, _⟩ := h
    rfl
  · obtain ⟨a, n, st, la, ms, rfl, hA, k⟩ := h
    have hu := hu_of hr
    obtain ⟨dx, l, E1, F1, z, ha, hM, ez⟩ := hA.let
    have o : OkL n st la (mL ms) := hA.ok.onL
    have n2 := o.n2
    obtain ⟨L, eL⟩ : ∃ L, L = mL ms := ⟨_, rfl⟩
    obtain ⟨cs, ecs⟩ : ∃ cs, cs = lettersM ms := ⟨_, rfl⟩
    rw [← eL] at o k
    rw [← ecs] at k ez
    refine ⟨_, (pss_cons (ps_set (i := 1) scMt.nd rfl (.inl rfl) (pe_disp (pps_cons (pe_fld (pv 0) rfl) pe_int pps_nil) (by rfl) (by rfl) (fun z => by cases z) (by decide)))
        (pss_cons (ps_set (i := 2) scMt.nd rfl (.inl rfl) (pe_lst (pa_cons (pe_fld (pv 0) rfl) pa_nil)))
        (pss_cons (ps_set (i := 3) scMt.nd rfl (.inl rfl) pe_int)
        (pss_cons (ps_while PassesOwn.never (pt_cmpR op_lt (pv 3) (pe_callB call_len (by rfl) T.len PySem.boot_len (pa_cons (pv 2) pa_nil)) (nomark _)) (pss_cons (ps_for PassesOwn.never rfl (pi_str (pe_fld (pv 0) rfl)) (pg_name (i := 4) scMt.nd rfl (.inl rfl)) (pss_cons (ps_set (i := 5) scMt.nd rfl (.inl rfl) (pe_meth (pv 0) M.cl mA GA hr bA .nil pass0 (pa_cons (pe_ix ix_list (pv 2) (pv 3) (fun _ _ => rfl)) (pa_cons (pv 4) pa_nil))))
        (pss_one (ps_if (PW.pt (pw_and (pt_cmpR op_notN (pv 5) pe_non (nomark _)) (pw_and1 (pt_cmp (pc_dnotin hu (pv 5) (pv 1)))))) (pss_cons (ps_dput hu (pv 1) (pv 5) (pe_callB call_len (by rfl) T.len PySem.boot_len (pa_cons (pv 2) pa_nil)) rfl)
        (pss_one (ps_expr (pe_bm PySem.F.plainAttrs_list PySem.F.slot_list_append PySem.F.type_list_append mt_append (pv 2) (pa_cons (pv 5) pa_nil))))) pss_nil))))
        (pss_one (ps_aug (i := 3) scMt.nd rfl (.inl rfl) pe_int ip_add))))
        (pss_one (ps_ret (pv 1))))))), ?_⟩
    refine fun N nN => ?_
    have SN := same_up (o := .dK []) nN
    refine ⟨_, rfl, a, C, dx, _, _, rfl, SN _ _ ha, M.cl, M.a2, lk2 .., upd_same, [((Sum.inl (st : Int) : Key), V.int 0)], rfl, by show 1 ≤ 15; decide, ?_⟩
    have mk : mergeK [] [((Sum.inl (st : Int) : Key), V.int 0)] = numD 0 [st] := rfl
    rw [mk, upd_upd]
    have SN2 := same_up (o := .dK (numD 0 [st])) nN
    have ha2 := SN2 _ _ ha
    have hN2 : upd H N (.dK (numD 0 [st])) N = some (.dK (numD 0 [st])) := upd_same
    refine go_name ?_
    dsimp only
    refine go_seq ?_
    refine ⟨_, rfl, a, C, dx, _, _, rfl, ha2, M.cl, M.a2, lk2 .., by show 1 ≤ sizeLine; decide, fun O nO => ?_⟩
    refine go_name ?_
    dsimp only
    refine go_seq ?_
    refine go_name ?_
    dsimp only
    refine go_seq ?_
    have nNO : N ≠ O := ne_of_none hN2 nO
    have nO0 : H O = none := none_back SN2 nO
    have SO := same_up (o := .lst [.int (st : Int)]) nO
    refine while_by (fun σ G => ∃ (p : Nat) (v4 v5 : Option V), σ = [some (.ref a), some (.ref N), some (.ref O), some (.int (p : Int)), v4, v5] ∧ Same H G ∧ G N = some (.dK (numD 0 (metL L cs st p))) ∧ G O = some (.lst ((metL L cs st p).map fun (x : Nat) => V.int (x : Int))))
      (fun σ _ => match σ[3]? with | some (some (V.int p)) => n - p.toNat | _ => 0)
      ⟨0, none, none, rfl, SN2.trans SO, SO _ _ hN2, upd_same⟩ ?_ ?_
    · rintro σ G ⟨p, v4, v5, rfl, SG, hN, hO⟩
      have mo := met_ok o cs p
      have ml := nodup_len mo.nd mo.lt
      refine ⟨_, rfl, _, rfl, _, _, rfl, .inl ⟨_, SqL.of hO, rfl⟩, ?_⟩
      rw [List.length_map]
      refine ⟨_, _, rfl, rfl, _, rfl, ?_⟩
      by_cases pl : p < (metL L cs st p).length
      · rw [decide_eq_true (show (p : Int) < ((metL L cs st p).length : Int) by omega)]
        refine iteT ?_
        obtain ⟨s0, hs0⟩ : ∃ s0, (metL L cs st p)[p]? = some s0 := ⟨_, List.getElem?_eq_getElem pl⟩
        have ms0 : metL L cs st (p + 1) = visitL L cs s0 (metL L cs st p) := by rw [metL, hs0]
        have haG := SG _ _ ha
        refine ⟨_, rfl, a, C, dx, _, _, rfl, haG, M.cl, M.a5, lk5 .., z, rfl, ?_⟩
        refine for_text (x := z) (fun j σ G' => ∃ v4 v5 : Option V, σ = [some (.ref a), some (.ref N), some (.ref O), some (.int (p : Int)), v4, v5] ∧ Same H G' ∧ G' N = some (.dK (numD 0 (visitL L (cs.take j) s0 (metL L cs st p)))) ∧ G' O = some (.lst ((visitL L (cs.take j) s0 (metL L cs st p)).map fun (x : Nat) => V.int (x : Int)))) ⟨v4, v5, rfl, SG, hN, hO⟩ ?_ ?_
        · rintro j c σ G' hj ⟨v4, v5, rfl, SG', hN', hO'⟩
          obtain ⟨ord, eo⟩ : ∃ ord, ord = visitL L (cs.take j) s0 (metL L cs st p) := ⟨_, rfl⟩
          have hc : cs[j]? = some c := by rw [← ez, Array.getElem?_toList]; exact hj
          have stp : visitL L (cs.take (j + 1)) s0 (metL L cs st p) = metC L s0 ord c := by
            rw [List.take_add_one, hc, eo]
            unfold visitL
            rw [List.foldl_append]
            rfl
          rw [stp]
          rw [← eo] at hN' hO'
          have oo : MetOk n st ord := by rw [eo]; exact visit_ok o mo
          have ol := nodup_len oo.nd oo.lt
          have pre : ord[p]? = some s0 := by
            obtain ⟨r, er⟩ := visit_pre L s0 (cs.take j) (metL L cs st p)
            rw [eo, er, List.getElem?_append_left pl]
            exact hs0
          have hA' := hA.same SG'
          obtain ⟨dx', l', E', F', z', ha', _⟩ := hA'.ob
          have hat : atI (ord.map fun (x : Nat) => V.int (x : Int)) (p : Int) = some (.int (s0 : Int)) := atI_nat (by rw [List.getElem?_map, pre] <;> rfl)
          refine ⟨_, rfl, a, dx', _, rfl, ha', no_after .., _, rfl, _, rfl, O, _, _, .int (s0 : Int), rfl, rfl, SqL.of hO', hat, _, rfl, a, n, st, la, s0, c, ms, rfl, hA', fun H2 S2 => ?_⟩
          have hN2' := S2 _ _ hN'
          have hO2' := S2 _ _ hO'
          have sm : stepM ms s0 c = stepL L s0 c := by rw [eL]; exact stepM_L ms s0 c
          rw [sm]
          cases es : stepL L s0 c with
          | none =>
            have mc : metC L s0 ord c = ord := by unfold metC; rw [es]
            refine ⟨_, rfl, rfl, _, rfl, ?_⟩
            refine iteF ?_
            refine iteF ?_
            exact ⟨_, _, rfl, SG'.trans S2, by rw [mc]; exact hN2', by rw [mc]; exact hO2'⟩
          | some t =>
            have tn : t < n := (o.ok _ ((stepL_iff o).mp es)).2.1
            refine ⟨_, rfl, rfl, _, rfl, ?_⟩
            refine iteT ?_
            refine ⟨_, rfl, _, rfl, N, _, rfl, DGet.k (k := Sum.inl (t : Int)) hN2', _, rfl, ?_⟩
            rw [numD_val]
            by_cases tm : t ∈ ord
            · rw [if_pos tm]
              have mc : metC L s0 ord c = ord := by unfold metC; rw [es]; exact if_pos tm
              refine iteF ?_
              exact ⟨_, _, rfl, SG'.trans S2, by rw [mc]; exact hN2', by rw [mc]; exact hO2'⟩
            · rw [if_neg tm]
              have mc : metC L s0 ord c = ord ++ [t] := by unfold metC; rw [es]; exact if_neg tm
              refine iteT ?_
              have pk : putK (numD 0 ord) (Sum.inl (t : Int) : Key) (V.int (ord.length : Int)) = numD 0 (ord ++ [t]) := by
                rw [putK_new _ (by rw [numD_val, if_neg tm]), numD_app, Nat.zero_add]
              have hO3 : (upd H2 N (.dK (numD 0 (ord ++ [t])))) O = some (.lst (ord.map fun (x : Nat) => V.int (x : Int))) := by rw [upd_ne nNO.symm]; exact hO2'
              refine ⟨_, rfl, _, _, rfl, .inl ⟨_, SqL.of hO2', rfl⟩, _, rfl, _, rfl, N, _, rfl, DPut.k (k := Sum.inl (t : Int)) hN2' (by rw [numD_len, sizeLine_eq]; omega), ?_⟩
              rw [List.length_map, pk]
              refine ⟨_, rfl, .inl ⟨rfl, _, SqL.of hO3⟩, _, rfl, O, _, _, rfl, rfl, hO3, by rw [List.length_map, sizeLine_eq]; omega, _, _, rfl, ?_, ?_, ?_⟩
              · intro b u z
                rw [upd_ne (ne_of_none z nO0), upd_ne (ne_of_none z nN)]
                exact (SG'.trans S2) _ _ z
              · rw [upd_ne nNO, mc]
                exact upd_same
              · rw [upd_same, mc, List.map_append] <;> rfl
        · rintro σ G' ⟨v4, v5, rfl, SG', hN', hO'⟩
          have tk : cs.take z.cps.size = cs := List.take_of_length_le (by rw [← ez, Array.length_toList]; exact Nat.le_refl _)
          rw [tk, ← ms0] at hN' hO'
          refine ⟨_, rfl, _, _, rfl, rfl, ⟨p + 1, _, _, rfl, SG', hN', hO'⟩, ?_⟩
          show n - ((p : Int) + 1).toNat < n - (p : Int).toNat
          omega
      · rw [decide_eq_false (show ¬ (p : Int) < ((metL L cs st p).length : Int) by omega)]
        refine iteF ?_
        have e := met_done o cs (p := p) (by omega)
        rw [e] at hN
        exact ⟨_, rfl, k G N SG nN hN⟩
    · exact fun σ H Q Q' hq ⟨v, e1, u, e2, x, n, e3, e4, i, j, e5, e6, c, e7, q⟩ => ⟨v, e1, u, e2, x, n, e3, e4, i, j, e5, e6, c, e7, hq _ _ q⟩
end
end Vk
set_option Elab.async false
set_option linter.all false
set_option maxRecDepth 100000
set_option maxHeartbeats 4000000
namespace Vk
open PySem PySem.Spec PyProof.Rows L2 Vt
abbrev sJoin : Stmt := top8 31
/-- the moves made for the first i of A, and of the next one those for the first j states -/
def preA (n2 : Nat) (A : List Mv) (i : Nat) : List Mv := (A.take i).flatMap fun m => (List.range n2).map fun j => mvA n2 j m
def preB (n1 n2 : Nat) (B : List Mv) (i : Nat) : List Mv := (B.take i).flatMap fun m => (List.range n1).map fun j => mvB n2 j m
section
variable {P : Program} {w : World} {K : PySem.W.Frag} {mg : Str → Option Value} {base : Heap}
/-- the moves of two machines side by side -/
def spJoin (K : PySem.W.Frag) (C : Addr) : Sp := fun vs H Q _ => ∃ (a b : Addr) (n1 st1 la1 n2 st2 la2 : Nat) (ms1 ms2 : List (Addr × Mv)), vs = [.ref a, .ref b] ∧ MachAt K C H a n1 st1 la1 ms1 ∧ MachAt K C H b n2 st2 la2 ms2 ∧ Apart (mL ms1) (mL ms2) ∧ (mL ms1).length * n2 + (mL ms2).length * n1 ≤ 3999 ∧
  ∀ (H' : Hp) (l : Addr) (ms : List (Addr × Mv)), Same H H' → H l = none → MvsAt K H' l ms → mL ms = prodL n1 (mL ms1) n2 (mL ms2) → Q (.ref l) H'
theorem scJn : FnScope ["machine", "other", "moves", "source", "letter", "target", "state"] ["machine", "other"] (defScope sJoin) := ⟨rfl, rfl, rfl, by decide +kernel, rfl, by decide +kernel, by decide +kernel⟩
theorem take_at {α : Type} {l : List α} {i : Nat} {x : α} (h : l[i]? = some x) : l.take (i + 1) = l.take i ++ [x] := by
  rw [List.take_add_one, h]
  rfl
theorem MkL.same {H H' : Hp} {L : Addr} {l : List Mv} (h : MkL H H' L l) : Same H H' := by
  obtain ⟨_, _, S, _⟩ := h
  exact S
theorem cmul_r {i : Int} {n : Nat} (h : n ≤ 999) : CMul i (n : Int) := .inr ⟨by
  have : (2 : Int) ^ 64 = 18446744073709551616 := by decide
  omega, by
  have : (2 : Int) ^ 64 = 18446744073709551616 := by decide
  omega⟩
/-- tuple(sorted(moves)) -/
def rTupL (K : PySem.W.Frag) : List V → Hp → VK → Prop := fun xs H Q => ∃ (p : Addr) (ys : List V), xs = [.ref p] ∧ ((SqL K H p ys ∧ ∀ l, H l = none → Q (.ref l) (upd H l (.tup ys))) ∨ (SqT K H p ys ∧ Q (.ref p) H))
theorem tup_sorted {H H' : Hp} {R : Addr} {raw : List Mv} {Q : VK} (mk : MkL H H' R raw) (nd : raw.Nodup) (few : raw.length ≤ 3999)
    (k : ∀ (H2 : Hp) (l : Addr) (ms : List (Addr × Mv)), Same H' H2 → H' l = none → MvsAt K H2 l ms → mL ms = sortL raw → Q (.ref l) H2) : rSortedLM K [.ref R] H' fun v H1 => rTupL K [v] H1 Q := by
  obtain ⟨qs, eq, S, hR, rows⟩ := mk
  have lq : qs.length = raw.length := by rw [← eq, List.length_map]
  refine ⟨R, qs.map Vk.kp, rfl, by rw [List.map_map]; exact SqL.of hR, fun p hp => ?_, kp_alike qs, fun p hp => ?_, by rw [List.length_map]; omega, fun ys D2 pm srt nD2 => ?_⟩
  · obtain ⟨p0, h0, rfl⟩ := List.mem_map.mp hp
    exact SqT.of (rows p0 h0)
  · obtain ⟨p0, _, rfl⟩ := List.mem_map.mp hp
    exact fun z => nomatch z
  obtain ⟨ms, ems, eml, from0⟩ := sort_upP pm srt (l := sortL raw) (by rw [eq]; exact (sortL_perm raw).symm) (sortL_up nd)
  have er : (ys.map fun q => V.ref q.1) = ms.map fun p => V.ref p.1 := by rw [← ems, List.map_map] <;> rfl
  rw [er]
  have S2 := same_up (o := .lst (ms.map fun p => V.ref p.1)) nD2
  refine ⟨D2, _, rfl, .inl ⟨SqL.of upd_same, fun l nl => ?_⟩⟩
  have S3 := same_up (o := .tup (ms.map fun p => V.ref p.1)) nl
  refine k _ l ms (S2.trans S3) (none_back S2 nl) ⟨SqT.of upd_same, fun p hp => ?_⟩ eml
  obtain ⟨p0, h0, e1, e2⟩ := from0 p hp
  have y := (S2.trans S3) _ _ (rows p0 h0)
  rw [e1, mvV_of e2] at y
  exact SqT.of y
theorem ok_join {f C : Addr} {fd : FuncData} (F : Fun K "joined_moves" "joined_moves" sJoin f fd) (T : Txt8 K mg) (M : MCls K C) : FnOk P w K mg base CX0 1 f fd ["machine", "other"] (spJoin K C) := by
  refine F.ok scJn (fun vs H Q E h => ?_) (fun cdv A outer s H vs Q E hr h => ?_)
  · obtain ⟨a, b, n1, st1, la1, n2, st2, la2, ms1, ms2, rfl, _⟩ := h
    rfl
  · obtain ⟨a, b, n1, st1, la1, n2, st2, la2, ms1, ms2, rfl, hA, hB, ap, few, k⟩ := h
    have oA : OkL n1 st1 la1 (mL ms1) := hA.ok.onL
    have oB : OkL n2 st2 la2 (mL ms2) := hB.ok.onL
    have b1 := oA.n2
    have b2 := oB.n2
    obtain ⟨dx1, l1, E1, F1, z1, ha, hM1, _⟩ := hA.let
    obtain ⟨dx2, l2, E2, F2, z2, hb, hM2, _⟩ := hB.let
    refine ⟨_, (pss_cons (ps_set (i := 2) scJn.nd rfl (.inl rfl) (pe_lst pa_nil))
        (pss_cons (ps_for PassesOwn.never rfl (pi_tup (pe_fld (pv 0) rfl)) (pg_tup rfl (pgs_cons (pg_name (i := 3) scJn.nd rfl (.inl rfl)) (pgs_cons (pg_name (i := 4) scJn.nd rfl (.inl rfl)) (pgs_cons (pg_name (i := 5) scJn.nd rfl (.inl rfl)) pgs_nil)))) (pss_one (ps_for PassesOwn.never rfl (pi_range1 (by rfl) T.rng (pa_cons (pe_fld (pv 1) rfl) pa_nil)) (pg_name (i := 6) scJn.nd rfl (.inl rfl)) (pss_one (ps_expr (pe_bm PySem.F.plainAttrs_list PySem.F.slot_list_append PySem.F.type_list_append mt_append (pv 2) (pa_cons (pe_tup (pa_cons (pe_op op_add (pe_op op_mul (pv 3) (pe_fld (pv 1) rfl)) (pv 6)) (pa_cons (pv 4) (pa_cons (pe_op op_add (pe_op op_mul (pv 5) (pe_fld (pv 1) rfl)) (pv 6)) pa_nil)))) pa_nil)))))))
        (pss_cons (ps_for PassesOwn.never rfl (pi_tup (pe_fld (pv 1) rfl)) (pg_tup rfl (pgs_cons (pg_name (i := 3) scJn.nd rfl (.inl rfl)) (pgs_cons (pg_name (i := 4) scJn.nd rfl (.inl rfl)) (pgs_cons (pg_name (i := 5) scJn.nd rfl (.inl rfl)) pgs_nil)))) (pss_one (ps_for PassesOwn.never rfl (pi_range1 (by rfl) T.rng (pa_cons (pe_fld (pv 0) rfl) pa_nil)) (pg_name (i := 6) scJn.nd rfl (.inl rfl)) (pss_one (ps_expr (pe_bm PySem.F.plainAttrs_list PySem.F.slot_list_append PySem.F.type_list_append mt_append (pv 2) (pa_cons (pe_tup (pa_cons (pe_op op_add (pe_op op_mul (pv 6) (pe_fld (pv 1) rfl)) (pv 3)) (pa_cons (pv 4) (pa_cons (pe_op op_add (pe_op op_mul (pv 6) (pe_fld (pv 1) rfl)) (pv 5)) pa_nil)))) pa_nil)))))))
        (pss_one (ps_ret (pe_callTy call_tuple_of (by rfl) T.tup (by decide +kernel) (pa_cons (pe_callB (cr_sortedL hr.units) (by rfl) T.srt (by decide +kernel) (pa_cons (pv 2) pa_nil)) pa_nil))))))), ?_⟩
    refine ⟨Nat.zero_le _, fun R nR => ?_⟩
    refine go_name ?_
    dsimp only
    refine go_seq ?_
    have SR := same_up (o := .lst []) nR
    have mk0 : MkL H (upd H R (.lst [])) R [] := ⟨[], rfl, SR, upd_same, fun p hp => nomatch hp⟩
    have lenA : ∀ i, (preA n2 (mL ms1) i).length ≤ (mL ms1).length * n2 := fun i => by
      unfold preA
      rw [flat_len (k := n2) fun a _ => by rw [List.length_map, List.length_range], List.length_take]
      exact Nat.mul_le_mul_right _ (Nat.min_le_right _ _)
    have lenB : ∀ i, (preB n1 n2 (mL ms2) i).length ≤ (mL ms2).length * n1 := fun i => by
      unfold preB
      rw [flat_len (k := n1) fun a _ => by rw [List.length_map, List.length_range], List.length_take]
      exact Nat.mul_le_mul_right _ (Nat.min_le_right _ _)
    have ha1 := SR _ _ ha
    refine ⟨_, rfl, a, C, dx1, _, _, rfl, ha1, M.cl, M.a4, lk4 .., l1, rfl, ⟨_, same_seqT SR hM1.tp⟩, ?_⟩
    refine for_tup (K := K) (a := l1) (xs := ms1.map fun p => V.ref p.1) (fun i σ H' => ∃ (v3 v4 v5 v6 : Option V), σ = [some (.ref a), some (.ref b), some (.ref R), v3, v4, v5, v6] ∧ MkL H H' R (preA n2 (mL ms1) i)) ⟨none, none, none, none, rfl, mk0⟩ (fun i σ H' _ ⟨_, _, _, _, _, _, _, S, _⟩ => same_seqT S hM1.tp) ?_ ?_
    · rintro i y σ H' hi ⟨v3, v4, v5, v6, rfl, qs, eq, S, hR, rows⟩
      rw [List.getElem?_map] at hi
      obtain ⟨p, hp, rfl⟩ := Option.map_eq_some_iff.mp hi
      have pm := List.mem_of_getElem? hp
      have hpL : (mL ms1)[i]? = some p.2 := by rw [List.getElem?_map, hp] <;> rfl
      have okp := oA.ok p.2 (List.mem_map.mpr ⟨p, pm, rfl⟩)
      refine ⟨p.1, _, rfl, same_seqT S (hM1.it p pm), rfl, ?_⟩
      refine ⟨_, _, rfl, _, _, rfl, _, _, rfl, rfl, ?_⟩
      refine ⟨_, rfl, b, C, dx2, _, _, rfl, S _ _ hb, M.cl, M.a1, lk1 .., (n2 : Int), rfl, by omega, by omega, ?_⟩
      rw [Int.toNat_natCast]
      refine for_range (lo := 0) (n := n2) (fun j σ H' => ∃ (v6 : Option V), σ = [some (.ref a), some (.ref b), some (.ref R), some (.int (p.2.s : Int)), some (.str (sg p.2.c)), some (.int (p.2.t : Int)), v6] ∧ MkL H H' R (preA n2 (mL ms1) i ++ (List.range j).map fun j => mvA n2 j p.2)) ⟨_, rfl, qs, by rw [List.range_zero, List.map_nil, List.append_nil]; exact eq, S, hR, rows⟩ ?_ ?_
      · rintro j σ H2 hj ⟨v6, rfl, qs, eq, S, hR, rows⟩
        refine ⟨_, rfl, .inl ⟨rfl, _, SqL.of hR⟩, ?_⟩
        refine ⟨_, rfl, _, rfl, b, C, dx2, _, _, rfl, S _ _ hb, M.cl, M.a1, lk1 .., _, _, rfl, rfl, cmul_r b2, _, rfl, _, _, rfl, rfl, _, rfl, _, rfl, _, rfl, b, C, dx2, _, _, rfl, S _ _ hb, M.cl, M.a1, lk1 .., _, _, rfl, rfl, cmul_r b2, _, rfl, _, _, rfl, rfl, by show 3 ≤ sizeLine; decide, fun q nq => ?_⟩
        have etup : ([.int ((p.2.s : Int) * (n2 : Int) + (0 + (j : Nat))), .str (sg p.2.c), .int ((p.2.t : Int) * (n2 : Int) + (0 + (j : Nat)))] : List V) = mvV (mvA n2 j p.2) := by
          have e1 : ∀ x : Nat, (x : Int) * (n2 : Int) + (0 + ((j : Nat) : Int)) = ((x * n2 + j : Nat) : Int) := fun x => by
            rw [Int.natCast_add, Int.natCast_mul]
            omega
          rw [e1, e1]
          rfl
        erw [etup]
        have nRq : R ≠ q := ne_of_none hR nq
        have lq : qs.length < 3999 := by
          have h1 := congrArg List.length eq
          rw [List.length_map, List.length_append, List.length_map, List.length_range] at h1
          have h2 := lenA (i + 1)
          rw [show preA n2 (mL ms1) (i + 1) = preA n2 (mL ms1) i ++ (List.range n2).map fun j => mvA n2 j p.2 by
            unfold preA
            rw [take_at hpL, List.flatMap_append, List.flatMap_cons, List.flatMap_nil, List.append_nil], List.length_append, List.length_map, List.length_range] at h2
          omega
        refine ⟨R, _, _, rfl, rfl, by rw [upd_ne nRq]; exact hR, by rw [List.length_map, sizeLine_eq]; omega, _, rfl, ?_⟩
        have mk := mkL_add (m := mvA n2 j p.2) eq S hR rows nR nq
        rw [List.range_succ, List.map_append, ← List.append_assoc]
        exact mk
      · rintro σ H2 ⟨v6, rfl, mk⟩
        refine ⟨_, _, _, _, rfl, ?_⟩
        have e : preA n2 (mL ms1) (i + 1) = preA n2 (mL ms1) i ++ (List.range n2).map fun j => mvA n2 j p.2 := by
          unfold preA
          rw [take_at hpL, List.flatMap_append, List.flatMap_cons, List.flatMap_nil, List.append_nil]
        rw [e]
        exact mk
    · rintro σ H2 ⟨v3, v4, v5, v6, rfl, mk⟩
      rw [List.length_map] at mk
      have eA : preA n2 (mL ms1) ms1.length = (mL ms1).flatMap fun m => (List.range n2).map fun j => mvA n2 j m := by
        unfold preA
        rw [List.take_of_length_le (by rw [List.length_map]; exact Nat.le_refl _)]
      rw [eA] at mk
      obtain ⟨PA, ePA⟩ : ∃ PA, PA = (mL ms1).flatMap fun m => (List.range n2).map fun j => mvA n2 j m := ⟨_, rfl⟩
      rw [← ePA] at mk
      have lPA : PA.length = (mL ms1).length * n2 := by
        rw [ePA, flat_len (k := n2) fun a _ => by rw [List.length_map, List.length_range]]
      dsimp only
      refine go_seq ?_
      have S2 : Same H H2 := mk.same
      refine ⟨_, rfl, b, C, dx2, _, _, rfl, S2 _ _ hb, M.cl, M.a4, lk4 .., l2, rfl, ⟨_, same_seqT S2 hM2.tp⟩, ?_⟩
      refine for_tup (K := K) (a := l2) (xs := ms2.map fun p => V.ref p.1) (fun i σ H' => ∃ (v3 v4 v5 v6 : Option V), σ = [some (.ref a), some (.ref b), some (.ref R), v3, v4, v5, v6] ∧ MkL H H' R (PA ++ preB n1 n2 (mL ms2) i)) ⟨v3, v4, v5, v6, rfl, by rw [show preB n1 n2 (mL ms2) 0 = [] from rfl, List.append_nil]; exact mk⟩ (fun i σ H' _ ⟨_, _, _, _, _, _, _, S, _⟩ => same_seqT S hM2.tp) ?_ ?_
      · rintro i y σ H' hi ⟨v3, v4, v5, v6, rfl, qs, eq, S, hR, rows⟩
        rw [List.getElem?_map] at hi
        obtain ⟨p, hp, rfl⟩ := Option.map_eq_some_iff.mp hi
        have pm := List.mem_of_getElem? hp
        have hpL : (mL ms2)[i]? = some p.2 := by rw [List.getElem?_map, hp] <;> rfl
        have e : preB n1 n2 (mL ms2) (i + 1) = preB n1 n2 (mL ms2) i ++ (List.range n1).map fun j => mvB n2 j p.2 := by
          unfold preB
          rw [take_at hpL, List.flatMap_append, List.flatMap_cons, List.flatMap_nil, List.append_nil]
        refine ⟨p.1, _, rfl, same_seqT S (hM2.it p pm), rfl, ?_⟩
        refine ⟨_, _, rfl, _, _, rfl, _, _, rfl, rfl, ?_⟩
        refine ⟨_, rfl, a, C, dx1, _, _, rfl, S _ _ ha, M.cl, M.a1, lk1 .., (n1 : Int), rfl, by omega, by omega, ?_⟩
        rw [Int.toNat_natCast]
        refine for_range (lo := 0) (n := n1) (fun j σ H' => ∃ (v6 : Option V), σ = [some (.ref a), some (.ref b), some (.ref R), some (.int (p.2.s : Int)), some (.str (sg p.2.c)), some (.int (p.2.t : Int)), v6] ∧ MkL H H' R (PA ++ preB n1 n2 (mL ms2) i ++ (List.range j).map fun j => mvB n2 j p.2)) ⟨_, rfl, qs, by rw [List.range_zero, List.map_nil, List.append_nil]; exact eq, S, hR, rows⟩ ?_ ?_
        · rintro j σ H2 hj ⟨v6, rfl, qs, eq, S, hR, rows⟩
          refine ⟨_, rfl, .inl ⟨rfl, _, SqL.of hR⟩, ?_⟩
          refine ⟨_, rfl, _, rfl, b, C, dx2, _, _, rfl, S _ _ hb, M.cl, M.a1, lk1 .., _, _, rfl, rfl, cmul_r b2, _, rfl, _, _, rfl, rfl, _, rfl, _, rfl, _, rfl, b, C, dx2, _, _, rfl, S _ _ hb, M.cl, M.a1, lk1 .., _, _, rfl, rfl, cmul_r b2, _, rfl, _, _, rfl, rfl, by show 3 ≤ sizeLine; decide, fun q nq => ?_⟩
          have etup : ([.int ((0 + (j : Nat)) * (n2 : Int) + (p.2.s : Int)), .str (sg p.2.c), .int ((0 + (j : Nat)) * (n2 : Int) + (p.2.t : Int))] : List V) = mvV (mvB n2 j p.2) := by
            have e1 : ∀ x : Nat, (0 + ((j : Nat) : Int)) * (n2 : Int) + (x : Int) = ((j * n2 + x : Nat) : Int) := fun x => by
              rw [Int.natCast_add, Int.natCast_mul, Int.zero_add]
            rw [e1, e1]
            rfl
          erw [etup]
          have nRq : R ≠ q := ne_of_none hR nq
          have lq : qs.length < 3999 := by
            have h1 := congrArg List.length eq
            rw [List.length_map, List.length_append, List.length_append, List.length_map, List.length_range] at h1
            have h2 := lenB (i + 1)
            rw [e, List.length_append, List.length_map, List.length_range] at h2
            omega
          refine ⟨R, _, _, rfl, rfl, by rw [upd_ne nRq]; exact hR, by rw [List.length_map, sizeLine_eq]; omega, _, rfl, ?_⟩
          have mk := mkL_add (m := mvB n2 j p.2) eq S hR rows nR nq
          rw [List.range_succ, List.map_append, ← List.append_assoc]
          exact mk
        · rintro σ H2 ⟨v6, rfl, mk⟩
          refine ⟨_, _, _, _, rfl, ?_⟩
          rw [e, ← List.append_assoc]
          exact mk
      · rintro σ H3 ⟨v3, v4, v5, v6, rfl, mk⟩
        rw [List.length_map] at mk
        have eB : PA ++ preB n1 n2 (mL ms2) ms2.length = rawP n1 (mL ms1) n2 (mL ms2) := by
          unfold preB rawP
          rw [List.take_of_length_le (by rw [List.length_map]; exact Nat.le_refl _), ePA]
        rw [eB] at mk
        have S3 : Same H H3 := mk.same
        refine ⟨_, rfl, tup_sorted mk (raw_nodup oA oB ap) (by rw [raw_len]; exact few) fun H4 l ms S4 nl hM e => ?_⟩
        exact k H4 l ms (S3.trans S4) (none_back S3 nl) hM e
end
end Vk
set_option Elab.async false
set_option linter.all false
set_option maxRecDepth 100000
set_option maxHeartbeats 4000000
namespace Vk
open PySem PySem.Spec PyProof.Rows L2 Vt PySem.Vx
abbrev sAnd : Stmt := inClass (top8 27) 14
section
variable {X : Cx} {CX : CXT} {k : Nat} {f C : Addr} {fd : FuncData} {ps : List Str} {sp : Sp} {E : L2.St → XK} {a b : Expr} {ta tb : TE} {pos : Pos}
def tAndS (C : Addr) (sp : Sp) (E : L2.St → XK) (ta tb : TE) : TE := fun σ H Q => ta σ H fun x H1 => tb σ H1 fun y H2 => rAndO C sp (E σ) x y H2 Q
/-- x & y by the own __and__ that may raise, within a try -/
theorem pe_andS (F : FnOk X.prog X.w X.K X.mg X.base CX k f fd ps sp) (hr : Room k X.A) (hc : PySem.W.selfFirst X.K C = true) (hs : PySem.W.findIn X.K (.ref C) "__and__" = some (some (.ref f))) (hf : PySem.W.isFn X.K (.ref f) = true) (hb : Binds X.K fd ps []) (hx : ∀ σ, PassesAt CX X σ (E σ))
    (ha : PE X a ta) (hb' : PE X b tb) : PE X (.BinOp a .BitAnd b pos) (tAndS C sp E ta tb) := by
  refine ⟨fun pins s σ H Q I h => ?_⟩
  refine wpAny_BinOp (binT ha hb' I h fun v u s2 x y H2 I2 rx ry q => ?_)
  obtain ⟨a, b, dx, fs, dy, gs, rfl, rfl, ha, hb2, hsp⟩ := q
  cases rx
  cases ry
  obtain ⟨m, J, _⟩ := ins_get I2.hok ha
  obtain ⟨od, J, _⟩ := J.look
  obtain ⟨m', hF⟩ := I2.fr
  refine PySem.W.binop_K (op := .BitAnd) hF I2.ok.mod.kin J (ty_ins hb2 pins σ s2 _ I2 rfl) hc hs hf (thn (run_fnS F hr hb (hx σ) I2 (Paired.cons (F := RelV) (a := V.ref a) rfl (.cons (F := RelV) (a := V.ref b) rfl .nil)) hsp) fun v s' z => ?_)
  obtain ⟨v', H', I', r', c, e, q⟩ := z
  subst e
  cases r'
  exact ⟨V.ref c, H', I', rfl, q⟩
end
/-- what a def that raises SharedLetter(c) lets out -/
def OutS (C : Addr) (c : Nat) (H : Hp) (E : XK) : Prop := ∀ d H', Same H H' → H d = none → H' d = some (.xd [("letter", .str (sg c))]) → E (.ref C) (some d) H'
theorem asc_take : ∀ {l : List Nat} {i c x : Nat}, l.Pairwise (· < ·) → l[i]? = some c → x ∈ l → x < c → x ∈ l.take i
  | [], _, _, _, _, _, h, _ => nomatch h
  | y :: l, 0, c, x, p, h, m, lt => by
    injection h with h
    subst h
    rcases List.mem_cons.mp m with e | m
    · omega
    · have := (List.pairwise_cons.mp p).1 x m
      omega
  | y :: l, i + 1, c, x, p, h, m, lt => by
    rcases List.mem_cons.mp m with e | m
    · rw [e]
      exact List.mem_cons_self
    · exact .tail _ (asc_take (List.pairwise_cons.mp p).2 h m lt)
/-- the least letter of both -/
def LeastC (A B : List Mv) (c : Nat) : Prop := (∃ a ∈ A, a.c = c) ∧ (∃ b ∈ B, b.c = c) ∧ ∀ a ∈ A, ∀ b ∈ B, a.c = b.c → c ≤ a.c
section
variable {P : Program} {w : World} {K : PySem.W.Frag} {mg : Str → Option Value} {base : Heap}
theorem MvsAt.toIn {H : Hp} {l : Addr} {ms : List (Addr × Mv)} (h : MvsAt K H l ms) : MvsAt K H l ms := h
/-- what the constructor is asked, of a machine -/
theorem make_in {C : Addr} {H : Hp} {n st la : Nat} {l : Addr} {ms : List (Addr × Mv)} {Q : VK} {E : XK} (hM : MvsAt K H l ms) (ok : OkM n st la ms) (k : ∀ (x : Addr) (H' : Hp), Same H H' → H x = none → MachAt K C H' x n st la ms → Q (.ref x) H') :
    ∀ x dx, H x = none → H dx = none → dx ≠ x → spInit K C (.ref x :: ([.int (n : Int), .int (st : Int), .int (la : Int), .ref l] ++ [])) (upd (upd H dx (.own x)) x (.ins C dx [])) (fun v H2 => v = .non ∧ Q (.ref x) H2) E := by
  intro x dx nx nd ne
  have S3 : Same H (upd (upd H dx (.own x)) x (.ins C dx [])) := fun b o z => by
    rw [upd_ne (ne_of_none z nx), upd_ne (ne_of_none z nd)]
    exact z
  refine ⟨n, st, la, x, dx, l, ms, rfl, upd_same, hM.off (off_same S3), ok, fun H' keep M => ⟨rfl, ?_⟩⟩
  exact k x H' (fun b o z => keep b o (S3 _ _ z) (ne_of_none z nx)) nx M
/-- two machines joined -/
def spAnd (K : PySem.W.Frag) (C CS : Addr) : Sp := fun vs H Q E => ∃ (a b : Addr) (n1 st1 la1 n2 st2 la2 : Nat) (ms1 ms2 : List (Addr × Mv)), vs = [.ref a, .ref b] ∧ MachAt K C H a n1 st1 la1 ms1 ∧ MachAt K C H b n2 st2 la2 ms2 ∧ n1 * n2 ≤ 999 ∧ (mL ms1).length * n2 + (mL ms2).length * n1 ≤ 3999 ∧
  (Apart (mL ms1) (mL ms2) → ∀ (H' : Hp) (x : Addr) (ms : List (Addr × Mv)), Same H H' → H x = none → mL ms = prodL n1 (mL ms1) n2 (mL ms2) → MachAt K C H' x (n1 * n2) (st1 * n2 + st2) (la1 * n2 + la2) ms → Q (.ref x) H') ∧
  ∀ c, LeastC (mL ms1) (mL ms2) c → OutS CS c H E
theorem scAn : FnScope ["self", "other", "letter", "first", "last"] ["self", "other"] (defScope sAnd) := ⟨rfl, rfl, rfl, by decide +kernel, rfl, by decide +kernel, by decide +kernel⟩
theorem ok_and {f C fI CS fS fJ : Addr} {fd fdI fdJ : FuncData} (F : Fun K "__and__" "Machine.__and__" sAnd f fd) (T : Txt8 K mg) (M : MCls K C) (IC : C8.InsC K C) (gM : mg "Machine" = some (.ref C)) (MK : Mk K C fI) (bI : Binds K fdI ["self", "size", "first", "last", "moves"] [])
    (FI : FnOk P w K mg base CX0 6 fI fdI ["self", "size", "first", "last", "moves"] (spInit K C)) (TK : EcK K CS) (TU : EcI K CS fS "letter") (gE : mg "SharedLetter" = some (.ref CS))
    (FJ : Fun K "joined_moves" "joined_moves" sJoin fJ fdJ) (gJ : mg "joined_moves" = some (.ref fJ)) (bJ : Binds K fdJ ["machine", "other"] []) : FnOk P w K mg base (L2.CX P w) 8 f fd ["self", "other"] (spAnd K C CS) := by
  have GJ : FnOk P w K mg base CX0 1 fJ fdJ ["machine", "other"] (spJoin K C) := ok_join FJ T M
  refine F.okX scAn (fun vs H Q E h => ?_) (fun cdv A outer s H vs Q E hr h => ?_)
  · obtain ⟨a, b, n1, st1, la1, n2, st2, la2, ms1, ms2, rfl, _⟩ := h
    rfl
  · obtain ⟨a, b, n1, st1, la1, n2, st2, la2, ms1, ms2, rfl, hA, hB, hn, hm, kQ, kE⟩ := h
    have oA : OkL n1 st1 la1 (mL ms1) := hA.ok.onL
    have oB : OkL n2 st2 la2 (mL ms2) := hB.ok.onL
    have b1 := oA.n2
    have b2 := oB.n2
    have c1 : ∀ p ∈ ms1, p.2.c ≤ 122 := fun p hp => (hA.ok.ok p hp).2.2.2
    have c2 : ∀ p ∈ ms2, p.2.c ≤ 122 := fun p hp => (hB.ok.ok p hp).2.2.2
    obtain ⟨dx1, l1, E1, F1, z1, ha, hM1, ez1⟩ := hA.let
    obtain ⟨dx2, l2, E2, F2, z2, hb, hM2, ez2⟩ := hB.let
    have hr1 : Room 1 _ := hr.mono (by decide)
    refine ⟨_, (pss_cons (ps_if (pt_not (pt_val (pe_callB (C8.call_isC IC) (by rfl) T.isi (by decide +kernel) (pa_cons (pv 1) (pa_cons (pe_glob (v := .ref C) (by rfl) gM rfl) pa_nil))))) (pss_one ps_never) pss_nil)
        (pss_cons (ps_for (passes_of rfl) rfl (pi_str (pe_fld (pv 0) rfl)) (pg_name (i := 2) scAn.nd rfl (.inl rfl)) (pss_one (ps_if (pt_cmpR op_in_sign (pv 2) (pe_fld (pv 1) rfl) (by rfl)) (pss_one (ps_raise rfl (takes_of rfl rfl rfl rfl) (pmk_E TK TU gE hr1 (pa_cons (pv 2) pa_nil)))) pss_nil)))
        (pss_cons (ps_set (i := 3) scAn.nd rfl (.inl rfl) (pe_op op_add (pe_op op_mul (pe_fld (pv 0) rfl) (pe_fld (pv 1) rfl)) (pe_fld (pv 1) rfl)))
        (pss_cons (ps_set (i := 4) scAn.nd rfl (.inl rfl) (pe_op op_add (pe_op op_mul (pe_fld (pv 0) rfl) (pe_fld (pv 1) rfl)) (pe_fld (pv 1) rfl)))
        (pss_one (ps_ret (pe_make MK FI hr (by rfl) gM bI .nil pass0 (pa_cons (pe_op op_mul (pe_fld (pv 0) rfl) (pe_fld (pv 1) rfl)) (pa_cons (pv 3) (pa_cons (pv 4) (pa_cons (pe_call GJ hr1 (by rfl) gJ FJ.kp bJ .nil pass0 (pa_cons (pv 0) (pa_cons (pv 1) pa_nil))) pa_nil))))))))))), ?_⟩
    refine ⟨_, rfl, b, dx2, _, rfl, hb, _, rfl, ?_⟩
    refine iteF ?_
    refine ⟨_, rfl, a, C, dx1, _, _, rfl, ha, M.cl, M.a5, lk5 .., z1, rfl, ?_⟩
    refine for_text (x := z1) (fun i σ H' => ∃ v2 : Option V, σ = [some (.ref a), some (.ref b), v2, none, none] ∧ H' = H ∧ ∀ c ∈ (lettersM ms1).take i, c ∉ lettersM ms2) ⟨none, rfl, rfl, fun c h => nomatch h⟩ ?_ ?_
    · rintro i c σ H' hi ⟨v2, rfl, rfl, no⟩
      have hc : (lettersM ms1)[i]? = some c := by rw [← ez1, Array.getElem?_toList]; exact hi
      refine ⟨_, rfl, _, rfl, b, C, dx2, _, _, rfl, hb, M.cl, M.a5, lk5 .., c, z2, rfl, rfl, _, rfl, ?_⟩
      rw [ez2]
      by_cases m : c ∈ lettersM ms2
      · rw [decide_eq_true m]
        refine iteT ?_
        have lc : LeastC (mL ms1) (mL ms2) c := by
          obtain ⟨p, hp, e1⟩ := (mem_lettersM c1).mp (List.mem_of_getElem? hc)
          obtain ⟨q, hq, e2⟩ := (mem_lettersM c2).mp m
          refine ⟨⟨p.2, List.mem_map.mpr ⟨p, hp, rfl⟩, e1⟩, ⟨q.2, List.mem_map.mpr ⟨q, hq, rfl⟩, e2⟩, fun x hx y hy e => ?_⟩
          obtain ⟨p', hp', rfl⟩ := List.mem_map.mp hx
          obtain ⟨q', hq', rfl⟩ := List.mem_map.mp hy
          refine Nat.le_of_not_lt fun lt => ?_
          have i1 : p'.2.c ∈ lettersM ms1 := (mem_lettersM c1).mpr ⟨p', hp', rfl⟩
          have i2 : p'.2.c ∈ lettersM ms2 := (mem_lettersM c2).mpr ⟨q', hq', e.symm⟩
          exact no _ (asc_take (lettersM_asc ms1) hc i1 lt) i2
        refine ⟨_, rfl, _, rfl, fun d hd => ?_⟩
        exact kE c lc d _ (same_up hd) hd upd_same
      · rw [decide_eq_false m]
        refine iteF ?_
        refine ⟨_, rfl, rfl, fun d hd => ?_⟩
        rw [take_at hc] at hd
        rcases List.mem_append.mp hd with z | z
        · exact no d z
        · rw [List.mem_singleton.mp z]
          exact m
    · rintro σ H' ⟨v2, rfl, rfl, no⟩
      have ap : Apart (mL ms1) (mL ms2) := fun x hx y hy e => by
        obtain ⟨p', hp', rfl⟩ := List.mem_map.mp hx
        obtain ⟨q', hq', rfl⟩ := List.mem_map.mp hy
        have i1 : p'.2.c ∈ lettersM ms1 := (mem_lettersM c1).mpr ⟨p', hp', rfl⟩
        have i2 : p'.2.c ∈ lettersM ms2 := (mem_lettersM c2).mpr ⟨q', hq', e.symm⟩
        refine no _ ?_ i2
        rw [List.take_of_length_le (by rw [← ez1, Array.length_toList]; exact Nat.le_refl _)]
        exact i1
      have e1 : ∀ x y : Nat, (x : Int) * (n2 : Int) + (y : Int) = ((x * n2 + y : Nat) : Int) := fun x y => by
        rw [Int.natCast_add, Int.natCast_mul]
      have e2 : (n1 : Int) * (n2 : Int) = ((n1 * n2 : Nat) : Int) := (Int.natCast_mul _ _).symm
      refine ⟨_, rfl, a, C, dx1, _, _, rfl, ha, M.cl, M.a2, lk2 .., _, rfl, b, C, dx2, _, _, rfl, hb, M.cl, M.a1, lk1 .., _, _, rfl, rfl, cmul_r b2, _, rfl, b, C, dx2, _, _, rfl, hb, M.cl, M.a2, lk2 .., _, _, rfl, rfl, ?_⟩
      refine go_name ?_
      dsimp only
      rw [e1]
      refine go_seq ?_
      refine ⟨_, rfl, a, C, dx1, _, _, rfl, ha, M.cl, M.a3, lk3 .., _, rfl, b, C, dx2, _, _, rfl, hb, M.cl, M.a1, lk1 .., _, _, rfl, rfl, cmul_r b2, _, rfl, b, C, dx2, _, _, rfl, hb, M.cl, M.a3, lk3 .., _, _, rfl, rfl, ?_⟩
      refine go_name ?_
      dsimp only
      rw [e1]
      refine ⟨_, rfl, a, C, dx1, _, _, rfl, ha, M.cl, M.a1, lk1 .., _, rfl, b, C, dx2, _, _, rfl, hb, M.cl, M.a1, lk1 .., _, _, rfl, rfl, cmul_r b2, ?_⟩
      dsimp only
      rw [e2]
      refine ⟨_, rfl, _, rfl, _, rfl, _, rfl, a, b, n1, st1, la1, n2, st2, la2, ms1, ms2, rfl, hA, hB, ap, hm, fun H1 l ms S1 nl hM e => ?_⟩
      refine make_in (MvsAt.toIn hM) ((ok_prod oA oB ap hn hm).onM e) fun x H2 S2 nx M2 => ?_
      exact kQ ap H2 x ms (S1.trans S2) (none_back S1 nx) e M2
end
end Vk
set_option Elab.async false
set_option linter.all false
set_option maxRecDepth 100000
set_option maxHeartbeats 4000000
namespace Vk
open PySem PySem.Spec PyProof.Rows L2 Vt PySem.Vx
abbrev sNumbered : Stmt := inClass (top8 27) 12
abbrev sSame : Stmt := inClass (top8 27) 13
section
variable {P : Program} {w : World} {K : PySem.W.Frag} {mg : Str → Option Value} {base : Heap}
theorem inL {ms : List (Addr × Mv)} {p : Addr × Mv} (h : p ∈ ms) : p.2 ∈ mL ms := List.mem_map.mpr ⟨p, h, rfl⟩
theorem let_in {n st la : Nat} {ms : List (Addr × Mv)} (o : OkM n st la ms) : ∀ m ∈ mL ms, m.c ∈ lettersM ms := fun m hm => by
  obtain ⟨p, hp, rfl⟩ := List.mem_map.mp hm
  exact (mem_lettersM fun q hq => (o.ok q hq).2.2.2).mpr ⟨p, hp, rfl⟩
abbrev numM (n st : Nat) (ms : List (Addr × Mv)) (x : Nat) : Nat := numL n st (mL ms) (lettersM ms) x
abbrev nmbM (n st : Nat) (ms : List (Addr × Mv)) : List Mv := nmbL n st (mL ms) (lettersM ms)
theorem sorted_parts {H H' : Hp} {R : Addr} {raw : List Mv} (mk : MkL H H' R raw) (nd : raw.Nodup) (few : raw.length ≤ 3999) : ∃ L : List (Addr × List Key), SqL K H' R (L.map fun p => V.ref p.1) ∧ (∀ p ∈ L, SqT K H' p.1 (p.2.map kV)) ∧ PySem.W.AllAlike (L.map encM) ∧ (∀ p ∈ L, p.2 ≠ []) ∧ L.length ≤ 4000 ∧
    ∀ (ys : List (Addr × List Key)) (p : Addr), ys.Perm L → ys.Pairwise (fun x y => leM x y = true) → H' p = none → ∃ ms : List (Addr × Mv), (ys.map fun q => V.ref q.1) = (ms.map fun q => V.ref q.1) ∧ mL ms = sortL raw ∧
      ∀ l, upd H' p (.lst (ms.map fun q => V.ref q.1)) l = none → Same H' (upd (upd H' p (.lst (ms.map fun q => V.ref q.1))) l (.tup (ms.map fun q => V.ref q.1))) ∧ MvsAt K (upd (upd H' p (.lst (ms.map fun q => V.ref q.1))) l (.tup (ms.map fun q => V.ref q.1))) l ms := by
  obtain ⟨qs, eq, S, hR, rows⟩ := mk
  have lq : qs.length = raw.length := by rw [← eq, List.length_map]
  refine ⟨qs.map Vk.kp, by rw [List.map_map]; exact SqL.of hR, fun p hp => ?_, kp_alike qs, fun p hp => ?_, by rw [List.length_map]; omega, fun ys D2 pm srt nD2 => ?_⟩
  · obtain ⟨p0, h0, rfl⟩ := List.mem_map.mp hp
    exact SqT.of (rows p0 h0)
  · obtain ⟨p0, _, rfl⟩ := List.mem_map.mp hp
    exact fun z => nomatch z
  obtain ⟨ms, ems, eml, from0⟩ := sort_upP pm srt (l := sortL raw) (by rw [eq]; exact (sortL_perm raw).symm) (sortL_up nd)
  have er : (ys.map fun q => V.ref q.1) = ms.map fun p => V.ref p.1 := by rw [← ems, List.map_map] <;> rfl
  have S2 := same_up (o := .lst (ms.map fun p => V.ref p.1)) nD2
  refine ⟨ms, er, eml, fun l nl => ?_⟩
  have S3 := same_up (o := .tup (ms.map fun p => V.ref p.1)) nl
  refine ⟨S2.trans S3, SqT.of upd_same, fun p hp => ?_⟩
  obtain ⟨p0, h0, e1, e2⟩ := from0 p hp
  have y := (S2.trans S3) _ _ (rows p0 h0)
  rw [e1, mvV_of e2] at y
  exact SqT.of y
/-- a machine numbered -/
def spNumbered (K : PySem.W.Frag) (C : Addr) : Sp := fun vs H Q _ => ∃ (a : Addr) (n st la : Nat) (ms : List (Addr × Mv)), vs = [.ref a] ∧ MachAt K C H a n st la ms ∧
  ∀ (H' : Hp) (x : Addr) (ks : List (Addr × Mv)), Same H H' → H x = none → mL ks = nmbM n st ms → MachAt K C H' x n (numM n st ms st) (numM n st ms la) ks → Q (.ref x) H'
theorem scNm : FnScope ["self", "numbers", "moves", "source", "letter", "target"] ["self"] (defScope sNumbered) := ⟨rfl, rfl, rfl, by decide +kernel, rfl, by decide +kernel, by decide +kernel⟩
theorem ok_numbered {f C fI fMt : Addr} {fd fdI fdMt : FuncData} (F : Fun K "numbered" "Machine.numbered" sNumbered f fd) (T : Txt8 K mg) (M : MCls K C) (gM : mg "Machine" = some (.ref C)) (MK : Mk K C fI) (bI : Binds K fdI ["self", "size", "first", "last", "moves"] [])
    (FI : FnOk P w K mg base CX0 6 fI fdI ["self", "size", "first", "last", "moves"] (spInit K C)) (GMt : FnOk P w K mg base CX0 2 fMt fdMt ["machine"] (spMet K C)) (gMt : mg "met_numbers" = some (.ref fMt)) (kMt : PySem.W.keepIn K (.ref fMt) = true) (bMt : Binds K fdMt ["machine"] []) :
    FnOk P w K mg base CX0 8 f fd ["self"] (spNumbered K C) := by
  refine F.ok scNm (fun vs H Q E h => ?_) (fun cdv A outer s H vs Q E hr h => ?_)
  · obtain ⟨a, n, st, la, ms, rfl, _⟩ := h
    rfl
  · obtain ⟨a, n, st, la, ms, rfl, hA, k⟩ := h
    have hu := hu_of hr
    have hr2 : Room 2 _ := hr.mono (by decide)
    have o : OkL n st la (mL ms) := hA.ok.onL
    have n2 := o.n2
    have few := o.few
    rw [List.length_map] at few
    have lin := let_in hA.ok
    have ordm := (ord_len o lin).2
    refine ⟨_, (pss_cons (ps_set (i := 1) scNm.nd rfl (.inr rfl) (pe_call GMt hr2 rfl gMt kMt bMt .nil pass0 (pa_cons (pv 0) pa_nil)))
        (pss_cons (ps_setLc (i := 2) (own := [("source", 3), ("letter", 4), ("target", 5)]) (g := (gTup K 3 (gCons (gName 3) (gCons (gName 4) (gCons (gName 5) gNil))))) (by rfl) scNm.nd rfl rfl (sw_true rfl rfl rfl (by decide +kernel)) (pi_tup (pe_fld (pv 0) rfl)) (blkOk_by (own := [("source", 3), ("letter", 4), ("target", 5)]) (N := ["self", "numbers", "moves", "source", "letter", "target"]) (sc := defScope sNumbered) (by decide +kernel)) (fun _ _ _ _ _ => (pg_tup (by rfl) (pgs_cons (pg_name (i := 3) scNm.nd rfl (.inl rfl)) (pgs_cons (pg_name (i := 4) scNm.nd rfl (.inl rfl)) (pgs_cons (pg_name (i := 5) scNm.nd rfl (.inl rfl)) pgs_nil))))) (fun _ _ _ _ _ => pts_nil) (fun _ _ _ _ _ => (pe_tup (pa_cons (pe_dget hu (pv 1) (pv 3) (fun _ _ => rfl)) (pa_cons (pv 4) (pa_cons (pe_dget hu (pv 1) (pv 5) (fun _ _ => rfl)) pa_nil))))))
        (pss_one (ps_ret (pe_make MK FI hr (by rfl) gM bI .nil pass0 (pa_cons (pe_fld (pv 0) rfl) (pa_cons (pe_dget hu (pv 1) (pe_fld (pv 0) rfl) (fun _ _ => rfl)) (pa_cons (pe_dget hu (pv 1) (pe_fld (pv 0) rfl) (fun _ _ => rfl)) (pa_cons (pe_callTy call_tuple_of (by rfl) T.tup (by decide +kernel) (pa_cons (pe_callB (cr_sortedL hr.units) (by rfl) T.srt (by decide +kernel) (pa_cons (pv 2) pa_nil)) pa_nil)) pa_nil))))))))), ?_⟩
    refine ⟨_, rfl, a, n, st, la, ms, rfl, hA, fun H1 N S1 nN hN => ?_⟩
    refine go_name ?_
    dsimp only
    refine go_seq ?_
    have get : ∀ {H2 : Hp} {x : Nat}, Same H1 H2 → x < n → DGet H2 N (V.int (x : Int)) (some (.int ((numM n st ms x : Nat) : Int))) := fun {H2 x} S hx => by
      have := DGet.k (k := Sum.inl (x : Int)) (S _ _ hN)
      rw [numD_val, if_pos ((ordm x).mpr hx), Nat.zero_add] at this
      exact this
    have hA1 := hA.same S1
    obtain ⟨dx, l, E1, F1, z, ha, hM, ez⟩ := hA1.let
    refine ⟨_, rfl, a, C, dx, _, _, rfl, ha, M.cl, M.a4, lk4 .., l, rfl, ⟨_, hM.tp⟩, fun D nD => ?_⟩
    refine lc_tup (K := K) (a := l) (xs := ms.map fun p => V.ref p.1) (fun i H' => MkL H1 H' D (((mL ms).take i).map (reM (numM n st ms)))) ⟨[], rfl, same_up nD, upd_same, fun p hp => nomatch hp⟩ (fun i H' _ mk => same_seqT mk.same hM.tp) ?_ ?_
    · rintro i y H' hi ⟨qs, eq, S, hD, rows⟩
      rw [List.getElem?_map] at hi
      obtain ⟨p, hp, rfl⟩ := Option.map_eq_some_iff.mp hi
      have pm := List.mem_of_getElem? hp
      have okp := o.ok p.2 (inL pm)
      have hpL : (mL ms)[i]? = some p.2 := by rw [List.getElem?_map, hp] <;> rfl
      refine ⟨p.1, _, rfl, same_seqT S (hM.it p pm), rfl, _, _, rfl, _, _, rfl, _, _, rfl, rfl, rfl, ?_⟩
      refine ⟨_, rfl, _, rfl, N, _, rfl, get S okp.1, _, rfl, _, rfl, _, rfl, N, _, rfl, get S okp.2.1, by show 3 ≤ sizeLine; decide, fun q nq => ?_⟩
      have nDq : D ≠ q := ne_of_none hD nq
      have lq : qs.length < 3999 := by
        have h1 := congrArg List.length eq
        rw [List.length_map, List.length_map, List.length_take] at h1
        have il : i < ms.length := (List.getElem?_eq_some_iff.mp hp).1
        omega
      refine ⟨_, by rw [upd_ne nDq]; exact hD, by rw [List.length_map, sizeLine_eq]; omega, ?_⟩
      rw [take_at hpL, List.map_append]
      exact mkL_add (m := reM (numM n st ms) p.2) eq S hD rows nD nq
    · rintro H2 mk
      rw [List.length_map, List.take_of_length_le (by rw [List.length_map]; exact Nat.le_refl _)] at mk
      refine go_name ?_
      dsimp only
      have S2 := mk.same
      have ha2 := S2 _ _ ha
      refine ⟨_, rfl, a, C, dx, _, _, rfl, ha2, M.cl, M.a1, lk1 .., ?_⟩
      refine ⟨_, rfl, _, rfl, a, C, dx, _, _, rfl, ha2, M.cl, M.a2, lk2 .., N, _, rfl, get S2 o.hst, ?_⟩
      refine ⟨_, rfl, _, rfl, a, C, dx, _, _, rfl, ha2, M.cl, M.a3, lk3 .., N, _, rfl, get S2 o.hla, ?_⟩
      have bij := num_bij o lin
      obtain ⟨L0, g1, g2, g3, g4, g5, g6⟩ := sorted_parts (K := K) mk (re_nodup o bij) (by rw [List.length_map, List.length_map]; exact few)
      refine ⟨_, rfl, D, L0, rfl, g1, g2, g3, g4, g5, fun ys p0 pm srt np => ?_⟩
      obtain ⟨ks, er, e3, g7⟩ := g6 ys p0 pm srt np
      rw [er]
      refine ⟨p0, _, rfl, .inl ⟨SqL.of upd_same, fun l3 nl3 => ?_⟩⟩
      obtain ⟨S3, hM3⟩ := g7 l3 nl3
      refine make_in hM3 ((ok_re o bij).onM e3) fun x H4 S4 nx M4 => ?_
      have S14 := S1.trans (S2.trans S3)
      exact k H4 x ks (S14.trans S4) (none_back S14 nx) e3 M4
/-- == of two of the program's objects -/
def rEqI (C : Addr) (sp : Sp) (E : XK) : R2 := fun x y H Q => ∃ (a b da db : Addr) (fa fb : List (Str × V)), x = .ref a ∧ y = .ref b ∧ H a = some (.ins C da fa) ∧ H b = some (.ins C db fb) ∧ sp [.ref a, .ref b] H (fun v H' => ∃ r, v = .bl r ∧ Q (.bl r) H') E
theorem op_eqI {X : Cx} {CX : CXT} {k : Nat} {f C : Addr} {fd : FuncData} {ps : List Str} {sp : Sp} {E : XK} (F : FnOk X.prog X.w X.K X.mg X.base CX k f fd ps sp) (hr : Room k X.A) (hs : PySem.W.findIn X.K (.ref C) "__eq__" = some (some (.ref f))) (hf : PySem.W.isFn X.K (.ref f) = true) (hb : Binds X.K fd ps []) (hx : Passes CX X E)
    (nf : PySem.W.notFirst X.K C (.ref C) = true) : OpR X (compareOp .Eq) (rEqI C sp E) := by
  intro pins s σ H x y v u Q I rx ry h
  obtain ⟨a, b, da, db, fa, fb, rfl, rfl, ha, hB, q⟩ := h
  exact op_eqO F hr hs hf hb hx pins s σ H (.ref a) (.ref b) v u Q I rx ry ⟨a, da, fa, .ref C, rfl, ha, ty_ins hB, nf, q⟩
theorem no_numbered (n st la : Nat) (l : Addr) (z : Str) (E F : Addr) : (mF n st la l z E F).lookup ("numbered" : Str) = none := by rfl
/-- have two machines the same words -/
def spSame (K : PySem.W.Frag) (C : Addr) : Sp := fun vs H Q _ => ∃ (a b : Addr) (n1 st1 la1 n2 st2 la2 : Nat) (ms1 ms2 : List (Addr × Mv)), vs = [.ref a, .ref b] ∧ MachAt K C H a n1 st1 la1 ms1 ∧ MachAt K C H b n2 st2 la2 ms2 ∧
  ∀ H', Same H H' → Q (.bl (decide (n1 = n2 ∧ numM n1 st1 ms1 st1 = numM n2 st2 ms2 st2 ∧ numM n1 st1 ms1 la1 = numM n2 st2 ms2 la2 ∧ nmbM n1 st1 ms1 = nmbM n2 st2 ms2))) H'
theorem scSa : FnScope ["self", "other"] ["self", "other"] (defScope sSame) := ⟨rfl, rfl, rfl, by decide +kernel, rfl, by decide +kernel, by decide +kernel⟩
theorem ok_same {f C fN fE : Addr} {fd fdN fdE : FuncData} (F : Fun K "is_same" "Machine.is_same" sSame f fd) (M : MCls K C) (GN : FnOk P w K mg base CX0 8 fN fdN ["self"] (spNumbered K C)) (mN : Meth K C "numbered" fN) (bN : Binds K fdN ["self"] [])
    (GE : FnOk P w K mg base CX0 1 fE fdE ["self", "other"] (spEqA K C)) (sE : PySem.W.findIn K (.ref C) "__eq__" = some (some (.ref fE))) (nE : PySem.W.isFn K (.ref fE) = true) (bE : Binds K fdE ["self", "other"] []) (nf : PySem.W.notFirst K C (.ref C) = true) :
    FnOk P w K mg base CX0 9 f fd ["self", "other"] (spSame K C) := by
  refine F.ok scSa (fun vs H Q E h => ?_) (fun cdv A outer s H vs Q E hr h => ?_)
  · obtain ⟨a, b, n1, st1, la1, n2, st2, la2, ms1, ms2, rfl, _⟩ := h
    rfl
  · obtain ⟨a, b, n1, st1, la1, n2, st2, la2, ms1, ms2, rfl, hA, hB, k⟩ := h
    have hr1 : Room 1 _ := hr.mono (by decide)
    refine ⟨_, (pss_one (ps_ret (pe_cmpR (op_eqI GE hr1 sE nE bE pass0 nf) (pe_meth0 (pv 0) M.cl mN GN hr bN .nil pass0) (pe_meth0 (pv 1) M.cl mN GN hr bN .nil pass0) (nomark _)))), ?_⟩
    obtain ⟨dx1, l1, E1, F1, z1, ha, _⟩ := hA.ob
    refine ⟨_, rfl, a, dx1, _, rfl, ha, no_numbered .., a, n1, st1, la1, ms1, rfl, hA, fun H1 x1 ks1 S1 nx1 e1 M1 => ?_⟩
    have hB1 := hB.same S1
    obtain ⟨dx2, l2, E2, F2, z2, hb, _⟩ := hB1.ob
    refine ⟨_, rfl, b, dx2, _, rfl, hb, no_numbered .., b, n2, st2, la2, ms2, rfl, hB1, fun H2 x2 ks2 S2 nx2 e2 M2 => ?_⟩
    have M1' := M1.same S2
    obtain ⟨_, _, _, _, _, hx1, _⟩ := M1'.ob
    obtain ⟨_, _, _, _, _, hx2, _⟩ := M2.ob
    refine ⟨x1, x2, _, _, _, _, rfl, rfl, hx1, hx2, x1, x2, _, _, _, _, _, _, ks1, ks2, rfl, M1', M2, _, rfl, ?_⟩
    rw [show ks1.map (·.2) = nmbM n1 st1 ms1 from e1, show ks2.map (·.2) = nmbM n2 st2 ms2 from e2]
    exact k H2 (S1.trans S2)
end
end Vk
set_option Elab.async false
set_option linter.all false
set_option maxRecDepth 100000
set_option maxHeartbeats 4000000
namespace Vk
open PySem PySem.Spec PyProof.Rows L2 Vt
/-! ## a method called with keywords that its ** parameter takes -/
section
variable {prog : Program} {w : World} {A : Around} {E : Value → Shared → Prop} {D : Addr}
theorem ns_one {s : Shared} {es : List DictEntry} {n : Nat} {k : Str} {v : Value} {Q : Unit → Shared → Prop} (hD : s.heap.get? D = some (PySem.W.dictOf es n)) (hs : ∀ e ∈ es, e.key.isStr k = false) (hr : ∀ e ∈ es, e.refKey = false)
    (h : ∀ h', (∀ b o, b ≠ D → s.heap.get? b = some o → h'.get? b = some o) → h'.objs.size = s.heap.objs.size → h'.get? D = some (PySem.W.dictOf (es ++ [⟨PyData.keyHash w.params k, .str k s.toks, v⟩]) (n + 1)) → Q () { s with heap := h', toks := s.toks + 1 }) :
    wpAny (model prog w) A (nsSet D k v) Q E s := by
  have e1 : es.any (·.key.isStr k) = false := by
    cases q : es.any (·.key.isStr k) with
    | false => rfl
    | true => obtain ⟨e, he, z⟩ := List.any_eq_true.mp q; rw [hs e he] at z; cases z
  have e2 : es.any (·.refKey) = false := by
    cases q : es.any (·.refKey) with
    | false => rfl
    | true => obtain ⟨e, he, z⟩ := List.any_eq_true.mp q; rw [hr e he] at z; cases z
  have e : Obj.putName k (PyData.keyHash w.params k) (.str k s.toks) v (PySem.W.dictOf es n) = PySem.W.dictOf (es ++ [⟨PyData.keyHash w.params k, .str k s.toks, v⟩]) (n + 1) := by
    rw [PySem.W.putName_dict, PySem.W.putL_new hs]
    show PySem.W.dictOf _ (if es.any (·.key.isStr k) then n else n + 1) = _
    rw [e1, if_neg Bool.false_ne_true]
  have c : aRefKeyMayBeTheName k es.toArray = false := by
    rw [aRefKeyMayBeTheName_at, ← Array.any_toList, ← Array.any_toList]
    show (!es.any (·.key.isStr k) && es.any (·.refKey)) = false
    rw [e2, Bool.and_false]
  have fr : (Obj.putName k (PyData.keyHash w.params k) (.str k s.toks) v (PySem.W.dictOf es n)).isFreed = false := by rw [e] <;> rfl
  have hU := Heap.get?_update_self (Obj.putName k (PyData.keyHash w.params k) (.str k s.toks) v) hD fr
  rw [e] at hU
  unfold nsSet
  refine wpAny_bind (wpAny_bind (wpAny_askSetting (wpAny_pure (wpAny_bind (wpAny_mkText (wpAny_bind (wpAny_loadPart hD ?_)))))))
  dsimp only
  rw [c]
  exact wpAny_updatePart hD (h _ (fun b o ne q => (Heap.get?_update_other _ _ (Ne.symm ne)).trans q) (Heap.size_update _ _ _) hU)
theorem ns_fill {Q : PUnit → Shared → Prop} : ∀ (ex : List (Str × Value)) (s : Shared) (es : List DictEntry) (n : Nat), s.heap.get? D = some (PySem.W.dictOf es n) → (∀ e ∈ es, ∀ x ∈ ex, e.key.isStr x.1 = false) → (∀ e ∈ es, e.refKey = false) → (ex.map (·.1)).Nodup →
    (∀ h', (∀ b o, b ≠ D → s.heap.get? b = some o → h'.get? b = some o) → h'.objs.size = s.heap.objs.size → h'.get? D = some (PySem.W.dictOf (es ++ PySem.W.kwEs w.params s.toks ex) (n + ex.length)) → Q ⟨⟩ { s with heap := h', toks := s.toks + ex.length }) →
    wpAny (model prog w) A (forIn ex PUnit.unit fun x _ => (nsSet D x.1 x.2 >>= fun _ => pure (ForInStep.yield PUnit.unit))) Q E s
  | [], s, es, n, hD, _, _, _, h => by
    rw [List.forIn_nil]
    refine wpAny_pure (h s.heap (fun _ _ _ q => q) rfl ?_)
    show s.heap.get? D = some (PySem.W.dictOf (es ++ []) n)
    rw [List.append_nil]
    exact hD
  | x :: r, s, es, n, hD, hs, hr, hn, h => by
    obtain ⟨hn1, hn2⟩ := List.nodup_cons.mp hn
    rw [List.forIn_cons]
    refine wpAny_bind (wpAny_bind (ns_one hD (fun e he => hs e he x List.mem_cons_self) hr fun h' k1 z1 hD' => wpAny_pure ?_))
    refine ns_fill r { s with heap := h', toks := s.toks + 1 } _ _ hD' (fun e he y hy => ?_) (fun e he => ?_) hn2 fun h'' k2 z2 hD'' => ?_
    · rcases List.mem_append.mp he with he | he
      · exact hs e he y (.tail _ hy)
      · obtain rfl := List.mem_singleton.mp he
        show (x.1 == y.1) = false
        exact beq_eq_false_iff_ne.mpr fun q => hn1 (by
          show x.1 ∈ _
          rw [q]
          exact List.mem_map_of_mem hy)
    · rcases List.mem_append.mp he with he | he
      · exact hr e he
      · obtain rfl := List.mem_singleton.mp he
        rfl
    · have e1 : (es ++ [⟨PyData.keyHash w.params x.1, .str x.1 s.toks, x.2⟩]) ++ PySem.W.kwEs w.params (s.toks + 1) r = es ++ PySem.W.kwEs w.params s.toks (x :: r) := by
        rw [List.append_assoc] <;> rfl
      have e2 : n + 1 + r.length = n + (x :: r).length := by rw [List.length_cons]; omega
      have e3 : s.toks + 1 + r.length = s.toks + (x :: r).length := by rw [List.length_cons]; omega
      have := h h'' (fun b o ne q => k2 b o ne (k1 b o ne q)) (z2.trans z1) (by rw [← e1, ← e2]; exact hD'')
      rw [← e3] at this
      exact this
theorem kw_pairs : ∀ (ex : List (Str × Value)) (t : Tok), Pairs (mixKind prog w) (PySem.W.kwEs w.params t ex) (ex.map fun x => ((Sum.inr x.1 : Key), x.2))
  | [], _ => Pairs.nil
  | x :: r, t => Pairs.cons (keyIs_str x.1 t) rfl (kw_pairs r (t + 1))
theorem kw_dict {ex : List (Str × Value)} (t : Tok) (n : Nat) (hn : (ex.map (·.1)).Nodup) : (PySem.W.dictOf (PySem.W.kwEs w.params t ex) n).IsDictOf (mixKind prog w) (ex.map fun x => ((Sum.inr x.1 : Key), x.2)) :=
  ⟨(PySem.W.kwEs w.params t ex).toArray, n, ⟨rfl, rfl, rfl⟩, rfl, fun e he => by
    obtain ⟨k, u, hk, hh⟩ := PySem.W.kwEs_key ex t e (List.mem_toArray.mp he)
    exact ⟨.inr k, by rw [hk]; exact keyIs_str k u, hh.trans rfl⟩, kw_pairs ex t, by
    rw [List.map_map]
    have : (ex.map (·.1)).map (Sum.inr : Str → Key) = ex.map ((fun x : Key × Value => x.1) ∘ fun x : Str × Value => ((Sum.inr x.1 : Key), x.2)) := by rw [List.map_map] <;> rfl
    rw [← this]
    exact nodup_of_inj hn fun x _ y _ e => by injection e⟩
end
section
variable {P : Program} {w : World} {K : PySem.W.Frag} {mg : Str → Option Value} {base : Heap} {CX : CXT} {k : Nat} {f : Addr}
/-- a def's promise when called with these keywords -/
structure FnKW (P : Program) (w : World) (K : PySem.W.Frag) (mg : Str → Option Value) (base : Heap) (CX : CXT) (k : Nat) (f : Addr) (ks : List Str) (sp : List V → List V → Hp → VK → XK → Prop) : Prop where
  run : ∀ (A : Around) (outer : List Env) (s : Shared) (H : Hp) (us ws : List Value) (vs zs : List V) (Q : VK) (E : XK), Room k A → Env0 P w K mg base A outer s H → Vals vs us → Vals zs ws → sp vs zs H Q E → codeAny (model P w) A (.call (.ref f) ⟨us, ks.zip ws⟩) (CR CX outer P w H s Q E) s
theorem FnKW.mono {j : Nat} {ks : List Str} {sp : List V → List V → Hp → VK → XK → Prop} (F : FnKW P w K mg base CX j f ks sp) (h : j ≤ k) : FnKW P w K mg base CX k f ks sp := ⟨fun A outer s H us ws vs zs Q E hr => F.run A outer s H us ws vs zs Q E (hr.mono h)⟩
theorem FnKW.calm {ks : List Str} {sp : List V → List V → Hp → VK → XK → Prop} (F : FnKW P w K mg base (L2.CX P w) k f ks sp) : FnKW P w K mg base CX0 k f ks (fun vs zs H Q _ => sp vs zs H Q (fun _ _ _ => False)) := by
  refine ⟨fun A outer s H us ws vs zs Q E hr e0 rv rz h => ?_⟩
  refine codeAny_mono (F.run A outer s H us ws vs zs Q (fun _ _ _ => False) hr e0 rv rz h) fun z s' hq => ?_
  cases z with
  | error e =>
    obtain ⟨_, _, _, _, _, _, _, _, _, _, _, _, no⟩ := hq
    exact no.elim
  | ok fl => cases fl <;> exact hq
/-- the dict of the keywords -/
def kwD (ks : List Str) (zs : List V) : List (Key × V) := (ks.zip zs).map fun x => ((Sum.inr x.1 : Key), x.2)
theorem kwD_rel : ∀ {ks : List Str} {zs : List V} {ws : List Value}, Vals zs ws → KV (kwD ks zs) ((ks.zip ws).map fun x => ((Sum.inr x.1 : Key), x.2))
  | [], _, _, _ => .nil
  | _ :: _, _, _, .nil => .nil
  | _ :: _, _, _, .cons r t => .cons ⟨rfl, r⟩ (kwD_rel t)
theorem fnkw_of {x qual : Str} {st : Stmt} {fd : FuncData} {N : List Str} {p0 pd : Str} {ks : List Str} {sp : Sp} (F : Fun K x qual st f fd) (S : FnScope N [p0, pd] (defScope st)) (nd : ks.Nodup) (few : ks.length ≤ 100) (hCX : StX.CXUp CX)
    (hb : ∀ (u : Value) (ws : List Value), ws.length = ks.length → bindArgs fd ⟨[u], ks.zip ws⟩ = ((alloc ({ cls := .type "dict", data := .dict #[] } : Obj) : Sem Addr) >>= fun d => (forIn (ks.zip ws) PUnit.unit fun x _ => (nsSet d x.1 x.2 >>= fun _ => pure (ForInStep.yield PUnit.unit))) >>= fun _ => pure [(p0, u), (pd, Value.ref d)]))
    (hbody : ∀ (cdv : Value) (A : Around) (outer : List Env) (s : Shared) (H : Hp) (vs : List V) (Q : VK) (E : XK), Room k (A.deeper (envOfC qual (defScope st) s.heap.objs.size f cdv)) → sp vs H Q E →
      ∃ t, PSs (cxOf CX P w K mg base N qual (defScope st) f cdv A outer s H E) (defBody st) t ∧ t { nx := fun _ H' => Q .non H', rt := Q } (start N vs) H) :
    FnKW P w K mg base CX (k + 1) f ks (fun vs zs H Q E => ∃ a, vs = [a] ∧ zs.length = ks.length ∧ ∀ d, H d = Option.none → sp [a, .ref d] (upd H d (.dK (kwD ks zs))) Q E) := by
  refine ⟨fun A outer s H us ws vs zs Q E hr e0 rv rz h => ?_⟩
  obtain ⟨a, rfl, hl, hq⟩ := h
  obtain ⟨u, rfl, ra⟩ := vals1 rv
  have hlw : ws.length = ks.length := by rw [← rz.length]; exact hl
  have hb' := hb u ws hlw
  obtain ⟨oc, od, kV, doc, pm, an, cdv, ct, osl, rfl, lk, hcd⟩ := F.ex
  have hn : H s.heap.objs.size = Option.none := e0.hok.fresh (Nat.le_refl _)
  refine StX.run_bnd lk hcd S hr e0 (G := fun xs H2 => ∃ d, H d = Option.none ∧ xs = [a, V.ref d] ∧ H2 = upd H d (.dK (kwD ks zs))) (fun A' Ex Q' h => ?_) fun s2 H2 xs ⟨d, hd, ex, eH⟩ hr' => ?_
  · rw [hb']
    refine wpAny_bind (wpAny_alloc (wpAny_bind (ns_fill (D := s.heap.objs.size) (ks.zip ws) { s with heap := s.heap.push { cls := .type "dict", data := .dict #[] } } [] 0 (Heap.get?_push_size _ rfl) (fun _ z => nomatch z) (fun _ z => nomatch z) ?_ fun h' k1 z1 hD => wpAny_pure ?_)))
    · rw [List.map_fst_zip (by omega)]
      exact nd
    · have kp : ∀ b o, s.heap.get? b = some o → h'.get? b = some o := fun b o q => k1 b o (Nat.ne_of_lt (Heap.lt_size q)) (Heap.get?_push_of_some _ q)
      have sz : h'.objs.size = s.heap.objs.size + 1 := z1.trans (Heap.size_push _ _)
      have ndz : ((ks.zip ws).map (·.1)).Nodup := by
        rw [List.map_fst_zip (by omega)]
        exact nd
      have big := StX.env0_big e0
      have dd : h'.DictOf (mixKind P w) s.heap.objs.size ((ks.zip ws).map fun x => ((Sum.inr x.1 : Key), x.2)) := by
        refine Heap.dictOf_iff.mpr ⟨_, hD, ?_⟩
        rw [List.nil_append]
        exact kw_dict _ _ ndz
      have lz : (kwD ks zs).length ≤ sizeLine := by
        unfold kwD
        rw [List.length_map, List.length_zip, sizeLine_eq]
        omega
      have new : ObjOk P w (upd H s.heap.objs.size (.dK (kwD ks zs))) h' s.heap.objs.size (.dK (kwD ks zs)) := dk_new lz (beq_eq_false_iff_ne.mpr (Ne.symm (Nat.ne_of_lt big))) (kwD_rel rz) dd
      have e2 : Env0 P w K mg base A outer { s with heap := h', toks := s.toks + (ks.zip ws).length } (upd H s.heap.objs.size (.dK (kwD ks zs))) := by
        refine ⟨e0.frames, e0.mod, fun b x e => ⟨kp b x (e0.bs b x e).1, ?_⟩, ?_, Heap.FunFrames.of_keeps (fun b x e _ => ⟨x, kp b x e, rfl⟩) e0.funs, fun b hb => ?_, e0.hok.laid kp (Nat.le_refl _) new, e0.bare⟩
        · rw [upd_ne (Nat.ne_of_lt (Heap.lt_size (e0.bs b x e).1))]
          exact (e0.bs b x e).2
        · show base.objs.size ≤ h'.objs.size
          rw [sz]
          exact Nat.le_succ_of_le e0.bsz
        · obtain ⟨_, x, hx, _⟩ := e0.funs.mem hb
          rw [upd_ne (Nat.ne_of_lt (Heap.lt_size hx))]
          exact e0.frf b hb
      have un : Un (frs outer) [] H (upd H s.heap.objs.size (.dK (kwD ks zs))) s.heap h' := Un.laid kp (Nat.le_refl _) hn
      exact h _ _ [a, V.ref s.heap.objs.size] [u, Value.ref s.heap.objs.size] e2 un rfl (fun e s' => hCX outer s H _ _ E e s' un kp rfl) (.cons ra (.cons rfl .nil)) rfl ⟨_, hn, rfl, rfl⟩
  · subst ex eH
    exact hbody cdv A outer s2 _ _ Q E hr' (hq d hd)
end
section
variable {X : Cx} {CX : CXT} {k : Nat} {C f : Addr} {ks : List Str} {sp : List V → List V → Hp → VK → XK → Prop} {E : XK} {o : Expr} {m : Str} {pos apos : Pos} {ta : TE} {tk : TA} {pl : Sem Bool} {kws : List Keyword}
def tMethKW (C : Addr) (m : Str) (sp : List V → List V → Hp → VK → XK → Prop) (E : XK) (ta : TE) (tk : TA) : TE := fun σ H Q => ta σ H fun x H1 => ∃ a dx fs, x = .ref a ∧ H1 a = some (.ins C dx fs) ∧ fs.lookup m = none ∧ tk σ H1 fun zs H2 => sp [.ref a] zs H2 Q E
/-- o.m(k = v, ..) -/
theorem pe_methKW (he : PE X o ta) (c : Cls X.K C) (hm : Meth X.K C m f) (F : FnKW X.prog X.w X.K X.mg X.base CX k f ks sp) (hr : Room k X.A) (hx : Passes CX X E) (hkw : PK X kws tk)
    (hall : (backToKw pos (keywordEach kws X.env)).all (·.1.isSome) = true := by rfl) (hks : (backToKw pos (keywordEach kws X.env)).filterMap (·.1) = ks := by rfl)
    (hpl : ((backTo pos (starEach [] X.env)).any (·.1) || (backToKw pos (keywordEach kws X.env)).any (·.1.isNone)) = false := by rfl)
    (ht : eval (.Call (.Attribute o m apos) [] kws pos) X.env = (do
      let ov ← eval o X.env
      standAt apos.atName
      let (f, first) ← holding [ov] (getMethod ov m pl)
      callWith pos f first (backTo pos (starEach [] X.env)) (backToKw pos (keywordEach kws X.env))) := by rfl) :
    PE X (.Call (.Attribute o m apos) [] kws pos) (tMethKW C m sp E ta tk) := by
  refine ⟨fun pins s σ H Q I h => ?_⟩
  refine PySem.W.methodCall_KW (pl := pl) (thn (he.run pins s σ H _ I h) fun u s1 ⟨x, H1, I1, rx, a, dx, fs, ex, ea, l, q⟩ => ?_) ht
  subst ex
  obtain rfl : u = Value.ref a := rx
  refine getmeth_ok I1 ea c hm l ?_
  refine PySem.W.callWith_KW0 (first := [.ref a]) (h₀ := X.base) I1.ok.mod.kin hm.kp hall (thn (hkw.run pos _ s1 σ H1 _ I1 q) fun ws s2 ⟨zs, H2, I2, rz, q2⟩ => ⟨I2.kIn, ?_⟩) hpl
  rw [hks]
  refine wpAny_call (codeAny_mono (F.run X.A X.stack s2 H2 [.ref a] ws [.ref a] zs Q E hr I2.env0 (.cons rfl .nil) rz q2) fun r s' hq => ?_)
  cases r with
  | error e => exact hx pins σ H2 s2 e s' I2 hq
  | ok fl =>
    cases fl with
    | ret u => exact I2.after hq
    | next => exact False.elim hq
    | brk => exact False.elim hq
    | cont => exact False.elim hq
end
/-! ## list(d.values()) -/
section
variable {X : Cx} {e : Expr} {te : TE} {p pos apos cpos : Pos}
def rValsL : V → Hp → VK → Prop := fun x H Q => ∃ (d : Addr) (kvs : List (Key × V)), x = .ref d ∧ H d = some (.dK kvs) ∧ ∀ p, H p = none → Q (.ref p) (upd H p (.lst (kvs.map (·.2))))
def tListVals (te : TE) : TE := fun σ H Q => te σ H fun x H1 => rValsL x H1 Q
theorem kv_vals : ∀ {kvs : List (Key × V)} {vs : List (Key × Value)}, KV kvs vs → Vals (kvs.map (·.2)) (vs.map (·.2))
  | _, _, .nil => .nil
  | _, _, .cons r t => .cons r.2 (kv_vals t)
theorem pe_listVals (hc : X.calm = true) (he : PE X e te) (hg : Gl X "list") (hm : X.mg "list" = none) (hv : bootBuiltins "list" = some (.type "list")) (hbase : attributeBase e "values" X.env (eval e X.env) = eval e X.env := by rfl) (hline : (apos.endLine == cpos.line) = true := by rfl)
    (hs : starEach [.Call (.Attribute e "values" apos) [] [] cpos] X.env = (false, eval (.Call (.Attribute e "values" apos) [] [] cpos) X.env) :: starEach [] X.env := by rfl) :
    PE X (.Call (.Name "list" p) [.Call (.Attribute e "values" apos) [] [] cpos] [] pos) (tListVals te) := by
  refine ⟨fun pins s σ H Q I hq => ?_⟩
  refine wpAny_Call_Name_kw (ld_blt I hg hm hv ?_)
  refine PyProof.Rows.callWith_type1 ?_ hs rfl
  rw [hs]
  show wpAny _ _ (spliced ((false, eval (.Call (.Attribute e "values" apos) [] [] cpos) X.env) :: backTo pos (starEach [] X.env))) _ _ s
  refine Calls.spliced_cons ?_
  refine wpAny_Call_method (T := "dict") (id := "dict.values") hbase rfl hline PySem.F.plainAttrs_dict PySem.F.slot_dict_values PySem.F.type_dict_values (thn (he.run pins s σ H _ I hq) fun u s1 ⟨x, H1, I1, rx, d, kvs, ex, hd, q⟩ => ?_)
  subst ex
  obtain rfl : u = Value.ref d := rx
  obtain ⟨hz, hs0, vs, kv, hdo⟩ := I1.hok d _ hd
  obtain ⟨ep, hat⟩ := hdo.dictAt
  have lk : kvs.length = vs.length := Paired.length kv
  have I2 : Inv X pins σ H1 { s1 with heap := s1.heap.push { cls := .type "dict_values", data := .fields #[.ref d] } } := I1.kept (t' := s1.toks) fun b ob q => Heap.get?_push_of_some _ q
  refine ⟨hdo.typeIs, hdo.mapOf.noDict, ?_⟩
  show wpAny _ _ (callWith cpos (.builtin "dict.values") [.ref d] [] []) _ X.xe s1
  refine method_meetsIn PySem.F.slot_dict_values PySem.F.entry_dict_values rfl (PySem.evalArgs_none ⟨rfl, hdo.typeIs, PySem.F.args_dict_values_1 _, _, meets_dict_values (mixKind X.prog X.w) d hs0, ⟨vs, hdo⟩, ?_⟩)
  refine Calls.spliced_nil ?_
  refine PySem.W.kdl_call (PySem.W.kdl_values (knd := mixKind X.prog X.w) (kvs := vs) (ep := ep)) (I1.ok.hd hc) ⟨⟨_, Heap.get?_push_size _ rfl, rfl, rfl⟩, hat.push _⟩ (by omega) fun h' tk acc c hk hS hacc => ?_
  have ev : acc.toList = vs.map (·.2) := by
    refine items_out (Pv := fun i v => ∃ k, vs[i]? = some (k, v)) (by rw [List.length_map]; exact hacc) fun j v hv => ?_
    obtain ⟨k, hv⟩ := hv
    rw [List.getElem?_map, hv] <;> rfl
  have J := I2.laid (t' := tk) (o := .lst (kvs.map (·.2))) hk (Nat.le_refl _) ⟨by rw [List.length_map]; exact hz, acc.toList, c, by rw [ev]; exact kv_vals kv, by rw [Array.toArray_toList]; exact hS⟩
  exact ⟨.ref _, _, J, rfl, q _ I2.fresh⟩
end
end Vk
set_option Elab.async false
set_option linter.all false
set_option maxRecDepth 100000
set_option maxHeartbeats 4000000
namespace Vk
open PySem PySem.Spec PyProof.Rows L2 Vt
abbrev sRen : Stmt := inClass (top8 27) 11
/-- a dict comprehension over a text -/
theorem dc_text {x : Str} {g : TG} {tt : TT} {tk tv : TE} {vs : List Nat} {σ : L2.St} {H1 : Hp} {D : Addr} {Qd : Hp → Prop} (Pv : Nat → Hp → Prop) (h0 : Pv 0 (upd H1 D (.dK [])))
    (hs : ∀ i c H, x.cps[i]? = some c → Pv i H → g (.str ⟨#[c]⟩) (wipe σ vs) H fun σ2 H2 => wipe σ2 vs = wipe σ vs ∧ tt σ2 H2 fun b H3 =>
      if b = true then tk σ2 H3 fun y H4 => tv σ2 H4 fun z H5 => ∃ kvs k, y = kV k ∧ H5 D = some (.dK kvs) ∧ kvs.length < sizeLine ∧ Pv (i + 1) (upd H5 D (.dK (putK kvs k z))) else Pv (i + 1) H3) (hd : ∀ H, Pv x.cps.size H → Qd H) :
    ∃ W : Nat → Nat → Hp → Prop, (∃ m, W 0 m (upd H1 D (.dK []))) ∧ ∀ i m H, W i m H →
      ((Its x).stop i H ∧ Qd H) ∨ ((Its x).go i H ∧ ∃ Nx : Hp → Prop, (∀ H', Nx H' → ∃ m', m' < m ∧ W (i + 1) m' H') ∧ ∀ y H', (Its x).yld i H y H' → g y (wipe σ vs) H' fun σ2 H2 => wipe σ2 vs = wipe σ vs ∧ tt σ2 H2 fun b H3 =>
        if b = true then tk σ2 H3 fun y H4 => tv σ2 H4 fun z H5 => ∃ kvs k, y = kV k ∧ H5 D = some (.dK kvs) ∧ kvs.length < sizeLine ∧ Nx (upd H5 D (.dK (putK kvs k z))) else Nx H3) := by
  refine ⟨fun i m H => m + i = x.cps.size ∧ Pv i H, ⟨x.cps.size, rfl, h0⟩, fun i m H ⟨em, p⟩ => ?_⟩
  rcases Nat.lt_or_ge i x.cps.size with c | c
  · refine .inr ⟨c, Pv (i + 1), fun H' p' => ⟨m - 1, by omega, by omega, p'⟩, fun y H' ⟨e, z, hz, ey⟩ => ?_⟩
    subst e ey
    exact hs i z _ hz p
  · obtain rfl : i = x.cps.size := by omega
    exact .inl ⟨Nat.le_refl _, hd H p⟩
/-- letters renamed -/
def ltM (f : Nat → Nat) (m : Mv) : Mv := ⟨m.s, f m.c, m.t⟩
def ltL (f : Nat → Nat) (L : List Mv) : List Mv := sortL (L.map (ltM f))
theorem lt_nodup {n st la : Nat} {L : List Mv} {f : Nat → Nat} (o : OkL n st la L) (inj : ∀ m ∈ L, ∀ k ∈ L, f m.c = f k.c → m.c = k.c) : (L.map (ltM f)).Nodup := nodup_of_inj (nodup_up o.asc) fun x hx y hy e => by
  injection e with e1 e2 e3
  exact o.e0 x hx y hy e1 (inj x hx y hy e2)
theorem ok_lt {n st la : Nat} {L : List Mv} {f : Nat → Nat} (o : OkL n st la L) (inj : ∀ m ∈ L, ∀ k ∈ L, f m.c = f k.c → m.c = k.c) (az : ∀ m ∈ L, 97 ≤ f m.c ∧ f m.c ≤ 122) : OkL n st la (ltL f L) := by
  have mem : ∀ {m}, m ∈ ltL f L ↔ ∃ k ∈ L, ltM f k = m := fun {m} => by rw [ltL, mem_sortL, List.mem_map]
  refine ⟨o.n1, o.n2, o.hst, o.hla, fun m hm => ?_, sortL_up (lt_nodup o inj), fun m hm k hk h1 h2 => ?_, fun m hm k hk h1 h2 => ?_, by rw [ltL, sortL_len, List.length_map]; exact o.few, fun S hS h => ?_, fun S hS h => ?_⟩
  · obtain ⟨k, hk, rfl⟩ := mem.mp hm
    exact ⟨(o.ok k hk).1, (o.ok k hk).2.1, az k hk⟩
  · obtain ⟨x, hx, rfl⟩ := mem.mp hm
    obtain ⟨y, hy, rfl⟩ := mem.mp hk
    rw [o.e0 x hx y hy h1 (inj x hx y hy h2)]
  · obtain ⟨x, hx, rfl⟩ := mem.mp hm
    obtain ⟨y, hy, rfl⟩ := mem.mp hk
    rw [o.e2 x hx y hy h1 (inj x hx y hy h2)]
  · exact o.fw S hS fun m hm hs => h (ltM f m) (mem.mpr ⟨m, hm, rfl⟩) hs
  · exact o.bw S hS fun m hm hs => h (ltM f m) (mem.mpr ⟨m, hm, rfl⟩) hs
theorem lets_le (ms : List (Addr × Mv)) (hc : ∀ p ∈ ms, 97 ≤ p.2.c ∧ p.2.c ≤ 122) : (lettersM ms).length ≤ 26 := by
  have e : lettersM ms = (lettersM ms).filter fun c => decide (97 ≤ c) := by
    refine (List.filter_eq_self.mpr fun c h => ?_).symm
    obtain ⟨p, hp, e⟩ := (mem_lettersM fun p hp => (hc p hp).2).mp h
    have := (hc p hp).1
    exact decide_eq_true (by omega)
  have s : (lettersM ms).length ≤ ((List.range 123).filter fun c => decide (97 ≤ c)).length := by
    rw [e]
    unfold lettersM
    rw [List.filter_filter]
    have : ((List.range 123).filter fun a => decide (97 ≤ a) && ms.any fun p => p.2.c == a) = ((List.range 123).filter fun c => decide (97 ≤ c)).filter fun a => ms.any fun p => p.2.c == a := by
      rw [List.filter_filter]
      congr 1
      funext a
      exact Bool.and_comm _ _
    rw [this]
    exact List.length_filter_le _ _
  exact Nat.le_trans s (by decide)
/-- a dict from letters to letters -/
def ltD (f : Nat → Nat) (cs : List Nat) : List (Key × V) := cs.map fun c => ((Sum.inr (sg c) : Key), V.str (sg (f c)))
theorem sg_inj {a b : Nat} (h : sg a = sg b) : a = b := (List.cons.inj (congrArg (fun y : Str => y.cps.toList) h)).1
theorem ltD_val (f : Nat → Nat) : ∀ (cs : List Nat) (c : Nat), valV (ltD f cs) (Sum.inr (sg c) : Key) = if c ∈ cs then some (.str (sg (f c))) else none
  | [], _ => rfl
  | d :: cs, c => by
    have ih := ltD_val f cs c
    unfold valV at ih ⊢
    show (List.find? _ (((Sum.inr (sg d) : Key), V.str (sg (f d))) :: ltD f cs)).map _ = _
    rw [List.find?_cons]
    by_cases e : d = c
    · subst e
      rw [decide_eq_true rfl, if_pos List.mem_cons_self]
      rfl
    · rw [decide_eq_false (show ¬ (Sum.inr (sg d) : Key) = Sum.inr (sg c) from fun z => e (sg_inj (by injection z)))]
      rw [ih]
      by_cases m : c ∈ cs
      · rw [if_pos m, if_pos (.tail _ m)]
      · rw [if_neg m, if_neg (fun z => (List.mem_cons.mp z).elim (fun q => e q.symm) m)]
section
variable {P : Program} {w : World} {K : PySem.W.Frag} {mg : Str → Option Value} {base : Heap}
/-- the machine with other letters -/
def spRen (K : PySem.W.Frag) (C : Addr) : Sp := fun vs H Q _ => ∃ (a d : Addr) (n st la : Nat) (ms : List (Addr × Mv)) (kvs : List (Key × V)) (f : Nat → Nat), vs = [.ref a, .ref d] ∧ MachAt K C H a n st la ms ∧ H d = some (.dK kvs) ∧
  (∀ c ∈ lettersM ms, (valV kvs (Sum.inr (sg c) : Key)).getD (.str (sg c)) = .str (sg (f c)) ∧ 97 ≤ f c ∧ f c ≤ 122) ∧ (∀ x ∈ lettersM ms, ∀ y ∈ lettersM ms, f x = f y → x = y) ∧
  ∀ (H' : Hp) (x : Addr) (ks : List (Addr × Mv)), Same H H' → H x = none → mL ks = ltL f (mL ms) → MachAt K C H' x n st la ks → Q (.ref x) H'
theorem scRn : FnScope ["self", "letters", "names", "letter", "given", "place", "moves", "source", "target"] ["self", "letters"] (defScope sRen) := ⟨rfl, rfl, rfl, by decide +kernel, rfl, by decide +kernel, by decide +kernel⟩
theorem ok_ren {f C fI : Addr} {fd fdI : FuncData} {ks : List Str} (nd : ks.Nodup) (few : ks.length ≤ 100) (F : Fun K "renamed" "Machine.renamed" sRen f fd) (T : Txt8 K mg) (M : MCls K C) (gM : mg "Machine" = some (.ref C)) (MK : Mk K C fI) (bI : Binds K fdI ["self", "size", "first", "last", "moves"] [])
    (FI : FnOk P w K mg base CX0 6 fI fdI ["self", "size", "first", "last", "moves"] (spInit K C))
    (hb : ∀ (u : Value) (ws : List Value), ws.length = ks.length → bindArgs fd ⟨[u], ks.zip ws⟩ = ((alloc ({ cls := .type "dict", data := .dict #[] } : Obj) : Sem Addr) >>= fun d => (forIn (ks.zip ws) PUnit.unit fun x _ => (nsSet d x.1 x.2 >>= fun _ => pure (ForInStep.yield PUnit.unit))) >>= fun _ => pure [(("self" : Str), u), (("letters" : Str), Value.ref d)])) :
    FnKW P w K mg base CX0 8 f ks (fun vs zs H Q E => ∃ a, vs = [a] ∧ zs.length = ks.length ∧ ∀ d, H d = none → spRen K C [a, .ref d] (upd H d (.dK (kwD ks zs))) Q E) := by
  refine fnkw_of (sp := spRen K C) F scRn nd few StX.cxUp_none hb (fun cdv A outer s H vs Q E hr h => ?_)
  obtain ⟨a, d, n, st, la, ms, kvs, g, rfl, hA, hd, hg, inj, k⟩ := h
  have hu := hu_of hr
  have o : OkL n st la (mL ms) := hA.ok.onL
  have n2 := o.n2
  have fewL := o.few
  rw [List.length_map] at fewL
  have lin := let_in hA.ok
  have l26 := lets_le ms fun p hp => (hA.ok.ok p hp).2.2
  obtain ⟨dx, l, E1, F1, z, ha, hM, ez⟩ := hA.let
  have main : ∃ t, PSs (cxOf CX0 P w K mg base ["self", "letters", "names", "letter", "given", "place", "moves", "source", "target"] "Machine.renamed" (defScope sRen) f cdv A outer s H E).nox (defBody sRen) t ∧ t { nx := fun _ H' => Q .non H', rt := Q } (start ["self", "letters", "names", "letter", "given", "place", "moves", "source", "target"] [.ref a, .ref d]) H := by
    refine ⟨_, (pss_cons (ps_set (i := 2) scRn.nd rfl (.inr rfl) (pe_dc (own := [("letter", 3)]) (g := gName 3) (by rfl) scRn.nd (pi_str (pe_fld (pv 0) rfl)) (blkOk_by (own := [("letter", 3)]) (N := ["self", "letters", "names", "letter", "given", "place", "moves", "source", "target"]) (sc := defScope sRen) (by decide +kernel)) (fun _ _ _ _ _ => (pg_name (i := 3) scRn.nd rfl (.inl rfl))) (fun _ _ _ _ _ => pts_nil) (fun _ _ _ _ _ => (pv 3)) (fun _ _ _ _ _ => (pe_dget2 hu (pv 1) (pv 3) (pv 3) ⟨rfl, rfl, rfl, rfl⟩))))
        (pss_cons (ps_set (i := 4) scRn.nd rfl (.inl rfl) (pe_callB cr_sortedS (by rfl) T.srt (by decide +kernel) (pa_cons (pe_listVals (by rfl) (pv 2) (by rfl) T.lst (by decide +kernel)) pa_nil)))
        (pss_cons (ps_for PassesOwn.never rfl (pi_range1 (by rfl) T.rng (pa_cons (pe_op op_sub (pe_callB call_len (by rfl) T.len PySem.boot_len (pa_cons (pv 4) pa_nil)) pe_int) pa_nil)) (pg_name (i := 5) scRn.nd rfl (.inl rfl)) (pss_one (ps_if (pt_cmpR op_eq (pe_ix ix_list (pv 4) (pv 5) (fun _ _ => rfl)) (pe_ix ix_list (pv 4) (pe_op op_add (pv 5) pe_int) (fun _ _ => rfl)) (nomark _)) (pss_one ps_never) pss_nil)))
        (pss_cons (ps_setLc (i := 6) (own := [("source", 7), ("letter", 3), ("target", 8)]) (g := (gTup K 3 (gCons (gName 7) (gCons (gName 3) (gCons (gName 8) gNil))))) (by rfl) scRn.nd rfl rfl (sw_true rfl rfl rfl (by decide +kernel)) (pi_tup (pe_fld (pv 0) rfl)) (blkOk_by (own := [("source", 7), ("letter", 3), ("target", 8)]) (N := ["self", "letters", "names", "letter", "given", "place", "moves", "source", "target"]) (sc := defScope sRen) (by decide +kernel)) (fun _ _ _ _ _ => (pg_tup (by rfl) (pgs_cons (pg_name (i := 7) scRn.nd rfl (.inl rfl)) (pgs_cons (pg_name (i := 3) scRn.nd rfl (.inl rfl)) (pgs_cons (pg_name (i := 8) scRn.nd rfl (.inl rfl)) pgs_nil))))) (fun _ _ _ _ _ => pts_nil) (fun _ _ _ _ _ => (pe_tup (pa_cons (pv 7) (pa_cons (pe_dget hu (pv 2) (pv 3) (fun _ _ => rfl)) (pa_cons (pv 8) pa_nil))))))
        (pss_one (ps_ret (pe_make MK FI hr (by rfl) gM bI .nil pass0 (pa_cons (pe_fld (pv 0) rfl) (pa_cons (pe_fld (pv 0) rfl) (pa_cons (pe_fld (pv 0) rfl) (pa_cons (pe_callTy call_tuple_of (by rfl) T.tup (by decide +kernel) (pa_cons (pe_callB (cr_sortedL hr.units) (by rfl) T.srt (by decide +kernel) (pa_cons (pv 6) pa_nil)) pa_nil)) pa_nil))))))))))), ?_⟩
    refine ⟨_, rfl, a, C, dx, _, _, rfl, ha, M.cl, M.a5, lk5 .., z, rfl, fun D nD => ?_⟩
    have nDd : D ≠ d := (ne_of_none hd nD).symm
    refine dc_text (x := z) (fun i H' => H' = upd H D (.dK (ltD g ((lettersM ms).take i)))) rfl ?_ ?_
    · rintro i c H' hi rfl
      have hc : (lettersM ms)[i]? = some c := by rw [← ez, Array.getElem?_toList]; exact hi
      have cm := List.mem_of_getElem? hc
      have e := (hg c cm).1
      have hd' : upd H D (.dK (ltD g ((lettersM ms).take i))) d = some (.dK kvs) := by rw [upd_ne nDd.symm]; exact hd
      have new : valV (ltD g ((lettersM ms).take i)) (Sum.inr (sg c) : Key) = none := by
        rw [ltD_val, if_neg]
        intro m
        have nn : (lettersM ms).Nodup := (lettersM_asc ms).imp fun h e => by omega
        exact nin_take nn hc m
      refine ⟨rfl, _, rfl, _, rfl, d, rfl, .inl ⟨_, .inl hd'⟩, _, rfl, _, rfl, _, DGet.k (k := Sum.inr (sg c)) hd', ltD g ((lettersM ms).take i), Sum.inr (sg c), rfl, upd_same, ?_, ?_⟩
      · unfold ltD
        rw [List.length_map, List.length_take, sizeLine_eq]
        omega
      · rw [show (valV kvs (Sum.inr (sg c) : Key)).getD (V.str ⟨#[c]⟩) = .str (sg (g c)) from e, upd_upd, putK_new _ new, take_at hc]
        unfold ltD
        rw [List.map_append]
        rfl
    rintro H1 rfl
    have ts : (lettersM ms).take z.cps.size = lettersM ms := List.take_of_length_le (by rw [← ez, Array.length_toList]; exact Nat.le_refl _)
    rw [ts]
    have S1 := same_up (o := .dK (ltD g (lettersM ms))) nD
    have hD : upd H D (.dK (ltD g (lettersM ms))) D = some (.dK (ltD g (lettersM ms))) := upd_same
    have ha1 := S1 _ _ ha
    have hM1 : MvsAt K (upd H D (.dK (ltD g (lettersM ms)))) l ms := ⟨same_seqT S1 hM.tp, fun p hp => same_seqT S1 (hM.it p hp)⟩
    generalize upd H D (.dK (ltD g (lettersM ms))) = H1 at S1 hD ha1 hM1 ⊢
    refine go_name ?_
    dsimp only
    refine go_seq ?_
    refine ⟨_, rfl, D, _, rfl, hD, fun p np => ?_⟩
    have eV : (ltD g (lettersM ms)).map (·.2) = ((lettersM ms).map fun c => sg (g c)).map V.str := by
      unfold ltD
      rw [List.map_map, List.map_map]
      rfl
    rw [eV]
    have S2 := same_up (o := .lst (((lettersM ms).map fun c => sg (g c)).map V.str)) np
    refine ⟨p, (lettersM ms).map fun c => sg (g c), rfl, SqL.of upd_same, by rw [List.length_map]; omega, fun ys q pm srt nq => ?_⟩
    have S3 := S2.trans (same_up (o := .lst (ys.map V.str)) nq)
    have hq : upd (upd H1 p (.lst (((lettersM ms).map fun c => sg (g c)).map V.str))) q (.lst (ys.map V.str)) q = some (.lst (ys.map V.str)) := upd_same
    generalize upd (upd H1 p (.lst (((lettersM ms).map fun c => sg (g c)).map V.str))) q (.lst (ys.map V.str)) = H3 at S3 hq ⊢
    have yl : ys.length ≤ 26 := by
      rw [pm.length_eq, List.length_map]
      exact l26
    have ynd : ys.Nodup := pm.nodup_iff.mpr (nodup_of_inj ((lettersM_asc ms).imp fun h e => by omega) fun x hx y hy e => inj x hx y hy (sg_inj e))
    refine go_name ?_
    dsimp only
    refine go_seq ?_
    refine ⟨_, rfl, _, _, rfl, .inl ⟨_, SqL.of hq, rfl⟩, _, _, rfl, rfl, ?_⟩
    rw [List.length_map]
    refine ⟨_, rfl, by omega, by omega, ?_⟩
    refine for_range (lo := 0) (n := ((ys.length : Int) - 1).toNat) (fun i σ H' => ∃ (v5 : Option V), σ = [some (.ref a), some (.ref d), some (.ref D), none, some (.ref q), v5, none, none, none] ∧ H' = H3) ⟨none, rfl, rfl⟩ ?_ ?_
    · rintro i σ H' hi ⟨v5, rfl, rfl⟩
      have i1 : i + 1 < ys.length := by omega
      have a1 : atI (ys.map V.str) (0 + (i : Nat) : Int) = some (.str (ys[i]'(by omega))) := by
        rw [Int.zero_add]
        exact atI_nat (by rw [List.getElem?_map, List.getElem?_eq_getElem (by omega)] <;> rfl)
      have a2 : atI (ys.map V.str) ((0 + (i : Nat) : Int) + 1) = some (.str (ys[i + 1]'i1)) := by
        rw [Int.zero_add, show ((i : Nat) : Int) + 1 = ((i + 1 : Nat) : Int) by omega]
        exact atI_nat (by rw [List.getElem?_map, List.getElem?_eq_getElem i1] <;> rfl)
      have ne : ¬ ys[i]'(by omega) = ys[i + 1]'i1 := fun e => by
        have i0 : i < ys.length := by omega
        have q1 := List.getElem?_eq_getElem i0
        have q2 := List.getElem?_eq_getElem i1
        have qq : ys[i]? = ys[i + 1]? := by rw [q1, q2, e]
        have := (List.getElem?_inj i0 ynd).mp qq
        omega
      refine ⟨_, rfl, _, rfl, q, _, _, _, rfl, rfl, SqL.of hq, a1, _, rfl, _, rfl, _, _, rfl, rfl, q, _, _, _, rfl, rfl, SqL.of hq, a2, rfl, _, rfl, ?_⟩
      rw [decide_eq_false (show ¬ V.str _ = V.str _ from fun z => ne (by injection z))]
      refine iteF ?_
      exact ⟨_, rfl, rfl⟩
    · rintro σ H' ⟨v5, rfl, rfl⟩
      dsimp only
      refine go_seq ?_
      have hD3 := S3 _ _ hD
      have ha3 := S3 _ _ ha1
      have hM3 : MvsAt K H' l ms := ⟨same_seqT S3 hM1.tp, fun p hp => same_seqT S3 (hM1.it p hp)⟩
      have get : ∀ {H2 : Hp} {c : Nat}, Same H' H2 → c ∈ lettersM ms → DGet H2 D (V.str (sg c)) (some (.str (sg (g c)))) := fun {H2 c} S hc => by
        have := DGet.k (k := Sum.inr (sg c)) (S _ _ hD3)
        rw [ltD_val, if_pos hc] at this
        exact this
      refine ⟨_, rfl, a, C, dx, _, _, rfl, ha3, M.cl, M.a4, lk4 .., l, rfl, ⟨_, hM3.tp⟩, fun R nR => ?_⟩
      refine lc_tup (K := K) (a := l) (xs := ms.map fun p => V.ref p.1) (fun i H2 => MkL H' H2 R (((mL ms).take i).map (ltM g))) ⟨[], rfl, same_up nR, upd_same, fun p hp => nomatch hp⟩ (fun i H2 _ mk => same_seqT mk.same hM3.tp) ?_ ?_
      · rintro i y H2 hi ⟨qs, eq, S, hR, rows⟩
        rw [List.getElem?_map] at hi
        obtain ⟨p, hp, rfl⟩ := Option.map_eq_some_iff.mp hi
        have pm2 := List.mem_of_getElem? hp
        have hpL : (mL ms)[i]? = some p.2 := by rw [List.getElem?_map, hp] <;> rfl
        refine ⟨p.1, _, rfl, same_seqT S (hM3.it p pm2), rfl, _, _, rfl, _, _, rfl, _, _, rfl, rfl, rfl, ?_⟩
        refine ⟨_, rfl, _, rfl, _, rfl, D, _, rfl, get S (lin _ (inL pm2)), _, rfl, by show 3 ≤ sizeLine; decide, fun q2 nq2 => ?_⟩
        have nRq : R ≠ q2 := ne_of_none hR nq2
        have lq : qs.length < 3999 := by
          have h1 := congrArg List.length eq
          rw [List.length_map, List.length_map, List.length_take] at h1
          have il : i < ms.length := (List.getElem?_eq_some_iff.mp hp).1
          omega
        refine ⟨_, by rw [upd_ne nRq]; exact hR, by rw [List.length_map, sizeLine_eq]; omega, ?_⟩
        rw [take_at hpL, List.map_append]
        exact mkL_add (m := ltM g p.2) eq S hR rows nR nq2
      · rintro H2 mk
        rw [List.length_map, List.take_of_length_le (by rw [List.length_map]; exact Nat.le_refl _)] at mk
        refine go_name ?_
        dsimp only
        have S4 := mk.same
        have ha4 := S4 _ _ ha3
        have injL : ∀ m ∈ mL ms, ∀ k ∈ mL ms, g m.c = g k.c → m.c = k.c := fun m hm k hk e => inj _ (lin m hm) _ (lin k hk) e
        refine ⟨_, rfl, a, C, dx, _, _, rfl, ha4, M.cl, M.a1, lk1 .., ?_⟩
        refine ⟨_, rfl, a, C, dx, _, _, rfl, ha4, M.cl, M.a2, lk2 .., ?_⟩
        refine ⟨_, rfl, a, C, dx, _, _, rfl, ha4, M.cl, M.a3, lk3 .., ?_⟩
        obtain ⟨L0, g1, g2, g3, g4, g5, g6⟩ := sorted_parts (K := K) mk (lt_nodup o injL) (by rw [List.length_map, List.length_map]; exact fewL)
        refine ⟨_, rfl, R, L0, rfl, g1, g2, g3, g4, g5, fun ys p0 pm srt np => ?_⟩
        obtain ⟨ks, er, e3, g7⟩ := g6 ys p0 pm srt np
        rw [er]
        refine ⟨p0, _, rfl, .inl ⟨SqL.of upd_same, fun l3 nl3 => ?_⟩⟩
        obtain ⟨S5, hM5⟩ := g7 l3 nl3
        refine make_in hM5 ((ok_lt o injL fun m hm => (hg _ (lin m hm)).2).onM e3) fun x H6 S6 nx M6 => ?_
        have S15 := S1.trans (S3.trans (S4.trans S5))
        exact k H6 x ks (S15.trans S6) (none_back S15 nx) e3 M6
  obtain ⟨t, h1, h2⟩ := main
  exact ⟨t, h1.nox, h2⟩
end
end Vk
set_option Elab.async false
set_option linter.all false
set_option maxRecDepth 100000
set_option maxHeartbeats 4000000
namespace Vk
open PySem PySem.Spec PyProof.Rows L2 Vt
abbrev sWith : Stmt := top8 47
theorem paired_imp {α β : Type} {F G : α → β → Prop} (h : ∀ a b, F a b → G a b) : ∀ {xs : List α} {ys : List β}, Paired F xs ys → Paired G xs ys
  | _, _, .nil => .nil
  | _, _, .cons r t => .cons (h _ _ r) (paired_imp h t)
theorem paired_app {α β : Type} {F : α → β → Prop} : ∀ {xs xs' : List α} {ys ys' : List β}, Paired F xs ys → Paired F xs' ys' → Paired F (xs ++ xs') (ys ++ ys')
  | _, _, _, _, .nil, q => q
  | _, _, _, _, .cons r t, q => .cons r (paired_app t q)
/-- texts of one letter, in a list -/
def nT (l : List Nat) : List V := l.map fun c => V.str (sg c)
theorem flat_nT : ∀ l : List Nat, (nT l).all flatV = true
  | [] => rfl
  | x :: l => by
    show (flatV (.str (sg x)) && (nT l).all flatV) = true
    rw [flat_nT l] <;> rfl
theorem eqV_sg (x y : Nat) : eqV (.str (sg y)) (.str (sg x)) = decide (y = x) := by
  show (sg y == sg x) = decide (y = x)
  rw [Bool.eq_iff_iff, beq_iff_eq, decide_eq_true_eq]
  exact ⟨sg_inj, fun e => by rw [e]⟩
theorem idx_le2 : ∀ {l : List Nat} {m y : Nat}, l[m]? = some y → l.idxOf y ≤ m
  | [], _, _, h => by cases h
  | x :: l, 0, y, h => by
    injection h with h
    subst h
    rw [List.idxOf_cons_self]
    exact Nat.le_refl _
  | x :: l, m + 1, y, h => by
    have ih := idx_le2 (l := l) (m := m) (y := y) h
    rw [List.idxOf_cons]
    cases (x == y) with
    | true => exact Nat.zero_le _
    | false => exact Nat.succ_le_succ ih
theorem idx_nT {l : List Nat} {x : Nat} (h : x ∈ l) : (nT l)[l.idxOf x]? = some (.str (sg x)) ∧ eqV (.str (sg x)) (.str (sg x)) = true ∧ ∀ (m : Nat) (z' : V), m < l.idxOf x → (nT l)[m]? = some z' → eqV z' (.str (sg x)) = false := by
  refine ⟨?_, by rw [eqV_sg, decide_eq_true rfl], fun m z' hm hz => ?_⟩
  · unfold nT
    rw [List.getElem?_map, idx_get h] <;> rfl
  · unfold nT at hz
    rw [List.getElem?_map] at hz
    obtain ⟨y, hy, rfl⟩ := Option.map_eq_some_iff.mp hz
    rw [eqV_sg]
    refine decide_eq_false fun e => ?_
    subst e
    have h2 : l.idxOf y ≤ m := idx_le2 hy
    omega
/-- the letters' own list -/
theorem own_are {ys : List Str} {ms : List (Addr × Mv)} (hc : ∀ p ∈ ms, p.2.c ≤ 122) (hy : ∀ y, y ∈ ys ↔ ∃ p ∈ ms, y = sg p.2.c) (nd : ys.Nodup) (srt : ys.Pairwise (fun x y => leS x y = true)) : ys = (lettersM ms).map sg := by
  have h := letters_are hc hy nd srt
  have ey : ys = (ys.map fun y => y.cps.toList.headD 0).map sg := by
    rw [List.map_map]
    refine (List.map_id ys).symm.trans (List.map_congr_left fun y h => ?_)
    obtain ⟨p, _, rfl⟩ := (hy y).mp h
    rfl
  rw [ey, join_sg] at h
  rw [h] at ey
  exact ey
/-- the letter of signs that stands for another one -/
def zF (zs cs : List Nat) (c : Nat) : Nat := zs.getD (cs.idxOf c) 0
theorem zF_at {zs cs : List Nat} (h : cs.length ≤ zs.length) {c : Nat} (hc : c ∈ cs) : zs[cs.idxOf c]? = some (zF zs cs c) := by
  have := List.idxOf_lt_length_iff.mpr hc
  unfold zF
  rw [List.getD_eq_getElem?_getD, List.getElem?_eq_getElem (by omega)]
  rfl
theorem zF_in {zs cs : List Nat} (h : cs.length ≤ zs.length) {c : Nat} (hc : c ∈ cs) : zF zs cs c ∈ zs := List.mem_of_getElem? (zF_at h hc)
theorem zF_inj {zs cs : List Nat} (h : cs.length ≤ zs.length) (nd : zs.Nodup) {x y : Nat} (hx : x ∈ cs) (hy : y ∈ cs) (e : zF zs cs x = zF zs cs y) : x = y := by
  have h1 := zF_at h hx
  have h2 := zF_at h hy
  have i1 := List.idxOf_lt_length_iff.mpr hx
  have qq : zs[cs.idxOf x]? = zs[cs.idxOf y]? := by rw [h1, h2, e]
  have ee := (List.getElem?_inj (show cs.idxOf x < zs.length by omega) nd).mp qq
  have g1 := List.getElem?_eq_getElem i1
  have g2 := List.getElem?_eq_getElem (List.idxOf_lt_length_iff.mpr hy)
  rw [List.getElem_idxOf] at g1 g2
  rw [ee, g2] at g1
  exact (Option.some.inj g1).symm
section
variable {P : Program} {w : World} {K : PySem.W.Frag} {mg : Str → Option Value} {base : Heap}
/-- a plan with other letters -/
def spWith (K : PySem.W.Frag) : Sp := fun vs H Q _ => ∃ (q l : Addr) (n st la : Nat) (ms : List (Addr × Mv)) (z : Str), vs = [.ref q, .str z] ∧ H q = some (.dK (planK n st la l)) ∧ MvsAt K H l ms ∧ OkM n st la ms ∧ (lettersM ms).length ≤ z.cps.toList.length ∧ z.cps.toList.length ≤ 26 ∧ z.cps.toList.Nodup ∧
  ∀ (H' : Hp) (q' l' : Addr) (ks : List (Addr × Mv)), Same H H' → H q' = none → H' q' = some (.dK (planK n st la l')) → MvsAt K H' l' ks → mL ks = ltL (zF z.cps.toList (lettersM ms)) (mL ms) → Q (.ref q') H'
theorem scWi : FnScope ["_law_w", "_law_signs", "_law_own", "_law_ways", "_law_s", "_law_x", "_law_t"] ["_law_w", "_law_signs"] (defScope sWith) := ⟨rfl, rfl, rfl, by decide +kernel, rfl, by decide +kernel, by decide +kernel⟩
theorem ok_with {f : Addr} {fd : FuncData} (F : Fun K "_law_with" "_law_with" sWith f fd) (T : Txt8 K mg) (tDict : mg "dict" = none) : FnOk P w K mg base CX0 1 f fd ["_law_w", "_law_signs"] (spWith K) := by
  refine F.ok scWi (fun vs H Q E h => ?_) (fun cdv A outer s H vs Q E hr h => ?_)
  · obtain ⟨q, l, n, st, la, ms, z, rfl, _⟩ := h
    rfl
  · obtain ⟨q, l, n, st, la, ms, z, rfl, hq, hM, ok, lz, z26, znd, k⟩ := h
    have hu := hu_of hr
    have o : OkL n st la (mL ms) := ok.onL
    have few := ok.few
    have lin := let_in ok
    refine ⟨_, (pss_cons (ps_set (i := 2) scWi.nd rfl (.inr rfl) (pe_callB (cr_sortedTx (by rfl) hr.units) (by rfl) T.srt (by decide +kernel) (pa_cons (pe_callTy (cr_setLT (by rfl)) (by rfl) T.set (by decide +kernel) (pa_cons (pe_lc (own := [("_law_s", 4), ("_law_x", 5), ("_law_t", 6)]) (g := (gTup K 3 (gCons (gName 4) (gCons (gName 5) (gCons (gName 6) gNil))))) (by rfl) scWi.nd (pi_tup (pe_dget hu (pv 0) pe_str (fun _ _ => rfl))) (blkOk_by (own := [("_law_s", 4), ("_law_x", 5), ("_law_t", 6)]) (N := ["_law_w", "_law_signs", "_law_own", "_law_ways", "_law_s", "_law_x", "_law_t"]) (sc := defScope sWith) (by decide +kernel)) (fun _ _ _ _ _ => (pg_tup (by rfl) (pgs_cons (pg_name (i := 4) scWi.nd rfl (.inl rfl)) (pgs_cons (pg_name (i := 5) scWi.nd rfl (.inl rfl)) (pgs_cons (pg_name (i := 6) scWi.nd rfl (.inl rfl)) pgs_nil))))) (fun _ _ _ _ _ => pts_nil) (fun _ _ _ _ _ => (pv 5))) pa_nil)) pa_nil)))
        (pss_cons (ps_set (i := 3) scWi.nd rfl (.inl rfl) (pe_callTy call_tuple_of (by rfl) T.tup (by decide +kernel) (pa_cons (pe_callB (cr_sortedL hr.units) (by rfl) T.srt (by decide +kernel) (pa_cons (pe_lc (own := [("_law_s", 4), ("_law_x", 5), ("_law_t", 6)]) (g := (gTup K 3 (gCons (gName 4) (gCons (gName 5) (gCons (gName 6) gNil))))) (by rfl) scWi.nd (pi_tup (pe_dget hu (pv 0) pe_str (fun _ _ => rfl))) (blkOk_by (own := [("_law_s", 4), ("_law_x", 5), ("_law_t", 6)]) (N := ["_law_w", "_law_signs", "_law_own", "_law_ways", "_law_s", "_law_x", "_law_t"]) (sc := defScope sWith) (by decide +kernel)) (fun _ _ _ _ _ => (pg_tup (by rfl) (pgs_cons (pg_name (i := 4) scWi.nd rfl (.inl rfl)) (pgs_cons (pg_name (i := 5) scWi.nd rfl (.inl rfl)) (pgs_cons (pg_name (i := 6) scWi.nd rfl (.inl rfl)) pgs_nil))))) (fun _ _ _ _ _ => pts_nil) (fun _ _ _ _ _ => (pe_tup (pa_cons (pv 4) (pa_cons (pe_ix ix_str (pv 1) (pe_index (K := K) (by rfl) (pv 2) (pa_cons (pv 5) pa_nil) (by rfl) (by rfl) (by rfl) (by rfl) (by rfl)) (fun _ _ => rfl)) (pa_cons (pv 6) pa_nil)))))) pa_nil)) pa_nil)))
        (pss_one (ps_ret (pe_callTy (call_dictP (by rfl)) (by rfl) tDict (by decide +kernel) (pa_cons (pe_op op_cat (LiI.pe_listItems (by rfl) (pv 0) (by rfl) T.lst (by decide +kernel)) (pe_lst (pa_cons (pe_tup (pa_cons pe_str (pa_cons (pv 3) pa_nil))) pa_nil))) pa_nil)))))), ?_⟩
    refine ⟨_, rfl, q, _, rfl, plan_get hq (v_moves ..), l, rfl, ⟨_, hM.tp⟩, fun D nD => ?_⟩
    refine lc_tup (K := K) (a := l) (xs := ms.map fun p => V.ref p.1) (fun i H' => H' = upd H D (.lst ((ms.take i).map fun p => V.str (sg p.2.c)))) rfl (fun i H' _ e => by rw [e]; exact same_seqT (same_up nD) hM.tp) ?_ ?_
    · rintro i y H' hi rfl
      rw [List.getElem?_map] at hi
      obtain ⟨p, hp, rfl⟩ := Option.map_eq_some_iff.mp hi
      have hit := same_seqT (same_up (o := .lst ((ms.take i).map fun p => V.str (sg p.2.c))) nD) (hM.it p (List.mem_of_getElem? hp))
      have il : i < ms.length := (List.getElem?_eq_some_iff.mp hp).1
      refine ⟨p.1, _, rfl, hit, rfl, _, _, rfl, _, _, rfl, _, _, rfl, rfl, rfl, _, rfl, _, upd_same, by rw [List.length_map, List.length_take, sizeLine_eq]; omega, ?_⟩
      rw [upd_upd, List.take_add_one, hp, List.map_append] <;> rfl
    rintro H2 rfl
    rw [List.length_map, List.take_length]
    have S2 : Same H (upd H D (.lst (ms.map fun p => V.str (sg p.2.c)))) := same_up nD
    have mm : (ms.map fun p => V.str (sg p.2.c)) = (ms.map fun p => sg p.2.c).map V.str := by rw [List.map_map] <;> rfl
    refine ⟨D, ms.map fun p => sg p.2.c, rfl, SqL.of (by rw [upd_same, mm]), by rw [List.length_map]; unfold scanBound; omega, fun S nS => ?_⟩
    have S3 := S2.trans (same_up (o := SetSO P w S (Vs.putL [] (ms.map fun p => sg p.2.c))) nS)
    refine ⟨S, _, rfl, upd_same, fun ys p pm nd srt np => ?_⟩
    have S4 := S3.trans (same_up (o := .lst (ys.map V.str)) np)
    have hp : upd (upd (upd H D (.lst (ms.map fun p => V.str (sg p.2.c)))) S (SetSO P w S (Vs.putL [] (ms.map fun p => sg p.2.c)))) p (.lst (ys.map V.str)) p = some (.lst (ys.map V.str)) := upd_same
    have ey : ys = (lettersM ms).map sg := by
      refine own_are (fun p hp => (ok.ok p hp).2.2.2) (fun y => ?_) nd srt
      rw [pm.mem_iff, Vs.mem_putL]
      refine ⟨fun h => ?_, fun ⟨p, hp, e⟩ => .inr (List.mem_map.mpr ⟨p, hp, e.symm⟩)⟩
      rcases h with z | z
      · cases z
      · obtain ⟨p, hp, e⟩ := List.mem_map.mp z
        exact ⟨p, hp, e.symm⟩
    obtain ⟨H4, eH4⟩ : ∃ H4, H4 = upd (upd (upd H D (.lst (ms.map fun p => V.str (sg p.2.c)))) S (SetSO P w S (Vs.putL [] (ms.map fun p => sg p.2.c)))) p (.lst (ys.map V.str)) := ⟨_, rfl⟩
    rw [← eH4] at S4 hp
    erw [← eH4]
    clear eH4
    have hO : H4 p = some (.lst (nT (lettersM ms))) := by
      rw [hp, ey, List.map_map] <;> rfl
    refine go_name ?_
    dsimp only
    refine go_seq ?_
    have hq4 := S4 _ _ hq
    have hM4 : MvsAt K H4 l ms := ⟨same_seqT S4 hM.tp, fun p hp => same_seqT S4 (hM.it p hp)⟩
    refine ⟨_, rfl, q, _, rfl, plan_get hq4 (v_moves ..), l, rfl, ⟨_, hM4.tp⟩, fun R nR => ?_⟩
    obtain ⟨g, eg⟩ : ∃ g, g = zF z.cps.toList (lettersM ms) := ⟨_, rfl⟩
    refine lc_tup (K := K) (a := l) (xs := ms.map fun p => V.ref p.1) (fun i H2 => MkL H4 H2 R (((mL ms).take i).map (ltM g))) ⟨[], rfl, same_up nR, upd_same, fun p hp => nomatch hp⟩ (fun i H2 _ mk => same_seqT mk.same hM4.tp) ?_ ?_
    · rintro i y H2 hi ⟨qs, eq, S, hR, rows⟩
      rw [List.getElem?_map] at hi
      obtain ⟨p1, hp1, rfl⟩ := Option.map_eq_some_iff.mp hi
      have pm2 := List.mem_of_getElem? hp1
      have hpL : (mL ms)[i]? = some p1.2 := by rw [List.getElem?_map, hp1] <;> rfl
      have cm := lin _ (inL pm2)
      obtain ⟨i1, i2, i3⟩ := idx_nT cm
      have hO' := S _ _ hO
      have hz : atI z.cps.toList (((lettersM ms).idxOf p1.2.c : Nat) : Int) = some (g p1.2.c) := by
        rw [eg]
        exact atI_nat (zF_at lz cm)
      refine ⟨p1.1, _, rfl, same_seqT S (hM4.it p1 pm2), rfl, _, _, rfl, _, _, rfl, _, _, rfl, rfl, rfl, ?_⟩
      refine ⟨_, rfl, _, rfl, _, rfl, .inl ⟨rfl, _, SqL.of hO'⟩, _, rfl, p, _, _, _, _, rfl, rfl, SqL.of hO', rfl, flat_nT _, i1, i2, i3, z, _, _, rfl, rfl, ?_, hz, _, rfl, by show 3 ≤ sizeLine; decide, fun q2 nq2 => ?_⟩
      · show z.cps.size ≤ sizeLine
        rw [← Array.length_toList, sizeLine_eq]
        omega
      have nRq : R ≠ q2 := ne_of_none hR nq2
      have lq : qs.length < 3999 := by
        have h1 := congrArg List.length eq
        rw [List.length_map, List.length_map, List.length_take] at h1
        have il : i < ms.length := (List.getElem?_eq_some_iff.mp hp1).1
        omega
      refine ⟨_, by rw [upd_ne nRq]; exact hR, by rw [List.length_map, sizeLine_eq]; omega, ?_⟩
      rw [take_at hpL, List.map_append]
      exact mkL_add (m := ltM g p1.2) eq S hR rows nR nq2
    rintro H5 mk
    rw [List.length_map, List.take_of_length_le (by rw [List.length_map]; exact Nat.le_refl _)] at mk
    have S5 := mk.same
    have injL : ∀ m ∈ mL ms, ∀ k ∈ mL ms, g m.c = g k.c → m.c = k.c := fun m hm k hk e => zF_inj lz znd (lin m hm) (lin k hk) (by rw [← eg]; exact e)
    obtain ⟨L0, g1, g2, g3, g4, g5, g6⟩ := sorted_parts (K := K) mk (lt_nodup o injL) (by rw [List.length_map, List.length_map]; exact few)
    refine ⟨R, L0, rfl, g1, g2, g3, g4, g5, fun ys p0 pm srt np => ?_⟩
    obtain ⟨ks, er, e3, g7⟩ := g6 ys p0 pm srt np
    rw [er]
    refine ⟨p0, _, rfl, .inl ⟨SqL.of upd_same, fun l3 nl3 => ?_⟩⟩
    obtain ⟨S6, hM6⟩ := g7 l3 nl3
    have S16 := S4.trans (S5.trans S6)
    generalize upd (upd H5 p0 (.lst (ks.map fun q => V.ref q.1))) l3 (.tup (ks.map fun q => V.ref q.1)) = H6 at S6 hM6 S16 ⊢
    refine go_name ?_
    dsimp only
    have hq6 := S16 _ _ hq
    refine ⟨_, rfl, q, _, rfl, hq6, fun H7 p7 ts keep np7 nts pn hp7 prs => ?_⟩
    have S7 : Same H6 H7 := keep
    refine ⟨_, rfl, by show 2 ≤ sizeLine; decide, fun t nt => ?_⟩
    have S8 := same_up (o := .tup [V.str "moves", .ref l3]) nt
    refine ⟨by show 1 ≤ sizeLine; decide, fun b nb => ?_⟩
    have S9 := S8.trans (same_up (o := .lst [.ref t]) nb)
    have hb9 : upd (upd H7 t (.tup [V.str "moves", .ref l3])) b (.lst [.ref t]) b = some (.lst [.ref t]) := upd_same
    have ht9 : upd (upd H7 t (.tup [V.str "moves", .ref l3])) b (.lst [.ref t]) t = some (.tup [V.str "moves", .ref l3]) := (same_up nb) _ _ upd_same
    generalize upd (upd H7 t (.tup [V.str "moves", .ref l3])) b (.lst [.ref t]) = H9 at S9 hb9 ht9 ⊢
    have tl : ts.length = 4 := Paired.length prs
    refine ⟨p7, b, _, _, rfl, rfl, S9 _ _ hp7, hb9, by rw [List.length_map, tl]; show 4 + 1 ≤ sizeLine; decide, fun r nr => ?_⟩
    have S10 := same_up (o := .lst (ts.map V.ref ++ [.ref t])) nr
    have em : mergeK [] (planK n st la l ++ [((Sum.inr "moves" : Key), V.ref l3)]) = planK n st la l3 := by rfl
    refine ⟨r, ts ++ [t], planK n st la l ++ [((Sum.inr "moves" : Key), V.ref l3)], rfl, SqL.of (by rw [upd_same, List.map_append] <;> rfl), ?_, fun x nx => ?_⟩
    · refine paired_app (paired_imp (fun a kv h => SqT.of (S10 _ _ (S9 _ _ h))) prs) (.cons (SqT.of (S10 _ _ ht9)) .nil)
    rw [em]
    have S11 := S10.trans (same_up (o := .dK (planK n st la l3)) nx)
    have S20 := S16.trans (S7.trans (S9.trans S11))
    have S19 := S7.trans (S9.trans S11)
    refine k _ x l3 ks S20 (none_back (S16.trans (S7.trans (S9.trans S10))) nx) upd_same ⟨same_seqT S19 hM6.tp, fun p hp => same_seqT S19 (hM6.it p hp)⟩ ?_
    rw [← eg]
    exact e3
end
end Vk
set_option Elab.async false
set_option linter.all false
set_option maxRecDepth 100000
set_option maxHeartbeats 4000000
namespace Vk
open PySem PySem.Spec PyProof.Rows L2 Vt
abbrev sLJoin : Stmt := top8 48
/-- what the law's own loops put into its list for a pair of states -/
def partA (n2 : Nat) (A : List Mv) (i j : Nat) : List Mv := (A.filter fun m => decide (m.s = i)).map (mvA n2 j)
def partB (n2 : Nat) (B : List Mv) (i j : Nat) : List Mv := (B.filter fun m => decide (m.s = j)).map (mvB n2 i)
def rowP (n2 : Nat) (A B : List Mv) (i k : Nat) : List Mv := (List.range k).flatMap fun j => partA n2 A i j ++ partB n2 B i j
def lawP (n1 n2 : Nat) (A B : List Mv) : List Mv := (List.range n1).flatMap fun i => rowP n2 A B i n2
theorem mem_partA {n2 i j : Nat} {A : List Mv} {m : Mv} : m ∈ partA n2 A i j ↔ ∃ a ∈ A, a.s = i ∧ mvA n2 j a = m := by
  unfold partA
  rw [List.mem_map]
  refine ⟨fun ⟨a, h, e⟩ => ?_, fun ⟨a, h, e1, e⟩ => ⟨a, List.mem_filter.mpr ⟨h, decide_eq_true e1⟩, e⟩⟩
  obtain ⟨h1, h2⟩ := List.mem_filter.mp h
  exact ⟨a, h1, of_decide_eq_true h2, e⟩
theorem mem_partB {n2 i j : Nat} {B : List Mv} {m : Mv} : m ∈ partB n2 B i j ↔ ∃ b ∈ B, b.s = j ∧ mvB n2 i b = m := by
  unfold partB
  rw [List.mem_map]
  refine ⟨fun ⟨a, h, e⟩ => ?_, fun ⟨a, h, e1, e⟩ => ⟨a, List.mem_filter.mpr ⟨h, decide_eq_true e1⟩, e⟩⟩
  obtain ⟨h1, h2⟩ := List.mem_filter.mp h
  exact ⟨a, h1, of_decide_eq_true h2, e⟩
theorem mem_lawP {n1 st1 la1 n2 st2 la2 : Nat} {A B : List Mv} (oA : OkL n1 st1 la1 A) (oB : OkL n2 st2 la2 B) {m : Mv} : m ∈ lawP n1 n2 A B ↔ m ∈ rawP n1 A n2 B := by
  rw [mem_rawP]
  unfold lawP rowP
  simp only [List.mem_flatMap, List.mem_append, mem_partA, mem_partB, List.mem_range]
  refine ⟨fun ⟨i, hi, j, hj, h⟩ => ?_, fun h => ?_⟩
  · rcases h with ⟨a, ha, e1, e⟩ | ⟨b, hb, e1, e⟩
    · exact .inl ⟨a, ha, j, hj, e⟩
    · exact .inr ⟨b, hb, i, hi, e⟩
  · rcases h with ⟨a, ha, j, hj, e⟩ | ⟨b, hb, i, hi, e⟩
    · exact ⟨a.s, (oA.ok a ha).1, j, hj, .inl ⟨a, ha, rfl, e⟩⟩
    · exact ⟨i, hi, b.s, (oB.ok b hb).1, .inr ⟨b, hb, rfl, e⟩⟩
theorem src_part {n2 i j : Nat} {A B : List Mv} {m : Mv} (h : m ∈ partA n2 A i j ++ partB n2 B i j) : m.s = i * n2 + j := by
  rcases List.mem_append.mp h with h | h
  · obtain ⟨a, _, e1, rfl⟩ := mem_partA.mp h
    rw [← e1] <;> rfl
  · obtain ⟨b, _, e1, rfl⟩ := mem_partB.mp h
    rw [← e1] <;> rfl
theorem law_nodup {n1 st1 la1 n2 st2 la2 : Nat} {A B : List Mv} (oA : OkL n1 st1 la1 A) (oB : OkL n2 st2 la2 B) (ap : Apart A B) : (lawP n1 n2 A B).Nodup := by
  have nA := nodup_up oA.asc
  have nB := nodup_up oB.asc
  have mvAi : ∀ j x y, mvA n2 j x = mvA n2 j y → (⟨x.s * n2 + j, x.c, x.t * n2 + j⟩ : Mv) = ⟨y.s * n2 + j, y.c, y.t * n2 + j⟩ := fun _ _ _ e => e
  unfold lawP rowP List.Nodup
  rw [List.pairwise_flatMap]
  refine ⟨fun i hi => ?_, ?_⟩
  · rw [List.pairwise_flatMap]
    refine ⟨fun j hj => ?_, ?_⟩
    · rw [List.pairwise_append]
      refine ⟨?_, ?_, fun x hx y hy e => ?_⟩
      · refine nodup_of_inj (List.Pairwise.filter _ nA) fun x hx y hy e => ?_
        have x1 := of_decide_eq_true (List.mem_filter.mp hx).2
        have y1 := of_decide_eq_true (List.mem_filter.mp hy).2
        have e2 := congrArg Mv.c e
        exact oA.e0 x (List.mem_filter.mp hx).1 y (List.mem_filter.mp hy).1 (x1.trans y1.symm) e2
      · refine nodup_of_inj (List.Pairwise.filter _ nB) fun x hx y hy e => ?_
        have x1 := of_decide_eq_true (List.mem_filter.mp hx).2
        have y1 := of_decide_eq_true (List.mem_filter.mp hy).2
        have e2 := congrArg Mv.c e
        exact oB.e0 x (List.mem_filter.mp hx).1 y (List.mem_filter.mp hy).1 (x1.trans y1.symm) e2
      · obtain ⟨a, ha, _, rfl⟩ := mem_partA.mp hx
        obtain ⟨b, hb, _, rfl⟩ := mem_partB.mp hy
        have e2 := congrArg Mv.c e
        exact ap a ha b hb e2
    · refine List.Pairwise.imp_of_mem (fun {j j'} hj hj' lt x hx y hy e => ?_) List.pairwise_lt_range
      have h1 := src_part hx
      have h2 := src_part hy
      rw [e, h2] at h1
      omega
  · refine List.Pairwise.imp_of_mem (fun {i i'} hi hi' lt x hx y hy e => ?_) List.pairwise_lt_range
    obtain ⟨j, hj, hx⟩ := List.mem_flatMap.mp hx
    obtain ⟨j', hj', hy⟩ := List.mem_flatMap.mp hy
    have h1 := src_part hx
    have h2 := src_part hy
    rw [e, h2] at h1
    have := (pair_inj (List.mem_range.mp hj') (List.mem_range.mp hj) h1).1
    omega
theorem law_sort {n1 st1 la1 n2 st2 la2 : Nat} {A B : List Mv} (oA : OkL n1 st1 la1 A) (oB : OkL n2 st2 la2 B) (ap : Apart A B) : sortL (lawP n1 n2 A B) = prodL n1 A n2 B := sortL_eq (law_nodup oA oB ap) (raw_nodup oA oB ap) fun _ => mem_lawP oA oB
theorem law_len {n1 st1 la1 n2 st2 la2 : Nat} {A B : List Mv} (oA : OkL n1 st1 la1 A) (oB : OkL n2 st2 la2 B) (ap : Apart A B) : (lawP n1 n2 A B).length = A.length * n2 + B.length * n1 := by
  rw [← sortL_len, law_sort oA oB ap, prod_len]
theorem row_le {n1 st1 la1 n2 st2 la2 : Nat} {A B : List Mv} (oA : OkL n1 st1 la1 A) (oB : OkL n2 st2 la2 B) (ap : Apart A B) {i k : Nat} (hi : i < n1) (hk : k ≤ n2) : (((List.range i).flatMap fun i => rowP n2 A B i n2) ++ rowP n2 A B i k).length ≤ A.length * n2 + B.length * n1 := by
  rw [← law_len oA oB ap]
  have p1 : ∀ (d a : Nat), ((List.range a).flatMap fun i => rowP n2 A B i n2).length ≤ ((List.range (a + d)).flatMap fun i => rowP n2 A B i n2).length := fun d a => by
    induction d with
    | zero => exact Nat.le_refl _
    | succ d ih =>
      rw [← Nat.add_assoc, List.range_succ, List.flatMap_append, List.length_append]
      omega
  have p2 : ∀ (d a : Nat), (rowP n2 A B i a).length ≤ (rowP n2 A B i (a + d)).length := fun d a => by
    induction d with
    | zero => exact Nat.le_refl _
    | succ d ih =>
      unfold rowP at ih ⊢
      rw [← Nat.add_assoc, List.range_succ, List.flatMap_append, List.length_append]
      omega
  have q1 := p1 (n1 - (i + 1)) (i + 1)
  rw [Nat.add_sub_cancel' (by omega)] at q1
  have q2 := p2 (n2 - k) k
  rw [Nat.add_sub_cancel' hk] at q2
  rw [List.range_succ, List.flatMap_append, List.flatMap_cons, List.flatMap_nil, List.append_nil, List.length_append] at q1
  rw [List.length_append]
  unfold lawP
  omega
/-- a list of moves is taken into another one -/
theorem mkL_ext {H H2 H3 : Hp} {R : Addr} {l l2 : List Mv} {qs qs2 : List (Addr × Mv)} (eq : qs.map (·.2) = l) (S : Same H H2) (hR : H2 R = some (.lst (qs.map fun p => V.ref p.1))) (rows : ∀ p ∈ qs, H2 p.1 = some (.tup (mvV p.2))) (nR : H R = none)
    (eq2 : qs2.map (·.2) = l2) (S2 : Same H2 H3) (rows2 : ∀ p ∈ qs2, H3 p.1 = some (.tup (mvV p.2))) : MkL H (upd H3 R (.lst ((qs.map fun p => V.ref p.1) ++ (qs2.map fun p => V.ref p.1)))) R (l ++ l2) := by
  have hR3 := S2 _ _ hR
  refine ⟨qs ++ qs2, by rw [List.map_append, eq, eq2], fun c o z => ?_, by rw [upd_same, List.map_append], fun p hp => ?_⟩
  · rw [upd_ne (ne_of_none z nR)]
    exact S2 _ _ (S _ _ z)
  · rcases List.mem_append.mp hp with z | z
    · have y := S2 _ _ (rows p z)
      rw [upd_ne (ne_of y hR3 (fun x => by cases x))]
      exact y
    · have y := rows2 p z
      rw [upd_ne (ne_of y hR3 (fun x => by cases x))]
      exact y
end Vk
set_option Elab.async false
set_option linter.all false
set_option maxRecDepth 100000
set_option maxHeartbeats 4000000
namespace Vk
open PySem PySem.Spec PyProof.Rows L2 Vt
def planJ (n st la : Nat) (l : Addr) : List (Key × V) := [(.inr "size", .int (n : Int)), (.inr "first", .int (st : Int)), (.inr "moves", .ref l), (.inr "last", .int (la : Int))]
section
variable {P : Program} {w : World} {K : PySem.W.Frag} {mg : Str → Option Value} {base : Heap}
theorem seqT_dk {H : Hp} {b a : Addr} {kvs : List (Key × V)} {o : HO} {xs : List V} (h : SqT K H b xs) (ha : H a = some (.dK kvs)) : SqT K (upd H a o) b xs := by
  rcases h with (h | ⟨u, h⟩) | h
  · exact .inl (.inl (by rw [upd_ne (ne_of h ha (fun z => by cases z))]; exact h))
  · exact .inl (.inr ⟨u, by rw [upd_ne (ne_of h ha (fun z => by cases z))]; exact h⟩)
  · exact .inr h
/-- the law's own pairs -/
def spLJoin (K : PySem.W.Frag) : Sp := fun vs H Q _ => ∃ (q r l1 l2 : Addr) (n1 st1 la1 n2 st2 la2 : Nat) (ms1 ms2 : List (Addr × Mv)), vs = [.ref q, .ref r] ∧ H q = some (.dK (planK n1 st1 la1 l1)) ∧ H r = some (.dK (planK n2 st2 la2 l2)) ∧ MvsAt K H l1 ms1 ∧ MvsAt K H l2 ms2 ∧ OkM n1 st1 la1 ms1 ∧ OkM n2 st2 la2 ms2 ∧
  Apart (mL ms1) (mL ms2) ∧ (mL ms1).length * n2 + (mL ms2).length * n1 ≤ 3999 ∧
  ∀ (H' : Hp) (p l : Addr) (ks : List (Addr × Mv)), Same H H' → H p = none → H' p = some (.dK (planJ (n1 * n2) (st1 * n2 + st2) (la1 * n2 + la2) l)) → MvsAt K H' l ks → mL ks = prodL n1 (mL ms1) n2 (mL ms2) → Q (.ref p) H'
theorem scLj : FnScope ["_law_w", "_law_v", "_law_wide", "_law_ways", "_law_here", "_law_there", "_law_s", "_law_x", "_law_t", "_law_found"] ["_law_w", "_law_v"] (defScope sLJoin) := ⟨rfl, rfl, rfl, by decide +kernel, rfl, by decide +kernel, by decide +kernel⟩
theorem ok_ljoin {f : Addr} {fd : FuncData} (F : Fun K "_law_joined" "_law_joined" sLJoin f fd) (T : Txt8 K mg) : FnOk P w K mg base CX0 1 f fd ["_law_w", "_law_v"] (spLJoin K) := by
  refine F.ok scLj (fun vs H Q E h => ?_) (fun cdv A outer s H vs Q E hr h => ?_)
  · obtain ⟨q, r, l1, l2, n1, st1, la1, n2, st2, la2, ms1, ms2, rfl, _⟩ := h
    rfl
  · obtain ⟨q, r, l1, l2, n1, st1, la1, n2, st2, la2, ms1, ms2, rfl, hq, hr', hM1, hM2, ok1, ok2, ap, few, k⟩ := h
    have hu := hu_of hr
    have oA : OkL n1 st1 la1 (mL ms1) := ok1.onL
    have oB : OkL n2 st2 la2 (mL ms2) := ok2.onL
    have b1 := oA.n2
    have b2 := oB.n2
    refine ⟨_, (pss_cons (ps_asg (pe_tup (pa_cons (pe_dget hu (pv 1) pe_str (fun _ _ => rfl)) (pa_cons (pe_lst pa_nil) pa_nil))) (pg_tup rfl (pgs_cons (pg_name (i := 2) scLj.nd rfl (.inr rfl)) (pgs_cons (pg_name (i := 3) scLj.nd rfl (.inl rfl)) pgs_nil))))
        (pss_cons (ps_for PassesOwn.never rfl (pi_range1 (by rfl) T.rng (pa_cons (pe_dget hu (pv 0) pe_str (fun _ _ => rfl)) pa_nil)) (pg_name (i := 4) scLj.nd rfl (.inr rfl)) (pss_one (ps_for PassesOwn.never rfl (pi_range1 (by rfl) T.rng (pa_cons (pv 2) pa_nil)) (pg_name (i := 5) scLj.nd rfl (.inr rfl)) (pss_cons (ps_expr (pe_bm PySem.F.plainAttrs_list PySem.F.slot_list_extend PySem.F.type_list_extend mt_extend (pv 3) (pa_cons (pe_lc (own := [("_law_s", 6), ("_law_x", 7), ("_law_t", 8)]) (g := (gTup K 3 (gCons (gName 6) (gCons (gName 7) (gCons (gName 8) gNil))))) (by rfl) scLj.nd (pi_tup (pe_dget hu (pv 0) pe_str (fun _ _ => rfl))) (blkOk_by (own := [("_law_s", 6), ("_law_x", 7), ("_law_t", 8)]) (N := ["_law_w", "_law_v", "_law_wide", "_law_ways", "_law_here", "_law_there", "_law_s", "_law_x", "_law_t", "_law_found"]) (sc := defScope sLJoin) (by decide +kernel)) (fun _ _ _ _ _ => (pg_tup (by rfl) (pgs_cons (pg_name (i := 6) scLj.nd rfl (.inl rfl)) (pgs_cons (pg_name (i := 7) scLj.nd rfl (.inl rfl)) (pgs_cons (pg_name (i := 8) scLj.nd rfl (.inl rfl)) pgs_nil))))) (fun _ _ _ _ _ => (pts_one (pt_cmpR op_eq (pv 6) (pv 4) (nomark _)))) (fun _ _ _ _ _ => (pe_tup (pa_cons (pe_op op_add (pe_op op_mul (pv 4) (pv 2)) (pv 5)) (pa_cons (pv 7) (pa_cons (pe_op op_add (pe_op op_mul (pv 8) (pv 2)) (pv 5)) pa_nil)))))) pa_nil)))
        (pss_one (ps_expr (pe_bm PySem.F.plainAttrs_list PySem.F.slot_list_extend PySem.F.type_list_extend mt_extend (pv 3) (pa_cons (pe_lc (own := [("_law_s", 6), ("_law_x", 7), ("_law_t", 8)]) (g := (gTup K 3 (gCons (gName 6) (gCons (gName 7) (gCons (gName 8) gNil))))) (by rfl) scLj.nd (pi_tup (pe_dget hu (pv 1) pe_str (fun _ _ => rfl))) (blkOk_by (own := [("_law_s", 6), ("_law_x", 7), ("_law_t", 8)]) (N := ["_law_w", "_law_v", "_law_wide", "_law_ways", "_law_here", "_law_there", "_law_s", "_law_x", "_law_t", "_law_found"]) (sc := defScope sLJoin) (by decide +kernel)) (fun _ _ _ _ _ => (pg_tup (by rfl) (pgs_cons (pg_name (i := 6) scLj.nd rfl (.inl rfl)) (pgs_cons (pg_name (i := 7) scLj.nd rfl (.inl rfl)) (pgs_cons (pg_name (i := 8) scLj.nd rfl (.inl rfl)) pgs_nil))))) (fun _ _ _ _ _ => (pts_one (pt_cmpR op_eq (pv 6) (pv 5) (nomark _)))) (fun _ _ _ _ _ => (pe_tup (pa_cons (pe_op op_add (pe_op op_mul (pv 4) (pv 2)) (pv 5)) (pa_cons (pv 7) (pa_cons (pe_op op_add (pe_op op_mul (pv 4) (pv 2)) (pv 8)) pa_nil)))))) pa_nil))))))))
        (pss_cons (ps_set (i := 9) scLj.nd rfl (.inl rfl) (pe_disp (pps_cons pe_str (pe_op op_mul (pe_dget hu (pv 0) pe_str (fun _ _ => rfl)) (pv 2)) (pps_cons pe_str (pe_op op_add (pe_op op_mul (pe_dget hu (pv 0) pe_str (fun _ _ => rfl)) (pv 2)) (pe_dget hu (pv 1) pe_str (fun _ _ => rfl))) (pps_cons pe_str (pe_callTy call_tuple_of (by rfl) T.tup (by decide +kernel) (pa_cons (pe_callB (cr_sortedL hr.units) (by rfl) T.srt (by decide +kernel) (pa_cons (pv 3) pa_nil)) pa_nil)) pps_nil))) (by rfl) (by rfl) (fun z => by cases z) (by decide)))
        (pss_cons (ps_dput hu (pv 9) pe_str (pe_op op_add (pe_op op_mul (pe_dget hu (pv 0) pe_str (fun _ _ => rfl)) (pv 2)) (pe_dget hu (pv 1) pe_str (fun _ _ => rfl))) rfl)
        (pss_one (ps_ret (pv 9))))))), ?_⟩
    refine ⟨_, rfl, r, _, rfl, plan_get hr' (v_size ..), Nat.zero_le _, fun R nR => ⟨by show 2 ≤ sizeLine; decide, fun tq ntq => ?_⟩⟩
    have SR := (same_up (o := .lst []) nR).trans (same_up (o := .tup [.int (n2 : Int), .ref R]) ntq)
    have nRt : R ≠ tq := ne_of_none upd_same ntq
    have hR0 : upd (upd H R (.lst [])) tq (.tup [.int (n2 : Int), .ref R]) R = some (.lst []) := by rw [upd_ne nRt]; exact upd_same
    have ht0 : upd (upd H R (.lst [])) tq (.tup [.int (n2 : Int), .ref R]) tq = some (.tup [.int (n2 : Int), .ref R]) := upd_same
    generalize upd (upd H R (.lst [])) tq (.tup [.int (n2 : Int), .ref R]) = H0 at SR hR0 ht0 ⊢
    refine ⟨tq, _, rfl, SqT.of ht0, rfl, _, _, rfl, _, _, rfl, rfl, ?_⟩
    dsimp only
    refine go_seq ?_
    refine ⟨_, rfl, q, _, rfl, plan_get (SR _ _ hq) (v_size ..), (n1 : Int), rfl, by omega, by omega, ?_⟩
    rw [Int.toNat_natCast]
    refine for_range (lo := 0) (n := n1) (fun i σ H' => ∃ (v4 v5 : Option V), σ = [some (.ref q), some (.ref r), some (.int (n2 : Int)), some (.ref R), v4, v5, none, none, none, none] ∧ MkL H H' R ((List.range i).flatMap fun i => rowP n2 (mL ms1) (mL ms2) i n2)) ⟨_, _, rfl, [], rfl, SR, hR0, fun p hp => nomatch hp⟩ ?_ ?_
    · rintro i σ H1 hi ⟨v4, v5, rfl, mk1⟩
      refine ⟨_, rfl, (n2 : Int), rfl, by omega, by omega, ?_⟩
      rw [Int.toNat_natCast]
      refine for_range (lo := 0) (n := n2) (fun j σ H' => ∃ (v5 : Option V), σ = [some (.ref q), some (.ref r), some (.int (n2 : Int)), some (.ref R), some (.int (0 + (i : Nat))), v5, none, none, none, none] ∧ MkL H H' R (((List.range i).flatMap fun i => rowP n2 (mL ms1) (mL ms2) i n2) ++ rowP n2 (mL ms1) (mL ms2) i j)) ⟨_, rfl, by rw [show rowP n2 (mL ms1) (mL ms2) i 0 = [] from rfl, List.append_nil]; exact mk1⟩ ?_ ?_
      · rintro j σ H2 hj ⟨v5, rfl, mk2⟩
        have rl := row_le oA oB ap hi (show j + 1 ≤ n2 from hj)
        have re : rowP n2 (mL ms1) (mL ms2) i (j + 1) = rowP n2 (mL ms1) (mL ms2) i j ++ (partA n2 (mL ms1) i j ++ partB n2 (mL ms2) i j) := by
          unfold rowP
          rw [List.range_succ, List.flatMap_append, List.flatMap_cons, List.flatMap_nil, List.append_nil]
        rw [re] at rl ⊢
        obtain ⟨PP, ePP⟩ : ∃ PP, PP = ((List.range i).flatMap fun i => rowP n2 (mL ms1) (mL ms2) i n2) ++ rowP n2 (mL ms1) (mL ms2) i j := ⟨_, rfl⟩
        rw [← ePP] at mk2
        rw [← List.append_assoc, ← ePP, List.length_append, List.length_append] at rl
        rw [← List.append_assoc, ← ePP, ← List.append_assoc]
        have mkB : MkL H H2 R PP := mk2
        clear mk2
        obtain ⟨qs, eq, S, hR, rows⟩ := mkB
        have lqs : qs.length = PP.length := by rw [← eq, List.length_map]

        refine ⟨_, rfl, .inl ⟨rfl, _, SqL.of hR⟩, ?_⟩
        refine ⟨_, rfl, q, _, rfl, plan_get (S _ _ hq) (v_moves ..), l1, rfl, ⟨_, same_seqT S hM1.tp⟩, fun D nD => ?_⟩
        have nRD : R ≠ D := ne_of_none hR nD
        refine lc_tup (K := K) (a := l1) (xs := ms1.map fun p => V.ref p.1) (fun k H3 => MkL H2 H3 D ((((mL ms1).take k).filter fun m => decide (m.s = i)).map (mvA n2 j))) ⟨[], rfl, same_up nD, upd_same, fun p hp => nomatch hp⟩ (fun k H3 _ mk => same_seqT mk.same (same_seqT S hM1.tp)) ?_ ?_
        · rintro k y H3 hk ⟨qs2, eq2, S2, hD, rows2⟩
          rw [List.getElem?_map] at hk
          obtain ⟨p, hp, rfl⟩ := Option.map_eq_some_iff.mp hk
          have pm := List.mem_of_getElem? hp
          have hpL : (mL ms1)[k]? = some p.2 := by rw [List.getElem?_map, hp] <;> rfl
          have kl : k < ms1.length := (List.getElem?_eq_some_iff.mp hp).1
          refine ⟨p.1, _, rfl, same_seqT S2 (same_seqT S (hM1.it p pm)), rfl, _, _, rfl, _, _, rfl, _, _, rfl, rfl, rfl, ?_⟩
          refine ⟨_, rfl, _, rfl, rfl, _, rfl, ?_⟩
          have fpos : p.2.s = i → ([p.2].filter fun m => decide (m.s = i)) = [p.2] := fun e => by simp [e]
          have fneg : ¬ p.2.s = i → ([p.2].filter fun m => decide (m.s = i)) = [] := fun e => by simp [e]
          by_cases e1 : p.2.s = i
          · rw [decide_eq_true (show V.int (p.2.s : Int) = V.int (0 + (i : Nat)) by rw [e1, Int.zero_add])]
            refine iteT ?_
            refine ⟨_, rfl, _, rfl, _, _, rfl, rfl, cmul_r b2, _, rfl, _, _, rfl, rfl, _, rfl, _, rfl, _, rfl, _, _, rfl, rfl, cmul_r b2, _, rfl, _, _, rfl, rfl, by show 3 ≤ sizeLine; decide, fun q2 nq2 => ?_⟩
            have etup : ([.int ((0 + (i : Nat)) * (n2 : Int) + (0 + (j : Nat))), .str (sg p.2.c), .int ((p.2.t : Int) * (n2 : Int) + (0 + (j : Nat)))] : List V) = mvV (mvA n2 j p.2) := by
              have c1 : (0 + ((i : Nat) : Int)) * (n2 : Int) + (0 + ((j : Nat) : Int)) = ((i * n2 + j : Nat) : Int) := by
                rw [Int.natCast_add, Int.natCast_mul, Int.zero_add, Int.zero_add]
              have c2 : (p.2.t : Int) * (n2 : Int) + (0 + ((j : Nat) : Int)) = ((p.2.t * n2 + j : Nat) : Int) := by
                rw [Int.natCast_add, Int.natCast_mul, Int.zero_add]
              have c3 : (0 + ((i : Nat) : Int)) * (n2 : Int) + (p.2.t : Int) = ((i * n2 + p.2.t : Nat) : Int) := by
                rw [Int.natCast_add, Int.natCast_mul, Int.zero_add]
              first
                | rw [c1, c2, ← e1] <;> rfl
                | rw [c1, c3, ← e1] <;> rfl
            erw [etup]
            have nDq : D ≠ q2 := ne_of_none hD nq2
            have lq : qs2.length < 3999 := by
              have h1 := congrArg List.length eq2
              rw [List.length_map, List.length_map] at h1
              have h2 := List.length_filter_le (fun m : Mv => decide (m.s = i)) ((mL ms1).take k)
              rw [List.length_take] at h2
              have h3 := ok1.few
              omega
            refine ⟨_, by rw [upd_ne nDq]; exact hD, by rw [List.length_map, sizeLine_eq]; omega, ?_⟩
            rw [take_at hpL, List.filter_append, List.map_append, fpos e1]
            exact mkL_add (m := mvA n2 j p.2) eq2 S2 hD rows2 nD nq2
          · rw [decide_eq_false (show ¬ V.int (p.2.s : Int) = V.int (0 + (i : Nat)) from fun z => e1 (by injection z with z; omega))]
            refine iteF ?_
            refine ⟨qs2, ?_, S2, hD, rows2⟩
            rw [take_at hpL, List.filter_append, List.map_append, fneg e1, List.map_nil, List.append_nil]
            exact eq2
        rintro H3 ⟨qs2, eq2, S2, hD, rows2⟩
        rw [List.length_map, List.take_of_length_le (by rw [List.length_map]; exact Nat.le_refl _)] at eq2

        have lq2 : qs2.length = (partA n2 (mL ms1) i j).length := by
          have := congrArg List.length eq2
          rw [List.length_map] at this
          exact this
        have mk3 := mkL_ext eq S hR rows nR eq2 S2 rows2
        refine ⟨R, D, _, _, rfl, rfl, S2 _ _ hR, hD, by rw [List.length_map, List.length_map, sizeLine_eq]; omega, ?_⟩
        refine go_seq ?_
        have mk4 : MkL H (upd H3 R (.lst ((qs.map fun p => V.ref p.1) ++ (qs2.map fun p => V.ref p.1)))) R (PP ++ partA n2 (mL ms1) i j) := mk3
        clear mk3
        generalize upd H3 R (.lst ((qs.map fun p => V.ref p.1) ++ (qs2.map fun p => V.ref p.1))) = H2 at mk4 ⊢
        obtain ⟨QA, eQA⟩ : ∃ QA, QA = PP ++ partA n2 (mL ms1) i j := ⟨_, rfl⟩
        rw [← eQA] at mk4 ⊢
        have lQA : QA.length = PP.length + (partA n2 (mL ms1) i j).length := by rw [eQA, List.length_append]
        obtain ⟨qs, eq, S, hR, rows⟩ := mk4
        have lqs : qs.length = QA.length := by rw [← eq, List.length_map]

        refine ⟨_, rfl, .inl ⟨rfl, _, SqL.of hR⟩, ?_⟩
        refine ⟨_, rfl, r, _, rfl, plan_get (S _ _ hr') (v_moves ..), l2, rfl, ⟨_, same_seqT S hM2.tp⟩, fun D nD => ?_⟩
        have nRD : R ≠ D := ne_of_none hR nD
        refine lc_tup (K := K) (a := l2) (xs := ms2.map fun p => V.ref p.1) (fun k H3 => MkL H2 H3 D ((((mL ms2).take k).filter fun m => decide (m.s = j)).map (mvB n2 i))) ⟨[], rfl, same_up nD, upd_same, fun p hp => nomatch hp⟩ (fun k H3 _ mk => same_seqT mk.same (same_seqT S hM2.tp)) ?_ ?_
        · rintro k y H3 hk ⟨qs2, eq2, S2, hD, rows2⟩
          rw [List.getElem?_map] at hk
          obtain ⟨p, hp, rfl⟩ := Option.map_eq_some_iff.mp hk
          have pm := List.mem_of_getElem? hp
          have hpL : (mL ms2)[k]? = some p.2 := by rw [List.getElem?_map, hp] <;> rfl
          have kl : k < ms2.length := (List.getElem?_eq_some_iff.mp hp).1
          refine ⟨p.1, _, rfl, same_seqT S2 (same_seqT S (hM2.it p pm)), rfl, _, _, rfl, _, _, rfl, _, _, rfl, rfl, rfl, ?_⟩
          refine ⟨_, rfl, _, rfl, rfl, _, rfl, ?_⟩
          have fpos : p.2.s = j → ([p.2].filter fun m => decide (m.s = j)) = [p.2] := fun e => by simp [e]
          have fneg : ¬ p.2.s = j → ([p.2].filter fun m => decide (m.s = j)) = [] := fun e => by simp [e]
          by_cases e1 : p.2.s = j
          · rw [decide_eq_true (show V.int (p.2.s : Int) = V.int (0 + (j : Nat)) by rw [e1, Int.zero_add])]
            refine iteT ?_
            refine ⟨_, rfl, _, rfl, _, _, rfl, rfl, cmul_r b2, _, rfl, _, _, rfl, rfl, _, rfl, _, rfl, _, rfl, _, _, rfl, rfl, cmul_r b2, _, rfl, _, _, rfl, rfl, by show 3 ≤ sizeLine; decide, fun q2 nq2 => ?_⟩
            have etup : ([.int ((0 + (i : Nat)) * (n2 : Int) + (0 + (j : Nat))), .str (sg p.2.c), .int ((0 + (i : Nat)) * (n2 : Int) + (p.2.t : Int))] : List V) = mvV (mvB n2 i p.2) := by
              have c1 : (0 + ((i : Nat) : Int)) * (n2 : Int) + (0 + ((j : Nat) : Int)) = ((i * n2 + j : Nat) : Int) := by
                rw [Int.natCast_add, Int.natCast_mul, Int.zero_add, Int.zero_add]
              have c2 : (p.2.t : Int) * (n2 : Int) + (0 + ((j : Nat) : Int)) = ((p.2.t * n2 + j : Nat) : Int) := by
                rw [Int.natCast_add, Int.natCast_mul, Int.zero_add]
              have c3 : (0 + ((i : Nat) : Int)) * (n2 : Int) + (p.2.t : Int) = ((i * n2 + p.2.t : Nat) : Int) := by
                rw [Int.natCast_add, Int.natCast_mul, Int.zero_add]
              first
                | rw [c1, c2, ← e1] <;> rfl
                | rw [c1, c3, ← e1] <;> rfl
            erw [etup]
            have nDq : D ≠ q2 := ne_of_none hD nq2
            have lq : qs2.length < 3999 := by
              have h1 := congrArg List.length eq2
              rw [List.length_map, List.length_map] at h1
              have h2 := List.length_filter_le (fun m : Mv => decide (m.s = j)) ((mL ms2).take k)
              rw [List.length_take] at h2
              have h3 := ok2.few
              omega
            refine ⟨_, by rw [upd_ne nDq]; exact hD, by rw [List.length_map, sizeLine_eq]; omega, ?_⟩
            rw [take_at hpL, List.filter_append, List.map_append, fpos e1]
            exact mkL_add (m := mvB n2 i p.2) eq2 S2 hD rows2 nD nq2
          · rw [decide_eq_false (show ¬ V.int (p.2.s : Int) = V.int (0 + (j : Nat)) from fun z => e1 (by injection z with z; omega))]
            refine iteF ?_
            refine ⟨qs2, ?_, S2, hD, rows2⟩
            rw [take_at hpL, List.filter_append, List.map_append, fneg e1, List.map_nil, List.append_nil]
            exact eq2
        rintro H3 ⟨qs2, eq2, S2, hD, rows2⟩
        rw [List.length_map, List.take_of_length_le (by rw [List.length_map]; exact Nat.le_refl _)] at eq2

        have lq2 : qs2.length = (partB n2 (mL ms2) i j).length := by
          have := congrArg List.length eq2
          rw [List.length_map] at this
          exact this
        have mk3 := mkL_ext eq S hR rows nR eq2 S2 rows2
        refine ⟨R, D, _, _, rfl, rfl, S2 _ _ hR, hD, by rw [List.length_map, List.length_map, sizeLine_eq]; omega, ?_⟩
        exact ⟨_, rfl, mk3⟩
      · rintro σ H2 ⟨v5, rfl, mk2⟩
        refine ⟨_, _, rfl, ?_⟩
        rw [List.range_succ, List.flatMap_append, List.flatMap_cons, List.flatMap_nil, List.append_nil]
        exact mk2
    · rintro σ H1 ⟨v4, v5, rfl, mk1⟩
      dsimp only
      refine go_seq ?_
      have mkL1 : MkL H H1 R (lawP n1 n2 (mL ms1) (mL ms2)) := mk1
      clear mk1
      have S1 := mkL1.same
      refine fun pd npd => ?_
      have Sp := same_up (o := .dK []) npd
      have hpd : upd H1 pd (.dK []) pd = some (.dK []) := upd_same
      have mk2 : MkL H (upd H1 pd (.dK [])) R (lawP n1 n2 (mL ms1) (mL ms2)) := by
        obtain ⟨qs, eq, S, hR, rows⟩ := mkL1
        exact ⟨qs, eq, S.trans Sp, Sp _ _ hR, fun p hp => Sp _ _ (rows p hp)⟩
      have npH := none_back S1 npd
      generalize upd H1 pd (.dK []) = H2 at Sp hpd mk2 ⊢
      have S2 := mk2.same
      have hq2 := S2 _ _ hq
      have hr2 := S2 _ _ hr'
      refine ⟨_, rfl, q, _, rfl, plan_get hq2 (v_size ..), _, rfl, _, _, rfl, rfl, cmul_r b2, ?_⟩
      refine ⟨_, rfl, q, _, rfl, plan_get hq2 (v_first ..), _, rfl, _, _, rfl, rfl, cmul_r b2, _, rfl, r, _, rfl, plan_get hr2 (v_first ..), _, _, rfl, rfl, ?_⟩
      obtain ⟨L0, g1, g2, g3, g4, g5, g6⟩ := sorted_parts (K := K) mk2 (law_nodup oA oB ap) (by rw [law_len oA oB ap]; exact few)
      refine ⟨_, rfl, R, L0, rfl, g1, g2, g3, g4, g5, fun ys p0 pm srt np => ?_⟩
      obtain ⟨ks, er, e3, g7⟩ := g6 ys p0 pm srt np
      rw [er]
      refine ⟨p0, _, rfl, .inl ⟨SqL.of upd_same, fun l3 nl3 => ?_⟩⟩
      obtain ⟨S3, hM3⟩ := g7 l3 nl3
      generalize upd (upd H2 p0 (.lst (ks.map fun q => V.ref q.1))) l3 (.tup (ks.map fun q => V.ref q.1)) = H3 at S3 hM3 ⊢
      have e1 : ∀ x y : Nat, (x : Int) * (n2 : Int) + (y : Int) = ((x * n2 + y : Nat) : Int) := fun x y => by
        rw [Int.natCast_add, Int.natCast_mul]
      have e2 : (n1 : Int) * (n2 : Int) = ((n1 * n2 : Nat) : Int) := (Int.natCast_mul _ _).symm
      refine ⟨S3 _ _ hpd, [((Sum.inr "size" : Key), V.int ((n1 * n2 : Nat) : Int)), (Sum.inr "first", V.int ((st1 * n2 + st2 : Nat) : Int)), (Sum.inr "moves", V.ref l3)], ?_, by show 3 ≤ 15; decide, ?_⟩
      · rw [← e1, ← e2]
        rfl
      have em : mergeK [] [((Sum.inr "size" : Key), V.int ((n1 * n2 : Nat) : Int)), (Sum.inr "first", V.int ((st1 * n2 + st2 : Nat) : Int)), (Sum.inr "moves", V.ref l3)] = [((Sum.inr "size" : Key), V.int ((n1 * n2 : Nat) : Int)), (Sum.inr "first", V.int ((st1 * n2 + st2 : Nat) : Int)), (Sum.inr "moves", V.ref l3)] := by rfl
      rw [em]
      refine go_name ?_
      dsimp only
      refine go_seq ?_
      have S4 : ∀ b o, H2 b = some o → b ≠ pd → upd H3 pd (.dK [((Sum.inr "size" : Key), V.int ((n1 * n2 : Nat) : Int)), (Sum.inr "first", V.int ((st1 * n2 + st2 : Nat) : Int)), (Sum.inr "moves", V.ref l3)]) b = some o := fun b o z ne => by
        rw [upd_ne ne]
        exact S3 _ _ z
      have h4 : upd H3 pd (.dK [((Sum.inr "size" : Key), V.int ((n1 * n2 : Nat) : Int)), (Sum.inr "first", V.int ((st1 * n2 + st2 : Nat) : Int)), (Sum.inr "moves", V.ref l3)]) pd = some (.dK [((Sum.inr "size" : Key), V.int ((n1 * n2 : Nat) : Int)), (Sum.inr "first", V.int ((st1 * n2 + st2 : Nat) : Int)), (Sum.inr "moves", V.ref l3)]) := upd_same
      have nq : q ≠ pd := ne_of_none (S1 _ _ hq) npd
      have nr : r ≠ pd := ne_of_none (S1 _ _ hr') npd
      refine ⟨_, rfl, q, _, rfl, plan_get (S4 _ _ hq2 nq) (v_last ..), _, rfl, _, _, rfl, rfl, cmul_r b2, _, rfl, r, _, rfl, plan_get (S4 _ _ hr2 nr) (v_last ..), _, _, rfl, rfl, ?_⟩
      refine ⟨_, rfl, pd, _, rfl, DPut.k (k := Sum.inr "last") h4 (by show 3 < sizeLine; decide), ?_⟩
      rw [upd_upd]
      refine ⟨_, rfl, k _ pd l3 ks (fun b o z => ?_) npH (by rw [upd_same, ← e1] <;> rfl) ?_ (e3.trans (law_sort oA oB ap))⟩
      · rw [upd_ne (ne_of_none z npH)]
        exact S3 _ _ (S2 _ _ z)
      · exact ⟨seqT_dk hM3.tp (S3 _ _ hpd), fun p hp => seqT_dk (hM3.it p hp) (S3 _ _ hpd)⟩
end
end Vk
set_option Elab.async false
set_option linter.all false
set_option maxRecDepth 100000
set_option maxHeartbeats 4000000
namespace Vk
open PySem PySem.Spec PyProof.Rows L2 Vt PySem.Vx ClX
abbrev sHeard : Stmt := top8 49
/-- a list display in an except suite: its place is not that of the error -/
def tLstA (a : Addr) (t : TA) : TE := fun σ H Q => t σ H fun xs H1 => xs.length ≤ sizeLine ∧ ∀ p, H1 p = none → p ≠ a → Q (.ref p) (upd H1 p (.lst xs))
theorem pe_lstS {X : Cx} {a : Addr} {oe : Obj} {pn : List (Addr × Obj)} {es : List Expr} {t : TA} {pos : Pos} (h : PA (X.suite a ((a, oe) :: pn)) es t) : PE (X.suite a ((a, oe) :: pn)) (.List es pos) (tLstA a t) := by
  refine ⟨fun pins s σ H Q I q0 => wpAny_List_spliced (thn (h.run pos pins s σ H _ I q0) fun us s1 ⟨xs, H1, I1, r, z, q⟩ => ⟨r.length ▸ z, ?_⟩)⟩
  have hf : H1 s1.heap.objs.size = none := I1.fresh
  have hn : s1.heap.objs.size ≠ a := fun e => by
    have ho := (I1.pin (a, oe) (List.mem_append_left _ List.mem_cons_self)).1
    have := Heap.lt_size ho
    rw [e] at this
    exact Nat.lt_irrefl _ this
  exact ⟨.ref s1.heap.objs.size, _, I1.laid (t' := s1.toks) (o := .lst xs) (fun b u e => Heap.get?_push_of_some _ e) (Nat.le_refl _) ⟨z, us, 0, r, Heap.get?_push_size _ rfl⟩, rfl, q _ hf hn⟩
/-! ## isinstance of the error that the suite holds -/
def rIsS (K : PySem.W.Frag) (C a : Addr) (cls : Value) (d : Option Addr) : List V → Hp → VK → Prop := fun xs H Q => ∃ (c : V) (cv : Value) (b : Bool), xs = [.ref a, c] ∧ cls = .ref C ∧ (∀ dd, d = some dd → ∃ fs, H dd = some (.xd fs)) ∧
  (∀ u, L2.RelV c u → u = cv) ∧ PySem.W.kitOne K (.ref C) cv = some b ∧ Q (.bl b) H
theorem call_isS {X : Cx} {a C : Addr} {oe : Obj} {cls : Value} {d : Option Addr} {pn : List (Addr × Obj)} (T : EcK X.K C) (hz : Zc cls d oe) (hf : ∃ vs, oe.data = .fields vs) : CallR (X.suite a ((a, oe) :: pn)) (.builtin "isinstance") (rIsS X.K C a cls d) := by
  intro pins s σ H xs us Q I r h
  obtain ⟨c, cv, b, rfl, ec, hd, hc, e, q⟩ := h
  obtain ⟨u1, u2, rfl, r1, r2⟩ := vals2 r
  cases r1
  have e2 := hc _ r2
  subst e2
  subst ec
  obtain ⟨vs, hv⟩ := hf
  have ho := (I.pin (a, oe) (List.mem_append_left _ List.mem_cons_self)).1
  have nc : PySem.W.notCls oe = true := by
    unfold PySem.W.notCls
    rw [hv] <;> rfl
  have J : ∃ od : Option Obj, PySem.W.InstAt s.heap a oe C od := by
    cases d with
    | none =>
      refine ⟨none, ho, hz.1, nc, ?_⟩
      rw [hz.2]
      trivial
    | some dd =>
      obtain ⟨fs, hx⟩ := hd dd rfl
      obtain ⟨mA, hns, hr⟩ := (show ObjOk X.prog X.w H s.heap dd (.xd fs) from I.hok dd _ hx)
      obtain ⟨od, hod, hl⟩ := lookIn_ns hns
      refine ⟨some od, ho, hz.1, nc, ?_⟩
      rw [hz.2]
      exact hod
  obtain ⟨od, J⟩ := J
  have hcl : (PySem.W.clsIn X.K C).isSome = true := by
    obtain ⟨cd, hcd, _⟩ := PySem.W.any_some T.hd
    rw [hcd]
    rfl
  exact PySem.W.kia_one (PySem.W.kitx_exc hcl T.ga T.gg T.ex T.cl T.gt T.tk T.ob) I.kIn J e (fun z => nomatch z) fun tk => ⟨.bl b, H, I.kept (t' := tk) fun _ _ z => z, rfl, q⟩
section
variable {P : Program} {w : World} {K : PySem.W.Frag} {mg : Str → Option Value} {base : Heap}
/-- the joined machine, or the letter that both have -/
def spHeard (K : PySem.W.Frag) (C : Addr) : Sp := fun vs H Q _ => ∃ (a b : Addr) (n1 st1 la1 n2 st2 la2 : Nat) (ms1 ms2 : List (Addr × Mv)), vs = [.ref a, .ref b] ∧ MachAt K C H a n1 st1 la1 ms1 ∧ MachAt K C H b n2 st2 la2 ms2 ∧ n1 * n2 ≤ 999 ∧ (mL ms1).length * n2 + (mL ms2).length * n1 ≤ 3999 ∧
  (Apart (mL ms1) (mL ms2) → ∀ (H' : Hp) (x dx : Addr) (fs : List (Str × V)), Same H H' → H' x = some (.ins C dx fs) → Q (.ref x) H') ∧
  ∀ c, LeastC (mL ms1) (mL ms2) c → ∀ (H' : Hp) (p : Addr), Same H H' → H' p = some (.lst [.str (sg c), .bl true]) → Q (.ref p) H'
theorem scHd : FnScope ["_law_near", "_law_far", "_law_found", "e"] ["_law_near", "_law_far"] (defScope sHeard) := ⟨rfl, rfl, rfl, by decide +kernel, rfl, by decide +kernel, by decide +kernel⟩
theorem ok_heard {f C CS CL fA : Addr} {fd fdA : FuncData} (F : Fun K "_law_heard" "_law_heard" sHeard f fd) (T : Txt8 K mg) (TK : EcK K CS) (gE : mg "SharedLetter" = some (.ref CS)) (hp : PySem.W.findIn K (.ref CS) "letter" = some none) (hm : PySem.W.exmOne K (.ref CS) (.ref CS) = some true)
    (gL : mg "LoopError" = some (.ref CL)) (hkL : PySem.W.kitOne K (.ref CS) (.ref CL) = some true)
    (GA : FnOk P w K mg base (L2.CX P w) 8 fA fdA ["self", "other"] (spAnd K C CS)) (sF : PySem.W.selfFirst K C = true) (sA : PySem.W.findIn K (.ref C) "__and__" = some (some (.ref fA))) (nA : PySem.W.isFn K (.ref fA) = true) (bA : Binds K fdA ["self", "other"] []) :
    FnOk P w K mg base CX0 9 f fd ["_law_near", "_law_far"] (spHeard K C) := by
  refine F.ok scHd (fun vs H Q E h => ?_) (fun cdv A outer s H vs Q E hr h => ?_)
  · obtain ⟨a, b, n1, st1, la1, n2, st2, la2, ms1, ms2, rfl, _⟩ := h
    rfl
  · obtain ⟨a, b, n1, st1, la1, n2, st2, la2, ms1, ms2, rfl, hA, hB, hn, hmv, kQ, kE⟩ := h
    refine ⟨_, (pss_cons (ps_set (i := 2) scHd.nd rfl (.inl rfl) pe_non)
      (pss_cons (ps_try_keep (i := 3) (Wout := fun _ _ _ _ => False) rfl rfl rfl scHd.nd rfl rfl ⟨rfl, by decide, .inl gE⟩ takes0
        (fun W pn xe tk _ => (pss_one (ps_set (i := 2) scHd.nd rfl (.inl rfl) (pe_andS GA hr sF sA nA bA (passAt tk) (pv 0) (pv 1)))))
        (fun a oe cls d pn hz hf => (pss_one (ps_set (i := 2) scHd.nd rfl (.inl rfl) (pe_lstS (pa_cons (pe_xf (C := CS) ⟨TK.ga, TK.gg, TK.ex, TK.hd⟩ hp hz hf (pv 3)) (pa_cons (pe_callB (call_isS TK hz hf) (by rfl) T.isi (by decide +kernel) (pa_cons (pv 3) (pa_cons (pe_glob (v := .ref CL) (by rfl) gL rfl) pa_nil))) pa_nil)))))))
      (pss_one (ps_ret (pv 2))))), ?_⟩
    obtain ⟨dx1, l1, E1, F1, z1, ha, _⟩ := hA.ob
    obtain ⟨dx2, l2, E2, F2, z2, hb, _⟩ := hB.ob
    refine ⟨_, rfl, _, rfl, a, b, dx1, _, dx2, _, rfl, rfl, ha, hb, a, b, n1, st1, la1, n2, st2, la2, ms1, ms2, rfl, hA, hB, hn, hmv, fun ap H1 x ks S1 nx e M1 => ?_, fun c lc d H1 S nd hx => ?_⟩
    · obtain ⟨dx, l, E3, F3, z, hx, _⟩ := M1.ob
      refine ⟨x, rfl, ?_⟩
      refine ⟨_, rfl, kQ ap _ x _ _ S1 hx⟩
    · refine ⟨true, hm, fun _ a ha => ?_, fun z => nomatch z⟩
      refine ⟨_, rfl, rfl, rfl, d, _, _, rfl, hx, rfl, ?_⟩
      refine ⟨_, rfl, .ref CL, .ref CL, true, rfl, rfl, fun dd e => ⟨_, by cases e; exact hx⟩, fun u r => r, hkL, ?_⟩
      refine ⟨by show 2 ≤ sizeLine; decide, fun L nL nLa => ?_⟩
      have T2 := same_up (o := .lst [.str (sg c), .bl true]) nL
      have ha2 : (upd H1 L (.lst [.str (sg c), .bl true])) a = none := by rw [upd_ne (Ne.symm nLa)]; exact ha
      have T3 := same_up (o := ExV (.ref CS) (some d) a) ha2
      exact ⟨_, rfl, kE c lc _ L (S.trans (T2.trans T3)) (T3 _ _ upd_same)⟩
end
end Vk
set_option Elab.async false
set_option linter.all false
set_option maxRecDepth 100000
set_option maxHeartbeats 4000000
namespace Vk
open PySem PySem.Spec PyProof.Rows L2 Vt
abbrev sMixed : Stmt := top8 50
theorem inV_nT (x : Nat) (l : List Nat) : inV (.str (sg x)) (nT l) = decide (x ∈ l) := by
  induction l with
  | nil => rfl
  | cons y l ih =>
    show (eqV (.str (sg y)) (.str (sg x)) || inV (.str (sg x)) (nT l)) = _
    rw [ih, eqV_sg, Bool.eq_iff_iff, Bool.or_eq_true, decide_eq_true_eq, decide_eq_true_eq, decide_eq_true_eq, List.mem_cons]
    exact ⟨fun h => h.imp Eq.symm id, fun h => h.imp Eq.symm id⟩
theorem rinT {K : PySem.W.Frag} {H : Hp} {Q : VK} {p : Addr} {l : List Nat} {x : Nat} (b : Bool) (h : H p = some (.lst (nT l))) (q : Q (.bl (if b then !decide (x ∈ l) else decide (x ∈ l))) H) : rIn K b (.str (sg x)) (.ref p) H Q :=
  ⟨p, _, rfl, .inl (SqL.of h), rfl, flat_nT _, by rw [inV_nT]; exact q⟩
theorem own_dec (ms : List (Addr × Mv)) (c : Nat) : decide (c ∈ ms.map fun p => p.2.c) = ownF (mL ms) c := by
  rw [Bool.eq_iff_iff, decide_eq_true_eq, ownF_iff, List.mem_map]
  refine ⟨fun ⟨p, hp, e⟩ => ⟨p.2, inL hp, e⟩, fun ⟨m, hm, e⟩ => ?_⟩
  obtain ⟨p, hp, rfl⟩ := List.mem_map.mp hm
  exact ⟨p, hp, e⟩
section
variable {P : Program} {w : World} {K : PySem.W.Frag} {mg : Str → Option Value} {base : Heap}
/-- is a word mixed of two -/
def spMixed (K : PySem.W.Frag) : Sp := fun vs H Q _ => ∃ (q r l1 l2 : Addr) (n1 st1 la1 n2 st2 la2 : Nat) (ms1 ms2 : List (Addr × Mv)) (x : Str), vs = [.ref q, .ref r, .str x] ∧ H q = some (.dK (planK n1 st1 la1 l1)) ∧ H r = some (.dK (planK n2 st2 la2 l2)) ∧ MvsAt K H l1 ms1 ∧ MvsAt K H l2 ms2 ∧ OkM n1 st1 la1 ms1 ∧ OkM n2 st2 la2 ms2 ∧ x.cps.toList.length ≤ 1000 ∧
  ∀ H', Same H H' → Q (.bl (decide (walkL (mL ms1) st1 (x.cps.toList.filter (ownF (mL ms1))) = some la1) && decide (walkL (mL ms2) st2 (x.cps.toList.filter fun c => !ownF (mL ms1) c) = some la2))) H'
theorem scMx : FnScope ["_law_w", "_law_v", "_law_word", "_law_own", "_law_s", "_law_x", "_law_t", "_law_near", "_law_away"] ["_law_w", "_law_v", "_law_word"] (defScope sMixed) := ⟨rfl, rfl, rfl, by decide +kernel, rfl, by decide +kernel, by decide +kernel⟩
theorem ok_mixed {f fTk : Addr} {fd fdTk : FuncData} (F : Fun K "_law_is_mixed" "_law_is_mixed" sMixed f fd) (T : Txt8 K mg) (GTk : FnOk P w K mg base CX0 2 fTk fdTk ["_law_w", "_law_word"] (spTakes K)) (gTk : mg "_law_takes" = some (.ref fTk)) (kTk : PySem.W.keepIn K (.ref fTk) = true) (bTk : Binds K fdTk ["_law_w", "_law_word"] []) : FnOk P w K mg base CX0 3 f fd ["_law_w", "_law_v", "_law_word"] (spMixed K) := by
  refine F.ok scMx (fun vs H Q E h => ?_) (fun cdv A outer s H vs Q E hr h => ?_)
  · obtain ⟨q, r, l1, l2, n1, st1, la1, n2, st2, la2, ms1, ms2, x, rfl, _⟩ := h
    rfl
  · obtain ⟨q, r, l1, l2, n1, st1, la1, n2, st2, la2, ms1, ms2, x, rfl, hq, hr', hM1, hM2, ok1, ok2, xl, k⟩ := h
    have hu := hu_of hr
    have hr2 : Room 2 _ := hr
    have f1 := ok1.few
    have f2 := ok2.few
    refine ⟨_, (pss_cons (ps_set (i := 3) scMx.nd rfl (.inr rfl) (pe_lc (own := [("_law_s", 4), ("_law_x", 5), ("_law_t", 6)]) (g := (gTup K 3 (gCons (gName 4) (gCons (gName 5) (gCons (gName 6) gNil))))) (by rfl) scMx.nd (pi_tup (pe_dget hu (pv 0) pe_str (fun _ _ => rfl))) (blkOk_by (own := [("_law_s", 4), ("_law_x", 5), ("_law_t", 6)]) (N := ["_law_w", "_law_v", "_law_word", "_law_own", "_law_s", "_law_x", "_law_t", "_law_near", "_law_away"]) (sc := defScope sMixed) (by decide +kernel)) (fun _ _ _ _ _ => (pg_tup (by rfl) (pgs_cons (pg_name (i := 4) scMx.nd rfl (.inl rfl)) (pgs_cons (pg_name (i := 5) scMx.nd rfl (.inl rfl)) (pgs_cons (pg_name (i := 6) scMx.nd rfl (.inl rfl)) pgs_nil))))) (fun _ _ _ _ _ => pts_nil) (fun _ _ _ _ _ => (pv 5))))
        (pss_cons (ps_set (i := 7) scMx.nd rfl (.inl rfl) (pe_join pe_str (pe_lc (own := [("_law_x", 5)]) (g := (gName 5)) (by rfl) scMx.nd (pi_str (pv 2)) (blkOk_by (own := [("_law_x", 5)]) (N := ["_law_w", "_law_v", "_law_word", "_law_own", "_law_s", "_law_x", "_law_t", "_law_near", "_law_away"]) (sc := defScope sMixed) (by decide +kernel)) (fun _ _ _ _ _ => (pg_name (i := 5) scMx.nd rfl (.inl rfl))) (fun _ _ _ _ _ => (pts_one (pt_cmpR (r := rIn K false) op_in_seq (pv 5) (pv 3) (by rfl)))) (fun _ _ _ _ _ => (pv 5)))))
        (pss_cons (ps_set (i := 8) scMx.nd rfl (.inl rfl) (pe_join pe_str (pe_lc (own := [("_law_x", 5)]) (g := (gName 5)) (by rfl) scMx.nd (pi_str (pv 2)) (blkOk_by (own := [("_law_x", 5)]) (N := ["_law_w", "_law_v", "_law_word", "_law_own", "_law_s", "_law_x", "_law_t", "_law_near", "_law_away"]) (sc := defScope sMixed) (by decide +kernel)) (fun _ _ _ _ _ => (pg_name (i := 5) scMx.nd rfl (.inl rfl))) (fun _ _ _ _ _ => (pts_one (pt_cmpR (r := rIn K true) op_notIn_seq (pv 5) (pv 3) (by rfl)))) (fun _ _ _ _ _ => (pv 5)))))
        (pss_one (ps_ret (pe_and (pe_call GTk hr2 rfl gTk kTk bTk .nil pass0 (pa_cons (pv 0) (pa_cons (pv 7) pa_nil))) (pe_one (pe_call GTk hr2 rfl gTk kTk bTk .nil pass0 (pa_cons (pv 1) (pa_cons (pv 8) pa_nil)))))))))), ?_⟩
    refine ⟨_, rfl, q, _, rfl, plan_get hq (v_moves ..), l1, rfl, ⟨_, hM1.tp⟩, fun D nD => ?_⟩
    refine lc_tup (K := K) (a := l1) (xs := ms1.map fun p => V.ref p.1) (fun i H' => H' = upd H D (.lst ((ms1.take i).map fun p => V.str (sg p.2.c)))) rfl (fun i H' _ e => by rw [e]; exact same_seqT (same_up nD) hM1.tp) ?_ ?_
    · rintro i y H' hi rfl
      rw [List.getElem?_map] at hi
      obtain ⟨p, hp, rfl⟩ := Option.map_eq_some_iff.mp hi
      have hit := same_seqT (same_up (o := .lst ((ms1.take i).map fun p => V.str (sg p.2.c))) nD) (hM1.it p (List.mem_of_getElem? hp))
      have il : i < ms1.length := (List.getElem?_eq_some_iff.mp hp).1
      refine ⟨p.1, _, rfl, hit, rfl, _, _, rfl, _, _, rfl, _, _, rfl, rfl, rfl, _, rfl, _, upd_same, by rw [List.length_map, List.length_take, sizeLine_eq]; omega, ?_⟩
      rw [upd_upd, List.take_add_one, hp, List.map_append] <;> rfl
    rintro H2 rfl
    rw [List.length_map, List.take_length]
    have S1 : Same H (upd H D (.lst (ms1.map fun p => V.str (sg p.2.c)))) := same_up nD
    have hO : upd H D (.lst (ms1.map fun p => V.str (sg p.2.c))) D = some (.lst (nT (ms1.map fun p => p.2.c))) := by
      rw [upd_same]
      unfold nT
      rw [List.map_map] <;> rfl
    generalize upd H D (.lst (ms1.map fun p => V.str (sg p.2.c))) = H1 at S1 hO ⊢
    refine go_name ?_
    dsimp only
    refine go_seq ?_
    obtain ⟨cs, ecs⟩ : ∃ cs, cs = x.cps.toList := ⟨_, rfl⟩
    rw [← ecs] at xl k
    have at_ : ∀ {i c : Nat}, x.cps[i]? = some c → cs[i]? = some c := fun {i c} h => by rw [ecs, Array.getElem?_toList]; exact h
    have size : x.cps.size = cs.length := by rw [ecs, Array.length_toList]
    have fl : ∀ (g : Nat → Bool) (i : Nat), ((cs.take i).filter g).length ≤ i := fun g i => Nat.le_trans (List.length_filter_le _ _) (by rw [List.length_take]; omega)
    -- the letters of the one
    refine ⟨⟨_, rfl⟩, _, rfl, x, rfl, fun D2 nD2 => ?_⟩
    refine lc_text (x := x) (fun i H' => H' = upd H1 D2 (.lst (nT ((cs.take i).filter (ownF (mL ms1)))))) rfl ?_ ?_
    · rintro i c H' hi rfl
      have hc := at_ hi
      have il : i < cs.length := (List.getElem?_eq_some_iff.mp hc).1
      have SD := same_up (o := .lst (nT ((cs.take i).filter (ownF (mL ms1))))) nD2
      refine ⟨rfl, _, rfl, _, rfl, rinT (x := c) false (SD _ _ hO) ⟨_, rfl, ?_⟩⟩
      rw [if_neg Bool.false_ne_true, own_dec, take_at hc, List.filter_append]
      cases oc : ownF (mL ms1) c with
      | true =>
        refine iteT ⟨_, rfl, _, upd_same, ?_, ?_⟩
        · unfold nT
          rw [List.length_map, sizeLine_eq]
          have := fl (ownF (mL ms1)) i
          omega
        · rw [upd_upd, List.filter_cons_of_pos oc]
          unfold nT
          rw [List.map_append] <;> rfl
      | false =>
        refine iteF ?_
        rw [List.filter_cons_of_neg (by rw [oc]; decide), List.filter_nil, List.append_nil]
    rintro H' rfl
    rw [size, List.take_length]
    have len0 : ∀ g : Nat → Bool, (cs.filter g).length ≤ 1000 := fun g => Nat.le_trans (List.length_filter_le _ _) xl
    have y1 : ∀ (l : List Nat), ∀ y ∈ l.map sg, y.length = 1 := fun l y hy => by
      obtain ⟨m, _, rfl⟩ := List.mem_map.mp hy
      rfl
    have nTm : ∀ l : List Nat, nT l = (l.map sg).map V.str := fun l => by
      unfold nT
      rw [List.map_map] <;> rfl
    refine ⟨_, D2, (cs.filter (ownF (mL ms1))).map sg, rfl, rfl, .inl (SqL.of (by rw [upd_same, nTm])), ?_, ?_⟩
    · rw [ones (y1 _), List.length_map]
      have := len0 (ownF (mL ms1))
      show (cs.filter (ownF (mL ms1))).length + (cs.filter (ownF (mL ms1))).length * 0 ≤ 16777216
      omega
    have S2 := S1.trans (same_up (o := .lst (nT (cs.filter (ownF (mL ms1))))) nD2)
    have hO2 := (same_up (o := .lst (nT (cs.filter (ownF (mL ms1))))) nD2) _ _ hO
    generalize upd H1 D2 (.lst (nT (cs.filter (ownF (mL ms1))))) = H2 at S2 hO2 ⊢
    have ez1 := join_sg (cs.filter (ownF (mL ms1)))
    generalize Txt.join "" ((cs.filter (ownF (mL ms1))).map sg) = z1 at ez1 ⊢
    refine go_name ?_
    dsimp only
    refine go_seq ?_
    -- the others
    refine ⟨⟨_, rfl⟩, _, rfl, x, rfl, fun D3 nD3 => ?_⟩
    refine lc_text (x := x) (fun i H' => H' = upd H2 D3 (.lst (nT ((cs.take i).filter fun c => !ownF (mL ms1) c)))) rfl ?_ ?_
    · rintro i c H' hi rfl
      have hc := at_ hi
      have il : i < cs.length := (List.getElem?_eq_some_iff.mp hc).1
      have SD := same_up (o := .lst (nT ((cs.take i).filter fun c => !ownF (mL ms1) c))) nD3
      refine ⟨rfl, _, rfl, _, rfl, rinT (x := c) true (SD _ _ hO2) ⟨_, rfl, ?_⟩⟩
      rw [if_pos rfl, own_dec, take_at hc, List.filter_append]
      cases oc : ownF (mL ms1) c with
      | false =>
        refine iteT ⟨_, rfl, _, upd_same, ?_, ?_⟩
        · unfold nT
          rw [List.length_map, sizeLine_eq]
          have := fl (fun c => !ownF (mL ms1) c) i
          omega
        · rw [upd_upd, List.filter_cons_of_pos (by rw [oc]; decide)]
          unfold nT
          rw [List.map_append] <;> rfl
      | true =>
        refine iteF ?_
        rw [List.filter_cons_of_neg (by rw [oc]; decide), List.filter_nil, List.append_nil]
    rintro H' rfl
    rw [size, List.take_length]
    refine ⟨_, D3, (cs.filter fun c => !ownF (mL ms1) c).map sg, rfl, rfl, .inl (SqL.of (by rw [upd_same, nTm])), ?_, ?_⟩
    · rw [ones (y1 _), List.length_map]
      have := len0 (fun c => !ownF (mL ms1) c)
      show (cs.filter fun c => !ownF (mL ms1) c).length + (cs.filter fun c => !ownF (mL ms1) c).length * 0 ≤ 16777216
      omega
    have S3 := S2.trans (same_up (o := .lst (nT (cs.filter fun c => !ownF (mL ms1) c))) nD3)
    generalize upd H2 D3 (.lst (nT (cs.filter fun c => !ownF (mL ms1) c))) = H3 at S3 ⊢
    have ez2 := join_sg (cs.filter fun c => !ownF (mL ms1) c)
    generalize Txt.join "" ((cs.filter fun c => !ownF (mL ms1) c).map sg) = z2 at ez2 ⊢
    refine go_name ?_
    dsimp only
    refine ⟨_, rfl, _, rfl, q, l1, n1, st1, la1, z1, ms1, rfl, S3 _ _ hq, ⟨same_seqT S3 hM1.tp, fun p hp => same_seqT S3 (hM1.it p hp)⟩, f1, fun H4 S4 => ?_⟩
    rw [walkM_L, ez1]
    have S34 := S3.trans S4
    cases e1 : decide (walkL (mL ms1) st1 (cs.filter (ownF (mL ms1))) = some la1) with
    | false =>
      rw [e1] at k
      refine ⟨_, rfl, ?_⟩
      refine iteF ?_
      exact k H4 S34
    | true =>
      rw [e1] at k
      refine ⟨_, rfl, ?_⟩
      refine iteT ?_
      refine ⟨_, rfl, _, rfl, r, l2, n2, st2, la2, z2, ms2, rfl, S34 _ _ hr', ⟨same_seqT S34 hM2.tp, fun p hp => same_seqT S34 (hM2.it p hp)⟩, f2, fun H5 S5 => ?_⟩
      rw [walkM_L, ez2]
      exact k H5 (S34.trans S5)
end
end Vk
set_option Elab.async false
set_option linter.all false
set_option maxRecDepth 100000
set_option maxHeartbeats 4000000
namespace Vk
open PySem PySem.Spec PyProof.Rows L2 Vt Vs1
abbrev sLPlain7 : Stmt := top8 42
theorem lg_num {k : Nat} (h : k < 1000) : ((k : Nat) : Int).natAbs.log2 < 1920 := by
  have : ((k : Nat) : Int).natAbs = k := Int.natAbs_natCast k
  rw [this]
  have h2 : k < 2 ^ 10 := by omega
  by_cases e : k = 0
  · rw [e]; decide
  · have := (Nat.log2_lt e).mpr h2
    omega
/-- repr of lists and tuples alone: no dict in it, so no place is barred -/
def rReprD (K : PySem.W.Frag) : List V → Hp → VK → Prop := fun xs H Q => ∃ (a : Addr) (d : PyData), xs = [.ref a] ∧ Dp K H (.ref a) d ∧ d.hasDict = false ∧ d.showable = true ∧ d.depth ≤ 60 ∧ d.shown.length ≤ sizeLine ∧ Q (.str d.shown) H
theorem call_reprD {X : Cx} {k : Nat} (hgd : X.A.guards = some []) (hr : Room k X.A) : CallR X (.builtin "repr") (rReprD X.K) := by
  intro pins s σ H xs us Q I rv ⟨a, d, e, dp, nd, sh, deep, few, q⟩
  subst e
  rw [Vals.ref1 rv]
  obtain ⟨as, rd⟩ := Dp.reads I d _ _ dp rfl
  have room := hr.units
  exact repr_of_reads' rd sh (PyData.noDict_hsm nd) hgd (by omega) (fun _ _ z => z) (fun h' u tk keep => ⟨.str d.shown, H, I.kept keep, ⟨u, rfl⟩, q⟩) few
/-! ## how long the told parts are -/
theorem listText_le (ts : List Str) : (listText ts).length ≤ piled ts + 2 := by
  cases ts with
  | nil => exact Nat.le_refl _
  | cons t r =>
    unfold listText textFrom
    rw [strLen_append, textFrom_length_pos _ _ _ Nat.one_pos, strLen_append, strLen_append, piled_cons, if_neg (Nat.lt_irrefl 0)]
    show 1 + 0 + t.length + piled r + 1 ≤ t.length + 2 + piled r + 2
    omega
theorem tupleText_le (ts : List Str) : (tupleText ts).length ≤ piled ts + 3 := by
  have ends : ∀ b : Bool, ((if b = true then ",)" else ")" : String) : Str).length ≤ 2 := by decide
  have mid : (Str.join ", " ts).length ≤ piled ts := by
    cases ts with
    | nil => exact Nat.zero_le _
    | cons t r =>
      have := join_length_add (t :: r) (List.cons_ne_nil _ _)
      omega
  have last := ends (ts.length == 1)
  unfold tupleText
  rw [strLen_append, strLen_append]
  show 1 + (Str.join ", " ts).length + _ ≤ _
  omega
theorem shown_small {i : Nat} (h : i < 1000) : (PyData.shown (.int (i : Int))).length ≤ 3 := by
  have : ∀ i : Fin 1000, (PyData.shown (.int ((i.1 : Nat) : Int))).length ≤ 3 := by decide +kernel
  exact this ⟨i, h⟩
theorem shown_sg {c : Nat} (h1 : 97 ≤ c) (h2 : c ≤ 122) : (PyData.shown (.str (sg c))).length ≤ 5 := by
  have : ∀ i : Fin 26, (PyData.shown (.str (sg (97 + i.1)))).length ≤ 5 := by decide +kernel
  have := this ⟨c - 97, by omega⟩
  rw [show 97 + (c - 97) = c by omega] at this
  exact this
theorem shown_mv {n : Nat} (h : n ≤ 999) {m : Mv} (ok : OkMv n m) : (PyData.shown (mvD m)).length ≤ 22 := by
  obtain ⟨h1, h2, h3, h4⟩ := ok
  have a := shown_small (i := m.s) (by omega)
  have b := shown_small (i := m.t) (by omega)
  have c := shown_sg h3 h4
  have e : PyData.shown (mvD m) = tupleText [PyData.shown (.int (m.s : Int)), PyData.shown (.str (sg m.c)), PyData.shown (.int (m.t : Int))] := rfl
  rw [e]
  have := tupleText_le [PyData.shown (.int (m.s : Int)), PyData.shown (.str (sg m.c)), PyData.shown (.int (m.t : Int))]
  simp only [piled_cons, piled_nil] at this
  omega
theorem piled_mvs {n : Nat} (h : n ≤ 999) : ∀ ms : List (Addr × Mv), (∀ p ∈ ms, OkMv n p.2) → piled (PyData.shownAll (ms.map fun p => mvD p.2)) ≤ 24 * ms.length
  | [], _ => Nat.le_refl _
  | p :: ms, ok => by
    have a := shown_mv h (ok p List.mem_cons_self)
    have b := piled_mvs h ms fun q hq => ok q (.tail _ hq)
    rw [List.map_cons, PyData.shownAll, piled_cons, List.length_cons]
    omega
/-- the parts of a machine, told -/
def ptD (n st la : Nat) (ms : List (Addr × Mv)) : PyData := .tuple [.int (n : Int), .int (st : Int), .int (la : Int), .tuple (ms.map fun p => mvD p.2)]
theorem show_mvs {n : Nat} (h : n ≤ 999) : ∀ ms : List (Addr × Mv), (∀ p ∈ ms, OkMv n p.2) → PyData.showableAll (ms.map fun p => mvD p.2) = true
  | [], _ => rfl
  | p :: ms, ok => by
    have b := show_mvs h ms fun q hq => ok q (.tail _ hq)
    rw [List.map_cons, PyData.showableAll, b, Bool.and_true]
    obtain ⟨h1, h2, _⟩ := ok p List.mem_cons_self
    have lg : ∀ k : Nat, k < 1000 → decide (((k : Nat) : Int).natAbs.log2 < 1920) = true := fun k hk => decide_eq_true (lg_num hk)
    show (decide (((p.2.s : Nat) : Int).natAbs.log2 < 1920) && (true && (decide (((p.2.t : Nat) : Int).natAbs.log2 < 1920) && true))) = true
    rw [lg _ (by omega), lg _ (by omega)]
    rfl
theorem nodict_mvs : ∀ ms : List (Addr × Mv), PyData.hasDictAll (ms.map fun p => mvD p.2) = false
  | [] => rfl
  | p :: ms => by
    rw [List.map_cons, PyData.hasDictAll, nodict_mvs ms, Bool.or_false]
    rfl
theorem pt_nodict1 (n st la : Nat) (ms : List (Addr × Mv)) : (ptD n st la ms).hasDict = false := by
  show (false || (false || (false || (PyData.hasDictAll (ms.map fun p => mvD p.2) || false)))) = false
  rw [nodict_mvs] <;> rfl
theorem depth_mvs : ∀ ms : List (Addr × Mv), PyData.depthAll (ms.map fun p => mvD p.2) ≤ 1
  | [] => Nat.zero_le _
  | p :: ms => by
    have b := depth_mvs ms
    have e2 : (mvD p.2).depth ≤ 1 := by simp [mvD, PyData.depth, PyData.depthAll]
    rw [List.map_cons, PyData.depthAll]
    omega
theorem pt_good {n st la : Nat} (h1 : 1 ≤ n) (h : n ≤ 999) (hs : st < n) (hl : la < n) {ms : List (Addr × Mv)} (few : ms.length ≤ 3999) (ok : ∀ p ∈ ms, OkMv n p.2) :
    (ptD n st la ms).showable = true ∧ (ptD n st la ms).depth ≤ 3 ∧ (ptD n st la ms).shown.length ≤ 100000 := by
  have s1 : (ptD n st la ms).showable = true := by
    show (decide (((n : Nat) : Int).natAbs.log2 < 1920) && (decide (((st : Nat) : Int).natAbs.log2 < 1920) && (decide (((la : Nat) : Int).natAbs.log2 < 1920) && (PyData.showableAll (ms.map fun p => mvD p.2) && true)))) = true
    have lg : ∀ i : Fin 1000, decide (((i.1 : Nat) : Int).natAbs.log2 < 1920) = true := fun i => decide_eq_true (lg_num i.2)
    rw [lg ⟨n, by omega⟩, lg ⟨st, by omega⟩, lg ⟨la, by omega⟩, show_mvs h ms ok] <;> rfl
  have d1 : (ptD n st la ms).depth ≤ 3 := by
    have := depth_mvs ms
    simp only [ptD, PyData.depth, PyData.depthAll]
    omega
  have z1 : (ptD n st la ms).shown.length ≤ 100000 := by
    have a := shown_small (i := n) (by omega)
    have b := shown_small (i := st) (by omega)
    have b2 := shown_small (i := la) (by omega)
    have c := piled_mvs h ms ok
    have d := tupleText_le (PyData.shownAll (ms.map fun p => mvD p.2))
    have e : (ptD n st la ms).shown = tupleText [PyData.shown (.int (n : Int)), PyData.shown (.int (st : Int)), PyData.shown (.int (la : Int)), tupleText (PyData.shownAll (ms.map fun p => mvD p.2))] := rfl
    rw [e]
    have f := tupleText_le [PyData.shown (.int (n : Int)), PyData.shown (.int (st : Int)), PyData.shown (.int (la : Int)), tupleText (PyData.shownAll (ms.map fun p => mvD p.2))]
    simp only [piled_cons, piled_nil] at f
    omega
  exact ⟨s1, d1, z1⟩
/-- what repr asks of two parts in a list -/
theorem pt_two {D1 D2 : PyData} (h1 : D1.showable = true ∧ D1.depth ≤ 3 ∧ D1.shown.length ≤ 100000) (h2 : D2.showable = true ∧ D2.depth ≤ 3 ∧ D2.shown.length ≤ 100000) (n1 : D1.hasDict = false) (n2 : D2.hasDict = false) :
    (PyData.list [D1, D2]).hasDict = false ∧ (PyData.list [D1, D2]).showable = true ∧ (PyData.list [D1, D2]).depth ≤ 60 ∧ (PyData.list [D1, D2]).shown.length ≤ sizeLine := by
  refine ⟨?_, ?_, ?_, ?_⟩
  · show (D1.hasDict || (D2.hasDict || false)) = false
    rw [n1, n2] <;> rfl
  · show (D1.showable && (D2.showable && true)) = true
    rw [h1.1, h2.1] <;> rfl
  · simp only [PyData.depth, PyData.depthAll]
    have := h1.2.1
    have := h2.2.1
    omega
  · have e : (PyData.list [D1, D2]).shown = listText [D1.shown, D2.shown] := rfl
    rw [e]
    have f := listText_le [D1.shown, D2.shown]
    simp only [piled_cons, piled_nil] at f
    have := h1.2.2
    have := h2.2.2
    rw [sizeLine_eq]
    omega
theorem ptD_eq {n st la : Nat} {ms qs : List (Addr × Mv)} (e : ms.map (·.2) = qs.map (·.2)) : ptD n st la ms = ptD n st la qs := by
  have h : (ms.map fun p => mvD p.2) = qs.map fun p => mvD p.2 := by
    have := congrArg (List.map mvD) e
    rw [List.map_map, List.map_map] at this
    exact this
  unfold ptD
  rw [h]
theorem dp_pt {K : PySem.W.Frag} {H : Hp} {q l : Addr} {n st la : Nat} {ms : List (Addr × Mv)} (h : SqT K H q [.int (n : Int), .int (st : Int), .int (la : Int), .ref l]) (hM : MvsAt K H l ms) : Dp K H (.ref q) (ptD n st la ms) :=
  .tup h (.cons (.int _) (.cons (.int _) (.cons (.int _) (.cons (.tup hM.tp (dp_mvs hM.it)) .nil))))

section
variable {P : Program} {w : World} {K : PySem.W.Frag} {mg : Str → Option Value} {base : Heap}
/-- the parts of any plan, in a tuple -/
def spPlainG (K : PySem.W.Frag) : Sp := fun vs H Q _ => ∃ (q l : Addr) (n st la : Nat) (kvs : List (Key × V)), vs = [.ref q] ∧ H q = some (.dK kvs) ∧ valV kvs (Sum.inr "size" : Key) = some (.int (n : Int)) ∧ valV kvs (Sum.inr "first" : Key) = some (.int (st : Int)) ∧ valV kvs (Sum.inr "last" : Key) = some (.int (la : Int)) ∧ valV kvs (Sum.inr "moves" : Key) = some (.ref l) ∧
  ∀ p, H p = none → Q (.ref p) (upd H p (.tup [.int (n : Int), .int (st : Int), .int (la : Int), .ref l]))
theorem ok_plainG {f : Addr} {fd : FuncData} (F : Fun K "_law_plain" "_law_plain" sLPlain f fd) : FnOk P w K mg base CX0 1 f fd ["_law_w"] (spPlainG K) := by
  refine F.ok scPl (fun vs H Q E h => ?_) (fun cdv A outer s H vs Q E hr h => ?_)
  · obtain ⟨q, l, n, st, la, kvs, rfl, _⟩ := h
    rfl
  · obtain ⟨q, l, n, st, la, kvs, rfl, hq, v1, v2, v3, v4, k⟩ := h
    have hu := hu_of hr
    have g : ∀ {x : Str} {v : V}, valV kvs (Sum.inr x : Key) = some v → DGet H q (.str x) (some v) := fun {x v} e => by
      have := DGet.k (k := Sum.inr x) hq
      rw [e] at this
      exact this
    refine ⟨_, (pss_one (ps_ret (pe_tup (pa_cons (pe_dget hu (pv 0) pe_str (fun _ _ => rfl)) (pa_cons (pe_dget hu (pv 0) pe_str (fun _ _ => rfl)) (pa_cons (pe_dget hu (pv 0) pe_str (fun _ _ => rfl)) (pa_cons (pe_dget hu (pv 0) pe_str (fun _ _ => rfl)) pa_nil))))))), ?_⟩
    exact ⟨_, rfl, q, _, rfl, g v1, _, rfl, q, _, rfl, g v2, _, rfl, q, _, rfl, g v3, _, rfl, q, _, rfl, g v4, by show 4 ≤ sizeLine; decide, k⟩
end
end Vk
set_option Elab.async false
set_option linter.all false
set_option maxRecDepth 100000
set_option maxHeartbeats 4000000
namespace Vk
open PySem PySem.Spec PyProof.Rows L2 Vt Vs1
section
variable {K : PySem.W.Frag}
/-- three plans, their machines -/
structure Tri (K : PySem.W.Frag) (C : Addr) (q1 q2 q3 l1 l2 l3 : Addr) (n1 st1 la1 n2 st2 la2 n3 st3 la3 : Nat) (ms1 ms2 ms3 : List (Addr × Mv)) (H : Hp) : Prop where
  p1 : H q1 = some (.dK (planK n1 st1 la1 l1))
  p2 : H q2 = some (.dK (planK n2 st2 la2 l2))
  p3 : H q3 = some (.dK (planK n3 st3 la3 l3))
  m1 : MvsAt K H l1 ms1
  m2 : MvsAt K H l2 ms2
  m3 : MvsAt K H l3 ms3
  k1 : OkM n1 st1 la1 ms1
  k2 : OkM n2 st2 la2 ms2
  k3 : OkM n3 st3 la3 ms3
theorem MvsAt.same {H H' : Hp} {l : Addr} {ms : List (Addr × Mv)} (h : MvsAt K H l ms) (S : Same H H') : MvsAt K H' l ms := ⟨same_seqT S h.tp, fun p hp => same_seqT S (h.it p hp)⟩
theorem Tri.same {C q1 q2 q3 l1 l2 l3 : Addr} {n1 st1 la1 n2 st2 la2 n3 st3 la3 : Nat} {ms1 ms2 ms3 : List (Addr × Mv)} {H H' : Hp} (h : Tri K C q1 q2 q3 l1 l2 l3 n1 st1 la1 n2 st2 la2 n3 st3 la3 ms1 ms2 ms3 H) (S : Same H H') : Tri K C q1 q2 q3 l1 l2 l3 n1 st1 la1 n2 st2 la2 n3 st3 la3 ms1 ms2 ms3 H' :=
  ⟨S _ _ h.p1, S _ _ h.p2, S _ _ h.p3, h.m1.same S, h.m2.same S, h.m3.same S, h.k1, h.k2, h.k3⟩
theorem Tri.but {C q1 q2 q3 l1 l2 l3 d g : Addr} {m : Int} {n1 st1 la1 n2 st2 la2 n3 st3 la3 : Nat} {ms1 ms2 ms3 : List (Addr × Mv)} {H H' : Hp} (h : Tri K C q1 q2 q3 l1 l2 l3 n1 st1 la1 n2 st2 la2 n3 st3 la3 ms1 ms2 ms3 H) (D : DeckAt H d g m) (B : But d g H H') (e1 : q1 ≠ d) (e2 : q2 ≠ d) (e3 : q3 ≠ d) : Tri K C q1 q2 q3 l1 l2 l3 n1 st1 la1 n2 st2 la2 n3 st3 la3 ms1 ms2 ms3 H' := by
  obtain ⟨_, xs, hg⟩ := D.two
  have ng : ∀ {q : Addr} {kvs : List (Key × V)}, H q = some (.dK kvs) → q ≠ g := fun hq => ne_of hq hg (fun z => by cases z)
  have O := B.off D
  exact ⟨B _ _ h.p1 e1 (ng h.p1), B _ _ h.p2 e2 (ng h.p2), B _ _ h.p3 e3 (ng h.p3), h.m1.off O, h.m2.off O, h.m3.off O, h.k1, h.k2, h.k3⟩
/-- two machines joined, asked where nothing can be raised -/
theorem and_in {C CS a b : Addr} {n1 st1 la1 n2 st2 la2 : Nat} {ms1 ms2 : List (Addr × Mv)} {H : Hp} {Q : VK} {E : XK} (hA : MachAt K C H a n1 st1 la1 ms1) (hB : MachAt K C H b n2 st2 la2 ms2) (ap : Apart (mL ms1) (mL ms2)) (hn : n1 * n2 ≤ 999) (hm : (mL ms1).length * n2 + (mL ms2).length * n1 ≤ 3999)
    (k : ∀ (H' : Hp) (x : Addr) (ms : List (Addr × Mv)), Same H H' → H x = none → mL ms = prodL n1 (mL ms1) n2 (mL ms2) → MachAt K C H' x (n1 * n2) (st1 * n2 + st2) (la1 * n2 + la2) ms → Q (.ref x) H') :
    rAndO C (fun vs H Q _ => spAnd K C CS vs H Q (fun _ _ _ => False)) E (.ref a) (.ref b) H Q := by
  obtain ⟨dx1, l1, E1, F1, z1, ha, _⟩ := hA.ob
  obtain ⟨dx2, l2, E2, F2, z2, hb, _⟩ := hB.ob
  refine ⟨a, b, dx1, _, dx2, _, rfl, rfl, ha, hb, a, b, n1, st1, la1, n2, st2, la2, ms1, ms2, rfl, hA, hB, hn, hm, fun ap H' x ms S nx e M => ⟨x, rfl, k H' x ms S nx e M⟩, fun c lc => ?_⟩
  obtain ⟨⟨x, hx, e1⟩, ⟨y, hy, e2⟩, _⟩ := lc
  exact (ap x hx y hy (e1.trans e2.symm)).elim
theorem lettersM_ext {ms ks : List (Addr × Mv)} (h : ∀ c, (∃ m ∈ mL ms, m.c = c) ↔ ∃ m ∈ mL ks, m.c = c) : lettersM ms = lettersM ks := by
  unfold lettersM
  congr 1
  funext c
  have a : ∀ ms : List (Addr × Mv), (ms.any fun p => p.2.c == c) = true ↔ ∃ m ∈ mL ms, m.c = c := fun ms => by
    rw [List.any_eq_true]
    refine ⟨fun ⟨p, hp, e⟩ => ⟨p.2, inL hp, beq_iff_eq.mp e⟩, fun ⟨m, hm, e⟩ => ?_⟩
    obtain ⟨p, hp, rfl⟩ := List.mem_map.mp hm
    exact ⟨p, hp, beq_iff_eq.mpr e⟩
  rw [Bool.eq_iff_iff, a, a]
  exact h c
theorem let_prod {n1 st1 la1 n2 st2 la2 : Nat} {A B : List Mv} (oA : OkL n1 st1 la1 A) (oB : OkL n2 st2 la2 B) (c : Nat) : (∃ m ∈ prodL n1 A n2 B, m.c = c) ↔ (∃ m ∈ A, m.c = c) ∨ ∃ m ∈ B, m.c = c := by
  have p1 : 0 < n1 := oA.n1
  have p2 : 0 < n2 := oB.n1
  refine ⟨fun ⟨m, hm, e⟩ => ?_, fun h => ?_⟩
  · rcases mem_prodL.mp hm with ⟨a, ha, j, hj, rfl⟩ | ⟨b, hb, i, hi, rfl⟩
    · exact .inl ⟨a, ha, e⟩
    · exact .inr ⟨b, hb, e⟩
  · rcases h with ⟨a, ha, e⟩ | ⟨b, hb, e⟩
    · exact ⟨mvA n2 0 a, mem_prodL.mpr (.inl ⟨a, ha, 0, p2, rfl⟩), e⟩
    · exact ⟨mvB n2 0 b, mem_prodL.mpr (.inr ⟨b, hb, 0, p1, rfl⟩), e⟩
/-- near & far is the same as far & near -/
theorem same_dec {n1 st1 la1 n2 st2 la2 : Nat} {ms1 ms2 ms ks : List (Addr × Mv)} (k1 : OkM n1 st1 la1 ms1) (k2 : OkM n2 st2 la2 ms2) (ap : Apart (mL ms1) (mL ms2)) (hn : n1 * n2 ≤ 999) (hm : (mL ms1).length * n2 + (mL ms2).length * n1 ≤ 3999)
    (e : mL ms = prodL n1 (mL ms1) n2 (mL ms2)) (e2 : mL ks = prodL n2 (mL ms2) n1 (mL ms1)) :
    decide (n1 * n2 = n2 * n1 ∧ numM (n1 * n2) (st1 * n2 + st2) ms (st1 * n2 + st2) = numM (n2 * n1) (st2 * n1 + st1) ks (st2 * n1 + st1) ∧ numM (n1 * n2) (st1 * n2 + st2) ms (la1 * n2 + la2) = numM (n2 * n1) (st2 * n1 + st1) ks (la2 * n1 + la1) ∧ nmbM (n1 * n2) (st1 * n2 + st2) ms = nmbM (n2 * n1) (st2 * n1 + st1) ks) = true := by
  have oA : OkL n1 st1 la1 (mL ms1) := k1.onL
  have oB : OkL n2 st2 la2 (mL ms2) := k2.onL
  have ap2 : Apart (mL ms2) (mL ms1) := fun x hx y hy z => ap y hy x hx z.symm
  have oP := ok_prod oA oB ap hn hm
  have oQ := ok_prod oB oA ap2 (by rw [Nat.mul_comm]; exact hn) (by rw [Nat.add_comm]; exact hm)
  have el : lettersM ks = lettersM ms := lettersM_ext fun c => by
    rw [e, e2, let_prod oA oB, let_prod oB oA]
    exact Or.comm
  have hc : ∀ m ∈ prodL n1 (mL ms1) n2 (mL ms2), m.c ∈ lettersM ms := fun m hm => by
    rw [← e] at hm
    obtain ⟨p, hp, rfl⟩ := List.mem_map.mp hm
    refine (mem_lettersM fun q hq => ?_).mpr ⟨p, hp, rfl⟩
    have : q.2 ∈ prodL n1 (mL ms1) n2 (mL ms2) := by rw [← e]; exact inL hq
    exact (oP.ok _ this).2.2.2
  obtain ⟨h1, h2, h3⟩ := swap_same oA oB oP oQ hc
  refine decide_eq_true ⟨Nat.mul_comm _ _, ?_, ?_, ?_⟩
  · show numL _ _ (mL ms) (lettersM ms) _ = numL _ _ (mL ks) (lettersM ks) _
    rw [el, e, e2, h2]
  · show numL _ _ (mL ms) (lettersM ms) _ = numL _ _ (mL ks) (lettersM ks) _
    rw [el, e, e2, h3]
  · show nmbL _ _ (mL ms) (lettersM ms) = nmbL _ _ (mL ks) (lettersM ks)
    rw [el, e, e2, h1]
theorem j_size (n st la : Nat) (l : Addr) : valV (planJ n st la l) (Sum.inr "size" : Key) = some (.int (n : Int)) := by rfl
theorem j_first (n st la : Nat) (l : Addr) : valV (planJ n st la l) (Sum.inr "first" : Key) = some (.int (st : Int)) := by rfl
theorem j_last (n st la : Nat) (l : Addr) : valV (planJ n st la l) (Sum.inr "last" : Key) = some (.int (la : Int)) := by rfl
theorem j_moves (n st la : Nat) (l : Addr) : valV (planJ n st la l) (Sum.inr "moves" : Key) = some (.ref l) := by rfl
theorem no_same (n st la : Nat) (l : Addr) (z : Str) (E F : Addr) : (mF n st la l z E F).lookup ("is_same" : Str) = none := by rfl
/-- two tuples joined -/
theorem cat_in {H : Hp} {a b : Addr} {xs ys : List V} {Q : VK} (h1 : SqT K H a xs) (h2 : SqT K H b ys) (z : xs.length + ys.length ≤ sizeLine) (k : ∀ (l : Addr) (H' : Hp), Same H H' → SqT K H' l (xs ++ ys) → Q (.ref l) H') : rCatA K (.ref a) (.ref b) H Q := by
  refine ⟨a, b, xs, ys, rfl, rfl, h1, h2, z, fun e => ?_, fun _ e => ?_, fun _ _ p np => ?_⟩
  · subst e
    exact k b H (Same.refl _) h2
  · subst e
    exact k a H (Same.refl _) (by rw [List.append_nil]; exact h1)
  · exact k p _ (same_up np) (SqT.of upd_same)
theorem cut_to (xs : List V) (k : Nat) : cutV xs none (some (k : Int)) = xs.take k := by
  unfold cutV
  rw [HT.sIx_none, HT.sIx_nat, List.drop_zero, Nat.sub_zero]
  by_cases h : k ≤ xs.length
  · rw [Nat.min_eq_left h]
  · rw [Nat.min_eq_right (by omega), List.take_length, List.take_of_length_le (by omega)]
/-- a word of small letters -/
def WordOf (ls : List Nat) (z : Str) : Prop := (∀ c ∈ z.cps.toList, c ∈ ls) ∧ z.cps.toList.length ≤ 100
theorem last_of {cs : List Nat} : ∀ (k : Nat), ∀ z ∈ lastL cs k, (∀ c ∈ z.cps.toList, c ∈ cs) ∧ z.cps.toList.length = k
  | 0, z, h => by
    rw [List.mem_singleton.mp h]
    exact ⟨fun c h => absurd h List.not_mem_nil, rfl⟩
  | k + 1, z, h => by
    obtain ⟨v, hv, h⟩ := List.mem_flatMap.mp h
    obtain ⟨c, hc, rfl⟩ := List.mem_map.mp h
    obtain ⟨i1, i2⟩ := last_of k v hv
    have e : (v ++ (⟨#[c]⟩ : Str)).cps.toList = v.cps.toList ++ [c] := TL.tl_append v ⟨#[c]⟩
    rw [e]
    refine ⟨fun x hx => ?_, by rw [List.length_append, i2] <;> rfl⟩
    rcases List.mem_append.mp hx with y | y
    · exact i1 x y
    · rw [List.mem_singleton.mp y]
      exact hc
theorem found_of {cs : List Nat} : ∀ (k : Nat), ∀ z ∈ foundL cs k, (∀ c ∈ z.cps.toList, c ∈ cs) ∧ z.cps.toList.length ≤ k
  | 0, z, h => by
    rw [List.mem_singleton.mp h]
    exact ⟨fun c h => absurd h List.not_mem_nil, Nat.le_refl _⟩
  | k + 1, z, h => by
    rcases List.mem_append.mp h with y | y
    · obtain ⟨i1, i2⟩ := found_of k z y
      exact ⟨i1, by omega⟩
    · obtain ⟨i1, i2⟩ := last_of (k + 1) z y
      exact ⟨i1, by omega⟩
theorem but_none {d g D : Addr} {n : Int} {H H' : Hp} (B : But d g H H') (k : DeckAt H' d g n) (h : H' D = none) : H D = none ∧ D ≠ d ∧ D ≠ g := by
  obtain ⟨⟨kd, hd⟩, xg, hg⟩ := k.two
  have n1 : D ≠ d := (ne_of_none hd h).symm
  have n2 : D ≠ g := (ne_of_none hg h).symm
  refine ⟨?_, n1, n2⟩
  cases e : H D with
  | none => rfl
  | some o => rw [B D o e n1 n2] at h; cases h
theorem but_upd {d g D : Addr} {o : HO} {H H' : Hp} (B : But d g H H') (h : H D = none) : But d g H (upd H' D o) := fun b u z n1 n2 => by
  rw [upd_ne (ne_of_none z h)]
  exact B b u z n1 n2
theorem menu_at {sgs : List Nat} {i : Nat} {v : V} (h : (nT sgs ++ [V.str (sg 121)])[i]? = some v) : ∃ c ∈ 121 :: sgs, v = .str (sg c) := by
  have := List.mem_of_getElem? h
  rcases List.mem_append.mp this with z | z
  · unfold nT at z
    obtain ⟨c, hc, rfl⟩ := List.mem_map.mp z
    exact ⟨c, .tail _ hc, rfl⟩
  · rw [List.mem_singleton.mp z]
    exact ⟨121, List.mem_cons_self, rfl⟩
/-- repr of a machine's parts -/
theorem rep_ok {n st la : Nat} {ms : List (Addr × Mv)} (ok : OkM n st la ms) : (ptD n st la ms).hasDict = false ∧ (ptD n st la ms).showable = true ∧ (ptD n st la ms).depth ≤ 60 ∧ (ptD n st la ms).shown.length ≤ sizeLine := by
  obtain ⟨h1, h2, h3⟩ := pt_good ok.n1 ok.n2 ok.hst ok.hla ok.few ok.ok
  exact ⟨pt_nodict1 _ _ _ _, h1, by omega, by rw [sizeLine_eq]; omega⟩
end
end Vk
set_option Elab.async false
set_option linter.all false
set_option maxRecDepth 100000
set_option maxHeartbeats 4000000
namespace Vk
open PySem PySem.Spec PyProof.Rows L2 Vt Vs1
abbrev sRight : Stmt := top8 51
section
variable {P : Program} {w : World} {K : PySem.W.Frag} {mg : Str → Option Value} {base : Heap}
/-- three plans with letters apart -/
structure Apart3 (ms1 ms2 ms3 : List (Addr × Mv)) (n1 n2 n3 : Nat) : Prop where
  a12 : Apart (mL ms1) (mL ms2)
  a13 : Apart (mL ms1) (mL ms3)
  a23 : Apart (mL ms2) (mL ms3)
  n1 : n1 ≤ 4
  n2 : n2 ≤ 4
  n3 : n3 ≤ 2
  c1 : ms1.length ≤ 8
  c2 : ms2.length ≤ 8
  c3 : ms3.length ≤ 3
def spRight (K : PySem.W.Frag) (C : Addr) : Sp := fun vs H Q _ => ∃ (d g : Addr) (m : Int) (q1 q2 q3 l1 l2 l3 : Addr) (n1 st1 la1 n2 st2 la2 n3 st3 la3 : Nat) (ms1 ms2 ms3 : List (Addr × Mv)), vs = [.ref d, .ref q1, .ref q2, .ref q3] ∧ DeckAt H d g m ∧ 0 ≤ m ∧ m < 900000000 ∧
  Tri K C q1 q2 q3 l1 l2 l3 n1 st1 la1 n2 st2 la2 n3 st3 la3 ms1 ms2 ms3 H ∧ Apart3 ms1 ms2 ms3 n1 n2 n3 ∧ q1 ≠ d ∧ q2 ≠ d ∧ q3 ≠ d ∧ ∀ (H' : Hp) (m' : Int), But d g H H' → DeckAt H' d g m' → m' ≤ m + 168 → Q (.bl true) H'
theorem scRt : FnScope ["_law_deck_here", "_law_w", "_law_v", "_law_u", "_law_near", "_law_far", "_law_third", "_law_both", "_law_signs", "_law_s", "_law_x", "_law_t", "_law_some", "_law_turn", "_law_k", "_law_word"] ["_law_deck_here", "_law_w", "_law_v", "_law_u"] (defScope sRight) := ⟨rfl, rfl, rfl, by decide +kernel, rfl, by decide +kernel, by decide +kernel⟩
theorem ok_right {f C CS fCd fA fPa fPn fLj fSa fTx fDr fPi fMx fCo fE : Addr} {fd fdCd fdA fdPa fdPn fdLj fdSa fdTx fdDr fdPi fdMx fdCo fdE : FuncData} (F : Fun K "_law_right" "_law_right" sRight f fd) (T : Txt8 K mg) (hRep : mg "repr" = none) (M : MCls K C)
    (GCd : FnOk P w K mg base CX0 8 fCd fdCd ["_law_w"] (spCode K C)) (gCd : mg "_law_code" = some (.ref fCd)) (kCd : PySem.W.keepIn K (.ref fCd) = true) (bCd : Binds K fdCd ["_law_w"] [])
    (GA : FnOk P w K mg base (L2.CX P w) 8 fA fdA ["self", "other"] (spAnd K C CS)) (sF : PySem.W.selfFirst K C = true) (sA : PySem.W.findIn K (.ref C) "__and__" = some (some (.ref fA))) (nA : PySem.W.isFn K (.ref fA) = true) (bA : Binds K fdA ["self", "other"] [])
    (GPa : FnOk P w K mg base CX0 1 fPa fdPa ["_law_it"] (spLParts K C)) (gPa : mg "_law_parts" = some (.ref fPa)) (kPa : PySem.W.keepIn K (.ref fPa) = true) (bPa : Binds K fdPa ["_law_it"] [])
    (GPn : FnOk P w K mg base CX0 1 fPn fdPn ["_law_w"] (spPlainG K)) (gPn : mg "_law_plain" = some (.ref fPn)) (kPn : PySem.W.keepIn K (.ref fPn) = true) (bPn : Binds K fdPn ["_law_w"] [])
    (GLj : FnOk P w K mg base CX0 1 fLj fdLj ["_law_w", "_law_v"] (spLJoin K)) (gLj : mg "_law_joined" = some (.ref fLj)) (kLj : PySem.W.keepIn K (.ref fLj) = true) (bLj : Binds K fdLj ["_law_w", "_law_v"] [])
    (GSa : FnOk P w K mg base CX0 9 fSa fdSa ["self", "other"] (spSame K C)) (mSa : Meth K C "is_same" fSa) (bSa : Binds K fdSa ["self", "other"] [])
    (GTx : FnOk P w K mg base CX0 1 fTx fdTx ["_law_signs", "_law_top"] spTexts) (gTx : mg "_law_texts" = some (.ref fTx)) (kTx : PySem.W.keepIn K (.ref fTx) = true) (bTx : Binds K fdTx ["_law_signs", "_law_top"] [])
    (GDr : FnOk P w K mg base CX0 1 fDr fdDr ["_law_deck_here", "_law_below"] spDraw) (gDr : mg "_law_draw" = some (.ref fDr)) (kDr : PySem.W.keepIn K (.ref fDr) = true) (bDr : Binds K fdDr ["_law_deck_here", "_law_below"] [])
    (GPl : FnOk P w K mg base CX0 2 fPi fdPi ["_law_deck_here", "_law_menu"] (spPickL K)) (gPi : mg "_law_pick" = some (.ref fPi)) (kPi : PySem.W.keepIn K (.ref fPi) = true) (bPi : Binds K fdPi ["_law_deck_here", "_law_menu"] [])
    (GMx : FnOk P w K mg base CX0 3 fMx fdMx ["_law_w", "_law_v", "_law_word"] (spMixed K)) (gMx : mg "_law_is_mixed" = some (.ref fMx)) (kMx : PySem.W.keepIn K (.ref fMx) = true) (bMx : Binds K fdMx ["_law_w", "_law_v", "_law_word"] [])
    (GCo : FnOk P w K mg base CX0 3 fCo fdCo ["self", "word"] (spCont K C)) (sCo : PySem.W.findIn K (.ref C) "__contains__" = some (some (.ref fCo))) (nCo : PySem.W.isFn K (.ref fCo) = true) (bCo : Binds K fdCo ["self", "word"] [])
    (GE : FnOk P w K mg base CX0 1 fE fdE ["self", "other"] (spEqA K C)) (sE : PySem.W.findIn K (.ref C) "__eq__" = some (some (.ref fE))) (nE : PySem.W.isFn K (.ref fE) = true) (bE : Binds K fdE ["self", "other"] []) (nf : PySem.W.notFirst K C (.ref C) = true) :
    FnG P w K mg base CX0 10 f fd ["_law_deck_here", "_law_w", "_law_v", "_law_u"] (spRight K C) := by
  have GAc := Vk.FnOk.calm GA
  refine okG F scRt (fun vs H Q E h => ?_) (fun cdv A outer s H vs Q E hgd hr h => ?_)
  · obtain ⟨d, g, m, q1, q2, q3, l1, l2, l3, n1, st1, la1, n2, st2, la2, n3, st3, la3, ms1, ms2, ms3, rfl, _⟩ := h
    rfl
  · obtain ⟨d, g, m, q1, q2, q3, l1, l2, l3, n1, st1, la1, n2, st2, la2, n3, st3, la3, ms1, ms2, ms3, rfl, DD, m0, mB, TT, ap, e1, e2, e3, k⟩ := h
    have hu := hu_of hr
    have hr1 : Room 1 _ := hr.mono (by decide)
    have hr2 : Room 2 _ := hr.mono (by decide)
    have hr3 : Room 3 _ := hr.mono (by decide)
    have hr8 : Room 8 _ := hr.mono (by decide)
    refine ⟨_, (pss_cons (ps_par3 (i := 4) (j := 5) (l := 6) (by rfl) scRt.nd rfl rfl rfl (by decide) (by decide) (by decide) rfl rfl rfl (pa_cons (pe_call GCd hr8 rfl gCd kCd bCd .nil pass0 (pa_cons (pv 1) pa_nil)) (pa_cons (pe_call GCd hr8 rfl gCd kCd bCd .nil pass0 (pa_cons (pv 2) pa_nil)) (pa_cons (pe_call GCd hr8 rfl gCd kCd bCd .nil pass0 (pa_cons (pv 3) pa_nil)) pa_nil))) (by rfl))
        (pss_cons (ps_set (i := 7) scRt.nd rfl (.inr rfl) (pe_op (op_andO GAc hr8 sF sA nA bA pass0) (pv 4) (pv 5)))
        (pss_cons (ps_if (PW.pt (pw_or (pt_cmpR op_ne (pe_callB (call_reprD hgd hr) (by rfl) hRep (by decide +kernel) (pa_cons (pe_call GPa hr1 rfl gPa kPa bPa .nil pass0 (pa_cons (pv 7) pa_nil)) pa_nil)) (pe_callB (call_reprD hgd hr) (by rfl) hRep (by decide +kernel) (pa_cons (pe_call GPn hr1 rfl gPn kPn bPn .nil pass0 (pa_cons (pe_call GLj hr1 rfl gLj kLj bLj .nil pass0 (pa_cons (pv 1) (pa_cons (pv 2) pa_nil))) pa_nil)) pa_nil)) (nomark _)) (pw_or1 (pt_not (pt_val (pe_meth (pv 7) M.cl mSa GSa hr bSa .nil pass0 (pa_cons (pe_op (op_andO GAc hr8 sF sA nA bA pass0) (pv 5) (pv 4)) pa_nil))))))) (pss_one (ps_ret pe_bl)) pss_nil)
        (pss_cons (ps_set (i := 8) scRt.nd rfl (.inr rfl) (pe_callB (cr_sortedTx (by rfl) hr.units) (by rfl) T.srt (by decide +kernel) (pa_cons (pe_callTy (cr_setLT (by rfl)) (by rfl) T.set (by decide +kernel) (pa_cons (pe_lc (own := [("_law_s", 9), ("_law_x", 10), ("_law_t", 11)]) (g := (gTup K 3 (gCons (gName 9) (gCons (gName 10) (gCons (gName 11) gNil))))) (by rfl) scRt.nd (pi_tup (pe_op op_catA (pe_dget hu (pv 1) pe_str (fun _ _ => rfl)) (pe_dget hu (pv 2) pe_str (fun _ _ => rfl)))) (blkOk_by (own := [("_law_s", 9), ("_law_x", 10), ("_law_t", 11)]) (N := ["_law_deck_here", "_law_w", "_law_v", "_law_u", "_law_near", "_law_far", "_law_third", "_law_both", "_law_signs", "_law_s", "_law_x", "_law_t", "_law_some", "_law_turn", "_law_k", "_law_word"]) (sc := defScope sRight) (by decide +kernel)) (fun _ _ _ _ _ => (pg_tup (by rfl) (pgs_cons (pg_name (i := 9) scRt.nd rfl (.inl rfl)) (pgs_cons (pg_name (i := 10) scRt.nd rfl (.inl rfl)) (pgs_cons (pg_name (i := 11) scRt.nd rfl (.inl rfl)) pgs_nil))))) (fun _ _ _ _ _ => pts_nil) (fun _ _ _ _ _ => (pv 10))) pa_nil)) pa_nil)))
        (pss_cons (ps_set (i := 12) scRt.nd rfl (.inl rfl) (pe_call GTx hr1 rfl gTx kTx bTx .nil pass0 (pa_cons (pe_join pe_str (pe_slice sl_list (pv 8) po_none (po_some pe_int))) (pa_cons pe_int pa_nil))))
        (pss_cons (ps_for PassesOwn.never rfl (pi_range1 (by rfl) T.rng (pa_cons pe_int pa_nil)) (pg_name (i := 13) scRt.nd rfl (.inl rfl)) (pss_one (ps_expr (pe_bm PySem.F.plainAttrs_list PySem.F.slot_list_append PySem.F.type_list_append mt_append (pv 12) (pa_cons (pe_join pe_str (pe_lc (own := [("_law_k", 14)]) (g := (gName 14)) (by rfl) scRt.nd (pi_range1 (by rfl) T.rng (pa_cons (pe_call GDr hr1 rfl gDr kDr bDr .nil pass0 (pa_cons (pv 0) (pa_cons pe_int pa_nil))) pa_nil)) (blkOk_by (own := [("_law_k", 14)]) (N := ["_law_deck_here", "_law_w", "_law_v", "_law_u", "_law_near", "_law_far", "_law_third", "_law_both", "_law_signs", "_law_s", "_law_x", "_law_t", "_law_some", "_law_turn", "_law_k", "_law_word"]) (sc := defScope sRight) (by decide +kernel)) (fun _ _ _ _ _ => (pg_name (i := 14) scRt.nd rfl (.inl rfl))) (fun _ _ _ _ _ => pts_nil) (fun _ _ _ _ _ => (pe_call GPl hr2 rfl gPi kPi bPi .nil pass0 (pa_cons (pv 0) (pa_cons (pe_op op_cat (pv 8) (pe_lst (pa_cons pe_str pa_nil))) pa_nil)))))) pa_nil)))))
        (pss_cons (ps_if (pt_cmpR (op_neD hr.units) (pe_lc (own := [("_law_word", 15)]) (g := (gName 15)) (by rfl) scRt.nd (pi_list (pv 12)) (blkOk_by (own := [("_law_word", 15)]) (N := ["_law_deck_here", "_law_w", "_law_v", "_law_u", "_law_near", "_law_far", "_law_third", "_law_both", "_law_signs", "_law_s", "_law_x", "_law_t", "_law_some", "_law_turn", "_law_k", "_law_word"]) (sc := defScope sRight) (by decide +kernel)) (fun _ _ _ _ _ => (pg_name (i := 15) scRt.nd rfl (.inl rfl))) (fun _ _ _ _ _ => (pts_one (pt_cmpR op_ne (pe_cmpR (op_inO GCo hr3 sCo nCo bCo pass0) (pv 15) (pv 7) (by rfl)) (pe_call GMx hr3 rfl gMx kMx bMx .nil pass0 (pa_cons (pv 1) (pa_cons (pv 2) (pa_cons (pv 15) pa_nil)))) (nomark _)))) (fun _ _ _ _ _ => (pv 15))) (pe_lst pa_nil) (nomark _)) (pss_one (ps_ret pe_bl)) pss_nil)
        (pss_cons (ps_if (pt_not (pt_cmpR (op_eqI GE hr1 sE nE bE pass0 nf) (pe_op (op_andO GAc hr8 sF sA nA bA pass0) (pe_op (op_andO GAc hr8 sF sA nA bA pass0) (pv 4) (pv 5)) (pv 6)) (pe_op (op_andO GAc hr8 sF sA nA bA pass0) (pv 4) (pe_op (op_andO GAc hr8 sF sA nA bA pass0) (pv 5) (pv 6))) (nomark _))) (pss_one (ps_ret pe_bl)) pss_nil)
        (pss_one (ps_ret (pe_cmpR op_eq (pe_callB (call_reprD hgd hr) (by rfl) hRep (by decide +kernel) (pa_cons (pe_lst (pa_cons (pe_call GPa hr1 rfl gPa kPa bPa .nil pass0 (pa_cons (pv 4) pa_nil)) (pa_cons (pe_call GPa hr1 rfl gPa kPa bPa .nil pass0 (pa_cons (pv 5) pa_nil)) pa_nil))) pa_nil)) (pe_callB (call_reprD hgd hr) (by rfl) hRep (by decide +kernel) (pa_cons (pe_lst (pa_cons (pe_call GPn hr1 rfl gPn kPn bPn .nil pass0 (pa_cons (pv 1) pa_nil)) (pa_cons (pe_call GPn hr1 rfl gPn kPn bPn .nil pass0 (pa_cons (pv 2) pa_nil)) pa_nil))) pa_nil)) (nomark _)))))))))))), ?_⟩
    refine ⟨_, rfl, q1, l1, n1, st1, la1, ms1, rfl, TT.p1, TT.m1, TT.k1, fun a1 H1 S1 na1 A1 => ?_⟩
    have T1 := TT.same S1
    refine ⟨_, rfl, q2, l2, n2, st2, la2, ms2, rfl, T1.p2, T1.m2, T1.k2, fun a2 H2 S2 na2 A2 => ?_⟩
    have T2 := T1.same S2
    refine ⟨_, rfl, q3, l3, n3, st3, la3, ms3, rfl, T2.p3, T2.m3, T2.k3, fun a3 H3 S3 na3 A3 => ⟨_, _, _, rfl, ?_⟩⟩
    have T3 := T2.same S3
    replace A1 := (A1.same S2).same S3
    replace A2 := A2.same S3
    have S03 := (S1.trans S2).trans S3
    clear S1 S2 S3 T1 T2 na1 na2 na3
    dsimp only
    refine go_seq ?_
    have len1 : (mL ms1).length ≤ 8 := by rw [List.length_map]; exact ap.c1
    have len2 : (mL ms2).length ≤ 8 := by rw [List.length_map]; exact ap.c2
    have len3 : (mL ms3).length ≤ 3 := by rw [List.length_map]; exact ap.c3
    have oA : OkL n1 st1 la1 (mL ms1) := TT.k1.onL
    have oB : OkL n2 st2 la2 (mL ms2) := TT.k2.onL
    have oC : OkL n3 st3 la3 (mL ms3) := TT.k3.onL
    have ap21 : Apart (mL ms2) (mL ms1) := fun x hx y hy z => ap.a12 y hy x hx z.symm
    have hn12 : n1 * n2 ≤ 16 := Nat.mul_le_mul ap.n1 ap.n2
    have hn21 : n2 * n1 ≤ 16 := Nat.mul_le_mul ap.n2 ap.n1
    have hn23 : n2 * n3 ≤ 8 := Nat.mul_le_mul ap.n2 ap.n3
    have lm12 : (mL ms1).length * n2 + (mL ms2).length * n1 ≤ 64 := by
      have := Nat.mul_le_mul len1 ap.n2
      have := Nat.mul_le_mul len2 ap.n1
      omega
    have lm23 : (mL ms2).length * n3 + (mL ms3).length * n2 ≤ 28 := by
      have := Nat.mul_le_mul len2 ap.n3
      have := Nat.mul_le_mul len3 ap.n2
      omega
    refine ⟨_, rfl, _, rfl, and_in A1 A2 ap.a12 (by omega) (by omega) fun H4 b msb S4 nb eb AB => ?_⟩
    refine go_name ?_
    dsimp only
    refine go_seq ?_
    have T4 := T3.same S4
    replace A1 := A1.same S4
    replace A2 := A2.same S4
    replace A3 := A3.same S4
    have S04 := S03.trans S4
    clear S4 S03 T3 nb
    have okB := AB.ok
    refine ⟨_, rfl, b, n1 * n2, st1 * n2 + st2, la1 * n2 + la2, msb, rfl, AB, fun p1 lb np1 hMb => ?_⟩
    have S5 := same_up (o := .tup [.int ((n1 * n2 : Nat) : Int), .int ((st1 * n2 + st2 : Nat) : Int), .int ((la1 * n2 + la2 : Nat) : Int), .ref lb]) np1
    obtain ⟨r1, r2, r3, r4⟩ := rep_ok okB
    refine ⟨p1, _, rfl, dp_pt (SqT.of upd_same) (hMb.same S5), r1, r2, r3, r4, ?_⟩
    have T5 := T4.same S5
    replace A1 := A1.same S5
    replace A2 := A2.same S5
    replace A3 := A3.same S5
    replace AB := AB.same S5
    have S05 := S04.trans S5
    clear S04 T4 np1 hMb
    generalize upd H4 p1 (.tup [.int ((n1 * n2 : Nat) : Int), .int ((st1 * n2 + st2 : Nat) : Int), .int ((la1 * n2 + la2 : Nat) : Int), .ref lb]) = H5 at S05 T5 A1 A2 A3 AB ⊢
    clear S5
    refine ⟨_, rfl, _, rfl, q1, q2, l1, l2, n1, st1, la1, n2, st2, la2, ms1, ms2, rfl, T5.p1, T5.p2, T5.m1, T5.m2, T5.k1, T5.k2, ap.a12, by omega, fun H6 pj lj ks S6 npj hpj hMj ej => ?_⟩
    refine ⟨pj, lj, n1 * n2, st1 * n2 + st2, la1 * n2 + la2, _, rfl, hpj, j_size .., j_first .., j_last .., j_moves .., fun p2 np2 => ?_⟩
    have S7 := same_up (o := .tup [.int ((n1 * n2 : Nat) : Int), .int ((st1 * n2 + st2 : Nat) : Int), .int ((la1 * n2 + la2 : Nat) : Int), .ref lj]) np2
    have okJ : OkM (n1 * n2) (st1 * n2 + st2) (la1 * n2 + la2) ks := (ok_prod oA oB ap.a12 (by omega) (by omega)).onM ej
    obtain ⟨s1, s2, s3, s4⟩ := rep_ok okJ
    refine ⟨p2, _, rfl, dp_pt (SqT.of upd_same) (hMj.same S7), s1, s2, s3, s4, ?_⟩
    have S57 := S6.trans S7
    have T7 := T5.same S57
    replace A1 := A1.same S57
    replace A2 := A2.same S57
    replace A3 := A3.same S57
    replace AB := AB.same S57
    have S07 := S05.trans S57
    generalize upd H6 p2 (.tup [.int ((n1 * n2 : Nat) : Int), .int ((st1 * n2 + st2 : Nat) : Int), .int ((la1 * n2 + la2 : Nat) : Int), .ref lj]) = H7 at S07 T7 A1 A2 A3 AB ⊢
    clear S7 S57 S6 T5 S05 npj hpj hMj np2
    have eD : ptD (n1 * n2) (st1 * n2 + st2) (la1 * n2 + la2) msb = ptD (n1 * n2) (st1 * n2 + st2) (la1 * n2 + la2) ks := ptD_eq (by rw [show msb.map (·.2) = _ from eb, show ks.map (·.2) = _ from ej])
    rw [eD]
    obtain ⟨sh, esh⟩ : ∃ sh, sh = (ptD (n1 * n2) (st1 * n2 + st2) (la1 * n2 + la2) ks).shown := ⟨_, rfl⟩
    rw [← esh]
    clear r1 r2 r3 r4 s1 s2 s3 s4 esh eD
    refine ⟨rfl, _, rfl, ?_⟩
    rw [decide_eq_true rfl]
    refine iteF ?_
    obtain ⟨dxb, lb2, Eb, Fb, zb, hb, _⟩ := AB.ob
    refine ⟨_, rfl, b, dxb, _, rfl, hb, no_same .., _, rfl, _, rfl, and_in A2 A1 ap21 (by omega) (by omega) fun H8 x8 ks8 S8 n8 e8 M8 => ?_⟩
    refine ⟨b, x8, n1 * n2, st1 * n2 + st2, la1 * n2 + la2, n2 * n1, st2 * n1 + st1, la2 * n1 + la1, msb, ks8, rfl, AB.same S8, M8, fun H9 S9 => ?_⟩
    rw [same_dec TT.k1 TT.k2 ap.a12 (by omega) (by omega) eb e8]
    refine ⟨_, rfl, ?_⟩
    refine iteF ?_
    have S89 := S8.trans S9
    have T9 := T7.same S89
    replace A1 := A1.same S89
    replace A2 := A2.same S89
    replace A3 := A3.same S89
    replace AB := AB.same S89
    have S09 := S07.trans S89
    clear S89 S8 S9 M8 hb T7 S07 n8
    -- the letters of both
    have l12 : (ms1 ++ ms2).length ≤ 16 := by
      have := ap.c1
      have := ap.c2
      rw [List.length_append]
      omega
    refine ⟨_, rfl, q1, _, rfl, plan_get T9.p1 (v_moves ..), _, rfl, q2, _, rfl, plan_get T9.p2 (v_moves ..), cat_in T9.m1.tp T9.m2.tp (by rw [List.length_map, List.length_map, sizeLine_eq]; rw [List.length_append] at l12; omega) fun lw H10 S10 hw => ?_⟩
    rw [← List.map_append] at hw
    have it10 : ∀ p ∈ ms1 ++ ms2, SqT K H10 p.1 (mvV p.2) := fun p hp => by
      rcases List.mem_append.mp hp with z | z
      · exact same_seqT S10 (T9.m1.it p z)
      · exact same_seqT S10 (T9.m2.it p z)
    have T10 := T9.same S10
    replace A1 := A1.same S10
    replace A2 := A2.same S10
    replace A3 := A3.same S10
    replace AB := AB.same S10
    have S010 := S09.trans S10
    clear S09 T9 S10
    obtain ⟨mu, emu⟩ : ∃ mu, mu = ms1 ++ ms2 := ⟨_, rfl⟩
    rw [← emu] at hw it10 l12
    refine ⟨lw, rfl, ⟨_, hw⟩, fun D nD => ?_⟩
    refine lc_tup (K := K) (a := lw) (xs := mu.map fun p => V.ref p.1) (fun i H' => H' = upd H10 D (.lst ((mu.take i).map fun p => V.str (sg p.2.c)))) rfl (fun i H' _ e => by rw [e]; exact same_seqT (same_up nD) hw) ?_ ?_
    · rintro i y H' hi rfl
      rw [List.getElem?_map] at hi
      obtain ⟨p, hp, rfl⟩ := Option.map_eq_some_iff.mp hi
      have hit := same_seqT (same_up (o := .lst ((mu.take i).map fun p => V.str (sg p.2.c))) nD) (it10 p (List.mem_of_getElem? hp))
      have il : i < mu.length := (List.getElem?_eq_some_iff.mp hp).1
      refine ⟨p.1, _, rfl, hit, rfl, _, _, rfl, _, _, rfl, _, _, rfl, rfl, rfl, _, rfl, _, upd_same, by rw [List.length_map, List.length_take, sizeLine_eq]; omega, ?_⟩
      rw [upd_upd, List.take_add_one, hp, List.map_append] <;> rfl
    rintro H2 rfl
    rw [List.length_map, List.take_length]
    have mm : (mu.map fun p => V.str (sg p.2.c)) = (mu.map fun p => sg p.2.c).map V.str := by rw [List.map_map] <;> rfl
    have R2 : Same H10 (upd H10 D (.lst (mu.map fun p => V.str (sg p.2.c)))) := same_up nD
    refine ⟨D, mu.map fun p => sg p.2.c, rfl, SqL.of (by rw [upd_same, mm]), by rw [List.length_map]; unfold scanBound; omega, fun S nS => ?_⟩
    have R3 := R2.trans (same_up (o := SetSO P w S (Vs.putL [] (mu.map fun p => sg p.2.c))) nS)
    refine ⟨S, _, rfl, upd_same, fun ys p pm nd srt np => ?_⟩
    have R4 := R3.trans (same_up (o := .lst (ys.map V.str)) np)
    have hp : upd (upd (upd H10 D (.lst (mu.map fun p => V.str (sg p.2.c)))) S (SetSO P w S (Vs.putL [] (mu.map fun p => sg p.2.c)))) p (.lst (ys.map V.str)) p = some (.lst (ys.map V.str)) := upd_same
    have okmu : ∀ p ∈ mu, 97 ≤ p.2.c ∧ p.2.c ≤ 122 := fun p hp => by
      rw [emu] at hp
      rcases List.mem_append.mp hp with z | z
      · exact (TT.k1.ok p z).2.2
      · exact (TT.k2.ok p z).2.2
    have ey : ys = (lettersM mu).map sg := by
      refine own_are (fun p hp => (okmu p hp).2) (fun y => ?_) nd srt
      rw [pm.mem_iff, Vs.mem_putL]
      refine ⟨fun h => ?_, fun ⟨p, hp, e⟩ => .inr (List.mem_map.mpr ⟨p, hp, e.symm⟩)⟩
      rcases h with z | z
      · cases z
      · obtain ⟨p, hp, e⟩ := List.mem_map.mp z
        exact ⟨p, hp, e.symm⟩
    obtain ⟨HS, eHS⟩ : ∃ HS, HS = upd (upd (upd H10 D (.lst (mu.map fun p => V.str (sg p.2.c)))) S (SetSO P w S (Vs.putL [] (mu.map fun p => sg p.2.c)))) p (.lst (ys.map V.str)) := ⟨_, rfl⟩
    rw [← eHS] at R4 hp
    erw [← eHS]
    have npg : p ≠ g := by
      obtain ⟨_, xg, hg⟩ := (DD.same (S010.trans R3)).two
      exact (ne_of_none hg np).symm
    clear eHS R2 R3
    obtain ⟨sgs, esgs⟩ : ∃ sgs, sgs = lettersM mu := ⟨_, rfl⟩
    rw [← esgs] at ey
    have hO : HS p = some (.lst (nT sgs)) := by
      rw [hp, ey, List.map_map] <;> rfl
    have sg26 : sgs.length ≤ 26 := by
      rw [esgs]
      exact lets_le mu okmu
    have sgaz : ∀ c ∈ sgs, 97 ≤ c ∧ c ≤ 122 := fun c hc => by
      rw [esgs] at hc
      obtain ⟨q, hq, e⟩ := (mem_lettersM fun p hp => (okmu p hp).2).mp hc
      rw [← e]
      exact okmu q hq
    have TS := T10.same R4
    replace A1 := A1.same R4
    replace A2 := A2.same R4
    replace A3 := A3.same R4
    replace AB := AB.same R4
    have S0S := S010.trans R4
    have DS := DD.same S0S
    clear hp ey R4 T10 S010 hw it10 pm nd srt np nS nD
    refine go_name ?_
    dsimp only
    refine go_seq ?_
    -- the words
    refine ⟨⟨_, rfl⟩, _, rfl, (3 : Int), rfl, p, _, rfl, SqL.of hO, fun c3 nc3 => ?_⟩
    have ec : cutV (nT sgs) none (some (3 : Int)) = ((sgs.take 3).map sg).map V.str := by
      rw [show (3 : Int) = ((3 : Nat) : Int) from rfl, cut_to]
      unfold nT
      rw [← List.map_take, List.map_map] <;> rfl
    rw [ec]
    have t3 : (sgs.take 3).length ≤ 3 := by rw [List.length_take]; omega
    have S11 := same_up (o := .lst (((sgs.take 3).map sg).map V.str)) nc3
    refine ⟨_, c3, (sgs.take 3).map sg, rfl, rfl, .inl (SqL.of upd_same), ?_, ?_⟩
    · rw [ones (fun y hy => by
        obtain ⟨m, _, rfl⟩ := List.mem_map.mp hy
        rfl), List.length_map]
      show (sgs.take 3).length + (sgs.take 3).length * 0 ≤ 16777216
      omega
    have ez3 := join_sg (sgs.take 3)
    generalize Txt.join "" ((sgs.take 3).map sg) = z3 at ez3 ⊢
    generalize upd HS c3 (.lst (((sgs.take 3).map sg).map V.str)) = H11 at S11 ⊢
    refine ⟨z3, 4, rfl, by rw [ez3]; omega, Nat.le_refl _, fun H12 so S12 nso hso => ?_⟩
    rw [ez3] at hso
    have fso := found_le (sg := sgs.take 3) (by omega) 4
    have f625 : (5 : Nat) ^ 4 = 625 := by decide
    have S1112 := S11.trans S12
    have nsoS := none_back S11 nso
    have D12 := DS.same S1112
    obtain ⟨ws0, ews0⟩ : ∃ ws0, ws0 = foundL (sgs.take 3) 4 := ⟨_, rfl⟩
    rw [← ews0] at hso fso
    have w0 : ∀ z ∈ ws0, WordOf (121 :: sgs) z := fun z hz => by
      rw [ews0] at hz
      obtain ⟨i1, i2⟩ := found_of 4 z hz
      exact ⟨fun c hc => .tail _ (List.mem_of_mem_take (i1 c hc)), by omega⟩
    have B12 : But d g HS H12 := but_same S1112
    clear S11 S12 S1112 nso ez3 ec nc3 ews0
    refine go_name ?_
    dsimp only
    refine go_seq ?_
    obtain ⟨⟨kdS, hdS⟩, xgS, hgS⟩ := DS.two
    have nsd : so ≠ d := (ne_of_none hdS nsoS).symm
    have nsg : so ≠ g := (ne_of_none hgS nsoS).symm
    have npd : p ≠ d := ne_of hO hdS (fun z => by cases z)
    refine ⟨(12 : Int), rfl, by decide, by decide, ?_⟩
    refine for_range (lo := 0) (n := 12) (fun i σ H' => ∃ (v13 : Option V) (ws : List Str) (m' : Int), σ = [some (.ref d), some (.ref q1), some (.ref q2), some (.ref q3), some (.ref a1), some (.ref a2), some (.ref a3), some (.ref b), some (.ref p), none, none, none, some (.ref so), v13, none, none] ∧ But d g HS H' ∧ DeckAt H' d g m' ∧ m' ≤ m + 14 * (i : Int) ∧ H' so = some (.lst (ws.map V.str)) ∧ ws.length ≤ 625 + i ∧ ∀ z ∈ ws, WordOf (121 :: sgs) z)
      ⟨none, ws0, m, rfl, B12, D12, by omega, hso, by omega, w0⟩ ?_ ?_
    · rintro i σ H1 hi ⟨v13, ws, m', rfl, B1, D1, hm', hs1, wl1, w1⟩
      refine ⟨_, rfl, .inl ⟨rfl, _, SqL.of hs1⟩, ⟨_, rfl⟩, _, rfl, d, g, 13, m', rfl, D1, by decide, by decide, by omega, fun r0 H2 r00 r01 D2 B2 => ?_⟩
      have B02 := B1.trans B2
      have hs2 := B2 _ _ hs1 nsd nsg
      refine ⟨r0, rfl, by omega, by omega, fun D nD => ?_⟩
      obtain ⟨nDS, nDd, nDg⟩ := but_none B02 D2 nD
      have nDso : D ≠ so := (ne_of_none hs2 nD).symm
      refine lc_range (lo := 0) (n := r0.toNat) (fun j H' => ∃ (cs : List Nat) (m2 : Int), H' D = some (.lst (nT cs)) ∧ cs.length = j ∧ (∀ c ∈ cs, c ∈ 121 :: sgs) ∧ But d g HS H' ∧ DeckAt H' d g m2 ∧ m2 ≤ m' + 1 + (j : Int) ∧ H' so = some (.lst (ws.map V.str)))
        ⟨[], m' + 1, upd_same, rfl, (fun c h => absurd h List.not_mem_nil), but_upd B02 nDS, deck_upd D2 nDd.symm nDg.symm, by omega, by rw [upd_ne nDso.symm]; exact hs2⟩ ?_ ?_
      · rintro j H3 hj ⟨cs, m2, hD3, cl, cin, B3, D3, hm2, hs3⟩
        refine ⟨rfl, ?_⟩
        have hO3 : H3 p = some (.lst (nT sgs)) := B3 _ _ hO npd npg
        refine ⟨_, rfl, _, rfl, by show 1 ≤ sizeLine; decide, fun by_ nby => ?_⟩
        have S4 := same_up (o := .lst [V.str "y"]) nby
        refine ⟨p, by_, _, _, rfl, rfl, S4 _ _ hO3, upd_same, ?_, fun mn nmn => ?_⟩
        · unfold nT
          rw [List.length_map, sizeLine_eq]
          show sgs.length + 1 ≤ _
          omega
        have S5 := S4.trans (same_up (o := .lst (nT sgs ++ [V.str "y"])) nmn)
        have hmn : upd (upd H3 by_ (.lst [V.str "y"])) mn (.lst (nT sgs ++ [V.str "y"])) mn = some (.lst (nT sgs ++ [V.str "y"])) := upd_same
        have nmg : mn ≠ g := by
          obtain ⟨_, xg, hg⟩ := D3.two
          exact (ne_of_none (S4 _ _ hg) nmn).symm
        generalize upd (upd H3 by_ (.lst [V.str "y"])) mn (.lst (nT sgs ++ [V.str "y"])) = H5 at S5 hmn ⊢
        have lm : (nT sgs ++ [V.str "y"]).length = sgs.length + 1 := by
          unfold nT
          rw [List.length_append, List.length_map] <;> rfl
        refine ⟨d, g, mn, m2, _, rfl, D3.same S5, by omega, SqL.of hmn, by rw [lm]; omega, by rw [lm]; omega, nmg, fun ix v H6 hv D6 B6 => ?_⟩
        obtain ⟨c, hc, rfl⟩ := menu_at hv
        have B56 := (but_same (d := d) (g := g) S5).trans B6
        have hD6 := B56 _ _ hD3 nDd nDg
        refine ⟨_, hD6, ?_, cs ++ [c], m2 + 1, ?_, ?_, ?_, but_upd (B3.trans B56) nDS, deck_upd D6 nDd.symm nDg.symm, by omega, ?_⟩
        · unfold nT
          rw [List.length_map, sizeLine_eq]
          omega
        · rw [upd_same]
          unfold nT
          rw [List.map_append] <;> rfl
        · rw [List.length_append, cl] <;> rfl
        · intro x hx
          rcases List.mem_append.mp hx with z | z
          · exact cin x z
          · rw [List.mem_singleton.mp z]
            exact hc
        · rw [upd_ne nDso.symm]
          exact B56 _ _ hs3 nsd nsg
      · rintro H3 ⟨cs, m2, hD3, cl, cin, B3, D3, hm2, hs3⟩
        have c12 : cs.length ≤ 12 := by omega
        have nTm : nT cs = (cs.map sg).map V.str := by
          unfold nT
          rw [List.map_map] <;> rfl
        refine ⟨_, D, cs.map sg, rfl, rfl, .inl (SqL.of (by rw [hD3, nTm])), ?_, ?_⟩
        · rw [ones (fun y hy => by
            obtain ⟨m, _, rfl⟩ := List.mem_map.mp hy
            rfl), List.length_map]
          show cs.length + cs.length * 0 ≤ 16777216
          omega
        have ez := join_sg cs
        generalize Txt.join "" (cs.map sg) = z at ez ⊢
        refine ⟨so, _, _, rfl, rfl, hs3, by rw [List.length_map, sizeLine_eq]; omega, ?_⟩
        refine ⟨_, ws ++ [z], m2, rfl, but_upd B3 nsoS, deck_upd D3 nsd.symm nsg.symm, by omega, by rw [upd_same, List.map_append] <;> rfl, by rw [List.length_append]; show ws.length + 1 ≤ _; omega, fun y hy => ?_⟩
        rcases List.mem_append.mp hy with q | q
        · exact w1 y q
        · rw [List.mem_singleton.mp q]
          exact ⟨fun c hc => cin c (by rw [ez] at hc; exact hc), by rw [ez]; omega⟩
    · rintro σ H1 ⟨v13, ws, m', rfl, B1, D1, hm', hs1, wl1, w1⟩
      dsimp only
      refine go_seq ?_
      have OS := B1.off DS
      have T1 := TS.but DS B1 e1 e2 e3
      replace A1 := A1.off OS
      replace A2 := A2.off OS
      replace A3 := A3.off OS
      replace AB := AB.off OS
      have B01 : But d g H H1 := (but_same S0S).trans B1
      clear OS TS DS B1 hO hdS hgS B12 D12 S0S hso w0 fso
      -- the words asked
      refine ⟨_, rfl, so, rfl, ⟨_, SqL.of hs1⟩, fun D nD => ?_⟩
      have SD := same_up (o := .lst []) nD
      have hD0 : upd H1 D (.lst []) D = some (.lst []) := upd_same
      refine lc_list (K := K) (a := so) (xs := ws.map V.str) (fun i H' => Same (upd H1 D (.lst [])) H') (Same.refl _) (fun i H' _ S => SqL.of (S _ _ (SD _ _ hs1))) ?_ ?_
      · rintro i y H2 hi S2
        rw [List.getElem?_map] at hi
        obtain ⟨x, hx, rfl⟩ := Option.map_eq_some_iff.mp hi
        have xm := List.mem_of_getElem? hx
        obtain ⟨xin, xl⟩ := w1 x xm
        have S12 := SD.trans S2
        have okW : OkW x := ⟨fun c hc => by
          rcases List.mem_cons.mp (xin c hc) with z | z
          · omega
          · exact sgaz c z, by rw [← Array.length_toList]; omega⟩
        have AB2 := AB.same S12
        obtain ⟨dxb, lb2, Eb, Fb, zb, hb, _⟩ := AB2.ob
        refine ⟨rfl, ?_⟩
        refine ⟨_, rfl, _, rfl, b, dxb, _, rfl, hb, b, n1 * n2, st1 * n2 + st2, la1 * n2 + la2, x, msb, rfl, okW, AB2, fun H3 S3 => ⟨_, rfl, ?_⟩⟩
        have T3 := T1.same (S12.trans S3)
        refine ⟨_, rfl, _, rfl, _, rfl, q1, q2, l1, l2, n1, st1, la1, n2, st2, la2, ms1, ms2, x, rfl, T3.p1, T3.p2, T3.m1, T3.m2, T3.k1, T3.k2, by omega, fun H4 S4 => ?_⟩
        have oP := ok_prod oA oB ap.a12 (by omega) (by omega)
        have wp := word_prod oA oB ap.a12 oP x.cps.toList
        have same : decide (walkM msb (st1 * n2 + st2) x.cps.toList = some (la1 * n2 + la2)) = (decide (walkL (mL ms1) st1 (x.cps.toList.filter (ownF (mL ms1))) = some la1) && decide (walkL (mL ms2) st2 (x.cps.toList.filter fun c => !ownF (mL ms1) c) = some la2)) := by
          rw [walkM_L, show msb.map (·.2) = _ from eb]
          exact wp
        refine ⟨rfl, _, rfl, ?_⟩
        show if (!decide (V.bl (decide (walkM msb (st1 * n2 + st2) x.cps.toList = some (la1 * n2 + la2))) = V.bl _)) = true then _ else _
        rw [same, decide_eq_true rfl]
        refine iteF ?_
        exact S2.trans (S3.trans S4)
      rintro H2 S2
      have S12 := SD.trans S2
      have T2 := T1.same S12
      replace A1 := A1.same S12
      replace A2 := A2.same S12
      replace A3 := A3.same S12
      have B02 := B01.trans (but_same S12)
      have D2 := D1.same S12
      have hD2 := S2 _ _ hD0
      clear S2 SD S12 T1 B01 D1 hD0 AB hs1 nD
      refine ⟨Nat.zero_le _, fun L nL => ?_⟩
      have SL := same_up (o := .lst []) nL
      refine ⟨.list [], .list [], .lst (SqL.of (SL _ _ hD2)) .nil, .lst (SqL.of upd_same) .nil, by decide, by decide, _, rfl, ?_⟩
      refine iteF ?_
      have T3 := T2.same SL
      replace A1 := A1.same SL
      replace A2 := A2.same SL
      replace A3 := A3.same SL
      have B03 := B02.trans (but_same SL)
      have D3 := D2.same SL
      generalize upd H2 L (.lst []) = H3 at T3 A1 A2 A3 B03 D3 ⊢
      clear SL T2 B02 D2 hD2 nL
      -- three joined either way
      have c12 : (prodL n1 (mL ms1) n2 (mL ms2)).length ≤ 64 := by rw [prod_len]; exact lm12
      have c23 : (prodL n2 (mL ms2) n3 (mL ms3)).length ≤ 28 := by rw [prod_len]; exact lm23
      have nL3 : n1 * n2 * n3 ≤ 32 := Nat.mul_le_mul hn12 ap.n3
      have nR3 : n1 * (n2 * n3) ≤ 32 := Nat.mul_le_mul ap.n1 hn23
      have oAB := ok_prod oA oB ap.a12 (by omega) (by omega)
      have oBC := ok_prod oB oC ap.a23 (by omega) (by omega)
      have apL : Apart (prodL n1 (mL ms1) n2 (mL ms2)) (mL ms3) := fun x hx c hc => by
        rcases mem_prodL.mp hx with ⟨a, ha, j, hj, rfl⟩ | ⟨b, hb, i, hi, rfl⟩
        · exact ap.a13 a ha c hc
        · exact ap.a23 b hb c hc
      have apR : Apart (mL ms1) (prodL n2 (mL ms2) n3 (mL ms3)) := fun a ha x hx => by
        rcases mem_prodL.mp hx with ⟨b, hb, j, hj, rfl⟩ | ⟨c, hc, i, hi, rfl⟩
        · exact ap.a12 a ha b hb
        · exact ap.a13 a ha c hc
      refine ⟨_, rfl, _, rfl, and_in A1 A2 ap.a12 (by omega) (by omega) fun H4 x4 k4 S4 n4 f4 M4 => ?_⟩
      refine ⟨_, rfl, and_in M4 (A3.same S4) (by rw [f4]; exact apL) (by omega) (by rw [f4]; have := Nat.mul_le_mul c12 ap.n3; have := Nat.mul_le_mul len3 hn12; omega) fun H5 x5 k5 S5 n5 f5 M5 => ?_⟩
      have S45 := S4.trans S5
      refine ⟨_, rfl, _, rfl, _, rfl, and_in (A2.same S45) (A3.same S45) ap.a23 (by omega) (by omega) fun H6 x6 k6 S6 n6 f6 M6 => ?_⟩
      have S46 := S45.trans S6
      refine and_in (A1.same S46) M6 (by rw [f6]; exact apR) (by omega) (by rw [f6]; have := Nat.mul_le_mul len1 hn23; have := Nat.mul_le_mul c23 ap.n1; omega) fun H7 x7 k7 S7 n7 f7 M7 => ?_
      have M57 := (M5.same S6).same S7
      obtain ⟨dx5, _, _, _, _, h5, _⟩ := M57.ob
      obtain ⟨dx7, _, _, _, _, h7, _⟩ := M7.ob
      refine ⟨x5, x7, dx5, dx7, _, _, rfl, rfl, h5, h7, x5, x7, _, _, _, _, _, _, k5, k7, rfl, M57, M7, _, rfl, ?_⟩
      have eqs : k5.map (·.2) = k7.map (·.2) := by
        rw [show k5.map (·.2) = _ from f5, show k7.map (·.2) = _ from f7, f4, f6]
        exact prod_assoc oA oB oC ap.a12 ap.a13 ap.a23 oAB oBC
      have q1' : ∀ i j k : Nat, (i * n2 + j) * n3 + k = i * (n2 * n3) + (j * n3 + k) := fun i j k => by rw [Nat.add_mul, Nat.mul_assoc, Nat.add_assoc]
      rw [decide_eq_true ⟨Nat.mul_assoc n1 n2 n3, q1' _ _ _, q1' _ _ _, eqs⟩]
      refine ⟨_, rfl, ?_⟩
      refine iteF ?_
      have S37 := S46.trans S7
      have T7 := T3.same S37
      replace A1 := A1.same S37
      replace A2 := A2.same S37
      have B07 := B03.trans (but_same S37)
      have D7 := D3.same S37
      clear S37 S46 S45 S4 S5 S6 S7 T3 A3 B03 D3 h5 h7 M57 M7 M6 M5 M4 n4 n5 n6 n7
      -- both machines stay
      have twoR := pt_two (pt_good TT.k1.n1 TT.k1.n2 TT.k1.hst TT.k1.hla TT.k1.few TT.k1.ok) (pt_good TT.k2.n1 TT.k2.n2 TT.k2.hst TT.k2.hla TT.k2.few TT.k2.ok) (pt_nodict1 n1 st1 la1 ms1) (pt_nodict1 n2 st2 la2 ms2)
      obtain ⟨r1, r2, r3, r4⟩ := twoR
      refine ⟨_, rfl, a1, n1, st1, la1, ms1, rfl, A1, fun p1 l7 np1 hm7 => ?_⟩
      have S8 := same_up (o := .tup [.int (n1 : Int), .int (st1 : Int), .int (la1 : Int), .ref l7]) np1
      refine ⟨_, rfl, a2, n2, st2, la2, ms2, rfl, A2.same S8, fun p2 l8 np2 hm8 => ?_⟩
      have S9 := same_up (o := .tup [.int (n2 : Int), .int (st2 : Int), .int (la2 : Int), .ref l8]) np2
      refine ⟨by show 2 ≤ sizeLine; decide, fun L9 nL9 => ?_⟩
      have S10 := same_up (o := .lst [.ref p1, .ref p2]) nL9
      have S910 := S9.trans S10
      refine ⟨L9, .list [ptD n1 st1 la1 ms1, ptD n2 st2 la2 ms2], rfl, .lst (SqL.of upd_same) (.cons (dp_pt (SqT.of (S910 _ _ upd_same)) ((hm7.same S8).same S910)) (.cons (dp_pt (SqT.of (S10 _ _ upd_same)) (hm8.same S910)) .nil)), r1, r2, r3, r4, ?_⟩
      have S810 := S8.trans S910
      have T10 := T7.same S810
      have B10 := B07.trans (but_same S810)
      have D10 := D7.same S810
      generalize upd (upd (upd H7 p1 (.tup [.int (n1 : Int), .int (st1 : Int), .int (la1 : Int), .ref l7])) p2 (.tup [.int (n2 : Int), .int (st2 : Int), .int (la2 : Int), .ref l8])) L9 (.lst [.ref p1, .ref p2]) = H10 at T10 B10 D10 ⊢
      clear S8 S9 S10 S910 S810 np1 np2 nL9 hm7 hm8 T7 B07 D7 A1 A2
      refine ⟨_, rfl, q1, l1, n1, st1, la1, _, rfl, T10.p1, v_size .., v_first .., v_last .., v_moves .., fun p1 np1 => ?_⟩
      have S8 := same_up (o := .tup [.int (n1 : Int), .int (st1 : Int), .int (la1 : Int), .ref l1]) np1
      refine ⟨_, rfl, q2, l2, n2, st2, la2, _, rfl, S8 _ _ T10.p2, v_size .., v_first .., v_last .., v_moves .., fun p2 np2 => ?_⟩
      have S9 := same_up (o := .tup [.int (n2 : Int), .int (st2 : Int), .int (la2 : Int), .ref l2]) np2
      refine ⟨by show 2 ≤ sizeLine; decide, fun L9 nL9 => ?_⟩
      have S10 := same_up (o := .lst [.ref p1, .ref p2]) nL9
      have S910 := S9.trans S10
      have S810 := S8.trans S910
      refine ⟨L9, .list [ptD n1 st1 la1 ms1, ptD n2 st2 la2 ms2], rfl, .lst (SqL.of upd_same) (.cons (dp_pt (SqT.of (S910 _ _ upd_same)) (T10.m1.same S810)) (.cons (dp_pt (SqT.of (S10 _ _ upd_same)) (T10.m2.same S810)) .nil)), r1, r2, r3, r4, ?_⟩
      obtain ⟨sh2, esh2⟩ : ∃ sh2, sh2 = (PyData.list [ptD n1 st1 la1 ms1, ptD n2 st2 la2 ms2]).shown := ⟨_, rfl⟩
      rw [← esh2]
      clear r1 r2 r3 r4 esh2
      refine ⟨rfl, ?_⟩
      rw [decide_eq_true rfl]
      exact k _ m' (B10.trans (but_same S810)) (D10.same S810) (by omega)
end
end Vk
set_option Elab.async false
set_option linter.all false
set_option maxRecDepth 100000
set_option maxHeartbeats 4000000
namespace Vk
open PySem PySem.Spec PyProof.Rows L2 Vt
def cL (z : Str) : List Nat := z.cps.toList
theorem cL_len (z : Str) : z.length = (cL z).length := by
  unfold cL
  rw [Array.length_toList]
  rfl
/-! ## a text times a number -/
def rMulS : R2 := fun x y H Q => ∃ (z : Str) (n : Int), x = .str z ∧ y = .int n ∧ MulOk z n ∧ Q (.str (Txt.mul z n)) H
theorem op_mulS {X : Cx} : OpR X (binaryOp .Mult) rMulS := by
  intro pins s σ H x y v u Q I rx ry h
  obtain ⟨z, n, rfl, rfl, ok, q⟩ := h
  obtain ⟨t, rfl⟩ := rx
  obtain ⟨t2, rfl⟩ := ry
  exact SB.mul ok fun t' k => ⟨.str _, H, I.tok k, ⟨t', rfl⟩, q⟩
def reps (m : Nat) (l : List Nat) : List Nat := (List.replicate m l).flatten
theorem reps_succ (m : Nat) (l : List Nat) : reps (m + 1) l = l ++ reps m l := by unfold reps; rw [List.replicate_succ, List.flatten_cons]
theorem reps_last (m : Nat) (l : List Nat) : reps (m + 1) l = reps m l ++ l := by
  unfold reps
  rw [List.replicate_succ', List.flatten_append]
  simp
theorem reps_len (m : Nat) (l : List Nat) : (reps m l).length = m * l.length := by
  induction m with
  | zero => simp [reps]
  | succ m ih => rw [reps_succ, List.length_append, ih, Nat.succ_mul, Nat.add_comm]
theorem fold_cps (x : Array Nat) : ∀ (m : Nat) (a : Array Nat), ((List.replicate m x).foldl (· ++ ·) a).toList = a.toList ++ reps m x.toList
  | 0, a => by simp [reps]
  | m + 1, a => by
    rw [List.replicate_succ, List.foldl_cons, fold_cps x m, reps_succ, Array.toList_append, List.append_assoc]
theorem cL_mul (z : Str) (n : Nat) : cL (Txt.mul z (n : Int)) = reps n (cL z) := by
  unfold Txt.mul
  by_cases h0 : n = 0
  · subst h0
    rw [if_pos (by decide)]
    rfl
  · rw [if_neg (by omega)]
    by_cases h1 : ((n : Int) == 1 || z.length == 0) = true
    · rw [if_pos h1]
      rw [Bool.or_eq_true, beq_iff_eq, beq_iff_eq] at h1
      rcases h1 with h1 | h1
      · have : n = 1 := by omega
        subst this
        simp [reps]
      · have e : cL z = [] := List.eq_nil_of_length_eq_zero (by rw [← cL_len]; exact h1)
        rw [e]
        simp [reps]
    · rw [if_neg h1]
      show ((List.replicate ((n : Int).toNat) z.cps).foldl (· ++ ·) #[]).toList = _
      rw [fold_cps, Int.toNat_natCast]
      rfl
theorem mul_ok (z : Str) (n : Nat) (h : z.length * n ≤ 100000) (hz : z.length ≤ 10) (hn : n ≤ 100000) : MulOk z (n : Int) := by
  refine ⟨?_, fun _ _ => ?_, fun _ _ => ?_⟩
  · rw [Bool.or_eq_false_iff, decide_eq_false_iff_not, decide_eq_false_iff_not]
    omega
  · rename_i a b
    have a : ¬ (n : Int) < 1 := a
    rw [Int.not_lt]
    refine Int.le_ediv_of_mul_le (by omega) ?_
    have e : (z.length : Int) * (n : Int) ≤ 100000 := by
      have := Int.ofNat_le.mpr h
      rwa [Int.natCast_mul] at this
    exact Int.le_trans e (by decide)
  · rw [Int.toNat_natCast]
    exact decide_eq_false (by rw [sizeLine_eq]; omega)
end Vk
namespace PySem.W
open PySem PySem.Spec PySem.Calls PyProof.Rows
section
variable {prog : Program} {w : World} {A : Around} {E : Value → Shared → Prop} {s : Shared} {K : Frag} {x C f : Addr} {ox : Obj} {od : Option Obj} {name : Str}
theorem own_special {M : Model} {args : List Value} {Q : Option Value → Shared → Prop} (X : K.In s.heap) (I : InstAt s.heap x ox C od) (hs : findIn K (.ref C) name = some (some (.ref f))) (hf : isFn K (.ref f) = true)
    (h : wpAny M A (call (.ref f) (.ref x :: args)) (fun v => Q (some v)) E s) : wpAny M A (callSpecial? (.ref x) name args) Q E s :=
  wpAny_bind (wpAny_bind (I.type.here ((looks_findIn X hs).here (wpAny_holding (wpAny_bind ((bind_fn X _ (beq_iff_eq.mp hf)).here (wpAny_bind (wpAny_mono h (fun _ _ z => wpAny_pure z) fun _ _ z => z))))))))
open Builtin in
theorem own_len {Q : Value → Shared → Prop} (X : K.In s.heap) (I : InstAt s.heap x ox C od) (hs : findIn K (.ref C) "__len__" = some (some (.ref f))) (hf : isFn K (.ref f) = true)
    (h : wpAny (model prog w) A.in1 (call (.ref f) [.ref x]) (fun r s' => ∃ n u, r = .int n u ∧ 0 ≤ n ∧ n < 2 ^ 63 ∧ Q (.int n s'.toks) { s' with toks := s'.toks + 1 }) E s) : wpAny (model prog w) A (call (.builtin "len") [.ref x]) Q E s := by
  refine Calls.call_function_entry kind_len plain_len entry_len (args_len1 _) ?_
  unfold Builtin.«len»
  refine wpAny_bind (m := oneArg "len" _) (wpAny_pure ?_)
  refine wpAny_bind (m := callSpecial? (.ref x) (Str.ofString "__len__")) (own_special X I hs hf (wpAny_mono h (fun r s' hr => ?_) fun _ _ y => y))
  obtain ⟨n, u, rfl, h0, h1, hq⟩ := hr
  refine wpAny_bind (wpAny_holding (wpAny_pure ?_))
  refine wpAny_bind (wpAny_letGo ?_)
  show wpAny _ _ (if n < 0 then _ else _) _ _ _
  rw [if_neg (by omega)]
  show wpAny _ _ (if n ≥ 2 ^ 63 then _ else _) _ _ _
  rw [if_neg (by omega)]
  exact wpAny_bind (wpAny_mkInt (wpAny_pure ⟨_, rfl, hq⟩))
end
end PySem.W
namespace Vk
open PySem PySem.Spec PyProof.Rows L2 Vt
abbrev sMLen : Stmt := inClass (top8 27) 1
section
variable {X : Cx} {H : Hp} {CX : CXT} {k : Nat} {f C : Addr} {fd : FuncData} {ps : List Str} {sp : Sp} {E : XK}
def rLenO (C : Addr) (sp : Sp) (E : XK) : List V → Hp → VK → Prop := fun vs H Q => ∃ a dx fs, vs = [.ref a] ∧ H a = some (.ins C dx fs) ∧ sp [.ref a] H (fun v H' => ∃ n : Nat, v = .int (n : Int) ∧ n < 1000000 ∧ Q (.int (n : Int)) H') E
theorem cr_lenO (F : FnOk X.prog X.w X.K X.mg X.base CX k f fd ps sp) (hr : Room (k + 1) X.A) (hs : PySem.W.findIn X.K (.ref C) "__len__" = some (some (.ref f))) (hf : PySem.W.isFn X.K (.ref f) = true) (hb : Binds X.K fd ps []) (hx : Passes CX X E) :
    CallR X (.builtin "len") (rLenO C sp E) := by
  intro pins s σ H xs us Q I rv h
  obtain ⟨a, dx, fs, rfl, ha, hsp⟩ := h
  cases rv with
  | cons h1 h2 =>
    cases h2
    cases h1
    obtain ⟨m, J, _⟩ := ins_get I.hok ha
    obtain ⟨od, J, _⟩ := J.look
    refine PySem.W.own_len I.kIn J hs hf (own_run F hb hx hr.in1 rfl I (Paired.cons (F := RelV) (a := V.ref a) rfl .nil) hsp fun v s' z => ?_)
    obtain ⟨v', H', I', r', n, e, few, q⟩ := z
    subst e
    obtain ⟨t, rfl⟩ := r'
    exact ⟨_, t, rfl, Int.natCast_nonneg _, by omega, ⟨V.int (n : Int), H', I'.tok _, ⟨_, rfl⟩, q⟩⟩
theorem cr_range1 : CallR X (.type "range") (fun vs H Q => ∃ j, vs = [V.int j] ∧ ∀ p, H p = none → Q (.ref p) (upd H p (.rng 0 j))) := by
  intro pins s σ H vs us Q I r h
  obtain ⟨j, rfl, q⟩ := h
  obtain ⟨u1, rfl, ri⟩ := vals1 r
  obtain ⟨t, rfl⟩ := ri
  refine call_range_1 ⟨.ref s.heap.objs.size, upd H s.heap.objs.size (.rng 0 j), I.laid (t' := s.toks + 1 + 1) (fun b o e => Heap.get?_push_of_some _ e) (Nat.le_refl _) ?_, rfl, q _ (I.hok.fresh (Nat.le_refl _))⟩
  exact ⟨s.toks, t, s.toks + 1, Heap.get?_push_size _ rfl⟩
theorem cr_lenR : CallR X (.builtin "len") (fun vs H Q => ∃ (a : Addr) (n : Nat), vs = [V.ref a] ∧ H a = some (.rng 0 (n : Int)) ∧ n < 1000000 ∧ Q (.int (n : Int)) H) := by
  intro pins s σ H vs us Q I r h
  obtain ⟨a, n, rfl, ha, few, q⟩ := h
  obtain ⟨u1, rfl, ri⟩ := vals1 r
  cases ri
  obtain ⟨t1, t2, t3, ho⟩ := I.hok a _ ha
  refine call_len_range (n := n) ho (by rw [rangeSize_one]; split <;> omega) (by omega) ⟨.int (n : Int), H, I.tok _, ⟨_, rfl⟩, q⟩
end
section
variable {P : Program} {w : World} {K : PySem.W.Frag} {mg : Str → Option Value} {base : Heap}
def spMLen (K : PySem.W.Frag) (C : Addr) : Sp := fun vs H Q _ => ∃ (a : Addr) (n st la : Nat) (ms : List (Addr × Mv)), vs = [.ref a] ∧ MachAt K C H a n st la ms ∧ ∀ H', Same H H' → Q (.int (n : Int)) H'
theorem scML : FnScope ["self"] ["self"] (defScope sMLen) := ⟨rfl, rfl, rfl, by decide +kernel, rfl, by decide +kernel, by decide +kernel⟩
theorem ok_mlen {f C : Addr} {fd : FuncData} (F : Fun K "__len__" "Machine.__len__" sMLen f fd) (T : Txt8 K mg) (M : MCls K C) : FnOk P w K mg base CX0 1 f fd ["self"] (spMLen K C) := by
  refine F.ok scML (fun vs H Q E h => ?_) (fun cdv A outer s H vs Q E hr h => ?_)
  · obtain ⟨a, n, st, la, ms, rfl, _⟩ := h
    rfl
  · obtain ⟨a, n, st, la, ms, rfl, hA, k⟩ := h
    obtain ⟨d, l, E1, F1, z, ha, hM, _⟩ := hA.ob
    refine ⟨_, (pss_one (ps_ret (pe_callB cr_lenR (by rfl) T.len PySem.boot_len (pa_cons (pe_callTy cr_range1 (by rfl) T.rng (by decide +kernel) (pa_cons (pe_fld (pv 0) rfl) pa_nil)) pa_nil)))), ?_⟩
    have n9 := hA.ok.n2
    exact ⟨_, rfl, a, C, d, _, _, rfl, ha, M.cl, M.a1, lk1 .., _, rfl, fun p np => ⟨p, n, rfl, upd_same, by omega, k _ (same_up np)⟩⟩
end
end Vk
namespace Vk
open PySem PySem.Spec PyProof.Rows L2 Vt

/-! ## the least of a sorted list of letters -/
theorem ltCps_sg (a b : Nat) : ltCps (sg a).cps.toList (sg b).cps.toList = decide (a < b) := by
  show ltCps [a] [b] = _
  simp [ltCps]
theorem rise_least : ∀ (r : List Nat) (p : Nat), risingS (sg p) (r.map sg) = true → ∀ x ∈ r, p ≤ x
  | [], _, _, x, h => absurd h List.not_mem_nil
  | y :: r, p, h, x, hx => by
    rw [List.map_cons, risingS, Bool.and_eq_true, ltCps_sg, Bool.not_eq_true', decide_eq_false_iff_not] at h
    rcases List.mem_cons.mp hx with e | hx
    · omega
    · have := rise_least r y h.2 x hx
      omega
end Vk
set_option Elab.async false
set_option linter.all false
set_option maxRecDepth 100000
set_option maxHeartbeats 4000000
namespace Vk
open PySem PySem.Spec PyProof.Rows L2 Vt Vs1
theorem sig_le {ms : List (Addr × Mv)} (h : ∃ zs ∈ sigs, ∀ p ∈ ms, p.2.c ∈ zs) : (lettersM ms).length ≤ 3 := by
  obtain ⟨zs, hz, hin⟩ := h
  have s : (lettersM ms).length ≤ ((List.range 123).filter fun c => decide (c ∈ zs)).length := by
    have e : lettersM ms = ((List.range 123).filter fun c => decide (c ∈ zs)).filter fun c => ms.any fun p => p.2.c == c := by
      rw [List.filter_filter]
      unfold lettersM
      refine List.filter_congr fun c _ => ?_
      rw [Bool.eq_iff_iff, Bool.and_eq_true]
      refine ⟨fun h => ⟨h, ?_⟩, fun h => h.1⟩
      obtain ⟨p, hp, e⟩ := List.any_eq_true.mp h
      have := hin p hp
      rw [beq_iff_eq.mp e] at this
      exact decide_eq_true this
    rw [e]
    exact List.length_filter_le _ _
  refine Nat.le_trans s ?_
  have all : (sigs.all fun zs => decide (((List.range 123).filter fun c => decide (c ∈ zs)).length ≤ 3)) = true := by decide +kernel
  exact of_decide_eq_true (List.all_eq_true.mp all zs hz)
/-- a machine with letters out of a row of three -/
theorem with_ok {n st la : Nat} {ms ks : List (Addr × Mv)} {zs : List Nat} (ok : OkM n st la ms) (l : (lettersM ms).length ≤ zs.length) (nd : zs.Nodup) (az : ∀ c ∈ zs, 97 ≤ c ∧ c ≤ 122) (e : mL ks = ltL (zF zs (lettersM ms)) (mL ms)) :
    OkM n st la ks ∧ (∀ m ∈ mL ks, m.c ∈ zs) ∧ ks.length = ms.length := by
  have lin := let_in ok
  have o : OkL n st la (mL ms) := ok.onL
  have inj : ∀ m ∈ mL ms, ∀ k ∈ mL ms, zF zs (lettersM ms) m.c = zF zs (lettersM ms) k.c → m.c = k.c := fun m hm k hk e => zF_inj l nd (lin m hm) (lin k hk) e
  refine ⟨(ok_lt o inj fun m hm => az _ (zF_in l (lin m hm))).onM e, fun m hm => ?_, ?_⟩
  · rw [e, ltL, mem_sortL] at hm
    obtain ⟨k, hk, rfl⟩ := List.mem_map.mp hm
    exact zF_in l (lin k hk)
  · have := congrArg List.length e
    rw [ltL, sortL_len, List.length_map, List.length_map, List.length_map] at this
    exact this
theorem apart_of {A B : List Mv} {ys zs : List Nat} (h1 : ∀ m ∈ A, m.c ∈ ys) (h2 : ∀ m ∈ B, m.c ∈ zs) (no : ∀ c ∈ ys, c ∉ zs) : Apart A B := fun a ha b hb e => no _ (h1 a ha) (by rw [e]; exact h2 b hb)
/-! ## by hand: twenty rooms and twenty places of a ring -/
def rc (_ : Nat) : Nat := 99
theorem ring_c : ltL rc (ringL 20) = (ringL 20).map (ltM rc) := sortL_id (asc_of (by decide +kernel))
def cor20 : List Mv := corrL 20
def rin20 : List Mv := (ringL 20).map (ltM rc)
theorem cor_ok : OkL 20 0 0 cor20 := by
  have h := okM_of (ms := (corrL 20).map fun m => ((0 : Addr), m)) (look_at corr_look (n := 20) (by decide) (by decide)) (by rw [List.map_map]; exact List.map_id _)
  have := h.onL
  rw [List.map_map] at this
  have e : (corrL 20).map ((fun p : Addr × Mv => p.2) ∘ fun m => ((0 : Addr), m)) = corrL 20 := List.map_id _
  rw [e] at this
  exact this
theorem ring_ok : OkL 20 0 0 (ringL 20) := by
  have h := okM_of (ms := (ringL 20).map fun m => ((0 : Addr), m)) (look_at ring_look (n := 20) (by decide) (by decide)) (by rw [List.map_map]; exact List.map_id _)
  have := h.onL
  rw [List.map_map] at this
  have e : (ringL 20).map ((fun p : Addr × Mv => p.2) ∘ fun m => ((0 : Addr), m)) = ringL 20 := List.map_id _
  rw [e] at this
  exact this
theorem ring_let : ∀ m ∈ ringL 20, m.c = 97 := fun m hm => by
  have : ((ringL 20).all fun m => decide (m.c = 97)) = true := by decide +kernel
  exact of_decide_eq_true (List.all_eq_true.mp this m hm)
theorem rin_ok : OkL 20 0 0 rin20 := by
  have h := ok_lt (f := rc) ring_ok (fun m hm k hk _ => by rw [ring_let m hm, ring_let k hk]) (fun m hm => ⟨by show 97 ≤ 99; decide, by show 99 ≤ 122; decide⟩)
  rw [ring_c] at h
  exact h
theorem cor_len : cor20.length = 38 := by decide +kernel
theorem rin_len : rin20.length = 20 := by decide +kernel
theorem hand_apart : Apart cor20 rin20 := by
  refine apart_of (ys := [97, 98]) (zs := [99]) (fun m hm => ?_) (fun m hm => ?_) (by decide)
  · have : (cor20.all fun m => decide (m.c ∈ [97, 98])) = true := by decide +kernel
    exact of_decide_eq_true (List.all_eq_true.mp this m hm)
  · have : (rin20.all fun m => decide (m.c ∈ [99])) = true := by decide +kernel
    exact of_decide_eq_true (List.all_eq_true.mp this m hm)
def wordN (a c b : Nat) : List Nat := reps a [97] ++ reps c [99] ++ reps b [98]
def wordT (a c b : Nat) : Str := Txt.mul "a" (a : Int) ++ Txt.mul "c" (c : Int) ++ Txt.mul "b" (b : Int)
theorem wordT_cL (a c b : Nat) : (wordT a c b).cps.toList = wordN a c b := by
  have h1 := cL_mul "a" a
  have h2 := cL_mul "c" c
  have h3 := cL_mul "b" b
  unfold wordT wordN
  have e1 : ∀ x y : Str, (x ++ y).cps.toList = x.cps.toList ++ y.cps.toList := fun x y => TL.tl_append x y
  rw [e1, e1]
  unfold cL at h1 h2 h3
  rw [h1, h2, h3] <;> rfl
theorem hand_word (c : Nat) (oP : OkL (20 * 20) (0 * 20 + 0) (0 * 20 + 0) (prodL 20 cor20 20 rin20)) (h : (decide (walkL cor20 0 ((wordN 19 c 19).filter (ownF cor20)) = some 0) && decide (walkL rin20 0 ((wordN 19 c 19).filter fun x => !ownF cor20 x) = some 0)) = r) :
    decide (walkL (prodL 20 cor20 20 rin20) (0 * 20 + 0) (wordT 19 c 19).cps.toList = some (0 * 20 + 0)) = r := by
  rw [wordT_cL, word_prod cor_ok rin_ok hand_apart oP]
  exact h
theorem hand_yes : (decide (walkL cor20 0 ((wordN 19 20 19).filter (ownF cor20)) = some 0) && decide (walkL rin20 0 ((wordN 19 20 19).filter fun x => !ownF cor20 x) = some 0)) = true := by decide +kernel
theorem hand_no : (decide (walkL cor20 0 ((wordN 19 19 19).filter (ownF cor20)) = some 0) && decide (walkL rin20 0 ((wordN 19 19 19).filter fun x => !ownF cor20 x) = some 0)) = false := by decide +kernel
/-! ## by hand: two rings of two -/
def A2 : List Mv := [⟨0, 97, 1⟩, ⟨1, 98, 0⟩]
def B2 : List Mv := [⟨0, 120, 1⟩, ⟨1, 121, 0⟩]
def R2 : List Mv := [⟨0, 97, 2⟩, ⟨0, 120, 1⟩, ⟨1, 97, 3⟩, ⟨1, 121, 0⟩, ⟨2, 98, 0⟩, ⟨2, 120, 3⟩, ⟨3, 98, 1⟩, ⟨3, 121, 2⟩]
theorem a2_look : okMB 2 0 0 A2 = true := by decide +kernel
theorem b2_look : okMB 2 0 1 B2 = true := by decide +kernel
theorem r2_is {A B : List Mv} (hA : A = A2) (hB : B = B2) (oA : OkL 2 0 0 A) (oB : OkL 2 0 1 B) (ap : Apart A B) : prodL 2 A 2 B = R2 := by
  subst hA hB
  have p : (rawP 2 A2 2 B2).Perm R2 := List.isPerm_iff.mp (by decide +kernel)
  exact mv_ext (sortL_up (raw_nodup oA oB ap)) (asc_of (by decide +kernel)) fun m => by rw [prodL, mem_sortL, p.mem_iff]
theorem ab_apart : Apart A2 B2 := apart_of (ys := [97, 98]) (zs := [120, 121]) (by decide) (by decide) (by decide)
theorem no_renamed (n st la : Nat) (l : Addr) (z : Str) (E F : Addr) : (mF n st la l z E F).lookup ("renamed" : Str) = none := by rfl
section
variable {K : PySem.W.Frag}
structure RowsAt (H0 H : Hp) (qs : List (Addr × Mv)) : Prop where
  s : Same H0 H
  r : ∀ p ∈ qs, H p.1 = some (.tup (mvV p.2))
theorem RowsAt.nil {H : Hp} : RowsAt H H [] := ⟨Same.refl _, fun p h => absurd h List.not_mem_nil⟩
theorem RowsAt.add {H0 H : Hp} {qs : List (Addr × Mv)} {t : Addr} {m : Mv} (h : RowsAt H0 H qs) (n : H t = none) : RowsAt H0 (upd H t (.tup (mvV m))) (qs ++ [(t, m)]) := by
  have S := same_up (o := .tup (mvV m)) n
  refine ⟨h.s.trans S, fun p hp => ?_⟩
  rcases List.mem_append.mp hp with z | z
  · exact S _ _ (h.r p z)
  · rw [List.mem_singleton.mp z]
    exact upd_same
theorem RowsAt.tup {H0 H : Hp} {qs : List (Addr × Mv)} {l : Addr} (h : RowsAt H0 H qs) (n : H l = none) : Same H0 (upd H l (.tup (qs.map fun p => V.ref p.1))) ∧ MvsAt K (upd H l (.tup (qs.map fun p => V.ref p.1))) l qs := by
  have S := same_up (o := .tup (qs.map fun p => V.ref p.1)) n
  exact ⟨h.s.trans S, SqT.of upd_same, fun p hp => SqT.of (S _ _ (h.r p hp))⟩
end
theorem two_at : True := trivial
/-- repr of what is heard -/
theorem heard_ok {c : Nat} (h1 : 97 ≤ c) (h2 : c ≤ 122) : (PyData.list [.str (sg c), .bool true]).hasDict = false ∧ (PyData.list [.str (sg c), .bool true]).showable = true ∧ (PyData.list [.str (sg c), .bool true]).depth ≤ 60 ∧ (PyData.list [.str (sg c), .bool true]).shown.length ≤ sizeLine := by
  refine ⟨rfl, rfl, by simp [PyData.depth, PyData.depthAll], ?_⟩
  have e : (PyData.list [.str (sg c), .bool true]).shown = listText [PyData.shown (.str (sg c)), PyData.shown (.bool true)] := rfl
  have a := shown_sg h1 h2
  have b : (PyData.shown (.bool true)).length = 4 := by decide
  rw [e]
  have f := listText_le [PyData.shown (.str (sg c)), PyData.shown (.bool true)]
  simp only [piled_cons, piled_nil] at f
  rw [sizeLine_eq]
  omega
end Vk
set_option Elab.async false
set_option linter.all false
set_option maxRecDepth 100000
set_option maxHeartbeats 4000000
namespace Vk
open PySem PySem.Spec PyProof.Rows L2 Vt Vs1
abbrev sLaw7 : Stmt := top8 52
section
variable {P : Program} {w : World} {K : PySem.W.Frag} {mg : Str → Option Value} {base : Heap}
def spLaw7 (K : PySem.W.Frag) : Sp := fun vs H Q _ => ∃ (a : Addr) (ns : List Int), vs = [.ref a] ∧ SqL K H a (ns.map V.int) ∧ ns.length ≤ 63 ∧ ∀ H', Q (.bl true) H'
theorem scLw : FnScope ["_law_script", "_law_deck_here", "_law_go", "_law_w", "_law_v", "_law_u", "_law_near", "_law_away", "_law_s", "_law_x", "_law_t", "_law_shared", "_law_told", "_law_wide", "_law_first", "_law_second", "_law_rows"] ["_law_script"] (defScope sLaw7) := ⟨rfl, rfl, rfl, by decide +kernel, rfl, by decide +kernel, by decide +kernel⟩
theorem ok_law7 {f C CS fI fDk fWo fRt fWi fHd fCd fCo2 fRg fRn fA fPa fCo fLn : Addr} {fd fdI fdDk fdWo fdRt fdWi fdHd fdCd fdCo2 fdRg fdA fdPa fdCo fdLn : FuncData} (F : Fun K "law" "law" sLaw7 f fd) (T : Txt8 K mg) (hRep : mg "repr" = none) (M : MCls K C) (IC : C8.InsC K C)
    (MK : Mk K C fI) (gM : mg "Machine" = some (.ref C)) (bI : Binds K fdI ["self", "size", "first", "last", "moves"] []) (FI : FnOk P w K mg base CX0 6 fI fdI ["self", "size", "first", "last", "moves"] (spInit K C))
    (GDk : FnOk P w K mg base CX0 1 fDk fdDk ["_law_script"] (spDeck K)) (gDk : mg "_law_deck" = some (.ref fDk)) (kDk : PySem.W.keepIn K (.ref fDk) = true) (bDk : Binds K fdDk ["_law_script"] [])
    (GWo : FnOk P w K mg base CX0 3 fWo fdWo ["_law_deck_here", "_law_top", "_law_many"] (spWorld K)) (gWo : mg "_law_world" = some (.ref fWo)) (kWo : PySem.W.keepIn K (.ref fWo) = true) (bWo : Binds K fdWo ["_law_deck_here", "_law_top", "_law_many"] [])
    (GRt : FnG P w K mg base CX0 10 fRt fdRt ["_law_deck_here", "_law_w", "_law_v", "_law_u"] (spRight K C)) (gRt : mg "_law_right" = some (.ref fRt)) (kRt : PySem.W.keepIn K (.ref fRt) = true) (bRt : Binds K fdRt ["_law_deck_here", "_law_w", "_law_v", "_law_u"] [])
    (GWi : FnOk P w K mg base CX0 1 fWi fdWi ["_law_w", "_law_signs"] (spWith K)) (gWi : mg "_law_with" = some (.ref fWi)) (kWi : PySem.W.keepIn K (.ref fWi) = true) (bWi : Binds K fdWi ["_law_w", "_law_signs"] [])
    (GHd : FnOk P w K mg base CX0 9 fHd fdHd ["_law_near", "_law_far"] (spHeard K C)) (gHd : mg "_law_heard" = some (.ref fHd)) (kHd : PySem.W.keepIn K (.ref fHd) = true) (bHd : Binds K fdHd ["_law_near", "_law_far"] [])
    (GCd : FnOk P w K mg base CX0 8 fCd fdCd ["_law_w"] (spCode K C)) (gCd : mg "_law_code" = some (.ref fCd)) (kCd : PySem.W.keepIn K (.ref fCd) = true) (bCd : Binds K fdCd ["_law_w"] [])
    (GCo2 : FnOk P w K mg base CX0 8 fCo2 fdCo2 ["size"] (spMk K C corrL)) (gCo2 : mg "corridor" = some (.ref fCo2)) (kCo2 : PySem.W.keepIn K (.ref fCo2) = true) (bCo2 : Binds K fdCo2 ["size"] [])
    (GRg : FnOk P w K mg base CX0 8 fRg fdRg ["size"] (spMk K C ringL)) (gRg : mg "ring" = some (.ref fRg)) (kRg : PySem.W.keepIn K (.ref fRg) = true) (bRg : Binds K fdRg ["size"] [])
    (GRn : FnKW P w K mg base CX0 8 fRn ["a"] (fun vs zs H Q E => ∃ a, vs = [a] ∧ zs.length = (["a"] : List Str).length ∧ ∀ d, H d = none → spRen K C [a, .ref d] (upd H d (.dK (kwD ["a"] zs))) Q E)) (mRn : Meth K C "renamed" fRn)
    (GA : FnOk P w K mg base (L2.CX P w) 8 fA fdA ["self", "other"] (spAnd K C CS)) (sF : PySem.W.selfFirst K C = true) (sA : PySem.W.findIn K (.ref C) "__and__" = some (some (.ref fA))) (nA : PySem.W.isFn K (.ref fA) = true) (bA : Binds K fdA ["self", "other"] [])
    (GPa : FnOk P w K mg base CX0 1 fPa fdPa ["_law_it"] (spLParts K C)) (gPa : mg "_law_parts" = some (.ref fPa)) (kPa : PySem.W.keepIn K (.ref fPa) = true) (bPa : Binds K fdPa ["_law_it"] [])
    (GCo : FnOk P w K mg base CX0 3 fCo fdCo ["self", "word"] (spCont K C)) (sCo : PySem.W.findIn K (.ref C) "__contains__" = some (some (.ref fCo))) (nCo : PySem.W.isFn K (.ref fCo) = true) (bCo : Binds K fdCo ["self", "word"] [])
    (GLn : FnOk P w K mg base CX0 1 fLn fdLn ["self"] (spMLen K C)) (sLn : PySem.W.findIn K (.ref C) "__len__" = some (some (.ref fLn))) (nLn : PySem.W.isFn K (.ref fLn) = true) (bLn : Binds K fdLn ["self"] []) :
    FnG P w K mg base CX0 11 f fd ["_law_script"] (spLaw7 K) := by
  have GAc := Vk.FnOk.calm GA
  refine okG F scLw (fun vs H Q E h => ?_) (fun cdv A outer s H vs Q E hgd hr h => ?_)
  · obtain ⟨a, ns, rfl, _⟩ := h
    rfl
  · obtain ⟨a, ns, rfl, hs, n63, k⟩ := h
    have hu := hu_of hr
    have hr1 : Room 1 _ := hr.mono (by decide)
    have hr2 : Room 2 _ := hr.mono (by decide)
    have hr3 : Room 3 _ := hr.mono (by decide)
    have hr7 : Room 7 _ := hr.mono (by decide)
    have hr8 : Room 8 _ := hr.mono (by decide)
    have hr9 : Room 9 _ := hr.mono (by decide)
    refine ⟨_, (pss_cons (ps_set (i := 1) scLw.nd rfl (.inl rfl) (pe_call GDk hr1 rfl gDk kDk bDk .nil pass0 (pa_cons (pv 0) pa_nil)))
        (pss_cons (ps_for PassesOwn.never rfl (pi_range1 (by rfl) T.rng (pa_cons pe_int pa_nil)) (pg_name (i := 2) scLw.nd rfl (.inl rfl)) (pss_cons (ps_par3 (i := 3) (j := 4) (l := 5) (by rfl) scLw.nd rfl rfl rfl (by decide) (by decide) (by decide) rfl rfl rfl (pa_cons (pe_call GWo hr3 rfl gWo kWo bWo .nil pass0 (pa_cons (pv 1) (pa_cons pe_int (pa_cons pe_int pa_nil)))) (pa_cons (pe_call GWo hr3 rfl gWo kWo bWo .nil pass0 (pa_cons (pv 1) (pa_cons pe_int (pa_cons pe_int pa_nil)))) (pa_cons (pe_call GWo hr3 rfl gWo kWo bWo .nil pass0 (pa_cons (pv 1) (pa_cons pe_int (pa_cons pe_int pa_nil)))) pa_nil))) (by rfl))
        (pss_cons (ps_if (pt_not (pt_val (pe_callG GRt hgd hr rfl gRt kRt bRt pass0 (pa_cons (pv 1) (pa_cons (pe_call GWi hr1 rfl gWi kWi bWi .nil pass0 (pa_cons (pv 3) (pa_cons pe_str pa_nil))) (pa_cons (pe_call GWi hr1 rfl gWi kWi bWi .nil pass0 (pa_cons (pv 4) (pa_cons pe_str pa_nil))) (pa_cons (pe_call GWi hr1 rfl gWi kWi bWi .nil pass0 (pa_cons (pv 5) (pa_cons pe_str pa_nil))) pa_nil))))))) (pss_one (ps_ret pe_bl)) pss_nil)
        (pss_cons (ps_asg (pe_tup (pa_cons (pe_lc (own := [("_law_s", 8), ("_law_x", 9), ("_law_t", 10)]) (g := (gTup K 3 (gCons (gName 8) (gCons (gName 9) (gCons (gName 10) gNil))))) (by rfl) scLw.nd (pi_tup (pe_dget hu (pv 3) pe_str (fun _ _ => rfl))) (blkOk_by (own := [("_law_s", 8), ("_law_x", 9), ("_law_t", 10)]) (N := ["_law_script", "_law_deck_here", "_law_go", "_law_w", "_law_v", "_law_u", "_law_near", "_law_away", "_law_s", "_law_x", "_law_t", "_law_shared", "_law_told", "_law_wide", "_law_first", "_law_second", "_law_rows"]) (sc := defScope sLaw7) (by decide +kernel)) (fun _ _ _ _ _ => (pg_tup (by rfl) (pgs_cons (pg_name (i := 8) scLw.nd rfl (.inl rfl)) (pgs_cons (pg_name (i := 9) scLw.nd rfl (.inl rfl)) (pgs_cons (pg_name (i := 10) scLw.nd rfl (.inl rfl)) pgs_nil))))) (fun _ _ _ _ _ => pts_nil) (fun _ _ _ _ _ => (pv 9))) (pa_cons (pe_lc (own := [("_law_s", 8), ("_law_x", 9), ("_law_t", 10)]) (g := (gTup K 3 (gCons (gName 8) (gCons (gName 9) (gCons (gName 10) gNil))))) (by rfl) scLw.nd (pi_tup (pe_dget hu (pv 4) pe_str (fun _ _ => rfl))) (blkOk_by (own := [("_law_s", 8), ("_law_x", 9), ("_law_t", 10)]) (N := ["_law_script", "_law_deck_here", "_law_go", "_law_w", "_law_v", "_law_u", "_law_near", "_law_away", "_law_s", "_law_x", "_law_t", "_law_shared", "_law_told", "_law_wide", "_law_first", "_law_second", "_law_rows"]) (sc := defScope sLaw7) (by decide +kernel)) (fun _ _ _ _ _ => (pg_tup (by rfl) (pgs_cons (pg_name (i := 8) scLw.nd rfl (.inl rfl)) (pgs_cons (pg_name (i := 9) scLw.nd rfl (.inl rfl)) (pgs_cons (pg_name (i := 10) scLw.nd rfl (.inl rfl)) pgs_nil))))) (fun _ _ _ _ _ => pts_nil) (fun _ _ _ _ _ => (pv 9))) pa_nil))) (pg_tup rfl (pgs_cons (pg_name (i := 6) scLw.nd rfl (.inl rfl)) (pgs_cons (pg_name (i := 7) scLw.nd rfl (.inr rfl)) pgs_nil))))
        (pss_cons (ps_set (i := 11) scLw.nd rfl (.inl rfl) (pe_callB cr_sortedS (by rfl) T.srt (by decide +kernel) (pa_cons (pe_lc (own := [("_law_x", 9)]) (g := (gName 9)) (by rfl) scLw.nd (pi_list (pv 6)) (blkOk_by (own := [("_law_x", 9)]) (N := ["_law_script", "_law_deck_here", "_law_go", "_law_w", "_law_v", "_law_u", "_law_near", "_law_away", "_law_s", "_law_x", "_law_t", "_law_shared", "_law_told", "_law_wide", "_law_first", "_law_second", "_law_rows"]) (sc := defScope sLaw7) (by decide +kernel)) (fun _ _ _ _ _ => (pg_name (i := 9) scLw.nd rfl (.inl rfl))) (fun _ _ _ _ _ => (pts_one (pt_cmpR (r := rIn K false) op_in_seq (pv 9) (pv 7) (by rfl)))) (fun _ _ _ _ _ => (pv 9))) pa_nil)))
        (pss_cons (ps_set (i := 12) scLw.nd rfl (.inl rfl) (pe_call GHd hr9 rfl gHd kHd bHd .nil pass0 (pa_cons (pe_call GCd hr8 rfl gCd kCd bCd .nil pass0 (pa_cons (pv 3) pa_nil)) (pa_cons (pe_call GCd hr8 rfl gCd kCd bCd .nil pass0 (pa_cons (pv 4) pa_nil)) pa_nil))))
        (pss_one (ps_if (PW.pt (pw_or (PW.pt (pw_and (pt_cmpR (op_neD hr.units) (pv 11) (pe_lst pa_nil) (nomark _)) (pw_and1 (pt_cmpR op_ne (pe_callB (call_reprD hgd hr) (by rfl) hRep (by decide +kernel) (pa_cons (pv 12) pa_nil)) (pe_callB (call_reprD hgd hr) (by rfl) hRep (by decide +kernel) (pa_cons (pe_lst (pa_cons (pe_ix ix_list (pv 11) pe_int (fun _ _ => rfl)) (pa_cons pe_bl pa_nil))) pa_nil)) (nomark _))))) (pw_or1 (PW.pt (pw_and (pt_cmpR (op_eqD hr.units) (pv 11) (pe_lst pa_nil) (nomark _)) (pw_and1 (pt_not (pt_val (pe_callB (C8.call_isC IC) (by rfl) T.isi (by decide +kernel) (pa_cons (pv 12) (pa_cons (pe_glob (v := .ref C) (by rfl) gM rfl) pa_nil))))))))))) (pss_one (ps_ret pe_bl)) pss_nil))))))))
        (pss_cons (ps_set (i := 13) scLw.nd rfl (.inl rfl) (pe_op (op_andO GAc hr8 sF sA nA bA pass0) (pe_call GCo2 hr8 rfl gCo2 kCo2 bCo2 .nil pass0 (pa_cons pe_int pa_nil)) (pe_methKW (pe_call GRg hr8 rfl gRg kRg bRg .nil pass0 (pa_cons pe_int pa_nil)) M.cl mRn GRn hr8 pass0 (pk_cons pe_str pk_nil))))
        (pss_cons (ps_set (i := 12) scLw.nd rfl (.inl rfl) (pe_lst (pa_cons (pe_cmpR (op_inO GCo hr3 sCo nCo bCo pass0) (pe_op op_add_str (pe_op op_add_str (pe_op op_mulS pe_str pe_int) (pe_op op_mulS pe_str pe_int)) (pe_op op_mulS pe_str pe_int)) (pv 13) (by rfl)) (pa_cons (pe_cmpR (op_inO GCo hr3 sCo nCo bCo pass0) (pe_op op_add_str (pe_op op_add_str (pe_op op_mulS pe_str pe_int) (pe_op op_mulS pe_str pe_int)) (pe_op op_mulS pe_str pe_int)) (pv 13) (by rfl)) (pa_cons (pe_callB (cr_lenO GLn hr2 sLn nLn bLn pass0) (by rfl) T.len (by decide +kernel) (pa_cons (pv 13) pa_nil)) (pa_cons (pe_callB call_len (by rfl) T.len PySem.boot_len (pa_cons (pe_fld (pv 13) rfl) pa_nil)) pa_nil))))))
        (pss_cons (ps_if (pt_cmpR (op_neD hr.units) (pv 12) (pe_lst (pa_cons pe_bl (pa_cons pe_bl (pa_cons pe_int (pa_cons pe_int pa_nil))))) (nomark _)) (pss_one (ps_ret pe_bl)) pss_nil)
        (pss_cons (ps_par (i := 14) (j := 15) (by rfl) scLw.nd rfl rfl (by decide) rfl rfl (pa_cons (pe_make MK FI hr7 (by rfl) gM bI .nil pass0 (pa_cons pe_int (pa_cons pe_int (pa_cons pe_int (pa_cons (pe_tup (pa_cons (pe_tup (pa_cons pe_int (pa_cons pe_str (pa_cons pe_int pa_nil)))) (pa_cons (pe_tup (pa_cons pe_int (pa_cons pe_str (pa_cons pe_int pa_nil)))) pa_nil))) pa_nil))))) (pa_cons (pe_make MK FI hr7 (by rfl) gM bI .nil pass0 (pa_cons pe_int (pa_cons pe_int (pa_cons pe_int (pa_cons (pe_tup (pa_cons (pe_tup (pa_cons pe_int (pa_cons pe_str (pa_cons pe_int pa_nil)))) (pa_cons (pe_tup (pa_cons pe_int (pa_cons pe_str (pa_cons pe_int pa_nil)))) pa_nil))) pa_nil))))) pa_nil)) (by rfl))
        (pss_cons (ps_set (i := 16) scLw.nd rfl (.inl rfl) (pe_tup (pa_cons (pe_tup (pa_cons pe_int (pa_cons pe_str (pa_cons pe_int pa_nil)))) (pa_cons (pe_tup (pa_cons pe_int (pa_cons pe_str (pa_cons pe_int pa_nil)))) (pa_cons (pe_tup (pa_cons pe_int (pa_cons pe_str (pa_cons pe_int pa_nil)))) (pa_cons (pe_tup (pa_cons pe_int (pa_cons pe_str (pa_cons pe_int pa_nil)))) (pa_cons (pe_tup (pa_cons pe_int (pa_cons pe_str (pa_cons pe_int pa_nil)))) (pa_cons (pe_tup (pa_cons pe_int (pa_cons pe_str (pa_cons pe_int pa_nil)))) (pa_cons (pe_tup (pa_cons pe_int (pa_cons pe_str (pa_cons pe_int pa_nil)))) (pa_cons (pe_tup (pa_cons pe_int (pa_cons pe_str (pa_cons pe_int pa_nil)))) pa_nil))))))))))
        (pss_one (ps_ret (pe_cmpR op_eq (pe_callB (call_reprD hgd hr) (by rfl) hRep (by decide +kernel) (pa_cons (pe_call GPa hr1 rfl gPa kPa bPa .nil pass0 (pa_cons (pe_op (op_andO GAc hr8 sF sA nA bA pass0) (pv 14) (pv 15)) pa_nil)) pa_nil)) (pe_callB (call_reprD hgd hr) (by rfl) hRep (by decide +kernel) (pa_cons (pe_tup (pa_cons pe_int (pa_cons pe_int (pa_cons pe_int (pa_cons (pv 16) pa_nil))))) pa_nil)) (nomark _))))))))))), ?_⟩
    refine ⟨_, rfl, a, ns, rfl, hs, n63, fun d g H1 S1 nd ng D1 => ?_⟩
    refine go_name ?_
    dsimp only
    refine go_seq ?_
    refine ⟨(4 : Int), rfl, by decide, by decide, ?_⟩
    refine for_range (lo := 0) (n := 4) (fun i σ H' => ∃ (v2 v3 v4 v5 v6 v7 v11 v12 : Option V) (m : Int), σ = [some (.ref a), some (.ref d), v2, v3, v4, v5, v6, v7, none, none, none, v11, v12, none, none, none, none] ∧ DeckAt H' d g m ∧ 0 ≤ m ∧ m ≤ 400 * (i : Int)) ⟨_, _, _, _, _, _, _, _, 0, rfl, D1, by decide, by decide⟩ ?_ ?_
    · rintro i σ H2 hi ⟨v2, v3, v4, v5, v6, v7, v11, v12, m, rfl, D2, m0, mB⟩
      have hd2 := D2.two
      obtain ⟨⟨kd2, hd2⟩, xg2, hg2⟩ := hd2
      refine ⟨_, rfl, d, g, m, 4, 8, rfl, D2, by decide, by decide, by decide, by omega, fun q1 l1 n1 st1 la1 ms1 H3 m3 B3 nq1 hq1 hM1 ok1 nt1 D3 hm3 sig1 fw1 => ?_⟩
      have q1d : q1 ≠ d := (ne_of_none hd2 nq1).symm
      have q1g : q1 ≠ g := (ne_of_none hg2 nq1).symm
      obtain ⟨⟨kd3, hd3⟩, xg3, hg3⟩ := D3.two
      have m30 : 0 ≤ m3 := by
        obtain ⟨_, _, _, _, _, z0, z1⟩ := D3.dk
        omega
      refine ⟨_, rfl, d, g, m3, 4, 8, rfl, D3, by decide, by decide, by decide, by omega, fun q2 l2 n2 st2 la2 ms2 H4 m4 B4 nq2 hq2 hM2 ok2 nt2 D4 hm4 sig2 fw2 => ?_⟩
      have q2d : q2 ≠ d := (ne_of_none hd3 nq2).symm
      have q2g : q2 ≠ g := (ne_of_none hg3 nq2).symm
      obtain ⟨⟨kd4, hd4⟩, xg4, hg4⟩ := D4.two
      have m40 : 0 ≤ m4 := by
        obtain ⟨_, _, _, _, _, z0, z1⟩ := D4.dk
        omega
      refine ⟨_, rfl, d, g, m4, 2, 3, rfl, D4, by decide, by decide, by decide, by omega, fun q3 l3 n3 st3 la3 ms3 H5 m5 B5 nq3 hq3 hM3 ok3 nt3 D5 hm5 sig3 fw3 => ⟨_, _, _, rfl, ?_⟩⟩
      have q3d : q3 ≠ d := (ne_of_none hd4 nq3).symm
      have m50 : 0 ≤ m5 := by
        obtain ⟨_, _, _, _, _, z0, z1⟩ := D5.dk
        omega
      replace hq1 := B5 _ _ (B4 _ _ hq1 q1d q1g) q1d q1g
      replace hM1 := (hM1.off (B4.off D3)).off (B5.off D4)
      replace hq2 := B5 _ _ hq2 q2d q2g
      replace hM2 := hM2.off (B5.off D4)
      clear B3 B4 B5 D2 D3 D4 nq1 nq2 nq3 hd2 hd3 hd4 hg2 hg3 hg4
      dsimp only
      refine go_seq ?_
      have s1 := sig_le sig1
      have s2 := sig_le sig2
      have s3 := sig_le sig3
      have zl1 : ("abc" : Str).cps.toList = [97, 98, 99] := by rfl
      have zl2 : ("dmz" : Str).cps.toList = [100, 109, 122] := by rfl
      have zl3 : ("opq" : Str).cps.toList = [111, 112, 113] := by rfl
      obtain ⟨⟨kd5, hd5⟩, xg5, hg5⟩ := D5.two
      refine ⟨_, rfl, _, rfl, q1, l1, n1, st1, la1, ms1, "abc", rfl, hq1, hM1, ok1, by rw [zl1]; exact s1, by rw [zl1]; decide, by rw [zl1]; decide, fun H6 w1 k1 ks1 S6 nw1 hw1 hk1 ek1 => ?_⟩
      refine ⟨_, rfl, q2, l2, n2, st2, la2, ms2, "dmz", rfl, S6 _ _ hq2, hM2.same S6, ok2, by rw [zl2]; exact s2, by rw [zl2]; decide, by rw [zl2]; decide, fun H7 w2 k2 ks2 S7 nw2 hw2 hk2 ek2 => ?_⟩
      have S67 := S6.trans S7
      refine ⟨_, rfl, q3, l3, n3, st3, la3, ms3, "opq", rfl, S67 _ _ hq3, hM3.same S67, ok3, by rw [zl3]; exact s3, by rw [zl3]; decide, by rw [zl3]; decide, fun H8 w3 k3 ks3 S8 nw3 hw3 hk3 ek3 => ?_⟩
      have S68 := S67.trans S8
      rw [zl1] at ek1
      rw [zl2] at ek2
      rw [zl3] at ek3
      obtain ⟨o1, z1, c1⟩ := with_ok (zs := [97, 98, 99]) ok1 s1 (by decide) (by decide) ek1
      obtain ⟨o2, z2, c2⟩ := with_ok (zs := [100, 109, 122]) ok2 s2 (by decide) (by decide) ek2
      obtain ⟨o3, z3, c3⟩ := with_ok (zs := [111, 112, 113]) ok3 s3 (by decide) (by decide) ek3
      have w1d : w1 ≠ d := (ne_of_none hd5 nw1).symm
      have w2d : w2 ≠ d := (ne_of_none (S6 _ _ hd5) nw2).symm
      have w3d : w3 ≠ d := (ne_of_none (S67 _ _ hd5) nw3).symm
      have D8 := D5.same S68
      have S78 := S7.trans S8
      refine ⟨d, g, m5, w1, w2, w3, k1, k2, k3, n1, st1, la1, n2, st2, la2, n3, st3, la3, ks1, ks2, ks3, rfl, D8, m50, by omega, ⟨S78 _ _ hw1, S8 _ _ hw2, hw3, hk1.same S78, hk2.same S8, hk3, o1, o2, o3⟩, ⟨apart_of z1 z2 (by decide), apart_of z1 z3 (by decide), apart_of z2 z3 (by decide), nt1, nt2, nt3, by omega, by omega, by omega⟩, w1d, w2d, w3d, fun H9 m9 B9 D9 hm9 => ?_⟩
      refine ⟨_, rfl, ?_⟩
      refine iteF ?_
      have B59 : But d g H5 H9 := (but_same S68).trans B9
      have O59 := B59.off D5
      replace hq1 := B59 _ _ hq1 q1d q1g
      replace hq2 := B59 _ _ hq2 q2d q2g
      replace hM1 := hM1.off O59
      replace hM2 := hM2.off O59
      have m90 : 0 ≤ m9 := by
        obtain ⟨_, _, _, _, _, z0, z1⟩ := D9.dk
        omega
      have m9B : m9 ≤ m + 378 := by omega
      clear O59 B59 B9 D8 S78 S68 S67 S6 S7 S8 D5 hd5 hg5 hw1 hw2 hw3 hk1 hk2 hk3 ek1 ek2 ek3 o1 o2 o3 z1 z2 z3 c1 c2 c3 nw1 nw2 nw3 hM3 hq3 sig1 sig2 sig3
      -- the letters
      refine ⟨_, rfl, q1, _, rfl, plan_get hq1 (v_moves ..), l1, rfl, ⟨_, hM1.tp⟩, fun Da nDa => ?_⟩
      refine lc_tup (K := K) (a := l1) (xs := ms1.map fun p => V.ref p.1) (fun i H' => H' = upd H9 Da (.lst ((ms1.take i).map fun p => V.str (sg p.2.c)))) rfl (fun i H' _ e => by rw [e]; exact same_seqT (same_up nDa) hM1.tp) ?_ ?_
      · rintro i y H' hi rfl
        rw [List.getElem?_map] at hi
        obtain ⟨p, hp, rfl⟩ := Option.map_eq_some_iff.mp hi
        have hit := same_seqT (same_up (o := .lst ((ms1.take i).map fun p => V.str (sg p.2.c))) nDa) (hM1.it p (List.mem_of_getElem? hp))
        have il : i < ms1.length := (List.getElem?_eq_some_iff.mp hp).1
        refine ⟨p.1, _, rfl, hit, rfl, _, _, rfl, _, _, rfl, _, _, rfl, rfl, rfl, _, rfl, _, upd_same, by rw [List.length_map, List.length_take, sizeLine_eq]; omega, ?_⟩
        rw [upd_upd, List.take_add_one, hp, List.map_append] <;> rfl
      rintro H' rfl
      rw [List.length_map, List.take_length]
      have SDa : Same H9 (upd H9 Da (.lst (ms1.map fun p => V.str (sg p.2.c)))) := same_up nDa
      have hDa : upd H9 Da (.lst (ms1.map fun p => V.str (sg p.2.c))) Da = some (.lst (nT (ms1.map fun p => p.2.c))) := by
        rw [upd_same]
        unfold nT
        rw [List.map_map] <;> rfl
      generalize upd H9 Da (.lst (ms1.map fun p => V.str (sg p.2.c))) = H10 at SDa hDa ⊢
      replace hq1 := SDa _ _ hq1
      replace hq2 := SDa _ _ hq2
      replace hM1 := hM1.same SDa
      replace hM2 := hM2.same SDa
      replace D9 := D9.same SDa
      refine ⟨_, rfl, q2, _, rfl, plan_get hq2 (v_moves ..), l2, rfl, ⟨_, hM2.tp⟩, fun Db nDb => ?_⟩
      refine lc_tup (K := K) (a := l2) (xs := ms2.map fun p => V.ref p.1) (fun i H' => H' = upd H10 Db (.lst ((ms2.take i).map fun p => V.str (sg p.2.c)))) rfl (fun i H' _ e => by rw [e]; exact same_seqT (same_up nDb) hM2.tp) ?_ ?_
      · rintro i y H' hi rfl
        rw [List.getElem?_map] at hi
        obtain ⟨p, hp, rfl⟩ := Option.map_eq_some_iff.mp hi
        have hit := same_seqT (same_up (o := .lst ((ms2.take i).map fun p => V.str (sg p.2.c))) nDb) (hM2.it p (List.mem_of_getElem? hp))
        have il : i < ms2.length := (List.getElem?_eq_some_iff.mp hp).1
        refine ⟨p.1, _, rfl, hit, rfl, _, _, rfl, _, _, rfl, _, _, rfl, rfl, rfl, _, rfl, _, upd_same, by rw [List.length_map, List.length_take, sizeLine_eq]; omega, ?_⟩
        rw [upd_upd, List.take_add_one, hp, List.map_append] <;> rfl
      rintro H' rfl
      rw [List.length_map, List.take_length]
      have SDb : Same H10 (upd H10 Db (.lst (ms2.map fun p => V.str (sg p.2.c)))) := same_up nDb
      have hDb : upd H10 Db (.lst (ms2.map fun p => V.str (sg p.2.c))) Db = some (.lst (nT (ms2.map fun p => p.2.c))) := by
        rw [upd_same]
        unfold nT
        rw [List.map_map] <;> rfl
      generalize upd H10 Db (.lst (ms2.map fun p => V.str (sg p.2.c))) = H11 at SDb hDb ⊢
      replace hDa := SDb _ _ hDa
      refine ⟨by show 2 ≤ sizeLine; decide, fun tq ntq => ?_⟩
      have St := same_up (o := .tup [.ref Da, .ref Db]) ntq
      have Sx := SDb.trans St
      replace hq1 := Sx _ _ hq1
      replace hq2 := Sx _ _ hq2
      replace hM1 := hM1.same Sx
      replace hM2 := hM2.same Sx
      replace D9 := D9.same Sx
      replace hDa := St _ _ hDa
      replace hDb := St _ _ hDb
      have htq : upd H11 tq (.tup [.ref Da, .ref Db]) tq = some (.tup [.ref Da, .ref Db]) := upd_same
      generalize upd H11 tq (.tup [.ref Da, .ref Db]) = H12 at hq1 hq2 hM1 hM2 D9 hDa hDb htq ⊢
      clear Sx St SDa SDb nDa nDb ntq
      refine ⟨tq, _, rfl, SqT.of htq, rfl, _, _, rfl, _, _, rfl, rfl, ?_⟩
      dsimp only
      refine go_seq ?_
      obtain ⟨cs1, ec1⟩ : ∃ cs1, cs1 = ms1.map fun p => p.2.c := ⟨_, rfl⟩
      obtain ⟨cs2, ec2⟩ : ∃ cs2, cs2 = ms2.map fun p => p.2.c := ⟨_, rfl⟩
      rw [← ec1] at hDa
      rw [← ec2] at hDb
      have l8 : cs1.length ≤ 8 := by rw [ec1, List.length_map]; exact fw1
      refine ⟨_, rfl, Da, rfl, ⟨_, SqL.of hDa⟩, fun Dc nDc => ?_⟩
      refine lc_list (K := K) (a := Da) (xs := nT cs1) (fun i H' => H' = upd H12 Dc (.lst (nT ((cs1.take i).filter fun c => decide (c ∈ cs2))))) rfl (fun i H' _ e => by rw [e]; exact SqL.of (same_up nDc _ _ hDa)) ?_ ?_
      · rintro i y H' hi rfl
        unfold nT at hi
        rw [List.getElem?_map] at hi
        obtain ⟨c, hc, rfl⟩ := Option.map_eq_some_iff.mp hi
        have SD := same_up (o := .lst (nT ((cs1.take i).filter fun c => decide (c ∈ cs2)))) nDc
        have fl : ((cs1.take i).filter fun c => decide (c ∈ cs2)).length ≤ 8 := Nat.le_trans (List.length_filter_le _ _) (by rw [List.length_take]; omega)
        refine ⟨rfl, _, rfl, _, rfl, rinT (x := c) false (SD _ _ hDb) ⟨_, rfl, ?_⟩⟩
        rw [if_neg Bool.false_ne_true, take_at hc, List.filter_append]
        by_cases mc : c ∈ cs2
        · rw [decide_eq_true mc]
          refine iteT ⟨_, rfl, _, upd_same, ?_, ?_⟩
          · unfold nT
            rw [List.length_map, sizeLine_eq]
            omega
          · rw [upd_upd, show ([c].filter fun c => decide (c ∈ cs2)) = [c] by simp [mc]]
            unfold nT
            rw [List.map_append] <;> rfl
        · rw [decide_eq_false mc]
          refine iteF ?_
          rw [show ([c].filter fun c => decide (c ∈ cs2)) = [] by simp [mc], List.append_nil]
      rintro H' rfl
      rw [show (nT cs1).length = cs1.length by unfold nT; rw [List.length_map], List.take_length]
      obtain ⟨sh, esh⟩ : ∃ sh, sh = cs1.filter fun c => decide (c ∈ cs2) := ⟨_, rfl⟩
      rw [← esh]
      have shl : sh.length ≤ 8 := by rw [esh]; exact Nat.le_trans (List.length_filter_le _ _) l8
      have shm : ∀ c, c ∈ sh ↔ c ∈ cs1 ∧ c ∈ cs2 := fun c => by rw [esh, List.mem_filter, decide_eq_true_eq]
      have Sc := same_up (o := .lst (nT sh)) nDc
      have nTm : nT sh = (sh.map sg).map V.str := by
        unfold nT
        rw [List.map_map] <;> rfl
      refine ⟨Dc, sh.map sg, rfl, SqL.of (by rw [upd_same, nTm]), by rw [List.length_map]; omega, fun ys ps pm srt nps => ?_⟩
      have Sx := Sc.trans (same_up (o := .lst (ys.map V.str)) nps)
      have hps : upd (upd H12 Dc (.lst (nT sh))) ps (.lst (ys.map V.str)) ps = some (.lst (ys.map V.str)) := upd_same
      replace hq1 := Sx _ _ hq1
      replace hq2 := Sx _ _ hq2
      replace hM1 := hM1.same Sx
      replace hM2 := hM2.same Sx
      replace D9 := D9.same Sx
      generalize upd (upd H12 Dc (.lst (nT sh))) ps (.lst (ys.map V.str)) = H13 at hps hq1 hq2 hM1 hM2 D9 ⊢
      clear Sx Sc nps nDc hDa hDb htq esh
      refine go_name ?_
      dsimp only
      refine go_seq ?_
      -- what is told
      refine ⟨_, rfl, q1, l1, n1, st1, la1, ms1, rfl, hq1, hM1, ok1, fun a1 H14 S14 na1 A1 => ?_⟩
      refine ⟨_, rfl, q2, l2, n2, st2, la2, ms2, rfl, S14 _ _ hq2, hM2.same S14, ok2, fun a2 H15 S15 na2 A2 => ?_⟩
      have S135 := S14.trans S15
      have nn : n1 * n2 ≤ 16 := Nat.mul_le_mul nt1 nt2
      have lm : (mL ms1).length * n2 + (mL ms2).length * n1 ≤ 64 := by
        have x1 : (mL ms1).length ≤ 8 := by rw [List.length_map]; exact fw1
        have x2 : (mL ms2).length ≤ 8 := by rw [List.length_map]; exact fw2
        have := Nat.mul_le_mul x1 nt2
        have := Nat.mul_le_mul x2 nt1
        omega
      have in1 : ∀ c, c ∈ cs1 ↔ ∃ x ∈ mL ms1, x.c = c := fun c => by
        rw [ec1, List.mem_map]
        refine ⟨fun ⟨p, hp, e⟩ => ⟨p.2, inL hp, e⟩, fun ⟨x, hx, e⟩ => ?_⟩
        obtain ⟨p, hp, rfl⟩ := List.mem_map.mp hx
        exact ⟨p, hp, e⟩
      have in2 : ∀ c, c ∈ cs2 ↔ ∃ x ∈ mL ms2, x.c = c := fun c => by
        rw [ec2, List.mem_map]
        refine ⟨fun ⟨p, hp, e⟩ => ⟨p.2, inL hp, e⟩, fun ⟨x, hx, e⟩ => ?_⟩
        obtain ⟨p, hp, rfl⟩ := List.mem_map.mp hx
        exact ⟨p, hp, e⟩
      have i1 : (i : Int) + 1 = ((i + 1 : Nat) : Int) := by omega
      obtain ⟨yl, eyl, pyl⟩ : ∃ yl : List Nat, ys = yl.map sg ∧ ∀ c, c ∈ yl ↔ c ∈ sh := by
        refine ⟨ys.map fun y => y.cps.toList.headD 0, ?_, fun c => ?_⟩
        · rw [List.map_map]
          refine (List.map_id ys).symm.trans (List.map_congr_left fun y h => ?_)
          obtain ⟨c, _, rfl⟩ := List.mem_map.mp (pm.mem_iff.mp h)
          rfl
        · rw [List.mem_map]
          refine ⟨fun ⟨y, hy, e⟩ => ?_, fun hc => ⟨sg c, pm.mem_iff.mpr (List.mem_map.mpr ⟨c, hc, rfl⟩), rfl⟩⟩
          obtain ⟨c', hc', rfl⟩ := List.mem_map.mp (pm.mem_iff.mp hy)
          have : c' = c := e
          rw [← this]
          exact hc'
      have yll : yl.length ≤ 8 := by
        have := congrArg List.length eyl
        rw [pm.length_eq, List.length_map, List.length_map] at this
        omega
      rw [eyl] at hps srt
      have dps : ∀ (HH : Hp) (l : List Nat), DpAll K HH ((l.map sg).map V.str) ((l.map sg).map PyData.str) := fun HH l => by
        induction l with
        | nil => exact .nil
        | cons t g ih => exact .cons (.str _) ih
      have shp : ∀ l : List Nat, (∀ c ∈ l, c < 1000) → SeqAt.shaped (.list ((l.map sg).map PyData.str)) = true := fun l hl => by
        have h1 : PyData.canLayAll0 ((l.map sg).map PyData.str) = true ∧ PyData.depthAll ((l.map sg).map PyData.str) = 0 := by
          induction l with
          | nil => exact ⟨rfl, rfl⟩
          | cons t g ih =>
            obtain ⟨i1, i2⟩ := ih fun c hc => hl c (.tail _ hc)
            have so : PyData.canLay0 (.str (sg t)) = true := by
              rw [PyData.canLay0]
              show ((sg t).cps.all fun c => decide (c < 0x110000)) = true
              rw [← Array.all_toList]
              refine List.all_eq_true.mpr fun c hc => ?_
              have : c = t := List.mem_singleton.mp hc
              have := hl t List.mem_cons_self
              exact decide_eq_true (by omega)
            rw [List.map_cons, List.map_cons, PyData.canLayAll0, PyData.depthAll, i1, i2, so]
            exact ⟨rfl, rfl⟩
        unfold SeqAt.shaped
        rw [PyData.canLay0, h1.1, PyData.depth, h1.2]
        rfl
      have ylt : ∀ c ∈ yl, c < 1000 := fun c hc => by
        obtain ⟨x, hx, e⟩ := (in1 c).mp ((shm c).mp ((pyl c).mp hc)).1
        obtain ⟨p, hp, rfl⟩ := List.mem_map.mp hx
        have := (ok1.ok p hp).2.2.2
        omega
      refine ⟨a1, a2, n1, st1, la1, n2, st2, la2, ms1, ms2, rfl, A1.same S15, A2, by omega, by omega, fun ap H16 x dx fs S16 hx => ?_, fun c lc H16 pt S16 hpt => ?_⟩
      · have S1316 := S135.trans S16
        have ye : yl = [] := by
          cases yl with
          | nil => rfl
          | cons c r =>
            have hc := (shm c).mp ((pyl c).mp List.mem_cons_self)
            obtain ⟨x1, hx1, e1⟩ := (in1 c).mp hc.1
            obtain ⟨x2, hx2, e2⟩ := (in2 c).mp hc.2
            exact (ap x1 hx1 x2 hx2 (e1.trans e2.symm)).elim
        subst ye
        have hp16 : H16 ps = some (.lst []) := S1316 _ _ hps
        refine go_name ?_
        dsimp only
        refine ⟨_, rfl, Nat.zero_le _, fun L nL => ?_⟩
        have SL := same_up (o := .lst []) nL
        refine ⟨.list [], .list [], .lst (SqL.of (SL _ _ hp16)) .nil, .lst (SqL.of upd_same) .nil, by decide, by decide, _, rfl, ?_⟩
        refine iteF ?_
        refine ⟨_, rfl, Nat.zero_le _, fun L2 nL2 => ?_⟩
        have SL2 := SL.trans (same_up (o := .lst []) nL2)
        refine ⟨.list [], .list [], .lst (SqL.of (SL2 _ _ hp16)) .nil, .lst (SqL.of upd_same) .nil, by decide, by decide, _, rfl, ?_⟩
        refine iteT ?_
        refine ⟨_, rfl, x, dx, _, rfl, SL2 _ _ hx, _, rfl, ?_⟩
        refine iteF ?_
        refine ⟨_, _, _, _, _, _, _, _, m9, rfl, (D9.same S1316).same SL2, m90, by omega⟩
      · have S1316 := S135.trans S16
        obtain ⟨⟨x1, hx1, f1⟩, ⟨x2, hx2, f2⟩, least⟩ := lc
        have cin : c ∈ yl := (pyl c).mpr ((shm c).mpr ⟨(in1 c).mpr ⟨x1, hx1, f1⟩, (in2 c).mpr ⟨x2, hx2, f2⟩⟩)
        obtain ⟨y0, r, eyr⟩ : ∃ y0 r, yl = y0 :: r := by
          cases yl with
          | nil => exact (List.not_mem_nil cin).elim
          | cons y0 r => exact ⟨y0, r, rfl⟩
        have y0c : y0 = c := by
          have h0 := (shm y0).mp ((pyl y0).mp (by rw [eyr]; exact List.mem_cons_self))
          obtain ⟨u1, hu1, g1⟩ := (in1 y0).mp h0.1
          obtain ⟨u2, hu2, g2⟩ := (in2 y0).mp h0.2
          have a1 := least u1 hu1 u2 hu2 (g1.trans g2.symm)
          rw [eyr] at srt cin
          rcases List.mem_cons.mp cin with z | z
          · exact z.symm
          · have a2 := rise_least r y0 (by rw [List.map_cons] at srt; exact srt) c z
            omega
        rw [y0c] at eyr
        have caz : 97 ≤ c ∧ c ≤ 122 := by
          obtain ⟨p, hp, rfl⟩ := List.mem_map.mp hx1
          have := (ok1.ok p hp).2.2
          omega
        obtain ⟨t1, t2, t3, t4⟩ := heard_ok caz.1 caz.2
        have hp16 := S1316 _ _ hps
        have eqf : PyData.eqv (.list ((yl.map sg).map PyData.str)) (.list []) = false := by
          rw [eyr] <;> rfl
        refine go_name ?_
        dsimp only
        refine ⟨_, rfl, Nat.zero_le _, fun L nL => ?_⟩
        have SL := same_up (o := .lst []) nL
        refine ⟨.list ((yl.map sg).map PyData.str), .list [], .lst (SqL.of (SL _ _ hp16)) (dps _ _), .lst (SqL.of upd_same) .nil, shp _ ylt, by decide, _, rfl, ?_⟩
        rw [eqf]
        refine iteT ?_
        refine ⟨_, rfl, pt, .list [.str (sg c), .bool true], rfl, .lst (SqL.of (SL _ _ hpt)) (.cons (.str _) (.cons (.bl _) .nil)), t1, t2, t3, t4, ?_⟩
        refine ⟨_, rfl, ps, _, _, .str (sg c), rfl, rfl, SqL.of (SL _ _ hp16), by rw [eyr]; exact atI_nat (j := 0) rfl, by show 2 ≤ sizeLine; decide, fun L3 nL3 => ?_⟩
        have SL3 := SL.trans (same_up (o := .lst [.str (sg c), .bl true]) nL3)
        refine ⟨L3, .list [.str (sg c), .bool true], rfl, .lst (SqL.of upd_same) (.cons (.str _) (.cons (.bl _) .nil)), t1, t2, t3, t4, ?_⟩
        obtain ⟨zz, ezz⟩ : ∃ zz, zz = (PyData.list [.str (sg c), .bool true]).shown := ⟨_, rfl⟩
        rw [← ezz]
        clear t1 t2 t3 t4 ezz
        refine ⟨rfl, _, rfl, ?_⟩
        rw [decide_eq_true rfl]
        refine iteF ?_
        refine ⟨_, rfl, Nat.zero_le _, fun L4 nL4 => ?_⟩
        have SL4 := SL3.trans (same_up (o := .lst []) nL4)
        refine ⟨.list ((yl.map sg).map PyData.str), .list [], .lst (SqL.of (SL4 _ _ hp16)) (dps _ _), .lst (SqL.of upd_same) .nil, shp _ ylt, by decide, _, rfl, ?_⟩
        rw [eqf]
        refine iteF ?_
        refine iteF ?_
        refine ⟨_, _, _, _, _, _, _, _, m9, rfl, (D9.same S1316).same SL4, m90, by omega⟩
    · rintro σ H2 ⟨v2, v3, v4, v5, v6, v7, v11, v12, m, rfl, D2, m0, mB⟩
      clear D2 mB m0 hs n63 S1 nd ng D1
      dsimp only
      refine go_seq ?_
      -- by hand: twenty rooms and twenty places of a ring
      refine ⟨20, rfl, by decide, by decide, fun H3 ac mc S3 nac emc MC => ?_⟩
      refine ⟨20, rfl, by decide, by decide, fun H4 ar mr S4 nar emr MR => ?_⟩
      obtain ⟨dxr, lr, Er, Fr, zr, hr_, _⟩ := MR.ob
      have letr : ∀ c ∈ lettersM mr, c = 97 := fun c hc => by
        obtain ⟨p, hp, e⟩ := (mem_lettersM fun q hq => (MR.ok.ok q hq).2.2.2).mp hc
        rw [← e]
        have := inL hp
        rw [show mL mr = _ from emr] at this
        exact ring_let _ this
      refine ⟨ar, dxr, _, rfl, hr_, no_renamed .., .ref ar, rfl, rfl, fun dd ndd => ?_⟩
      have Sd := same_up (o := .dK (kwD ["a"] [V.str "c"])) ndd
      refine ⟨ar, dd, 20, 0, 0, mr, _, rc, rfl, MR.same Sd, upd_same, fun c hc => ?_, fun x hx y hy _ => by rw [letr x hx, letr y hy], fun H5 x5 k5 S5 n5 e5 M5 => ?_⟩
      · rw [letr c hc]
        exact ⟨by rfl, by show 97 ≤ 99; decide, by show 99 ≤ 122; decide⟩
      rw [show mL mr = _ from emr, ring_c] at e5
      have S45 := S4.trans (Sd.trans S5)
      have e5' : mL k5 = rin20 := e5
      have ec' : mL mc = cor20 := emc
      refine and_in (MC.same S45) M5 (by rw [e5', ec']; exact hand_apart) (by decide) (by rw [e5', ec', cor_len, rin_len]; decide) fun H6 wd mw S6 nw ew MW => ?_
      rw [e5', ec'] at ew
      clear MC M5 MR e5 letr hr_ emr emc S3 S4 S5 Sd S45 S6 e5' ec' nac nar ndd n5 nw
      refine go_name ?_
      dsimp only
      refine go_seq ?_
      have oW : OkL (20 * 20) (0 * 20 + 0) (0 * 20 + 0) (prodL 20 cor20 20 rin20) := by
        have := MW.ok.onL
        rw [show List.map (fun x : Addr × Mv => x.2) mw = _ from ew] at this
        exact this
      have mA : ∀ (z : Str) (n : Nat), z.length = 1 → n ≤ 20 → MulOk z (n : Int) := fun z n h1 h2 => mul_ok z n (by rw [h1]; omega) (by omega) (by omega)
      have wok : ∀ c : Nat, c ≤ 20 → OkW (wordT 19 c 19) := fun c hc => by
        have e := wordT_cL 19 c 19
        refine ⟨fun x hx => ?_, ?_⟩
        · rw [e] at hx
          unfold wordN at hx
          have inr : ∀ (n y : Nat), ∀ x ∈ reps n [y], x = y := fun n y x hx => by
            unfold reps at hx
            obtain ⟨l, hl, hx⟩ := List.mem_flatten.mp hx
            rw [List.eq_of_mem_replicate hl] at hx
            exact List.mem_singleton.mp hx
          rcases List.mem_append.mp hx with z | z
          · rcases List.mem_append.mp z with z | z
            · have := inr _ _ x z
              omega
            · have := inr _ _ x z
              omega
          · have := inr _ _ x z
            omega
        · rw [← Array.length_toList, e]
          unfold wordN
          rw [List.length_append, List.length_append, reps_len, reps_len, reps_len]
          show 19 * 1 + c * 1 + 19 * 1 ≤ _
          omega
      have mlen : ∀ (z : Str) (n : Nat), z.length = 1 → (Txt.mul z (n : Int)).length = n := fun z n h1 => by
        rw [cL_len, cL_mul, reps_len, ← cL_len, h1, Nat.mul_one]
      have alen : ∀ x y : Str, (x ++ y).length = x.length + y.length := fun x y => PySem.Str.length_append x y
      obtain ⟨dxw, lw, Ew, Fw, zw, hw, _⟩ := MW.ob
      have l19 : ∀ z : Str, z.length = 1 → (Txt.mul z 19).length = 19 := fun z h => mlen z 19 h
      have l20 : ∀ z : Str, z.length = 1 → (Txt.mul z 20).length = 20 := fun z h => mlen z 20 h
      refine ⟨"a", 19, rfl, rfl, mA "a" 19 rfl (by decide), "c", 20, rfl, rfl, mA "c" 20 rfl (by decide), _, _, rfl, rfl, by rw [l19 "a" rfl, l20 "c" rfl, sizeLine_eq]; decide, "b", 19, rfl, rfl, mA "b" 19 rfl (by decide), _, _, rfl, rfl, by rw [alen, l19 "a" rfl, l20 "c" rfl, l19 "b" rfl, sizeLine_eq]; decide, ?_⟩
      refine ⟨_, rfl, wd, dxw, _, rfl, hw, wd, 20 * 20, 0 * 20 + 0, 0 * 20 + 0, wordT 19 20 19, mw, rfl, wok 20 (by decide), MW, fun H7 S7 => ⟨_, rfl, ?_⟩⟩
      have v1 : decide (walkM mw (0 * 20 + 0) (wordT 19 20 19).cps.toList = some (0 * 20 + 0)) = true := by
        rw [walkM_L, show mw.map (·.2) = _ from ew]
        exact hand_word 20 oW hand_yes
      rw [v1]
      have hw7 := S7 _ _ hw
      have MW7 := MW.same S7
      refine ⟨"a", 19, rfl, rfl, mA "a" 19 rfl (by decide), "c", 19, rfl, rfl, mA "c" 19 rfl (by decide), _, _, rfl, rfl, by rw [l19 "a" rfl, l19 "c" rfl, sizeLine_eq]; decide, "b", 19, rfl, rfl, mA "b" 19 rfl (by decide), _, _, rfl, rfl, by rw [alen, l19 "a" rfl, l19 "c" rfl, l19 "b" rfl, sizeLine_eq]; decide, ?_⟩
      refine ⟨_, rfl, wd, dxw, _, rfl, hw7, wd, 20 * 20, 0 * 20 + 0, 0 * 20 + 0, wordT 19 19 19, mw, rfl, wok 19 (by decide), MW7, fun H8 S8 => ⟨_, rfl, ?_⟩⟩
      have v2 : decide (walkM mw (0 * 20 + 0) (wordT 19 19 19).cps.toList = some (0 * 20 + 0)) = false := by
        rw [walkM_L, show mw.map (·.2) = _ from ew]
        exact hand_word 19 oW hand_no
      rw [v2]
      have MW8 := MW7.same S8
      obtain ⟨dx8, lw8, E8, F8, z8, hw8, hM8, _⟩ := MW8.let
      refine ⟨_, rfl, wd, dx8, _, rfl, hw8, wd, 20 * 20, 0 * 20 + 0, 0 * 20 + 0, mw, rfl, MW8, fun H9 S9 => ⟨20 * 20, rfl, by decide, ?_⟩⟩
      have hw9 := S9 _ _ hw8
      have mlw : mw.length = 1160 := by
        have := congrArg List.length ew
        rw [List.length_map, prod_len, cor_len, rin_len] at this
        exact this
      refine ⟨_, rfl, wd, C, dx8, _, _, rfl, hw9, M.cl, M.a4, lk4 .., _, 1160, rfl, ?_, ?_⟩
      · exact .inr ⟨_, (hM8.same S9).tp, by rw [List.length_map, mlw]⟩
      refine ⟨by show 4 ≤ sizeLine; decide, fun L nL => ?_⟩
      have hL : upd H9 L (.lst [V.bl true, V.bl false, V.int 400, V.int 1160]) L = some (.lst [V.bl true, V.bl false, V.int 400, V.int 1160]) := upd_same
      clear hw9 hM8 hw8 MW8 MW7 hw7 v1 v2 hw MW oW mA wok mlen alen l19 l20 S7 S8 S9 mlw ew
      refine go_name ?_
      dsimp only
      refine go_seq ?_
      refine ⟨_, rfl, by show 4 ≤ sizeLine; decide, fun L2 nL2 => ?_⟩
      have SL := same_up (o := .lst [V.bl true, V.bl false, V.int 400, V.int 1160]) nL2
      refine ⟨.list [.bool true, .bool false, .int 400, .int 1160], .list [.bool true, .bool false, .int 400, .int 1160], .lst (SqL.of (SL _ _ hL)) (.cons (.bl _) (.cons (.bl _) (.cons (.int _) (.cons (.int _) .nil)))), .lst (SqL.of upd_same) (.cons (.bl _) (.cons (.bl _) (.cons (.int _) (.cons (.int _) .nil)))), by decide, by decide, _, rfl, ?_⟩
      refine iteF ?_
      clear SL hL
      have all : ∀ HZ : Hp, True := fun _ => trivial
      generalize upd (upd H9 L (.lst [V.bl (id true), V.bl (id false), V.int ((20 * 20 : Nat) : Int), V.int ((1160 : Nat) : Int)])) L2 (.lst [V.bl true, V.bl false, V.int 400, V.int 1160]) = HA
      -- by hand: two rings of two
      refine ⟨by show 3 ≤ sizeLine; decide, fun t1 nt1 => ⟨by show 3 ≤ sizeLine; decide, fun t2 nt2 => ⟨by show 2 ≤ sizeLine; decide, fun la nla => ?_⟩⟩⟩
      have Xx1 : Same HA (upd (upd (upd HA t1 (.tup [V.int 0, V.str "a", V.int 1])) t2 (.tup [V.int 1, V.str "b", V.int 0])) la (.tup [V.ref t1, V.ref t2])) ∧ MvsAt K (upd (upd (upd HA t1 (.tup [V.int 0, V.str "a", V.int 1])) t2 (.tup [V.int 1, V.str "b", V.int 0])) la (.tup [V.ref t1, V.ref t2])) la [(t1, (⟨0, 97, 1⟩ : Mv)), (t2, ⟨1, 98, 0⟩)] := (((RowsAt.nil (H := HA)).add (m := ⟨0, 97, 1⟩) nt1).add (m := ⟨1, 98, 0⟩) nt2).tup (K := K) nla
      intro x1 dx1 nx1 ndx1 nex1
      generalize upd (upd (upd HA t1 (.tup [V.int 0, V.str "a", V.int 1])) t2 (.tup [V.int 1, V.str "b", V.int 0])) la (.tup [V.ref t1, V.ref t2]) = HXx1 at Xx1 nx1 ndx1 ⊢
      obtain ⟨SAx1, hMx1⟩ := Xx1
      have SXx1 : Same HXx1 (upd (upd HXx1 dx1 (.own x1)) x1 (.ins C dx1 [])) := fun b o z => by
        rw [upd_ne (ne_of_none z nx1), upd_ne (ne_of_none z ndx1)]
        exact z
      refine ⟨2, 0, 0, x1, dx1, la, _, rfl, upd_same, hMx1.off (off_same SXx1), okM_of a2_look rfl, fun H1 keep M1 => ⟨rfl, ?_⟩⟩
      have S1 : Same HXx1 H1 := fun b o z => keep b o (SXx1 _ _ z) (ne_of_none z nx1)
      clear keep hMx1 SXx1 SAx1 S1
      refine ⟨by show 3 ≤ sizeLine; decide, fun t3 nt3 => ⟨by show 3 ≤ sizeLine; decide, fun t4 nt4 => ⟨by show 2 ≤ sizeLine; decide, fun lb nlb => ?_⟩⟩⟩
      have Xx2 : Same H1 (upd (upd (upd H1 t3 (.tup [V.int 0, V.str "x", V.int 1])) t4 (.tup [V.int 1, V.str "y", V.int 0])) lb (.tup [V.ref t3, V.ref t4])) ∧ MvsAt K (upd (upd (upd H1 t3 (.tup [V.int 0, V.str "x", V.int 1])) t4 (.tup [V.int 1, V.str "y", V.int 0])) lb (.tup [V.ref t3, V.ref t4])) lb [(t3, (⟨0, 120, 1⟩ : Mv)), (t4, ⟨1, 121, 0⟩)] := (((RowsAt.nil (H := H1)).add (m := ⟨0, 120, 1⟩) nt3).add (m := ⟨1, 121, 0⟩) nt4).tup (K := K) nlb
      intro x2 dx2 nx2 ndx2 nex2
      generalize upd (upd (upd H1 t3 (.tup [V.int 0, V.str "x", V.int 1])) t4 (.tup [V.int 1, V.str "y", V.int 0])) lb (.tup [V.ref t3, V.ref t4]) = HXx2 at Xx2 nx2 ndx2 ⊢
      obtain ⟨SAx2, hMx2⟩ := Xx2
      have SXx2 : Same HXx2 (upd (upd HXx2 dx2 (.own x2)) x2 (.ins C dx2 [])) := fun b o z => by
        rw [upd_ne (ne_of_none z nx2), upd_ne (ne_of_none z ndx2)]
        exact z
      refine ⟨2, 0, 1, x2, dx2, lb, _, rfl, upd_same, hMx2.off (off_same SXx2), okM_of b2_look rfl, fun HB keep M2 => ⟨rfl, ?_⟩⟩
      have S2 : Same HXx2 HB := fun b o z => keep b o (SXx2 _ _ z) (ne_of_none z nx2)
      refine ⟨_, _, rfl, ?_⟩
      replace M1 := M1.same (SAx2.trans S2)
      clear keep hMx2 SXx2 SAx2 S2
      dsimp only
      refine go_seq ?_
      refine ⟨by show 3 ≤ sizeLine; decide, fun r1 nr1 => ⟨by show 3 ≤ sizeLine; decide, fun r2 nr2 => ⟨by show 3 ≤ sizeLine; decide, fun r3 nr3 => ⟨by show 3 ≤ sizeLine; decide, fun r4 nr4 => ⟨by show 3 ≤ sizeLine; decide, fun r5 nr5 => ⟨by show 3 ≤ sizeLine; decide, fun r6 nr6 => ⟨by show 3 ≤ sizeLine; decide, fun r7 nr7 => ⟨by show 3 ≤ sizeLine; decide, fun r8 nr8 => ⟨by show 8 ≤ sizeLine; decide, fun lr nlr => ?_⟩⟩⟩⟩⟩⟩⟩⟩⟩
      have XR : Same HB (upd (upd (upd (upd (upd (upd (upd (upd (upd HB r1 (.tup [V.int 0, V.str "a", V.int 2])) r2 (.tup [V.int 0, V.str "x", V.int 1])) r3 (.tup [V.int 1, V.str "a", V.int 3])) r4 (.tup [V.int 1, V.str "y", V.int 0])) r5 (.tup [V.int 2, V.str "b", V.int 0])) r6 (.tup [V.int 2, V.str "x", V.int 3])) r7 (.tup [V.int 3, V.str "b", V.int 1])) r8 (.tup [V.int 3, V.str "y", V.int 2])) lr (.tup [V.ref r1, V.ref r2, V.ref r3, V.ref r4, V.ref r5, V.ref r6, V.ref r7, V.ref r8])) ∧ MvsAt K (upd (upd (upd (upd (upd (upd (upd (upd (upd HB r1 (.tup [V.int 0, V.str "a", V.int 2])) r2 (.tup [V.int 0, V.str "x", V.int 1])) r3 (.tup [V.int 1, V.str "a", V.int 3])) r4 (.tup [V.int 1, V.str "y", V.int 0])) r5 (.tup [V.int 2, V.str "b", V.int 0])) r6 (.tup [V.int 2, V.str "x", V.int 3])) r7 (.tup [V.int 3, V.str "b", V.int 1])) r8 (.tup [V.int 3, V.str "y", V.int 2])) lr (.tup [V.ref r1, V.ref r2, V.ref r3, V.ref r4, V.ref r5, V.ref r6, V.ref r7, V.ref r8])) lr [(r1, (⟨0, 97, 2⟩ : Mv)), (r2, (⟨0, 120, 1⟩ : Mv)), (r3, (⟨1, 97, 3⟩ : Mv)), (r4, (⟨1, 121, 0⟩ : Mv)), (r5, (⟨2, 98, 0⟩ : Mv)), (r6, (⟨2, 120, 3⟩ : Mv)), (r7, (⟨3, 98, 1⟩ : Mv)), (r8, (⟨3, 121, 2⟩ : Mv))] := (((((((((RowsAt.nil (H := HB)).add (m := ⟨0, 97, 2⟩) nr1).add (m := ⟨0, 120, 1⟩) nr2).add (m := ⟨1, 97, 3⟩) nr3).add (m := ⟨1, 121, 0⟩) nr4).add (m := ⟨2, 98, 0⟩) nr5).add (m := ⟨2, 120, 3⟩) nr6).add (m := ⟨3, 98, 1⟩) nr7).add (m := ⟨3, 121, 2⟩) nr8).tup (K := K) nlr
      generalize upd (upd (upd (upd (upd (upd (upd (upd (upd HB r1 (.tup [V.int 0, V.str "a", V.int 2])) r2 (.tup [V.int 0, V.str "x", V.int 1])) r3 (.tup [V.int 1, V.str "a", V.int 3])) r4 (.tup [V.int 1, V.str "y", V.int 0])) r5 (.tup [V.int 2, V.str "b", V.int 0])) r6 (.tup [V.int 2, V.str "x", V.int 3])) r7 (.tup [V.int 3, V.str "b", V.int 1])) r8 (.tup [V.int 3, V.str "y", V.int 2])) lr (.tup [V.ref r1, V.ref r2, V.ref r3, V.ref r4, V.ref r5, V.ref r6, V.ref r7, V.ref r8]) = HC at XR ⊢
      obtain ⟨SR, hMR⟩ := XR
      refine go_name ?_
      dsimp only
      replace M1 := M1.same SR
      replace M2 := M2.same SR
      clear SR
      have eA : mL [(t1, (⟨0, 97, 1⟩ : Mv)), (t2, ⟨1, 98, 0⟩)] = A2 := rfl
      refine ⟨_, rfl, _, rfl, and_in M1 M2 ab_apart (by decide) (by show 2 * 2 + 2 * 2 ≤ 3999; decide) fun HD x k1 S3 nx e M3 => ?_⟩
      have e' : mL k1 = R2 := e.trans (r2_is rfl rfl M1.ok.onL M2.ok.onL ab_apart)
      replace hMR := hMR.same S3
      obtain ⟨u1, u2, u3, u4⟩ := rep_ok M3.ok
      have okR := (M3.ok.onL).onM (ms := [(r1, (⟨0, 97, 2⟩ : Mv)), (r2, ⟨0, 120, 1⟩), (r3, ⟨1, 97, 3⟩), (r4, ⟨1, 121, 0⟩), (r5, ⟨2, 98, 0⟩), (r6, ⟨2, 120, 3⟩), (r7, ⟨3, 98, 1⟩), (r8, ⟨3, 121, 2⟩)]) e'.symm
      obtain ⟨w1, w2, w3, w4⟩ := rep_ok okR
      refine ⟨x, 2 * 2, 0 * 2 + 0, 0 * 2 + 1, k1, rfl, M3, fun p1 l1 np1 hM1 => ?_⟩
      have S4 := same_up (o := .tup [.int ((2 * 2 : Nat) : Int), .int ((0 * 2 + 0 : Nat) : Int), .int ((0 * 2 + 1 : Nat) : Int), .ref l1]) np1
      refine ⟨p1, _, rfl, dp_pt (SqT.of upd_same) (hM1.same S4), u1, u2, u3, u4, ?_⟩
      refine ⟨_, rfl, by show 4 ≤ sizeLine; decide, fun p2 np2 => ?_⟩
      have S5 := S4.trans (same_up (o := .tup [.int 4, .int 0, .int 1, .ref lr]) np2)
      refine ⟨p2, ptD (2 * 2) (0 * 2 + 0) (0 * 2 + 1) [(r1, (⟨0, 97, 2⟩ : Mv)), (r2, ⟨0, 120, 1⟩), (r3, ⟨1, 97, 3⟩), (r4, ⟨1, 121, 0⟩), (r5, ⟨2, 98, 0⟩), (r6, ⟨2, 120, 3⟩), (r7, ⟨3, 98, 1⟩), (r8, ⟨3, 121, 2⟩)], rfl, dp_pt (SqT.of upd_same) (hMR.same S5), w1, w2, w3, w4, ?_⟩
      rw [ptD_eq (ms := k1) (qs := [(r1, (⟨0, 97, 2⟩ : Mv)), (r2, ⟨0, 120, 1⟩), (r3, ⟨1, 97, 3⟩), (r4, ⟨1, 121, 0⟩), (r5, ⟨2, 98, 0⟩), (r6, ⟨2, 120, 3⟩), (r7, ⟨3, 98, 1⟩), (r8, ⟨3, 121, 2⟩)]) e']
      obtain ⟨zz, ezz⟩ : ∃ zz, zz = (ptD (2 * 2) (0 * 2 + 0) (0 * 2 + 1) [(r1, (⟨0, 97, 2⟩ : Mv)), (r2, ⟨0, 120, 1⟩), (r3, ⟨1, 97, 3⟩), (r4, ⟨1, 121, 0⟩), (r5, ⟨2, 98, 0⟩), (r6, ⟨2, 120, 3⟩), (r7, ⟨3, 98, 1⟩), (r8, ⟨3, 121, 2⟩)]).shown := ⟨_, rfl⟩
      rw [← ezz]
      clear u1 u2 u3 u4 w1 w2 w3 w4 ezz
      refine ⟨rfl, ?_⟩
      rw [decide_eq_true rfl]
      exact k _
end
end Vk
set_option Elab.async false
set_option linter.all false
set_option maxRecDepth 100000
set_option maxHeartbeats 4000000
namespace Vk
open PySem PySem.Spec PyProof.Rows L2
theorem lawG {P : Program} {w : World} {K : PySem.W.Frag} {mg mb : Str → Option Value} {CX : CXT} {k : Nat} {fa a : Addr} {fd : FuncData} {x : Str} {sp : Sp} {s₁ : Shared} {vs : List Value} {ns : List Int}
    (kin : K.In s₁.heap) (gns : s₁.heap.Ns mainGlobals mg) (isB : s₁.heap.Ns builtinsNs mb) (bltin : ∀ x : Str, x ≠ "__name__" → mb x = bootBuiltins x) (limN : s₁.heap.NoLimit) (gens0 : s₁.gens = #[])
    (atA : s₁.heap.get? a = some { cls := .type "list", data := .seq vs.toArray }) (intsA : IntsAre vs ns) (few : ns.length ≤ sizeLine) (room : Room k callerA)
    (F : ∀ base : Heap, K.In base → base.Ns mainGlobals mg → FnG P w K mg base CX k fa fd [x] sp) (bind1 : ∀ (s : Shared) (u : Value), BindsTo s fd ⟨[u], []⟩ [(x, u)])
    (spec : ∀ H : Hp, Only H → SqL K H a (ns.map V.int) → sp [.ref a] H (fun v _ => v = .bl true) fun _ _ _ => False)
    (noX : ∀ H e s', CX [] H s₁ (fun _ _ _ => False) e s' → False) :
    codeAny (model P w) callerA (.call (.ref fa) ⟨[.ref a], []⟩) (fun r s' => r = .ok (.ret (.bool true)) ∧ OldK s₁.heap s'.heap ∧ s'.os = s₁.os ∧ AllBare s'.gens) s₁ := by
  have relV := vals_ints intsA
  have sizeV := intsA.length
  -- from an abstract heap in which nothing but the script may be tracked
  have from_ : ∀ H : Hp, Only H → SqL K H a (ns.map V.int) → HOk P w H s₁.heap → (∀ b, H b ≠ none → b = a) → (H a ≠ none → K.lookup a = none) →
      codeAny (model P w) callerA (.call (.ref fa) ⟨[.ref a], []⟩) (fun r s' => r = .ok (.ret (.bool true)) ∧ OldK s₁.heap s'.heap ∧ s'.os = s₁.os ∧ AllBare s'.gens) s₁ := by
    intro H only seqA okH onlyA notK
    have inBase : ∀ {b : Addr} {o : Obj}, s₁.heap.get? b = some o → H b = none → (hidT s₁.heap H).get? b = some o := fun e n => hidT_get e n
    have noDict : ∀ {b : Addr} {o : Obj} {es : Array DictEntry} {ep : Nat}, s₁.heap.get? b = some o → o.data = .dict es ep → H b = none := fun {b o es ep} e d => by
      cases q : H b with
      | none => rfl
      | some u =>
        have e' : b = a := onlyA b (by rw [q]; simp)
        subst e'
        rw [atA] at e; cases e
        have d' : Data.seq vs.toArray _ = Data.dict es ep := d
        cases d'
    have nsBase : ∀ {b : Addr} {m : Str → Option Value}, s₁.heap.Ns b m → (hidT s₁.heap H).Ns b m := fun {b m} ⟨o, es, ep, e, d, r⟩ => ⟨o, es, ep, inBase e (noDict e d), d, r⟩
    have kBase : K.In (hidT s₁.heap H) := fun b o e => inBase (kin b o e) (by
      cases q : H b with
      | none => rfl
      | some u =>
        have e' : b = a := onlyA b (by rw [q]; simp)
        subst e'
        rw [notK (by rw [q]; simp)] at e; cases e)
    have modB : Mod K mg (hidT s₁.heap H) := ⟨kBase, nsBase gns, ⟨mb, nsBase isB, bltin⟩, let ⟨mc, h1, h2⟩ := limN; ⟨mc, nsBase h1, h2⟩⟩
    have env0 : Env0 P w K mg (hidT s₁.heap H) callerA [] s₁ H := ⟨rfl, modB, fun b o e => of_hidT e, Nat.le_of_eq (hidT_size _ _), trivial, fun b isB => absurd (show b ∈ ([] : List Addr) from isB) (by simp), okH, .of_eq gens0⟩
    refine codeAny_mono ((F _ kBase (nsBase gns)).run callerA [] s₁ H ⟨[.ref a], []⟩ [.ref a] [.ref a] _ _ rfl room env0 (bind1 s₁ (.ref a)) (.cons rfl .nil) (spec H only seqA)) fun r s' h => ?_
    cases r with
    | error e => exact (noX H e s' h).elim
    | ok fl =>
      cases fl with
      | next => exact False.elim h
      | brk => exact False.elim h
      | cont => exact False.elim h
      | ret u =>
        obtain ⟨v, H', os, bareG, unk, hok', r', q⟩ := h
        have q' : v = .bl true := q
        subst q'
        obtain rfl : u = Value.bool true := r'
        refine ⟨rfl, OldK.of_keep fun b o e => ?_, os, bareG⟩
        cases q : H b with
        | none => exact unk.keep b o e q (by intro z; exact absurd (show b ∈ ([] : List Addr) from z) (by simp)) (by simp)
        | some u =>
          rcases only b with z | ⟨ob, xs, z⟩
          · rw [q] at z; cases z
          · have z2 := unk.frzs b ob _ z
            obtain ⟨e1, _⟩ := okH b _ z
            obtain ⟨e2, _⟩ := hok' b _ z2
            rw [e] at e1; cases e1
            exact e2
  cases lk : K.lookup a with
  | some o =>
    -- the script is one of the module's own objects
    have e := kin a o lk
    rw [atA] at e
    cases e
    refine from_ (fun _ => none) (fun _ => .inl rfl) (.inr ⟨_, vs.toArray, _, lk, rfl, rfl, rfl, by rw [List.size_toArray, sizeV]; exact few, by simpa using relV⟩) (fun b u z => by have z' : (none : Option HO) = some u := z; cases z') (fun b z => absurd rfl z) fun z => absurd rfl z
  | none =>
    refine from_ (fun b => if b = a then some (.frz { cls := .type "list", data := .seq vs.toArray } (.lst (ns.map V.int))) else none) (fun b => ?_) (.inl (.inr ⟨{ cls := .type "list", data := .seq vs.toArray }, if_pos rfl⟩)) (fun b u z => ?_) (fun b z => ?_) fun _ => lk
    · by_cases isB : b = a
      · exact .inr ⟨_, _, if_pos isB⟩
      · exact .inl (if_neg isB)
    · by_cases isB : b = a
      · have z' := (if_pos isB).symm.trans z
        cases z'
        subst isB
        exact ⟨atA, by rw [List.length_map]; exact few, vs, _, relV, atA⟩
      · have z' := (if_neg isB).symm.trans z
        cases z'
    · by_cases isB : b = a
      · exact isB
      · exact absurd (if_neg isB) z
theorem walkG {l : PySem.W.OpenLaw} {n k : Nat} {q : Program} {loose : List Str} {XP : (Str → Option Value) → Heap → Prop} {YP : World → Heap → Prop} {d : DefRec} {K : Params → PySem.W.Frag} {CX : World → CXT} {sp : World → Sp} {x : Str}
    (hn : l.most = some n) (hn2 : n ≤ sizeLine) (hdf : d.params.defaults = []) (room : Room k callerA)
    (hY : ∀ (w : World) (h : Heap), YP w h → (K w.params).In h)
    (F : ∀ (w : World) (mg : Str → Option Value) (fa : Addr) (h : Heap), (K w.params).In h → h.Ns mainGlobals mg → mg d.name = some (.ref fa) →
      ∃ fd : FuncData, (∀ (s : Shared) (u : Value), BindsTo s fd ⟨[u], []⟩ [(x, u)]) ∧
        ∀ base : Heap, (K w.params).In base → base.Ns mainGlobals mg → FnG l.prog w (K w.params) mg base (CX w) k fa fd [x] (sp w))
    (spec : ∀ (w : World) (H : Hp) (a : Addr) (ns : List Int), ns.length ≤ n → Only H → SqL (K w.params) H a (ns.map V.int) → sp w [.ref a] H (fun v _ => v = .bl true) fun _ _ _ => False)
    (noX : ∀ (w : World) (H : Hp) (s : Shared) (e : Value) (s' : Shared), CX w [] H s (fun _ _ _ => False) e s' → False) :
    PySem.W.WalkO q loose XP YP l.row.toRowW d [] (fun f vs => PySem.call f vs) := by
  refine Att.attach_call hn hdf fun w s₀ s₁ mg mb fa o pm cd doc a vs ns G Y ho hd hcd hmg hobj hints hlen gens0 => ?_
  have kin := hY w _ Y
  obtain ⟨fd, isB, hF⟩ := F w mg fa _ kin G.T.g hmg
  exact lawG kin G.T.g G.T.b G.T.builtins G.T.nolimit gens0 hobj hints (Nat.le_trans hlen hn2) room hF isB (fun H only seqA => spec w H a ns hlen only seqA) fun H e s' => noX w H s₁ e s'
end Vk
set_option Elab.async false
set_option linter.all false
set_option maxRecDepth 100000
set_option maxHeartbeats 4000000
namespace Vk
open PySem PySem.Spec PyProof.Rows L2 Vt PySem.Vx ClX
def fields7 : List Str := ["size", "first", "last", "moves", "letters", "_entered", "_left"]
/-- all that is looked up of the class at once -/
def cls8 (K : PySem.W.Frag) (C : Addr) : Bool := PySem.W.plainGet K C Str.empty && (PySem.W.hasDictIn K C && (PySem.W.plainOver K C && (decide (PySem.W.findIn K (.ref C) "__setattr__" = some (some (.builtin "object.__setattr__"))) &&
  (decide (PySem.W.findIn K (.ref C) "__class__" = some (some (.builtin "object.__class__"))) && (decide (PySem.W.specialIn K (.builtin "object.__class__") "__get__" = some (some (.builtin "getset_descriptor.__get__"))) && (decide (PySem.W.takesIn K (.builtin "object.__class__") = some true) &&
  (decide (PySem.W.mroIn K C (.type "object") = some true) && (decide (PySem.W.kitOne K (.ref C) (.ref C) = some true) && (PySem.W.makesIn K C && (PySem.W.keepIn K (.ref C) && (PySem.W.notFirst K C (.ref C) && fields7.all fun n => decide (PySem.W.findIn K (.ref C) n = some none))))))))))))
structure Cls8 (K : PySem.W.Frag) (C : Addr) : Prop where
  cl : Cls K C
  ic : C8.InsC K C
  mks : PySem.W.makesIn K C = true
  kp : PySem.W.keepIn K (.ref C) = true
  nf : PySem.W.notFirst K C (.ref C) = true
  m : MCls K C
theorem cls8_of {K : PySem.W.Frag} {C : Addr} (h : cls8 K C = true) : Cls8 K C := by
  unfold cls8 at h
  simp only [Bool.and_eq_true, decide_eq_true_eq, List.all_eq_true] at h
  obtain ⟨h1, h2, h3, h4, h5, h6, h7, h8, h9, h10, h11, h12, h13⟩ := h
  have na : ∀ n, n ∈ fields7 → NoAttr K C n := h13
  have cl : Cls K C := ⟨h1, h2, h3, h4⟩
  exact ⟨cl, ⟨cl, h5, h6, h7, h8, h9⟩, h10, h11, h12, ⟨cl, na _ (.head _), na _ (.tail _ (.head _)), na _ (.tail _ (.tail _ (.head _))), na _ (.tail _ (.tail _ (.tail _ (.head _)))), na _ (.tail _ (.tail _ (.tail _ (.tail _ (.head _))))), na _ (.tail _ (.tail _ (.tail _ (.tail _ (.tail _ (.head _)))))), na _ (.tail _ (.tail _ (.tail _ (.tail _ (.tail _ (.tail _ (.head _)))))))⟩⟩


theorem all8_mk {l : PySem.W.OpenLaw} {w : World} {K : PySem.W.Frag} {h : Heap} {mg : Str → Option Value} {fa C CE CL e0 fN fE fS fM fC fX fR fP fK fZ fMt fJ fRg fCo fDk fDr fPi fLd fWo fCd fPn fPa fGo fTk fTx fWi fLj fHd fMx fRt fLw fI fLn fEq fAf fSo fCt fNb fSm fAn fRn : Addr} {tk1 : Tok} (X : K.In h) (G : h.Ns mainGlobals mg) (hfa : mg "law" = some (.ref fa))
    {odN anN odE anE odS anS odM anM odC anC odX anX odR anR odP anP odK anK odZ anZ odMt anMt odJ anJ odRg anRg odCo anCo odDk anDk odDr anDr odPi anPi odLd anLd odWo anWo odCd anCd odPn anPn odPa anPa odGo anGo odTk anTk odTx anTx odWi anWi odLj anLj odHd anHd odMx anMx odRt anRt odLw anLw odI anI odLn anLn odEq anEq odAf anAf odSo anSo odCt anCt odNb anNb odSm anSm odAn anAn odRn anRn : Option Addr} {slN slE slS slM slC slX slR slP slK slZ slMt slJ slRg slCo slDk slDr slPi slLd slWo slCd slPn slPa slGo slTk slTx slWi slLj slHd slMx slRt slLw slI slLn slEq slAf slSo slCt slNb slSm slAn slRn : Array (Option Value)} {ocN kVN dcN pmN cdN ctN ocE kVE dcE pmE cdE ctE ocS kVS dcS pmS cdS ctS ocM kVM dcM pmM cdM ctM ocC kVC dcC pmC cdC ctC ocX kVX dcX pmX cdX ctX ocR kVR dcR pmR cdR ctR ocP kVP dcP pmP cdP ctP ocK kVK dcK pmK cdK ctK ocZ kVZ dcZ pmZ cdZ ctZ ocMt kVMt dcMt pmMt cdMt ctMt ocJ kVJ dcJ pmJ cdJ ctJ ocRg kVRg dcRg pmRg cdRg ctRg ocCo kVCo dcCo pmCo cdCo ctCo ocDk kVDk dcDk pmDk cdDk ctDk ocDr kVDr dcDr pmDr cdDr ctDr ocPi kVPi dcPi pmPi cdPi ctPi ocLd kVLd dcLd pmLd cdLd ctLd ocWo kVWo dcWo pmWo cdWo ctWo ocCd kVCd dcCd pmCd cdCd ctCd ocPn kVPn dcPn pmPn cdPn ctPn ocPa kVPa dcPa pmPa cdPa ctPa ocGo kVGo dcGo pmGo cdGo ctGo ocTk kVTk dcTk pmTk cdTk ctTk ocTx kVTx dcTx pmTx cdTx ctTx ocWi kVWi dcWi pmWi cdWi ctWi ocLj kVLj dcLj pmLj cdLj ctLj ocHd kVHd dcHd pmHd cdHd ctHd ocMx kVMx dcMx pmMx cdMx ctMx ocRt kVRt dcRt pmRt cdRt ctRt ocLw kVLw dcLw pmLw cdLw ctLw ocI kVI dcI pmI cdI ctI ocLn kVLn dcLn pmLn cdLn ctLn ocEq kVEq dcEq pmEq cdEq ctEq ocAf kVAf dcAf pmAf cdAf ctAf ocSo kVSo dcSo pmSo cdSo ctSo ocCt kVCt dcCt pmCt cdCt ctCt ocNb kVNb dcNb pmNb cdNb ctNb ocSm kVSm dcSm pmSm cdSm ctSm ocAn kVAn dcAn pmAn cdAn ctAn ocRn kVRn dcRn pmRn cdRn ctRn : Value}
    {xod0 xan0 : Option Addr} {xsl0 : Array (Option Value)} {xoc0 xdc0 xpm0 xcd0 xct0 : Value} {p10 p20 q10 q20 q30 q40 : Pos}
    (aC : PySem.W.nsIn K mainGlobals "Machine" = some (some (.ref C))) (hall : cls8 K C = true)
    (aMost : PySem.W.nsIn K mainGlobals "MOST_STATES" = some (some (.int 999 tk1)))
    (aE : PySem.W.nsIn K mainGlobals "SharedLetter" = some (some (.ref CE))) (hE : ecB K CE = true) (mE0 : PySem.W.exmOne K (.ref CE) (.ref CE) = some true)
    (aL : PySem.W.nsIn K mainGlobals "LoopError" = some (some (.ref CL))) (hkL : PySem.W.kitOne K (.ref CE) (.ref CL) = some true) (hsf : PySem.W.selfFirst K C = true)
    (n0 : PySem.W.findIn K (.ref CE) "letter" = some none) (i0 : PySem.W.findIn K (.ref CE) "__init__" = some (some (.ref e0))) (t0 : PySem.W.typeIn K (.ref e0) = some (.type "function"))
    (x0 : K.lookup e0 = some ⟨xoc0, xod0, .func (PySem.W.fnOf "__init__" "SharedLetter.__init__" (iA "letter" p10 p20) (iB "letter" q10 q20 q30 q40) (iS "letter") .none .none xdc0 xpm0 xan0 xcd0 xct0), xsl0⟩) (y0 : PySem.W.codeIn K xcd0 "SharedLetter.__init__" = true)
    (gN : PySem.W.nsIn K mainGlobals "is_number" = some (some (.ref fN)))
    (lN : K.lookup fN = some ⟨ocN, odN, .func (PySem.W.fnOf "is_number" "is_number" (defArgs sNum) (defBody sNum) (defScope sNum) .none kVN dcN pmN anN cdN ctN), slN⟩) (wN : PySem.W.codeIn K cdN "is_number" = true) (kN : PySem.W.keepIn K (.ref fN) = true)
    (gE : PySem.W.nsIn K mainGlobals "is_letter" = some (some (.ref fE)))
    (lE : K.lookup fE = some ⟨ocE, odE, .func (PySem.W.fnOf "is_letter" "is_letter" (defArgs sLet) (defBody sLet) (defScope sLet) .none kVE dcE pmE anE cdE ctE), slE⟩) (wE : PySem.W.codeIn K cdE "is_letter" = true) (kE : PySem.W.keepIn K (.ref fE) = true)
    (gS : PySem.W.nsIn K mainGlobals "is_state" = some (some (.ref fS)))
    (lS : K.lookup fS = some ⟨ocS, odS, .func (PySem.W.fnOf "is_state" "is_state" (defArgs sState) (defBody sState) (defScope sState) .none kVS dcS pmS anS cdS ctS), slS⟩) (wS : PySem.W.codeIn K cdS "is_state" = true) (kS : PySem.W.keepIn K (.ref fS) = true)
    (gM : PySem.W.nsIn K mainGlobals "is_move" = some (some (.ref fM)))
    (lM : K.lookup fM = some ⟨ocM, odM, .func (PySem.W.fnOf "is_move" "is_move" (defArgs sMove) (defBody sMove) (defScope sMove) .none kVM dcM pmM anM cdM ctM), slM⟩) (wM : PySem.W.codeIn K cdM "is_move" = true) (kM : PySem.W.keepIn K (.ref fM) = true)
    (gC : PySem.W.nsIn K mainGlobals "check_moves" = some (some (.ref fC)))
    (lC : K.lookup fC = some ⟨ocC, odC, .func (PySem.W.fnOf "check_moves" "check_moves" (defArgs sMoves) (defBody sMoves) (defScope sMoves) .none kVC dcC pmC anC cdC ctC), slC⟩) (wC : PySem.W.codeIn K cdC "check_moves" = true) (kC : PySem.W.keepIn K (.ref fC) = true)
    (gX : PySem.W.nsIn K mainGlobals "check_ends" = some (some (.ref fX)))
    (lX : K.lookup fX = some ⟨ocX, odX, .func (PySem.W.fnOf "check_ends" "check_ends" (defArgs sEnds) (defBody sEnds) (defScope sEnds) .none kVX dcX pmX anX cdX ctX), slX⟩) (wX : PySem.W.codeIn K cdX "check_ends" = true) (kX : PySem.W.keepIn K (.ref fX) = true)
    (gR : PySem.W.nsIn K mainGlobals "reached" = some (some (.ref fR)))
    (lR : K.lookup fR = some ⟨ocR, odR, .func (PySem.W.fnOf "reached" "reached" (defArgs sReached) (defBody sReached) (defScope sReached) .none kVR dcR pmR anR cdR ctR), slR⟩) (wR : PySem.W.codeIn K cdR "reached" = true) (kR : PySem.W.keepIn K (.ref fR) = true)
    (gP : PySem.W.nsIn K mainGlobals "check_paths" = some (some (.ref fP)))
    (lP : K.lookup fP = some ⟨ocP, odP, .func (PySem.W.fnOf "check_paths" "check_paths" (defArgs sPaths) (defBody sPaths) (defScope sPaths) .none kVP dcP pmP anP cdP ctP), slP⟩) (wP : PySem.W.codeIn K cdP "check_paths" = true) (kP : PySem.W.keepIn K (.ref fP) = true)
    (gK : PySem.W.nsIn K mainGlobals "check_machine" = some (some (.ref fK)))
    (lK : K.lookup fK = some ⟨ocK, odK, .func (PySem.W.fnOf "check_machine" "check_machine" (defArgs sCheck) (defBody sCheck) (defScope sCheck) .none kVK dcK pmK anK cdK ctK), slK⟩) (wK : PySem.W.codeIn K cdK "check_machine" = true) (kK : PySem.W.keepIn K (.ref fK) = true)
    (gZ : PySem.W.nsIn K mainGlobals "is_word" = some (some (.ref fZ)))
    (lZ : K.lookup fZ = some ⟨ocZ, odZ, .func (PySem.W.fnOf "is_word" "is_word" (defArgs sWord) (defBody sWord) (defScope sWord) .none kVZ dcZ pmZ anZ cdZ ctZ), slZ⟩) (wZ : PySem.W.codeIn K cdZ "is_word" = true) (kZ : PySem.W.keepIn K (.ref fZ) = true)
    (gMt : PySem.W.nsIn K mainGlobals "met_numbers" = some (some (.ref fMt)))
    (lMt : K.lookup fMt = some ⟨ocMt, odMt, .func (PySem.W.fnOf "met_numbers" "met_numbers" (defArgs sMet) (defBody sMet) (defScope sMet) .none kVMt dcMt pmMt anMt cdMt ctMt), slMt⟩) (wMt : PySem.W.codeIn K cdMt "met_numbers" = true) (kMt : PySem.W.keepIn K (.ref fMt) = true)
    (gJ : PySem.W.nsIn K mainGlobals "joined_moves" = some (some (.ref fJ)))
    (lJ : K.lookup fJ = some ⟨ocJ, odJ, .func (PySem.W.fnOf "joined_moves" "joined_moves" (defArgs sJoin) (defBody sJoin) (defScope sJoin) .none kVJ dcJ pmJ anJ cdJ ctJ), slJ⟩) (wJ : PySem.W.codeIn K cdJ "joined_moves" = true) (kJ : PySem.W.keepIn K (.ref fJ) = true)
    (gRg : PySem.W.nsIn K mainGlobals "ring" = some (some (.ref fRg)))
    (lRg : K.lookup fRg = some ⟨ocRg, odRg, .func (PySem.W.fnOf "ring" "ring" (defArgs sRing) (defBody sRing) (defScope sRing) .none kVRg dcRg pmRg anRg cdRg ctRg), slRg⟩) (wRg : PySem.W.codeIn K cdRg "ring" = true) (kRg : PySem.W.keepIn K (.ref fRg) = true)
    (gCo : PySem.W.nsIn K mainGlobals "corridor" = some (some (.ref fCo)))
    (lCo : K.lookup fCo = some ⟨ocCo, odCo, .func (PySem.W.fnOf "corridor" "corridor" (defArgs sCorr) (defBody sCorr) (defScope sCorr) .none kVCo dcCo pmCo anCo cdCo ctCo), slCo⟩) (wCo : PySem.W.codeIn K cdCo "corridor" = true) (kCo : PySem.W.keepIn K (.ref fCo) = true)
    (gDk : PySem.W.nsIn K mainGlobals "_law_deck" = some (some (.ref fDk)))
    (lDk : K.lookup fDk = some ⟨ocDk, odDk, .func (PySem.W.fnOf "_law_deck" "_law_deck" (defArgs sDeck) (defBody sDeck) (defScope sDeck) .none kVDk dcDk pmDk anDk cdDk ctDk), slDk⟩) (wDk : PySem.W.codeIn K cdDk "_law_deck" = true) (kDk : PySem.W.keepIn K (.ref fDk) = true)
    (gDr : PySem.W.nsIn K mainGlobals "_law_draw" = some (some (.ref fDr)))
    (lDr : K.lookup fDr = some ⟨ocDr, odDr, .func (PySem.W.fnOf "_law_draw" "_law_draw" (defArgs sDraw) (defBody sDraw) (defScope sDraw) .none kVDr dcDr pmDr anDr cdDr ctDr), slDr⟩) (wDr : PySem.W.codeIn K cdDr "_law_draw" = true) (kDr : PySem.W.keepIn K (.ref fDr) = true)
    (gPi : PySem.W.nsIn K mainGlobals "_law_pick" = some (some (.ref fPi)))
    (lPi : K.lookup fPi = some ⟨ocPi, odPi, .func (PySem.W.fnOf "_law_pick" "_law_pick" (defArgs sPick) (defBody sPick) (defScope sPick) .none kVPi dcPi pmPi anPi cdPi ctPi), slPi⟩) (wPi : PySem.W.codeIn K cdPi "_law_pick" = true) (kPi : PySem.W.keepIn K (.ref fPi) = true)
    (gLd : PySem.W.nsIn K mainGlobals "_law_led" = some (some (.ref fLd)))
    (lLd : K.lookup fLd = some ⟨ocLd, odLd, .func (PySem.W.fnOf "_law_led" "_law_led" (defArgs sLed) (defBody sLed) (defScope sLed) .none kVLd dcLd pmLd anLd cdLd ctLd), slLd⟩) (wLd : PySem.W.codeIn K cdLd "_law_led" = true) (kLd : PySem.W.keepIn K (.ref fLd) = true)
    (gWo : PySem.W.nsIn K mainGlobals "_law_world" = some (some (.ref fWo)))
    (lWo : K.lookup fWo = some ⟨ocWo, odWo, .func (PySem.W.fnOf "_law_world" "_law_world" (defArgs sWorld) (defBody sWorld) (defScope sWorld) .none kVWo dcWo pmWo anWo cdWo ctWo), slWo⟩) (wWo : PySem.W.codeIn K cdWo "_law_world" = true) (kWo : PySem.W.keepIn K (.ref fWo) = true)
    (gCd : PySem.W.nsIn K mainGlobals "_law_code" = some (some (.ref fCd)))
    (lCd : K.lookup fCd = some ⟨ocCd, odCd, .func (PySem.W.fnOf "_law_code" "_law_code" (defArgs sLCode) (defBody sLCode) (defScope sLCode) .none kVCd dcCd pmCd anCd cdCd ctCd), slCd⟩) (wCd : PySem.W.codeIn K cdCd "_law_code" = true) (kCd : PySem.W.keepIn K (.ref fCd) = true)
    (gPn : PySem.W.nsIn K mainGlobals "_law_plain" = some (some (.ref fPn)))
    (lPn : K.lookup fPn = some ⟨ocPn, odPn, .func (PySem.W.fnOf "_law_plain" "_law_plain" (defArgs sLPlain) (defBody sLPlain) (defScope sLPlain) .none kVPn dcPn pmPn anPn cdPn ctPn), slPn⟩) (wPn : PySem.W.codeIn K cdPn "_law_plain" = true) (kPn : PySem.W.keepIn K (.ref fPn) = true)
    (gPa : PySem.W.nsIn K mainGlobals "_law_parts" = some (some (.ref fPa)))
    (lPa : K.lookup fPa = some ⟨ocPa, odPa, .func (PySem.W.fnOf "_law_parts" "_law_parts" (defArgs sLParts) (defBody sLParts) (defScope sLParts) .none kVPa dcPa pmPa anPa cdPa ctPa), slPa⟩) (wPa : PySem.W.codeIn K cdPa "_law_parts" = true) (kPa : PySem.W.keepIn K (.ref fPa) = true)
    (gGo : PySem.W.nsIn K mainGlobals "_law_goes" = some (some (.ref fGo)))
    (lGo : K.lookup fGo = some ⟨ocGo, odGo, .func (PySem.W.fnOf "_law_goes" "_law_goes" (defArgs sGoes) (defBody sGoes) (defScope sGoes) .none kVGo dcGo pmGo anGo cdGo ctGo), slGo⟩) (wGo : PySem.W.codeIn K cdGo "_law_goes" = true) (kGo : PySem.W.keepIn K (.ref fGo) = true)
    (gTk : PySem.W.nsIn K mainGlobals "_law_takes" = some (some (.ref fTk)))
    (lTk : K.lookup fTk = some ⟨ocTk, odTk, .func (PySem.W.fnOf "_law_takes" "_law_takes" (defArgs sTakes) (defBody sTakes) (defScope sTakes) .none kVTk dcTk pmTk anTk cdTk ctTk), slTk⟩) (wTk : PySem.W.codeIn K cdTk "_law_takes" = true) (kTk : PySem.W.keepIn K (.ref fTk) = true)
    (gTx : PySem.W.nsIn K mainGlobals "_law_texts" = some (some (.ref fTx)))
    (lTx : K.lookup fTx = some ⟨ocTx, odTx, .func (PySem.W.fnOf "_law_texts" "_law_texts" (defArgs sTexts) (defBody sTexts) (defScope sTexts) .none kVTx dcTx pmTx anTx cdTx ctTx), slTx⟩) (wTx : PySem.W.codeIn K cdTx "_law_texts" = true) (kTx : PySem.W.keepIn K (.ref fTx) = true)
    (gWi : PySem.W.nsIn K mainGlobals "_law_with" = some (some (.ref fWi)))
    (lWi : K.lookup fWi = some ⟨ocWi, odWi, .func (PySem.W.fnOf "_law_with" "_law_with" (defArgs sWith) (defBody sWith) (defScope sWith) .none kVWi dcWi pmWi anWi cdWi ctWi), slWi⟩) (wWi : PySem.W.codeIn K cdWi "_law_with" = true) (kWi : PySem.W.keepIn K (.ref fWi) = true)
    (gLj : PySem.W.nsIn K mainGlobals "_law_joined" = some (some (.ref fLj)))
    (lLj : K.lookup fLj = some ⟨ocLj, odLj, .func (PySem.W.fnOf "_law_joined" "_law_joined" (defArgs sLJoin) (defBody sLJoin) (defScope sLJoin) .none kVLj dcLj pmLj anLj cdLj ctLj), slLj⟩) (wLj : PySem.W.codeIn K cdLj "_law_joined" = true) (kLj : PySem.W.keepIn K (.ref fLj) = true)
    (gHd : PySem.W.nsIn K mainGlobals "_law_heard" = some (some (.ref fHd)))
    (lHd : K.lookup fHd = some ⟨ocHd, odHd, .func (PySem.W.fnOf "_law_heard" "_law_heard" (defArgs sHeard) (defBody sHeard) (defScope sHeard) .none kVHd dcHd pmHd anHd cdHd ctHd), slHd⟩) (wHd : PySem.W.codeIn K cdHd "_law_heard" = true) (kHd : PySem.W.keepIn K (.ref fHd) = true)
    (gMx : PySem.W.nsIn K mainGlobals "_law_is_mixed" = some (some (.ref fMx)))
    (lMx : K.lookup fMx = some ⟨ocMx, odMx, .func (PySem.W.fnOf "_law_is_mixed" "_law_is_mixed" (defArgs sMixed) (defBody sMixed) (defScope sMixed) .none kVMx dcMx pmMx anMx cdMx ctMx), slMx⟩) (wMx : PySem.W.codeIn K cdMx "_law_is_mixed" = true) (kMx : PySem.W.keepIn K (.ref fMx) = true)
    (gRt : PySem.W.nsIn K mainGlobals "_law_right" = some (some (.ref fRt)))
    (lRt : K.lookup fRt = some ⟨ocRt, odRt, .func (PySem.W.fnOf "_law_right" "_law_right" (defArgs sRight) (defBody sRight) (defScope sRight) .none kVRt dcRt pmRt anRt cdRt ctRt), slRt⟩) (wRt : PySem.W.codeIn K cdRt "_law_right" = true) (kRt : PySem.W.keepIn K (.ref fRt) = true)
    (gLw : PySem.W.nsIn K mainGlobals "law" = some (some (.ref fLw)))
    (lLw : K.lookup fLw = some ⟨ocLw, odLw, .func (PySem.W.fnOf "law" "law" (defArgs sLaw7) (defBody sLaw7) (defScope sLaw7) .none kVLw dcLw pmLw anLw cdLw ctLw), slLw⟩) (wLw : PySem.W.codeIn K cdLw "law" = true) (kLw : PySem.W.keepIn K (.ref fLw) = true)
    (gI : PySem.W.findIn K (.ref C) "__init__" = some (some (.ref fI))) (iI : PySem.W.isFn K (.ref fI) = true)
    (lI : K.lookup fI = some ⟨ocI, odI, .func (PySem.W.fnOf "__init__" "Machine.__init__" (defArgs sInit) (defBody sInit) (defScope sInit) .none kVI dcI pmI anI cdI ctI), slI⟩) (wI : PySem.W.codeIn K cdI "Machine.__init__" = true) (kI : PySem.W.keepIn K (.ref fI) = true)
    (gLn : PySem.W.findIn K (.ref C) "__len__" = some (some (.ref fLn))) (iLn : PySem.W.isFn K (.ref fLn) = true)
    (lLn : K.lookup fLn = some ⟨ocLn, odLn, .func (PySem.W.fnOf "__len__" "Machine.__len__" (defArgs sMLen) (defBody sMLen) (defScope sMLen) .none kVLn dcLn pmLn anLn cdLn ctLn), slLn⟩) (wLn : PySem.W.codeIn K cdLn "Machine.__len__" = true) (kLn : PySem.W.keepIn K (.ref fLn) = true)
    (gEq : PySem.W.findIn K (.ref C) "__eq__" = some (some (.ref fEq))) (iEq : PySem.W.isFn K (.ref fEq) = true)
    (lEq : K.lookup fEq = some ⟨ocEq, odEq, .func (PySem.W.fnOf "__eq__" "Machine.__eq__" (defArgs sEq) (defBody sEq) (defScope sEq) .none kVEq dcEq pmEq anEq cdEq ctEq), slEq⟩) (wEq : PySem.W.codeIn K cdEq "Machine.__eq__" = true) (kEq : PySem.W.keepIn K (.ref fEq) = true)
    (gAf : PySem.W.findIn K (.ref C) "after" = some (some (.ref fAf))) (iAf : PySem.W.isFn K (.ref fAf) = true)
    (lAf : K.lookup fAf = some ⟨ocAf, odAf, .func (PySem.W.fnOf "after" "Machine.after" (defArgs sAfter) (defBody sAfter) (defScope sAfter) .none kVAf dcAf pmAf anAf cdAf ctAf), slAf⟩) (wAf : PySem.W.codeIn K cdAf "Machine.after" = true) (kAf : PySem.W.keepIn K (.ref fAf) = true)
    (gSo : PySem.W.findIn K (.ref C) "state_of" = some (some (.ref fSo))) (iSo : PySem.W.isFn K (.ref fSo) = true)
    (lSo : K.lookup fSo = some ⟨ocSo, odSo, .func (PySem.W.fnOf "state_of" "Machine.state_of" (defArgs sStateOf) (defBody sStateOf) (defScope sStateOf) .none kVSo dcSo pmSo anSo cdSo ctSo), slSo⟩) (wSo : PySem.W.codeIn K cdSo "Machine.state_of" = true) (kSo : PySem.W.keepIn K (.ref fSo) = true)
    (gCt : PySem.W.findIn K (.ref C) "__contains__" = some (some (.ref fCt))) (iCt : PySem.W.isFn K (.ref fCt) = true)
    (lCt : K.lookup fCt = some ⟨ocCt, odCt, .func (PySem.W.fnOf "__contains__" "Machine.__contains__" (defArgs sCont) (defBody sCont) (defScope sCont) .none kVCt dcCt pmCt anCt cdCt ctCt), slCt⟩) (wCt : PySem.W.codeIn K cdCt "Machine.__contains__" = true) (kCt : PySem.W.keepIn K (.ref fCt) = true)
    (gNb : PySem.W.findIn K (.ref C) "numbered" = some (some (.ref fNb))) (iNb : PySem.W.isFn K (.ref fNb) = true)
    (lNb : K.lookup fNb = some ⟨ocNb, odNb, .func (PySem.W.fnOf "numbered" "Machine.numbered" (defArgs sNumbered) (defBody sNumbered) (defScope sNumbered) .none kVNb dcNb pmNb anNb cdNb ctNb), slNb⟩) (wNb : PySem.W.codeIn K cdNb "Machine.numbered" = true) (kNb : PySem.W.keepIn K (.ref fNb) = true)
    (gSm : PySem.W.findIn K (.ref C) "is_same" = some (some (.ref fSm))) (iSm : PySem.W.isFn K (.ref fSm) = true)
    (lSm : K.lookup fSm = some ⟨ocSm, odSm, .func (PySem.W.fnOf "is_same" "Machine.is_same" (defArgs sSame) (defBody sSame) (defScope sSame) .none kVSm dcSm pmSm anSm cdSm ctSm), slSm⟩) (wSm : PySem.W.codeIn K cdSm "Machine.is_same" = true) (kSm : PySem.W.keepIn K (.ref fSm) = true)
    (gAn : PySem.W.findIn K (.ref C) "__and__" = some (some (.ref fAn))) (iAn : PySem.W.isFn K (.ref fAn) = true)
    (lAn : K.lookup fAn = some ⟨ocAn, odAn, .func (PySem.W.fnOf "__and__" "Machine.__and__" (defArgs sAnd) (defBody sAnd) (defScope sAnd) .none kVAn dcAn pmAn anAn cdAn ctAn), slAn⟩) (wAn : PySem.W.codeIn K cdAn "Machine.__and__" = true) (kAn : PySem.W.keepIn K (.ref fAn) = true)
    (gRn : PySem.W.findIn K (.ref C) "renamed" = some (some (.ref fRn))) (iRn : PySem.W.isFn K (.ref fRn) = true)
    (lRn : K.lookup fRn = some ⟨ocRn, odRn, .func (PySem.W.fnOf "renamed" "Machine.renamed" (defArgs sRen) (defBody sRen) (defScope sRen) .none kVRn dcRn pmRn anRn cdRn ctRn), slRn⟩) (wRn : PySem.W.codeIn K cdRn "Machine.renamed" = true) (kRn : PySem.W.keepIn K (.ref fRn) = true)
    (zisi : PySem.W.nsIn K mainGlobals "isinstance" = some none)
    (zint : PySem.W.nsIn K mainGlobals "int" = some none)
    (zbool : PySem.W.nsIn K mainGlobals "bool" = some none)
    (zstr : PySem.W.nsIn K mainGlobals "str" = some none)
    (ztup : PySem.W.nsIn K mainGlobals "tuple" = some none)
    (zlen : PySem.W.nsIn K mainGlobals "len" = some none)
    (zlst : PySem.W.nsIn K mainGlobals "list" = some none)
    (zsrt : PySem.W.nsIn K mainGlobals "sorted" = some none)
    (zset : PySem.W.nsIn K mainGlobals "set" = some none)
    (zrng : PySem.W.nsIn K mainGlobals "range" = some none)
    (zall : PySem.W.nsIn K mainGlobals "all" = some none)
    (zrepr : PySem.W.nsIn K mainGlobals "repr" = some none)
    (zdict : PySem.W.nsIn K mainGlobals "dict" = some none)
    : ∃ fd : FuncData, (∀ (s : Shared) (v : Value), BindsTo s fd ⟨[v], []⟩ [("_law_script", v)]) ∧ ∀ base : Heap, K.In base → base.Ns mainGlobals mg → FnG l.prog w K mg base CX0 11 fa fd ["_law_script"] (spLaw7 K) := by
  have e := hfa.symm.trans (PySem.W.mg_of X G gLw)
  cases e
  obtain ⟨cl, IC, mkC, kpC, nf, M⟩ := cls8_of hall
  have T : Txt8 K mg := ⟨PySem.W.mg_none_of X G zisi, PySem.W.mg_none_of X G zint, PySem.W.mg_none_of X G zbool, PySem.W.mg_none_of X G zstr, PySem.W.mg_none_of X G ztup, PySem.W.mg_none_of X G zlen, PySem.W.mg_none_of X G zlst, PySem.W.mg_none_of X G zsrt, PySem.W.mg_none_of X G zset, PySem.W.mg_none_of X G zrng⟩
  have gMC := PySem.W.mg_of X G aC
  have gSL := PySem.W.mg_of X G aE
  have gLE := PySem.W.mg_of X G aL
  have TK := ecK_of hE
  have TU : EcI K CE e0 "letter" := ⟨n0, i0, t0, by decide, by decide, ⟨_, _, _, _, _, _, _, _, _, _, _, _, _, _, _, x0, y0⟩, fun _ _ _ _ _ _ _ _ _ _ _ _ _ _ => rfl, fun _ _ _ _ _ _ _ _ _ _ _ _ _ _ => rfl⟩
  have FN := fun_mk (st := sNum) lN wN kN
  have BN := FN.binds (ps := ["thing"]) fun _ _ _ _ _ _ us hl => match us, hl with | [_], _ => rfl
  have mN := PySem.W.mg_of X G gN
  have FE := fun_mk (st := sLet) lE wE kE
  have BE := FE.binds (ps := ["thing"]) fun _ _ _ _ _ _ us hl => match us, hl with | [_], _ => rfl
  have mE := PySem.W.mg_of X G gE
  have FS := fun_mk (st := sState) lS wS kS
  have BS := FS.binds (ps := ["thing", "size"]) fun _ _ _ _ _ _ us hl => match us, hl with | [_, _], _ => rfl
  have mS := PySem.W.mg_of X G gS
  have FM := fun_mk (st := sMove) lM wM kM
  have BM := FM.binds (ps := ["thing", "size"]) fun _ _ _ _ _ _ us hl => match us, hl with | [_, _], _ => rfl
  have mM := PySem.W.mg_of X G gM
  have FC := fun_mk (st := sMoves) lC wC kC
  have BC := FC.binds (ps := ["size", "moves"]) fun _ _ _ _ _ _ us hl => match us, hl with | [_, _], _ => rfl
  have mC := PySem.W.mg_of X G gC
  have FX := fun_mk (st := sEnds) lX wX kX
  have BX := FX.binds (ps := ["moves", "end"]) fun _ _ _ _ _ _ us hl => match us, hl with | [_, _], _ => rfl
  have mX := PySem.W.mg_of X G gX
  have FR := fun_mk (st := sReached) lR wR kR
  have BR := FR.binds (ps := ["size", "start", "steps"]) fun _ _ _ _ _ _ us hl => match us, hl with | [_, _, _], _ => rfl
  have mR := PySem.W.mg_of X G gR
  have FP := fun_mk (st := sPaths) lP wP kP
  have BP := FP.binds (ps := ["size", "first", "last", "moves"]) fun _ _ _ _ _ _ us hl => match us, hl with | [_, _, _, _], _ => rfl
  have mP := PySem.W.mg_of X G gP
  have FK := fun_mk (st := sCheck) lK wK kK
  have BK := FK.binds (ps := ["size", "first", "last", "moves"]) fun _ _ _ _ _ _ us hl => match us, hl with | [_, _, _, _], _ => rfl
  have mK := PySem.W.mg_of X G gK
  have FZ := fun_mk (st := sWord) lZ wZ kZ
  have BZ := FZ.binds (ps := ["thing"]) fun _ _ _ _ _ _ us hl => match us, hl with | [_], _ => rfl
  have mZ := PySem.W.mg_of X G gZ
  have FMt := fun_mk (st := sMet) lMt wMt kMt
  have BMt := FMt.binds (ps := ["machine"]) fun _ _ _ _ _ _ us hl => match us, hl with | [_], _ => rfl
  have mMt := PySem.W.mg_of X G gMt
  have FJ := fun_mk (st := sJoin) lJ wJ kJ
  have BJ := FJ.binds (ps := ["machine", "other"]) fun _ _ _ _ _ _ us hl => match us, hl with | [_, _], _ => rfl
  have mJ := PySem.W.mg_of X G gJ
  have FRg := fun_mk (st := sRing) lRg wRg kRg
  have BRg := FRg.binds (ps := ["size"]) fun _ _ _ _ _ _ us hl => match us, hl with | [_], _ => rfl
  have mRg := PySem.W.mg_of X G gRg
  have FCo := fun_mk (st := sCorr) lCo wCo kCo
  have BCo := FCo.binds (ps := ["size"]) fun _ _ _ _ _ _ us hl => match us, hl with | [_], _ => rfl
  have mCo := PySem.W.mg_of X G gCo
  have FDk := fun_mk (st := sDeck) lDk wDk kDk
  have BDk := FDk.binds (ps := ["_law_script"]) fun _ _ _ _ _ _ us hl => match us, hl with | [_], _ => rfl
  have mDk := PySem.W.mg_of X G gDk
  have FDr := fun_mk (st := sDraw) lDr wDr kDr
  have BDr := FDr.binds (ps := ["_law_deck_here", "_law_below"]) fun _ _ _ _ _ _ us hl => match us, hl with | [_, _], _ => rfl
  have mDr := PySem.W.mg_of X G gDr
  have FPi := fun_mk (st := sPick) lPi wPi kPi
  have BPi := FPi.binds (ps := ["_law_deck_here", "_law_menu"]) fun _ _ _ _ _ _ us hl => match us, hl with | [_, _], _ => rfl
  have mPi := PySem.W.mg_of X G gPi
  have FLd := fun_mk (st := sLed) lLd wLd kLd
  have BLd := FLd.binds (ps := ["_law_begin", "_law_pairs"]) fun _ _ _ _ _ _ us hl => match us, hl with | [_, _], _ => rfl
  have mLd := PySem.W.mg_of X G gLd
  have FWo := fun_mk (st := sWorld) lWo wWo kWo
  have BWo := FWo.binds (ps := ["_law_deck_here", "_law_top", "_law_many"]) fun _ _ _ _ _ _ us hl => match us, hl with | [_, _, _], _ => rfl
  have mWo := PySem.W.mg_of X G gWo
  have FCd := fun_mk (st := sLCode) lCd wCd kCd
  have BCd := FCd.binds (ps := ["_law_w"]) fun _ _ _ _ _ _ us hl => match us, hl with | [_], _ => rfl
  have mCd := PySem.W.mg_of X G gCd
  have FPn := fun_mk (st := sLPlain) lPn wPn kPn
  have BPn := FPn.binds (ps := ["_law_w"]) fun _ _ _ _ _ _ us hl => match us, hl with | [_], _ => rfl
  have mPn := PySem.W.mg_of X G gPn
  have FPa := fun_mk (st := sLParts) lPa wPa kPa
  have BPa := FPa.binds (ps := ["_law_it"]) fun _ _ _ _ _ _ us hl => match us, hl with | [_], _ => rfl
  have mPa := PySem.W.mg_of X G gPa
  have FGo := fun_mk (st := sGoes) lGo wGo kGo
  have BGo := FGo.binds (ps := ["_law_w", "_law_here", "_law_word"]) fun _ _ _ _ _ _ us hl => match us, hl with | [_, _, _], _ => rfl
  have mGo := PySem.W.mg_of X G gGo
  have FTk := fun_mk (st := sTakes) lTk wTk kTk
  have BTk := FTk.binds (ps := ["_law_w", "_law_word"]) fun _ _ _ _ _ _ us hl => match us, hl with | [_, _], _ => rfl
  have mTk := PySem.W.mg_of X G gTk
  have FTx := fun_mk (st := sTexts) lTx wTx kTx
  have BTx := FTx.binds (ps := ["_law_signs", "_law_top"]) fun _ _ _ _ _ _ us hl => match us, hl with | [_, _], _ => rfl
  have mTx := PySem.W.mg_of X G gTx
  have FWi := fun_mk (st := sWith) lWi wWi kWi
  have BWi := FWi.binds (ps := ["_law_w", "_law_signs"]) fun _ _ _ _ _ _ us hl => match us, hl with | [_, _], _ => rfl
  have mWi := PySem.W.mg_of X G gWi
  have FLj := fun_mk (st := sLJoin) lLj wLj kLj
  have BLj := FLj.binds (ps := ["_law_w", "_law_v"]) fun _ _ _ _ _ _ us hl => match us, hl with | [_, _], _ => rfl
  have mLj := PySem.W.mg_of X G gLj
  have FHd := fun_mk (st := sHeard) lHd wHd kHd
  have BHd := FHd.binds (ps := ["_law_near", "_law_far"]) fun _ _ _ _ _ _ us hl => match us, hl with | [_, _], _ => rfl
  have mHd := PySem.W.mg_of X G gHd
  have FMx := fun_mk (st := sMixed) lMx wMx kMx
  have BMx := FMx.binds (ps := ["_law_w", "_law_v", "_law_word"]) fun _ _ _ _ _ _ us hl => match us, hl with | [_, _, _], _ => rfl
  have mMx := PySem.W.mg_of X G gMx
  have FRt := fun_mk (st := sRight) lRt wRt kRt
  have BRt := FRt.binds (ps := ["_law_deck_here", "_law_w", "_law_v", "_law_u"]) fun _ _ _ _ _ _ us hl => match us, hl with | [_, _, _, _], _ => rfl
  have mRt := PySem.W.mg_of X G gRt
  have FLw := fun_mk (st := sLaw7) lLw wLw kLw
  have mLw := PySem.W.mg_of X G gLw
  have FI := fun_mk (st := sInit) lI wI kI
  have BI := FI.binds (ps := ["self", "size", "first", "last", "moves"]) fun _ _ _ _ _ _ us hl => match us, hl with | [_, _, _, _, _], _ => rfl
  have FLn := fun_mk (st := sMLen) lLn wLn kLn
  have BLn := FLn.binds (ps := ["self"]) fun _ _ _ _ _ _ us hl => match us, hl with | [_], _ => rfl
  have FEq := fun_mk (st := sEq) lEq wEq kEq
  have BEq := FEq.binds (ps := ["self", "other"]) fun _ _ _ _ _ _ us hl => match us, hl with | [_, _], _ => rfl
  have FAf := fun_mk (st := sAfter) lAf wAf kAf
  have BAf := FAf.binds (ps := ["self", "state", "letter"]) fun _ _ _ _ _ _ us hl => match us, hl with | [_, _, _], _ => rfl
  have FSo := fun_mk (st := sStateOf) lSo wSo kSo
  have BSo := FSo.binds (ps := ["self", "word"]) fun _ _ _ _ _ _ us hl => match us, hl with | [_, _], _ => rfl
  have FCt := fun_mk (st := sCont) lCt wCt kCt
  have BCt := FCt.binds (ps := ["self", "word"]) fun _ _ _ _ _ _ us hl => match us, hl with | [_, _], _ => rfl
  have FNb := fun_mk (st := sNumbered) lNb wNb kNb
  have BNb := FNb.binds (ps := ["self"]) fun _ _ _ _ _ _ us hl => match us, hl with | [_], _ => rfl
  have FSm := fun_mk (st := sSame) lSm wSm kSm
  have BSm := FSm.binds (ps := ["self", "other"]) fun _ _ _ _ _ _ us hl => match us, hl with | [_, _], _ => rfl
  have FAn := fun_mk (st := sAnd) lAn wAn kAn
  have BAn := FAn.binds (ps := ["self", "other"]) fun _ _ _ _ _ _ us hl => match us, hl with | [_, _], _ => rfl
  have FRn := fun_mk (st := sRen) lRn wRn kRn
  have mRn : Meth K C "renamed" fRn := ⟨gRn, iRn, kRn⟩
  have MK : L2.Mk K C fI := ⟨mkC, gI, iI, kpC⟩
  refine ⟨PySem.W.fnOf "law" "law" (defArgs sLaw7) (defBody sLaw7) (defScope sLaw7) .none kVLw dcLw pmLw anLw cdLw ctLw, fun s v => .of_eq rfl, fun base _ _ => ?_⟩
  have GM := ok_move (P := l.prog) (w := w) (mg := mg) (base := base) FM T FN mN BN FS mS BS FE mE BE
  obtain ⟨fd0, _⟩ : ∃ fd0 : FuncData, fd0 = fd0 := ⟨PySem.W.fnOf "law" "law" (defArgs sLaw7) (defBody sLaw7) (defScope sLaw7) .none kVLw dcLw pmLw anLw cdLw ctLw, rfl⟩
  have GC := ok_moves (fN := fN) (fS := fN) (fE := fN) (fdN := fd0) (fdS := fd0) (fdE := fd0) FC T FM mM BM GM
  have GP := ok_paths (P := l.prog) (w := w) (mg := mg) (base := base) FP T FR mR BR
  have hmost := PySem.W.mg_of X G aMost
  have GK := ok_check FK T hmost FN mN BN FS mS BS FC mC BC GC FX mX BX FP mP BP GP
  have GI := ok_init FI T M FK mK BK GK
  have GAf := ok_after (P := l.prog) (w := w) (mg := mg) (base := base) FAf M
  have GZ := ok_word (P := l.prog) (w := w) (mg := mg) (base := base) FZ T (PySem.W.mg_none_of X G zall) FE mE BE
  have mAf : Meth K C "after" fAf := ⟨gAf, iAf, kAf⟩
  have mSo : Meth K C "state_of" fSo := ⟨gSo, iSo, kSo⟩
  have GSo := ok_stateof (P := l.prog) (w := w) (mg := mg) (base := base) FSo M mAf FAf BAf
  have GCt := ok_cont (P := l.prog) (w := w) (mg := mg) (base := base) FCt M FZ mZ BZ GZ mSo FSo BSo GSo
  have GLn := ok_mlen (P := l.prog) (w := w) (mg := mg) (base := base) FLn T M
  have GEq := ok_eqA (P := l.prog) (w := w) (mg := mg) (base := base) FEq T M IC gMC
  have GMt := ok_met (P := l.prog) (w := w) (mg := mg) (base := base) FMt T M mAf FAf BAf
  have GNb := ok_numbered FNb T M gMC MK BI GI GMt mMt kMt BMt
  have mNb : Meth K C "numbered" fNb := ⟨gNb, iNb, kNb⟩
  have mSm : Meth K C "is_same" fSm := ⟨gSm, iSm, kSm⟩
  have GSm := ok_same FSm M GNb mNb BNb GEq gEq iEq BEq nf
  have GAn := ok_and FAn T M IC gMC MK BI GI TK TU gSL FJ mJ BJ
  have GRn := ok_ren (ks := ["a"]) (by decide) (by decide) FRn T M gMC MK BI GI (fun u ws hl => match ws, hl with | [_], _ => rfl)
  have GRg := ok_ring FRg T MK gMC BI GI
  have GCo := ok_corr FCo T MK gMC BI GI
  have GDk := ok_deck (P := l.prog) (w := w) (mg := mg) (base := base) FDk T.int
  have GDr := ok_draw (P := l.prog) (w := w) (mg := mg) (base := base) FDr T.int
  have GPi := ok_pickS FPi FDr mDr BDr GDr T.len
  have GPl := ok_pickL FPi FDr mDr BDr GDr T.len
  have GLd := ok_led (P := l.prog) (w := w) (mg := mg) (base := base) FLd T
  have GWo := ok_world FWo T GDr mDr kDr BDr GPi GPl mPi kPi BPi GLd mLd kLd BLd
  have GCd := ok_code FCd MK gMC BI GI
  have GPn := ok_plainG (P := l.prog) (w := w) (mg := mg) (base := base) FPn
  have GPa := ok_lparts (P := l.prog) (w := w) (mg := mg) (base := base) FPa M
  have GTk := ok_takes (P := l.prog) (w := w) (mg := mg) (base := base) FTk FGo mGo BGo
  have GTx := ok_texts (P := l.prog) (w := w) (mg := mg) (base := base) FTx T
  have GWi := ok_with (P := l.prog) (w := w) (mg := mg) (base := base) FWi T (PySem.W.mg_none_of X G zdict)
  have GLj := ok_ljoin (P := l.prog) (w := w) (mg := mg) (base := base) FLj T
  have GMx := ok_mixed FMx T GTk mTk kTk BTk
  have GHd := ok_heard FHd T TK gSL n0 mE0 gLE hkL GAn hsf gAn iAn BAn
  have GRt := ok_right FRt T (PySem.W.mg_none_of X G zrepr) M GCd mCd kCd BCd GAn hsf gAn iAn BAn GPa mPa kPa BPa GPn mPn kPn BPn GLj mLj kLj BLj GSm mSm BSm GTx mTx kTx BTx GDr mDr kDr BDr GPl mPi kPi BPi GMx mMx kMx BMx GCt gCt iCt BCt GEq gEq iEq BEq nf
  exact ok_law7 FLw T (PySem.W.mg_none_of X G zrepr) M IC MK gMC BI GI GDk mDk kDk BDk GWo mWo kWo BWo GRt mRt kRt BRt GWi mWi kWi BWi GHd mHd kHd BHd GCd mCd kCd BCd GCo mCo kCo BCo GRg mRg kRg BRg GRn mRn GAn hsf gAn iAn BAn GPa mPa kPa BPa GCt gCt iCt BCt GLn gLn iLn BLn
end Vk
set_option Elab.async false
open PySem PySem.W PyProof.Rows
set_option maxRecDepth 100000 in
set_option maxHeartbeats 0 in
theorem PySem.Challenge.cw_loopsdeep_k07_machines_joined_holds : PySem.Challenge.rw_loopsdeep_k07_machines_joined.Holds := by
  w_on; o_law; k_head; (case hw => w_witness2)
  k_fill
  refine Vk.walkG (l := PySem.Challenge.rw_loopsdeep_k07_machines_joined) (n := 63) (k := 11) (x := "_law_script") (CX := fun _ => L2.CX0) (sp := fun w => Vk.spLaw7 _) rfl (by decide) rfl ⟨rfl, by decide, by decide⟩ (fun w h Y => PySem.W.kIn_of Y) ?F (fun _ _ a ns hl _ hS => ⟨a, ns, rfl, hS, hl, fun _ => rfl⟩) (fun _ _ _ _ _ z => z)
  case F =>
    intro w mg fa h KX G hmg
    refine' Vk.all8_mk KX G hmg ?v_aC ?v_hall ?v_aMost ?v_aE ?v_hE ?v_mE0 ?v_aL ?v_hkL ?v_hsf ?v_n0 ?v_i0 ?v_t0 ?v_x0 ?v_y0 ?v_gN ?v_lN ?v_wN ?v_kN ?v_gE ?v_lE ?v_wE ?v_kE ?v_gS ?v_lS ?v_wS ?v_kS ?v_gM ?v_lM ?v_wM ?v_kM ?v_gC ?v_lC ?v_wC ?v_kC ?v_gX ?v_lX ?v_wX ?v_kX ?v_gR ?v_lR ?v_wR ?v_kR ?v_gP ?v_lP ?v_wP ?v_kP ?v_gK ?v_lK ?v_wK ?v_kK ?v_gZ ?v_lZ ?v_wZ ?v_kZ ?v_gMt ?v_lMt ?v_wMt ?v_kMt ?v_gJ ?v_lJ ?v_wJ ?v_kJ ?v_gRg ?v_lRg ?v_wRg ?v_kRg ?v_gCo ?v_lCo ?v_wCo ?v_kCo ?v_gDk ?v_lDk ?v_wDk ?v_kDk ?v_gDr ?v_lDr ?v_wDr ?v_kDr ?v_gPi ?v_lPi ?v_wPi ?v_kPi ?v_gLd ?v_lLd ?v_wLd ?v_kLd ?v_gWo ?v_lWo ?v_wWo ?v_kWo ?v_gCd ?v_lCd ?v_wCd ?v_kCd ?v_gPn ?v_lPn ?v_wPn ?v_kPn ?v_gPa ?v_lPa ?v_wPa ?v_kPa ?v_gGo ?v_lGo ?v_wGo ?v_kGo ?v_gTk ?v_lTk ?v_wTk ?v_kTk ?v_gTx ?v_lTx ?v_wTx ?v_kTx ?v_gWi ?v_lWi ?v_wWi ?v_kWi ?v_gLj ?v_lLj ?v_wLj ?v_kLj ?v_gHd ?v_lHd ?v_wHd ?v_kHd ?v_gMx ?v_lMx ?v_wMx ?v_kMx ?v_gRt ?v_lRt ?v_wRt ?v_kRt ?v_gLw ?v_lLw ?v_wLw ?v_kLw ?v_gI ?v_iI ?v_lI ?v_wI ?v_kI ?v_gLn ?v_iLn ?v_lLn ?v_wLn ?v_kLn ?v_gEq ?v_iEq ?v_lEq ?v_wEq ?v_kEq ?v_gAf ?v_iAf ?v_lAf ?v_wAf ?v_kAf ?v_gSo ?v_iSo ?v_lSo ?v_wSo ?v_kSo ?v_gCt ?v_iCt ?v_lCt ?v_wCt ?v_kCt ?v_gNb ?v_iNb ?v_lNb ?v_wNb ?v_kNb ?v_gSm ?v_iSm ?v_lSm ?v_wSm ?v_kSm ?v_gAn ?v_iAn ?v_lAn ?v_wAn ?v_kAn ?v_gRn ?v_iRn ?v_lRn ?v_wRn ?v_kRn ?v_zisi ?v_zint ?v_zbool ?v_zstr ?v_ztup ?v_zlen ?v_zlst ?v_zsrt ?v_zset ?v_zrng ?v_zall ?v_zrepr ?v_zdict
    (case v_aC => k_is)
    (case v_hall => kernel_rfl)
    (case v_aMost => k_is)
    (case v_aE => k_is)
    (case v_hE => kernel_rfl)
    (case v_mE0 => kernel_rfl)
    (case v_aL => k_is)
    (case v_hkL => kernel_rfl)
    (case v_hsf => kernel_rfl)
    (case v_n0 => k_is)
    (case v_i0 => k_is)
    (case v_t0 => k_is)
    (case v_x0 => k_is)
    (case v_y0 => k_is)
    (case v_gN => k_is)
    (case v_lN => k_is)
    (case v_wN => k_is)
    (case v_kN => k_is)
    (case v_gE => k_is)
    (case v_lE => k_is)
    (case v_wE => k_is)
    (case v_kE => k_is)
    (case v_gS => k_is)
    (case v_lS => k_is)
    (case v_wS => k_is)
    (case v_kS => k_is)
    (case v_gM => k_is)
    (case v_lM => k_is)
    (case v_wM => k_is)
    (case v_kM => k_is)
    (case v_gC => k_is)
    (case v_lC => k_is)
    (case v_wC => k_is)
    (case v_kC => k_is)
    (case v_gX => k_is)
    (case v_lX => k_is)
    (case v_wX => k_is)
    (case v_kX => k_is)
    (case v_gR => k_is)
    (case v_lR => k_is)
    (case v_wR => k_is)
    (case v_kR => k_is)
    (case v_gP => k_is)
    (case v_lP => k_is)
    (case v_wP => k_is)
    (case v_kP => k_is)
    (case v_gK => k_is)
    (case v_lK => k_is)
    (case v_wK => k_is)
    (case v_kK => k_is)
    (case v_gZ => k_is)
    (case v_lZ => k_is)
    (case v_wZ => k_is)
    (case v_kZ => k_is)
    (case v_gMt => k_is)
    (case v_lMt => k_is)
    (case v_wMt => k_is)
    (case v_kMt => k_is)
    (case v_gJ => k_is)
    (case v_lJ => k_is)
    (case v_wJ => k_is)
    (case v_kJ => k_is)
    (case v_gRg => k_is)
    (case v_lRg => k_is)
    (case v_wRg => k_is)
    (case v_kRg => k_is)
    (case v_gCo => k_is)
    (case v_lCo => k_is)
    (case v_wCo => k_is)
    (case v_kCo => k_is)
    (case v_gDk => k_is)
    (case v_lDk => k_is)
    (case v_wDk => k_is)
    (case v_kDk => k_is)
    (case v_gDr => k_is)
    (case v_lDr => k_is)
    (case v_wDr => k_is)
    (case v_kDr => k_is)
    (case v_gPi => k_is)
    (case v_lPi => k_is)
    (case v_wPi => k_is)
    (case v_kPi => k_is)
    (case v_gLd => k_is)
    (case v_lLd => k_is)
    (case v_wLd => k_is)
    (case v_kLd => k_is)
    (case v_gWo => k_is)
    (case v_lWo => k_is)
    (case v_wWo => k_is)
    (case v_kWo => k_is)
    (case v_gCd => k_is)
    (case v_lCd => k_is)
    (case v_wCd => k_is)
    (case v_kCd => k_is)
    (case v_gPn => k_is)
    (case v_lPn => k_is)
    (case v_wPn => k_is)
    (case v_kPn => k_is)
    (case v_gPa => k_is)
    (case v_lPa => k_is)
    (case v_wPa => k_is)
    (case v_kPa => k_is)
    (case v_gGo => k_is)
    (case v_lGo => k_is)
    (case v_wGo => k_is)
    (case v_kGo => k_is)
    (case v_gTk => k_is)
    (case v_lTk => k_is)
    (case v_wTk => k_is)
    (case v_kTk => k_is)
    (case v_gTx => k_is)
    (case v_lTx => k_is)
    (case v_wTx => k_is)
    (case v_kTx => k_is)
    (case v_gWi => k_is)
    (case v_lWi => k_is)
    (case v_wWi => k_is)
    (case v_kWi => k_is)
    (case v_gLj => k_is)
    (case v_lLj => k_is)
    (case v_wLj => k_is)
    (case v_kLj => k_is)
    (case v_gHd => k_is)
    (case v_lHd => k_is)
    (case v_wHd => k_is)
    (case v_kHd => k_is)
    (case v_gMx => k_is)
    (case v_lMx => k_is)
    (case v_wMx => k_is)
    (case v_kMx => k_is)
    (case v_gRt => k_is)
    (case v_lRt => k_is)
    (case v_wRt => k_is)
    (case v_kRt => k_is)
    (case v_gLw => k_is)
    (case v_lLw => k_is)
    (case v_wLw => k_is)
    (case v_kLw => k_is)
    (case v_gI => k_is)
    (case v_iI => k_is)
    (case v_lI => k_is)
    (case v_wI => k_is)
    (case v_kI => k_is)
    (case v_gLn => k_is)
    (case v_iLn => k_is)
    (case v_lLn => k_is)
    (case v_wLn => k_is)
    (case v_kLn => k_is)
    (case v_gEq => k_is)
    (case v_iEq => k_is)
    (case v_lEq => k_is)
    (case v_wEq => k_is)
    (case v_kEq => k_is)
    (case v_gAf => k_is)
    (case v_iAf => k_is)
    (case v_lAf => k_is)
    (case v_wAf => k_is)
    (case v_kAf => k_is)
    (case v_gSo => k_is)
    (case v_iSo => k_is)
    (case v_lSo => k_is)
    (case v_wSo => k_is)
    (case v_kSo => k_is)
    (case v_gCt => k_is)
    (case v_iCt => k_is)
    (case v_lCt => k_is)
    (case v_wCt => k_is)
    (case v_kCt => k_is)
    (case v_gNb => k_is)
    (case v_iNb => k_is)
    (case v_lNb => k_is)
    (case v_wNb => k_is)
    (case v_kNb => k_is)
    (case v_gSm => k_is)
    (case v_iSm => k_is)
    (case v_lSm => k_is)
    (case v_wSm => k_is)
    (case v_kSm => k_is)
    (case v_gAn => k_is)
    (case v_iAn => k_is)
    (case v_lAn => k_is)
    (case v_wAn => k_is)
    (case v_kAn => k_is)
    (case v_gRn => k_is)
    (case v_iRn => k_is)
    (case v_lRn => k_is)
    (case v_wRn => k_is)
    (case v_kRn => k_is)
    (case v_zisi => k_is)
    (case v_zint => k_is)
    (case v_zbool => k_is)
    (case v_zstr => k_is)
    (case v_ztup => k_is)
    (case v_zlen => k_is)
    (case v_zlst => k_is)
    (case v_zsrt => k_is)
    (case v_zset => k_is)
    (case v_zrng => k_is)
    (case v_zall => k_is)
    (case v_zrepr => k_is)
    (case v_zdict => k_is)
#print axioms PySem.Challenge.cw_loopsdeep_k07_machines_joined_holds
