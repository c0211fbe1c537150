import PyProof.Rows.All
import Wide.All
import OpenK.AllK
import Wide.FinOn
import KE.KExcIs
import HandS.ForMost
import HandS.Exc
import HandS.ExcOwn
import HandS.ExcValue
import HandS.Style
import PyProof.InstNe
import KE.KCallOwn
import HandS.OwnEq
import HandS.TupSets
import PyProof.StrWalks
import PyProof.WalksS
import KE.SortData
import HandS.Set
import HandS.SetFor
import HandS.SetTxt0
import HandS.SetKeys
import HandS.DictComp
import PyProof.StrLawsChain
import PyProof.StrLawsIn
import PyProof.FitsReplace
import HandS.ClsMeth
import HandS.WordsExc
import HandS.IsInst
import PyProof.CallFns
import HandS.RaiseMore
import HandS.ExcIs
import HandS.ExcField
import HandS.TryMany
import PyProof.NeKinds
import PyProof.EqAt
import HandS.TupAny
import KE.DataMinMax
import HandS.SortKw
import HandS.Codes
import HandS.Defaults
import PyProof.EnumMake
import PyProof.Draws
import KE.GoesMore
import HandS.Iter
import HandS.More
import HandS.Flow
import HandS.Conv
import PySem.Challenge.RW_loopsdeep_k11_texts_that_are_no_expressi
set_option Elab.async false
set_option linter.all false
set_option maxRecDepth 100000
set_option maxHeartbeats 4000000
namespace PySem
namespace Vx
open PySem.W PySem.Calls PyProof.Rows PySem.HandSPX
/-! ### an own exception class is called, with keywords -/
section
variable {M : Model} {A : Around} {E : Value → Shared → Prop} {h : Heap} {g : Array GenState} {d : Drawn} {t : Nat} {os : OsState}
variable {nm q : Str} {C N : Addr} {bs bm bmB : List Value} {hdct : Bool} {sn : List Str} {sub : List Value} {ab : Bool} {col : Option Bool} {dd : Option Addr} {k0 k1 k2 k3 k5 : Option Value} {B newId initId : String}
theorem chkNew (F : ExcBaseFacts B newId initId bmB) (tl : ∀ T : String, bm.contains (.type T) = bmB.contains (.type T)) {rest : List Value} {kw : List (Str × Value)} {Q : Unit → Shared → Prop}
    (hC : h.get? C = some (excClassObj nm q C N bs bm hdct sn sub ab col dd k0 k1 k2 k3 k5 newId)) (go : Q () ⟨h, g, d, t, os⟩) : wpAny M A (checkBuiltinCall newId ⟨.ref C :: rest, kw⟩) Q E ⟨h, g, d, t, os⟩ := by
  have isB : (Value.ref C :: bm).contains (.type B) = true := by rw [List.contains_cons, tl, F.hasB, Bool.or_true]
  have st := F.noStar
  simp only [checkBuiltinCall, F.newKind, F.newSplit, F.newRow]
  repeat (first | refine wpAny_loadPart_at hC ?_ | (refine wpAny_isSubtype_exc hC ?_; rw [isB]) | refine wpAny_staticBase_exc hC ?_ | refine wpAny_madeBy_exc hC ?_ | simp only [bne_self_eq_false, Bool.false_eq_true, if_false] | wp_step)

  exact go
theorem chkCall {rest : List Value} {kw : List (Str × Value)} {Q : Unit → Shared → Prop} (hC : h.get? C = some (excClassObj nm q C N bs bm hdct sn sub ab col dd k0 k1 k2 k3 k5 newId)) (go : Q () ⟨h, g, d, t, os⟩) :
    wpAny M A (checkBuiltinCall "type.__call__" ⟨.ref C :: rest, kw⟩) Q E ⟨h, g, d, t, os⟩ := by
  have u3 := tc_sub
  have hT : (⟨h, g, d, t, os⟩ : Shared).TypeIs (.ref C) "type" := ⟨_, hC, rfl⟩
  simp only [checkBuiltinCall, tc_kind, tc_split]
  repeat (any_goals (first | assumption | with_reducible refine wpAny_loadPart_at hC ?_ | with_reducible refine wpAny_onRaise ?_ | with_reducible refine wpAny_map ?_ | wp_step))
end
section
variable {prog : Program} {w : World} {A : Around} {E : Value → Shared → Prop} {R : Result → Shared → Prop} {h : Heap} {g : Array GenState} {d : Drawn} {t : Nat} {os : OsState}
variable {nm q : Str} {C N : Addr} {bs bm bmB : List Value} {hdct : Bool} {sn : List Str} {sub : List Value} {ab : Bool} {col : Option Bool} {dd : Option Addr} {k0 k1 k2 k3 k5 : Option Value} {B newId initId : String}
theorem newE (F : ExcBaseFacts B newId initId bmB) (tl : ∀ T : String, bm.contains (.type T) = bmB.contains (.type T)) {rest : List Value} {kw : List (Str × Value)}
    (hC : h.get? C = some (excClassObj nm q C N bs bm hdct sn sub ab col dd k0 k1 k2 k3 k5 newId)) (few : rest.length ≤ sizeLine)
    (go : R (.ok (.ret (.ref (h.objs.size + 1)))) ⟨(h.push (W.kdv_tup rest)).push (excO C h.objs.size), g, d, t, os⟩) :
    codeAny (model prog w) A (.builtin newId ⟨.ref C :: rest, kw⟩) R ⟨h, g, d, t, os⟩ := by
  have en := F.ends
  have isB : (Value.ref C :: bm).contains (.type B) = true := by rw [List.contains_cons, tl, F.hasB, Bool.or_true]
  have noA : (Value.ref C :: bm).contains (.type "AttributeError") = false := by rw [List.contains_cons, tl, F.noAttr]; rfl
  have noN : (Value.ref C :: bm).contains (.type "NameError") = false := by rw [List.contains_cons, tl, F.noName]; rfl
  refine codeAny_builtinAt F.entry ?_
  unfold Builtin.«BaseException.__new__»
  refine wpAt_bind ?_
  show wpAt _ _ _ (stack >>= _) _ _ _
  refine wpAt_bind (wpAt_stack fun p below => wpAt_of_wpAny ?_)
  wp_walk
  refine wpAt_of_wpAny ?_
  rw [F.owner]
  repeat (first | with_reducible refine wpAny_madeHere_exc F.canon hC ?_ | with_reducible refine wpAny_loadPart_at hC ?_ | (with_reducible refine wpAny_isSubtype_exc hC ?_; first | rw [isB] | rw [noA] | rw [noN]) | wp_step)
  show R _ _
  rw [Heap.size_push]
  exact go
theorem typeCallE (F : ExcBaseFacts B newId initId bmB) (tl : ∀ T : String, bm.contains (.type T) = bmB.contains (.type T)) {rest : List Value} {kw : List (Str × Value)} {fI : Addr} {Q : Fin → Shared → Prop}
    (hC : h.get? C = some (excClassObj nm q C N bs bm hdct sn sub ab col dd k0 k1 k2 k3 k5 newId))
    (hi : W.Looks (model prog w) h (typeLookup (.ref C) "__init__") (some (.ref fI))) (hb : ∀ self, W.Looks (model prog w) h (bindSpecial (.ref fI) self) (.ref fI, [self])) (few : rest.length ≤ sizeLine)
    (go : codeAny (model prog w) A (.call (.ref fI) ⟨.ref (h.objs.size + 1) :: rest, kw⟩)
      (fun r s' => match r with | .ok (.ret v) => v = .none ∧ Q (.done (.ret (.ref (h.objs.size + 1)))) s' | .ok _ => False | .error e => E e s') ⟨(h.push (W.kdv_tup rest)).push (excO C h.objs.size), g, d, t, os⟩) :
    wpAny (model prog w) A (Builtin.«type.__call__» ⟨.ref C :: rest, kw⟩) Q E ⟨h, g, d, t, os⟩ := by
  repeat (first | with_reducible refine wpAny_loadPart_at hC ?_ | with_reducible refine wpAny_madeBy_exc hC ?_ | wp_step)
  refine codeAny_call_builtin_code (Code.quiet_builtin _ F.quiet) (chkNew F tl hC ?_)
  refine newE F tl hC few ?_
  show wpAny _ _ _ _ _ _
  have kp : ∀ b o, h.get? b = some o → ((h.push (W.kdv_tup rest)).push (excO C h.objs.size)).get? b = some o := fun b o e => Heap.get?_push_of_some _ (Heap.get?_push_of_some _ e)
  have hC2 := kp _ _ hC
  have at2 : ((h.push (W.kdv_tup rest)).push (excO C h.objs.size)).get? (h.objs.size + 1) = some (excO C h.objs.size) := by heap_get
  have self : (Value.ref C :: bm).contains (.ref C) = true := by simp
  have ii := hi.keeps kp
  have bb := (hb (.ref (h.objs.size + 1))).keeps kp
  unfold isInstance
  repeat (first | with_reducible refine wpAny_loadPart_at at2 ?_ | (with_reducible refine wpAny_isSubtype_exc hC2 ?_; rw [self]) | wp_step)
  show wpAny _ _ (typeLookup (.ref C) _) _ _ _
  refine ii.at ?_
  refine wpAny_holding (wpAny_bind (bb.at ?_))
  refine wpAny_bind (wpAny_call (codeAny_mono go fun r s' z => ?_))
  rcases r with e | (v | _ | _ | _) <;> first | exact z | exact z.elim | skip
  obtain ⟨rfl, z⟩ := z
  first
    | exact wpAny_pure (wpAny_pure z)
    | (wp_walk; exact z)
theorem callE (F : ExcBaseFacts B newId initId bmB) (tl : ∀ T : String, bm.contains (.type T) = bmB.contains (.type T)) {rest : List Value} {kw : List (Str × Value)} {fI : Addr}
    (hC : h.get? C = some (excClassObj nm q C N bs bm hdct sn sub ab col dd k0 k1 k2 k3 k5 newId))
    (hi : W.Looks (model prog w) h (typeLookup (.ref C) "__init__") (some (.ref fI))) (hb : ∀ self, W.Looks (model prog w) h (bindSpecial (.ref fI) self) (.ref fI, [self])) (few : rest.length ≤ sizeLine)
    (go : codeAny (model prog w) (A.under (.builtin "type.__call__" ⟨.ref C :: rest, kw⟩)) (.call (.ref fI) ⟨.ref (h.objs.size + 1) :: rest, kw⟩) (W.InitBack (h.objs.size + 1) R) ⟨(h.push (W.kdv_tup rest)).push (excO C h.objs.size), g, d, t, os⟩) :
    codeAny (model prog w) A (.call (.ref C) ⟨rest, kw⟩) R ⟨h, g, d, t, os⟩ := by
  have u1 := tc_lookup
  have u2 := tc_bind (.ref C)
  have hTy : (⟨h, g, d, t, os⟩ : Shared).TypeIs (.ref C) "type" := ⟨_, hC, rfl⟩
  refine codeAny_of_tree ?_
  show wpAny _ _ (callAny (.ref C) _) _ _ _
  repeat (any_goals (first | assumption | with_reducible refine wpAny_loadPart_at hC ?_ | wp_step))
  refine ⟨rfl, ?_⟩
  refine codeAny_call_builtin_at (Code.quiet_builtin _ (by decide +kernel)) entry_typeCall (chkCall hC (typeCallE F tl hC hi hb few ?_))
  refine codeAny_mono go fun r s' z => ?_
  rcases r with e | (v | _ | _ | _) <;> exact z
end
end Vx
end PySem
set_option Elab.async false
set_option linter.all false
set_option maxRecDepth 100000
set_option maxHeartbeats 4000000
namespace Vk
open PySem PySem.Spec PyProof.Rows L2
/-! ## a def's promise where no repr is under way -/
structure FnG (P : Program) (w : World) (K : PySem.W.Frag) (mg : Str → Option Value) (base : Heap) (CX : CXT) (k : Nat) (f : Addr) (fd : FuncData) (ps : List Str) (sp : Sp) : Prop where
  len : ∀ vs H Q E, sp vs H Q E → vs.length = ps.length
  run : ∀ (A : Around) (outer : List Env) (s : Shared) (H : Hp) (args : Args) (us : List Value) (vs : List V) (Q : VK) (E : XK), A.guards = some [] → Room k A → Env0 P w K mg base A outer s H →
    BindsTo s fd args (ps.zip us) → Vals vs us → sp vs H Q E → codeAny (model P w) A (.call (.ref f) args) (CR CX outer P w H s Q E) s
section
variable {P : Program} {w : World} {K : PySem.W.Frag} {mg : Str → Option Value} {base : Heap} {CX : CXT}
theorem FnG.mono {j k : Nat} {f : Addr} {fd : FuncData} {ps : List Str} {sp : Sp} (F : FnG P w K mg base CX j f fd ps sp) (h : j ≤ k) : FnG P w K mg base CX k f fd ps sp :=
  ⟨F.len, fun A o s H as us vs Q E hg hr => F.run A o s H as us vs Q E hg (hr.mono h)⟩
theorem fn_ofG {k : Nat} {f : Addr} {nm qual : Str} {pms : Arguments} {body : List Stmt} {sc : Scope} {dV kV doc pm cdv ct oc : Value} {an od : Option Addr} {osl : Array (Option Value)} {N ps : List Str} {sp : Sp}
    (lk : K.lookup f = some ⟨oc, od, .func (PySem.W.fnOf nm qual pms body sc dV kV doc pm an cdv ct), osl⟩) (hcd : PySem.W.codeIn K cdv qual = true) (S : FnScope N ps sc) (len : ∀ vs H Q E, sp vs H Q E → vs.length = ps.length)
    (hb : ∀ (A : Around) (outer : List Env) (s : Shared) (H : Hp) (vs : List V) (Q : VK) (E : XK), A.guards = some [] → Room k (A.deeper (envOfC qual sc s.heap.objs.size f cdv)) → sp vs H Q E →
      ∃ t, PSs (cxOf CX P w K mg base N qual sc f cdv A outer s H E) body t ∧ t { nx := fun _ H' => Q .non H', rt := Q } (start N vs) H) :
    FnG P w K mg base CX (k + 1) f (PySem.W.fnOf nm qual pms body sc dV kV doc pm an cdv ct) ps sp := by
  refine ⟨len, fun A outer s H args us vs Q E hgd hr z0 hbt rv hp => ?_⟩
  have lenv := len _ _ _ _ hp
  have KX : K.In s.heap := z0.mod.kin.keeps fun b o q => (z0.bs b o q).1
  have noL : s.heap.NoLimit := z0.mod.nolimit.keeps fun b o q => (z0.bs b o q).1
  refine codeAny_call_function hr.depth (KX _ _ lk) rfl S.co S.gen rfl (PySem.W.codeRec_of KX hcd) (hbt _ _ _ _ ?_)
  refine wpAny_newFunctionEnv_cells S.kind (fun ⟨y, v⟩ hy => (S.par y (List.of_mem_zip hy).1).elim .inl fun q => .inr ⟨q, PySem.W.cellsFrom_some _ _ _ (.inl q)⟩) fun env he s1 x => ?_
  subst he
  refine ⟨noL.keeps x.toInCall.keep, codeAny_func ?_⟩
  obtain ⟨t, ht, hq⟩ := hb A outer s H vs Q E hgd (hr.deeper _) hp
  have I0 : Inv (cxOf CX P w K mg base N qual sc f cdv A outer s H E) [] (start N vs) H s1 := inv_start S hr.hd z0 lenv rv x
  refine wpAny_mono (ht.run [] s1 _ H _ I0 hq) (fun fl s2 q2 => ?_) fun _ _ q2 => q2
  cases fl with
  | ret u =>
    obtain ⟨v, _, H2, J, r2, q3⟩ := q2
    exact ⟨v, H2, J.os, J.bare, J.base, J.hok, r2, q3⟩
  | next =>
    obtain ⟨_, H2, J, q3⟩ := q2
    exact ⟨V.non, H2, J.os, J.bare, J.base, J.hok, rfl, q3⟩
  | brk =>
    obtain ⟨_, _, _, q3⟩ := q2
    exact q3.elim
  | cont =>
    obtain ⟨_, _, _, q3⟩ := q2
    exact q3.elim
theorem okG {x qual : Str} {st : Stmt} {f : Addr} {fd : FuncData} {N ps : List Str} {k : Nat} {sp : Sp} (F : Fun K x qual st f fd) (S : FnScope N ps (defScope st)) (len : ∀ vs H Q E, sp vs H Q E → vs.length = ps.length)
    (hb : ∀ (cdv : Value) (A : Around) (outer : List Env) (s : Shared) (H : Hp) (vs : List V) (Q : VK) (E : XK), A.guards = some [] → Room k (A.deeper (envOfC qual (defScope st) s.heap.objs.size f cdv)) → sp vs H Q E →
      ∃ t, PSs (cxOf CX0 P w K mg base N qual (defScope st) f cdv A outer s H E).nox (defBody st) t ∧ t { nx := fun _ H' => Q .non H', rt := Q } (start N vs) H) : FnG P w K mg base CX0 (k + 1) f fd ps sp := by
  obtain ⟨oc, od, kV, doc, pm, an, cdv, ct, osl, rfl, lk, hcd⟩ := F.ex
  exact fn_ofG lk hcd S len fun A outer s H vs Q E hg hr hp => let ⟨t, h, q⟩ := hb cdv A outer s H vs Q E hg hr hp; ⟨t, h.nox, q⟩
end
section
variable {X : Cx} {CX : CXT} {k : Nat} {f : Addr} {fd : FuncData} {ps : List Str} {sp : Sp} {E : XK} {x : Str} {p pos : Pos} {e : Expr} {es : List Expr} {t : TA}
theorem pe_callG (F : FnG X.prog X.w X.K X.mg X.base CX k f fd ps sp) (hgd : X.A.guards = some []) (hr : Room k X.A) (hg : Gl X x) (hm : X.mg x = some (.ref f)) (hk : PySem.W.keepIn X.K (.ref f) = true) (hb : Binds X.K fd ps []) (hx : Passes CX X E)
    (ha : PA X (e :: es) t) (hdb : (x == ("__debug__" : Str)) = false := by decide) (he : starEach (e :: es) X.env = (false, eval e X.env) :: starEach es X.env := by rfl) (hpl : (backTo pos (starEach es X.env)).any (·.1) = false := by rfl) :
    PE X (.Call (.Name x p) (e :: es) [] pos) (tCall sp [] E t) := by
  refine ⟨fun pins s σ H Q I h => wpAny_Call_Name_kw (ld_glob I hg hm ?_ hdb)⟩
  refine PySem.W.callWith_K (h₀ := X.base) I.ok.mod.kin hk (thn (ha.run pos pins s σ H _ I h) fun us s1 ⟨vs, H1, I1, r, q⟩ => ⟨I1.kIn, ?_⟩) he hpl
  have q' : sp vs H1 Q E := by
    have z : sp (vs ++ []) H1 Q E := q
    rw [List.append_nil] at z
    exact z
  have hl : us.length = ps.length := r.length.symm.trans (F.len _ _ _ _ q')
  have bt := hb s1 us I1.kIn (by rw [List.append_nil]; exact hl)
  rw [List.append_nil] at bt
  refine wpAny_call (codeAny_mono (F.run X.A X.stack s1 H1 ⟨us, []⟩ us vs Q E hgd hr I1.env0 bt r q') fun z s2 hq => ?_)
  cases z with
  | error er => exact hx pins σ H1 s1 er s2 I1 hq
  | ok fl =>
    cases fl with
    | ret u => exact I1.after hq
    | _ => exact hq.elim
end
/-! ## repr of data: None, bools, ints, texts, lists, tuples, dicts with int and text keys -/
def keyD : Key → PyData
  | .inl i => .int i
  | .inr z => .str z
mutual
inductive Dr (K : PySem.W.Frag) (H : Hp) : V → PyData → Prop
  | non : Dr K H .non .none
  | bl (b : Bool) : Dr K H (.bl b) (.bool b)
  | int (i : Int) : Dr K H (.int i) (.int i)
  | str (x : Str) : Dr K H (.str x) (.str x)
  | lst {a : Addr} {xs : List V} {ds : List PyData} : a ≠ sysModules → SqL K H a xs → DrAll K H xs ds → Dr K H (.ref a) (.list ds)
  | tup {a : Addr} {xs : List V} {ds : List PyData} : SqT K H a xs → DrAll K H xs ds → Dr K H (.ref a) (.tuple ds)
  | dct {a : Addr} {kvs : List (Key × V)} {ds : List PyData} : H a = some (.dK kvs) → DrAll K H (kvs.map (·.2)) ds → Dr K H (.ref a) (.dict ((kvs.map fun q => keyD q.1).zip ds))
inductive DrAll (K : PySem.W.Frag) (H : Hp) : List V → List PyData → Prop
  | nil : DrAll K H [] []
  | cons {v : V} {vs : List V} {d : PyData} {ds : List PyData} : Dr K H v d → DrAll K H vs ds → DrAll K H (v :: vs) (d :: ds)
end
section
variable {X : Cx} {pins : List (Addr × Obj)} {σ : L2.St} {H : Hp} {s : Shared}
theorem DrAll.length {K : PySem.W.Frag} : ∀ {vs : List V} {ds : List PyData}, DrAll K H vs ds → vs.length = ds.length
  | _, _, .nil => rfl
  | _, _, .cons _ t => congrArg Nat.succ (DrAll.length t)
theorem key_reads {h : Heap} : ∀ {k : Key} {u : Value}, keyIs k u = true → Reads h u (keyD k) []
  | .inl i, u, e => by
    obtain ⟨t, rfl⟩ := Value.isInt_shape (k := i) (v := u) e
    exact .int i t
  | .inr x, u, e => by
    obtain ⟨t, rfl⟩ := Value.isStrOf_shape (x := x) (v := u) e
    exact .str x t
theorem pairs_reads {P : Program} {w : World} {h : Heap} : ∀ {kvs : List (Key × V)} {vs : List (Key × Value)} {es : List DictEntry}, KV kvs vs → Pairs (mixKind P w) es vs →
    ReadsAll h (es.map (·.key)) (kvs.map fun q => keyD q.1) [] ∧ Vals (kvs.map (·.2)) (es.map (·.val)) := by
  intro kvs
  induction kvs with
  | nil =>
    intro vs es r p
    cases r
    cases p
    exact ⟨.nil, .nil⟩
  | cons kv r ih =>
    intro vs es q p
    cases q with
    | cons h1 t =>
      cases p with
      | cons hk hv t2 =>
        obtain ⟨q1, q2⟩ := ih t t2
        refine ⟨ReadsAll.cons (as := []) (bs := []) (key_reads (by rw [h1.1]; exact hk)) q1, .cons ?_ q2⟩
        have z := h1.2
        rw [← hv] at z
        exact z
theorem zip_fst {α β : Type} : ∀ (l : List α) (r : List β), l.length = r.length → (l.zip r).map (·.1) = l ∧ (l.zip r).map (·.2) = r
  | [], [], _ => ⟨rfl, rfl⟩
  | a :: l, b :: r, h => by
    obtain ⟨h1, h2⟩ := zip_fst l r (Nat.succ.inj h)
    exact ⟨by rw [List.zip_cons_cons, List.map_cons, h1], by rw [List.zip_cons_cons, List.map_cons, h2]⟩
  | [], _ :: _, h => nomatch h
  | _ :: _, [], h => nomatch h
mutual
theorem Dr.reads (I : Inv X pins σ H s) : ∀ {v : V} {d : PyData} {u : Value}, Dr X.K H v d → RelV v u → ∃ as, Reads s.heap u d as ∧ sysModules ∉ as
  | _, _, _, .non, r => by
    cases r
    exact ⟨_, .none, fun z => nomatch z⟩
  | _, _, _, .bl b, r => by
    cases r
    exact ⟨_, .bool b, fun z => nomatch z⟩
  | _, _, _, .int i, r => by
    obtain ⟨t, rfl⟩ := r
    exact ⟨_, .int i t, fun z => nomatch z⟩
  | _, _, _, .str x, r => by
    obtain ⟨t, rfl⟩ := r
    exact ⟨_, .str x t, fun z => nomatch z⟩
  | _, _, _, .lst (a := a) ns hs ha, r => by
    cases r
    obtain ⟨its, rv, ⟨o, n, ho, hc, _, hd⟩, _⟩ := I.list hs
    obtain ⟨as, hr, hn⟩ := DrAll.reads I ha rv
    exact ⟨_, Reads.list ho hc hd hr, fun z => (List.mem_cons.mp z).elim (fun e => ns e.symm) hn⟩
  | _, _, _, .tup hs ha, r => by
    cases r
    obtain ⟨its, rv, ⟨o, ho, hc, n, hd⟩, _⟩ := I.tuple hs
    obtain ⟨as, hr, hn⟩ := DrAll.reads I ha rv
    exact ⟨_, Reads.tuple ho hc hd hr, hn⟩
  | _, _, _, .dct (a := a) (kvs := kvs) (ds := ds) e ha, r => by
    cases r
    obtain ⟨_, ny, vs, kv, o, es, ep, ho, hx, hd, _, hp, _⟩ := I.hok a _ e
    obtain ⟨q1, q2⟩ := pairs_reads (h := s.heap) kv hp
    obtain ⟨bs, hr, hn⟩ := DrAll.reads I ha q2
    have hl : (kvs.map fun q => keyD q.1).length = ds.length := by rw [List.length_map, ← ha.length, List.length_map]
    obtain ⟨z1, z2⟩ := zip_fst (kvs.map fun q => keyD q.1) ds hl
    refine ⟨_, Reads.dict (as := []) (bs := bs) ho hx.1 hd (by rw [z1]; exact q1) (by rw [z2]; exact hr), fun z => ?_⟩
    rcases List.mem_append.mp z with z | z
    · have e2 : sysModules = a := by simpa using z
      rw [← e2] at ny
      exact absurd ny (by decide)
    · exact hn z
theorem DrAll.reads (I : Inv X pins σ H s) : ∀ {vs : List V} {ds : List PyData} {us : List Value}, DrAll X.K H vs ds → Vals vs us → ∃ as, ReadsAll s.heap us ds as ∧ sysModules ∉ as
  | _, _, _, .nil, r => by
    cases r
    exact ⟨_, .nil, fun z => nomatch z⟩
  | _, _, _, .cons h1 h2, r => by
    cases r with
    | cons r1 r2 =>
      obtain ⟨as, q1, n1⟩ := Dr.reads I h1 r1
      obtain ⟨bs, q2, n2⟩ := DrAll.reads I h2 r2
      exact ⟨_, .cons q1 q2, fun z => (List.mem_append.mp z).elim n1 n2⟩
end
mutual
theorem Dr.same {K : PySem.W.Frag} {H H' : Hp} (e : Same H H') (et : ∀ a xs, SqT K H a xs → SqT K H' a xs) : ∀ {v : V} {d : PyData}, Dr K H v d → Dr K H' v d
  | _, _, .non => .non
  | _, _, .bl b => .bl b
  | _, _, .int i => .int i
  | _, _, .str x => .str x
  | _, _, .lst ns hs ha => .lst ns (e.seq hs) (DrAll.same e et ha)
  | _, _, .tup hs ha => .tup (et _ _ hs) (DrAll.same e et ha)
  | _, _, .dct h ha => .dct (e _ _ h) (DrAll.same e et ha)
theorem DrAll.same {K : PySem.W.Frag} {H H' : Hp} (e : Same H H') (et : ∀ a xs, SqT K H a xs → SqT K H' a xs) : ∀ {vs : List V} {ds : List PyData}, DrAll K H vs ds → DrAll K H' vs ds
  | _, _, .nil => .nil
  | _, _, .cons h t => .cons (Dr.same e et h) (DrAll.same e et t)
end
theorem same_seqT {K : PySem.W.Frag} {H H' : Hp} {a : Addr} {xs : List V} (e : Same H H') (h : SqT K H a xs) : SqT K H' a xs := by
  rcases h with (h | ⟨o, h⟩) | h
  · exact .inl (.inl (e _ _ h))
  · exact .inl (.inr ⟨o, e _ _ h⟩)
  · exact .inr h
theorem Dr.keep {K : PySem.W.Frag} {H H' : Hp} {v : V} {d : PyData} (h : Dr K H v d) (e : Same H H') : Dr K H' v d := h.same e fun _ _ => same_seqT e
theorem DrAll.keep {K : PySem.W.Frag} {H H' : Hp} {v : List V} {d : List PyData} (h : DrAll K H v d) (e : Same H H') : DrAll K H' v d := h.same e fun _ _ => same_seqT e
end
/-- a list's, a tuple's, a dict's repr -/
def rRepr (K : PySem.W.Frag) : List V → Hp → VK → Prop := fun xs H Q => ∃ (a : Addr) (d : PyData), xs = [.ref a] ∧ Dr K H (.ref a) d ∧ d.showable = true ∧ d.depth ≤ 60 ∧ d.shown.length ≤ sizeLine ∧ Q (.str d.shown) H
theorem call_repr {X : Cx} {k : Nat} (hg : X.A.guards = some []) (hr : Room k X.A) : CallR X (.builtin "repr") (rRepr X.K) := by
  intro pins s σ H xs us Q I r h
  obtain ⟨a, d, rfl, hd, hs, hdp, hz, q⟩ := h
  obtain ⟨u, rfl, ru⟩ := vals1 r
  obtain ⟨as, rd, nm⟩ := hd.reads I ru
  cases ru
  refine repr_of_reads' rd hs (fun _ => nm) hg ?_ (fun _ _ e => e) (fun h' u tk hk => ?_) hz
  · have := hr.units
    omega
  · exact ⟨.str d.shown, H, I.kept hk, ⟨u, rfl⟩, q⟩
/-- a list display, its place no table of the machine's -/
def tLstN (t : TA) : TE := fun σ H Q => t σ H fun xs H1 => xs.length ≤ sizeLine ∧ ∀ p, H1 p = none → p ≠ sysModules → Q (.ref p) (upd H1 p (.lst xs))
theorem pe_lstN {X : Cx} {es : List Expr} {t : TA} {pos : Pos} (h : PA X es t) : PE X (.List es pos) (tLstN t) := by
  refine ⟨fun pins s σ H Q I q0 => wpAny_List_spliced (thn (h.run pos pins s σ H _ I q0) fun us s1 ⟨xs, H1, I1, r, z, q⟩ => ⟨r.length ▸ z, ?_⟩)⟩
  have hf : H1 s1.heap.objs.size = none := I1.fresh
  have hn : s1.heap.objs.size ≠ sysModules := Nat.ne_of_gt I1.big
  exact ⟨.ref s1.heap.objs.size, _, I1.laid (t' := s1.toks) (o := .lst xs) (fun b u e => Heap.get?_push_of_some _ e) (Nat.le_refl _) ⟨z, us, 0, r, Heap.get?_push_size _ rfl⟩, rfl, q _ hf hn⟩
end Vk
set_option Elab.async false
set_option linter.all false
set_option maxRecDepth 100000
set_option maxHeartbeats 4000000
namespace PySem
namespace Vx
open PySem.W PySem.Calls PyProof.Rows PySem.HandSPX Builtin Builtin.ObjectAttr
abbrev exB : List Value := [.type "Exception", .type "BaseException", .type "object"]
/-! ### the text of such an __init__: self.p = p -/
def iA (p : Str) (p1 p2 : Pos) : Arguments := { posonlyargs := [], args := [{ arg := "self", annotation := none, pos := p1 }, { arg := p, annotation := none, pos := p2 }], vararg := none, kwonlyargs := [], kw_defaults := [], kwarg := none, defaults := [] }
def iB (p : Str) (q1 q2 q3 q4 : Pos) : List Stmt := [.Assign [.Attribute (.Name "self" q1) p q2] (.Name p q3) q4]
def iS (p : Str) : Scope := { kind := .function, names := [(PySem.Str.ofString "self", .local), (p, .local)], isGenerator := false, isCoroutine := false, more := [] }
/-- what the written part says of an own error class at C (no own metaclass, base Exception in the end), as one look -/
def ecB (K : Frag) (C : Addr) : Bool := excInitIn K C exB "Exception.__new__" && (excOver K C exB && (hasDictIn K C && (decide (findIn K (.ref C) "__setattr__" = some (some (.builtin "object.__setattr__"))) &&
  (decide (findIn K (.ref C) "__getattribute__" = some (some (.builtin "BaseException.__getattribute__"))) && (decide (findIn K (.ref C) "__getattr__" = some none) && (decide (findIn K (.ref C) "__class__" = some (some (.builtin "object.__class__"))) &&
  (keepIn K (.ref C) && (decide (subIn K (.ref C) (.type "BaseException") = some true) && (decide (typeIn K (.ref C) = some (.type "type")) && (decide (mroIn K C (.type "object") = some true) &&
  (decide (specialIn K (.builtin "object.__class__") "__get__" = some (some (.builtin "getset_descriptor.__get__"))) && decide (takesIn K (.builtin "object.__class__") = some true))))))))))))
structure EcK (K : Frag) (C : Addr) : Prop where
  mke : excInitIn K C exB "Exception.__new__" = true
  ov : excOver K C exB = true
  hd : hasDictIn K C = true
  sa : findIn K (.ref C) "__setattr__" = some (some (.builtin "object.__setattr__"))
  ga : findIn K (.ref C) "__getattribute__" = some (some (.builtin "BaseException.__getattribute__"))
  gg : findIn K (.ref C) "__getattr__" = some none
  cl : findIn K (.ref C) "__class__" = some (some (.builtin "object.__class__"))
  kp : keepIn K (.ref C) = true
  ex : subIn K (.ref C) (.type "BaseException") = some true
  ty : typeIn K (.ref C) = some (.type "type")
  ob : mroIn K C (.type "object") = some true
  gt : specialIn K (.builtin "object.__class__") "__get__" = some (some (.builtin "getset_descriptor.__get__"))
  tk : takesIn K (.builtin "object.__class__") = some true
theorem ecK_of {K : Frag} {C : Addr} (h : ecB K C = true) : EcK K C := by
  unfold ecB at h
  simp only [Bool.and_eq_true, decide_eq_true_eq] at h
  obtain ⟨h1, h2, h3, h4, h5, h6, h7, h8, h9, h10, h11, h12, h13⟩ := h
  exact ⟨h1, h2, h3, h4, h5, h6, h7, h8, h9, h10, h11, h12, h13⟩
/-- its own __init__ at fI, one parameter p, kept under that name -/
structure EcI (K : Frag) (C fI : Addr) (p : Str) : Prop where
  noN : findIn K (.ref C) p = some none
  iC : findIn K (.ref C) "__init__" = some (some (.ref fI))
  tI : typeIn K (.ref fI) = some (.type "function")
  ns : (p == ("self" : Str)) = false
  nd : (p == ("__debug__" : Str)) = false
  fn : ∃ (q : Str) (oc : Value) (od : Option Addr) (doc pm : Value) (an : Option Addr) (cdv ct : Value) (osl : Array (Option Value)) (p1 p2 q1 q2 q3 q4 : Pos),
    K.lookup fI = some ⟨oc, od, .func (fnOf "__init__" q (iA p p1 p2) (iB p q1 q2 q3 q4) (iS p) .none .none doc pm an cdv ct), osl⟩ ∧ codeIn K cdv q = true
  b1 : ∀ (q : Str) (doc pm : Value) (an : Option Addr) (cdv ct : Value) (p1 p2 q1 q2 q3 q4 : Pos) (x v : Value), bindArgs (fnOf "__init__" q (iA p p1 p2) (iB p q1 q2 q3 q4) (iS p) .none .none doc pm an cdv ct) ⟨[x, v], []⟩ = pure ([("self", x), (p, v)] : List (Str × Value))
  b2 : ∀ (q : Str) (doc pm : Value) (an : Option Addr) (cdv ct : Value) (p1 p2 q1 q2 q3 q4 : Pos) (x v : Value), bindArgs (fnOf "__init__" q (iA p p1 p2) (iB p q1 q2 q3 q4) (iS p) .none .none doc pm an cdv ct) ⟨[x], [(p, v)]⟩ = pure ([("self", x), (p, v)] : List (Str × Value))
/-- what __init__ leaves of a fresh exception at x -/
structure InitEnd (h h' : Heap) (x C dx t1 : Addr) (p : Str) (v : Value) : Prop where
  keep : ∀ b o, b ≠ x → h.get? b = some o → h'.get? b = some o
  obj : h'.get? x = some { cls := .ref C, dict := some dx, data := .fields #[.ref t1, .none, .none, .none, .bool false, .none] }
  dbig : h.objs.size ≤ dx
  dne : dx ≠ x
  ns : h'.Ns1 dx (fun y => if y = p then some v else none)
/-- a made one -/
structure Made (h h' : Heap) (e C d : Addr) (p : Str) (v : Value) : Prop where
  keep : ∀ b o, h.get? b = some o → h'.get? b = some o
  new : h.objs.size ≤ e
  obj : ∃ t1 : Addr, h'.get? e = some { cls := .ref C, dict := some d, data := .fields #[.ref t1, .none, .none, .none, .bool false, .none] }
  dbig : h.objs.size ≤ d
  dne : d ≠ e
  ns : h'.Ns1 d (fun y => if y = p then some v else none)
section
variable {prog : Program} {w : World} {A : Around} {E : Value → Shared → Prop} {R : Result → Shared → Prop} {s : Shared} {K : Frag} {C fI : Addr} {p : Str}
theorem store0 {hp : Heap} {g : Array GenState} {d : Drawn} {t : Nat} {os : OsState} {tk : Tok} {v : Value} {x t0 : Addr} (T : EcK K C) (X : K.In hp) (no : findIn K (.ref C) p = some none) (hx : hp.get? x = some (excO C t0))
    (go : ∀ h' tk' dx, (∀ b o, b ≠ x → hp.get? b = some o → h'.get? b = some o) → hp.objs.size ≤ dx → dx ≠ x → h'.get? x = some { cls := .ref C, dict := some dx, data := .fields #[.ref t0, .none, .none, .none, .bool false, .none] } →
      h'.Ns1 dx (fun y => if y = p then some v else none) → R (.ok (.ret .none)) ⟨h', g, d, tk', os⟩) :
    codeAny (model prog w) A (.call (.builtin "object.__setattr__") ⟨[.ref x, .str p tk, v], []⟩) R ⟨hp, g, d, t, os⟩ := by
  refine osa_openX (s := ⟨hp, g, d, t, os⟩) (od := none) (r := none) F.store_Exception X ⟨hx, rfl, rfl, trivial⟩ T.ov (by unfold takerIn; rw [no] <;> rfl) fun b => ?_
  obtain ⟨cd, hc, hdd⟩ := any_some T.hd
  have hne : x ≠ hp.objs.size := Nat.ne_of_lt (Heap.lt_size hx)
  refine wpAny_bind (wpAny_pure (wpAny_bind (instanceDict_exc hx (looks_clsIn X hc) hdd ?_)))
  show wpAny _ _ (storeInDict hp.objs.size (.str p tk) p v) _ _ _
  refine store_in_new ⟨_, #[], _, (Heap.get?_update_ne _ _ _ _ hne.symm).trans (Heap.get?_push_at rfl rfl), rfl, fun e he => absurd he (by simp), fun _ => rfl⟩ fun h' tk' hn hs => ?_
  have hx1 : (hp.push (dictOf [] 0)).get? x = some (excO C t0) := Heap.get?_push_of_some _ hx
  refine go h' tk' hp.objs.size (fun b o hb ho => ?_) (Nat.le_refl _) hne.symm ?_ hn
  · exact (hs.2 b (Nat.ne_of_lt (Heap.lt_size ho))).trans ((Heap.get?_update_ne _ _ _ _ hb).trans (Heap.get?_push_of_some _ ho))
  · exact (hs.2 x hne).trans (Heap.get?_update_self _ hx1 rfl)
theorem lkP (ns : (p == ("self" : Str)) = false) : (iS p).names.lookup p = some .local := by
  show List.lookup p [(PySem.Str.ofString "self", NameKind.local), (p, NameKind.local)] = some .local
  rw [List.lookup_cons, ns, List.lookup_cons, beq_self_eq_true]
theorem initE (T : EcK K C) (U : EcI K C fI p) {x t0 : Addr} {v : Value} {args : Args} (X : K.In s.heap) (hlim : s.heap.NoLimit) (hx : s.heap.get? x = some (excO C t0)) (room : A.depth < recursionLimit)
    (ha : args = ⟨[.ref x, v], []⟩ ∨ args = ⟨[.ref x], [(p, v)]⟩) (go : ∀ h' tk dx, InitEnd s.heap h' x C dx t0 p v → R (.ok (.ret .none)) { s with heap := h', toks := tk }) :
    codeAny (model prog w) A (.call (.ref fI) args) R s := by
  obtain ⟨q, oc, od, doc, pm, an, cdv, ct, osl, p1, p2, q1, q2, q3, q4, ho, hcd⟩ := U.fn
  have hbd : BindsTo s (fnOf "__init__" q (iA p p1 p2) (iB p q1 q2 q3 q4) (iS p) .none .none doc pm an cdv ct) args ([("self", .ref x), (p, v)] : List (Str × Value)) := by
    rcases ha with rfl | rfl
    · exact .of_eq (U.b1 _ _ _ _ _ _ _ _ _ _ _ _ _ _)
    · exact .of_eq (U.b2 _ _ _ _ _ _ _ _ _ _ _ _ _ _)
  refine Att.call_fn (binds := ([("self", .ref x), (p, v)] : List (Str × Value))) X hlim ho hcd room hbd ?_ (fun s₁ IC => ?_) rfl rfl rfl
  · have z1 : ((iS p).names.lookup ("self" : Str) == some NameKind.local || (iS p).names.lookup ("self" : Str) == some NameKind.cell) = true := by rfl
    have z2 : ((iS p).names.lookup p == some NameKind.local || (iS p).names.lookup p == some NameKind.cell) = true := by rw [lkP U.ns] <;> rfl
    simp only [List.all_cons, List.all_nil, z1, z2, Bool.and_self]
  obtain ⟨h₁, tk₁, rfl⟩ := IC.toInCall.same
  have kp : ∀ b o, s.heap.get? b = some o → h₁.get? b = some o := IC.toInCall.keep
  have hn := IC.toInCall.ns
  have X1 : K.In h₁ := X.keeps kp
  have hx1 := kp _ _ hx
  have kl : (envOfC q (iS p) s.heap.objs.size fI cdv).kindOf p = some .local := lkP U.ns
  have ks : (envOfC q (iS p) s.heap.objs.size fI cdv).kindOf "self" = some .local := by rfl
  have nd2 : ([("self" : Str), p]).Nodup := by
    have z : ¬ (("self" : Str) = p) := fun e => by
      have y := U.ns
      rw [← e] at y
      simp at y
    simp [z]
  have vp := L2.bindL_get (P := [("self" : Str), p]) (vs := [Value.ref x, v]) (i := 1) (m := fun _ => none) nd2 rfl rfl kl
  have vsf := L2.bindL_get (P := [("self" : Str), p]) (vs := [Value.ref x, v]) (i := 0) (m := fun _ => none) nd2 rfl rfl ks
  show wpAny _ _ (execs _ _) _ _ _
  refine wpAny_execs_cons (plainObj_wpAny_Assign_Attribute ?_)
  refine wpAny_Name (wpAny_loadName_local rfl kl hn vp ?_) U.nd
  refine wpAny_Name (wpAny_loadName_local rfl ks hn vsf ?_) (by decide)
  refine set_plain X1 (ox := excO C t0) (od := none) ⟨hx1, rfl, rfl, trivial⟩ T.sa ?_
  refine store0 T X1 U.noN hx1 (fun h₃ tk₃ dx k₃ dn dne hx₃ hn₃ => ?_)
  show wpAny _ _ (execs _ _) _ _ _
  have z : s.heap.objs.size < h₁.objs.size := hn.lt
  exact wpAny_execs_nil (go h₃ tk₃ dx ⟨fun b o hb e => k₃ b o hb (kp b o e), hx₃, Nat.le_of_lt (Nat.lt_of_lt_of_le z dn), dne, hn₃⟩)
theorem one_sz (v : Value) : [v].length ≤ sizeLine := by
  rw [sizeLine_eq]
  exact (by decide : 1 ≤ 16777216)
/-- C(v), C(p = v) -/
theorem madeE (T : EcK K C) (U : EcI K C fI p) {v : Value} {args : Args} (X : K.In s.heap) (hlim : s.heap.NoLimit) (room : A.depth + 1 < recursionLimit) (ha : args = ⟨[v], []⟩ ∨ args = ⟨[], [(p, v)]⟩)
    (go : ∀ h' tk e d, Made s.heap h' e C d p v → R (.ok (.ret (.ref e))) { s with heap := h', toks := tk }) : codeAny (model prog w) A (.call (.ref C) args) R s := by
  obtain ⟨nm, N, qn, bs, bm, hdct, sn, sub, ab, col, dd, k0, k1, k2, k3, k5, hC, tl⟩ := excInit_of X T.mke
  obtain ⟨hp, g, dr, tk, os⟩ := s
  have main : ∀ (rest : List Value) (kw : List (Str × Value)), rest.length ≤ sizeLine → (∀ x : Addr, (⟨.ref x :: rest, kw⟩ : Args) = ⟨[.ref x, v], []⟩ ∨ (⟨.ref x :: rest, kw⟩ : Args) = ⟨[.ref x], [(p, v)]⟩) → codeAny (model prog w) A (.call (.ref C) ⟨rest, kw⟩) R ⟨hp, g, dr, tk, os⟩ := by
    intro rest kw hr hk
    have kp : ∀ b o, hp.get? b = some o → ((hp.push (kdv_tup rest)).push (excO C hp.objs.size)).get? b = some o := fun b o e => Heap.get?_push_of_some _ (Heap.get?_push_of_some _ e)
    have hget : ((hp.push (kdv_tup rest)).push (excO C hp.objs.size)).get? (hp.objs.size + 1) = some (excO C hp.objs.size) := by heap_get
    refine callE F.excBase_Exception tl hC (looks_findIn X U.iC) (fun self => bind_fn X self U.tI) hr ?_
    refine initE (s := ⟨(hp.push (kdv_tup rest)).push (excO C hp.objs.size), g, dr, tk, os⟩) T U (X.keeps kp) (hlim.keeps kp) hget ?_ (hk _) fun h' tk' dx ⟨k', hx, dn, dne, hns⟩ => ?_
    · show (A.under _).depth < _
      exact Nat.lt_of_le_of_lt (Nat.le_of_eq L2.make_depth) room
    · have old : ∀ b o, hp.get? b = some o → h'.get? b = some o := fun b o e => k' b o (Nat.ne_of_lt (Nat.lt_succ_of_lt (Heap.lt_size e))) (kp b o e)
      have z : hp.objs.size + 1 + 1 ≤ dx := by
        have q := dn
        rw [Heap.size_push, Heap.size_push] at q
        exact q
      exact ⟨rfl, go h' tk' (hp.objs.size + 1) dx ⟨old, Nat.le_succ _, ⟨_, hx⟩, Nat.le_trans (Nat.le_trans (Nat.le_succ _) (Nat.le_succ _)) z, dne, hns⟩⟩
  rcases ha with rfl | rfl
  · exact main _ _ (one_sz v) fun x => .inl rfl
  · exact main _ _ (Nat.zero_le _) fun x => .inr rfl
end
end Vx
end PySem
set_option Elab.async false
set_option linter.all false
set_option maxRecDepth 100000
set_option maxHeartbeats 4000000
namespace Vk
open PySem PySem.Spec PyProof.Rows L2 PySem.Vx
/-- an exception of the class cls stands at a, its own dict d -/
def ExV (cls : Value) (d : Option Addr) (a : Addr) : HO := .ext fun h => ∃ (oe : Obj) (vs : Array Value), h.get? a = some oe ∧ Zc cls d oe ∧ oe.data = .fields vs
theorem exV_ok {P : Program} {w : World} {H : Hp} {h : Heap} {a : Addr} {cls : Value} {d : Option Addr} {oe : Obj} {vs : Array Value} (e : h.get? a = some oe) (z : Zc cls d oe) (q : oe.data = .fields vs) : ObjOk P w H h a (ExV cls d a) :=
  ⟨⟨oe, vs, e, z, q⟩, ⟨oe, e⟩, fun _ _ ⟨o, v, q, r⟩ k => ⟨o, v, k o q, r⟩⟩
theorem exV_at {P : Program} {w : World} {H : Hp} {h : Heap} {a : Addr} {cls : Value} {d : Option Addr} (k : HOk P w H h) (e : H a = some (ExV cls d a)) : ∃ (oe : Obj) (vs : Array Value), h.get? a = some oe ∧ Zc cls d oe ∧ oe.data = .fields vs := (k a _ e).1
theorem relO_one {p : Str} {v : V} {u : Value} (r : L2.RelV v u) (f : Str) : RelO (List.lookup f [(p, v)]) (if f = p then some u else none) := by
  by_cases h : f = p
  · rw [h, if_pos rfl, List.lookup_cons, beq_self_eq_true]
    exact r
  · have e : (f == p) = false := by simpa using h
    rw [if_neg h, List.lookup_cons, e]
    trivial
section
variable {X : Cx} {pins : List (Addr × Obj)} {σ : L2.St} {H : Hp} {s : Shared} {C fI : Addr} {p x : Str}
/-- two new objects: the exception, its dict -/
theorem Inv.made2 {h' : Heap} {e d : Addr} {v : V} {u : Value} {tk : Nat} (I : Inv X pins σ H s) (M : Made s.heap h' e C d p u) (r : L2.RelV v u) :
    H e = none ∧ H d = none ∧ d ≠ e ∧ Inv X pins σ (upd (upd H d (.xd [(p, v)])) e (ExV (.ref C) (some d) e)) { s with heap := h', toks := tk } := by
  have ne := I.hok.fresh M.new
  have nd := I.hok.fresh M.dbig
  obtain ⟨t1, ho⟩ := M.obj
  refine ⟨ne, nd, M.dne, ?_⟩
  have un0 : ∀ b o, s.heap.get? b = some o → b ≠ e ∧ b ≠ d := fun b o q => ⟨Nat.ne_of_lt (Nat.lt_of_lt_of_le (Heap.lt_size q) M.new), Nat.ne_of_lt (Nat.lt_of_lt_of_le (Heap.lt_size q) M.dbig)⟩
  have tr : ∀ b o, H b = some o → (upd (upd H d (.xd [(p, v)])) e (ExV (.ref C) (some d) e)) b = some o := fun b o q => by rw [upd_ne (ne_of_none q ne), upd_ne (ne_of_none q nd)]; exact q
  have U : Un X.fs [] H (upd (upd H d (.xd [(p, v)])) e (ExV (.ref C) (some d) e)) s.heap h' := {
    keep := fun b o q _ _ _ => M.keep b o q
    slot := fun b o q _ _ _ => ⟨o.slots, M.keep b o q⟩
    free := fun b o q n _ => by rw [upd_ne (un0 b o q).1, upd_ne (un0 b o q).2]; exact n
    there := fun b o q _ => ⟨o, M.keep b o q⟩
    tups := fun b xs q => tr b _ q
    frzs := fun b o xs q => tr b _ q
    tbls := fun b ps q => ⟨#[], by rw [tr b _ q]; simp⟩ }
  refine I.un (t' := tk) U fun b o q => ?_
  by_cases hb : b = e
  · subst hb
    rw [upd_same] at q
    cases q
    exact exV_ok ho ⟨rfl, rfl⟩ rfl
  · rw [upd_ne hb] at q
    by_cases hd : b = d
    · subst hd
      rw [upd_same] at q
      cases q
      exact ⟨_, M.ns, fun f => relO_one r f⟩
    · rw [upd_ne hd] at q
      exact (I.hok b o q).stay (fun c y _ z => M.keep c y z) (fun c z => tr c _ z) fun c xs z => tr c _ z
theorem run_mkE (T : EcK X.K C) (U : EcI X.K C fI p) {k : Nat} (hr : Room k X.A) (I : Inv X pins σ H s) {v : V} {u : Value} (r : L2.RelV v u) {Q : VK} {us : List Value} {kw : List (Str × Value)} (ha : (⟨us, kw⟩ : Args) = ⟨[u], []⟩ ∨ (⟨us, kw⟩ : Args) = ⟨[], [(p, u)]⟩)
    (q : ∀ a d, H a = none → H d = none → d ≠ a → Q (.ref a) (upd (upd H d (.xd [(p, v)])) a (ExV (.ref C) (some d) a))) : wpAny (model X.prog X.w) X.A (call (.ref C) us kw) (EP X pins σ Q) X.xe s := by
  refine wpAny_call (madeE T U I.kIn I.nolimit (by have := hr.dp; omega) ha fun h' tk e d M => ?_)
  obtain ⟨n1, n2, n3, J⟩ := Inv.made2 (tk := tk) I M r
  exact ⟨.ref e, _, J, rfl, q e d n1 n2 n3⟩
def tMkE (C : Addr) (p : Str) (t : TA) : TE := fun σ H Q => t σ H fun vs H1 => ∃ v, vs = [v] ∧ ∀ a d, H1 a = none → H1 d = none → d ≠ a → Q (.ref a) (upd (upd H1 d (.xd [(p, v)])) a (ExV (.ref C) (some d) a))
/-- X(e), an own error, as a value -/
theorem pe_mkE {e : Expr} {t : TA} {np pos : Pos} {k : Nat} (T : EcK X.K C) (U : EcI X.K C fI p) (gC : X.mg x = some (.ref C)) (hr : Room k X.A) (ha : PA X [e] t) (hg : Gl X x := by rfl) (hdb : (x == ("__debug__" : Str)) = false := by decide)
    (he : starEach (e :: []) X.env = (false, eval e X.env) :: starEach [] X.env := by rfl) (hpl : (backTo pos (starEach [] X.env)).any (·.1) = false := by rfl) : PE X (.Call (.Name x np) [e] [] pos) (tMkE C p t) := by
  refine ⟨fun pins s σ H Q I h => wpAny_Call_Name_kw (ld_glob I hg gC ?_ hdb)⟩
  refine PySem.W.callWith_K (h₀ := X.base) I.ok.mod.kin T.kp (thn (ha.run pos pins s σ H _ I h) fun us s1 ⟨vs, H1, I1, r, v, ev, q⟩ => ⟨I1.kIn, ?_⟩) he hpl
  subst ev
  obtain ⟨u, rfl, ru⟩ := vals1 r
  exact run_mkE T U hr I1 ru (.inl rfl) q
/-- X(p = e) -/
theorem pe_mkEk {e : Expr} {te : TE} {np pos kpos : Pos} {k : Nat} (T : EcK X.K C) (U : EcI X.K C fI p) (gC : X.mg x = some (.ref C)) (hr : Room k X.A) (ha : PE X e te) (hg : Gl X x := by rfl) (hdb : (x == ("__debug__" : Str)) = false := by decide)
    (hall : (backToKw pos (keywordEach [⟨some p, e, kpos⟩] X.env)).all (·.1.isSome) = true := by rfl) (hks : (backToKw pos (keywordEach [⟨some p, e, kpos⟩] X.env)).filterMap (·.1) = [p] := by rfl)
    (hpl : ((backTo pos (starEach [] X.env)).any (·.1) || (backToKw pos (keywordEach [⟨some p, e, kpos⟩] X.env)).any (·.1.isNone)) = false := by rfl) : PE X (.Call (.Name x np) [] [⟨some p, e, kpos⟩] pos) (tMkE C p (tCons te tNil)) := by
  refine ⟨fun pins s σ H Q I h => wpAny_Call_Name_kw (ld_glob I hg gC ?_ hdb)⟩
  have hk : PK X [⟨some p, e, kpos⟩] (tCons te tNil) := pk_cons ha pk_nil
  refine PySem.W.callWith_KW0 (h₀ := X.base) I.ok.mod.kin T.kp hall (thn (hk.run pos pins s σ H _ I h) fun us s1 ⟨vs, H1, I1, r, v, ev, q⟩ => ⟨I1.kIn, ?_⟩) hpl
  subst ev
  obtain ⟨u, rfl, ru⟩ := vals1 r
  rw [hks]
  exact run_mkE T U hr I1 ru (.inr rfl) q
/-- a bare own error: no __init__ of its own, no argument -/
theorem made0 {Q : Value → Shared → Prop} {A : Around} {E : Value → Shared → Prop} (T : EcK X.K C) (h0 : PySem.W.findIn X.K (.ref C) "__init__" = some (some (.builtin "Exception.__init__"))) (I : Inv X pins σ H s)
    (q : ∀ (h' : Heap) (a t : Addr), (∀ b o, s.heap.get? b = some o → h'.get? b = some o) → s.heap.objs.size ≤ a → h'.get? a = some (PySem.W.excObj C t none .none) → Q (.ref a) { s with heap := h' }) : wpAny (model X.prog X.w) A (call (.ref C) []) Q E s := by
  obtain ⟨nm, N, qn, bs, bm, hdct, sn, sub, ab, col, dd, k0, k1, k2, k3, k5, hC, tl⟩ := PySem.W.excInit_of I.kIn T.mke
  have hi := PySem.W.looks_findIn (M := model X.prog X.w) I.kIn h0
  obtain ⟨hp, g, d, t, os⟩ := s
  exact PySem.W.call_B F.excBase_Exception tl hC hi (Nat.zero_le _) fun h' k e _ => q h' _ _ k (Nat.le_succ _) e
def tMk0 (C : Addr) : TE := fun _ H Q => ∀ a, H a = none → Q (.ref a) (upd H a (ExV (.ref C) none a))
theorem pe_mk0 {np pos : Pos} (T : EcK X.K C) (h0 : PySem.W.findIn X.K (.ref C) "__init__" = some (some (.builtin "Exception.__init__"))) (gC : X.mg x = some (.ref C)) (hg : Gl X x := by rfl) (hdb : (x == ("__debug__" : Str)) = false := by decide) :
    PE X (.Call (.Name x np) [] [] pos) (tMk0 C) := by
  refine ⟨fun pins s σ H Q I h => wpAny_Call_Name_kw (ld_glob I hg gC ?_ hdb)⟩
  refine PySem.W.callWith_K0 I.kIn T.kp (made0 T h0 I fun h' a t k na ha => ?_)
  exact ⟨.ref a, _, I.laid (t' := s.toks) (o := ExV (.ref C) none a) k na (exV_ok ha ⟨rfl, rfl⟩ rfl), rfl, h a (I.hok.fresh na)⟩
/-- e.f, e an own error -/
def tExf (C : Addr) (f : Str) (te : TE) : TE := fun σ H Q => te σ H fun y H1 => ∃ (a dd : Addr) (fs : List (Str × V)) (v : V), y = .ref a ∧ H1 a = some (ExV (.ref C) (some dd) a) ∧ H1 dd = some (.xd fs) ∧ fs.lookup f = some v ∧ Q v H1
theorem inst_of {H1 : Hp} {a : Addr} {d : Option Addr} (I : Inv X pins σ H1 s) (ha : H1 a = some (ExV (.ref C) d a)) (hd : ∀ dd, d = some dd → ∃ fs, H1 dd = some (.xd fs)) : ∃ (oe : Obj) (od : Option Obj), PySem.W.InstAt s.heap a oe C od ∧
    ∀ dd fs, d = some dd → H1 dd = some (.xd fs) → ∃ o, od = some o ∧ ∀ n v, fs.lookup n = some v → ∃ u, PySem.W.lookIn n o = some (some u) ∧ L2.RelV v u := by
  obtain ⟨oe, vs, ho, hz, hv⟩ := exV_at I.hok ha
  have nc : PySem.W.notCls oe = true := by
    unfold PySem.W.notCls
    rw [hv] <;> rfl
  cases d with
  | none =>
    refine ⟨oe, none, ⟨ho, hz.1, nc, ?_⟩, fun dd _ z => nomatch z⟩
    rw [hz.2]
    trivial
  | some dd =>
    obtain ⟨fs, hf⟩ := hd dd rfl
    obtain ⟨mA, hns, hr⟩ := (show ObjOk X.prog X.w H1 s.heap dd (.xd fs) from I.hok dd _ hf)
    obtain ⟨od, hod, hl⟩ := lookIn_ns hns
    refine ⟨oe, some od, ⟨ho, hz.1, nc, ?_⟩, fun d2 fs2 e2 h2 => ?_⟩
    · rw [hz.2]
      exact hod
    · cases e2
      rw [hf] at h2
      cases h2
      refine ⟨od, rfl, fun n v e => ?_⟩
      obtain ⟨u, hu, ru⟩ := RelO.some_of (v := v) (o := mA n) (by rw [← e]; exact hr n)
      exact ⟨u, by rw [hl, hu], ru⟩
theorem pe_exf {e : Expr} {te : TE} {n : Str} {pos : Pos} (T : EcK X.K C) (hno : PySem.W.findIn X.K (.ref C) n = some none) (he : PE X e te) (hb : attributeBase e n X.env (eval e X.env) = eval e X.env := by rfl) : PE X (.Attribute e n pos) (tExf C n te) := by
  refine ⟨fun pins s σ H Q I h => attr_of hb (thn (he.run pins s σ H _ I h) fun u s1 ⟨y, H1, I1, ry, a, dd, fs, v, ey, ha, hd, hl, q⟩ => ?_)⟩
  subst ey
  obtain rfl : u = Value.ref a := ry
  obtain ⟨oe, od, J, look⟩ := inst_of I1 ha fun d2 e2 => ⟨fs, by cases e2; exact hd⟩
  obtain ⟨o, rfl, lk⟩ := look dd fs rfl hd
  obtain ⟨w', hw, rw'⟩ := lk n v hl
  exact HandSPX.exc_get I1.kIn J T.ga T.gg T.ex (PySem.W.findObj_own T.hd hno rfl hw) (handed_of rw') ⟨v, H1, I1.tok _, rw', q⟩
/-- isinstance(e, c), e an own error -/
def rIsX (K : PySem.W.Frag) (C : Addr) : List V → Hp → VK → Prop := fun xs H Q => ∃ (a : Addr) (d : Option Addr) (c : V) (cv : Value) (b : Bool), xs = [.ref a, c] ∧ H a = some (ExV (.ref C) d a) ∧ (∀ dd, d = some dd → ∃ fs, H dd = some (.xd fs)) ∧
  (∀ u, L2.RelV c u → u = cv) ∧ PySem.W.kitOne K (.ref C) cv = some b ∧ Q (.bl b) H
theorem call_isX (T : EcK X.K C) : CallR X (.builtin "isinstance") (rIsX X.K C) := by
  intro pins s σ H xs us Q I r h
  obtain ⟨a, d, c, cv, b, rfl, ha, hd, hc, e, q⟩ := h
  obtain ⟨u1, u2, rfl, r1, r2⟩ := vals2 r
  cases r1
  have ec := hc _ r2
  subst ec
  obtain ⟨oe, od, J, _⟩ := inst_of I ha hd
  have hcl : (PySem.W.clsIn X.K C).isSome = true := by
    obtain ⟨cd, hcd, _⟩ := PySem.W.any_some T.hd
    rw [hcd]
    rfl
  exact PySem.W.kia_one (PySem.W.kitx_exc hcl T.ga T.gg T.ex T.cl T.gt T.tk T.ob) I.kIn J e (fun z => nomatch z) fun tk => ⟨.bl b, H, I.kept (t' := tk) fun _ _ z => z, rfl, q⟩
end
end Vk
set_option Elab.async false
set_option linter.all false
set_option maxRecDepth 100000
set_option maxHeartbeats 4000000
namespace Vk
open PySem PySem.Spec PyProof.Rows L2 PySem.Vx
section
variable {X : Cx} {pins : List (Addr × Obj)} {σ : L2.St} {H : Hp} {s : Shared} {C fI : Addr} {p x : Str}
/-- raise X(e): the error is let go, its dict stands -/
theorem pmk_E {e : Expr} {t : TA} {np pos : Pos} {k : Nat} (T : EcK X.K C) (U : EcI X.K C fI p) (gC : X.mg x = some (.ref C)) (hr : Room k X.A) (ha : PA X [e] t) (hg : Gl X x := by rfl) (hdb : (x == ("__debug__" : Str)) = false := by decide)
    (he : starEach (e :: []) X.env = (false, eval e X.env) :: starEach [] X.env := by rfl) (hpl : (backTo pos (starEach [] X.env)).any (·.1) = false := by rfl) :
    PMk X (.Call (.Name x np) [e] [] pos) (fun σ H Q => t σ H fun vs H1 => ∃ v, vs = [v] ∧ ∀ d, H1 d = none → Q (.ref C) (some d) (upd H1 d (.xd [(p, v)]))) := by
  intro pins s σ H Q I h
  refine wpAny_Call_Name_kw (ld_glob I hg gC ?_ hdb)
  refine PySem.W.callWith_K (h₀ := X.base) I.ok.mod.kin T.kp (thn (ha.run pos pins s σ H _ I h) fun us s1 ⟨vs, H1, I1, r, v, ev, q⟩ => ⟨I1.kIn, ?_⟩) he hpl
  subst ev
  obtain ⟨u, rfl, ru⟩ := vals1 r
  have room : X.A.depth + 1 < recursionLimit := by have := hr.dp; omega
  refine wpAny_call (madeE T U I1.kIn I1.nolimit room (.inl rfl) fun h' tk e d M => ?_)
  obtain ⟨t1, ho⟩ := M.obj
  obtain ⟨G, g1, g2⟩ := restrict h' fun b => decide (b ≠ e)
  have gk : ∀ b, b ≠ e → G.get? b = h'.get? b := fun b hb => g1 b (decide_eq_true hb)
  have ge : G.get? e = none := g2 e (by simp)
  have ob : ObjOk X.prog X.w (upd H1 d (.xd [(p, v)])) G d (.xd [(p, v)]) := ⟨_, M.ns.at (fun o q => (gk d M.dne).trans q), fun f => relO_one ru f⟩
  have J : Inv X pins σ (upd H1 d (.xd [(p, v)])) ⟨G, s1.gens, s1.drawn, tk, s1.os⟩ := I1.laid (t' := tk) (fun b o q => (gk b (Nat.ne_of_lt (Nat.lt_of_lt_of_le (Heap.lt_size q) M.new))).trans (M.keep b o q)) M.dbig ob
  refine ⟨e, _, _, ⟨G, s1.gens, s1.drawn, tk, s1.os⟩, _, .ref C, some d, rfl, J, fun b o q => ?_, ge, ho, ⟨rfl, rfl⟩, rfl, rfl, ?_, rfl, I1.bare, raises_own T.ex T.ty, q d (I1.hok.fresh M.dbig)⟩
  · by_cases hb : b = e
    · have z : G.get? b = some o := q
      rw [hb, ge] at z
      cases z
    · exact (gk b hb).symm.trans q
  · rw [upd_ne (Ne.symm M.dne)]
    exact I1.hok.fresh M.new
/-- raise X() -/
theorem pmk_0 {np pos : Pos} (T : EcK X.K C) (h0 : PySem.W.findIn X.K (.ref C) "__init__" = some (some (.builtin "Exception.__init__"))) (gC : X.mg x = some (.ref C)) (hg : Gl X x := by rfl) (hdb : (x == ("__debug__" : Str)) = false := by decide) :
    PMk X (.Call (.Name x np) [] [] pos) (fun _ H Q => Q (.ref C) none H) := by
  intro pins s σ H Q I h
  refine wpAny_Call_Name_kw (ld_glob I hg gC ?_ hdb)
  refine PySem.W.callWith_K0 I.kIn T.kp (made0 T h0 I fun h' a t k na ha => ?_)
  have none_a : s.heap.get? a = none := by
    cases e : s.heap.get? a with
    | none => rfl
    | some o => exact absurd (Heap.lt_size e) (Nat.not_lt.mpr na)
  exact ⟨a, _, _, s, H, .ref C, none, rfl, I, k, none_a, ha, ⟨rfl, rfl⟩, rfl, rfl, I.hok.fresh na, rfl, I.bare, raises_own T.ex T.ty, h⟩
/-- a pinned exception that is newer than the def's entry is tracked -/
theorem Inv.track {a : Addr} {oe : Obj} {vs : Array Value} {cls : Value} {d : Option Addr} (I : Inv X ((a, oe) :: pins) σ H s) (hz : Zc cls d oe) (hv : oe.data = .fields vs) (h0 : X.s_0.heap.get? a = none) (hp : ∀ q ∈ X.pn ++ pins, q.1 ≠ a) :
    Inv X pins σ (upd H a (ExV cls d a)) s := by
  obtain ⟨hget, na, nL, nF, ncell⟩ := I.pin (a, oe) (List.mem_append_right _ List.mem_cons_self)
  have tr : ∀ b o, H b = some o → upd H a (ExV cls d a) b = some o := fun b o q => by rw [upd_ne (ne_of_none q na)]; exact q
  refine ⟨I.ok, I.os, I.bare, ⟨I.base.keep, I.base.slot, fun b o e n hx => ?_, I.base.there, fun b xs e => tr b _ (I.base.tups b xs e), fun b o xs e => tr b _ (I.base.frzs b o xs e), fun b ps e => ?_⟩, I.loc, I.cell, ?_, fun y c e => ?_, fun q hq => ?_, fun b o e => ?_, I.len⟩
  · have nb : b ≠ a := fun z => by
      rw [z, h0] at e
      cases e
    rw [upd_ne nb]
    exact I.base.free b o e n hx
  · obtain ⟨m, z⟩ := I.base.tbls b ps e
    exact ⟨m, tr b _ z⟩
  · rw [upd_ne (Ne.symm nL)]
    exact I.free
  · have nc : c ≠ a := fun z => by
      obtain ⟨v, o, ho, hd⟩ := I.cell y c e
      rw [z] at ho
      have hg2 : s.heap.get? a = some oe := hget
      rw [hg2] at ho
      cases ho
      exact ncell v hd
    rw [upd_ne nc]
    exact I.freeC y c e
  · obtain ⟨e1, n1, l1, f1, c1⟩ := I.pin q (by
      rcases List.mem_append.mp hq with z | z
      · exact List.mem_append_left _ z
      · exact List.mem_append_right _ (List.mem_cons_of_mem _ z))
    exact ⟨e1, by rw [upd_ne (hp q hq)]; exact n1, l1, f1, c1⟩
  · by_cases hb : b = a
    · subst hb
      rw [upd_same] at e
      cases e
      exact exV_ok hget hz hv
    · rw [upd_ne hb] at e
      exact (I.hok b o e).stay (fun c v _ z => z) (fun c z => tr c _ z) fun c xs z => tr c _ z
theorem Inv.unsuiteP {a : Addr} {q : Addr × Obj} (I : Inv (X.suite a (q :: (X.pn ++ pins))) [] σ H s) (ok : X.Ok) : Inv X (q :: pins) σ H s :=
  ⟨ok, I.os, I.bare, I.base, I.loc, I.cell, I.free, I.freeC, fun r hr => I.pin r (List.mem_append_left _ (by
    rcases List.mem_append.mp hr with z | z
    · exact List.mem_cons_of_mem _ (List.mem_append_left _ z)
    · rcases List.mem_cons.mp z with z | z
      · rw [z]
        exact List.mem_cons_self
      · exact List.mem_cons_of_mem _ (List.mem_append_right _ z))), I.hok, I.len⟩
end
/-- what 'except x as n' wishes of an exception of the body; behind the suite the exception is tracked -/
def wKeep (K : PySem.W.Frag) (c : Value) (i : Nat) (ts : Addr → Value → Option Addr → TS) (Wout : WX) (D : Ends) : WX := fun cls d σ H =>
  ∃ b, PySem.W.exmOne K cls c = some b ∧ (b = true → ∀ a, H a = none → ts a cls d { nx := fun σ' H' => D.nx (σ'.set i none) (upd H' a (ExV cls d a)), rt := fun v H' => D.rt v (upd H' a (ExV cls d a)), bk := fun σ' H' => D.bk (σ'.set i none) (upd H' a (ExV cls d a)), ct := fun σ' H' => D.ct (σ'.set i none) (upd H' a (ExV cls d a)) } (σ.set i (some (.ref a))) H) ∧ (b = false → Wout cls d σ H)
section
variable {X : Cx} {x n : Str} {c : Value} {i : Nat} {body suite : List Stmt} {b₀ : Stmt} {np pos pos' : Pos} {tb : WX → TS} {ts : Addr → Value → Option Addr → TS} {Wout : WX}
theorem ps_try_keep (hex : X.ex = []) (hs : X.stack = X.env :: X.outer) (hf : X.env.frame = some X.env.locals) (hN : X.N.Nodup) (hi : X.N[i]? = some n) (hln : X.env.kindOf n = some .local) (hc : Names X x c) (tk : Takes X Wout)
    (hb : ∀ (W : WX) (pn : List (Addr × Obj)) (xe : Value → Shared → Prop), Takes (X.tr pn xe) W → PassesOwn (model X.prog X.w) X.A X.env xe → PSs (X.tr pn xe) body (tb W))
    (hsu : ∀ (a : Addr) (oe : Obj) (cls : Value) (d : Option Addr) (pn : List (Addr × Obj)), Zc cls d oe → (∃ vs, oe.data = .fields vs) → PSs (X.suite a ((a, oe) :: pn)) (b₀ :: suite) (ts a cls d)) :
    PS X (.Try body [.ExceptHandler (some (.Name x np)) (some n) (b₀ :: suite) pos'] [] [] pos) (fun D σ H => tb (wKeep X.K c i ts Wout D) D σ H) := by
  refine ⟨fun pins s σ H D I h => ?_⟩
  have ok := I.ok
  have hfr : X.A.frames = some (X.env :: X.outer) := by rw [ok.frames, hs]
  have locN : Loc X.env.scope n := .inl hln
  refine wpAny_Try_except ?_
  refine wpAny_mono ((hb (wKeep X.K c i ts Wout D) (X.pn ++ pins) (fun e s₁ => wpAny (model X.prog X.w) X.A (noteFrame e X.env) (fun _ s₂ => wpAny (model X.prog X.w) X.A (setFlight e none)
    (fun _ s₃ => wpAny (model X.prog X.w) X.A (handleBy e X.env [.ExceptHandler (some (.Name x np)) (some n) (b₀ :: suite) pos']) (SP X pins D) X.xe s₃) X.xe s₂) X.xe s₁) (fun u s' xx => ?_) PassesOwn.looking).run [] s σ H D (I.toTry _) h)
    (fun f s1 hsp => ?_) (fun e s1 he => he)
  · obtain ⟨a, B, sI, pins', σ', H', cls, d, rfl, J', nb, up, sky, na, os, ag, b, hb1, hyes, hno⟩ := xx
    have J : Inv X pins σ' H' sI := J'.ofTry ok
    have sky2 : Sky B (X.env :: X.outer) a (Zc cls d) X.env.locals s'.heap := by rw [← hs]; exact sky
    have notB : B.get? a = none := by
      rcases sky with ⟨_, z, _⟩ | z | z
      · exact z
      · exact z.2.1
      · exact z.2.1
    show wpAny (model X.prog X.w) X.A (noteFrame (.ref a) X.env) _ _ _
    refine Sky.land Zc.steady hfr hf sky2 fun h3 fl3 up3 => ?_
    have J3 : Inv X pins σ' H' { s' with heap := h3 } := J.landed nb fl3.1 (up.trans up3) os ag
    obtain ⟨oe3, vs3, he3, hz3, hd3⟩ := fl3.there
    have nfr : a ∉ frs (X.env :: X.outer) := fun hm => by
      obtain ⟨_, o', e', hnf⟩ := fl3.2.2.1.mem hm
      rw [he3] at e'
      cases e'
      exact hnf _ hd3
    have notI : sI.heap.get? a = none := by
      cases e : sI.heap.get? a with
      | none => rfl
      | some o =>
        have z := nb a o e (by rw [hs]; exact nfr)
        rw [notB] at z
        cases z
    have not0 : X.s_0.heap.get? a = none := by
      cases e : X.s_0.heap.get? a with
      | none => rfl
      | some o =>
        obtain ⟨o', z⟩ := J.base.there a o e (by rw [hex]; exact fun z => nomatch z)
        rw [notI] at z
        cases z
    have nPin : ∀ q ∈ X.pn ++ pins, q.1 ≠ a := fun q hq z => by
      have y := (J'.pin q (List.mem_append_left _ hq)).1
      rw [z, notI] at y
      cases y
    have nL : a ≠ X.env.locals := fun z => nfr (List.mem_filterMap.mpr ⟨X.env, List.mem_cons_self, by rw [hf, z]⟩)
    have nF : a ∉ X.fs := fun hm => by
      obtain ⟨e, he, q⟩ := List.mem_filterMap.mp hm
      exact nfr (List.mem_filterMap.mpr ⟨e, List.mem_cons_of_mem _ he, q⟩)
    have S3 := J3.suite he3 hd3 na nL nF
    refine wpAny_handleBy_cons (codeAny_handlers_test ?_) (by intro q; cases q)
    have LT : PySem.W.Looks (model X.prog X.w) h3 (typeOf (.ref a)) cls := fun A Q E s k q => wpAny_typeOf_ref (k _ _ he3) (by rw [hz3.1]; exact q)
    have LM := PySem.W.exm_one (M := model X.prog X.w) (J3.kIn) LT hb1
    have test : ∀ {Q : Value → Shared → Prop} {E : Value → Shared → Prop}, Q c { s' with heap := h3 } → wpAny (model X.prog X.w) (X.A.mark (some (.ref a))) (eval (.Name x np) X.env) Q E { s' with heap := h3 } := fun {Q E} q => by
      obtain ⟨hg, hdbg, hm | ⟨hm, hv, hnn⟩⟩ := hc
      · exact ld_glob (X := X.suite a ((a, oe3) :: (X.pn ++ pins))) S3 hg hm q hdbg
      · exact ld_blt (X := X.suite a ((a, oe3) :: (X.pn ++ pins))) S3 hg hm hv q hnn hdbg
    refine test (LM.here ?_)
    cases b with
    | true =>
      refine codeAny_handlers_suite_as ?_
      refine HandSPX.lands_againZ fl3 fun h4 fl4 up4 => ?_
      have J4 : Inv X pins σ' H' { s' with heap := h4 } := J.landed nb fl4.1 ((up.trans up3).trans up4) os ag
      obtain ⟨oe4, vs4, he4, hz4, hd4⟩ := fl4.there
      have S4 := J4.suite he4 hd4 na nL nF
      refine store_ok (X := X.suite a ((a, oe4) :: (X.pn ++ pins))) (v := .ref a) S4 hN hi locN rfl (fun s5 S5 => ?_) (.inr hln)
      refine wpAny_mono ((hsu a oe4 cls d (X.pn ++ pins) hz4 ⟨_, hd4⟩).run [] s5 _ H' _ S5 (hyes rfl a na)) (fun f s6 hsp => ?_) (fun _ _ z => False.elim z)
      have fin : ∀ {σ6 : L2.St} {H6 : Hp} {Q : Shared → Prop}, Inv (X.suite a ((a, oe4) :: (X.pn ++ pins))) [] σ6 H6 s6 → (∀ s7, Inv X pins (σ6.set i none) (upd H6 a (ExV cls d a)) s7 → Q s7) →
          wpAny (model X.prog X.w) X.A (do bindName X.env n .none; unbindBehindTheSuite X.env n pos') (fun _ s7 => Q s7) X.xe s6 :=
        fun {σ6 H6 Q} S6 hq => gone_ok (Inv.unsuiteP S6 ok) hN hi hln fun s7 J7 => hq s7 (Inv.track J7 hz4 hd4 not0 nPin)
      cases f with
      | next =>
        obtain ⟨σ6, H6, S6, q6⟩ := hsp
        exact fin S6 fun s7 J7 => ⟨_, _, J7, q6⟩
      | brk =>
        obtain ⟨σ6, H6, S6, q6⟩ := hsp
        exact fin S6 fun s7 J7 => ⟨_, _, J7, q6⟩
      | cont =>
        obtain ⟨σ6, H6, S6, q6⟩ := hsp
        exact fin S6 fun s7 J7 => ⟨_, _, J7, q6⟩
      | ret u =>
        obtain ⟨v6, σ6, H6, S6, r6, q6⟩ := hsp
        exact fin S6 fun s7 J7 => ⟨_, _, _, J7, r6, q6⟩
    | false =>
      show wpAny _ X.A (handleBy (.ref a) X.env []) _ _ _
      refine wpAny_handleBy_nil ?_
      obtain ⟨k1, k2, k3, oe, vs, T, oT, ts', he, hz, hd, h1, hr⟩ := id fl3
      unfold PySem.passOn
      refine wpAny_bind (wpAny_field he hd h1 ?_)
      rw [if_neg (show ¬ ((Value.ref T == Value.none) = true) from by simp)]
      have fin : wpAny (model X.prog X.w) X.A (setFlight (.ref a) X.env.frame) (fun _ s4 => wpAny (model X.prog X.w) X.A (throw (.ref a) : Sem Flow) (SP X pins D) X.xe s4) X.xe { s' with heap := h3 } := by
        rw [hf]
        refine HandSPX.setFlight_upZ fl3 fun h4 hh4 up4 => wpAny_throw (tk _ _ ?_)
        exact ⟨a, B, sI, pins, σ', H', cls, d, rfl, J, nb, (up.trans up3).trans up4, .inr (.inr (by rw [hs]; exact hh4)), na, os, ag, hno rfl⟩
      first
        | exact wpAny_bind (wpAny_pure (wpAny_bind fin))
        | exact wpAny_bind fin
  · cases f with
    | next =>
      obtain ⟨σ', H', J', q⟩ := hsp
      exact wpAny_execs_nil ⟨σ', H', J'.ofTry ok, q⟩
    | brk =>
      obtain ⟨σ', H', J', q⟩ := hsp
      exact ⟨σ', H', J'.ofTry ok, q⟩
    | cont =>
      obtain ⟨σ', H', J', q⟩ := hsp
      exact ⟨σ', H', J'.ofTry ok, q⟩
    | ret u =>
      obtain ⟨v, σ', H', J', r, q⟩ := hsp
      exact ⟨v, σ', H', J'.ofTry ok, r, q⟩
end
end Vk
set_option Elab.async false
set_option linter.all false
set_option maxRecDepth 100000
set_option maxHeartbeats 4000000
namespace Vk
open PySem PySem.Spec PyProof.Rows L2
abbrev St := L2.St
section
variable {X : Cx}
/-- a list comprehension, its list's place no table of the machine's -/
def tLcN (wi : TI) (g : TG) (tt : TT) (te : TE) (vs : List Nat) : TE := fun σ H Q => wi σ H fun J H1 => ∀ D, H1 D = none → D ≠ sysModules → ∃ W : Nat → Nat → Hp → Prop,
  (∃ m, W 0 m (upd H1 D (.lst []))) ∧ ∀ i m H, W i m H → (J.stop i H ∧ Q (.ref D) H) ∨ (J.go i H ∧ ∃ Nx : Hp → Prop, (∀ H', Nx H' → ∃ m', m' < m ∧ W (i + 1) m' H') ∧
    ∀ x H', J.yld i H x H' → g x (wipe σ vs) H' fun σ2 H2 => wipe σ2 vs = wipe σ vs ∧ tt σ2 H2 fun b H3 => if b = true then te σ2 H3 fun y H4 => ∃ acc, H4 D = some (.lst acc) ∧ acc.length < sizeLine ∧ Nx (upd H4 D (.lst (acc ++ [y]))) else Nx H3)
theorem lcN {pins : List (Addr × Obj)} {s : Shared} {σ : St} {H : Hp} {Q : VK} {elt tg iter : Expr} {ifs : List Expr} {scope : Scope} {own : List (Str × Nat)} {pos pos' : Pos} {wi : TI} {g : TG} {tt : TT} {te : TE} {use : Option (Value → Sem Unit)} {Qf : Value → Shared → Prop}
    (hc : X.calm = true) (hN : X.N.Nodup) (I : Inv X pins σ H s) (hi : PI X tg iter wi) (ok : BlkOk X.N X.env.scope scope own)
    (hg : ∀ (s : Shared) (H : Hp) (C : Addr) (cl : List (Str × Addr)) (fp : List Addr), PG (X.blk s H scope (compEnvC scope cl C X.env) fp) tg g) (ht : ∀ (s : Shared) (H : Hp) (C : Addr) (cl : List (Str × Addr)) (fp : List Addr), PTs (X.blk s H scope (compEnvC scope cl C X.env) fp) ifs tt)
    (he : ∀ (s : Shared) (H : Hp) (C : Addr) (cl : List (Str × Addr)) (fp : List Addr), PE (X.blk s H scope (compEnvC scope cl C X.env) fp) elt te) (hs : ∀ x, foldedSetIterable iter X.env x = pure x)
    (h : tLcN wi g tt te (own.map (·.2)) σ H Q)
    (post : ∀ D C s' m H', Inv X pins σ H' s' → Q (.ref D) H' → s'.heap.Ns C m → FpOk X pins H' C → compPost (model X.prog X.w) X.A X.xe use Qf (.ref D) C (.ok .next) s') :
    wpAny (model X.prog X.w) X.A (comprehension (.ListComp elt [⟨tg, iter, ifs, 0⟩] scope pos) scope X.env pos' (newList []) false (eval iter X.env) use) Qf X.xe s := by
  have allFree : ∀ y ∈ scope.names, y.2 = .free → ∃ c, X.env.cells.lookup y.1 = some c := fun y hy e => by
    rcases ok.free y hy e with k | k
    · exact I.ok.has _ (.inl k)
    · exact I.ok.has _ (.inr k)
  refine wpAny_comprehension_free (use := use) rfl hs (closure_ok allFree) ok.kind (fun y hy e => by rw [ok.uniq y hy, e])
    (thn (hi.run pins s σ H _ I h) fun xv z1 hx => thn hx fun itv z2 h2 => ?_)
  obtain ⟨it, fp, tn, J, G2, e, U2, T, at2, okF2, q⟩ := h2
  subst e
  refine wpAny_newObj_type (newEnv_comp ?_) (by show 0 ≤ sizeLine; decide)
  generalize eqD : z2.heap.objs.size = D
  have newD : G2 D = none := U2.hok.fresh (Nat.le_of_eq eqD)
  obtain ⟨W, ⟨start0, first⟩, turn⟩ := q D newD (by rw [← eqD]; exact Nat.ne_of_gt U2.big)
  -- the new list
  generalize eqz3 : ({ z2 with heap := z2.heap.push { cls := .type "list", data := .seq ([] : List Value).toArray } } : Shared) = z3
  have U3 : Inv X pins σ (upd G2 D (.lst [])) z3 := by
    rw [← eqz3]
    refine U2.laid (t' := z2.toks) (fun b o e => Heap.get?_push_of_some _ e) (Nat.le_of_eq eqD) ⟨Nat.zero_le _, [], 0, .nil, ?_⟩
    rw [← eqD]
    exact Heap.get?_push_size _ rfl
  have heap3 : z3.heap = z2.heap.push { cls := .type "list", data := .seq ([] : List Value).toArray } := by rw [← eqz3]
  have below : ∀ b ∈ fp, b < z2.heap.objs.size := fun b hb => by
    obtain ⟨o, e, _⟩ := T.obj _ _ at2 b hb
    exact Heap.lt_size e
  have okF : ∀ b ∈ fp, FpOk X pins (upd G2 D (.lst [])) b ∧ b < z3.heap.objs.size := fun b hb => by
    have hlt := below b hb
    refine ⟨⟨?_, (okF2 b hb).2⟩, by rw [heap3, Heap.size_push]; exact Nat.lt_succ_of_lt hlt⟩
    rw [upd_ne (by rw [← eqD]; exact Nat.ne_of_lt hlt)]
    exact (okF2 b hb).1
  have at3 : tn 0 z3.heap := T.keep _ _ _ at2 fun b _ o e => by rw [heap3]; exact Heap.get?_push_of_some _ e
  have U4 := block_start U3 ok hN okF
  have gg := hg z3 (upd G2 D (.lst [])) z3.heap.objs.size (cellsFrom (z3.heap.objs.size + 1) scope.names (cloFrom X.env.cells scope.names [])) fp
  have gt := ht z3 (upd G2 D (.lst [])) z3.heap.objs.size (cellsFrom (z3.heap.objs.size + 1) scope.names (cloFrom X.env.cells scope.names [])) fp
  have ge := he z3 (upd G2 D (.lst [])) z3.heap.objs.size (cellsFrom (z3.heap.objs.size + 1) scope.names (cloFrom X.env.cells scope.names [])) fp
  show codeAny _ _ (.compStart (.ListComp elt [⟨tg, iter, ifs, 0⟩] scope pos) 0 (.ref it) (.ref D) (compEnvC scope (cellsFrom (z3.heap.objs.size + 1) scope.names (cloFrom X.env.cells scope.names [])) z3.heap.objs.size X.env)) (compPost (model X.prog X.w) X.A X.xe use Qf (.ref D) z3.heap.objs.size) { z3 with heap := pushCells (z3.heap.push { cls := .type "dict", data := .dict #[] }) scope.names }
  have noF : ∀ b ∈ fp, (upd G2 D (.lst [])) b = none := fun b hb => (okF b hb).1.1
  generalize eqC : compEnvC scope (cellsFrom (z3.heap.objs.size + 1) scope.names (cloFrom X.env.cells scope.names [])) z3.heap.objs.size X.env = cenv at U4 gg gt ge ⊢
  have locC : cenv.locals = z3.heap.objs.size := by subst eqC; rfl
  generalize eqG3 : upd G2 D (.lst []) = G3 at U3 U4 gg gt ge first noF okF
  generalize eqz4 : ({ z3 with heap := pushCells (z3.heap.push { cls := .type "dict", data := .dict #[] }) scope.names } : Shared) = z4 at U4 ⊢
  have at4 : tn 0 z4.heap := T.keep _ _ _ at3 fun b _ o e => by rw [← eqz4]; exact pushCells_keeps _ _ _ _ (Heap.get?_push_of_some _ e)
  have still : ∀ {σ' : St} {H' : Hp} {s' : Shared}, Inv (X.blk z3 G3 scope cenv fp) [] σ' H' s' → (∀ b ∈ fp, H' b = none) → ∀ b ∈ fp, FpOk (X.blk z3 G3 scope cenv fp) [] H' b := fun {σ' H' s'} I' nsC b hb =>
    ⟨nsC b hb, (I'.ok.exf b hb).1, I'.ok.exfs b hb, .inl hb, fun x c e => (I'.ok.exf b hb).2 x c e, fun p hp => absurd (show p ∈ ([] : List (Addr × Obj)) ++ [] from hp) (by simp)⟩
  have loop : codeAny (model X.prog X.w) X.A (.compLoop (.ListComp elt [⟨tg, iter, ifs, 0⟩] scope pos) 0 (.ref it) (.ref D) cenv) (compPost (model X.prog X.w) X.A X.xe use Qf (.ref D) z3.heap.objs.size) z4 := by
    refine compLoop_any (fun n s' => ∃ i H', Inv (X.blk z3 G3 scope cenv fp) [] (wipe σ (own.map (·.2))) H' s' ∧ tn i s'.heap ∧ (∀ b ∈ fp, H' b = none) ∧ W i n H') ?_ start0 ⟨0, G3, U4, at4, noF, first⟩
    rintro n z5 ⟨i, G5, U5, at5, no5, at_w⟩
    rcases turn i n G5 at_w with ⟨stop, fin0⟩ | ⟨go, Nx, toNx, goStep⟩
    · have stopD := T.done (X.blk z3 G3 scope cenv fp) rfl rfl rfl hc i [] z5 _ G5 (fun _ _ => False) U5 (still U5 no5) at5 stop
      refine thnF stopD fun r z6 ⟨isR, U6⟩ => ?_
      subst isR
      -- back in the def's context
      have U7 : Inv X pins σ G5 z6 := U3.call' (ch := fp) U6.os U6.base U6.hok U6.bare fun b hb => ⟨(okF b hb).1.2.2.2.1, (okF b hb).1.2.1, (okF b hb).1.2.2.2.2.1, (okF b hb).1.2.2.2.2.2⟩
      have freeC0 : G5 z3.heap.objs.size = none := by
        have z : G5 cenv.locals = none := U6.free
        rw [locC] at z
        exact z
      obtain ⟨m, nsC, _⟩ := U6.loc
      have nsC : z6.heap.Ns cenv.locals m := nsC
      rw [locC] at nsC
      exact post D z3.heap.objs.size z6 m G5 U7 fin0 nsC (U3.fpOk (Nat.le_refl _) freeC0)
    · have itemD := T.item (X.blk z3 G3 scope cenv fp) rfl rfl rfl hc i [] z5 _ G5 (fun _ _ => False) U5 (still U5 no5) at5 go
      refine thnF itemD fun r z6 ⟨u, isR, next6⟩ => ?_
      subst isR
      refine thnF next6 fun _ z7 ⟨x, G7, U7, rel7, yield7, at7, no7⟩ => ?_
      have U7b := U7.pinned (still U7 no7) (T.obj _ _ at7)
      refine thnF (gg.run _ z7 _ G7 x u _ U7b rel7 (goStep x G7 yield7)) fun _ z8 ⟨σe, G8, U8, wiped, r8⟩ => ?_
      refine thnF (gt.run _ z8 σe G8 _ U8 r8) fun b z9 ⟨G9, U9, r9⟩ => ?_
      -- the turn's end
      have close : ∀ {s' : Shared} {H' : Hp}, Inv (X.blk z3 G3 scope cenv fp) ([] ++ pinsAt fp z7.heap) σe H' s' → Nx H' → ∃ m, m < n ∧ ∃ i H', Inv (X.blk z3 G3 scope cenv fp) [] (wipe σ (own.map (·.2))) H' s' ∧ tn i s'.heap ∧ (∀ b ∈ fp, H' b = none) ∧ W i m H' := fun {s' H'} I' isNx => by
        obtain ⟨m', lt0, w'⟩ := toNx H' isNx
        have pinned0 : ∀ b ∈ fp, ∀ o, z7.heap.get? b = some o → s'.heap.get? b = some o ∧ H' b = none := fun b hb o e =>
          let z := I'.pin (b, o) (List.mem_append_right _ (List.mem_append_right _ (mem_pinsAt hb e)))
          ⟨z.1, z.2.1⟩
        have lenE : (wipe σ (own.map (·.2))).length = σe.length := by rw [← wiped, wipe_length]
        refine ⟨m', lt0, i + 1, H', (I'.unpinned (pins := [])).weak lenE (fun j v e => ?_), T.keep _ _ _ at7 fun b hb o e => (pinned0 b hb o e).1, fun b hb => ?_, w'⟩
        · rw [← wiped] at e
          exact (wipe_some e).1
        · obtain ⟨o, e, _⟩ := T.obj _ _ at7 b hb
          exact (pinned0 b hb o e).2
      cases b with
      | false =>
        simp only [Bool.false_eq_true, if_false] at r9 ⊢
        exact close U9 r9
      | true =>
        simp only [if_true] at r9 ⊢
        refine thnF (ge.run _ z9 σe G9 _ U9 r9) fun z z10 ⟨yv, G10, U10, rel10, acc, atD, small, isNx⟩ => ?_
        exact app_ok (X := X.blk z3 G3 scope cenv fp) U10 atD small rel10 fun z11 U11 => close U11 isNx
  exact codeAny_compStart_list loop (T.self X.A 0 _ _ _ at4 loop)
theorem pe_lcN {elt tg iter : Expr} {ifs : List Expr} {scope : Scope} {own : List (Str × Nat)} {pos : Pos} {wi : TI} {g : TG} {tt : TT} {te : TE} (hc : X.calm = true) (hN : X.N.Nodup) (hi : PI X tg iter wi) (ok : BlkOk X.N X.env.scope scope own)
    (hg : ∀ (s : Shared) (H : Hp) (C : Addr) (cl : List (Str × Addr)) (fp : List Addr), PG (X.blk s H scope (compEnvC scope cl C X.env) fp) tg g)
    (ht : ∀ (s : Shared) (H : Hp) (C : Addr) (cl : List (Str × Addr)) (fp : List Addr), PTs (X.blk s H scope (compEnvC scope cl C X.env) fp) ifs tt)
    (he : ∀ (s : Shared) (H : Hp) (C : Addr) (cl : List (Str × Addr)) (fp : List Addr), PE (X.blk s H scope (compEnvC scope cl C X.env) fp) elt te)
    (hs : ∀ x, foldedSetIterable iter X.env x = pure x := by intro _; rfl) : PE X (.ListComp elt [⟨tg, iter, ifs, 0⟩] scope pos) (tLcN wi g tt te (own.map (·.2))) := by
  refine ⟨fun pins s σ H Q I h => ?_⟩
  rw [eval_ListComp]
  refine lcN hc hN I hi ok hg ht he hs h fun D C s' m H' I' q hn f => ⟨m, hn, fun h2 sb => ?_⟩
  obtain ⟨f0, f1, f2, f3, f4, f5⟩ := f
  exact ⟨.ref D, H', I'.turned (t' := s'.toks) (fun b o hb e => (sb.2 b hb).trans e) f0 f1 f3 f4 f5, rfl, q⟩
end
end Vk
set_option Elab.async false
set_option linter.all false
set_option maxRecDepth 100000
set_option maxHeartbeats 4000000
/-! Own ==, != and str() of an instance, by the promise of the class's own def. -/
namespace PySem.W
open PySem PySem.Spec PySem.Calls PyProof.Rows
section
variable {prog : Program} {w : World} {A : Around} {E : Value → Shared → Prop} {s : Shared} {K : Frag} {x C f : Addr} {ox : Obj} {od : Option Obj} {name : Str} {b tb : Value}
theorem bound_bi {M : Model} {args : List Value} {id : String} {Q : Option Value → Shared → Prop} (X : K.In s.heap) (I : InstAt s.heap x ox C od) (hs : findIn K (.ref C) name = some (some (.builtin id)))
    (hb : ∀ self, bindSpecial (.builtin id) self = pure (.builtin id, [self])) (h : wpAny M A (call (.builtin id) (.ref x :: args)) (fun v => Q (some v)) E s) : wpAny M A (callSpecialIfBound? (.ref x) name args) Q E s := by
  simp only [callSpecialIfBound?, bindSpecialIfBound?]
  refine wpAny_holding (wpAny_bind (wpAny_bind (wpAny_bind (I.type.here ((looks_findIn X hs).here ?_)))))
  refine wpAny_bind (wpAny_askSetting (wpAny_ite ?_))
  have fin : wpAny M A (call (.builtin id) ([.ref x] ++ args) >>= fun v => pure (some v)) Q E s := wpAny_bind (wpAny_mono h (fun v s' h' => wpAny_pure h') fun _ _ h' => h')
  split
  · exact wpAny_bind ((Looks.of_pure (hb _)).here (wpAny_pure (by exact fin)))
  · exact wpAny_tryCatch (wpAny_bind ((Looks.of_pure (hb _)).here (wpAny_pure (by exact fin))))
/-- what an own == hands back: a bool, told to Q -/
def TF (Q : Bool → Shared → Prop) (v : Value) (s' : Shared) : Prop := ∃ r, v = .bool r ∧ Q r s'
open Builtin in
theorem own_ne_body {Q : Fin → Shared → Prop} (hu : A.units < cLine) (X : K.In s.heap) (I : InstAt s.heap x ox C od) (hs : findIn K (.ref C) "__eq__" = some (some (.ref f))) (hf : isFn K (.ref f) = true)
    (h : wpAny (model prog w) A (call (.ref f) [.ref x, b]) (TF fun r s' => Q (.done (.ret (.bool (!r)))) s') E s) : wpAny (model prog w) A (Builtin.«object.__ne__» ⟨[.ref x, b], []⟩) Q E s := by
  unfold Builtin.«object.__ne__»
  refine wpAny_bind (m := slotArgs "__ne__" 1 _) (wpAny_pure ?_)
  refine wpAny_bind (m := cRoomFor _ _) (wpAny_cRoomFor hu ?_)
  refine wpAny_bind (m := callSpecialIfBound? (.ref x) (Str.ofString "__eq__") _) (ifBound_K X I hs hf (wpAny_mono h (fun r s' hq => ?_) fun _ _ y => y))
  obtain ⟨r', rfl, hq⟩ := hq
  refine wpAny_bind (wpAny_truthy_bool ?_)
  exact wpAny_pure hq
theorem neq_K {Q : Value → Shared → Prop} (hu : A.units < cLine) (hu1 : A.in1.units < cLine) (X : K.In s.heap) (I : InstAt s.heap x ox C od) (hb : Looks (model prog w) s.heap (typeOf b) tb) (hn : notFirst K C tb = true)
    (hm : mroIn K C (.type "object") = some true) (hne : findIn K (.ref C) "__ne__" = some (some (.builtin "object.__ne__"))) (hs : findIn K (.ref C) "__eq__" = some (some (.ref f))) (hf : isFn K (.ref f) = true)
    (hbind : ∀ self, bindSpecial (.builtin "object.__ne__") self = pure (.builtin "object.__ne__", [self])) (hpl : plainId "object.__ne__" = true)
    (h : wpAny (model prog w) A.in1 (call (.ref f) [.ref x, b]) (TF fun r s' => Q (.bool (!r)) s') E s) : wpAny (model prog w) A (richCompare .NotEq (.ref x) b) Q E s := by
  have one : wpAny (model prog w) A (tryCompare (.ref x) (cmpInfo .NotEq).2.1 b) (fun r s' => ∃ v, r = some v ∧ Q v s') E s := by
    unfold tryCompare
    refine wpAny_bind (bound_bi X I hne hbind (wpAny_call (codeAny_call_builtin hpl F.cmpEntry_ne (check_slot (i := "object.__ne__") (owner := "object") (n := "__ne__") F.cmpKind_ne F.cmpSplit_ne (I.type.andThen (looks_mroIn X hm)) (F.cmpArgs_ne _ _)
      (own_ne_body hu1 X I hs hf (wpAny_mono h (fun v s' hv => ?_) fun _ _ e => e))))))
    obtain ⟨r, rfl, hq⟩ := hv
    exact ⟨r, rfl, wpAny_pure ⟨_, rfl, hq⟩⟩
  unfold richCompare
  simp only [oneThing_ref]
  refine wpAny_holding (wpAny_bind (wpAny_cRoomFor hu ?_))
  refine wpAny_bind (I.type.here (wpAny_bind (hb.here ?_)))
  split
  · rename_i q
    have e : subIn K tb (.ref C) = some false := by
      rcases Bool.or_eq_true_iff.mp hn with e | e
      · rw [beq_iff_eq.mp e] at q; simp at q
      · exact beq_iff_eq.mp e
    refine wpAny_bind ((looks_subIn X e).here ?_)
    simp only [Bool.false_eq_true, if_false]
    refine wpAny_bind (wpAny_mono one (fun r s' z => ?_) fun _ _ e => e)
    obtain ⟨v, rfl, hq⟩ := z
    exact wpAny_pure hq
  · refine wpAny_bind (wpAny_pure ?_)
    simp only [Bool.false_eq_true, if_false]
    refine wpAny_bind (wpAny_mono one (fun r s' z => ?_) fun _ _ e => e)
    obtain ⟨v, rfl, hq⟩ := z
    exact wpAny_pure hq
end
end PySem.W

namespace Vk
open PySem PySem.Spec PyProof.Rows L2
/-- the type of a value, as richCompare looks it up -/
def TyOf (X : Cx) (H : Hp) (y : V) (tb : Value) : Prop := ∀ pins σ s u, Inv X pins σ H s → RelV y u → PySem.W.Looks (model X.prog X.w) s.heap (typeOf u) tb
section
variable {X : Cx} {H : Hp} {CX : CXT} {k : Nat} {f C : Addr} {fd : FuncData} {ps : List Str} {sp : Sp} {E : XK}
theorem ty_ins {b dx : Addr} {fs : List (Str × V)} (h : H b = some (.ins C dx fs)) : TyOf X H (.ref b) (.ref C) := fun pins σ s u I r => by
  cases r
  obtain ⟨m, J, _⟩ := ins_get I.hok h
  obtain ⟨od, J, _⟩ := J.look
  exact J.type
theorem ty_str {z : Str} : TyOf X H (.str z) (.type "str") := fun pins σ s u I r => by
  obtain ⟨t, rfl⟩ := r
  exact .of_pure rfl
theorem ty_int {i : Int} : TyOf X H (.int i) (.type "int") := fun pins σ s u I r => by
  obtain ⟨t, rfl⟩ := r
  exact .of_pure rfl
theorem ty_lst {a : Addr} {xs : List V} (h : SqL X.K H a xs) : TyOf X H (.ref a) (.type "list") := fun pins σ s u I r => by
  cases r
  obtain ⟨its, rv, ⟨o, n, ho, hc, _, hd⟩, _⟩ := I.list h
  rw [← hc]
  exact (PySem.W.Looks.ld (part := none) ho).andThen .now
theorem ty_tup {a : Addr} {xs : List V} (h : SqT X.K H a xs) : TyOf X H (.ref a) (.type "tuple") := fun pins σ s u I r => by
  cases r
  obtain ⟨its, rv, ⟨o, ho, hc, n, hd⟩, _⟩ := I.tuple h
  rw [← hc]
  exact (PySem.W.Looks.ld (part := none) ho).andThen .now
/-- the run of an own def below the running one -/
theorem own_run (F : FnOk X.prog X.w X.K X.mg X.base CX k f fd ps sp) (hb : Binds X.K fd ps []) (hx : Passes CX X E) {A : Around} (hr : Room k A) (hfr : A.frames = X.A.frames) {pins : List (Addr × Obj)} {s : Shared} {σ : L2.St} {vs : List V} {us : List Value} {Q : VK} {R : Value → Shared → Prop}
    (I : Inv X pins σ H s) (r : Vals vs us) (h : sp vs H Q E) (hR : ∀ v s', EP X pins σ Q v s' → R v s') : wpAny (model X.prog X.w) A (call (.ref f) us) R X.xe s := by
  have e0 : Env0 X.prog X.w X.K X.mg X.base A X.stack s H := by
    have e := I.env0
    exact ⟨by rw [hfr]; exact e.frames, e.mod, e.bs, e.bsz, e.funs, e.frf, e.hok, e.bare⟩
  have hl := F.len _ _ _ _ h
  have bt := hb s us I.kIn (by rw [List.append_nil]; exact r.length.symm.trans hl)
  rw [List.append_nil] at bt
  refine wpAny_call (codeAny_mono (F.run A X.stack s H ⟨us, []⟩ us vs Q E hr e0 bt r h) fun z s' hq => ?_)
  cases z with
  | error e => exact hx pins σ H s e s' I hq
  | ok fl =>
    cases fl with
    | ret w => exact hR w s' (I.after hq)
    | next => exact hq.elim
    | brk => exact hq.elim
    | cont => exact hq.elim
/-- str(o) by the own __str__ -/
def rStrO (C : Addr) (sp : Sp) (E : XK) : List V → Hp → VK → Prop := fun vs H Q => ∃ a dx fs, vs = [.ref a] ∧ H a = some (.ins C dx fs) ∧ sp [.ref a] H (fun v H' => ∃ z, v = .str z ∧ Q (.str z) H') E
theorem cr_strO (F : FnOk X.prog X.w X.K X.mg X.base CX k f fd ps sp) (hr : Room (k + 2) X.A) (hs : PySem.W.findIn X.K (.ref C) "__str__" = some (some (.ref f))) (hf : PySem.W.isFn X.K (.ref f) = true) (hb : Binds X.K fd ps []) (hx : Passes CX X E) :
    CallR X (.type "str") (rStrO C sp E) := by
  intro pins s σ H xs us Q I rv h
  obtain ⟨a, dx, fs, rfl, ha, hsp⟩ := h
  cases rv with
  | cons h1 h2 =>
    cases h2
    cases h1
    obtain ⟨m, J, _⟩ := ins_get I.hok ha
    obtain ⟨od, J, _⟩ := J.look
    refine PySem.W.kso_call hr.in1.in1.units0 I.kIn J hs hf (own_run F hb hx hr.in1.in1 rfl I (Paired.cons (F := RelV) (a := V.ref a) rfl .nil) hsp fun v s' z => ?_)
    obtain ⟨v', H', I', r', z', e, q⟩ := z
    subst e
    obtain ⟨t, rfl⟩ := r'
    exact ⟨V.str z', H', I', ⟨t, rfl⟩, q⟩
/-- x == y, x != y by the own __eq__ -/
def rCmpO (X : Cx) (C : Addr) (sp : Sp) (E : XK) (g : Bool → Bool) : R2 := fun x y H Q => ∃ a dx fs tb, x = .ref a ∧ H a = some (.ins C dx fs) ∧ TyOf X H y tb ∧ PySem.W.notFirst X.K C tb = true ∧ sp [.ref a, y] H (fun v H' => ∃ r, v = .bl r ∧ Q (.bl (g r)) H') E
theorem op_eqO (F : FnOk X.prog X.w X.K X.mg X.base CX k f fd ps sp) (hr : Room k X.A) (hs : PySem.W.findIn X.K (.ref C) "__eq__" = some (some (.ref f))) (hf : PySem.W.isFn X.K (.ref f) = true) (hb : Binds X.K fd ps []) (hx : Passes CX X E) :
    OpR X (compareOp .Eq) (rCmpO X C sp E id) := by
  intro pins s σ H x y v u Q I rx ry h
  obtain ⟨a, dx, fs, tb, rfl, ha, ht, hn, hsp⟩ := h
  cases rx
  obtain ⟨m, J, _⟩ := ins_get I.hok ha
  obtain ⟨od, J, _⟩ := J.look
  obtain ⟨m', hF⟩ := I.fr
  refine PySem.W.cmp_K (op := .Eq) hr.units0 hF I.ok.mod.kin J (ht pins σ s u I ry) hn hs hf (own_run F hb hx hr rfl I (Paired.cons (F := RelV) (a := V.ref a) rfl (.cons ry .nil)) hsp fun v s' z => ?_)
  obtain ⟨v', H', I', r', z', e, q⟩ := z
  subst e
  cases r'
  exact ⟨V.bl z', H', I', rfl, q⟩
theorem op_neO (F : FnOk X.prog X.w X.K X.mg X.base CX k f fd ps sp) (hr : Room (k + 1) X.A) (hm : PySem.W.mroIn X.K C (.type "object") = some true) (hne : PySem.W.findIn X.K (.ref C) "__ne__" = some (some (.builtin "object.__ne__")))
    (hs : PySem.W.findIn X.K (.ref C) "__eq__" = some (some (.ref f))) (hf : PySem.W.isFn X.K (.ref f) = true) (hb : Binds X.K fd ps []) (hx : Passes CX X E) : OpR X (compareOp .NotEq) (rCmpO X C sp E not) := by
  intro pins s σ H x y v u Q I rx ry h
  obtain ⟨a, dx, fs, tb, rfl, ha, ht, hn, hsp⟩ := h
  cases rx
  obtain ⟨m, J, _⟩ := ins_get I.hok ha
  obtain ⟨od, J, _⟩ := J.look
  refine PySem.W.neq_K hr.units0 hr.in1.units0 I.kIn J (ht pins σ s u I ry) hn hm hne hs hf PySem.F.slot_zip_ne.bind PySem.F.slot_zip_ne.plain (own_run F hb hx hr.in1 rfl I (Paired.cons (F := RelV) (a := V.ref a) rfl (.cons ry .nil)) hsp fun v s' z => ?_)
  obtain ⟨v', H', I', r', z', e, q⟩ := z
  subst e
  cases r'
  exact ⟨_, rfl, V.bl (!z'), H', I', rfl, q⟩
/-- y in o by the own __contains__ -/
def rInO (C : Addr) (sp : Sp) (E : XK) (g : Bool → Bool) : R2 := fun x y H Q => ∃ a dx fs, y = .ref a ∧ H a = some (.ins C dx fs) ∧ sp [.ref a, x] H (fun v H' => ∃ r, v = .bl r ∧ Q (.bl (g r)) H') E
theorem op_inO (F : FnOk X.prog X.w X.K X.mg X.base CX k f fd ps sp) (hr : Room k X.A) (hs : PySem.W.findIn X.K (.ref C) "__contains__" = some (some (.ref f))) (hf : PySem.W.isFn X.K (.ref f) = true) (hb : Binds X.K fd ps []) (hx : Passes CX X E) :
    OpR X (compareOp .In) (rInO C sp E id) := by
  intro pins s σ H x y v u Q I rx ry h
  obtain ⟨a, dx, fs, rfl, ha, hsp⟩ := h
  cases ry
  obtain ⟨m, J, _⟩ := ins_get I.hok ha
  obtain ⟨od, J, _⟩ := J.look
  obtain ⟨m', hF⟩ := I.fr
  refine PySem.W.in_K hF I.ok.mod.kin J hs hf (own_run F hb hx hr rfl I (Paired.cons (F := RelV) (a := V.ref a) rfl (.cons rx .nil)) hsp fun v s' z => ?_)
  obtain ⟨v', H', I', r', z', e, q⟩ := z
  subst e
  cases r'
  exact wpAny_truthy_bool ⟨V.bl z', H', I', rfl, q⟩
end
end Vk
set_option Elab.async false
set_option linter.all false
set_option maxRecDepth 100000
/-! The places of a set's table, for tables of any size that comes: a search meets all of them. -/
namespace Vt
open PySem PySem.Spec PyProof.Rows L2
/-! ### the round i -> 5 i + 1, modulo a power of two, meets every number -/
def aa : Nat → Nat
  | 0 => 0
  | n + 1 => 5 * aa n + 1
theorem aa_add (n : Nat) : ∀ m, aa (n + m) = aa n + (4 * aa n + 1) * aa m
  | 0 => by simp [aa]
  | m + 1 => by
    show 5 * aa (n + m) + 1 = _
    rw [aa_add n m]
    show _ = aa n + (4 * aa n + 1) * (5 * aa m + 1)
    have key : (4 * aa n + 1) * (5 * aa m + 1) = 5 * ((4 * aa n + 1) * aa m) + (4 * aa n + 1) := by rw [Nat.mul_add, Nat.mul_one, Nat.mul_left_comm]
    rw [key]
    generalize (4 * aa n + 1) * aa m = Z
    omega
theorem aa_pow : ∀ e, ∃ q, aa (2 ^ e) = 2 ^ e * (2 * q + 1)
  | 0 => ⟨0, rfl⟩
  | e + 1 => by
    obtain ⟨q, h⟩ := aa_pow e
    have e2 : (2 : Nat) ^ (e + 1) = 2 ^ e + 2 ^ e := by rw [Nat.pow_succ]; omega
    obtain ⟨x, hx⟩ : ∃ x, x = aa (2 ^ e) := ⟨_, rfl⟩
    have h1 : aa (2 ^ (e + 1)) = 2 * ((2 * x + 1) * x) := by
      rw [e2, aa_add, ← hx, Nat.add_mul, Nat.add_mul, Nat.mul_assoc, Nat.mul_assoc]
      omega
    refine ⟨2 * x * q + x + q, ?_⟩
    rw [h1]
    have h2 : (2 * x + 1) * (2 * q + 1) = 2 * (2 * x * q + x + q) + 1 := by
      rw [Nat.add_mul, Nat.mul_add, Nat.mul_add]
      have : 2 * x * (2 * q) = 2 * (2 * x * q) := Nat.mul_left_comm _ _ _
      omega
    rw [← h2, Nat.pow_succ]
    conv => lhs; rw [show x = 2 ^ e * (2 * q + 1) from hx.trans h]
    rw [← show x = 2 ^ e * (2 * q + 1) from hx.trans h]
    rw [hx.trans h] 
    generalize 2 ^ e = M
    generalize (2 * (M * (2 * q + 1)) + 1) = Z
    rw [Nat.mul_left_comm Z M, Nat.mul_assoc M 2]
    exact Nat.mul_left_comm 2 M _
theorem aa_all : ∀ e j, j < 2 ^ e → ∃ n, n < 2 ^ e ∧ aa n % 2 ^ e = j
  | 0, j, h => ⟨0, by decide, by
    have : j = 0 := by
      have e : (2 : Nat) ^ 0 = 1 := rfl
      omega
    rw [this]
    rfl⟩
  | e + 1, j, h => by
    have hM : 0 < 2 ^ e := Nat.pow_pos (by decide)
    obtain ⟨n, hn, en⟩ := aa_all e (j % 2 ^ e) (Nat.mod_lt _ hM)
    obtain ⟨q, hq⟩ := aa_pow e
    have e2 : (2 : Nat) ^ (e + 1) = 2 * 2 ^ e := by rw [Nat.pow_succ]; omega
    obtain ⟨s, hs⟩ : ∃ s, aa (n + 2 ^ e) = aa n + 2 ^ e * (2 * s + 1) := by
      refine ⟨(4 * aa n + 1) * q + 2 * aa n, ?_⟩
      rw [aa_add, hq, Nat.mul_left_comm]
      congr 1
      congr 1
      rw [Nat.mul_add, Nat.mul_left_comm]
      omega
    rw [e2] at h ⊢
    generalize hMM : 2 ^ e = M at h hn en hs hM ⊢
    have d1 := Nat.div_add_mod (aa n) M
    rw [en] at d1
    have d2 := Nat.div_add_mod j M
    have hj2 : j / M < 2 := (Nat.div_lt_iff_lt_mul hM).mpr (by omega)
    have hr : j % M < M := Nat.mod_lt _ hM
    generalize j % M = r at d1 d2 hr
    generalize aa n / M = c at d1
    generalize j / M = b at d2 hj2
    have two : ∀ d y, y < 2 * M → (M * (2 * d) + y) % (2 * M) = y := fun d y hy => by
      rw [Nat.mul_left_comm, ← Nat.mul_assoc, Nat.mul_add_mod, Nat.mod_eq_of_lt hy]
    rcases Nat.mod_two_eq_zero_or_one (c + b) with z | z
    · refine ⟨n, by omega, ?_⟩
      obtain ⟨d, hd⟩ : ∃ d, c = 2 * d + b := ⟨(c - b) / 2, by omega⟩
      rw [← d1, hd, Nat.mul_add, Nat.add_assoc, d2]
      exact two d j (by omega)
    · refine ⟨n + M, by omega, ?_⟩
      obtain ⟨d, hd⟩ : ∃ d, c + (2 * s + 1) = 2 * d + b := ⟨(c + (2 * s + 1) - b) / 2, by omega⟩
      have e3 : aa n + M * (2 * s + 1) = M * (c + (2 * s + 1)) + r := by
        rw [← d1, Nat.mul_add M c]
        omega
      rw [hs, e3, hd, Nat.mul_add, Nat.add_assoc, d2]
      exact two d j (by omega)
/-- the masks of tables: one less than a power of two -/
def Pw (m : Nat) : Prop := ∃ e, 1 ≤ e ∧ m + 1 = 2 ^ e
theorem lcg_aa (m : Nat) : ∀ n, lcgN m n = aa n % (m + 1)
  | 0 => (Nat.zero_mod _).symm
  | n + 1 => by
    show (lcgN m n * 5 + 1) % (m + 1) = (5 * aa n + 1) % (m + 1)
    rw [lcg_aa m n, Nat.mul_comm 5, Nat.add_mod, Nat.mul_mod, Nat.mod_mod, ← Nat.mul_mod, ← Nat.add_mod]
theorem round_all {m i j : Nat} (p : Pw m) (hi : i ≤ m) (hj : j ≤ m) : ∃ k, k ≤ m ∧ lcgI m i k = j := by
  obtain ⟨e, _, he⟩ := p
  obtain ⟨a, ha, ea⟩ := aa_all e i (by omega)
  obtain ⟨b, hb, eb⟩ := aa_all e j (by omega)
  obtain ⟨q, hq⟩ := aa_pow e
  rw [← he] at ha hb ea eb hq
  have ei : i = lcgN m a := by rw [lcg_aa]; exact ea.symm
  rcases Nat.lt_or_ge b a with c | c
  · refine ⟨b + (m + 1) - a, by omega, ?_⟩
    rw [ei, lcgN_add, lcg_aa, show a + (b + (m + 1) - a) = b + (m + 1) by omega, aa_add, hq, Nat.mul_left_comm, Nat.add_mul_mod_self_left]
    exact eb
  · refine ⟨b - a, by omega, ?_⟩
    rw [ei, lcgN_add, lcg_aa, show a + (b - a) = b by omega]
    exact eb
theorem run_hits {m j : Nat} (p : Pw m) (h : Int) (hj : j ≤ m) : ∃ n, n ≤ m + 12 ∧ runI m (SetTable.bits h) n = j := by
  obtain ⟨k, hk, e⟩ := round_all p (runI_le m (SetTable.bits h) 12) hj
  exact ⟨12 + k, by omega, (runI_tail (bits_lt h) k).trans e⟩
theorem way_hits {m j : Nat} (p : Pw m) (h : Int) (hj : j ≤ m) : ∃ k, k < 10 * SetTable.turns m ∧ way m h k = j := by
  obtain ⟨n, hn, e⟩ := run_hits p h hj
  obtain ⟨k, hk, e2⟩ := run_nth m (SetTable.bits h) n
  refine ⟨k, by unfold SetTable.turns; omega, ?_⟩
  show (nth m (runAt m (SetTable.bits h % (m + 1)) (SetTable.bits h)) k).j = j
  rw [e2]
  exact e
theorem way_top (m : Nat) (h : Int) (k : Nat) : way m h k ≤ m := by
  have i0 : SetTable.bits h % (m + 1) ≤ m := Nat.le_of_lt_succ (Nat.mod_lt _ (Nat.succ_pos _))
  have r := runEnd_bd i0
  have start : (runAt m (SetTable.bits h % (m + 1)) (SetTable.bits h)).j + (runAt m (SetTable.bits h % (m + 1)) (SetTable.bits h)).more ≤ m := by
    show SetTable.bits h % (m + 1) + (SetTable.runEnd m (SetTable.bits h % (m + 1)) - SetTable.bits h % (m + 1)) ≤ m
    omega
  have q := nth_in (m := m) k _ start
  show (nth m (runAt m (SetTable.bits h % (m + 1)) (SetTable.bits h)) k).j ≤ m
  omega
/-- a table without dummies; each hash finds its place before the first free one of its way -/
structure Tab (t : SetTable) (hs : List Int) : Prop where
  up : Ris t.place.toList
  cl : t.dummies = #[]
  len : t.place.size = hs.length
  pw : Pw t.mask
  top : ∀ y ∈ t.place.toList, y ≤ t.mask
  met : ∀ (i : Nat) (h : Int) (j : Nat), hs[i]? = some h → t.place.toList[i]? = some j → ∃ k, way t.mask h k = j ∧ ∀ c, c < k → way t.mask h c ∈ t.place.toList
theorem Tab.odd {t : SetTable} {hs : List Int} (T : Tab t hs) : t.mask % 2 = 1 := by
  obtain ⟨e, h1, h2⟩ := T.pw
  obtain ⟨d, rfl⟩ : ∃ d, e = d + 1 := ⟨e - 1, by omega⟩
  rw [Nat.pow_succ] at h2
  omega
theorem Tab.gap {t : SetTable} {hs : List Int} (T : Tab t hs) (few : hs.length ≤ t.mask) (h : Int) : ∃ K, K < 10 * SetTable.turns t.mask ∧ way t.mask h K ∉ t.place.toList ∧ ∀ c, c < K → way t.mask h c ∈ t.place.toList := by
  obtain ⟨j, hj, out⟩ := st_missing t.place.toList (t.mask + 1) (by rw [Array.length_toList, T.len]; omega)
  obtain ⟨k, hk, rfl⟩ := way_hits T.pw h (Nat.le_of_lt_succ hj)
  obtain ⟨K, a1, a2, a3⟩ := st_least (p := fun c => way t.mask h c ∉ t.place.toList) k out
  exact ⟨K, Nat.lt_of_le_of_lt a1 hk, a2, fun c hc => Classical.byContradiction (a3 c hc)⟩
theorem Tab.ahead {t : SetTable} {hs : List Int} (T : Tab t hs) {h : Int} {K i j : Nat} (out : way t.mask h K ∉ t.place.toList) (hi : hs[i]? = some h) (hj : t.place.toList[i]? = some j) : ∃ k, k < K ∧ way t.mask h k = j := by
  obtain ⟨k, rfl, ins⟩ := T.met i h j hi hj
  refine ⟨k, ?_, rfl⟩
  rcases Nat.lt_trichotomy k K with c | c | c
  · exact c
  · subst c
    exact absurd (List.mem_of_getElem? hj) out
  · exact absurd (ins K c) out
theorem Tab.put {t : SetTable} {hs : List Int} (T : Tab t hs) {h : Int} {K : Nat} (out : way t.mask h K ∉ t.place.toList) (ins : ∀ c, c < K → way t.mask h c ∈ t.place.toList) {p : Nat} (hp : p = SetTable.below t.place (way t.mask h K)) :
    p ≤ hs.length ∧ Tab (t.put (way t.mask h K)).1 (hs.take p ++ h :: hs.drop p) ∧ (t.put (way t.mask h K)).1.fill = hs.length + 1 := by
  have jt := way_top t.mask h K
  obtain ⟨J, hJ⟩ : ∃ J, J = way t.mask h K := ⟨_, rfl⟩
  rw [← hJ] at out jt hp ⊢
  have lenP : t.place.toList.length = hs.length := T.len
  have ph : p ≤ hs.length := by
    rw [hp, ← T.len]
    exact (below_cut T.up J).1
  have pl : p ≤ t.place.toList.length := by rw [lenP]; exact ph
  have pp : (t.put J).1.place.toList = t.place.toList.take p ++ J :: t.place.toList.drop p := by rw [hp]; exact put_place t J
  have psz : (t.put J).1.place.size = hs.length + 1 := by rw [← Array.length_toList, pp, len_ins _ pl, lenP]
  have old : ∀ y, y ∈ t.place.toList → y ∈ (t.put J).1.place.toList := fun y hy => by rw [pp]; exact mem_ins.2 (.inr hy)
  refine ⟨ph, ⟨ris_insert T.up (fun z => out (List.mem_of_getElem? (by rw [Array.getElem?_toList]; exact z))), put_dm T.cl J, psz.trans (len_ins _ ph h).symm, T.pw, fun y hy => ?_, fun i g j gi gj => ?_⟩, ?_⟩
  · rcases mem_ins.1 (pp ▸ hy) with z | z
    · exact z ▸ jt
    · exact T.top y z
  · show ∃ k, way t.mask g k = j ∧ ∀ c, c < k → way t.mask g c ∈ (t.put J).1.place.toList
    have before : ∀ i', hs[i']? = some g → t.place.toList[i']? = some j → ∃ k, way t.mask g k = j ∧ ∀ c, c < k → way t.mask g c ∈ (t.put J).1.place.toList := fun i' y1 y2 => by
      obtain ⟨k, y3, y4⟩ := T.met i' g j y1 y2
      exact ⟨k, y3, fun c hc => old _ (y4 c hc)⟩
    rw [tins_get hs ph] at gi
    rw [pp, tins_get _ pl] at gj
    rcases Nat.lt_trichotomy i p with c | c | c
    · rw [if_pos c] at gi gj
      exact before i gi gj
    · rw [if_neg (by omega), if_pos c] at gi gj
      cases gi
      cases gj
      exact ⟨K, hJ.symm, fun c hc => old _ (ins c hc)⟩
    · rw [if_neg (by omega), if_neg (by omega)] at gi gj
      exact before (i - 1) gi gj
  · show (t.put J).1.place.size + (t.put J).1.dummies.size = _
    rw [psz, put_dm T.cl J] <;> rfl
/-! ### all laid anew -/
theorem free_hits {m j : Nat} (p : Pw m) (ow : Array (Option Nat)) (h : Int) (hj : j ≤ m) (hf : oAt ow j = none) :
    ∃ K, SetTable.layClean.free m ow (SetTable.turns m) (SetTable.bits h % (m + 1)) (SetTable.bits h) = some (way m h K) ∧ oAt ow (way m h K) = none ∧ ∀ c, c < K → oAt ow (way m h c) ≠ none := by
  obtain ⟨n, hn, e⟩ := run_hits p h hj
  have at_ : way m h (off m (SetTable.bits h % (m + 1)) (SetTable.bits h) n) = j := by
    show (nth m (runAt m _ _) _).j = j
    rw [nth_off, itL_run]
    exact e
  obtain ⟨K, a1, a2, a3⟩ := st_least (p := fun c => oAt ow (way m h c) = none) _ (show oAt ow (way m h (off m (SetTable.bits h % (m + 1)) (SetTable.bits h) n)) = none by rw [at_]; exact hf)
  refine ⟨K, free_spec m ow _ n _ _ K (by unfold SetTable.turns; omega) a1 (fun c hc => ?_) ?_, a2, a3⟩
  · show (oAt ow (way m h c)).isNone = false
    cases z : oAt ow (way m h c) with
    | none => exact absurd z (a3 c hc)
    | some _ => rfl
  · show (oAt ow (way m h K)).isNone = true
    rw [show oAt ow (way m h K) = none from a2] <;> rfl
theorem own_step {m : Nat} (p : Pw m) {done : List Int} {ow : Array (Option Nat)} (W : Own m done ow) (room : done.length ≤ m) (h : Int) :
    ∃ j, SetTable.layClean.free m ow (SetTable.turns m) (SetTable.bits h % (m + 1)) (SetTable.bits h) = some j ∧ Own m (done ++ [h]) (ow.setIfInBounds j (some done.length)) := by
  obtain ⟨ps, lps, inps⟩ := W.ps
  obtain ⟨j0, b0, o0⟩ := st_missing ps (m + 1) (by omega)
  have f0 : oAt ow j0 = none := Classical.byContradiction fun z => o0 (inps j0 (Nat.le_of_lt_succ b0) z)
  obtain ⟨K, y1, y2, y3⟩ := free_hits p ow h (Nat.le_of_lt_succ b0) f0
  obtain ⟨J, hJ⟩ : ∃ J, J = way m h K := ⟨_, rfl⟩
  have Jm : J ≤ m := hJ ▸ way_top m h K
  have Jo : J < ow.size := by rw [W.sz]; omega
  rw [← hJ] at y1 y2
  have here := oAt_set_self (some done.length) Jo
  have still : ∀ i, oAt ow i ≠ none → oAt (ow.setIfInBounds J (some done.length)) i ≠ none := fun i hi => by
    by_cases c : i = J
    · rw [c, here]
      exact fun z => nomatch z
    · rw [oAt_set_ne _ c]
      exact hi
  refine ⟨J, y1, ⟨by rw [Array.size_setIfInBounds]; exact W.sz, fun j k hj e => ?_, fun k hk => ?_, J :: ps, by rw [List.length_cons, lps, List.length_append] <;> rfl, fun j hj e => ?_⟩⟩
  · by_cases c : j = J
    · rw [c, here] at e
      cases e
      exact ⟨h, K, by rw [List.getElem?_append_right (Nat.le_refl _), Nat.sub_self] <;> rfl, hJ.symm.trans c.symm, fun c' hc => still _ (y3 c' hc)⟩
    · rw [oAt_set_ne _ c] at e
      obtain ⟨g, L, z1, z2, z3⟩ := W.at_ j k hj e
      exact ⟨g, L, by rw [List.getElem?_append_left (List.getElem?_eq_some_iff.mp z1).1]; exact z1, z2, fun c' hc => still _ (z3 c' hc)⟩
  · rcases Nat.lt_or_ge k done.length with c | c
    · obtain ⟨j, hj, e⟩ := W.all k c
      refine ⟨j, hj, ?_⟩
      rw [oAt_set_ne _ (fun z => by rw [z, y2] at e; cases e)]
      exact e
    · have : k = done.length := by
        rw [List.length_append] at hk
        have e : ([h] : List Int).length = 1 := rfl
        omega
      exact ⟨J, Jm, this ▸ here⟩
  · by_cases c : j = J
    · exact c ▸ List.mem_cons_self
    · rw [oAt_set_ne _ c] at e
      exact .tail _ (inps j hj e)
theorem own_fold {m : Nat} (p : Pw m) : ∀ (rest done : List Int) (ow : Array (Option Nat)), Own m done ow → done.length + rest.length ≤ m →
    ∃ ow', rest.foldl (stepF m) (some (ow, done.length)) = some (ow', (done ++ rest).length) ∧ Own m (done ++ rest) ow'
  | [], done, ow, W, _ => ⟨ow, by rw [List.append_nil] <;> rfl, by rw [List.append_nil]; exact W⟩
  | h :: rest, done, ow, W, room => by
    have l1 : (h :: rest).length = rest.length + 1 := rfl
    obtain ⟨j, y, W1⟩ := own_step p W (by omega) h
    have l2 : (done ++ [h]).length = done.length + 1 := List.length_append
    obtain ⟨ow', f, W2⟩ := own_fold p rest (done ++ [h]) _ W1 (by omega)
    rw [l2] at f
    rw [show done ++ [h] ++ rest = done ++ h :: rest by rw [List.append_assoc] <;> rfl] at f W2
    exact ⟨ow', by rw [List.foldl_cons, stepF_some y]; exact f, W2⟩
theorem lay_own {m : Nat} (p : Pw m) {hs : Array Int} (room : hs.size ≤ m) : ∃ ow, SetTable.layClean m hs = some ow ∧ Own m hs.toList ow := by
  obtain ⟨ow, f, W⟩ := own_fold p hs.toList [] _ (Own.init m) (by show 0 + hs.toList.length ≤ m; rw [Array.length_toList]; omega)
  refine ⟨ow, ?_, by rw [← List.nil_append hs.toList]; exact W⟩
  rw [layClean_eq, show hs.toList.foldl (stepF m) (some (Array.replicate (m + 1) none, 0)) = _ from f] <;> rfl
theorem relaid_tab (t : SetTable) {hs : Array Int} {wanted M : Nat} (hw : SetTable.sizeAbove wanted - 1 = M) (p : Pw M) (room : hs.size ≤ M) :
    ∃ t' ord, t.relaid hs wanted = some (t', ord) ∧ ord.toList.Perm (List.range hs.size) ∧ Tab t' (ord.toList.map fun i => hs.getD i 0) ∧ t'.mask = M ∧ t'.led = t.led ∧ t'.plain = t.plain := by
  obtain ⟨ow, e, W⟩ := lay_own p room
  have two := ris_live (fun j => ow.getD j none) (List.range (M + 1)) (by
    unfold Ris
    first | exact List.pairwise_lt_range | exact List.pairwise_lt_range _)
  have up : Ris ((liveOf M ow).map (·.1)) := two.1
  have inr : ∀ y ∈ (liveOf M ow).map (·.1), y ≤ M := fun y hy => Nat.le_of_lt_succ (List.mem_range.mp (two.2 y hy))
  have nd : ((liveOf M ow).map (·.1)).Nodup := List.Pairwise.imp (fun h => Nat.ne_of_lt h) up
  have hz : hs.toList.length = hs.size := rfl
  have size : (liveOf M ow).length = hs.size := by
    obtain ⟨ps, lps, inps⟩ := W.ps
    have a := nat_nodup_len ((liveOf M ow).map (·.1)) ps nd fun y hy => by
      obtain ⟨⟨y', k⟩, hq, rfl⟩ := List.mem_map.mp hy
      obtain ⟨b1, b2⟩ := (mem_live W.sz).1 hq
      exact inps y' b1 (fun z => by rw [b2] at z; cases z)
    have b := nat_nodup_len (List.range hs.size) ((liveOf M ow).map (·.2)) List.nodup_range fun k hk => by
      obtain ⟨j, b1, b2⟩ := W.all k (List.mem_range.mp hk)
      exact List.mem_map.mpr ⟨(j, k), (mem_live W.sz).2 ⟨b1, b2⟩, rfl⟩
    rw [List.length_map] at a b
    rw [List.length_range] at b
    omega
  refine ⟨tabOf t M ow, ((liveOf M ow).map (·.2)).toArray, by rw [relaid_eq, hw, e] <;> rfl, perm_range hs.size _ ((List.length_map _).trans size) (fun k hk => ?_), ⟨up, rfl, ?_, p, inr, fun i h j h1 h2 => ?_⟩, rfl, rfl, rfl⟩
  · obtain ⟨j, b1, b2⟩ := W.all k hk
    exact List.mem_map.mpr ⟨(j, k), (mem_live W.sz).2 ⟨b1, b2⟩, rfl⟩
  · show ((liveOf M ow).map (·.1)).toArray.size = (((liveOf M ow).map (·.2)).map fun i => hs.getD i 0).length
    simp
  · have g1 : (((liveOf M ow).map (·.2)).map fun i => hs.getD i 0)[i]? = some h := h1
    have g2 : ((liveOf M ow).map (·.1))[i]? = some j := h2
    rw [List.getElem?_map] at g2
    rw [List.getElem?_map, List.getElem?_map] at g1
    cases hq : (liveOf M ow)[i]? with
    | none =>
      rw [hq] at g2
      cases g2
    | some q =>
      obtain ⟨y, k⟩ := q
      rw [hq] at g1 g2
      cases g2
      obtain ⟨b1, b2⟩ := (mem_live W.sz).1 (List.mem_of_getElem? hq)
      obtain ⟨h0, K, c1, c2, c3⟩ := W.at_ _ k b1 b2
      have e0 : hs.getD k 0 = h0 := by rw [Array.getD_eq_getD_getElem?, ← Array.getElem?_toList, c1] <;> rfl
      have eh : h0 = h := e0.symm.trans (Option.some.inj g1)
      subst eh
      refine ⟨K, c2, fun c hc => ?_⟩
      show way M h0 c ∈ (liveOf M ow).map (·.1)
      cases z : oAt ow (way M h0 c) with
      | none => exact absurd z (c3 c hc)
      | some k2 => exact List.mem_map.mpr ⟨(way M h0 c, k2), (mem_live W.sz).2 ⟨way_top .., z⟩, rfl⟩
end Vt
set_option Elab.async false
set_option linter.all false
set_option maxRecDepth 100000
set_option maxHeartbeats 4000000
/-! sorted over any set whose members read as data; sets of texts, made of a text or of a list of texts. -/
namespace Vs
open PySem PySem.Spec PyProof.Rows L2
section
variable {α β : Type} {R : α → β → Prop}
theorem each_swap {a b : α} {xs : List α} {bs : List β} (h : PySem.W.EachIs R (a :: b :: xs) bs) : ∃ bs', bs'.Perm bs ∧ PySem.W.EachIs R (b :: a :: xs) bs' := by
  cases h with
  | cons h1 t =>
    cases t with
    | cons h2 t => exact ⟨_, List.Perm.swap .., .cons h2 (.cons h1 t)⟩
theorem each_perm {xs ys : List α} (p : ys.Perm xs) : ∀ {bs : List β}, PySem.W.EachIs R xs bs → ∃ bs', bs'.Perm bs ∧ PySem.W.EachIs R ys bs' := by
  have key : ∀ {xs ys : List α}, xs.Perm ys → ∀ {bs : List β}, PySem.W.EachIs R xs bs → ∃ bs', bs'.Perm bs ∧ PySem.W.EachIs R ys bs' := by
    intro xs ys p
    induction p with
    | nil => exact fun h => ⟨_, .refl _, h⟩
    | cons x _ ih =>
      intro bs h
      cases h with
      | cons h1 t =>
        obtain ⟨bs', q, e⟩ := ih t
        exact ⟨_, q.cons _, .cons h1 e⟩
    | swap x y l => exact fun h => each_swap h
    | trans _ _ ih1 ih2 =>
      intro bs h
      obtain ⟨b1, q1, e1⟩ := ih1 h
      obtain ⟨b2, q2, e2⟩ := ih2 e1
      exact ⟨b2, q2.trans q1, e2⟩
  intro bs h
  exact key p.symm h
end
section
variable {P : Program} {w : World} {A : Around} {E : Value → Shared → Prop} {s : Shared}
theorem sorted_setG {β : Type} {enc : β → PyData} {R : Value → β → Prop} {bs : List β} {a : Addr} {es : Array (Int × Value)} {ep : Nat} {t : SetTable} {Q : Value → Shared → Prop}
    (hh : A.handled = none) (ha : SetAt s.heap a es ep t) (hf : t.fits es.size = true) (hsz : es.size < scanBound) (hr : Ris t.place.toList) (hl : w.params.followText "set-order" = true ∨ t.led = true)
    (er : PySem.W.EachIs (fun v b => R v b ∧ Reads s.heap v (enc b) []) (es.toList.map (·.2)) bs) (hal : PySem.W.AllAlike (bs.map enc)) (hk : PySem.W.Sortable (bs.map enc)) (hu : ∀ b, b ∈ bs → A.units + 2 + (enc b).depth < cLine)
    (hQ : ∀ s' p (out : List Value) (c : Nat) (bs' : List β), (∀ b o, s.heap.get? b = some o → s'.heap.get? b = some o) → s'.gens = s.gens → s'.os = s.os → s.heap.objs.size ≤ p →
      s'.heap.get? p = some (seqObj "list" out.toArray c) → bs'.Perm bs → PySem.W.EachIs R out (bs'.mergeSort (PySem.W.dataLe false enc)) → Q (.ref p) s') :
    wpAny (model P w) A (call (.builtin "sorted") [.ref a]) Q E s := by
  refine Calls.call_function_entry kind_sorted plain_sorted entry_sorted (args_sorted1 _) (?_)
  unfold Builtin.«sorted»
  refine wpAny_bind (m := checkCount "sorted" 1 1 _) (wpAny_pure (?_))
  refine wpAny_bind (collect_set (A := A.in1) hh ha hf hsz hr hl fun s1 vs k1 hz g1 o1 pm => ?_)
  obtain ⟨bs1, pb, e1⟩ := each_perm pm er
  have hvl : vs.length = es.size := by rw [pm.length_eq, List.length_map, Array.length_toList]
  have hbl : bs1.length = vs.length := e1.length.symm
  have hle : vs.length ≤ sizeLine := by rw [hvl]; exact fits_of_scanBound hsz
  refine wpAny_bind (wpAny_newList ?_ hle)
  have hoL : (s1.heap.push (seqObj "list" vs.toArray 0)).get? s1.heap.objs.size = some (seqObj "list" vs.toArray 0) := Heap.get?_push_size _ rfl
  have mm : ∀ b, b ∈ bs1 → b ∈ bs := fun b hb => pb.mem_iff.mp hb
  have hal1 : PySem.W.AllAlike (bs1.map enc) := fun d hd d' hd' => by
    obtain ⟨b, hb, rfl⟩ := List.mem_map.mp hd
    obtain ⟨b', hb', rfl⟩ := List.mem_map.mp hd'
    exact hal _ (List.mem_map.mpr ⟨b, mm b hb, rfl⟩) _ (List.mem_map.mpr ⟨b', mm b' hb', rfl⟩)
  have hk1 : PySem.W.Sortable (bs1.map enc) := by
    rcases hk with z | z
    · refine .inl fun d hd => ?_
      obtain ⟨b, hb, rfl⟩ := List.mem_map.mp hd
      exact z _ (List.mem_map.mpr ⟨b, mm b hb, rfl⟩)
    · refine .inr fun d hd => ?_
      obtain ⟨b, hb, rfl⟩ := List.mem_map.mp hd
      exact z _ (List.mem_map.mpr ⟨b, mm b hb, rfl⟩)
  refine wpAny_bind (wpAny_holding (PySem.W.list_sort_data (R := R) hoL (e1.mono fun _ _ z => z.1) (e1.mono fun v b z => ⟨[], PyProof.Rows.Reads.keeps (fun b o e => Heap.get?_push_of_some _ (k1 b o e)) z.2, fun y => nomatch y⟩) hal1 hk1
    (by rw [hbl]; exact hle) (fun b hb => ?_) fun out h1 h2 => ?_))
  · have := hu b (mm b hb)
    show A.units + 1 + 1 + (enc b).depth < cLine
    omega
  · obtain ⟨c, hc⟩ := sortedHeap_at (vs := vs) (out := out.toArray) hoL
    refine wpAny_pure ⟨_, rfl, hQ _ s1.heap.objs.size out c bs1 (fun b u e => ?_) g1 o1 hz hc pb h2⟩
    have q := k1 b u e
    have hlt := Heap.lt_size q
    show (sortedHeap (s1.heap.push (seqObj "list" vs.toArray 0)) s1.heap.objs.size vs out.toArray).get? b = some u
    rw [sortedHeap_old (Nat.ne_of_lt hlt) (by rw [size_push']; exact Nat.lt_succ_of_lt hlt)]
    exact Heap.get?_push_of_some _ q
end
/-! ## a set of texts at a: l its members, each once -/
def SetS (P : Program) (w : World) (h : Heap) (a : Addr) (l : List Str) : Prop := ∃ D : Froz.SD, h.get? a = some (Froz.sObj "set" D) ∧ Froz.TxOk P w D l ∧ l.Nodup ∧ l.length < scanBound ∧ Ris D.2.2.place.toList ∧ (w.params.followText "set-order" = true ∨ D.2.2.led = true)
theorem SetS.at {P : Program} {w : World} {h h' : Heap} {a : Addr} {l : List Str} (x : SetS P w h a l) (k : ∀ o, h.get? a = some o → h'.get? a = some o) : SetS P w h' a l := by
  obtain ⟨D, ho, r⟩ := x
  exact ⟨D, k _ ho, r⟩
theorem tail_both {ep : Nat} {es1 : Array (Int × Value)} {t2 : SetTable} {wd : Bool} (r : Ris t2.place.toList) : Ris (Froz.tailTx ep es1 t2 wd).2.2.place.toList ∧ (Froz.tailTx ep es1 t2 wd).2.2.led = t2.led := by
  unfold Froz.tailTx
  by_cases c : (!wd && t2.tooFull) = true
  · rw [if_pos c]
    exact ⟨relayAll_ris _ _ _, relayAll_led _ _ _⟩
  · rw [if_neg c]
    exact ⟨r, rfl⟩
theorem plain_off (t : SetTable) : (if t.plain = true then { t with plain := false } else t).place = t.place ∧ (if t.plain = true then { t with plain := false } else t).led = t.led := by
  split
  · exact ⟨rfl, rfl⟩
  · exact ⟨rfl, rfl⟩
theorem ris_addTx {hv : Int} {v : Value} {D : Froz.SD} (r : Ris D.2.2.place.toList) : Ris (Froz.addTx hv v D).2.2.place.toList := by
  unfold Froz.addTx
  refine (tail_both ?_).1
  rw [(plain_off _).1]
  exact layNew_ris D.2.2 D.1 hv v r
theorem led_addTx {hv : Int} {v : Value} {D : Froz.SD} (r : Ris D.2.2.place.toList) : (Froz.addTx hv v D).2.2.led = D.2.2.led := by
  unfold Froz.addTx
  refine (tail_both ?_).2.trans ((plain_off _).2.trans (layNew_led D.2.2 D.1 hv v))
  rw [(plain_off _).1]
  exact layNew_ris D.2.2 D.1 hv v r
section
variable {P : Program} {w : World} {A : Around} {E : Value → Shared → Prop} {s : Shared} {a : Addr} {l : List Str}
/-- a text that is there already -/
theorem add_again {D : Froz.SD} {k : Str} {u : Tok} {Q : Bool → Shared → Prop} (ho : s.heap.get? a = some (Froz.sObj "set" D)) (F : Froz.TxOk P w D l) (hk : k ∈ l) (hb : l.length < scanBound)
    (h : Q false s) : wpAny (model P w) A (setAddHashed a (.str k u) (hashStr w k)) Q E s := by
  obtain ⟨es, ep, t⟩ := D
  have hb0 : es.size < scanBound := by rw [show es.size = l.length from F.sz]; exact hb
  unfold setAddHashed setAddHashedIn
  refine wpAny_holding (wpAny_bind (wpAny_setState_of (es := es) (ep := ep) (t := t) ho rfl F.fit ?_))
  dsimp only
  rw [byScan_of (x := Value.str k u) rfl hb0 F.el]
  simp only [↓reduceIte]
  unfold setAddByScan
  refine wpAny_bind (wpAny_bind (wpAny_rule (wpAny_bind (wpAny_setScan_of (knd := strKind P w) (k := k) (Froz.is_str k u) ho rfl F.fit F.el ?_))))
  cases hf : List.findIdx? (fun e => (strKind P w).is k e.2) es.toList with
  | some j => exact wpAny_pure (wpAny_pure h)
  | none =>
    obtain ⟨e, he, z⟩ := (F.mem k).mp hk
    have := List.findIdx?_eq_none_iff.mp hf e he
    rw [z] at this
    cases this
theorem setS_add {k : Str} {u : Tok} {Q : Bool → Shared → Prop} (x : SetS P w s.heap a l) (room : l.length + 1 < scanBound)
    (h : ∀ h' b, Heap.SameBut a s.heap h' → SetS P w h' a (if k ∈ l then l else k :: l) → Q b { s with heap := h' }) : wpAny (model P w) A (setAddHashed a (.str k u) (hashStr w k)) Q E s := by
  have x0 := x
  obtain ⟨D, ho, F, nd, hb, r, ld⟩ := x
  by_cases hk : k ∈ l
  · refine add_again ho F hk hb ?_
    have := h s.heap false (Heap.SameBut.refl a s.heap)
    rw [if_pos hk] at this
    exact this x0
  · refine Froz.add_x ho F hk room ?_
    refine h _ true (Heap.SameBut.update _ a _) ?_
    rw [if_neg hk]
    exact ⟨_, Froz.get_upd _ ho rfl, Froz.add_ok u F, List.nodup_cons.mpr ⟨hk, nd⟩, room, ris_addTx r, ld.imp id fun z => by rw [led_addTx r]; exact z⟩
end
/-- l with the texts ks put to it, one by one -/
def putL : List Str → List Str → List Str
  | l, [] => l
  | l, k :: ks => putL (if k ∈ l then l else k :: l) ks
theorem mem_putL {k : Str} : ∀ {ks l : List Str}, k ∈ putL l ks ↔ k ∈ l ∨ k ∈ ks
  | [], l => by simp [putL]
  | z :: ks, l => by
    rw [putL, mem_putL, List.mem_cons]
    by_cases hz : z ∈ l
    · rw [if_pos hz]
      exact ⟨fun q => q.elim .inl fun y => .inr (.inr y), fun q => q.elim .inl fun y => y.elim (fun e => .inl (e ▸ hz)) .inr⟩
    · rw [if_neg hz, List.mem_cons]
      exact ⟨fun q => q.elim (fun y => y.elim (fun e => .inr (.inl e)) .inl) fun y => .inr (.inr y), fun q => q.elim (fun y => .inl (.inr y)) fun y => y.elim (fun e => .inl (.inl e)) .inr⟩
theorem len_putL : ∀ {ks l : List Str}, (putL l ks).length ≤ l.length + ks.length
  | [], l => Nat.le_refl _
  | z :: ks, l => by
    rw [putL]
    refine Nat.le_trans len_putL ?_
    split
    · rw [List.length_cons]; omega
    · rw [List.length_cons, List.length_cons]; omega
section
variable {P : Program} {w : World} {A : Around} {R : Result → Shared → Prop}
theorem update_texts {I : Addr} {fp wr : List Addr} {G : Array GenState → Array GenState → Prop} {n : Nat} {Pv : Nat → Value → Prop} {St : Nat → Shared → Prop} (W : WalksS P w A.in1 I fp wr G n Pv St) (S : Addr) (hS : S ∉ fp)
    (ks : List Str) (hn : n = ks.length) (hv : ∀ i v, Pv i v → ∃ k t, ks[i]? = some k ∧ v = .str k t) : ∀ (m i : Nat) (l : List Str) (s : Shared), n - i = m → i ≤ n → St i s → SetS P w s.heap S l → l.length + (n - i) + 1 < scanBound →
      (∀ s', Moved (S :: wr) G s s' → SetS P w s'.heap S (putL l (ks.drop i)) → R (.ok (.ret .none)) s') → codeAny (model P w) A (.builtin "set.update.loop" ⟨[.ref S, .ref I], []⟩) R s := by
  have hw : S ∉ wr := fun h => hS (W.sub _ h)
  have up : ∀ b ∈ wr, b ∈ S :: wr := fun b hb => .tail _ hb
  intro m
  induction m with
  | zero =>
    intro i l s hm hi st x hb fin
    obtain rfl : i = n := by omega
    refine codeAny_builtin F.entry_set_update_loop (?_)
    rw [(Around.under_plainId F.plain_set_update_loop _ :)]
    show wpAny _ A.in1 (pyNext (.ref I) >>= _) _ _ s
    refine wpAny_bind (W.done s _ _ st fun s' mv => wpAny_pure (fin s' (mv.mono up) ?_))
    rw [List.drop_of_length_le (by omega)]
    exact x.at fun o e => mv.heap S o hw e
  | succ m ih =>
    intro i l s hm hi st x hb fin
    have hlt : i < n := by omega
    refine codeAny_builtin F.entry_set_update_loop (?_)
    rw [(Around.under_plainId F.plain_set_update_loop _ :)]
    show wpAny _ A.in1 (pyNext (.ref I) >>= _) _ _ s
    refine wpAny_bind (W.item i s _ _ hlt st fun v s' pv st' mv => ?_)
    obtain ⟨z, t, hz, rfl⟩ := hv i v pv
    have x' : SetS P w s'.heap S l := x.at fun o e => mv.heap S o hw e
    show wpAny _ A.in1 (holding [Value.str z t] (setAdd S (.str z t)) >>= _) _ _ s'
    refine wpAny_bind (wpAny_holding ?_)
    unfold setAdd
    refine wpAny_holding (wpAny_bind ((strKind P w).pyHash (k := z) (Froz.is_str z t) ?_))
    refine setS_add (s := { s' with toks := s'.toks + 1 }) x' (by omega) fun h' b sb x2 => ?_
    have hd : ks.drop i = z :: ks.drop (i + 1) := by
      have hk : i < ks.length := by omega
      rw [List.drop_eq_getElem_cons hk]
      rw [List.getElem?_eq_getElem hk] at hz
      rw [Option.some.inj hz]
    have keep : ∀ b o, b ≠ S → s'.heap.get? b = some o → h'.get? b = some o := fun b o hb e => (sb.2 b hb).trans e
    refine wpAny_pure ⟨plainId_quiet F.plain_set_update_loop _, ih (i + 1) _ _ (by omega) hlt (W.frame _ s' _ _ st' (Nat.le_succ _) fun b hb o e => keep b o (fun y => hS (y ▸ hb)) e) x2 ?_ fun s2 m2 x3 => ?_⟩
    · split
      · omega
      · rw [List.length_cons]; omega
    · refine fin s2 (Moved.trans W.gtrans ((mv.mono up).then_heap (Nat.le_succ _) fun b o hb e => keep b o (fun y => hb (y ▸ List.mem_cons_self)) e) m2) ?_
      rw [hd]
      exact x3
end
/-- the object of a new set -/
abbrev newO (w : World) : Obj := { cls := .type "set", dict := none, data := .set #[] 0 (.fresh 0 0 (!w.params.followText "set-order")) }
/-- x is iterated: texts xs, one by one, by an iterator that is new -/
def IterT (P : Program) (w : World) (x : Value) (S : Addr) (s1 : Shared) (xs : List Str) : Prop := ∀ (A1 : Around) (E1 : Value → Shared → Prop) (Q1 : Value → Shared → Prop),
  (∀ (o : Obj) (fp : List Addr) (Pv : Nat → Value → Prop) (St : Nat → Shared → Prop), (∀ A2 : Around, A2.handled = none → WalksS P w A2 s1.heap.objs.size fp [s1.heap.objs.size] (fun a b => b = a) xs.length Pv St) → S ∉ fp →
    (∀ i v, Pv i v → ∃ k t, xs[i]? = some k ∧ v = .str k t) → St 0 { s1 with heap := s1.heap.push o } → Q1 (.ref s1.heap.objs.size) { s1 with heap := s1.heap.push o }) → wpAny (model P w) A1 (pyIter x) Q1 E1 s1
theorem setS_new {P : Program} {w : World} {h : Heap} {a : Addr} (ho : h.get? a = some (newO w)) : SetS P w h a [] :=
  ⟨(#[], 0, .fresh 0 0 (!w.params.followText "set-order")), ho, Froz.TxOk.nil (by rfl), .nil, by decide, List.Pairwise.nil, by
    show _ ∨ (!w.params.followText "set-order") = true
    cases w.params.followText "set-order"
    · exact .inr rfl
    · exact .inl rfl⟩
section
variable {P : Program} {w : World} {A : Around} {E : Value → Shared → Prop} {s : Shared}
theorem call_setG {x : Value} {T : String} {xs : List Str} {Q : Value → Shared → Prop} (hh : A.handled = none) (hT : Shared.TypeIs { s with heap := s.heap.push (newO w) } x T) (n1 : isSubtype (.type T) (.type "set") = pure false)
    (n2 : isSubtype (.type T) (.type "frozenset") = pure false) (n3 : (Value.type T == Value.type "dict") = false) (hi : IterT P w x s.heap.objs.size { s with heap := s.heap.push (newO w) } xs) (hb : xs.length + 1 < scanBound)
    (h : ∀ (h' : Heap) (tk : Nat), SetS P w h' s.heap.objs.size (putL [] xs) → (∀ b o, s.heap.get? b = some o → h'.get? b = some o) → Q (.ref s.heap.objs.size) { s with heap := h', toks := tk }) :
    wpAny (model P w) A (call (.type "set") [x]) Q E s := by
  obtain ⟨c, tl, mm⟩ := F.called_set.mro
  have made := F.called_set.made
  have sub := F.called_set.sub
  refine wpAny_call (codeAny_of_tree (?_))
  show wpAny _ _ (callAny (.type "set") ⟨[x], []⟩) _ _ _
  refine wpAny_pure ⟨Code.quiet_builtin _ (by decide +kernel), codeAny_builtin F.entry_type_call (?_)⟩
  rw [(Around.under_plain (weight_type_call_type "set" [x] []) rfl :)]
  have notT := F.called_set.notType
  have can := F.called_set.canCreate
  have tc := F.typeCall_set_1 x
  repeat (any_goals (first | assumption | wp_step))
  refine codeAny_mono (code_set_led1 x (E := E) (Q₁ := fun ob s1 => ob = .ref s.heap.objs.size ∧ s1 = { s with heap := s.heap.push (newO w) }) ⟨rfl, rfl⟩) fun r s1 hr => ?_
  cases r with
  | error e => exact hr
  | ok fl =>
    cases fl with
    | ret ob =>
      obtain ⟨rfl, rfl⟩ := hr
      have hS : (s.heap.push (newO w)).get? s.heap.objs.size = some (newO w) := Heap.get?_push_size _ rfl
      have hTS : Shared.TypeIs { s with heap := s.heap.push (newO w) } (.ref s.heap.objs.size) "set" := ⟨_, hS, rfl⟩
      have il := F.called_set.init.lookup
      have ib := F.called_set.init.bind (.ref s.heap.objs.size)
      repeat (any_goals (first | assumption | wp_step))
      refine codeAny_mono (codeAny_call_builtin (R := wants (fun r s2 => r = .none ∧ ∃ h' tk, s2 = { s with heap := h', toks := tk } ∧ SetS P w h' s.heap.objs.size (putL [] xs) ∧ (∀ b o, s.heap.get? b = some o → h'.get? b = some o)) E)
        F.called_set.init.plain F.entry_set_init (check_set_init_1 hTS ?_)) fun r2 s2 hr2 => ?_
      · unfold Builtin.«set.__init__» noKeywords Builtin.Frozenset.updateFrom
        generalize hPI : pyIter = PI
        wp_walk
        subst hPI
        refine hi _ _ _ fun o fp Pv St W hS' hv st => ?_
        refine wpAny_bind (wpAny_runValue (?_))
        refine update_texts (W _ (by simp [hh])) s.heap.objs.size hS' xs rfl hv xs.length 0 [] _ (by omega) (Nat.zero_le _) st (setS_new (Heap.get?_push_of_some _ hS)) (by show 0 + (xs.length - 0) + 1 < scanBound; omega) fun s' mv y => ?_
        obtain ⟨h', g2, d', tk', os'⟩ := s'
        obtain rfl : g2 = s.gens := mv.gens
        obtain rfl : d' = s.drawn := mv.drawn
        obtain rfl : os' = s.os := mv.os
        show wpAny _ _ _ _ _ _
        refine wpAny_pure ?_
        show wpAny _ _ (ret Value.none) _ _ _
        refine wpAny_pure ⟨rfl, h', tk', rfl, y, fun b o e => ?_⟩
        have b0 : b < s.heap.objs.size := Heap.lt_size e
        refine mv.heap b o (fun z => ?_) (Heap.get?_push_of_some _ (Heap.get?_push_of_some _ e))
        rcases List.mem_cons.mp z with z | z
        · exact absurd b0 (by rw [z]; exact Nat.lt_irrefl _)
        · have z2 : b = s.heap.objs.size + 1 := (List.mem_singleton.mp z).trans (size_push' _ _)
          exact absurd b0 (by rw [z2]; exact Nat.not_lt_of_le (Nat.le_succ _))
      · cases r2 with
        | error e => exact hr2
        | ok f2 =>
          cases f2 with
          | ret r =>
            obtain ⟨rfl, h', tk, rfl, y, k⟩ := hr2
            repeat (any_goals (first | assumption | wp_step))
            exact h _ _ y k
          | _ => exact hr2.elim
    | _ => exact hr.elim
end
section
variable {P : Program} {w : World} {A : Around} {E : Value → Shared → Prop} {s : Shared}
def tsigns (x : Str) : List Str := x.cps.toList.map fun c => ⟨#[c]⟩
theorem iter_text {x : Str} {t : Tok} {S : Addr} (hS : S ≠ s.heap.objs.size) : IterT P w (.str x t) S s (tsigns x) := by
  intro A1 E1 Q1 q
  refine wpAny_pyIter_str fun o St W st => ?_
  refine q o [s.heap.objs.size] (SignAt x) (fun i s' => St i s'.heap) (fun A2 h2 => ?_) (fun z => hS (List.mem_singleton.mp z)) (fun i v hv => ?_) st
  · have z := (W A2 h2).toS
    have e : (tsigns x).length = x.cps.size := by simp [tsigns]
    rw [e]
    exact z
  · obtain ⟨c, u, hc, rfl⟩ := hv
    refine ⟨⟨#[c]⟩, u, ?_, rfl⟩
    unfold tsigns
    rw [List.getElem?_map, Array.getElem?_toList, hc] <;> rfl
theorem iter_listT {l : Addr} {items : List Value} {xs : List Str} {S : Addr} (hl : s.heap.IsList l items.toArray) (hv : PySem.W.EachIs (fun v (k : Str) => ∃ t, v = .str k t) items xs) (hS : S ≠ s.heap.objs.size) (hSl : S ≠ l) : IterT P w (.ref l) S s xs := by
  intro A1 E1 Q1 q
  have hlt : l < s.heap.objs.size := by
    obtain ⟨_, e, _⟩ := hl
    exact Heap.lt_size e
  refine wpAny_pyIter_list hl ?_
  have hsz : items.toArray.size = xs.length := by rw [List.size_toArray]; exact hv.length
  have ne : l ≠ s.heap.objs.size := Nat.ne_of_lt hlt
  refine q _ [s.heap.objs.size, l] (fun i v => items.toArray[i]? = some v) (fun i s' => s'.heap.IsListIter s.heap.objs.size l i ∧ s'.heap.IsList l items.toArray) (fun A2 h2 => ?_) (fun z => ?_) (fun i v e => ?_) ⟨?_, ?_⟩
  · have z := (Walks.list (prog := P) (w := w) h2 s.heap.objs.size l ne items.toArray).toS
    rw [hsz] at z
    exact z
  · rcases List.mem_cons.mp z with z | z
    · exact hS z
    · exact hSl (List.mem_singleton.mp z)
  · have e1 : items[i]? = some v := by
      rw [← e]
      simp
    have key : ∀ {us : List Value} {ks : List Str}, PySem.W.EachIs (fun v (k : Str) => ∃ t, v = .str k t) us ks → ∀ (i : Nat), us[i]? = some v → ∃ k t, ks[i]? = some k ∧ v = .str k t := by
      intro us ks h
      induction h with
      | nil => intro i e; simp at e
      | cons h1 _ ih =>
        intro i e
        cases i with
        | zero =>
          obtain ⟨t, e2⟩ := h1
          simp at e
          exact ⟨_, t, rfl, by rw [← e]; exact e2⟩
        | succ i =>
          rw [List.getElem?_cons_succ] at e
          obtain ⟨k, t, e2, e3⟩ := ih i e
          exact ⟨k, t, by rw [List.getElem?_cons_succ]; exact e2, e3⟩
    exact key hv i e1
  · exact ⟨_, Heap.get?_push_size _ rfl, rfl, rfl⟩
  · exact hl.push _
theorem perm_of_len {α : Type} [DecidableEq α] : ∀ {l ks : List α}, l.Nodup → (∀ x ∈ l, x ∈ ks) → ks.length = l.length → ks.Perm l
  | [], ks, _, _, h => by rw [List.eq_nil_of_length_eq_zero h]
  | x :: l, ks, nd, hs, h => by
    obtain ⟨n1, n2⟩ := List.nodup_cons.mp nd
    have hx := hs x List.mem_cons_self
    have p := List.perm_cons_erase hx
    refine p.trans ((perm_of_len n2 (fun y hy => ?_) ?_).cons x)
    · exact (List.mem_erase_of_ne (fun (e : y = x) => n1 (by rw [← e]; exact hy))).2 (hs y (.tail _ hy))
    · rw [List.length_erase_of_mem hx, h] <;> rfl
end
end Vs
namespace Vk
open PySem PySem.Spec PyProof.Rows L2 Vs
def SetSO (P : Program) (w : World) (a : Addr) (l : List Str) : HO := .ext fun h => SetS P w h a l
def leS (x y : Str) : Bool := decide (x.cps.toList ≤ y.cps.toList)
section
variable {X : Cx}
theorem setSO_new {P : Program} {w : World} {H : Hp} {h : Heap} {a : Addr} {l : List Str} (x : SetS P w h a l) : ObjOk P w H h a (SetSO P w a l) := by
  have ⟨D, ho, _⟩ := x
  exact ⟨x, ⟨_, ho⟩, fun h1 h2 p k => p.at k⟩
/-- set(z) of a text -/
def rSetTxt (P : Program) (w : World) : List V → Hp → VK → Prop := fun vs H Q => ∃ z, vs = [.str z] ∧ z.cps.size + 1 < scanBound ∧ ∀ p, H p = none → Q (.ref p) (upd H p (SetSO P w p (putL [] (tsigns z))))
theorem cr_setTxt (hc : X.calm = true) : CallR X (.type "set") (rSetTxt X.prog X.w) := by
  intro pins s σ H vs us Q I r h
  obtain ⟨z, rfl, hb, q⟩ := h
  obtain ⟨u, rfl, t, rfl⟩ := vals1 r
  have hz1 : (s.heap.push (newO X.w)).objs.size = s.heap.objs.size + 1 := size_push' _ _
  have hls : (tsigns z).length = z.cps.size := by simp [tsigns]
  refine call_setG (I.ok.hd hc) (typeIs_str _ _ _) PySem.F.sub_str_set PySem.F.sub_str_frozenset (by decide) (iter_text (s := { s with heap := s.heap.push (newO X.w) }) (by show s.heap.objs.size ≠ (s.heap.push (newO X.w)).objs.size; rw [hz1]; omega)) (by rw [hls]; exact hb) fun h' tk x k => ?_
  exact ⟨.ref _, _, I.laid (t' := tk) k (Nat.le_refl _) (setSO_new x), rfl, q _ (I.hok.fresh (Nat.le_refl _))⟩
/-- set(l) of a list of texts -/
def rSetLT (K : PySem.W.Frag) (P : Program) (w : World) : List V → Hp → VK → Prop := fun vs H Q => ∃ a ks, vs = [.ref a] ∧ SqL K H a (ks.map V.str) ∧ ks.length + 1 < scanBound ∧ ∀ p, H p = none → Q (.ref p) (upd H p (SetSO P w p (putL [] ks)))
theorem each_texts : ∀ {ks : List Str} {us : List Value}, Vals (ks.map V.str) us → PySem.W.EachIs (fun v (k : Str) => ∃ t, v = .str k t) us ks
  | [], us, r => by
    cases r
    exact .nil
  | k :: ks, us, r => by
    cases r with
    | cons h t => exact .cons h (each_texts t)
theorem cr_setLT (hc : X.calm = true) : CallR X (.type "set") (rSetLT X.K X.prog X.w) := by
  intro pins s σ H vs us Q I r h
  obtain ⟨a, ks, rfl, hs, hb, q⟩ := h
  rw [Vals.ref1 r]
  obtain ⟨its, rv, hl, _⟩ := I.list hs
  have hl' := hl.isList
  have hlt : a < s.heap.objs.size := by
    obtain ⟨_, e, _⟩ := hl'
    exact Heap.lt_size e
  have hz1 : (s.heap.push (newO X.w)).objs.size = s.heap.objs.size + 1 := size_push' _ _
  refine call_setG (I.ok.hd hc) (hl'.push _).typeIs PySem.F.sub_list_set PySem.F.sub_list_frozenset (by decide) (iter_listT (s := { s with heap := s.heap.push (newO X.w) }) (hl'.push _) (each_texts rv) (by show s.heap.objs.size ≠ (s.heap.push (newO X.w)).objs.size; rw [hz1]; omega) (Nat.ne_of_gt hlt)) hb fun h' tk x k => ?_
  exact ⟨.ref _, _, I.laid (t' := tk) k (Nat.le_refl _) (setSO_new x), rfl, q _ (I.hok.fresh (Nat.le_refl _))⟩
/-- sorted(found) of a set of texts -/
def rSortedTx (P : Program) (w : World) : List V → Hp → VK → Prop := fun vs H Q => ∃ a l, vs = [.ref a] ∧ H a = some (SetSO P w a l) ∧
  ∀ (ys : List Str) p, ys.Perm l → ys.Nodup → ys.Pairwise (fun x y => leS x y = true) → H p = none → Q (.ref p) (upd H p (.lst (ys.map V.str)))
theorem elems_texts {P : Program} {w : World} : ∀ {es : List (Int × Value)}, ElemsOf (strKind P w) es → ∃ ks : List Str, PySem.W.EachIs (fun v (k : Str) => ∃ t, v = .str k t) (es.map (·.2)) ks
  | [], _ => ⟨[], .nil⟩
  | e :: es, h => by
    obtain ⟨⟨k, hk, _⟩, _⟩ := h e List.mem_cons_self
    obtain ⟨t, ht⟩ := Value.isStrOf_shape (x := k) (v := e.2) hk
    obtain ⟨ks, r⟩ := elems_texts (P := P) (w := w) (es := es) fun e' he => h e' (.tail _ he)
    exact ⟨k :: ks, .cons ⟨t, ht⟩ r⟩
theorem texts_mem {us : List Value} {ks : List Str} (r : PySem.W.EachIs (fun v (k : Str) => ∃ t, v = .str k t) us ks) : ∀ {v : Value} {k : Str}, v ∈ us → Value.isStrOf k v = true → k ∈ ks := by
  induction r with
  | nil => exact fun h => nomatch h
  | @cons av bk _ _ h1 _ ih =>
    intro v k hv hk
    rcases List.mem_cons.mp hv with e | hv
    · obtain ⟨t, e2⟩ := h1
      rw [e, e2] at hk
      obtain ⟨t2, e3⟩ := Value.isStrOf_shape (x := k) (v := .str bk t) hk
      injection e3 with e4 _
      rw [← e4]
      exact List.mem_cons_self
    · exact .tail _ (ih hv hk)
theorem vals_texts : ∀ {us : List Value} {ks : List Str}, PySem.W.EachIs (fun v (k : Str) => ∃ t, v = .str k t) us ks → Vals (ks.map V.str) us
  | _, _, .nil => .nil
  | _, _, .cons h t => .cons h (vals_texts t)
theorem cr_sortedTx (hc : X.calm = true) (hu : X.A.units + 64 < cLine) : CallR X (.builtin "sorted") (rSortedTx X.prog X.w) := by
  intro pins s σ H vs us Q I r h
  obtain ⟨a, l, rfl, ha, q⟩ := h
  rw [Vals.ref1 r]
  obtain ⟨⟨D, ho, F, nd, hb, hr, ld⟩, _⟩ : SetS X.prog X.w s.heap a l ∧ _ := I.hok a _ ha
  obtain ⟨ks, e⟩ := elems_texts F.el
  have hlen : ks.length = l.length := by
    rw [← e.length, List.length_map, Array.length_toList]
    exact F.sz
  have pk : ks.Perm l := perm_of_len nd (fun k hk => by
    obtain ⟨en, he, z⟩ := (F.mem k).mp hk
    exact texts_mem e (List.mem_map.mpr ⟨en, he, rfl⟩) z) hlen
  refine sorted_setG (enc := PyData.str) (R := fun v (k : Str) => ∃ t, v = .str k t) (I.ok.hd hc) ⟨_, ho, rfl, rfl⟩ F.fit (by rw [F.sz]; exact hb) hr ld (e.mono fun v k z => ⟨z, by obtain ⟨t, rfl⟩ := z; exact .str k t⟩)
    (PySem.W.AllAlike.of fun _ _ => by simp [PySem.W.alike]) (PySem.W.Sortable.others fun b => ⟨(fun z => nomatch z), fun _ z => nomatch z⟩) (fun b _ => by simp [PyData.depth]; omega) fun s' p out c bs' k g o hp hg pb eo => ?_
  have py : (bs'.mergeSort (PySem.W.dataLe false PyData.str)).Perm l := (List.mergeSort_perm _ _).trans (pb.trans pk)
  have hlo : ((bs'.mergeSort (PySem.W.dataLe false PyData.str)).map V.str).length ≤ sizeLine := by
    rw [List.length_map, py.length_eq]
    exact fits_of_scanBound hb
  have hn : H p = none := I.hok.fresh hp
  have e2 : s' = { s with heap := s'.heap, gens := s'.gens, drawn := s'.drawn, toks := s'.toks } := by
    cases s'
    cases s
    cases o
    rfl
  rw [e2]
  have J : Inv X pins σ (upd H p (.lst ((bs'.mergeSort (PySem.W.dataLe false PyData.str)).map V.str))) { s with heap := s'.heap, gens := s'.gens, drawn := s'.drawn, toks := s'.toks } :=
    I.call (ch := []) (Un.laid k hp hn) (I.hok.laid k hp ⟨hlo, out, c, vals_texts eo, hg⟩) (by rw [g]; exact I.bare) (fun _ z => nomatch z)
  refine ⟨.ref p, _, J, rfl, q _ p py (py.nodup_iff.mpr nd) ?_ hn⟩
  have le : PySem.W.dataLe false PyData.str = fun x y : Str => leS x y := PySem.W.dataLe_str (fun b : Str => b)
  rw [le]
  refine List.pairwise_mergeSort (fun x y z h1 h2 => ?_) (fun x y => ?_) bs'
  · simp only [leS, decide_eq_true_eq] at h1 h2 ⊢
    exact List.le_trans h1 h2
  · simp only [leS, Bool.or_eq_true, decide_eq_true_eq]
    exact List.le_total _ _
end
end Vk
set_option Elab.async false
set_option linter.all false
set_option maxRecDepth 100000
set_option maxHeartbeats 4000000
/-! Sets of tuples of ints and texts: made, asked, added to; sorted. -/
namespace Vt
open PySem PySem.Spec PyProof.Rows L2
/-- the tuple at a has the keys k -/
abbrev IsM (P : Program) (w : World) (h : Heap) (k : List Key) (a : Addr) : Prop := IsTupleKey (mixKind P w) h k a
abbrev mh (P : Program) (w : World) (k : List Key) : Int := tupleKeyHash (mixKind P w) k
def mRows (P : Program) (w : World) (L : List (Addr × List Key)) : List (Int × Value) := L.map fun p => (mh P w p.2, Value.ref p.1)
structure SetM (P : Program) (w : World) (h : Heap) (a : Addr) (L : List (Addr × List Key)) (es : Array (Int × Value)) (ep : Nat) (t : SetTable) : Prop where
  ob : ∃ o, h.get? a = some o ∧ o.ExactSet ∧ o.data = .set es ep t
  rows : es.toList = mRows P w L
  tab : Tab t (L.map fun p => mh P w p.2)
  nd : (L.map (·.2)).Nodup
  tup : ∀ p ∈ L, IsM P w h p.2 p.1
  led : w.params.followText "set-order" = true ∨ t.led = true
  room : L.length * 5 < t.mask * 3
  mm : t.mask = 7 ∨ t.mask = 31 ∨ t.mask = 127 ∨ t.mask = 511 ∨ t.mask = 2047 ∨ t.mask = 8191
  few : L.length ≤ 4000
section
variable {P : Program} {w : World} {A : Around} {E : Value → Shared → Prop} {s : Shared}
theorem items_mix {k : List Key} {vs : List Value} (h : ItemsAre (mixKind P w) k vs) : ∀ v ∈ vs, (∃ i t, v = Value.int i t) ∨ ∃ x t, v = Value.str x t := by
  induction h with
  | nil => exact fun v hv => nomatch hv
  | cons h1 _ ih =>
    intro v hv
    rcases List.mem_cons.mp hv with e | hv
    · rcases keyIs_shape h1 with ⟨i, t, _, e2⟩ | ⟨x, t, _, e2⟩
      · exact .inl ⟨i, t, e.trans e2⟩
      · exact .inr ⟨x, t, e.trans e2⟩
    · exact ih v hv
theorem cls_mix (n : Nat) {v : Value} (h : (∃ i t, v = Value.int i t) ∨ ∃ x t, v = Value.str x t) : ofAClassStatement n v = pure false := by
  rcases h with ⟨i, t, rfl⟩ | ⟨x, t, rfl⟩
  · cases n <;> rfl
  · cases n <;> rfl
theorem cls_tupM {k : List Key} {b : Addr} {Q : Bool → Shared → Prop} (hk : IsM P w s.heap k b) (h : Q false s) : wpAny (model P w) A (ofAClassStatement 8 (.ref b)) Q E s := by
  have ty := hk.typeIs
  obtain ⟨o, items, n, ho, _, hd, hi⟩ := hk
  unfold ofAClassStatement
  refine wpAny_bind (wpAny_typeOf ty ?_)
  dsimp only
  simp only [show (("tuple" : String) == "tuple") = true by decide, if_true, Bool.not_true, Bool.false_eq_true, if_false]
  try refine wpAny_bind (wpAny_pure ?_)
  try simp only [Bool.not_true, Bool.false_eq_true, if_false]
  show wpAny _ _ (seqItems? (.ref b) >>= _) _ _ s
  refine wpAny_bind (wpAny_seqItems ho hd ?_)
  dsimp only
  refine wpAny_bind ?_
  show wpAny _ _ (forIn items _ _) _ _ s
  rw [← Array.forIn_toList]
  refine wpAny_forIn_list _ (fun rest r s' => (r.1 = none ∧ s' = s) ∧ ∀ v ∈ rest, (∃ i t, v = Value.int i t) ∨ ∃ x t, v = Value.str x t) _ (fun v rest r s' z => ?_) (fun r s' z => ?_) _ _ ⟨⟨rfl, rfl⟩, items_mix hi⟩
  · obtain ⟨⟨z1, rfl⟩, z2⟩ := z
    rw [cls_mix _ (z2 v List.mem_cons_self)]
    refine wpAny_bind (wpAny_pure ?_)
    simp only [Bool.false_eq_true, if_false]
    exact wpAny_pure ⟨⟨rfl, rfl⟩, fun u hu => z2 u (.tail _ hu)⟩
  · obtain ⟨r1, r2⟩ := r
    obtain ⟨⟨z1, rfl⟩, _⟩ := z
    simp only at z1
    subst z1
    exact wpAny_pure h
theorem byval_mix {v : Value} (n : Nat) (h : (∃ i t, v = Value.int i t) ∨ ∃ x t, v = Value.str x t) : ∃ b, hashByValue n v = pure b := by
  rcases h with ⟨i, t, rfl⟩ | ⟨x, t, rfl⟩
  · exact ⟨true, by cases n <;> rfl⟩
  · exact ⟨false, by cases n <;> rfl⟩
theorem byval_tupM {k : List Key} {b : Addr} {Q : Bool → Shared → Prop} (hk : IsM P w s.heap k b) (h : ∀ r, Q r s) : wpAny (model P w) A (hashByValue 8 (.ref b)) Q E s := by
  have ty := hk.typeIs
  obtain ⟨o, items, n, ho, _, hd, hi⟩ := hk
  unfold hashByValue
  refine wpAny_bind (wpAny_specialOf ty PySem.F.slot_tuple_hash.lookup ?_)
  show wpAny _ _ (seqItems? (.ref b) >>= _) _ _ s
  refine wpAny_bind (wpAny_seqItems ho hd ?_)
  refine wpAny_bind ?_
  show wpAny _ _ (forIn items _ _) _ _ s
  rw [← Array.forIn_toList]
  refine wpAny_forIn_list _ (fun rest r s' => (r.1 = none ∧ s' = s) ∧ ∀ v ∈ rest, (∃ i t, v = Value.int i t) ∨ ∃ x t, v = Value.str x t) _ (fun v rest r s' z => ?_) (fun r s' z => ?_) _ _ ⟨⟨rfl, rfl⟩, items_mix hi⟩
  · obtain ⟨⟨z1, rfl⟩, z2⟩ := z
    obtain ⟨b, eb⟩ := byval_mix (v := v) 7 (z2 v List.mem_cons_self)
    rw [eb]
    refine wpAny_bind (wpAny_pure ?_)
    cases b with
    | true =>
      simp only [Bool.not_true, Bool.false_eq_true, if_false]
      exact wpAny_pure ⟨⟨rfl, rfl⟩, fun u hu => z2 u (.tail _ hu)⟩
    | false =>
      simp only [Bool.not_false, if_true]
      exact wpAny_pure (wpAny_pure (h false))
  · obtain ⟨r1, r2⟩ := r
    obtain ⟨⟨z1, rfl⟩, _⟩ := z
    simp only at z1
    subst z1
    exact wpAny_pure (h true)
theorem seen_M {k : List Key} {b : Addr} {Q : Bool → Shared → Prop} (hk : IsM P w s.heap k b) {ys : List Value} (hy : ∀ y ∈ ys, ∃ k' c, y = Value.ref c ∧ IsM P w s.heap k' c) (h : Q false s) : wpAny (model P w) A (searchCouldBeSeen (.ref b) ys) Q E s := by
  unfold searchCouldBeSeen
  refine wpAny_bind ?_
  refine wpAny_forIn_list _ (fun rest r s' => (r.1 = none ∧ s' = s) ∧ ∀ y ∈ rest, ∃ k' c, y = Value.ref c ∧ IsM P w s.heap k' c) _ (fun v rest r s' z => ?_) (fun r s' z => ?_) _ _ ⟨⟨rfl, rfl⟩, hy⟩
  · obtain ⟨⟨z1, rfl⟩, z2⟩ := z
    obtain ⟨k', c, rfl, hc⟩ := z2 v List.mem_cons_self
    have on : ∀ y ∈ rest, ∃ k' c, y = Value.ref c ∧ IsM P w s'.heap k' c := fun u hu => z2 u (.tail _ hu)
    dsimp only
    by_cases same : (b == c || (carriedByValue (.ref b) && carriedByValue (.ref c))) = true
    · exact wp_if_pos same (wpAny_pure ⟨⟨rfl, rfl⟩, on⟩)
    · refine wp_if_neg same (wpAny_bind (wpAny_eqIsQuiet_tuple hk ?_))
      simp only [Bool.not_true, Bool.false_eq_true, if_false]
      refine wpAny_bind (wpAny_eqIsQuiet_tuple hc ?_)
      simp only [Bool.not_true, Bool.false_eq_true, if_false]
      refine wpAny_bind (cls_tupM hk ?_)
      simp only [Bool.false_eq_true, if_false]
      refine wpAny_bind (cls_tupM hc ?_)
      simp only [Bool.false_eq_true, if_false]
      exact wpAny_pure ⟨⟨rfl, rfl⟩, on⟩
  · obtain ⟨r1, r2⟩ := r
    obtain ⟨⟨z1, rfl⟩, _⟩ := z
    simp only at z1
    subst z1
    exact wpAny_pure h
variable {a : Addr} {L : List (Addr × List Key)} {es : Array (Int × Value)} {ep : Nat} {t : SetTable}
theorem SetM.size (R : SetM P w s.heap a L es ep t) : es.size = L.length := by
  have h := congrArg List.length R.rows
  rw [mRows, List.length_map, Array.length_toList] at h
  exact h
theorem SetM.maskLe (R : SetM P w s.heap a L es ep t) : 7 ≤ t.mask ∧ t.mask ≤ 8191 := by
  rcases R.mm with e | e | e | e | e | e <;> omega
theorem SetM.fits (R : SetM P w s.heap a L es ep t) : t.fits es.size = true := by
  have h1 := R.tab.len
  rw [List.length_map] at h1
  have h2 := R.size
  have h3 := R.room
  rw [SetTable.fits, SetTable.fill, R.tab.cl, Bool.and_eq_true, beq_iff_eq, decide_eq_true_eq]
  show t.place.size = es.size ∧ t.place.size + 0 ≤ t.mask
  omega
theorem SetM.at (R : SetM P w s.heap a L es ep t) {i : Nat} {p : Addr × List Key} (h : L[i]? = some p) : es[i]? = some (mh P w p.2, Value.ref p.1) := by
  rw [← Array.getElem?_toList, R.rows, mRows, List.getElem?_map, h] <;> rfl
theorem SetM.way0 (R : SetM P w s.heap a L es ep t) : ¬ t.gaveWay = true := by
  rw [SetTable.gaveWay, R.tab.odd]
  decide
abbrev from0 (m : Nat) (h : Int) : SetTable.Probe := runAt m (SetTable.bits h % (m + 1)) (SetTable.bits h)
theorem nth_no (m : Nat) : ∀ (n : Nat) (p : SetTable.Probe), p.dummy = none → (nth m p n).dummy = none
  | 0, _, h => h
  | n + 1, p, h => nth_no m n _ (by unfold adv; split <;> exact h)
theorem search_m (R : SetM P w s.heap a L es ep t) {x : Addr} {k : List Key} (hx : IsM P w s.heap k x) (hu : A.units < cLine) {add : Bool} {H : Int} (hH : H = mh P w k) {K : Nat} (kf : K < 10 * SetTable.turns t.mask)
    (out : way t.mask H K ∉ t.place.toList) (ins : ∀ c, c < K → way t.mask H c ∈ t.place.toList) {Q : SetFound → Shared → Prop}
    (yes : k ∈ L.map (·.2) → ∀ o, (add = false → o.isSome = true) → Q (.there o) s) (no : k ∉ L.map (·.2) → Q (.free (way t.mask H K) false) s) :
    ∀ (f c : Nat) (stand : Option SetTable.Probe), stand.getD (t.probeStart H) = nth t.mask (from0 t.mask H) c → c ≤ K → K - c < f →
      (∀ (i : Nat) p, L[i]? = some p → p.2 = k → ∃ d, c ≤ d ∧ d < K ∧ t.place.toList[i]? = some (way t.mask H d)) → wpAny (model P w) A (setSearchFrom a (.ref x) H add f stand) Q E s
  | 0, _, _, _, _, hf, _ => absurd hf (Nat.not_lt_zero _)
  | f + 1, c, stand, hst, hc, hf, left => by
    obtain ⟨o, ho, hex, hd⟩ := R.ob
    rw [setSearchFrom_succ]
    refine wpAny_bind (wpAny_setState_of ho hd R.fits ?_)
    dsimp only
    refine wp_if_neg R.way0 ?_
    try refine wpAny_bind (wpAny_pure ?_)
    have sh : ∀ q, (nth t.mask (nth t.mask (from0 t.mask H) c) q).j = way t.mask H (c + q) := fun q => congrArg SetTable.Probe.j (nth_add t.mask c _ q).symm
    have hh : ∀ (i : Nat) p, L[i]? = some p → (es[i]?.map (·.1)).getD 0 = mh P w p.2 := fun i p hp => by rw [R.at hp] <;> rfl
    have spec := go_spec t R.tab.up R.tab.cl (fun i => (es[i]?.map (·.1)).getD 0) H (10 * SetTable.turns t.mask) (K - c) (nth t.mask (from0 t.mask H) c) (nth_no _ _ _ rfl) (by omega)
      (fun q hq => by rw [sh]; exact ins (c + q) (by omega)) (by rw [sh, show c + (K - c) = K by omega]; exact out)
    rcases spec with ⟨q, i, hq, hi, he, hno, pr⟩ | ⟨hno, pr⟩
    · have pr2 : t.probe (fun i => (es[i]?.map (·.1)).getD 0) H (stand.getD (t.probeStart H)) = some (.candidate (nth t.mask (nth t.mask (from0 t.mask H) c) q).j i (nth t.mask (nth t.mask (from0 t.mask H) c) (q + 1))) := by
        rw [hst]
        exact pr
      rw [pr2]
      dsimp only
      rw [sh] at hi
      have il : i < L.length := by
        have h1 := (List.getElem?_eq_some_iff.mp hi).1
        rw [Array.length_toList, R.tab.len, List.length_map] at h1
        exact h1
      obtain ⟨p, hp⟩ : ∃ p, L[i]? = some p := ⟨_, List.getElem?_eq_getElem il⟩
      have pm := List.mem_of_getElem? hp
      have rest : wpAny (model P w) A (searchRest a (.ref x) H add f es t (nth t.mask (nth t.mask (from0 t.mask H) c) q).j i (nth t.mask (nth t.mask (from0 t.mask H) c) (q + 1))) Q E s := by
        unfold searchRest
        rw [R.at hp]
        dsimp only
        refine wpAny_bind (wpAny_holding (wpAny_eqBool_tuple hu (R.tup p pm) hx ?_))
        refine wpAny_bind (wpAny_setState_of ho hd R.fits ?_)
        dsimp only
        rw [sh]
        have sl : t.slot (way t.mask H (c + q)) = .live i := slot_live R.tab.up hi
        by_cases kk : p.2 = k
        · have km : k ∈ L.map (·.2) := List.mem_map.mpr ⟨p, pm, kk⟩
          cases add with
          | true => exact wp_if_pos (by simp [kk]) (wpAny_pure (yes km _ fun z => nomatch z))
          | false =>
            refine wp_if_neg (by simp) ?_
            try refine wpAny_bind (wpAny_pure ?_)
            rw [sameMem]
            dsimp only
            simp only [if_true, sl, R.at hp]
            refine wpAny_bind (wpAny_isSame_ref_self (wpAny_bind (wpAny_pure ?_)))
            simp only [if_true]
            exact wp_if_pos (by simp [kk]) (wpAny_pure (yes km _ fun _ => rfl))
        · refine wp_if_neg (by simp [kk]) ?_
          try refine wpAny_bind (wpAny_pure ?_)
          rw [sameMem]
          dsimp only
          simp only [if_true, sl, R.at hp]
          refine wpAny_bind (wpAny_isSame_ref_self (wpAny_bind (wpAny_pure ?_)))
          simp only [if_true]
          refine wp_if_neg (by simp [kk]) ?_
          refine search_m R hx hu hH kf out ins yes no f (c + (q + 1)) _ (nth_add t.mask c _ (q + 1)).symm (by omega) (by omega) fun i0 p0 h0 k0 => ?_
          obtain ⟨d, d1, d2, d3⟩ := left i0 p0 h0 k0
          refine ⟨d, ?_, d2, d3⟩
          rcases Nat.lt_trichotomy d (c + q) with z | z | z
          · exact absurd ((hh i0 p0 h0).trans ((congrArg (mh P w) k0).trans hH.symm)) (hno (d - c) i0 (by omega) (by rw [sh, show c + (d - c) = d by omega]; exact d3))
          · rw [z] at d3
            have s0 := slot_live R.tab.up d3
            rw [sl] at s0
            injection s0 with s0
            rw [← s0, hp] at h0
            cases h0
            exact absurd k0 kk
          · omega
      by_cases hl : t.led = true
      · refine wp_if_neg (by simp [hl]) ?_
        try refine wpAny_bind (wpAny_pure ?_)
        exact rest
      · refine wp_if_pos (by simp [hl]) (wpAny_bind (seen_M hx (fun y hy => ?_) ?_))
        · obtain ⟨e, he2, rfl⟩ := List.mem_map.mp hy
          have e1 : e ∈ es ∧ e.1 = H := by simpa using he2
          have e2 : e ∈ es.toList := by simpa using e1.1
          rw [R.rows] at e2
          obtain ⟨p2, hp2, rfl⟩ := List.mem_map.mp e2
          exact ⟨p2.2, p2.1, rfl, R.tup p2 hp2⟩
        · refine wp_if_neg (by decide) ?_
          try refine wpAny_bind (wpAny_pure ?_)
          exact rest
    · have pr2 : t.probe (fun i => (es[i]?.map (·.1)).getD 0) H (stand.getD (t.probeStart H)) = some (.empty (nth t.mask (nth t.mask (from0 t.mask H) c) (K - c)).j none) := by
        rw [hst]
        exact pr
      rw [pr2]
      dsimp only
      rw [sh, show c + (K - c) = K by omega]
      refine wpAny_pure (no fun hm => ?_)
      obtain ⟨p0, h0, k0⟩ := List.mem_map.mp hm
      obtain ⟨i0, hi0, e0⟩ := List.getElem_of_mem h0
      have g0 : L[i0]? = some p0 := by rw [List.getElem?_eq_getElem hi0, e0]
      obtain ⟨d, d1, d2, d3⟩ := left i0 p0 g0 k0
      exact hno (d - c) i0 (by omega) (by rw [sh, show c + (d - c) = d by omega]; exact d3) ((hh i0 p0 g0).trans ((congrArg (mh P w) k0).trans hH.symm))
/-- a search, from its begin -/
theorem search_M (R : SetM P w s.heap a L es ep t) {x : Addr} {k : List Key} (hx : IsM P w s.heap k x) (hu : A.units < cLine) {add : Bool} {Q : SetFound → Shared → Prop}
    (yes : k ∈ L.map (·.2) → ∀ o, (add = false → o.isSome = true) → Q (.there o) s)
    (no : ∀ K, k ∉ L.map (·.2) → way t.mask (mh P w k) K ∉ t.place.toList → (∀ c, c < K → way t.mask (mh P w k) c ∈ t.place.toList) → Q (.free (way t.mask (mh P w k) K) false) s) :
    wpAny (model P w) A (setSearch a (.ref x) (mh P w k) add) Q E s := by
  have rm := R.room
  obtain ⟨m1, m2⟩ := R.maskLe
  obtain ⟨K, kf, out, ins⟩ := R.tab.gap (by rw [List.length_map]; omega) (mh P w k)
  have big : K < 100000 := by
    unfold SetTable.turns at kf
    omega
  unfold setSearch
  refine search_m R hx hu rfl kf out ins yes (fun z => no K z out ins) 100000 0 none rfl (Nat.zero_le _) (by omega) fun i p hp hk => ?_
  have hi : (L.map fun p => mh P w p.2)[i]? = some (mh P w k) := by rw [List.getElem?_map, hp, ← hk] <;> rfl
  have il : i < t.place.toList.length := by
    rw [Array.length_toList, R.tab.len, List.length_map]
    exact (List.getElem?_eq_some_iff.mp hp).1
  obtain ⟨d, hd, e⟩ := R.tab.ahead out hi (List.getElem?_eq_getElem il)
  exact ⟨d, Nat.zero_le _, hd, by rw [List.getElem?_eq_getElem il, e]⟩
/-- k in the set -/
theorem has_M (R : SetM P w s.heap a L es ep t) {x : Addr} {k : List Key} (hx : IsM P w s.heap k x) (hu : A.units < cLine) {Q : Bool → Shared → Prop} (h : ∀ tk b, (b = true ↔ k ∈ L.map (·.2)) → Q b { s with toks := tk }) :
    wpAny (model P w) A (setContains a (.ref x)) Q E s := by
  unfold setContains
  refine wpAny_holding (wpAny_bind (wpAny_pyHash_tuple hu hx ?_))
  obtain ⟨o, ho, hex, hd⟩ := R.ob
  unfold setFind setFindIn
  refine wpAny_bind ?_
  refine wpAny_bind (wpAny_setState_of (s := { s with toks := s.toks + (k.length + 1) }) ho hd R.fits ?_)
  dsimp only
  refine wp_if_neg (by simp [byScan, Value.scannable]) ?_
  try refine wpAny_bind (wpAny_pure ?_)
  refine wpAny_bind (search_M (s := { s with toks := s.toks + (k.length + 1) }) (add := false) R hx hu (fun hm o ok => ?_) fun K hm _ _ => ?_)
  · refine wpAny_pure (wpAny_pure ?_)
    have := h (s.toks + (k.length + 1)) true ⟨fun _ => hm, fun _ => rfl⟩
    rw [ok rfl]
    exact this
  · refine wpAny_pure (wpAny_pure ?_)
    exact h (s.toks + (k.length + 1)) false ⟨(fun z => nomatch z), fun z => absurd z hm⟩
theorem pick_rows (L : List (Addr × List Key)) (es : Array (Int × Value)) (hr : es.toList = mRows P w L) : ∀ l : List Nat, (∀ i ∈ l, i < L.length) → l.filterMap (fun i => es[i]?) = mRows P w (l.filterMap fun i => L[i]?) ∧
    ((l.filterMap fun i => L[i]?).map fun p => mh P w p.2) = l.map fun i => (es.map (·.1)).getD i 0
  | [], _ => ⟨rfl, rfl⟩
  | i :: l, h => by
    have hi := h i List.mem_cons_self
    obtain ⟨e1, e2⟩ := pick_rows L es hr l fun j hj => h j (.tail _ hj)
    have g : es[i]? = some (mh P w (L[i]).2, Value.ref (L[i]).1) := by
      rw [← Array.getElem?_toList, hr, mRows, List.getElem?_map, List.getElem?_eq_getElem hi] <;> rfl
    have g2 : (es.map (·.1)).getD i 0 = mh P w (L[i]).2 := by
      rw [Array.getD_eq_getD_getElem?, Array.getElem?_map, g] <;> rfl
    rw [List.filterMap_cons_some g, List.filterMap_cons_some (List.getElem?_eq_getElem hi), e1, List.map_cons, List.map_cons, e2, g2]
    exact ⟨rfl, rfl⟩
theorem pick_all {α : Type} (L : List α) : (List.range L.length).filterMap (fun i => L[i]?) = L := by
  have key : ∀ n, n ≤ L.length → (List.range n).filterMap (fun i => L[i]?) = L.take n := fun n => by
    induction n with
    | zero => exact fun _ => rfl
    | succ n ih =>
      intro hn
      rw [List.range_succ, List.filterMap_append, ih (by omega), List.filterMap_cons_some (List.getElem?_eq_getElem hn), List.take_add_one, List.getElem?_eq_getElem hn] <;> rfl
  have := key _ (Nat.le_refl _)
  rw [List.take_length] at this
  exact this
theorem isM_but {h h' : Heap} {k : List Key} {a b : Addr} {o : Obj} {es : Array (Int × Value)} {ep : Nat} {t : SetTable} (hb : IsM P w h k b) (ho : h.get? a = some o) (hd : o.data = .set es ep t) (hs : Heap.SameBut a h h') : IsM P w h' k b := by
  obtain ⟨ob, items, n, hob, hc, hdb, hi⟩ := hb
  refine ⟨ob, items, n, (hs.2 b fun z => ?_).trans hob, hc, hdb, hi⟩
  subst z
  rw [ho] at hob
  cases hob
  rw [hd] at hdb
  cases hdb
def Mk (m : Nat) : Prop := m = 7 ∨ m = 31 ∨ m = 127 ∨ m = 511 ∨ m = 2047 ∨ m = 8191
theorem pw_of {m : Nat} (h : Mk m) : Pw m := by
  rcases h with e | e | e | e | e | e
  · exact ⟨3, by decide, by rw [e]⟩
  · exact ⟨5, by decide, by rw [e]⟩
  · exact ⟨7, by decide, by rw [e]⟩
  · exact ⟨9, by decide, by rw [e]⟩
  · exact ⟨11, by decide, by rw [e]⟩
  · exact ⟨13, by decide, by rw [e]⟩
theorem relay_M {o : Obj} (ho : s.heap.get? a = some o) (hex : o.ExactSet) (hd : o.data = .set es ep t) (rows : es.toList = mRows P w L) (hsz : t.place.size = es.size) (hcl : t.dummies = #[]) (hfl : es.size ≤ t.mask)
    (nd : (L.map (·.2)).Nodup) (tup : ∀ p ∈ L, IsM P w s.heap p.2 p.1) (led : w.params.followText "set-order" = true ∨ t.led = true) (few : L.length ≤ 4000) {wanted M : Nat}
    (hw : SetTable.sizeAbove wanted - 1 = M) (hM : Mk M) (room : L.length * 5 < M * 3) {Q : Unit → Shared → Prop}
    (hQ : ∀ h' L' es' ep' t', Heap.SameBut a s.heap h' → SetM P w h' a L' es' ep' t' → L'.Perm L → Q () { s with heap := h' }) : wpAny (model P w) A (setRelay a wanted) Q E s := by
  have sl : es.size = L.length := by
    have h := congrArg List.length rows
    rw [mRows, List.length_map, Array.length_toList] at h
    exact h
  have fit : t.fits es.size = true := by
    rw [SetTable.fits, SetTable.fill, hcl, Bool.and_eq_true, beq_iff_eq, decide_eq_true_eq]
    show t.place.size = es.size ∧ t.place.size + 0 ≤ t.mask
    omega
  have M1 : M ≤ 8191 := by rcases hM with e | e | e | e | e | e <;> omega
  obtain ⟨t', ord, e, hp, T, em, el, ep1⟩ := relaid_tab t (hs := es.map (·.1)) (wanted := wanted) hw (pw_of hM) (by rw [Array.size_map, sl]; omega)
  rw [Array.size_map, sl] at hp
  obtain ⟨r1, r2⟩ := pick_rows (P := P) (w := w) L es rows ord.toList fun i hi => List.mem_range.mp (hp.mem_iff.mp hi)
  have pm : (ord.toList.filterMap fun i => L[i]?).Perm L := by
    have := hp.filterMap fun i => L[i]?
    rw [pick_all] at this
    exact this
  rw [← r2] at T
  have r3 : (ord.filterMap (es[·]?)).toList = mRows P w (ord.toList.filterMap fun i => L[i]?) := by
    rw [← r1]
    simp
  generalize (ord.toList.filterMap fun i => L[i]?) = L2 at T r3 pm
  have s2 : (ord.filterMap (es[·]?)).size = es.size := by
    have h := congrArg List.length r3
    rw [mRows, List.length_map, Array.length_toList, pm.length_eq] at h
    rw [h, sl]
  rw [setRelay_eq]
  refine wpAny_bind (wpAny_setState_of ho hd fit ?_)
  dsimp only
  refine wp_if_neg (by rw [sizeLine_eq]; omega) ?_
  try refine wpAny_bind (wpAny_pure ?_)
  rw [e]
  dsimp only
  refine wpAny_bind (wp_if_neg (by rw [s2]; simp) ?_)
  try refine wpAny_bind (wpAny_pure ?_)
  refine wpAny_pure ?_
  dsimp only
  refine wpAny_storeSet_of ho hd ?_ (by rw [s2, sl, sizeLine_eq]; omega)
  have sb : Heap.SameBut a s.heap (s.heap.update a (Obj.putSet (ord.filterMap (es[·]?)) t')) := Heap.SameBut.update ..
  exact hQ _ L2 (ord.filterMap (es[·]?)) (ep + 1) t' sb ⟨⟨_, store_at ho hd, ⟨hex.1, hex.2.1, hex.2.2⟩, rfl⟩, r3, T, (pm.map (·.2)).nodup_iff.mpr nd, fun p hpm => isM_but (tup p (pm.mem_iff.mp hpm)) ho hd sb, by rw [el]; exact led,
    by rw [pm.length_eq, em]; exact room, by rw [em]; exact hM, by rw [pm.length_eq]; exact few⟩ pm
/-- the table that comes when this one is full -/
theorem next_M {m n : Nat} (h : Mk m) (h1 : n * 5 < m * 3) (h2 : (n + 1) * 5 ≥ m * 3) (few : n + 1 ≤ 4000) : ∃ M, SetTable.sizeAbove (SetTable.grown (n + 1)) - 1 = M ∧ Mk M ∧ (n + 1) * 5 < M * 3 ∧ n + 1 ≤ m := by
  rcases h with e | e | e | e | e | e
  · obtain rfl : n = 4 := by omega
    exact ⟨31, by decide +kernel, .inr (.inl rfl), by decide, by omega⟩
  · obtain rfl : n = 18 := by omega
    exact ⟨127, by decide +kernel, .inr (.inr (.inl rfl)), by decide, by omega⟩
  · obtain rfl : n = 76 := by omega
    exact ⟨511, by decide +kernel, .inr (.inr (.inr (.inl rfl))), by decide, by omega⟩
  · obtain rfl : n = 306 := by omega
    exact ⟨2047, by decide +kernel, .inr (.inr (.inr (.inr (.inl rfl)))), by decide, by omega⟩
  · obtain rfl : n = 1228 := by omega
    exact ⟨8191, by decide +kernel, .inr (.inr (.inr (.inr (.inr rfl)))), by decide, by omega⟩
  · omega
/-- adding a tuple -/
theorem add_M (R : SetM P w s.heap a L es ep t) {x : Addr} {k : List Key} (hx : IsM P w s.heap k x) (hu : A.units < cLine) (few : L.length + 1 ≤ 4000) {Q : Bool → Shared → Prop}
    (hQ : ∀ b h' L' es' ep' t', Heap.SameBut a s.heap h' → SetM P w h' a L' es' ep' t' → (k ∈ L.map (·.2) → L' = L) → (k ∉ L.map (·.2) → L'.Perm ((x, k) :: L)) → Q b { s with heap := h' }) :
    wpAny (model P w) A (setAddHashed a (.ref x) (mh P w k)) Q E s := by
  obtain ⟨o, ho, hex, hd⟩ := R.ob
  have sl := R.size
  have rm := R.room
  unfold setAddHashed
  refine wpAny_holding ?_
  rw [show (100000 : Nat) = 99999 + 1 from rfl, setAddHashedIn_succ]
  refine wpAny_bind (wpAny_setState_of ho hd R.fits ?_)
  dsimp only
  refine wp_if_neg (by simp [byScan, Value.scannable]) ?_
  try refine wpAny_bind (wpAny_pure ?_)
  refine wpAny_bind (search_M (add := true) R hx hu (fun hm o' _ => ?_) fun K hm out ins => ?_)
  · dsimp only
    exact wpAny_pure (hQ false s.heap L es ep t (Heap.SameBut.refl a s.heap) R (fun _ => rfl) fun z => absurd hm z)
  · dsimp only
    refine wpAny_bind (wpAny_setState_of ho hd R.fits ?_)
    dsimp only
    obtain ⟨p, hp⟩ : ∃ p, p = SetTable.below t.place (way t.mask (mh P w k) K) := ⟨_, rfl⟩
    obtain ⟨q1, q2, q3⟩ := R.tab.put out ins hp
    have q0 : t.put (way t.mask (mh P w k) K) = ((t.put (way t.mask (mh P w k) K)).1, p) := by rw [hp] <;> rfl
    have q4 : (t.put (way t.mask (mh P w k) K)).1.mask = t.mask := rfl
    have q5 : (t.put (way t.mask (mh P w k) K)).1.led = t.led := rfl
    rw [q0]
    generalize (t.put (way t.mask (mh P w k) K)).1 = t1 at q2 q3 q4 q5 ⊢
    dsimp only
    have rows1 : (SetTable.insertAt es p (mh P w k, Value.ref x)).toList = mRows P w (L.take p ++ (x, k) :: L.drop p) := by
      rw [SetTable.toList_insertAt, R.rows, mRows, mRows, List.map_append, List.map_cons, List.map_take, List.map_drop]
    have pm : (L.take p ++ (x, k) :: L.drop p).Perm ((x, k) :: L) := by
      have z : (L.take p ++ (x, k) :: L.drop p).Perm ((x, k) :: (L.take p ++ L.drop p)) := List.perm_middle
      rw [List.take_append_drop] at z
      exact z
    have tab1 : Tab t1 ((L.take p ++ (x, k) :: L.drop p).map fun p => mh P w p.2) := by
      rw [List.map_append, List.map_cons, List.map_take, List.map_drop]
      exact q2
    have len1 : (L.take p ++ (x, k) :: L.drop p).length = L.length + 1 := pm.length_eq
    have nd1 : ((L.take p ++ (x, k) :: L.drop p).map (·.2)).Nodup := (pm.map (·.2)).nodup_iff.mpr (by rw [List.map_cons]; exact List.nodup_cons.mpr ⟨hm, R.nd⟩)
    have siz1 : (SetTable.insertAt es p (mh P w k, Value.ref x)).size = L.length + 1 := by
      have h := congrArg List.length rows1
      rw [mRows, List.length_map, Array.length_toList, len1] at h
      exact h
    generalize SetTable.insertAt es p (mh P w k, Value.ref x) = es1 at rows1 siz1 ⊢
    generalize L.take p ++ (x, k) :: L.drop p = L1 at rows1 pm tab1 len1 nd1
    have go : ∀ (t2 : SetTable), t2.place = t1.place → t2.dummies = t1.dummies → t2.mask = t1.mask → t2.led = t1.led →
        wpAny (model P w) A (do
          storeSet a es1 t2
          if !false && t2.tooFull then setRelay a (SetTable.grown (es.size + 1))
          return true) Q E s := by
      intro t2 e1 e2 e3 e4
      have tab2 : Tab t2 (L1.map fun p => mh P w p.2) := ⟨by rw [e1]; exact tab1.up, by rw [e2]; exact tab1.cl, by rw [e1]; exact tab1.len, by rw [e3]; exact tab1.pw, by rw [e1, e3]; exact tab1.top, by rw [e1, e3]; exact tab1.met⟩
      have fill2 : t2.fill = L.length + 1 := by
        have : t2.fill = t1.fill := by
          unfold SetTable.fill
          rw [e1, e2]
        rw [this, q3, List.length_map]
      refine wpAny_bind (wpAny_storeSet_of ho hd ?_ (by rw [siz1, sizeLine_eq]; omega))
      have sb : Heap.SameBut a s.heap (s.heap.update a (Obj.putSet es1 t2)) := Heap.SameBut.update ..
      have ho1 := store_at (es' := es1) (t' := t2) ho hd
      generalize s.heap.update a (Obj.putSet es1 t2) = h1 at sb ho1 ⊢
      have tup1 : ∀ p ∈ L1, IsM P w h1 p.2 p.1 := fun p hp => by
        rcases List.mem_cons.mp (pm.mem_iff.mp hp) with z | z
        · rw [z]; exact isM_but hx ho hd sb
        · exact isM_but (R.tup p z) ho hd sb
      have led1 : w.params.followText "set-order" = true ∨ t2.led = true := by rw [e4, q5]; exact R.led
      by_cases hf : t2.tooFull = true
      · have full : (L.length + 1) * 5 ≥ t.mask * 3 := by
          have h := hf
          rw [SetTable.tooFull, decide_eq_true_eq, fill2, e3, q4] at h
          exact h
        obtain ⟨M, y1, y2, y3, y4⟩ := next_M R.mm rm full few
        rw [sl]
        first
          | refine wp_if_pos (by simp [hf]) (wpAny_bind ?_)
          | refine wpAny_bind (wp_if_pos (by simp [hf]) ?_)
        refine relay_M (s := { s with heap := h1 }) ho1 ⟨hex.1, hex.2.1, hex.2.2⟩ rfl rows1 (by rw [siz1]; have := tab2.len; rw [List.length_map, len1] at this; exact this) tab2.cl (by rw [siz1, e3, q4]; exact y4) nd1 tup1 led1 (by rw [len1]; exact few) y1 y2 (by rw [len1]; exact y3) ?_
        intro h2 L2 es2 ep2 t3 sb2 R2 pm2
        exact wpAny_pure (hQ true h2 L2 es2 ep2 t3 (sb.trans sb2) R2 (fun z => absurd z hm) fun _ => pm2.trans pm)
      · have notFull : (L.length + 1) * 5 < t.mask * 3 := by
          have h := hf
          rw [SetTable.tooFull, decide_eq_true_eq, fill2, e3, q4] at h
          omega
        first
          | refine wp_if_neg (by simp [hf]) ?_
          | refine wpAny_bind (wp_if_neg (by simp [hf]) (wpAny_pure ?_))
        exact wpAny_pure (hQ true h1 L1 es1 (ep + 1) t2 sb ⟨⟨_, ho1, ⟨hex.1, hex.2.1, hex.2.2⟩, rfl⟩, rows1, tab2, nd1, tup1, led1, by rw [len1, e3, q4]; exact notFull, by rw [e3, q4]; exact R.mm, by rw [len1]; exact few⟩ (fun z => absurd z hm) fun _ => pm)
    by_cases hpl : t1.plain = true
    · first
        | (refine wpAny_bind ?_; refine wp_if_pos hpl ?_; refine byval_tupM hx fun r => ?_)
        | refine wp_if_pos hpl (wpAny_bind (byval_tupM hx fun r => ?_))
      cases r with
      | true =>
        simp only [if_true]
        exact go t1 rfl rfl rfl rfl
      | false =>
        simp only [Bool.false_eq_true, if_false]
        exact go _ rfl rfl rfl rfl
    · first
        | (refine wpAny_bind ?_; refine wp_if_neg hpl ?_; refine wpAny_pure ?_)
        | refine wp_if_neg hpl (wpAny_bind (wpAny_pure ?_))
      simp only [if_true]
      exact go t1 rfl rfl rfl rfl
end
end Vt
set_option Elab.async false
set_option linter.all false
set_option maxRecDepth 100000
set_option maxHeartbeats 4000000
/-! set(xs) of a list or a tuple of tuples; the hand layer's rules for sets of tuples of ints and texts. -/
namespace Vt
open PySem PySem.Spec PyProof.Rows L2 Vs
section
variable {P : Program} {w : World} {A : Around} {E : Value → Shared → Prop} {s : Shared}
theorem call_setX {x : Value} {T : String} {Post : Heap → Prop} {Q : Value → Shared → Prop} (hT : Shared.TypeIs { s with heap := s.heap.push (newO w) } x T) (n1 : isSubtype (.type T) (.type "set") = pure false)
    (n2 : isSubtype (.type T) (.type "frozenset") = pure false) (n3 : (Value.type T == Value.type "dict") = false)
    (body : ∀ (A1 : Around) (E1 R1 : Value → Shared → Prop), (A.handled = none → A1.in1.handled = none) → A1.in1.units ≤ A.units + 3 → (∀ (h' : Heap) (tk : Nat), Post h' → (∀ b o, s.heap.get? b = some o → h'.get? b = some o) → R1 .none { s with heap := h', toks := tk }) →
      wpAny (model P w) A1 (pyIter x) (fun it s2 => wpAny (model P w) A1 (runValue (.builtin "set.update.loop" ⟨[.ref s.heap.objs.size, it], []⟩)) R1 E1 s2) E1 { s with heap := s.heap.push (newO w) })
    (h : ∀ (h' : Heap) (tk : Nat), Post h' → (∀ b o, s.heap.get? b = some o → h'.get? b = some o) → Q (.ref s.heap.objs.size) { s with heap := h', toks := tk }) : wpAny (model P w) A (call (.type "set") [x]) Q E s := by
  obtain ⟨c, tl, mm⟩ := F.called_set.mro
  have made := F.called_set.made
  have sub := F.called_set.sub
  refine wpAny_call (codeAny_of_tree (?_))
  show wpAny _ _ (callAny (.type "set") ⟨[x], []⟩) _ _ _
  refine wpAny_pure ⟨Code.quiet_builtin _ (by decide +kernel), codeAny_builtin F.entry_type_call (?_)⟩
  rw [(Around.under_plain (weight_type_call_type "set" [x] []) rfl :)]
  have notT := F.called_set.notType
  have can := F.called_set.canCreate
  have tc := F.typeCall_set_1 x
  repeat (any_goals (first | assumption | wp_step))
  refine codeAny_mono (code_set_led1 x (E := E) (Q₁ := fun ob s1 => ob = .ref s.heap.objs.size ∧ s1 = { s with heap := s.heap.push (newO w) }) ⟨rfl, rfl⟩) fun r s1 hr => ?_
  cases r with
  | error e => exact hr
  | ok fl =>
    cases fl with
    | ret ob =>
      obtain ⟨rfl, rfl⟩ := hr
      have hS : (s.heap.push (newO w)).get? s.heap.objs.size = some (newO w) := Heap.get?_push_size _ rfl
      have hTS : Shared.TypeIs { s with heap := s.heap.push (newO w) } (.ref s.heap.objs.size) "set" := ⟨_, hS, rfl⟩
      have il := F.called_set.init.lookup
      have ib := F.called_set.init.bind (.ref s.heap.objs.size)
      repeat (any_goals (first | assumption | wp_step))
      refine codeAny_mono (codeAny_call_builtin (R := wants (fun r s2 => r = .none ∧ ∃ h' tk, s2 = { s with heap := h', toks := tk } ∧ Post h' ∧ (∀ b o, s.heap.get? b = some o → h'.get? b = some o)) E)
        F.called_set.init.plain F.entry_set_init (check_set_init_1 hTS ?_)) fun r2 s2 hr2 => ?_
      · unfold Builtin.«set.__init__» noKeywords Builtin.Frozenset.updateFrom
        generalize hPI : pyIter = PI
        wp_walk
        subst hPI
        refine wpAny_mono (body _ _ (fun v s' => v = .none ∧ ∃ h' tk, s' = { s with heap := h', toks := tk } ∧ Post h' ∧ (∀ b o, s.heap.get? b = some o → h'.get? b = some o)) (fun hh => by simp [hh]) (by show A.units + 1 + 1 + 1 ≤ A.units + 3; omega) fun h' tk y k => ⟨rfl, h', tk, rfl, y, k⟩)
          (fun it s' z => wpAny_bind (m := runValue _) (wpAny_mono z (fun v s'' q => ?_) fun _ _ e => e)) fun _ _ e => e
        obtain ⟨rfl, h', tk, rfl, y, k⟩ := q
        refine wpAny_pure ?_
        show wpAny _ _ (ret Value.none) _ _ _
        exact wpAny_pure ⟨rfl, h', tk, rfl, y, k⟩
      · cases r2 with
        | error e => exact hr2
        | ok f2 =>
          cases f2 with
          | ret r =>
            obtain ⟨rfl, h', tk, rfl, y, k⟩ := hr2
            repeat (any_goals (first | assumption | wp_step))
            exact h _ _ y k
          | _ => exact hr2.elim
    | _ => exact hr.elim
end
end Vt
set_option Elab.async false
set_option linter.all false
set_option maxRecDepth 100000
set_option maxHeartbeats 4000000
/-! The hand layer's rules for sets of tuples of ints and texts. -/
namespace Vt
open PySem PySem.Spec PyProof.Rows L2 Vs
/-- all but the members' own objects -/
structure SetC (P : Program) (w : World) (h : Heap) (a : Addr) (L : List (Addr × List Key)) (es : Array (Int × Value)) (ep : Nat) (t : SetTable) : Prop where
  ob : ∃ o, h.get? a = some o ∧ o.ExactSet ∧ o.data = .set es ep t
  rows : es.toList = mRows P w L
  tab : Tab t (L.map fun p => mh P w p.2)
  nd : (L.map (·.2)).Nodup
  led : w.params.followText "set-order" = true ∨ t.led = true
  room : L.length * 5 < t.mask * 3
  mm : t.mask = 7 ∨ t.mask = 31 ∨ t.mask = 127 ∨ t.mask = 511 ∨ t.mask = 2047 ∨ t.mask = 8191
  few : L.length ≤ 4000
section
variable {P : Program} {w : World} {A : Around} {E : Value → Shared → Prop} {s : Shared} {h h' : Heap} {a : Addr} {L : List (Addr × List Key)} {es : Array (Int × Value)} {ep : Nat} {t : SetTable}
theorem SetM.core (R : SetM P w h a L es ep t) : SetC P w h a L es ep t := ⟨R.ob, R.rows, R.tab, R.nd, R.led, R.room, R.mm, R.few⟩
theorem SetC.full (R : SetC P w h a L es ep t) (tup : ∀ p ∈ L, IsM P w h p.2 p.1) : SetM P w h a L es ep t := ⟨R.ob, R.rows, R.tab, R.nd, tup, R.led, R.room, R.mm, R.few⟩
theorem SetC.at (R : SetC P w h a L es ep t) (k : ∀ o, h.get? a = some o → h'.get? a = some o) : SetC P w h' a L es ep t := by
  obtain ⟨o, ho, r⟩ := R.ob
  exact ⟨⟨o, k o ho, r⟩, R.rows, R.tab, R.nd, R.led, R.room, R.mm, R.few⟩
theorem setC_new (ho : h.get? a = some (newO w)) : SetC P w h a [] #[] 0 (.fresh 0 0 (!w.params.followText "set-order")) where
  ob := ⟨_, ho, ⟨rfl, rfl, rfl⟩, rfl⟩
  rows := rfl
  tab := ⟨List.Pairwise.nil, rfl, rfl, ⟨3, by decide, rfl⟩, (fun y hy => by cases hy), fun i h j hi => by simp at hi⟩
  nd := List.nodup_nil
  led := by
    show _ ∨ (!w.params.followText "set-order") = true
    cases w.params.followText "set-order"
    · exact .inr rfl
    · exact .inl rfl
  room := by
    show 0 * 5 < 7 * 3
    decide
  mm := .inl rfl
  few := Nat.zero_le _
theorem isM_keep {k : List Key} {b : Addr} (x : IsM P w h k b) (hk : ∀ c o, h.get? c = some o → h'.get? c = some o) : IsM P w h' k b := by
  obtain ⟨o, items, n, ho, r⟩ := x
  exact ⟨o, items, n, hk b o ho, r⟩
/-- what is in the set of the first i -/
structure Of (ks : List (Addr × List Key)) (i : Nat) (L : List (Addr × List Key)) : Prop where
  sub : ∀ p ∈ L, p ∈ ks.take i
  all : ∀ p ∈ ks.take i, p.2 ∈ L.map (·.2)
  len : L.length ≤ i
theorem Of.more {ks L L' : List (Addr × List Key)} {i : Nat} {x : Addr × List Key} (g : Of ks i L) (h : ks[i]? = some x) (c1 : x.2 ∈ L.map (·.2) → L' = L) (c2 : x.2 ∉ L.map (·.2) → L'.Perm ((x.1, x.2) :: L)) : Of ks (i + 1) L' := by
  have tk : ks.take (i + 1) = ks.take i ++ [x] := by rw [List.take_add_one, h] <;> rfl
  rcases Classical.em (x.2 ∈ L.map (·.2)) with c | c
  · rw [c1 c]
    refine ⟨fun p hp => by rw [tk]; exact List.mem_append_left _ (g.sub p hp), fun p hp => ?_, Nat.le_succ_of_le g.len⟩
    rw [tk] at hp
    rcases List.mem_append.mp hp with z | z
    · exact g.all p z
    · rw [List.mem_singleton.mp z]; exact c
  · have pm := c2 c
    refine ⟨fun p hp => ?_, fun p hp => ?_, by rw [pm.length_eq, List.length_cons]; exact Nat.succ_le_succ g.len⟩
    · rw [tk]
      rcases List.mem_cons.mp (pm.mem_iff.mp hp) with e | z
      · exact List.mem_append_right _ (List.mem_singleton.mpr e)
      · exact List.mem_append_left _ (g.sub p z)
    · rw [(pm.map (·.2)).mem_iff, List.map_cons]
      rw [tk] at hp
      rcases List.mem_append.mp hp with z | z
      · exact .tail _ (g.all p z)
      · rw [List.mem_singleton.mp z]; exact List.mem_cons_self
theorem update_tups {R : Result → Shared → Prop} {I : Addr} {fp wr : List Addr} {G : Array GenState → Array GenState → Prop} {n : Nat} {Pv : Nat → Value → Prop} {St : Nat → Shared → Prop} (W : WalksS P w A.in1 I fp wr G n Pv St) (S : Addr) (hS : S ∉ fp)
    (ks : List (Addr × List Key)) (hn : n = ks.length) (few : ks.length ≤ 4000) (hv : ∀ i v, Pv i v → ∃ p, ks[i]? = some p ∧ v = .ref p.1) (h0 : Heap) (hk : ∀ p ∈ ks, IsM P w h0 p.2 p.1) (hS0 : h0.get? S = none) (hw0 : ∀ b ∈ wr, h0.get? b = none) (hu : A.in1.units < cLine) :
    ∀ (m i : Nat) (s : Shared) (L : List (Addr × List Key)) (es : Array (Int × Value)) (ep : Nat) (t : SetTable), n - i = m → i ≤ n → St i s → (∀ b o, h0.get? b = some o → s.heap.get? b = some o) → SetC P w s.heap S L es ep t → Of ks i L →
      (∀ s' L es ep t, Moved (S :: wr) G s s' → SetC P w s'.heap S L es ep t → Of ks n L → R (.ok (.ret .none)) s') → codeAny (model P w) A (.builtin "set.update.loop" ⟨[.ref S, .ref I], []⟩) R s := by
  have hw : S ∉ wr := fun h => hS (W.sub _ h)
  have up : ∀ b ∈ wr, b ∈ S :: wr := fun b hb => .tail _ hb
  have on : ∀ {s s' : Shared}, Moved wr G s s' → (∀ b o, h0.get? b = some o → s.heap.get? b = some o) → ∀ b o, h0.get? b = some o → s'.heap.get? b = some o := fun mv k b o e =>
    mv.heap b o (fun hb => by rw [hw0 b hb] at e; cases e) (k b o e)
  intro m
  induction m with
  | zero =>
    intro i s L es ep t hm hi st kp C g fin
    obtain rfl : i = n := by omega
    refine codeAny_builtin F.entry_set_update_loop (?_)
    rw [(Around.under_plainId F.plain_set_update_loop _ :)]
    show wpAny _ A.in1 (pyNext (.ref I) >>= _) _ _ s
    exact wpAny_bind (W.done s _ _ st fun s' mv => wpAny_pure (fin s' L es ep t (mv.mono up) (C.at fun o e => mv.heap S o hw e) g))
  | succ m ih =>
    intro i s L es ep t hm hi st kp C g fin
    have hlt : i < n := by omega
    refine codeAny_builtin F.entry_set_update_loop (?_)
    rw [(Around.under_plainId F.plain_set_update_loop _ :)]
    show wpAny _ A.in1 (pyNext (.ref I) >>= _) _ _ s
    refine wpAny_bind (W.item i s _ _ hlt st fun v s' pv st' mv => ?_)
    obtain ⟨p, hp, rfl⟩ := hv i v pv
    have kp' := on mv kp
    have pk : ∀ q ∈ L, q ∈ ks := fun q hq => List.mem_of_mem_take (g.sub q hq)
    have M' : SetM P w s'.heap S L es ep t := (C.at fun o e => mv.heap S o hw e).full fun q hq => isM_keep (hk q (pk q hq)) kp'
    have hx : IsM P w s'.heap p.2 p.1 := isM_keep (hk p (List.mem_of_getElem? hp)) kp'
    show wpAny _ A.in1 (holding [Value.ref p.1] (setAdd S (.ref p.1)) >>= _) _ _ s'
    refine wpAny_bind (wpAny_holding ?_)
    unfold setAdd
    refine wpAny_holding (wpAny_bind (wpAny_pyHash_tuple hu hx ?_))
    refine add_M (s := { s' with toks := s'.toks + (p.2.length + 1) }) M' hx hu (by have := g.len; omega) fun b h' L' es' ep' t' sb M2 c1 c2 => ?_
    have keep : ∀ b o, b ≠ S → s'.heap.get? b = some o → h'.get? b = some o := fun b o hb e => (sb.2 b hb).trans e
    refine wpAny_pure ⟨plainId_quiet F.plain_set_update_loop _, ih (i + 1) _ L' es' ep' t' (by omega) hlt (W.frame _ s' _ _ st' (Nat.le_add_right _ _) fun b hb o e => keep b o (fun y => hS (y ▸ hb)) e)
      (fun b o e => keep b o (fun z => by rw [z, hS0] at e; cases e) (kp' b o e)) M2.core (g.more hp c1 c2) fun s2 L2 es2 ep2 t2 m2 C2 g2 => ?_⟩
    exact fin s2 L2 es2 ep2 t2 (Moved.trans W.gtrans ((mv.mono up).then_heap (Nat.le_add_right _ _) fun b o hb e => keep b o (fun y => hb (y ▸ List.mem_cons_self)) e) m2) C2 g2
theorem none_above {h : Heap} {b : Addr} (hb : h.objs.size ≤ b) : h.get? b = none := by
  cases q : h.get? b with
  | none => rfl
  | some o => exact absurd (Heap.lt_size q) (Nat.not_lt_of_le hb)
/-- set(l) of a tuple or a list of tuples -/
theorem call_setM {l : Addr} {ks : List (Addr × List Key)} {items : List Value} {Q : Value → Shared → Prop} (hh : A.handled = none) (hl : s.heap.IsTuple l items.toArray ∨ s.heap.IsList l items.toArray) (hit : items = ks.map fun p => Value.ref p.1)
    (hk : ∀ p ∈ ks, IsM P w s.heap p.2 p.1) (few : ks.length ≤ 4000) (hu : A.units + 3 < cLine)
    (h : ∀ (h' : Heap) (tk : Nat) L es ep t, SetC P w h' s.heap.objs.size L es ep t → Of ks ks.length L → (∀ b o, s.heap.get? b = some o → h'.get? b = some o) → Q (.ref s.heap.objs.size) { s with heap := h', toks := tk }) :
    wpAny (model P w) A (call (.type "set") [.ref l]) Q E s := by
  have hz1 : (s.heap.push (newO w)).objs.size = s.heap.objs.size + 1 := size_push' _ _
  have hS : (s.heap.push (newO w)).get? s.heap.objs.size = some (newO w) := Heap.get?_push_size _ rfl
  have isz : items.toArray.size = ks.length := by rw [List.size_toArray, hit, List.length_map]
  have val : ∀ (i : Nat) (v : Value), items.toArray[i]? = some v → ∃ p, ks[i]? = some p ∧ v = .ref p.1 := fun i v e => by
    have e1 : items[i]? = some v := by rw [← e]; simp
    rw [hit, List.getElem?_map] at e1
    obtain ⟨p, hp, rfl⟩ := Option.map_eq_some_iff.mp e1
    exact ⟨p, hp, rfl⟩
  have old2 : ∀ (o2 : Obj) b o, s.heap.get? b = some o → ((s.heap.push (newO w)).push o2).get? b = some o := fun o2 b o e => Heap.get?_push_of_some _ (Heap.get?_push_of_some _ e)
  have hlt : l < s.heap.objs.size := by
    rcases hl with ⟨_, e, _⟩ | ⟨_, e, _⟩
    · exact Heap.lt_size e
    · exact Heap.lt_size e
  have fin : ∀ (A1 : Around) (E1 R1 : Value → Shared → Prop), (A.handled = none → A1.in1.handled = none) → A1.in1.units ≤ A.units + 3 →
      (∀ (h' : Heap) (tk : Nat), (∃ L es ep t, SetC P w h' s.heap.objs.size L es ep t ∧ Of ks ks.length L) → (∀ b o, s.heap.get? b = some o → h'.get? b = some o) → R1 .none { s with heap := h', toks := tk }) →
      ∀ (o2 : Obj) (St : Nat → Shared → Prop), WalksS P w A1.in1 (s.heap.push (newO w)).objs.size [(s.heap.push (newO w)).objs.size, l] [(s.heap.push (newO w)).objs.size] (fun a b => b = a) items.toArray.size (fun i v => items.toArray[i]? = some v) St →
        St 0 { s with heap := (s.heap.push (newO w)).push o2 } → wpAny (model P w) A1 (runValue (.builtin "set.update.loop" ⟨[.ref s.heap.objs.size, .ref (s.heap.push (newO w)).objs.size], []⟩)) R1 E1 { s with heap := (s.heap.push (newO w)).push o2 } := by
    intro A1 E1 R1 h1 h2 q o2 St W st
    refine wpAny_runValue ?_
    have out : s.heap.objs.size ∉ [(s.heap.push (newO w)).objs.size, l] := fun z => by
      rcases List.mem_cons.mp z with z | z
      · exact absurd (z.trans hz1) (Nat.ne_of_lt (Nat.lt_succ_self _))
      · exact absurd (List.mem_singleton.mp z) (Nat.ne_of_gt hlt)
    refine update_tups W s.heap.objs.size out ks isz few val s.heap hk (none_above (Nat.le_refl _)) (fun b hb => none_above (by rw [List.mem_singleton.mp hb, hz1]; exact Nat.le_succ _)) (by omega) items.toArray.size 0 _ [] #[] 0 _ rfl (Nat.zero_le _) st (old2 o2)
      (setC_new (Heap.get?_push_of_some _ hS)) ⟨(fun p hp => by cases hp), (fun p hp => by simp at hp), Nat.le_refl _⟩ fun s' L es ep t mv C g => ?_
    obtain ⟨h', g2, d', tk', os'⟩ := s'
    obtain rfl : g2 = s.gens := mv.gens
    obtain rfl : d' = s.drawn := mv.drawn
    obtain rfl : os' = s.os := mv.os
    rw [isz] at g
    refine q h' tk' ⟨L, es, ep, t, C, g⟩ fun b o e => ?_
    have b0 : b < s.heap.objs.size := Heap.lt_size e
    refine mv.heap b o (fun z => ?_) (old2 o2 b o e)
    rcases List.mem_cons.mp z with z | z
    · exact absurd b0 (by rw [z]; exact Nat.lt_irrefl _)
    · have z2 : b = s.heap.objs.size + 1 := (List.mem_singleton.mp z).trans hz1
      exact absurd b0 (by rw [z2]; exact Nat.not_lt_of_le (Nat.le_succ _))
  have ne : l ≠ (s.heap.push (newO w)).objs.size := by rw [hz1]; exact Nat.ne_of_lt (Nat.lt_succ_of_lt hlt)
  rcases hl with hl | hl
  · have hl1 : (s.heap.push (newO w)).IsTuple l items.toArray := hl.push _
    refine call_setX (T := "tuple") (Post := fun h' => ∃ L es ep t, SetC P w h' s.heap.objs.size L es ep t ∧ Of ks ks.length L) hl1.typeIs PySem.F.sub_tuple_set PySem.F.sub_tuple_frozenset (by decide) (fun A1 E1 R1 h1 h2 q => ?_) fun h' tk ⟨L, es, ep, t, C, g⟩ k => h h' tk L es ep t C g k
    refine wpAny_pyIter_tuple hl1 ?_
    exact fin A1 E1 R1 h1 h2 q _ _ (Walks.tuple (h1 hh) _ l ne items.toArray).toS ⟨⟨_, Heap.get?_push_size _ rfl, rfl, rfl⟩, hl1.push _⟩
  · have hl1 : (s.heap.push (newO w)).IsList l items.toArray := hl.push _
    refine call_setX (T := "list") (Post := fun h' => ∃ L es ep t, SetC P w h' s.heap.objs.size L es ep t ∧ Of ks ks.length L) hl1.typeIs PySem.F.sub_list_set PySem.F.sub_list_frozenset (by decide) (fun A1 E1 R1 h1 h2 q => ?_) fun h' tk ⟨L, es, ep, t, C, g⟩ k => h h' tk L es ep t C g k
    refine wpAny_pyIter_list hl1 ?_
    exact fin A1 E1 R1 h1 h2 q _ _ (Walks.list (h1 hh) _ l ne items.toArray).toS ⟨⟨_, Heap.get?_push_size _ rfl, rfl, rfl⟩, hl1.push _⟩
end
end Vt
set_option Elab.async false
set_option linter.all false
set_option maxRecDepth 100000
set_option maxHeartbeats 4000000
/-! The hand layer's rules: sets of tuples of ints and texts. -/
namespace Vk
open PySem PySem.Spec PyProof.Rows L2 Vs Vt
def SetMO (P : Program) (w : World) (a : Addr) (L : List (Addr × List Key)) : HO := .ext fun h => ∃ es ep t, SetC P w h a L es ep t
section
variable {P : Program} {w : World} {H : Hp} {h h' : Heap} {a : Addr} {L : List (Addr × List Key)}
theorem setMO_new {es : Array (Int × Value)} {ep : Nat} {t : SetTable} (C : SetC P w h a L es ep t) : ObjOk P w H h a (SetMO P w a L) := by
  have ⟨o, ho, _⟩ := C.ob
  exact ⟨⟨es, ep, t, C⟩, ⟨o, ho⟩, fun h1 h2 ⟨es, ep, t, C⟩ k => ⟨es, ep, t, C.at k⟩⟩
end
section
variable {X : Cx} {pins : List (Addr × Obj)} {s : Shared} {σ : L2.St} {H : Hp}
theorem isM_of (I : Inv X pins σ H s) {q : Addr} {k : List Key} (h : SqT X.K H q (k.map kV)) : IsM X.prog X.w s.heap k q := by
  obtain ⟨its, r, ⟨o, ho, hc, n, hd⟩, _⟩ := I.tuple h
  exact ⟨o, its.toArray, n, ho, hc, hd, items_are r⟩
theorem setM_of (I : Inv X pins σ H s) {a : Addr} {L : List (Addr × List Key)} (ha : H a = some (SetMO X.prog X.w a L)) (tup : ∀ p ∈ L, SqT X.K H p.1 (p.2.map kV)) : ∃ es ep t, SetM X.prog X.w s.heap a L es ep t := by
  obtain ⟨⟨es, ep, t, C⟩, _⟩ : (∃ es ep t, SetC X.prog X.w s.heap a L es ep t) ∧ _ := I.hok a _ ha
  exact ⟨es, ep, t, C.full fun p hp => isM_of I (tup p hp)⟩
/-- set() -/
def rSet0M (P : Program) (w : World) : List V → Hp → VK → Prop := fun vs H Q => vs = [] ∧ ∀ p, H p = none → Q (.ref p) (upd H p (SetMO P w p []))
theorem cr_set0M : CallR X (.type "set") (rSet0M X.prog X.w) := by
  intro pins s σ H vs us Q I r h
  obtain ⟨rfl, q⟩ := h
  cases r
  refine setR_new fun _ => ?_
  exact ⟨.ref _, _, I.laid (t' := s.toks) (fun b u e => Heap.get?_push_of_some _ e) (Nat.le_refl _) (setMO_new (setC_new (Heap.get?_push_size _ rfl))), rfl, q _ (I.hok.fresh (Nat.le_refl _))⟩
/-- set(xs) of a tuple or a list of such tuples -/
def rSetM (K : PySem.W.Frag) (P : Program) (w : World) : List V → Hp → VK → Prop := fun vs H Q => ∃ (l : Addr) (ks : List (Addr × List Key)), vs = [.ref l] ∧ (SqT K H l (ks.map fun p => V.ref p.1) ∨ SqL K H l (ks.map fun p => V.ref p.1)) ∧ (∀ p ∈ ks, SqT K H p.1 (p.2.map kV)) ∧ ks.length ≤ 4000 ∧
  ∀ a L, H a = none → (∀ p ∈ L, p ∈ ks) → (∀ p ∈ ks, p.2 ∈ L.map (·.2)) → (L.map (·.2)).Nodup → L.length ≤ 4000 → Q (.ref a) (upd H a (SetMO P w a L))
theorem refs_are : ∀ {ks : List (Addr × List Key)} {us : List Value}, Vals (ks.map fun p => V.ref p.1) us → us = ks.map fun p => Value.ref p.1
  | [], us, r => by
    cases r
    rfl
  | p :: ks, us, r => by
    cases r with
    | cons h t =>
      have e : _ = Value.ref p.1 := h
      rw [e, refs_are t] <;> rfl
theorem cr_setM (hc : X.calm = true) (hu : X.A.units + 64 < cLine) : CallR X (.type "set") (rSetM X.K X.prog X.w) := by
  intro pins s σ H vs us Q I r h
  obtain ⟨l, ks, rfl, hl, tup, few, q⟩ := h
  rw [Vals.ref1 r]
  have tp : ∀ p ∈ ks, IsM X.prog X.w s.heap p.2 p.1 := fun p hp => isM_of I (tup p hp)
  have go : ∀ items : List Value, (s.heap.IsTuple l items.toArray ∨ s.heap.IsList l items.toArray) → Vals (ks.map fun p => V.ref p.1) items → wpAny (model X.prog X.w) X.A (call (.type "set") [.ref l]) (EP X pins σ Q) X.xe s := by
    intro items hi rv
    refine call_setM (I.ok.hd hc) hi (refs_are rv) tp few (by omega) fun h' tk L es ep t C g k => ?_
    exact ⟨.ref _, _, I.laid (t' := tk) k (Nat.le_refl _) (setMO_new C), rfl, q _ L (I.hok.fresh (Nat.le_refl _)) (fun p hp => List.mem_of_mem_take (g.sub p hp)) (fun p hp => g.all p (by rw [List.take_length]; exact hp)) C.nd C.few⟩
  rcases hl with hl | hl
  · obtain ⟨its, rv, z, _⟩ := I.tuple hl
    exact go its (.inl z) rv
  · obtain ⟨its, rv, z, _⟩ := I.list hl
    exact go its (.inr z.isList) rv
/-- found.add(t) -/
def rAddM (K : PySem.W.Frag) (P : Program) (w : World) : V → List V → Hp → VK → Prop := fun x xs H Q => ∃ (a q : Addr) (k : List Key) (L : List (Addr × List Key)), x = .ref a ∧ xs = [.ref q] ∧ H a = some (SetMO P w a L) ∧ (∀ p ∈ L, SqT K H p.1 (p.2.map kV)) ∧ SqT K H q (k.map kV) ∧ L.length + 1 ≤ 4000 ∧
  ∀ L', (k ∈ L.map (·.2) → L' = L) → (k ∉ L.map (·.2) → L'.Perm ((q, k) :: L)) → Q .non (upd H a (SetMO P w a L'))
theorem mt_addM (hu : X.A.units + 64 < cLine) : MtR X "set.add" (rAddM X.K X.prog X.w) := by
  intro pins s σ H x xs v us Q I rx rxs h
  obtain ⟨a, q, k, L, rfl, rfl, ha, tup, hq, few, fin⟩ := h
  cases rx
  rw [Vals.ref1 rxs]
  obtain ⟨es, ep, t, R⟩ := setM_of I ha tup
  have hx := isM_of I hq
  obtain ⟨o, ho, hex, hd⟩ := R.ob
  have hT : s.TypeIs (.ref a) "set" := ⟨o, ho, hex.1⟩
  refine wpAny_call_entry PySem.F.slot_set_add hT PySem.F.entry_set_add ?_ (PySem.F.args_set_add_2 _ _)
  unfold Builtin.«set.add» Builtin.Frozenset.oneOther
  simp only [List.isEmpty_nil, bind_assoc]
  unfold Builtin.Frozenset.addrOf setAdd
  refine wpAny_bind (wpAny_pure ?_)
  try dsimp only
  refine wpAny_bind (wpAny_pure ?_)
  try dsimp only
  refine wpAny_bind (wpAny_holding (wpAny_bind (wpAny_pyHash_tuple (by show X.A.units + 1 < cLine; omega) hx ?_)))
  refine add_M (s := { s with toks := s.toks + (k.length + 1) }) R hx (by show X.A.units + 1 < cLine; omega) few fun b h' L' es' ep' t' sb R' c1 c2 => ?_
  show wpAny _ _ (ret Value.none) _ _ _
  refine wpAny_pure ⟨_, rfl, .non, upd H a (SetMO X.prog X.w a L'), ?_, rfl, fin L' c1 c2⟩
  have ⟨o', ho', _⟩ := R'.ob
  exact I.write (e := a) (t' := s.toks + (k.length + 1)) (by rw [ha]; trivial) (.inl rfl) (fun b u hb hu => (sb.2 b hb).trans hu) ⟨o', ho'⟩ (setMO_new R'.core)
def tAddM (K : PySem.W.Frag) (P : Program) (w : World) (to : TE) (t : TA) : TE := fun σ H Q => to σ H fun x H1 => (∃ a L, x = V.ref a ∧ H1 a = some (SetMO P w a L)) ∧ t σ H1 fun xs H2 => rAddM K P w x xs H2 Q
variable {o e : Expr} {es : List Expr} {to : TE} {t : TA} {apos cpos : Pos}
theorem pe_addM (hu : X.A.units + 64 < cLine) (ho : PE X o to) (ha : PA X (e :: es) t)
    (hbase : attributeBase o "add" X.env (eval o X.env) = eval o X.env := by rfl)
    (hfew : ((backTo cpos (starEach (e :: es) X.env)).all (fun x => !x.1) && (backToKw cpos (keywordEach [] X.env)).all (fun x => x.1.isSome) && decide ((e :: es).length + ([] : List Keyword).length + (if ([] : List Keyword).isEmpty then 0 else 1) < 30)) = true := by rfl)
    (hline : (apos.endLine == cpos.line) = true := by rfl) (hs : starEach (e :: es) X.env = (false, eval e X.env) :: starEach es X.env := by rfl) (hplain : (backTo cpos (starEach es X.env)).any (·.1) = false := by rfl) :
    PE X (.Call (.Attribute o "add" apos) (e :: es) [] cpos) (tAddM X.K X.prog X.w to t) := by
  refine ⟨fun pins s σ H Q I h => wpAny_Call_method_late hbase hfew hline rfl (thn (ho.run pins s σ H _ I h) fun v s1 ⟨x, H1, I1, r1, ⟨a, L, ex, hka⟩, q1⟩ => ?_)⟩
  subst ex
  cases r1
  obtain ⟨⟨es', ep, tt, C⟩, _⟩ : (∃ es ep t, SetC X.prog X.w s1.heap a L es ep t) ∧ _ := I1.hok a _ hka
  obtain ⟨ob, hob, hex, hd⟩ := C.ob
  refine ⟨"set", "set.add", PySem.F.plainAttrs_set, PySem.F.slot_set_add, PySem.F.type_set_add, ⟨ob, hob, hex.1⟩, (fun b e => by cases e; exact ⟨ob, hob, hex.2.1⟩), ?_⟩
  have hA := ha.run cpos pins s1 σ H1 _ I1 q1
  rw [hs] at hA ⊢
  refine Calls.callWith_builtin (by show (false || (backTo cpos (starEach es X.env)).any (·.1)) = false; rw [hplain] <;> rfl) (Calls.evalArgs_plain ?_)
  exact thn hA fun us s2 ⟨vs, H2, I2, r2, q2⟩ => mt_addM hu pins s2 σ H2 (.ref a) vs (.ref a) us Q I2 rfl r2 q2
/-- t in found, t not in found -/
def rInM (K : PySem.W.Frag) (P : Program) (w : World) (neg : Bool) : V → V → Hp → VK → Prop := fun x y H Q => ∃ (a q : Addr) (k : List Key) (L : List (Addr × List Key)), x = .ref q ∧ y = .ref a ∧ H a = some (SetMO P w a L) ∧ (∀ p ∈ L, SqT K H p.1 (p.2.map kV)) ∧ SqT K H q (k.map kV) ∧
  ∀ b : Bool, (b = true ↔ k ∈ L.map (·.2)) → Q (.bl (if neg then !b else b)) H
theorem contains_M {a q : Addr} {k : List Key} {L : List (Addr × List Key)} {es : Array (Int × Value)} {ep : Nat} {t : SetTable} {Q : Bool → Shared → Prop} {E : Value → Shared → Prop} (R : SetM X.prog X.w s.heap a L es ep t) (hx : IsM X.prog X.w s.heap k q) (hu : X.A.units + 64 < cLine)
    (h : ∀ tk b, (b = true ↔ k ∈ L.map (·.2)) → Q b { s with toks := tk }) : wpAny (model X.prog X.w) X.A (contains (.ref a) (.ref q)) Q E s := by
  obtain ⟨o, ho, hex, hd⟩ := R.ob
  have hT : s.TypeIs (.ref a) "set" := ⟨o, ho, hex.1⟩
  unfold contains
  try with_reducible refine wpAny_holding ?_
  refine wpAny_bind (wpAny_specialOf hT PySem.F.slot_set_contains.lookup ?_)
  show wpAny _ _ (if (some (Value.builtin "set.__contains__") == some Value.none) = true then _ else _) _ E s
  rw [if_neg (show ¬ ((some (Value.builtin "set.__contains__") == some Value.none) = true) by rw [beq_builtin_none]; exact Bool.false_ne_true)]
  refine wpAny_bind (wpAny_callSpecialUnlessNone?_slot (name := Str.ofString "__contains__") hT PySem.F.slot_set_contains (wpAny_call_entry PySem.F.slot_set_contains hT entry_set_contains ?_ (PySem.F.args_set_contains_2 _ _)))
  unfold Builtin.«frozenset.__contains__» Builtin.Frozenset.oneOther
  simp only [List.isEmpty_nil, bind_assoc]
  unfold Builtin.Frozenset.addrOf Builtin.Frozenset.withSetAsKey
  refine wpAny_bind (wpAny_pure ?_)
  try dsimp only
  refine wpAny_bind (wpAny_pure ?_)
  try dsimp only
  refine wpAny_bind (wpAny_tryCatch (has_M R hx (by show X.A.units + 1 < cLine; omega) fun tk b hb => ?_))
  show wpAny _ _ (ret (Value.bool b)) _ _ _
  exact wpAny_pure ⟨_, rfl, wpAny_truthy_bool (h tk b hb)⟩
theorem op_inM (hu : X.A.units + 64 < cLine) : OpR X (compareOp .In) (rInM X.K X.prog X.w false) := by
  intro pins s σ H x y v u Q I rx ry h
  obtain ⟨a, q, k, L, rfl, rfl, ha, tup, hq, fin⟩ := h
  cases rx
  cases ry
  obtain ⟨es, ep, t, R⟩ := setM_of I ha tup
  show wpAny _ _ (do return Value.bool (← contains (.ref a) (.ref q))) _ _ _
  exact wpAny_bind (contains_M R (isM_of I hq) hu fun tk b hb => wpAny_pure ⟨.bl b, H, I.tok _, rfl, fin b hb⟩)
theorem op_notInM (hu : X.A.units + 64 < cLine) : OpR X (compareOp .NotIn) (rInM X.K X.prog X.w true) := by
  intro pins s σ H x y v u Q I rx ry h
  obtain ⟨a, q, k, L, rfl, rfl, ha, tup, hq, fin⟩ := h
  cases rx
  cases ry
  obtain ⟨es, ep, t, R⟩ := setM_of I ha tup
  show wpAny _ _ (do return Value.bool (!(← contains (.ref a) (.ref q)))) _ _ _
  exact wpAny_bind (contains_M R (isM_of I hq) hu fun tk b hb => wpAny_pure ⟨.bl (!b), H, I.tok _, rfl, fin b hb⟩)
/-! sorted(found) -/
def encM (p : Addr × List Key) : PyData := .tuple (p.2.map keyD)
def leM (x y : Addr × List Key) : Bool := PySem.W.dataLe false encM x y
def rSortedM (K : PySem.W.Frag) (P : Program) (w : World) : List V → Hp → VK → Prop := fun vs H Q => ∃ (a : Addr) (L : List (Addr × List Key)), vs = [.ref a] ∧ H a = some (SetMO P w a L) ∧ (∀ p ∈ L, SqT K H p.1 (p.2.map kV)) ∧ PySem.W.AllAlike (L.map encM) ∧ (∀ p ∈ L, p.2 ≠ []) ∧
  ∀ (ys : List (Addr × List Key)) p, ys.Perm L → ys.Pairwise (fun x y => leM x y = true) → H p = none → Q (.ref p) (upd H p (.lst (ys.map fun q => V.ref q.1)))
theorem items_read {h : Heap} : ∀ {k : List Key} {vs : List Value}, ItemsAre (mixKind X.prog X.w) k vs → ReadsAll h vs (k.map keyD) []
  | _, _, .nil => .nil
  | _, _, .cons h1 t => ReadsAll.cons (as := []) (bs := []) (key_reads h1) (items_read t)
theorem isM_reads {h : Heap} {q : Addr} {k : List Key} (x : IsM X.prog X.w h k q) : Reads h (.ref q) (.tuple (k.map keyD)) [] := by
  obtain ⟨o, its, n, ho, hc, hd, hi⟩ := x
  have hd2 : o.data = .seq its.toList.toArray n := by rw [hd]
  exact Reads.tuple (vs := its) ho hc hd (items_read hi)
theorem depth_keys : ∀ k : List Key, PyData.depthAll (k.map keyD) = 0
  | [] => by simp [PyData.depthAll]
  | x :: k => by
    have e : (keyD x).depth = 0 := by cases x <;> simp [keyD, PyData.depth]
    rw [List.map_cons, PyData.depthAll, depth_keys k, e] <;> rfl
theorem each_rows : ∀ {L : List (Addr × List Key)} {es : List (Int × Value)}, es = mRows X.prog X.w L → ∀ {T : Value → Addr × List Key → Prop}, (∀ p ∈ L, T (.ref p.1) p) → PySem.W.EachIs T (es.map (·.2)) L
  | [], _, rfl, _, _ => .nil
  | p :: L, _, rfl, T, h => .cons (h p List.mem_cons_self) (each_rows (L := L) rfl fun q hq => h q (.tail _ hq))
theorem vals_refs : ∀ {us : List Value} {L : List (Addr × List Key)}, PySem.W.EachIs (fun v (p : Addr × List Key) => v = .ref p.1) us L → Vals (L.map fun q => V.ref q.1) us
  | _, _, .nil => .nil
  | _, _, .cons h t => .cons h (vals_refs t)
theorem cr_sortedM (hc : X.calm = true) (hu : X.A.units + 64 < cLine) : CallR X (.builtin "sorted") (rSortedM X.K X.prog X.w) := by
  intro pins s σ H vs us Q I r h
  obtain ⟨a, L, rfl, ha, tup, al, ne, q⟩ := h
  rw [Vals.ref1 r]
  obtain ⟨es, ep, t, R⟩ := setM_of I ha tup
  obtain ⟨o, ho, hex, hd⟩ := R.ob
  have few := R.few
  have dep : ∀ p : Addr × List Key, (encM p).depth ≤ 1 := fun p => by
    unfold encM
    rw [PyData.depth, depth_keys] <;> omega
  refine sorted_setG (enc := encM) (R := fun v (p : Addr × List Key) => v = .ref p.1) (bs := L) (I.ok.hd hc) ⟨o, ho, hex.1, hd⟩ R.fits (by rw [R.size]; unfold scanBound; omega) R.tab.up R.led (each_rows R.rows fun p hp => ⟨rfl, isM_reads (R.tup p hp)⟩) al
    (.inl fun d hd => ?_) (fun b _ => by have := dep b; omega) fun s' p out c bs' k g og hp hg pb eo => ?_
  · obtain ⟨p, hp, rfl⟩ := List.mem_map.mp hd
    cases z : p.2 with
    | nil => exact absurd z (ne p hp)
    | cons x k => exact ⟨keyD x, k.map keyD, by rw [encM, z, List.map_cons]⟩
  have py : (bs'.mergeSort (PySem.W.dataLe false encM)).Perm L := (List.mergeSort_perm _ _).trans pb
  have hlo : ((bs'.mergeSort (PySem.W.dataLe false encM)).map fun q => V.ref q.1).length ≤ sizeLine := by
    rw [List.length_map, py.length_eq, sizeLine_eq]
    omega
  have hn : H p = none := I.hok.fresh hp
  have e2 : s' = { s with heap := s'.heap, gens := s'.gens, drawn := s'.drawn, toks := s'.toks } := by
    cases s'
    cases s
    cases og
    rfl
  rw [e2]
  have J : Inv X pins σ (upd H p (.lst ((bs'.mergeSort (PySem.W.dataLe false encM)).map fun q => V.ref q.1))) { s with heap := s'.heap, gens := s'.gens, drawn := s'.drawn, toks := s'.toks } :=
    I.call (ch := []) (Un.laid k hp hn) (I.hok.laid k hp ⟨hlo, out, c, vals_refs eo, hg⟩) (by rw [g]; exact I.bare) (fun _ z => nomatch z)
  refine ⟨.ref p, _, J, rfl, q _ p py ?_ hn⟩
  have tot := PySem.W.sortLe_total (listOrd itemOrd) false fun b : Addr × List Key => PySem.W.keyToks (encM b)
  exact List.pairwise_mergeSort tot.trans (fun x y => by rw [Bool.or_eq_true]; exact tot.total x y) bs'
end
end Vk
set_option Elab.async false
set_option linter.all false
set_option maxRecDepth 100000
set_option maxHeartbeats 4000000
/-! Dict comprehensions whose keys are tuples of ints and texts. -/
namespace Vk
open PySem PySem.Spec PyProof.Rows L2
theorem dictSet_T {X : Cx} {pins : List (Addr × Obj)} {σ : L2.St} {H : Hp} {s : Shared} {E : Value → Shared → Prop} {D b : Addr} {kvs : List (List Key × V)} {k : List Key} {v : V} {u r : Value} {Q : Unit → Shared → Prop} (hu : X.A.units + 64 < cLine) (I : Inv X pins σ H s)
    (hD : H D = some (.dT kvs)) (hz : kvs.length < sizeLine) (hb : H b = some (.tup (k.map kV))) (ry : RelV (.ref b) u) (rv : RelV v r) (h : ∀ s', Inv X pins σ (upd H D (.dT (putK kvs k v))) s' → Q () s') : wpAny (model X.prog X.w) X.A (dictSet D u r) Q E s := by
  cases (show u = Value.ref b from ry)
  obtain ⟨z, nd, xs, rel, dd⟩ := dt_of I.hok hD
  have lx : xs.length ≤ sizeLine := by rw [← Paired.length rel]; exact z
  have ln : (putK kvs k v).length ≤ sizeLine := by have := length_putK kvs k v; omega
  refine wpAny_dictSet_heap (hsz := lx) (show X.A.units < cLine by omega) (key_of I.hok hb) dd fun h' d2 hs => h _ ?_
  obtain ⟨q, es, ep, hq, y2, y3, y4, _, y5⟩ := d2
  refine d_write I (by rw [hD]; trivial) hs ⟨q, hq⟩ ⟨ln, nd, _, (rel.put k hb rv).keeps fun c ys ec => ?_, q, es, ep, hq, y2, y3, y4, y5⟩
  rw [upd_ne (ne_of ec hD (fun z => nomatch z))]
  exact ec
section
variable {X : Cx}
def tDcT (wi : TI) (g : TG) (tt : TT) (tk tv : TE) (vs : List Nat) : TE := fun σ H Q => wi σ H fun J H1 => ∀ D, H1 D = none → ∃ W : Nat → Nat → Hp → Prop, (∃ m, W 0 m (upd H1 D (.dT []))) ∧ ∀ i m H, W i m H → (J.stop i H ∧ Q (.ref D) H) ∨ (J.go i H ∧ ∃ Nx : Hp → Prop, (∀ H', Nx H' → ∃ m', m' < m ∧ W (i + 1) m' H') ∧
  ∀ x H', J.yld i H x H' → g x (wipe σ vs) H' fun σ2 H2 => wipe σ2 vs = wipe σ vs ∧ tt σ2 H2 fun b H3 => if b = true then tk σ2 H3 fun y H4 => tv σ2 H4 fun z H5 => ∃ (kvs : List (List Key × V)) (k : List Key) (q : Addr), y = .ref q ∧ H5 q = some (.tup (k.map kV)) ∧ H5 D = some (.dT kvs) ∧ kvs.length < sizeLine ∧ Nx (upd H5 D (.dT (putK kvs k z))) else Nx H3)
theorem pe_dcT {kx vx tg iter : Expr} {ifs : List Expr} {scope : Scope} {own : List (Str × Nat)} {pos : Pos} {wi : TI} {g : TG} {tt : TT} {tk tv : TE} (hu : X.A.units + 64 < cLine) (hc : X.calm = true) (hN : X.N.Nodup) (hi : PI X tg iter wi) (ok : BlkOk X.N X.env.scope scope own)
    (hg : ∀ (s : Shared) (H : Hp) (C : Addr) (cl : List (Str × Addr)) (fp : List Addr), PG (X.blk s H scope (compEnvC scope cl C X.env) fp) tg g) (ht : ∀ (s : Shared) (H : Hp) (C : Addr) (cl : List (Str × Addr)) (fp : List Addr), PTs (X.blk s H scope (compEnvC scope cl C X.env) fp) ifs tt)
    (hk : ∀ (s : Shared) (H : Hp) (C : Addr) (cl : List (Str × Addr)) (fp : List Addr), PE (X.blk s H scope (compEnvC scope cl C X.env) fp) kx tk) (he : ∀ (s : Shared) (H : Hp) (C : Addr) (cl : List (Str × Addr)) (fp : List Addr), PE (X.blk s H scope (compEnvC scope cl C X.env) fp) vx tv)
    (hs : ∀ x, foldedSetIterable iter X.env x = pure x := by intro _; rfl) : PE X (.DictComp kx vx [⟨tg, iter, ifs, 0⟩] scope pos) (tDcT wi g tt tk tv (own.map (·.2))) := by
  refine ⟨fun pins s σ H Q I h => ?_⟩
  rw [arm_eval_DictComp]
  have free : ∀ y ∈ scope.names, y.2 = .free → ∃ c, X.env.cells.lookup y.1 = some c := fun y hy e => (ok.free y hy e).elim (fun z => I.ok.has _ (.inl z)) fun z => I.ok.has _ (.inr z)
  refine wpAny_comprehension_free rfl hs (closure_ok free) ok.kind (fun y hy e => by rw [ok.uniq y hy, e]) (thn (hi.run pins s σ H _ I h) fun xv s1 hx => thn hx fun itv s2 ⟨it, fp, tn, J, H2, e, I2, T, st2, f2, q⟩ => ?_)
  subst e
  refine wpAny_newObj_type (newEnv_comp ?_)
  obtain ⟨D, hD⟩ : ∃ D, D = s2.heap.objs.size := ⟨_, rfl⟩
  rw [← hD]
  have nD : H2 D = none := I2.hok.fresh (Nat.le_of_eq hD.symm)
  obtain ⟨W, ⟨m0, w0⟩, turn⟩ := q D nD
  obtain ⟨s3, e3⟩ : ∃ s3 : Shared, s3 = { s2 with heap := s2.heap.push { cls := .type "dict", data := .dict #[] } } := ⟨_, rfl⟩
  have I3 : Inv X pins σ (upd H2 D (.dT [])) s3 := by
    rw [e3]
    refine I2.laid (t' := s2.toks) (fun b o z => Heap.get?_push_of_some _ z) (Nat.le_of_eq hD.symm) ?_
    rw [hD]
    exact dt_empty s2.heap I2.big
  have p3 : s3.heap = s2.heap.push { cls := .type "dict", data := .dict #[] } := by rw [e3]
  have low : ∀ b ∈ fp, b < s2.heap.objs.size := fun b hb => by
    obtain ⟨o, z, _⟩ := T.obj _ _ st2 b hb
    exact Heap.lt_size z
  have f3 : ∀ b ∈ fp, FpOk X pins (upd H2 D (.dT [])) b ∧ b < s3.heap.objs.size := fun b hb => by
    have lb := low b hb
    refine ⟨⟨?_, (f2 b hb).2⟩, by rw [p3, Heap.size_push]; exact Nat.lt_succ_of_lt lb⟩
    rw [upd_ne (by rw [hD]; exact Nat.ne_of_lt lb)]
    exact (f2 b hb).1
  have st3 : tn 0 s3.heap := T.keep _ _ _ st2 fun b _ o z => by rw [p3]; exact Heap.get?_push_of_some _ z
  have I4 := block_start I3 ok hN f3
  obtain ⟨cl, ecl⟩ : ∃ cl, cl = cellsFrom (s3.heap.objs.size + 1) scope.names (cloFrom X.env.cells scope.names []) := ⟨_, rfl⟩
  have pg := hg s3 (upd H2 D (.dT [])) s3.heap.objs.size cl fp
  have pt := ht s3 (upd H2 D (.dT [])) s3.heap.objs.size cl fp
  have pk := hk s3 (upd H2 D (.dT [])) s3.heap.objs.size cl fp
  have pe := he s3 (upd H2 D (.dT [])) s3.heap.objs.size cl fp
  rw [← e3]
  rw [← ecl] at I4
  show codeAny _ _ (.compStart (.DictComp kx vx [⟨tg, iter, ifs, 0⟩] scope pos) 0 (.ref it) (.ref D) (compEnvC scope (cellsFrom (s3.heap.objs.size + 1) scope.names (cloFrom X.env.cells scope.names [])) s3.heap.objs.size X.env)) (compPost (model X.prog X.w) X.A X.xe none (EP X pins σ Q) (.ref D) s3.heap.objs.size) _
  rw [← ecl]
  have empt : ∀ b ∈ fp, (upd H2 D (.dT [])) b = none := fun b hb => (f3 b hb).1.1
  obtain ⟨ce, ece⟩ : ∃ ce, ce = compEnvC scope cl s3.heap.objs.size X.env := ⟨_, rfl⟩
  have lc : ce.locals = s3.heap.objs.size := by rw [ece] <;> rfl
  rw [← ece] at I4 pg pt pk pe ⊢
  obtain ⟨H3, eH⟩ : ∃ H3, H3 = upd H2 D (.dT []) := ⟨_, rfl⟩
  rw [← eH] at I3 I4 pg pt pk pe w0 empt f3
  obtain ⟨s4, e4⟩ : ∃ s4 : Shared, s4 = { s3 with heap := pushCells (s3.heap.push { cls := .type "dict", data := .dict #[] }) scope.names } := ⟨_, rfl⟩
  rw [← e4] at I4
  show codeAny _ _ _ _ { s3 with heap := pushCells (s3.heap.push { cls := .type "dict", data := .dict #[] }) scope.names }
  rw [← e4]
  have st4 : tn 0 s4.heap := T.keep _ _ _ st3 fun b _ o z => by rw [e4]; exact pushCells_keeps _ _ _ _ (Heap.get?_push_of_some _ z)
  have still : ∀ {σ' : L2.St} {H' : Hp} {s' : Shared}, Inv (X.blk s3 H3 scope ce fp) [] σ' H' s' → (∀ b ∈ fp, H' b = none) → ∀ b ∈ fp, FpOk (X.blk s3 H3 scope ce fp) [] H' b := fun {σ' H' s'} I' hn b hb =>
    ⟨hn b hb, (I'.ok.exf b hb).1, I'.ok.exfs b hb, .inl hb, fun x c z => (I'.ok.exf b hb).2 x c z, fun p hp => absurd (show p ∈ ([] : List (Addr × Obj)) ++ [] from hp) (by simp)⟩
  have loop : codeAny (model X.prog X.w) X.A (.compLoop (.DictComp kx vx [⟨tg, iter, ifs, 0⟩] scope pos) 0 (.ref it) (.ref D) ce) (compPost (model X.prog X.w) X.A X.xe none (EP X pins σ Q) (.ref D) s3.heap.objs.size) s4 := by
    refine compLoop_anyD (fun n s' => ∃ i H', Inv (X.blk s3 H3 scope ce fp) [] (wipe σ (own.map (·.2))) H' s' ∧ tn i s'.heap ∧ (∀ b ∈ fp, H' b = none) ∧ W i n H') (fun n s5 ⟨i, H5, I5, st5, n5, w5⟩ => ?_) m0 ⟨0, H3, I4, st4, empt, w0⟩
    rcases turn i n H5 w5 with ⟨stop, qq⟩ | ⟨go, Nx, hNx, step⟩
    · refine thnF (T.done (X.blk s3 H3 scope ce fp) rfl rfl rfl hc i [] s5 _ H5 (fun _ _ => False) I5 (still I5 n5) st5 stop) fun r s6 ⟨er, I6⟩ => ?_
      subst er
      have I7 : Inv X pins σ H5 s6 := I3.call' (ch := fp) I6.os I6.base I6.hok I6.bare fun b hb => ⟨(f3 b hb).1.2.2.2.1, (f3 b hb).1.2.1, (f3 b hb).1.2.2.2.2.1, (f3 b hb).1.2.2.2.2.2⟩
      have nC : H5 s3.heap.objs.size = none := by
        rw [← lc]
        exact I6.free
      obtain ⟨m, hn, _⟩ := I6.loc
      have hn2 : s6.heap.Ns s3.heap.objs.size m := by
        rw [← lc]
        exact hn
      refine ⟨m, hn2, fun h'' sb => ?_⟩
      obtain ⟨_, y1, _, y3, y4, y5⟩ := I3.fpOk (H' := H5) (Nat.le_refl _) nC
      exact ⟨.ref D, H5, I7.turned (t' := s6.toks) (fun b o hb z => (sb.2 b hb).trans z) nC y1 y3 y4 y5, rfl, qq⟩
    · refine thnF (T.item (X.blk s3 H3 scope ce fp) rfl rfl rfl hc i [] s5 _ H5 (fun _ _ => False) I5 (still I5 n5) st5 go) fun r s6 ⟨u, er, h6⟩ => ?_
      subst er
      refine thnF h6 fun _ s7 ⟨x, H7, I7, r7, y7, st7, n7⟩ => ?_
      refine thnF (pg.run _ s7 _ H7 x u _ (I7.pinned (still I7 n7) (T.obj _ _ st7)) r7 (step x H7 y7)) fun _ s8 ⟨σ8, H8, I8, hw8, q8⟩ => ?_
      refine thnF (pt.run _ s8 σ8 H8 _ I8 q8) fun b s9 ⟨H9, I9, q9⟩ => ?_
      have fin : ∀ {s' : Shared} {H' : Hp}, Inv (X.blk s3 H3 scope ce fp) ([] ++ pinsAt fp s7.heap) σ8 H' s' → Nx H' → ∃ m, m < n ∧ ∃ i H', Inv (X.blk s3 H3 scope ce fp) [] (wipe σ (own.map (·.2))) H' s' ∧ tn i s'.heap ∧ (∀ b ∈ fp, H' b = none) ∧ W i m H' := fun {s' H'} I' nx => by
        obtain ⟨m', lm, w'⟩ := hNx H' nx
        have pin : ∀ c ∈ fp, ∀ o, s7.heap.get? c = some o → s'.heap.get? c = some o ∧ H' c = none := fun c hc2 o z =>
          let y := I'.pin (c, o) (List.mem_append_right _ (List.mem_append_right _ (mem_pinsAt hc2 z)))
          ⟨y.1, y.2.1⟩
        have lw : (wipe σ (own.map (·.2))).length = σ8.length := by rw [← hw8, wipe_length]
        refine ⟨m', lm, i + 1, H', (I'.unpinned (pins := [])).weak lw (fun j v z => ?_), T.keep _ _ _ st7 fun c hc2 o z => (pin c hc2 o z).1, fun c hc2 => ?_, w'⟩
        · rw [← hw8] at z
          exact (wipe_some z).1
        · obtain ⟨o, z, _⟩ := T.obj _ _ st7 c hc2
          exact (pin c hc2 o z).2
      cases b with
      | false =>
        simp only [Bool.false_eq_true, if_false] at q9 ⊢
        exact fin I9 q9
      | true =>
        simp only [if_true] at q9 ⊢
        refine thnF (pk.run _ s9 σ8 H9 _ I9 q9) fun z s10 ⟨yk, H10, I10, r10, q10⟩ => ?_
        refine thnF (pe.run _ s10 σ8 H10 _ I10 q10) fun z2 s11 ⟨yv, H11, I11, r11, kvs, k, qa, ek, hq, hD11, hz, nx⟩ => ?_
        subst ek
        exact dictSet_T (X := X.blk s3 H3 scope ce fp) hu I11 hD11 hz hq r10 r11 fun s12 I12 => fin I12 nx
  exact codeAny_compStart_dict loop (T.self X.A 0 _ _ _ st4 loop)
/-- over a tuple that stays -/
theorem dcT_tup {K : PySem.W.Frag} {a : Addr} {xs : List V} {g : TG} {tt : TT} {tk tv : TE} {vs : List Nat} {σ : L2.St} {H1 : Hp} {D : Addr} {Qd : Hp → Prop} (Pv : Nat → Hp → Prop) (h0 : Pv 0 (upd H1 D (.dT []))) (hl : ∀ i H, i ≤ xs.length → Pv i H → SqT K H a xs)
    (step : ∀ i x H, xs[i]? = some x → Pv i H → g x (wipe σ vs) H fun σ2 H2 => wipe σ2 vs = wipe σ vs ∧ tt σ2 H2 fun b H3 => if b = true then tk σ2 H3 fun y H4 => tv σ2 H4 fun z H5 => ∃ (kvs : List (List Key × V)) (k : List Key) (q : Addr), y = .ref q ∧ H5 q = some (.tup (k.map kV)) ∧ H5 D = some (.dT kvs) ∧ kvs.length < sizeLine ∧ Pv (i + 1) (upd H5 D (.dT (putK kvs k z))) else Pv (i + 1) H3)
    (fin : ∀ H, Pv xs.length H → Qd H) :
    ∃ W : Nat → Nat → Hp → Prop, (∃ m, W 0 m (upd H1 D (.dT []))) ∧ ∀ i m H, W i m H → ((Itt K a).stop i H ∧ Qd H) ∨ ((Itt K a).go i H ∧ ∃ Nx : Hp → Prop, (∀ H', Nx H' → ∃ m', m' < m ∧ W (i + 1) m' H') ∧ ∀ x H', (Itt K a).yld i H x H' → g x (wipe σ vs) H' fun σ2 H2 => wipe σ2 vs = wipe σ vs ∧ tt σ2 H2 fun b H3 =>
      if b = true then tk σ2 H3 fun y H4 => tv σ2 H4 fun z H5 => ∃ (kvs : List (List Key × V)) (k : List Key) (q : Addr), y = .ref q ∧ H5 q = some (.tup (k.map kV)) ∧ H5 D = some (.dT kvs) ∧ kvs.length < sizeLine ∧ Nx (upd H5 D (.dT (putK kvs k z))) else Nx H3) := by
  refine ⟨fun i m H => m + i = xs.length ∧ Pv i H, ⟨xs.length, rfl, h0⟩, fun i m H ⟨em, p⟩ => ?_⟩
  have q := hl i H (by omega) p
  rcases Nat.lt_or_ge i xs.length with c | c
  · refine .inr ⟨⟨xs, xs[i], q, by simp [c]⟩, Pv (i + 1), fun H' p' => ⟨m - 1, by omega, by omega, p'⟩, fun x H' ⟨e, y⟩ => ?_⟩
    subst e
    exact step i x _ (y xs q) p
  · obtain rfl : i = xs.length := by omega
    exact .inl ⟨⟨xs, q, Nat.le_refl _⟩, fin H p⟩
end
end Vk
set_option Elab.async false
set_option linter.all false
/-! split by one sign takes a joined text apart again. -/
namespace Vs1
open PySem PySem.StrLaws Builtin Builtin.Str
theorem occ_go (x : Str) (c : Nat) : ∀ (n a : Nat) (st : Array Nat × Nat), a + n = x.length + 1 → st.snd ≤ a → st.fst.size ≤ a →
    (forIn (List.range' a n) st (occBody x ⟨#[c]⟩ x.length (x.length + 1))).run.fst.size = st.fst.size + (x.cps.toList.drop a).count c
  | 0, a, st, e, _, _ => by
    have d : x.cps.toList.drop a = [] := List.drop_of_length_le (by rw [Array.length_toList]; show x.length ≤ a; omega)
    rw [d]
    rfl
  | n + 1, a, st, e, h1, h2 => by
    rw [List.range'_succ, List.forIn_cons]
    unfold occBody
    have one := subAt_one x c a
    by_cases hc : x.cps.toList[a]? = some c
    · have q := one.mpr hc
      rw [if_pos ⟨⟨⟨by omega, h1⟩, q.1⟩, q.2⟩]
      have il : a < x.cps.toList.length := (List.getElem?_eq_some_iff.mp hc).1
      have d : x.cps.toList.drop a = c :: x.cps.toList.drop (a + 1) := by
        rw [List.drop_eq_getElem_cons il]
        rw [List.getElem?_eq_getElem il] at hc
        rw [Option.some.inj hc]
      have ih := occ_go x c n (a + 1) (st.fst.push a, a + 1) (by omega) (Nat.le_refl _) (by rw [Array.size_push]; omega)
      rw [Array.size_push] at ih
      rw [d, List.count_cons_self]
      refine Eq.trans ih ?_
      omega
    · rw [if_neg fun z => hc (one.mp ⟨z.1.2, z.2⟩)]
      have ih := occ_go x c n (a + 1) (st.fst, st.snd) (by omega) (by show st.snd ≤ a + 1; omega) (by show st.fst.size ≤ a + 1; omega)
      refine Eq.trans ih ?_
      by_cases il : a < x.cps.toList.length
      · have d : x.cps.toList.drop a = x.cps.toList[a] :: x.cps.toList.drop (a + 1) := List.drop_eq_getElem_cons il
        rw [List.getElem?_eq_getElem il] at hc
        rw [d, List.count_cons_of_ne (fun z => hc (by rw [z]))]
      · rw [List.drop_of_length_le (Nat.le_of_not_lt il), List.drop_of_length_le (by omega)]
theorem occ_count (x : Str) (c : Nat) : (occurrences x ⟨#[c]⟩ 0 x.length (x.length + 1)).length = x.cps.toList.count c := by
  rw [occ_eq, Array.length_toList]
  have := occ_go x c (x.length + 1) 0 (#[], 0) (by omega) (Nat.le_refl _) (Nat.le_refl _)
  rw [List.drop_zero] at this
  rw [Nat.sub_zero]
  refine Eq.trans this ?_
  show 0 + _ = _
  omega
theorem split_len (x : Str) {c : Nat} (hc : c < 256) : (Txt.split x ⟨#[c]⟩).length = x.cps.toList.count c + 1 := by
  have k : strKind (⟨#[c]⟩ : Str) = 1 := by
    unfold Str.strKind
    rw [if_pos (by simp [hc])]
  have k1 : 1 ≤ strKind x := by
    unfold Str.strKind
    split
    · exact Nat.le_refl _
    · split <;> decide
  have oc := occ_count x c
  unfold Txt.split
  split
  · rename_i h
    rw [Bool.or_eq_true, decide_eq_true_eq, decide_eq_true_eq, k] at h
    have h0 : x.length = 0 := by
      rcases h with h | h
      · have : (⟨#[c]⟩ : Str).length = 1 := rfl
        omega
      · omega
    have e : x.cps.toList = [] := List.eq_nil_of_length_eq_zero (by rw [Array.length_toList]; exact h0)
    rw [e]
    rfl
  · split
    · rename_i h
      have : (occurrences x ⟨#[c]⟩ 0 x.length (x.length + 1)).length = 0 := by rw [List.isEmpty_iff.mp h] <;> rfl
      rw [← oc, this]
      rfl
    · rw [length_partsBetween, oc]
/-- texts joined by one sign, on lists -/
def jl (c : Nat) : List (List Nat) → List Nat
  | [] => []
  | [a] => a
  | a :: b :: r => a ++ c :: jl c (b :: r)
theorem join_jl (c : Nat) : ∀ L : List Str, (Str.join ⟨#[c]⟩ L).cps.toList = jl c (L.map fun x => x.cps.toList)
  | [] => rfl
  | [a] => rfl
  | a :: b :: r => by
    have ih := join_jl c (b :: r)
    show ((a ++ (⟨#[c]⟩ : Str) ++ Str.join ⟨#[c]⟩ (b :: r)) : Str).cps.toList = _
    rw [PySem.Str.cps_append, PySem.Str.cps_append, Array.toList_append, Array.toList_append, ih, List.append_assoc]
    rfl
theorem count_jl (c : Nat) : ∀ L : List (List Nat), L ≠ [] → (jl c L).count c + 1 = (L.map fun a => a.count c).sum + L.length
  | [], h => absurd rfl h
  | [a], _ => by simp [jl]
  | a :: b :: r, _ => by
    have ih := count_jl c (b :: r) (List.cons_ne_nil _ _)
    rw [jl, List.count_append, List.count_cons_self, List.map_cons, List.sum_cons, List.length_cons]
    omega
theorem tw_app {c : Nat} : ∀ {a r : List Nat}, c ∉ a → (a ++ c :: r).takeWhile (fun x => x != c) = a ∧ (a ++ c :: r).dropWhile (fun x => x != c) = c :: r
  | [], r, _ => by simp
  | x :: a, r, h => by
    have hx : (x != c) = true := bne_iff_ne.mpr fun e => h (e ▸ List.mem_cons_self)
    obtain ⟨h1, h2⟩ := tw_app (a := a) (r := r) fun z => h (.tail _ z)
    rw [List.cons_append, List.takeWhile_cons, List.dropWhile_cons, hx]
    exact ⟨by simp [h1], by simp [h2]⟩
theorem jl_inj {c : Nat} : ∀ {L M : List (List Nat)}, L ≠ [] → M ≠ [] → (∀ a ∈ L, c ∉ a) → (∀ a ∈ M, c ∉ a) → jl c L = jl c M → L = M
  | [], _, h, _, _, _, _ => absurd rfl h
  | _, [], _, h, _, _, _ => absurd rfl h
  | [a], [b], _, _, _, _, e => by
    have e' : a = b := e
    rw [e']
  | [a], b :: d :: r, _, _, h1, _, e => by
    exfalso
    have e' : a = b ++ c :: jl c (d :: r) := e
    exact h1 a List.mem_cons_self (by rw [e']; exact List.mem_append_right _ List.mem_cons_self)
  | a :: d :: r, [b], _, _, _, h2, e => by
    exfalso
    have e' : a ++ c :: jl c (d :: r) = b := e
    exact h2 b List.mem_cons_self (by rw [← e']; exact List.mem_append_right _ List.mem_cons_self)
  | a :: a2 :: r, b :: b2 :: s, _, _, h1, h2, e => by
    have e' : a ++ c :: jl c (a2 :: r) = b ++ c :: jl c (b2 :: s) := e
    obtain ⟨x1, x2⟩ := tw_app (r := jl c (a2 :: r)) (h1 a List.mem_cons_self)
    obtain ⟨y1, y2⟩ := tw_app (r := jl c (b2 :: s)) (h2 b List.mem_cons_self)
    rw [e'] at x1 x2
    have ab : a = b := x1.symm.trans y1
    have e2 : jl c (a2 :: r) = jl c (b2 :: s) := (List.cons.inj (x2.symm.trans y2)).2
    rw [ab, jl_inj (List.cons_ne_nil _ _) (List.cons_ne_nil _ _) (fun z hz => h1 z (.tail _ hz)) (fun z hz => h2 z (.tail _ hz)) e2]
theorem sum_zero : ∀ {l : List Nat}, l.sum = 0 → ∀ x ∈ l, x = 0
  | [], _, _, h => nomatch h
  | y :: l, e, x, h => by
    rw [List.sum_cons] at e
    rcases List.mem_cons.mp h with z | z
    · omega
    · exact sum_zero (by omega) x z
/-- split takes apart what join put together -/
theorem split_join {c : Nat} (hc : c < 256) {L : List Str} (ne : L ≠ []) (no : ∀ a ∈ L, c ∉ a.cps.toList) : Txt.split (Str.join ⟨#[c]⟩ L) ⟨#[c]⟩ = L := by
  obtain ⟨x, ex⟩ : ∃ x, x = Str.join ⟨#[c]⟩ L := ⟨_, rfl⟩
  obtain ⟨M, eM⟩ : ∃ M, M = Txt.split x ⟨#[c]⟩ := ⟨_, rfl⟩
  rw [← ex, ← eM]
  have jM : Str.join ⟨#[c]⟩ M = x := by rw [eM, join_split]
  have lM : M.length = x.cps.toList.count c + 1 := by rw [eM, split_len x hc]
  have neM : M ≠ [] := fun z => by rw [z] at lM; simp at lM
  have tx : x.cps.toList = jl c (L.map fun a => a.cps.toList) := by rw [ex, join_jl]
  have tm : x.cps.toList = jl c (M.map fun a => a.cps.toList) := by rw [← jM, join_jl]
  have cx := count_jl c (L.map fun a => a.cps.toList) (by simpa using ne)
  have cm := count_jl c (M.map fun a => a.cps.toList) (by simpa using neM)
  rw [← tm, List.length_map] at cm
  have z : ((M.map fun a => a.cps.toList).map fun a => a.count c).sum = 0 := by omega
  have noM : ∀ a ∈ M.map (fun a => a.cps.toList), c ∉ a := fun a ha hz => by
    have := sum_zero z _ (List.mem_map.mpr ⟨a, ha, rfl⟩)
    exact absurd (List.count_pos_iff.mpr hz) (by omega)
  have e := jl_inj (c := c) (L := M.map fun a => a.cps.toList) (M := L.map fun a => a.cps.toList) (by simpa using neM) (by simpa using ne) noM (fun a ha => by
    obtain ⟨b, hb, rfl⟩ := List.mem_map.mp ha
    exact no b hb) (tm.symm.trans tx)
  have inj : ∀ {A B : List Str}, A.map (fun a => a.cps.toList) = B.map (fun a => a.cps.toList) → A = B := by
    intro A
    induction A with
    | nil =>
      intro B h
      exact (List.map_eq_nil_iff.mp h.symm).symm
    | cons a A ih =>
      intro B h
      cases B with
      | nil => cases h
      | cons b B =>
        rw [List.map_cons, List.map_cons] at h
        obtain ⟨h1, h2⟩ := List.cons.inj h
        rw [ih h2, Str.ext' (Array.toList_inj.mp h1)]
  exact inj e
end Vs1
set_option Elab.async false
set_option linter.all false
set_option maxRecDepth 100000
namespace Vk
open PySem PySem.Spec PyProof.Rows L2 ClX
/-! C.m(k = v, ..), m a classmethod, nothing by position -/
def tCMethK (C : Addr) (sp : Sp) (gV : List V → List V → List V) (E : XK) (ta : TE) (tk : TA) : TE := fun σ H Q => ta σ H fun x H1 => x = .ref C ∧ tk σ H1 fun zs H2 => sp (gV [.ref C] zs) H2 Q E
section
variable {X : Cx} {CX : CXT} {k : Nat} {C p g : Addr} {mc : Value} {fd : FuncData} {ps ks : List Str} {sp : Sp} {E : XK} {o : Expr} {m : Str} {pos apos : Pos} {ta : TE} {tk : TA} {pl : Sem Bool} {kws : List Keyword}
  {gg : List Value → List Value → List Value} {gV : List V → List V → List V}
theorem callwith_cmk {pins : List (Addr × Obj)} {σ : L2.St} {H : Hp} {s : Shared} {A : Around} {q : Addr} {Q E : Value → Shared → Prop} (hf : PySem.W.fnIn X.K g = true) (hall : (backToKw pos (keywordEach kws X.env)).all (·.1.isSome) = true)
    (h : wpAny (model X.prog X.w) A (evalAll ((backToKw pos (keywordEach kws X.env)).map (·.2))) (fun ws s₂ => PySem.W.MethP X.K q g (.ref C) s₂.heap ∧ wpAny (model X.prog X.w) A (call (.ref q) ([] ++ []) (((backToKw pos (keywordEach kws X.env)).filterMap (·.1)).zip ws)) Q E s₂) E s)
    (hplain : ((backTo pos (starEach [] X.env)).any (·.1) || (backToKw pos (keywordEach kws X.env)).any (·.1.isNone)) = false) :
    wpAny (model X.prog X.w) A (callWith pos (.ref q) [] (backTo pos (starEach [] X.env)) (backToKw pos (keywordEach kws X.env))) Q E s :=
  PySem.W.callWith_of hplain (PySem.W.keeps_M hf) (PyProof.Rows.evalArgs_kw2_nil hall h)
theorem run_cmk {pins : List (Addr × Obj)} {σ : L2.St} {H : Hp} {s : Shared} {q : Addr} {Q : VK} {ws : List Value} {zs : List V} (F : FnOk X.prog X.w X.K X.mg X.base CX k g fd ps sp) (hr : Room k X.A) (hb : KBinds X.K fd ps ks gg gV) (hx : Passes CX X E)
    (I : Inv X ((q, PySem.W.methodObj (.ref g) (.ref C)) :: pins) σ H s) (rz : Vals zs ws) (h : sp (gV [.ref C] zs) H Q E) : wpAny (model X.prog X.w) X.A (call (.ref q) [] (ks.zip ws)) (EP X pins σ Q) X.xe s := by
  have r2 := hb.rel (show Vals [V.ref C] [Value.ref C] from .cons rfl .nil) rz
  have hl : (gg [.ref C] ws).length = ps.length := by rw [← r2.length]; exact F.len _ _ _ _ h
  have z : wpAny (model X.prog X.w) X.A (call (.ref q) [] (ks.zip ws)) (EP X ((q, PySem.W.methodObj (.ref g) (.ref C)) :: pins) σ Q) X.xe s := by
    refine wpAny_call (PySem.W.method_call (pin_at I) (codeAny_mono (F.run X.A X.stack s H ⟨[.ref C], ks.zip ws⟩ (gg [.ref C] ws) (gV [.ref C] zs) Q E hr I.env0 (hb.to s [.ref C] ws I.kIn hl) r2 h) fun r s' hq => ?_))
    cases r with
    | error e => exact hx _ σ H s e s' I hq
    | ok fl =>
      cases fl with
      | ret u => exact I.after hq
      | next => exact False.elim hq
      | brk => exact False.elim hq
      | cont => exact False.elim hq
  exact thn z fun _ _ y => unpinE y
theorem pe_cmethK (he : PE X o ta) (r : CRead X.K C mc) (c : CMet X.K C mc m p g) (F : FnOk X.prog X.w X.K X.mg X.base CX k g fd ps sp) (hr : Room k X.A) (hb : KBinds X.K fd ps ks gg gV) (hx : Passes CX X E) (hkw : PK X kws tk)
    (hall : (backToKw pos (keywordEach kws X.env)).all (·.1.isSome) = true := by rfl) (hks : (backToKw pos (keywordEach kws X.env)).filterMap (·.1) = ks := by rfl)
    (hpl : ((backTo pos (starEach [] X.env)).any (·.1) || (backToKw pos (keywordEach kws X.env)).any (·.1.isNone)) = false := by rfl)
    (ht : eval (.Call (.Attribute o m apos) [] kws pos) X.env = (do
      let ov ← eval o X.env
      standAt apos.atName
      let (f, first) ← holding [ov] (getMethod ov m pl)
      callWith pos f first (backTo pos (starEach [] X.env)) (backToKw pos (keywordEach kws X.env))) := by rfl) :
    PE X (.Call (.Attribute o m apos) [] kws pos) (tCMethK C sp gV E ta tk) := by
  refine ⟨fun pins s σ H Q I h => ?_⟩
  refine PySem.W.methodCall_KW (pl := pl) (thn (he.run pins s σ H _ I h) fun u s1 ⟨x, H1, I1, rx, ex, q⟩ => ?_) ht
  subst ex
  obtain rfl : u = Value.ref C := rx
  refine getmethcm_ok I1 r c fun s2 I2 => ?_
  refine callwith_cmk (pins := pins) (σ := σ) (H := H) c.fi hall (thn (hkw.run pos _ s2 σ H1 _ I2 q) fun ws s3 ⟨zs, H2, I3, rz, q2⟩ => ⟨⟨pin_at I3, I3.kIn⟩, ?_⟩) hpl
  rw [hks]
  exact run_cmk F hr hb hx I3 rz q2
end
end Vk
set_option Elab.async false
set_option linter.all false
set_option maxRecDepth 100000
namespace Vk
open PySem PySem.Spec PyProof.Rows L2 ClX
/-! C.m(e), m a classmethod that may raise, within a try -/
def tCMethS (C : Addr) (sp : Sp) (E : L2.St → XK) (ta : TE) (t : TA) : TE := fun σ H Q => ta σ H fun x H1 => x = .ref C ∧ t σ H1 fun vs H2 => sp (.ref C :: vs) H2 Q (E σ)
section
variable {X : Cx} {CX : CXT} {k : Nat} {C p g : Addr} {mc : Value} {fd : FuncData} {ps : List Str} {sp : Sp} {E : L2.St → XK} {o e : Expr} {es : List Expr} {m : Str} {pos apos : Pos} {ta : TE} {t : TA} {pl : Sem Bool}
theorem run_cmS {pins : List (Addr × Obj)} {σ : L2.St} {H : Hp} {s : Shared} {q : Addr} {Q : VK} {us : List Value} {vs : List V} (F : FnOk X.prog X.w X.K X.mg X.base CX k g fd ps sp) (hr : Room k X.A) (hb : Binds X.K fd ps []) (hx : PassesAt CX X σ (E σ))
    (I : Inv X ((q, PySem.W.methodObj (.ref g) (.ref C)) :: pins) σ H s) (r : Vals vs us) (h : sp (.ref C :: vs) H Q (E σ)) : wpAny (model X.prog X.w) X.A (call (.ref q) us) (EP X pins σ Q) X.xe s := by
  have r2 : Vals (V.ref C :: vs) (Value.ref C :: us ++ []) := by rw [List.append_nil]; exact .cons rfl r
  have hl : (Value.ref C :: us).length + 0 = ps.length := by
    have e1 := F.len _ _ _ _ h
    have e2 := r2.length
    rw [List.append_nil] at e2
    rw [Nat.add_zero, ← e2, e1]
  have z : wpAny (model X.prog X.w) X.A (call (.ref q) us) (EP X ((q, PySem.W.methodObj (.ref g) (.ref C)) :: pins) σ Q) X.xe s := by
    refine wpAny_call (PySem.W.method_call (pin_at I) (codeAny_mono (F.run X.A X.stack s H ⟨Value.ref C :: us, []⟩ (Value.ref C :: us ++ []) (.ref C :: vs) Q (E σ) hr I.env0 (hb s (Value.ref C :: us) I.kIn (by rw [List.length_append]; exact hl)) r2 h) fun r s' hq => ?_))
    cases r with
    | error e => exact hx _ H s e s' I hq
    | ok fl =>
      cases fl with
      | ret u => exact I.after hq
      | next => exact False.elim hq
      | brk => exact False.elim hq
      | cont => exact False.elim hq
  exact thn z fun _ _ y => unpinE y
theorem pe_cmethS (he : PE X o ta) (r : CRead X.K C mc) (c : CMet X.K C mc m p g) (F : FnOk X.prog X.w X.K X.mg X.base CX k g fd ps sp) (hr : Room k X.A) (hb : Binds X.K fd ps []) (hx : ∀ σ, PassesAt CX X σ (E σ)) (ha : PA X (e :: es) t)
    (hst : starEach (e :: es) X.env = (false, eval e X.env) :: starEach es X.env := by rfl) (hpl : (backTo pos (starEach es X.env)).any (·.1) = false := by rfl)
    (ht : eval (.Call (.Attribute o m apos) (e :: es) [] pos) X.env = (do
      let ov ← eval o X.env
      standAt apos.atName
      let (f, first) ← holding [ov] (getMethod ov m pl)
      callWith pos f first (backTo pos (starEach (e :: es) X.env)) (backToKw pos (keywordEach [] X.env))) := by rfl) :
    PE X (.Call (.Attribute o m apos) (e :: es) [] pos) (tCMethS C sp E ta t) := by
  refine ⟨fun pins s σ H Q I h => ?_⟩
  refine PySem.W.methodCall_KW (pl := pl) (thn (he.run pins s σ H _ I h) fun u s1 ⟨x, H1, I1, rx, ex, q⟩ => ?_) ht
  subst ex
  obtain rfl : u = Value.ref C := rx
  refine getmethcm_ok I1 r c fun s2 I2 => ?_
  refine callwith_cm I2 (base_none I1 (Nat.le_refl _)) c.fi (thn (ha.run pos _ s2 σ H1 _ I2 q) fun us s3 ⟨vs, H2, I3, rv, q2⟩ => ⟨⟨pin_at I3, I3.kIn⟩, ?_⟩) hst hpl
  exact run_cmS F hr hb (hx σ) I3 rv q2
end
end Vk
set_option Elab.async false
set_option linter.all false
set_option maxRecDepth 100000
set_option maxHeartbeats 4000000
namespace Vk
open PySem PySem.Spec PyProof.Rows L2 Vt PySem.Vx Vs1 ClX
def top8 (i : Nat) : Stmt := PySem.Challenge.pw_loopsdeep_k11_texts_that_are_no_expressi.main.body.getD i (.Pass ⟨0, 0, 0, 0⟩)
abbrev sLet : Stmt := top8 6
/-- a statement that is never come to -/
theorem ps_never {X : Cx} {st : Stmt} : PS X st (fun _ _ _ => False) := ⟨fun _ _ _ _ _ _ h => h.elim⟩
def sg (c : Nat) : Str := ⟨#[c]⟩
structure Txt8 (K : PySem.W.Frag) (mg : Str → Option Value) : Prop where
  isi : mg "isinstance" = none
  int : mg "int" = none
  bool : mg "bool" = none
  str : mg "str" = none
  tup : mg "tuple" = none
  len : mg "len" = none
  lst : mg "list" = none
  srt : mg "sorted" = none
  set : mg "set" = none
  rng : mg "range" = none
theorem no_lt {a b : Nat} (h : b ≤ a) : (!decide ([a] < [b])) = true := by
  simp [List.cons_lt_cons_iff]
  omega
section
variable {P : Program} {w : World} {K : PySem.W.Frag} {mg : Str → Option Value} {base : Heap}
theorem scE : FnScope ["thing"] ["thing"] (defScope sLet) := ⟨rfl, rfl, rfl, by decide +kernel, rfl, by decide +kernel, by decide +kernel⟩
theorem tyT {H : Hp} {a : Addr} {xs : List V} (h : SqT K H a xs) : TyX K H (.ref a) (.type "tuple") := by
  rcases h with (h | ⟨o, h⟩) | ⟨o, its, n, h, hc, _⟩
  · exact .base (.tup h)
  · exact .fTuple h
  · exact .kTuple h hc
end
theorem same_up {H : Hp} {p : Addr} {o : HO} (hp : H p = none) : Same H (upd H p o) := fun b u e => by
  rw [upd_ne (ne_of_none e hp)]
  exact e
theorem same_seqL {K : PySem.W.Frag} {H H' : Hp} {a : Addr} {xs : List V} (e : Same H H') (h : SqL K H a xs) : SqL K H' a xs := by
  rcases h with (h | ⟨u, h⟩) | h
  · exact .inl (.inl (e _ _ h))
  · exact .inl (.inr ⟨u, e _ _ h⟩)
  · exact .inr h
theorem seqT_ins {K : PySem.W.Frag} {H : Hp} {a b C dx : Addr} {fs : List (Str × V)} {o : HO} {xs : List V} (h : SqT K H b xs) (ha : H a = some (.ins C dx fs)) : SqT K (upd H a o) b xs := by
  rcases h with (h | ⟨u, h⟩) | h
  · exact .inl (.inl (by rw [upd_ne (ne_of h ha (fun z => by cases z))]; exact h))
  · exact .inl (.inr ⟨u, by rw [upd_ne (ne_of h ha (fun z => by cases z))]; exact h⟩)
  · exact .inr h
theorem none_back {H H' : Hp} {p : Addr} (S : Same H H') (h : H' p = none) : H p = none := by
  cases e : H p with
  | none => rfl
  | some o =>
    rw [S _ _ e] at h
    cases h
def rReprV (K : PySem.W.Frag) : List V → Hp → VK → Prop := fun xs H Q => ∃ (v : V) (d : PyData), xs = [v] ∧ ((Dp K H v d ∧ d.hasDict = false) ∨ Dr K H v d) ∧ d.showable = true ∧ d.depth ≤ 60 ∧ d.shown.length ≤ sizeLine ∧ Q (.str d.shown) H
theorem call_reprU {X : Cx} (hgd : X.A.guards = some []) (room : X.A.units + 64 < cLine) : CallR X (.builtin "repr") (rReprV X.K) := by
  intro pins s σ H xs us Q I rv ⟨v, d, e, dp, sh, deep, few, q⟩
  subst e
  obtain ⟨u, rfl, ru⟩ := vals1 rv
  have main : ∃ as, Reads s.heap u d as ∧ (d.hasDict = true → sysModules ∉ as) := by
    rcases dp with ⟨dp, nd⟩ | dp
    · obtain ⟨as, rd⟩ := Dp.reads I d _ _ dp ru
      exact ⟨as, rd, PyData.noDict_hsm nd⟩
    · obtain ⟨as, rd, nm⟩ := dp.reads I ru
      exact ⟨as, rd, fun _ => nm⟩
  obtain ⟨as, rd, nm⟩ := main
  have go : ∀ t, EP X pins σ Q (.str d.shown t) { s with toks := s.toks + 1 } := fun t => ⟨.str d.shown, H, I.tok _, ⟨t, rfl⟩, q⟩
  cases u with
  | ref a => exact repr_of_reads' rd sh nm hgd (by omega) (fun _ _ z => z) (fun h' u tk keep => ⟨.str d.shown, H, I.kept keep, ⟨u, rfl⟩, q⟩) few
  | none =>
    cases rd
    exact PySem.P.repr_of_none (go _)
  | bool b =>
    cases rd
    exact PySem.P.repr_of_bool (by cases b <;> exact go _)
  | int i t =>
    cases rd
    exact PySem.P.repr_of_int (of_decide_eq_true sh) (go _)
  | str x t =>
    cases rd
    exact PySem.P.repr_of_str (go _) few
  | _ => cases rd
theorem call_reprV {X : Cx} {k : Nat} (hgd : X.A.guards = some []) (hr : Room k X.A) : CallR X (.builtin "repr") (rReprV X.K) := call_reprU hgd hr.units
def ltR (z : Str) : Option Nat := match z.cps.toList with
  | [c] => if 97 ≤ c ∧ c ≤ 122 then some c else none
  | _ => none
theorem ltR_some {z : Str} {c : Nat} (h : ltR z = some c) : z = sg c ∧ 97 ≤ c ∧ c ≤ 122 := by
  unfold ltR at h
  split at h
  · rename_i d e
    split at h
    · cases h
      rename_i hc
      refine ⟨Str.ext' (Array.toList_inj.mp e), hc⟩
    · cases h
  · cases h
theorem lt_one {a b : Nat} : (!decide ([a] < [b])) = decide (b ≤ a) := by
  rw [Bool.eq_iff_iff]
  simp [List.cons_lt_cons_iff]
theorem str_one {z : Str} (h : z.length = 1) : ∃ c, z = sg c := by
  have l : z.cps.toList.length = 1 := by rw [Array.length_toList]; exact h
  obtain ⟨c, e⟩ := List.length_eq_one_iff.mp l
  exact ⟨c, Str.ext' (Array.toList_inj.mp e)⟩
theorem ltR_sg (c : Nat) : (ltR (sg c)).isSome = (decide (97 ≤ c) && decide (c ≤ 122)) := by
  show (if 97 ≤ c ∧ c ≤ 122 then some c else none).isSome = _
  by_cases h : 97 ≤ c ∧ c ≤ 122
  · rw [if_pos h, decide_eq_true h.1, decide_eq_true h.2] <;> rfl
  · rw [if_neg h]
    symm
    rw [Option.isSome_none, Bool.and_eq_false_iff, decide_eq_false_iff_not, decide_eq_false_iff_not]
    omega
theorem ltR_len {z : Str} (h : z.length ≠ 1) : ltR z = none := by
  unfold ltR
  split
  · rename_i c e
    exact absurd (by rw [← Array.length_toList, e] <;> rfl : z.cps.size = 1) h
  · rfl
/-! ## an own object made within a try -/
section
variable {X : Cx} {CX : CXT} {k : Nat} {f C : Addr} {fd : FuncData} {ps : List Str} {sp : Sp} {dvs : List V} {ds : List Value} {E : L2.St → XK} {x : Str} {p pos : Pos} {e : Expr} {es : List Expr} {t : TA}
def tMakeS (C : Addr) (sp : Sp) (dvs : List V) (E : L2.St → XK) (t : TA) : TE := fun σ H Q => t σ H fun vs H1 => ∀ x dx, H1 x = none → H1 dx = none → dx ≠ x →
  sp (.ref x :: (vs ++ dvs)) (upd (upd H1 dx (.own x)) x (.ins C dx [])) (fun v H2 => v = .non ∧ Q (.ref x) H2) (E σ)
theorem run_makeS {pins : List (Addr × Obj)} {σ : L2.St} {H : Hp} {s : Shared} {Q : VK} {us : List Value} {vs : List V} (M : Mk X.K C f) (F : FnOk X.prog X.w X.K X.mg X.base CX k f fd ps sp) (hr : Room (k + 1) X.A) (hb : Binds X.K fd ps ds) (hd : Vals dvs ds)
    (hx : PassesAt CX X σ (E σ)) (I : Inv X pins σ H s) (r : Vals vs us)
    (h : ∀ x dx, H x = none → H dx = none → dx ≠ x → sp (.ref x :: (vs ++ dvs)) (upd (upd H dx (.own x)) x (.ins C dx [])) (fun v H2 => v = .non ∧ Q (.ref x) H2) (E σ)) :
    wpAny (model X.prog X.w) X.A (call (.ref C) us) (EP X pins σ Q) X.xe s := by
  have hq := h (s.heap.objs.size + 1) s.heap.objs.size (I.hok.fresh (Nat.le_succ _)) (I.hok.fresh (Nat.le_refl _)) (Nat.ne_of_lt (Nat.lt_succ_self _))
  have I2 := Inv.made (C := C) I
  have r2 : Vals (V.ref (s.heap.objs.size + 1) :: (vs ++ dvs)) (Value.ref (s.heap.objs.size + 1) :: (us ++ ds)) := .cons rfl (r.append hd)
  have hl : (Value.ref (s.heap.objs.size + 1) :: us ++ ds).length = ps.length := by
    have e := r2.length
    rw [F.len _ _ _ _ hq] at e
    exact e.symm
  refine wpAny_call (make_map (f := f) I.kIn M.makes M.init (beq_iff_eq.mp M.fn) (codeAny_mono (F.run _ X.stack _ _ ⟨Value.ref (s.heap.objs.size + 1) :: us, []⟩ (Value.ref (s.heap.objs.size + 1) :: (us ++ ds)) _ _ (E σ) (hr.make C us [])
    (I2.env0.make C us []) (hb _ (Value.ref (s.heap.objs.size + 1) :: us) I2.kIn hl) r2 hq) fun r s' hq' => ?_))
  cases r with
  | error e => exact hx pins _ _ e s' I2 hq'
  | ok fl =>
    cases fl with
    | ret u =>
      obtain ⟨v, H', I3, rv, ev, q3⟩ := I2.after hq'
      subst ev
      exact ⟨rv, ⟨V.ref (s.heap.objs.size + 1), H', I3, rfl, q3⟩⟩
    | next => exact False.elim hq'
    | brk => exact False.elim hq'
    | cont => exact False.elim hq'
theorem pe_makeS (M : Mk X.K C f) (F : FnOk X.prog X.w X.K X.mg X.base CX k f fd ps sp) (hr : Room (k + 1) X.A) (hg : Gl X x) (hm : X.mg x = some (.ref C)) (hb : Binds X.K fd ps ds) (hd : Vals dvs ds) (hx : ∀ σ, PassesAt CX X σ (E σ))
    (ha : PA X (e :: es) t) (hdb : (x == ("__debug__" : Str)) = false := by decide) (he : starEach (e :: es) X.env = (false, eval e X.env) :: starEach es X.env := by rfl) (hpl : (backTo pos (starEach es X.env)).any (·.1) = false := by rfl) :
    PE X (.Call (.Name x p) (e :: es) [] pos) (tMakeS C sp dvs E t) := by
  refine ⟨fun pins s σ H Q I h => ?_⟩
  refine wpAny_Call_Name_kw (ld_glob I hg hm ?_ hdb)
  refine PySem.W.callWith_K (h₀ := X.base) I.ok.mod.kin M.kp (thn (ha.run pos pins s σ H _ I h) fun us s1 ⟨vs, H1, I1, r, q⟩ => ⟨I1.kIn, ?_⟩) he hpl
  exact run_makeS M F hr hb hd (hx σ) I1 r q
end
theorem call_reprS {X : Cx} {a : Addr} {pn : List (Addr × Obj)} (hgd : X.A.guards = some []) (hu : X.A.units + 64 < cLine) : CallR (X.suite a pn) (.builtin "repr") (rReprV X.K) := call_reprU (X := X.suite a pn) hgd hu
/-- a list display in an except suite: its place is not that of the error -/
def tLstA (a : Addr) (t : TA) : TE := fun σ H Q => t σ H fun xs H1 => xs.length ≤ sizeLine ∧ ∀ p, H1 p = none → p ≠ a → Q (.ref p) (upd H1 p (.lst xs))
theorem pe_lstS {X : Cx} {a : Addr} {oe : Obj} {pn : List (Addr × Obj)} {es : List Expr} {t : TA} {pos : Pos} (h : PA (X.suite a ((a, oe) :: pn)) es t) : PE (X.suite a ((a, oe) :: pn)) (.List es pos) (tLstA a t) := by
  refine ⟨fun pins s σ H Q I q0 => wpAny_List_spliced (thn (h.run pos pins s σ H _ I q0) fun us s1 ⟨xs, H1, I1, r, z, q⟩ => ⟨r.length ▸ z, ?_⟩)⟩
  have hf : H1 s1.heap.objs.size = none := I1.fresh
  have hn : s1.heap.objs.size ≠ a := fun e => by
    have ho := (I1.pin (a, oe) (List.mem_append_left _ List.mem_cons_self)).1
    have := Heap.lt_size ho
    rw [e] at this
    exact Nat.lt_irrefl _ this
  exact ⟨.ref s1.heap.objs.size, _, I1.laid (t' := s1.toks) (o := .lst xs) (fun b u e => Heap.get?_push_of_some _ e) (Nat.le_refl _) ⟨z, us, 0, r, Heap.get?_push_size _ rfl⟩, rfl, q _ hf hn⟩
theorem cut_from (xs : List V) (k : Nat) : cutV xs (some (k : Int)) none = xs.drop k := by
  unfold cutV
  rw [HT.sIx_none, HT.sIx_nat]
  by_cases h : k ≤ xs.length
  · rw [Nat.min_eq_left h]
    exact List.take_of_length_le (by rw [List.length_drop]; exact Nat.le_refl _)
  · rw [Nat.min_eq_right (by omega), List.drop_of_length_le (by omega : xs.length ≤ k), List.drop_length, List.take_nil]
theorem cut_to (xs : List V) (k : Nat) : cutV xs none (some (k : Int)) = xs.take k := by
  unfold cutV
  rw [HT.sIx_none, HT.sIx_nat, List.drop_zero, Nat.sub_zero]
  by_cases h : k ≤ xs.length
  · rw [Nat.min_eq_left h]
  · rw [Nat.min_eq_right (by omega), List.take_length, List.take_of_length_le (by omega)]
/-! ## isinstance of the error that the suite holds -/
def rIsS (K : PySem.W.Frag) (C a : Addr) (cls : Value) (d : Option Addr) : List V → Hp → VK → Prop := fun xs H Q => ∃ (c : V) (cv : Value) (b : Bool), xs = [.ref a, c] ∧ cls = .ref C ∧ (∀ dd, d = some dd → ∃ fs, H dd = some (.xd fs)) ∧
  (∀ u, L2.RelV c u → u = cv) ∧ PySem.W.kitOne K (.ref C) cv = some b ∧ Q (.bl b) H
theorem call_isS {X : Cx} {a C : Addr} {oe : Obj} {cls : Value} {d : Option Addr} {pn : List (Addr × Obj)} (T : EcK X.K C) (hz : Zc cls d oe) (hf : ∃ vs, oe.data = .fields vs) : CallR (X.suite a ((a, oe) :: pn)) (.builtin "isinstance") (rIsS X.K C a cls d) := by
  intro pins s σ H xs us Q I r h
  obtain ⟨c, cv, b, rfl, ec, hd, hc, e, q⟩ := h
  obtain ⟨u1, u2, rfl, r1, r2⟩ := vals2 r
  cases r1
  have e2 := hc _ r2
  subst e2
  subst ec
  obtain ⟨vs, hv⟩ := hf
  have ho := (I.pin (a, oe) (List.mem_append_left _ List.mem_cons_self)).1
  have nc : PySem.W.notCls oe = true := by
    unfold PySem.W.notCls
    rw [hv] <;> rfl
  have J : ∃ od : Option Obj, PySem.W.InstAt s.heap a oe C od := by
    cases d with
    | none =>
      refine ⟨none, ho, hz.1, nc, ?_⟩
      rw [hz.2]
      trivial
    | some dd =>
      obtain ⟨fs, hx⟩ := hd dd rfl
      obtain ⟨mA, hns, hr⟩ := (show ObjOk X.prog X.w H s.heap dd (.xd fs) from I.hok dd _ hx)
      obtain ⟨od, hod, hl⟩ := lookIn_ns hns
      refine ⟨some od, ho, hz.1, nc, ?_⟩
      rw [hz.2]
      exact hod
  obtain ⟨od, J⟩ := J
  have hcl : (PySem.W.clsIn X.K C).isSome = true := by
    obtain ⟨cd, hcd, _⟩ := PySem.W.any_some T.hd
    rw [hcd]
    rfl
  exact PySem.W.kia_one (PySem.W.kitx_exc hcl T.ga T.gg T.ex T.cl T.gt T.tk T.ob) I.kIn J e (fun z => nomatch z) fun tk => ⟨.bl b, H, I.kept (t' := tk) fun _ _ z => z, rfl, q⟩
def Low (z : Str) : Prop := ∀ c ∈ z.cps.toList, c < 128
theorem lay_str {z : Str} (h : Low z) : PyData.canLay0 (.str z) = true := by
  rw [PyData.canLay0]
  show (z.cps.all fun c => decide (c < 0x110000)) = true
  rw [← Array.all_toList]
  exact List.all_eq_true.mpr fun c hc => decide_eq_true (Nat.lt_trans (h c hc) (by decide))
/-! ## the repr of plain texts is plain -/
theorem look_repr : ((List.range 128).all fun c => [34, 39].all fun q => (Builtin.Str.reprChar q c).all fun x => Nat.blt x 128) = true := by decide +kernel
theorem fold_low (q : Nat) (hq : q = 34 ∨ q = 39) : ∀ (l : List Nat) (acc : Array Nat), (∀ c ∈ l, c < 128) → (∀ x ∈ acc.toList, x < 128) → ∀ x ∈ (l.foldl (fun out c => out ++ (Builtin.Str.reprChar q c).toArray) acc).toList, x < 128
  | [], acc, _, h => h
  | c :: l, acc, hl, h => by
    refine fold_low q hq l _ (fun d hd => hl d (.tail _ hd)) fun x hx => ?_
    rw [Array.toList_append] at hx
    rcases List.mem_append.mp hx with z | z
    · exact h x z
    · have t := List.all_eq_true.mp look_repr c (List.mem_range.mpr (hl c List.mem_cons_self))
      have t2 := List.all_eq_true.mp t q (by rcases hq with e | e <;> rw [e] <;> simp)
      exact Nat.blt_eq.mp (List.all_eq_true.mp t2 x z)
theorem low_repr {z : Str} (h : Low z) : Low (reprText z) := by
  have hq : reprQuote z = 34 ∨ reprQuote z = 39 := by
    unfold reprQuote
    split
    · exact .inl rfl
    · exact .inr rfl
  have q9 : reprQuote z < 128 := by rcases hq with e | e <;> rw [e] <;> decide
  intro x hx
  unfold reprText at hx
  have hx' : x ∈ ((z.cps.foldl (fun out c => out ++ (Builtin.Str.reprChar (reprQuote z) c).toArray) #[reprQuote z]).push (reprQuote z)).toList := hx
  rw [Array.toList_push, ← Array.foldl_toList] at hx'
  rcases List.mem_append.mp hx' with y | y
  · exact fold_low _ hq z.cps.toList _ h (fun x hx => by
      rcases List.mem_cons.mp hx with e | e
      · rw [e]
        exact q9
      · cases e) x y
  · rw [List.mem_singleton.mp y]
    exact q9
/-! ## any data -/
def tyN : PyData → String
  | .none => "NoneType"
  | .bool _ => "bool"
  | .int _ => "int"
  | .str _ => "str"
  | .list _ => "list"
  | .tuple _ => "tuple"
  | .dict _ => "dict"
theorem tyX_dr {K : PySem.W.Frag} {H : Hp} {v : V} {d : PyData} (h : Dr K H v d) : TyX K H v (.type (tyN d)) := by
  cases h with
  | non => exact .base .non
  | bl b => exact .base (.bl b)
  | int i => exact .base (.int i)
  | str x => exact .base (.str x)
  | lst ns hs ha =>
    rcases hs with (h | ⟨o, h⟩) | ⟨o, its, n, h, hc, _⟩
    · exact .base (.lst h)
    · exact .base (.frz h)
    · exact .kList h hc
  | tup hs ha => exact tyT hs
  | dct h ha => exact .base (.dK h)
def isNum : PyData → Bool
  | .int _ => true
  | _ => false
def isLet : PyData → Bool
  | .str z => (ltR z).isSome
  | _ => false
/-! ## how long the told parts are -/
theorem listText_le (ts : List Str) : (listText ts).length ≤ piled ts + 2 := by
  cases ts with
  | nil => exact Nat.le_refl _
  | cons t r =>
    unfold listText textFrom
    rw [strLen_append, textFrom_length_pos _ _ _ Nat.one_pos, strLen_append, strLen_append, piled_cons, if_neg (Nat.lt_irrefl 0)]
    show 1 + 0 + t.length + piled r + 1 ≤ t.length + 2 + piled r + 2
    omega
theorem tupleText_le (ts : List Str) : (tupleText ts).length ≤ piled ts + 3 := by
  have ends : ∀ b : Bool, ((if b = true then ",)" else ")" : String) : Str).length ≤ 2 := by decide
  have mid : (Str.join ", " ts).length ≤ piled ts := by
    cases ts with
    | nil => exact Nat.zero_le _
    | cons t r =>
      have := join_length_add (t :: r) (List.cons_ne_nil _ _)
      omega
  have last := ends (ts.length == 1)
  unfold tupleText
  rw [strLen_append, strLen_append]
  show 1 + (Str.join ", " ts).length + _ ≤ _
  omega
/-! how much there is in it -/
mutual
def wt : PyData → Nat
  | .str z => z.length + 1
  | .list xs => wtAll xs + 1
  | .tuple xs => wtAll xs + 1
  | .dict _ => 2
  | .none => 1
  | .bool _ => 1
  | .int _ => 1
def wtAll : List PyData → Nat
  | [] => 0
  | x :: xs => wt x + wtAll xs
end
theorem wt_pos : ∀ d : PyData, 1 ≤ wt d
  | .str z => Nat.le_add_left _ _
  | .list xs => Nat.le_add_left _ _
  | .tuple xs => Nat.le_add_left _ _
  | .dict _ => (by decide : 1 ≤ 2)
  | .none => Nat.le_refl _
  | .bool _ => Nat.le_refl _
  | .int _ => Nat.le_refl _
theorem wtAll_app : ∀ (a b : List PyData), wtAll (a ++ b) = wtAll a + wtAll b
  | [], b => by simp [wtAll]
  | x :: a, b => by
    rw [List.cons_append, wtAll, wtAll, wtAll_app a b]
    omega
theorem wtAll_len : ∀ (a : List PyData), a.length ≤ wtAll a
  | [] => Nat.le_refl _
  | x :: a => by
    have := wtAll_len a
    have := wt_pos x
    rw [List.length_cons, wtAll]
    omega
theorem wt_mem : ∀ {a : List PyData} {d : PyData}, d ∈ a → wt d ≤ wtAll a
  | x :: a, d, h => by
    rw [wtAll]
    rcases List.mem_cons.mp h with e | h
    · rw [e]
      omega
    · have := wt_mem h
      omega
/-! plain data: small integers, plain signs, no dict but an empty one -/
mutual
def plainD : PyData → Bool
  | .str z => z.cps.toList.all fun c => decide (c < 128)
  | .int i => decide (i.natAbs < 10 ^ 41)
  | .list xs => plainAll xs
  | .tuple xs => plainAll xs
  | .dict kvs => kvs.isEmpty
  | .none => true
  | .bool _ => true
def plainAll : List PyData → Bool
  | [] => true
  | x :: xs => plainD x && plainAll xs
end
theorem plainAll_iff : ∀ {xs : List PyData}, plainAll xs = true ↔ ∀ d ∈ xs, plainD d = true
  | [] => by simp [plainAll]
  | x :: xs => by
    rw [plainAll, Bool.and_eq_true, plainAll_iff]
    simp
theorem log_of {i : Int} (h : i.natAbs < 10 ^ 41) : i.natAbs.log2 < 1920 := by
  by_cases h0 : i.natAbs = 0
  · rw [h0]
    decide
  · exact Nat.lt_of_lt_of_le ((Nat.log2_lt h0).mpr (Nat.lt_of_lt_of_le h (by decide : 10 ^ 41 ≤ 2 ^ 137))) (by decide)
theorem int_len {i : Int} (h : i.natAbs < 10 ^ 41) : (PyData.shown (.int i)).length ≤ 140 := by
  have h137 : i.natAbs < 2 ^ 137 := Nat.lt_of_lt_of_le h (by decide)
  have cnv : ∀ s : String, (Str.ofString s).length = s.length := fun s => by
    rw [Str.ofString_eq_toList]
    simp only [Str.length, List.size_toArray, List.length_map]
    exact String.length_toList ..
  show (Str.ofString (toString i)).length ≤ 140
  rw [cnv]
  cases i with
  | ofNat n =>
    have e : toString (Int.ofNat n) = Nat.repr n := rfl
    rw [e]
    exact Nat.le_trans (nat_repr_length_le (k := 137) (by decide) h137) (by decide)
  | negSucc n =>
    have e : toString (Int.negSucc n) = "-" ++ Nat.repr (n + 1) := rfl
    rw [e, String.length_append]
    have := nat_repr_length_le (k := 137) (by decide) (show n + 1 < 2 ^ 137 from h137)
    show 1 + _ ≤ 140
    omega
mutual
theorem shown_wt : ∀ (d : PyData), plainD d = true → d.shown.length + 2 ≤ 150 * wt d
  | .none, _ => by decide
  | .bool b, _ => by cases b <;> decide
  | .int i, h => by
    have := int_len (of_decide_eq_true h)
    show _ + 2 ≤ 150 * 1
    omega
  | .str z, h => by
    have := StrLaws.reprText_len z fun c hc => Nat.lt_trans (of_decide_eq_true (List.all_eq_true.mp h c hc)) (by decide)
    show (reprText z).length + 2 ≤ 150 * (z.length + 1)
    omega
  | .list xs, h => by
    have a := listText_le (PyData.shownAll xs)
    have b := piled_wt xs h
    show (listText (PyData.shownAll xs)).length + 2 ≤ 150 * (wtAll xs + 1)
    omega
  | .tuple xs, h => by
    have a := tupleText_le (PyData.shownAll xs)
    have b := piled_wt xs h
    show (tupleText (PyData.shownAll xs)).length + 2 ≤ 150 * (wtAll xs + 1)
    omega
  | .dict kvs, h => by
    cases kvs with
    | nil => decide
    | cons q r => cases h
theorem piled_wt : ∀ (xs : List PyData), plainAll xs = true → piled (PyData.shownAll xs) ≤ 150 * wtAll xs
  | [], _ => Nat.le_refl _
  | x :: xs, h => by
    rw [plainAll, Bool.and_eq_true] at h
    have a := shown_wt x h.1
    have b := piled_wt xs h.2
    rw [PyData.shownAll, piled_cons, wtAll]
    omega
end
mutual
theorem show_plain : ∀ (d : PyData), plainD d = true → d.showable = true
  | .none, _ => rfl
  | .bool b, _ => rfl
  | .int i, h => decide_eq_true (log_of (of_decide_eq_true h))
  | .str z, _ => rfl
  | .list xs, h => shows_plain xs h
  | .tuple xs, h => shows_plain xs h
  | .dict kvs, h => by
    cases kvs with
    | nil => rfl
    | cons q r => cases h
theorem shows_plain : ∀ (xs : List PyData), plainAll xs = true → PyData.showableAll xs = true
  | [], _ => rfl
  | x :: xs, h => by
    rw [plainAll, Bool.and_eq_true] at h
    rw [PyData.showableAll, show_plain x h.1, shows_plain xs h.2] <;> rfl
end
/-! ## lists of data -/
theorem DrAll.get {K : PySem.W.Frag} {H : Hp} : ∀ {vs : List V} {ds : List PyData}, DrAll K H vs ds → ∀ {i : Nat} {v : V}, vs[i]? = some v → ∃ d, ds[i]? = some d ∧ Dr K H v d
  | _, _, .nil, i, v, h => by cases h
  | _, _, .cons h1 h2, 0, v, h => by
    cases h
    exact ⟨_, rfl, h1⟩
  | _, _, .cons h1 h2, i + 1, v, h => h2.get (i := i) h
theorem DrAll.at {K : PySem.W.Frag} {H : Hp} : ∀ {vs : List V} {ds : List PyData}, DrAll K H vs ds → ∀ {i : Nat} {d : PyData}, ds[i]? = some d → ∃ v, vs[i]? = some v ∧ Dr K H v d
  | _, _, .nil, i, v, h => by cases h
  | _, _, .cons h1 h2, 0, v, h => by
    cases h
    exact ⟨_, rfl, h1⟩
  | _, _, .cons h1 h2, i + 1, v, h => h2.at (i := i) h
theorem DrAll.app {K : PySem.W.Frag} {H : Hp} : ∀ {vs : List V} {ds : List PyData}, DrAll K H vs ds → ∀ {ws : List V} {es : List PyData}, DrAll K H ws es → DrAll K H (vs ++ ws) (ds ++ es)
  | _, _, .nil, _, _, h => h
  | _, _, .cons h1 h2, _, _, h => .cons h1 (h2.app h)
theorem DrAll.take {K : PySem.W.Frag} {H : Hp} : ∀ {vs : List V} {ds : List PyData}, DrAll K H vs ds → ∀ (k : Nat), DrAll K H (vs.take k) (ds.take k)
  | _, _, .nil, k => by rw [List.take_nil, List.take_nil]; exact .nil
  | _, _, .cons h1 h2, 0 => .nil
  | _, _, .cons h1 h2, k + 1 => .cons h1 (h2.take k)
theorem DrAll.drop {K : PySem.W.Frag} {H : Hp} : ∀ {vs : List V} {ds : List PyData}, DrAll K H vs ds → ∀ (k : Nat), DrAll K H (vs.drop k) (ds.drop k)
  | _, _, .nil, k => by rw [List.drop_nil, List.drop_nil]; exact .nil
  | _, _, .cons h1 h2, 0 => .cons h1 h2
  | _, _, .cons h1 h2, k + 1 => h2.drop k
theorem DrAll.rev {K : PySem.W.Frag} {H : Hp} : ∀ {vs : List V} {ds : List PyData}, DrAll K H vs ds → DrAll K H vs.reverse ds.reverse
  | _, _, .nil => .nil
  | _, _, .cons h1 h2 => by
    rw [List.reverse_cons, List.reverse_cons]
    exact (h2.rev).app (.cons h1 .nil)
theorem dr_tup {K : PySem.W.Frag} {H : Hp} {v : V} {ds : List PyData} (h : Dr K H v (.tuple ds)) : ∃ a xs, v = .ref a ∧ SqT K H a xs ∧ DrAll K H xs ds := by
  cases h with
  | tup hs ha => exact ⟨_, _, rfl, hs, ha⟩
theorem dr_int {K : PySem.W.Frag} {H : Hp} {v : V} {i : Int} (h : Dr K H v (.int i)) : v = .int i := by
  cases h
  rfl
theorem dr_str {K : PySem.W.Frag} {H : Hp} {v : V} {z : Str} (h : Dr K H v (.str z)) : v = .str z := by
  cases h
  rfl
/-! ## moves among data -/
def kitI : PyData → Bool
  | .int _ => true
  | .bool _ => true
  | _ => false
def kitBo : PyData → Bool
  | .bool _ => true
  | _ => false
def kitS : PyData → Bool
  | .str _ => true
  | _ => false
def kitT : PyData → Bool
  | .tuple _ => true
  | _ => false
theorem kit_int {K : PySem.W.Frag} (d : PyData) : PySem.W.kitOne K (.type (tyN d)) (.type "int") = some (kitI d) := by
  cases d with
  | none => exact kit_ty (show kitB "NoneType" "int" = some false by decide +kernel)
  | bool b => exact kit_ty (show kitB "bool" "int" = some true by decide +kernel)
  | int i => exact kit_ty (show kitB "int" "int" = some true by decide +kernel)
  | str z => exact kit_ty (show kitB "str" "int" = some false by decide +kernel)
  | list xs => exact kit_ty (show kitB "list" "int" = some false by decide +kernel)
  | tuple xs => exact kit_ty (show kitB "tuple" "int" = some false by decide +kernel)
  | dict kvs => exact kit_ty (show kitB "dict" "int" = some false by decide +kernel)
theorem kit_bool {K : PySem.W.Frag} (d : PyData) : PySem.W.kitOne K (.type (tyN d)) (.type "bool") = some (kitBo d) := by
  cases d with
  | none => exact kit_ty (show kitB "NoneType" "bool" = some false by decide +kernel)
  | bool b => exact kit_ty (show kitB "bool" "bool" = some true by decide +kernel)
  | int i => exact kit_ty (show kitB "int" "bool" = some false by decide +kernel)
  | str z => exact kit_ty (show kitB "str" "bool" = some false by decide +kernel)
  | list xs => exact kit_ty (show kitB "list" "bool" = some false by decide +kernel)
  | tuple xs => exact kit_ty (show kitB "tuple" "bool" = some false by decide +kernel)
  | dict kvs => exact kit_ty (show kitB "dict" "bool" = some false by decide +kernel)
theorem kit_str {K : PySem.W.Frag} (d : PyData) : PySem.W.kitOne K (.type (tyN d)) (.type "str") = some (kitS d) := by
  cases d with
  | none => exact kit_ty (show kitB "NoneType" "str" = some false by decide +kernel)
  | bool b => exact kit_ty (show kitB "bool" "str" = some false by decide +kernel)
  | int i => exact kit_ty (show kitB "int" "str" = some false by decide +kernel)
  | str z => exact kit_ty (show kitB "str" "str" = some true by decide +kernel)
  | list xs => exact kit_ty (show kitB "list" "str" = some false by decide +kernel)
  | tuple xs => exact kit_ty (show kitB "tuple" "str" = some false by decide +kernel)
  | dict kvs => exact kit_ty (show kitB "dict" "str" = some false by decide +kernel)
theorem kit_tup {K : PySem.W.Frag} (d : PyData) : PySem.W.kitOne K (.type (tyN d)) (.type "tuple") = some (kitT d) := by
  cases d with
  | none => exact kit_ty (show kitB "NoneType" "tuple" = some false by decide +kernel)
  | bool b => exact kit_ty (show kitB "bool" "tuple" = some false by decide +kernel)
  | int i => exact kit_ty (show kitB "int" "tuple" = some false by decide +kernel)
  | str z => exact kit_ty (show kitB "str" "tuple" = some false by decide +kernel)
  | list xs => exact kit_ty (show kitB "list" "tuple" = some false by decide +kernel)
  | tuple xs => exact kit_ty (show kitB "tuple" "tuple" = some true by decide +kernel)
  | dict kvs => exact kit_ty (show kitB "dict" "tuple" = some false by decide +kernel)
section
variable {P : Program} {w : World} {K : PySem.W.Frag} {mg : Str → Option Value} {base : Heap}
def spLetD (K : PySem.W.Frag) : Sp := fun vs H Q _ => ∃ (v : V) (d : PyData), vs = [v] ∧ Dr K H v d ∧ wt d ≤ 1000000 ∧ Q (.bl (isLet d)) H
theorem ok_letD {f : Addr} {fd : FuncData} (F : Fun K "is_letter" "is_letter" sLet f fd) (T : Txt8 K mg) : FnOk P w K mg base CX0 1 f fd ["thing"] (spLetD K) := by
  refine F.ok scE (fun vs H Q E h => ?_) (fun cdv A outer s H vs Q E hr h => ?_)
  · obtain ⟨v, d, rfl, _⟩ := h
    rfl
  · obtain ⟨v, d, rfl, hd, hw, k⟩ := h
    refine ⟨_, (pss_one (ps_ret (pe_and (pe_callB call_isi (by rfl) T.isi (by decide +kernel) (pa_cons (pv 0) (pa_cons (pe_bltn (v := .ty "str") (by rfl) T.str (by decide +kernel) rfl) pa_nil))) (pe_and (pe_cmpR op_eq (pe_callB call_len_str (by rfl) T.len PySem.boot_len (pa_cons (pv 0) pa_nil)) pe_int (nomark _)) (pe_one (pe_chain op_le_str op_le_str pe_str (pv 0) pe_str)))))), ?_⟩
    refine ⟨_, rfl, _, _, _, _, kitS d, rfl, .ty "str", tyX_dr hd, kit_str d, _, rfl, ?_⟩
    cases d with
    | str z =>
      obtain rfl := dr_str hd
      have hz : z.length ≤ sizeLine := by
        have : z.length + 1 ≤ 1000000 := hw
        rw [sizeLine_eq]
        omega
      refine iteT ?_
      refine ⟨_, rfl, _, rfl, hz, rfl, _, rfl, ?_⟩
      have k : Q (.bl (ltR z).isSome) H := k
      by_cases l1 : z.length = 1
      · rw [decide_eq_true (show V.int (z.length : Int) = V.int 1 by rw [l1] <;> rfl)]
        refine iteT ?_
        obtain ⟨c, rfl⟩ := str_one l1
        rw [ltR_sg] at k
        refine ⟨_, rfl, _, _, rfl, rfl, _, rfl, ?_⟩
        have e1 : (!decide ((sg c).cps.toList < ("a" : Str).cps.toList)) = decide (97 ≤ c) := lt_one
        by_cases h1 : 97 ≤ c
        · rw [e1, decide_eq_true h1]
          refine iteT ?_
          refine ⟨_, _, rfl, rfl, ?_⟩
          have e2 : (!decide (("z" : Str).cps.toList < (sg c).cps.toList)) = decide (c ≤ 122) := lt_one
          rw [e2]
          rw [decide_eq_true h1] at k
          exact k
        · rw [e1, decide_eq_false h1]
          refine iteF ?_
          rw [decide_eq_false h1] at k
          exact k
      · rw [decide_eq_false (show ¬ V.int (z.length : Int) = V.int 1 from fun e => l1 (Int.ofNat.inj (V.int.inj e)))]
        refine iteF ?_
        rw [ltR_len l1] at k
        exact k
    | none => exact iteF k
    | bool b => exact iteF k
    | int i => exact iteF k
    | list xs => exact iteF k
    | tuple xs => exact iteF k
    | dict kvs => exact iteF k
end
/-! ## a list against an empty one -/
def rNeE (K : PySem.W.Frag) : R2 := fun x y H Q => ∃ a b xs, x = .ref a ∧ y = .ref b ∧ SqL K H a xs ∧ SqL K H b [] ∧ Q (.bl (!xs.isEmpty)) H
theorem op_neE {X : Cx} (hu : X.A.units + 64 < cLine) : OpR X (compareOp .NotEq) (rNeE X.K) := by
  intro pins s σ H x y v u Q I rx ry h
  obtain ⟨a, b, xs, rfl, rfl, ha, hb, q⟩ := h
  cases rx
  cases ry
  obtain ⟨its, r, p, _⟩ := I.list ha
  obtain ⟨its2, r2, p2, _⟩ := I.list hb
  have l2 : its2 = [] := by
    have := r2.length
    exact List.length_eq_zero_iff.mp this.symm
  subst l2
  have l1 := r.length
  cases xs with
  | nil =>
    have l3 : its = [] := List.length_eq_zero_iff.mp l1.symm
    subst l3
    have R : SeqAt.RcNeAt X.A s (.ref a) (.ref b) (!(List.range ((#[] : Array Value)).size).all fun _ => true) := SeqAt.RcNeAt.lists (items := #[]) (items2 := #[]) (e := fun _ => true) p.isList p2.isList rfl (by omega) (fun j h1 _ => absurd h1 (Nat.not_lt_zero _))
    exact R _ _ _ _ ⟨.bl false, H, I, rfl, q⟩
  | cons x xs =>
    have R : SeqAt.RcNeAt X.A s (.ref a) (.ref b) true := SeqAt.RcNeAt.lists_lengths p.isList p2.isList (by
      cases its with
      | nil => cases l1
      | cons i its => rfl) (by omega)
    exact R _ _ _ _ ⟨.bl true, H, I, rfl, q⟩
/-! ## a slice of a list: not the place of sys.modules -/
def rSlN (K : PySem.W.Frag) : V → Option Int → Option Int → Hp → VK → Prop := fun x lo hi H Q => ∃ a xs, x = .ref a ∧ SqL K H a xs ∧ ∀ p, H p = none → p ≠ sysModules → Q (.ref p) (upd H p (.lst (cutV xs lo hi)))
theorem sl_listN {X : Cx} : SlR X (rSlN X.K) := by
  intro pins s σ H x v vl vu lo hi sl Q I rx hs pl pu h
  obtain ⟨a, xs, rfl, hx, q⟩ := h
  cases rx
  obtain ⟨its, r, ht, hz⟩ := I.list hx
  have hlen := r.length
  refine ⟨"list", _, slot_list_getitem.lookup, ht.isList.typeIs, ?_⟩
  refine wpAny_getItem_list_slice ht.isList hs pl pu .none (by simp) ?_ (by rw [List.size_toArray] <;> omega)
  rw [slicePick_cut, ← hlen]
  refine ⟨.ref s.heap.objs.size, _, I.laid (t' := s.toks) (o := .lst (cutV xs lo hi)) (fun b ob q => Heap.get?_push_of_some _ q) (Nat.le_refl _) ?_, rfl, q _ (I.hok.fresh (Nat.le_refl _)) (Nat.ne_of_gt I.big)⟩
  exact ⟨Nat.le_trans (cutV_length xs lo hi) hz, _, 0, (r.drop (HT.sIx xs.length 0 lo)).take (HT.sIx xs.length xs.length hi - HT.sIx xs.length 0 lo), Heap.get?_push_size _ rfl⟩
end Vk
set_option Elab.async false
set_option linter.all false
set_option maxRecDepth 100000
set_option maxHeartbeats 4000000
namespace Vk
open PySem PySem.Spec PyProof.Rows L2 Vt PySem.Vx Vs1 ClX
abbrev sDeck : Stmt := top8 34
abbrev sDraw : Stmt := top8 35
abbrev sPick : Stmt := top8 36
/-- the deck's pairs -/
def deckK (g : Addr) (m l : Int) : List (Key × V) := [(.inr "cells", .ref g), (.inr "made_of", .int m), (.inr "draws", .int l)]
/-- a deck stands at d, its great numbers at g; at most n times drawn -/
structure DeckAt (H : Hp) (d g : Addr) (n : Int) : Prop where
  dk : ∃ m l : Int, H d = some (.dK (deckK g m l)) ∧ 0 ≤ m ∧ m < 2147483648 ∧ 0 ≤ l ∧ l ≤ n
  gr : ∃ gs : List Int, H g = some (.lst (gs.map V.int)) ∧ gs.length ≤ 63
theorem DeckAt.ne {H : Hp} {d g : Addr} {n : Int} (D : DeckAt H d g n) : d ≠ g := by
  obtain ⟨m, l, h1, _⟩ := D.dk
  obtain ⟨gs, h2, _⟩ := D.gr
  exact ne_of h1 h2 (by intro z; cases z)
theorem merge_deck (g : Addr) (m l : Int) : mergeK [] (deckK g m l) = deckK g m l := by
  rfl
/-- all but the deck stays -/
def But (d g : Addr) (H H' : Hp) : Prop := ∀ b o, H b = some o → b ≠ d → b ≠ g → H' b = some o
def spDeck (K : PySem.W.Frag) : Sp := fun vs H Q _ => ∃ (a : Addr) (ns : List Int), vs = [.ref a] ∧ SqL K H a (ns.map V.int) ∧ ns.length ≤ 63 ∧
  ∀ (d g : Addr) (H' : Hp), Same H H' → H d = none → H g = none → DeckAt H' d g 0 → Q (.ref d) H'
section
variable {P : Program} {w : World} {K : PySem.W.Frag} {mg : Str → Option Value} {base : Heap}
theorem scD : FnScope ["_law_script", "_law_made_of", "_law_cell"] ["_law_script"] (defScope sDeck) := ⟨rfl, rfl, rfl, by decide +kernel, rfl, by decide +kernel, by decide +kernel⟩
theorem same_new {H : Hp} {p : Addr} {o : HO} (hp : H p = none) : Same H (upd H p o) := fun b u e => by
  rw [upd_ne (ne_of_none e hp)]
  exact e
theorem ok_deck {f : Addr} {fd : FuncData} (F : Fun K "_law_deck" "_law_deck" sDeck f fd) (mi : mg "int" = none) (ml : mg "list" = none) : FnOk P w K mg base CX0 1 f fd ["_law_script"] (spDeck K) := by
  refine F.ok scD (fun vs H Q E h => ?_) (fun cdv A outer s H vs Q E hr h => ?_)
  · obtain ⟨a, ns, rfl, _⟩ := h
    rfl
  · obtain ⟨a, ns, rfl, hS, hlen, k⟩ := h
    refine ⟨_, pss_cons (ps_set (i := 1) scD.nd rfl (.inl rfl) pe_int)
      (pss_cons (ps_for PassesOwn.never rfl (pi_list (pe_slice sl_list (pv 0) po_none (po_some pe_int))) (pg_name (i := 2) scD.nd rfl (.inl rfl))
        (pss_one (ps_set (i := 1) scD.nd rfl (.inl rfl) (pe_op op_mod (pe_callTy call_int1 (by rfl) mi (by decide +kernel) (pa_cons (pe_op op_add (pe_op op_add (pe_op op_mul (pv 1) pe_int)
          (pe_op op_mod (pe_callTy call_int1 (by rfl) mi (by decide +kernel) (pa_cons (pv 2) pa_nil)) pe_int)) pe_int) pa_nil)) pe_int))))
      (pss_one (ps_ret (pe_disp (pps_cons pe_str (pe_revL (pe_callTy call_list_of (by rfl) ml (by decide +kernel) (pa_cons (pe_slice sl_list (pv 0) po_none (po_some pe_int)) pa_nil)))
        (pps_cons pe_str (pv 1) (pps_cons pe_str pe_int pps_nil))) (by rfl) (by rfl) (fun z => by cases z) (by decide))))), ?_⟩
    obtain ⟨L, eL⟩ : ∃ L, L = cutV (ns.map V.int) none (some 63) := ⟨_, rfl⟩
    have ec : L = (ns.take 63).map V.int := by
      rw [eL]
      unfold cutV
      rw [HT.sIx_none, List.drop_zero, Nat.sub_zero, List.length_map, show ((63 : Int)) = ((63 : Nat) : Int) from rfl, HT.sIx_nat, ← List.map_take]
      congr 1
      rw [List.take_eq_take_iff]
      omega
    have hL63 : L.length ≤ 63 := by
      rw [ec, List.length_map, List.length_take]
      omega
    refine ⟨_, rfl, 63, rfl, a, _, rfl, hS, fun p hp => ⟨p, rfl, ⟨_, SqL.of upd_same⟩, ?_⟩⟩
    rw [← eL]
    have s1 : Same H (upd H p (.lst L)) := same_new hp
    refine for_list (K := K) (a := p) (xs := L) (fun i σ H' => ∃ (m : Int) (v : Option V), σ = [some (.ref a), some (.int m), v] ∧ 0 ≤ m ∧ m < 2147483648 ∧ H' = upd H p (.lst L))
      ⟨_, none, rfl, by decide, by decide, rfl⟩ (fun i σ H' _ ⟨_, _, _, _, _, e⟩ => by rw [e]; exact SqL.of upd_same) ?_ ?_
    · rintro i y σ H' hi ⟨m, v, rfl, h0, h1, rfl⟩
      rw [ec, List.getElem?_map] at hi
      obtain ⟨z, _, rfl⟩ := Option.map_eq_some_iff.mp hi
      refine ⟨_, rfl, _, _, rfl, rfl, .inr ⟨by decide, by decide⟩, _, rfl, .inl ⟨_, rfl, _, _, rfl, rfl, (by show (0 : Int) < 2147483587; decide), _, _, rfl, rfl, _, _, rfl, rfl, .inl ⟨_, rfl, _, _, rfl, rfl, (by show (0 : Int) < 2147483629; decide), ?_⟩⟩⟩
      refine ⟨_, _, rfl, Int.emod_nonneg _ (by decide), ?_, rfl⟩
      refine Int.lt_trans (Int.emod_lt_of_pos _ (by decide)) (by decide)
    · rintro σ H' ⟨m, v, rfl, h0, h1, rfl⟩
      intro d hd
      have hd0 : H d = none := s1.free hd
      have s2 : Same H (upd (upd H p (.lst L)) d (.dK [])) := s1.trans (same_new hd)
      refine ⟨_, rfl, 63, rfl, a, _, rfl, s2.seq hS, fun q hq => ?_⟩
      rw [← eL]
      have ndq : d ≠ q := ne_of_none upd_same hq
      have s3 := s2.trans (same_new (o := .lst L) hq)
      refine ⟨q, _, rfl, .inl (SqL.of upd_same), fun D hD => ?_⟩
      have ndD : d ≠ D := ne_of_none (by rw [upd_ne ndq]; exact upd_same) hD
      have s4 := s3.trans (same_new (o := .lst L) hD)
      refine ⟨D, _, rfl, SqL.of upd_same, fun g hgn => ?_⟩
      have ngD : D ≠ g := ne_of_none upd_same hgn
      have ndg : d ≠ g := ne_of_none (by rw [upd_ne ndD, upd_ne ndq]; exact upd_same) hgn
      have s5 := s4.trans (same_new (o := .lst L.reverse) hgn)
      refine ⟨_, rfl, ?_, deckK g m 0, rfl, by show 3 ≤ 15; decide, ?_⟩
      · rw [upd_ne ndg, upd_ne ndD, upd_ne ndq]
        exact upd_same
      · rw [merge_deck]
        refine k d g _ ?_ hd0 ?_ ⟨⟨m, 0, upd_same, h0, h1, Int.le_refl _, Int.le_refl _⟩, (ns.take 63).reverse, ?_, ?_⟩
        · intro b o e
          rw [upd_ne (ne_of_none e hd0)]
          exact s5 b o e
        · exact s4.free hgn
        · rw [upd_ne ndg.symm, upd_same, ec, List.map_reverse]
        · rw [List.length_reverse, List.length_take]
          omega
/-- the draw: some number below, the deck once more drawn, nothing else touched -/
def spDraw : Sp := fun vs H Q _ => ∃ (d g : Addr) (below n : Int), vs = [.ref d, .int below] ∧ DeckAt H d g n ∧ 0 < below ∧ below < 1000000 ∧ n < 1000000000 ∧
  ∀ (r : Int) (H' : Hp), 0 ≤ r → r < below → DeckAt H' d g (n + 1) → But d g H H' → Q (.int r) H'
theorem scW : FnScope ["_law_deck_here", "_law_many", "_law_here", "_law_cell"] ["_law_deck_here", "_law_many"] (defScope sDraw) := ⟨rfl, rfl, rfl, by decide +kernel, rfl, by decide +kernel, by decide +kernel⟩
theorem val_cells (g : Addr) (m l : Int) : valV (deckK g m l) (Sum.inr "cells" : Key) = some (.ref g) := by rfl
theorem val_made (g : Addr) (m l : Int) : valV (deckK g m l) (Sum.inr "made_of" : Key) = some (.int m) := by rfl
theorem val_draws (g : Addr) (m l : Int) : valV (deckK g m l) (Sum.inr "draws" : Key) = some (.int l) := by rfl
theorem put_draws (g : Addr) (m l z : Int) : putK (deckK g m l) (Sum.inr "draws" : Key) (.int z) = deckK g m z := by rfl
theorem dp_ints {K : PySem.W.Frag} {H : Hp} : ∀ gs : List Int, DpAll K H (gs.map V.int) (gs.map PyData.int)
  | [] => .nil
  | i :: r => .cons (.int i) (dp_ints r)
theorem lay_ints : ∀ gs : List Int, PyData.canLayAll0 (gs.map PyData.int) = true ∧ PyData.depthAll (gs.map PyData.int) = 0
  | [] => ⟨rfl, rfl⟩
  | i :: r => by
    obtain ⟨h1, h2⟩ := lay_ints r
    refine ⟨?_, ?_⟩
    · show (PyData.canLay0 (.int i) && PyData.canLayAll0 (r.map PyData.int)) = true
      rw [h1] <;> rfl
    · show max (PyData.depth (.int i)) (PyData.depthAll (r.map PyData.int)) = 0
      rw [h2] <;> rfl
theorem shaped_ints (gs : List Int) : SeqAt.shaped (.list (gs.map PyData.int)) = true := by
  obtain ⟨h1, h2⟩ := lay_ints gs
  have e1 : PyData.canLay0 (.list (gs.map PyData.int)) = true := h1
  have e2 : PyData.depth (.list (gs.map PyData.int)) = 1 := by
    show PyData.depthAll (gs.map PyData.int) + 1 = 1
    rw [h2]
  unfold SeqAt.shaped
  rw [e1, e2]
  rfl
theorem eqv_nil (gs : List Int) : PyData.eqv (.list (gs.map PyData.int)) (.list []) = decide (gs = []) := by
  cases gs with
  | nil => rfl
  | cons i r => rfl
theorem ok_draw {f : Addr} {fd : FuncData} (F : Fun K "_law_draw" "_law_draw" sDraw f fd) (mi : mg "int" = none) : FnOk P w K mg base CX0 1 f fd ["_law_deck_here", "_law_many"] spDraw := by
  refine F.ok scW (fun vs H Q E h => ?_) (fun cdv A outer s H vs Q E hr h => ?_)
  · obtain ⟨d, g, b, n, rfl, _⟩ := h
    rfl
  · obtain ⟨d, g, b, n, rfl, D, hb0, hb1, hn, k⟩ := h
    have hu := hu_of hr
    have tail : ∃ t, PSs (cxOf CX0 P w K mg base ["_law_deck_here", "_law_many", "_law_here", "_law_cell"] "_law_draw" (defScope sDraw) f cdv A outer s H E).nox ((defBody sDraw).drop 3) t ∧ ∀ (y m l : Int) (c : Option V) (H' : Hp), H' d = some (.dK (deckK g m l)) → 0 ≤ l → l < 2000000000 →
        (∀ r : Int, 0 ≤ r → r < b → Q (.int r) H') → t { nx := fun _ H' => Q .non H', rt := Q } [some (.ref d), some (.int b), some (.int y), c] H' := by
      refine ⟨_, (pss_cons (ps_set (i := 2) scW.nd rfl (.inl rfl) (pe_op op_mod (pe_callTy call_int1 (by rfl) mi (by decide +kernel) (pa_cons (pe_op op_add (pe_op op_mul (pv 2) pe_int) pe_int) pa_nil)) pe_int))
        (pss_cons (ps_set (i := 2) scW.nd rfl (.inl rfl) (pe_op op_mod (pe_callTy call_int1 (by rfl) mi (by decide +kernel) (pa_cons (pe_op op_add (pe_op op_add (pe_op op_mul (pv 2) (pv 2)) (pe_op op_mul pe_int (pe_dget hu (pv 0) pe_str (fun _ _ => rfl)))) pe_int) pa_nil)) pe_int))
        (pss_one (ps_ret (pe_callTy call_int1 (by rfl) mi (by decide +kernel) (pa_cons (pe_op op_mod (pe_op op_fdiv (pe_op op_mod (pe_op op_mul (pv 2) pe_int) pe_int) pe_int) (pv 1)) pa_nil)))))), fun y m l c H' hd l0 l1 k => ?_⟩
      refine ⟨_, rfl, _, _, rfl, rfl, .inr ⟨by decide, by decide⟩, _, _, rfl, rfl, .inl ⟨_, rfl, _, _, rfl, rfl, (by show (0 : Int) < 2147483647; decide), ?_⟩⟩
      obtain ⟨M, eM⟩ : ∃ M, M = (y * 40692 + 78) % 2147483647 := ⟨_, rfl⟩
      have M0 : 0 ≤ M := by rw [eM]; exact Int.emod_nonneg _ (by decide)
      have M1 : M < 2147483647 := by rw [eM]; exact Int.emod_lt_of_pos _ (by decide)
      dsimp only
      rw [← eM]
      refine ⟨_, rfl, _, rfl, _, _, rfl, rfl, .inl ⟨by omega, by omega⟩, _, rfl, _, _, rfl, DGet.k (k := Sum.inr "draws") hd, _, _, rfl, rfl, .inl ⟨by decide, by decide⟩, _, _, rfl, rfl, _, _, rfl, rfl, .inl ⟨_, rfl, _, _, rfl, rfl, (by show (0 : Int) < 2147483587; decide), ?_⟩⟩
      refine ⟨_, rfl, _, _, rfl, rfl, .inr ⟨by decide, by decide⟩, _, _, rfl, rfl, (by show (0 : Int) < 2147483563; decide), _, _, rfl, rfl, ⟨by decide, by decide⟩, _, rfl, _, _, rfl, rfl, hb0, .inl ⟨_, rfl, ?_⟩⟩
      exact k _ (Int.emod_nonneg _ (by omega)) (Int.emod_lt_of_pos _ hb0)
    obtain ⟨tE, hE, useE⟩ := tail
    refine ⟨_, pss_cons (ps_dput hu (pv 0) pe_str (pe_op op_add (pe_dget hu (pv 0) pe_str (fun _ _ => rfl)) pe_int) rfl)
      (pss_cons (ps_set (i := 2) scW.nd rfl (.inl rfl) (pe_op op_add (pe_dget hu (pv 0) pe_str (fun _ _ => rfl)) (pe_op op_mul pe_int (pe_dget hu (pv 0) pe_str (fun _ _ => rfl)))))
      (pss_cons (ps_if (pt_cmpR (op_neE hr.units) (pe_dget hu (pv 0) pe_str (fun _ _ => rfl)) (pe_lst pa_nil) (nomark _))
        (pss_cons (ps_set (i := 3) scW.nd rfl (.inl rfl) (pe_bm0 PySem.F.plainAttrs_list PySem.F.slot_list_pop PySem.F.type_list_pop mt_pop (pe_dget hu (pv 0) pe_str (fun _ _ => rfl))))
        (pss_cons (ps_if (pt_cmpR op_ge (pv 3) (pe_op op_pow pe_int pe_int) (nomark _))
            (pss_cons (ps_expr (pe_bm PySem.F.plainAttrs_list PySem.F.slot_list_append PySem.F.type_list_append mt_append (pe_dget hu (pv 0) pe_str (fun _ _ => rfl)) (pa_cons (pe_op op_fdiv (pv 3) (pv 1)) pa_nil)))
            (pss_one (ps_ret (pe_callTy call_int1 (by rfl) mi (by decide +kernel) (pa_cons (pe_op op_mod (pv 3) (pv 1)) pa_nil))))) pss_nil)
        (pss_one (ps_set (i := 2) scW.nd rfl (.inl rfl) (pe_op op_add (pv 2) (pe_op op_mod (pe_callTy call_int1 (by rfl) mi (by decide +kernel) (pa_cons (pv 3) pa_nil)) pe_int)))))) pss_nil) hE)), ?_⟩
    obtain ⟨⟨m, l, hd, hm0, hm1, hl0, hl1⟩, ⟨gs, hg, hg63⟩⟩ := id D
    have ndg : d ≠ g := D.ne
    refine ⟨_, rfl, _, _, rfl, DGet.k (k := Sum.inr "draws") hd, _, _, rfl, rfl, _, rfl, d, _, rfl, DPut.k (k := Sum.inr "draws") hd (by show 3 < sizeLine; decide), ?_⟩
    rw [put_draws]
    have hd1 : upd H d (.dK (deckK g m (l + 1))) d = some (.dK (deckK g m (l + 1))) := upd_same
    have hg1 : upd H d (.dK (deckK g m (l + 1))) g = some (.lst (gs.map V.int)) := by rw [upd_ne ndg.symm]; exact hg
    have b1 : But d g H (upd H d (.dK (deckK g m (l + 1)))) := fun b o e h1 _ => by rw [upd_ne h1]; exact e
    generalize upd H d (.dK (deckK g m (l + 1))) = H1 at hd1 hg1 b1 ⊢
    refine ⟨_, rfl, _, _, rfl, DGet.k (k := Sum.inr "made_of") hd1, _, rfl, _, _, rfl, DGet.k (k := Sum.inr "draws") hd1, _, _, rfl, rfl, .inl ⟨by decide, by decide⟩, _, _, rfl, rfl, ?_⟩
    refine ⟨_, rfl, _, _, rfl, DGet.k (k := Sum.inr "cells") hd1, ?_⟩
    refine ⟨Nat.zero_le _, fun p hp => ?_⟩
    have hd2 := same_up (o := .lst []) hp _ _ hd1
    have hg2 := same_up (o := .lst []) hp _ _ hg1
    have b2 : But d g H (upd H1 p (.lst [])) := fun b o e h1 h2 => same_up hp _ _ (b1 b o e h1 h2)
    refine ⟨g, p, _, rfl, rfl, SqL.of hg2, SqL.of upd_same, _, rfl, ?_⟩
    generalize upd H1 p (HO.lst []) = H2 at hd2 hg2 b2 ⊢
    have done : ∀ (H' : Hp) (hs : List Int), hs.length ≤ 63 → H' d = some (.dK (deckK g m (l + 1))) → H' g = some (.lst (hs.map V.int)) → But d g H H' → DeckAt H' d g (n + 1) := fun H' hs h1 h2 h3 h4 => ⟨⟨m, l + 1, h2, hm0, hm1, by omega, by omega⟩, hs, h3, h1⟩
    by_cases hgs : gs = []
    · subst hgs
      refine iteF ?_
      exact useE _ _ _ _ _ hd2 (by omega) (by omega) fun r r0 r1 => k r _ r0 r1 (done _ [] (by decide) hd2 hg2 b2) b2
    · have ne : (!(gs.map V.int).isEmpty) = true := by
        cases gs with
        | nil => exact absurd rfl hgs
        | cons a r => rfl
      rw [ne]
      refine iteT ?_
      obtain ⟨hs, z, rfl⟩ : ∃ hs z, gs = hs ++ [z] := ⟨_, _, (List.dropLast_concat_getLast hgs).symm⟩
      have hlen : hs.length + 1 ≤ 63 := by simpa using hg63
      have eLast : ((hs ++ [z]).map V.int)[((hs ++ [z]).map V.int).length - 1]? = some (V.int z) := by simp
      have eDrop : ((hs ++ [z]).map V.int).dropLast = hs.map V.int := by simp
      refine ⟨_, rfl, _, _, rfl, DGet.k (k := Sum.inr "cells") hd2, .inl ⟨rfl, _, SqL.of hg2⟩, g, _, _, rfl, rfl, hg2, eLast, ?_⟩
      rw [eDrop]
      have hd3 : upd H2 g (.lst (hs.map V.int)) d = some (.dK (deckK g m (l + 1))) := by rw [upd_ne ndg]; exact hd2
      have hg3 : upd H2 g (.lst (hs.map V.int)) g = some (.lst (hs.map V.int)) := upd_same
      have b3 : But d g H (upd H2 g (.lst (hs.map V.int))) := fun c o e h1 h2 => by rw [upd_ne h2]; exact b2 c o e h1 h2
      generalize upd H2 g (.lst (hs.map V.int)) = H3 at hd3 hg3 b3 ⊢
      refine ⟨_, rfl, _, _, rfl, rfl, ⟨by decide, by decide, by decide⟩, _, _, rfl, rfl, _, rfl, ?_⟩
      refine ite2 (fun _ => ?_) (fun _ => ?_)
      · refine ⟨_, rfl, _, _, rfl, DGet.k (k := Sum.inr "cells") hd3, .inl ⟨rfl, _, SqL.of hg3⟩, _, rfl, _, rfl, _, _, rfl, rfl, ⟨hb0, by omega⟩, g, _, _, rfl, rfl, hg3, ?_, ?_⟩
        · rw [List.length_map]
          exact Nat.lt_of_le_of_lt (show hs.length ≤ 63 by omega) (by decide)
        refine ⟨_, rfl, _, rfl, _, _, rfl, rfl, hb0, .inl ⟨_, rfl, ?_⟩⟩
        refine k _ _ (Int.emod_nonneg _ (by omega)) (Int.emod_lt_of_pos _ hb0) (done _ (hs ++ [z / b]) (by simpa using hlen) (by rw [upd_ne ndg]; exact hd3) (by rw [upd_same, List.map_append] <;> rfl) ?_) ?_
        · exact fun c o e h1 h2 => by rw [upd_ne h2]; exact b3 c o e h1 h2
        · exact fun c o e h1 h2 => by rw [upd_ne h2]; exact b3 c o e h1 h2
      · refine ⟨_, rfl, _, rfl, .inl ⟨_, rfl, _, _, rfl, rfl, (by show (0 : Int) < 2147483629; decide), _, _, rfl, rfl, ?_⟩⟩
        exact useE _ _ _ _ _ hd3 (by omega) (by omega) fun r r0 r1 => k r _ r0 r1 (done _ hs (by omega) hd3 hg3 b3) b3
end
end Vk
set_option Elab.async false
set_option linter.all false
set_option maxRecDepth 100000
set_option maxHeartbeats 4000000
namespace Vk
open PySem PySem.Spec PyProof.Rows L2 Vt PySem.Vx Vs1 ClX
theorem DeckAt.same {H H' : Hp} {d g : Addr} {n : Int} (D : DeckAt H d g n) (s : Same H H') : DeckAt H' d g n := by
  obtain ⟨m, l, h1, h2⟩ := D.dk
  obtain ⟨gs, h3, h4⟩ := D.gr
  exact ⟨⟨m, l, s _ _ h1, h2⟩, gs, s _ _ h3, h4⟩
/-- what stands at d is a dict, at g a list -/
theorem DeckAt.two {H : Hp} {d g : Addr} {n : Int} (D : DeckAt H d g n) : (∃ kvs, H d = some (.dK kvs)) ∧ ∃ xs, H g = some (.lst xs) := by
  obtain ⟨m, l, h1, h2⟩ := D.dk
  obtain ⟨gs, h3, h4⟩ := D.gr
  exact ⟨⟨_, h1⟩, _, h3⟩
/-- all but dicts and lists stays -/
def Off (H H' : Hp) : Prop := ∀ b o, H b = some o → (∀ kvs, o ≠ .dK kvs) → (∀ xs, o ≠ .lst xs) → H' b = some o
theorem off_same {H H' : Hp} (S : Same H H') : Off H H' := fun b o h _ _ => S b o h
theorem Off.trans {H H' H2 : Hp} (S : Off H H') (T : Off H' H2) : Off H H2 := fun b o h n1 n2 => T b o (S b o h n1 n2) n1 n2
theorem But.off {H H' : Hp} {d g : Addr} {n : Int} (B : But d g H H') (D : DeckAt H d g n) : Off H H' := fun b o h n1 n2 => by
  obtain ⟨⟨kvs, h1⟩, xs, h2⟩ := D.two
  exact B b o h (ne_of h h1 (n1 kvs)) (ne_of h h2 (n2 xs))
theorem off_lst {H : Hp} {L : Addr} {xs : List V} {o' : HO} (h : H L = some (.lst xs)) : Off H (upd H L o') := fun b o hb _ n2 => by
  rw [upd_ne (ne_of hb h (n2 xs))]
  exact hb
theorem Off.tup {K : PySem.W.Frag} {H H' : Hp} {b : Addr} {xs : List V} (S : Off H H') (h : SqT K H b xs) : SqT K H' b xs := by
  rcases h with (h | ⟨o, h⟩) | h
  · exact .inl (.inl (S _ _ h (fun _ z => by cases z) (fun _ z => by cases z)))
  · exact .inl (.inr ⟨o, S _ _ h (fun _ z => by cases z) (fun _ z => by cases z)⟩)
  · exact .inr h
theorem deck_upd {H : Hp} {d g D : Addr} {n : Int} {o : HO} (h : DeckAt H d g n) (n1 : d ≠ D) (n2 : g ≠ D) : DeckAt (upd H D o) d g n := by
  obtain ⟨mm, l, h1, h2⟩ := h.dk
  obtain ⟨gs, h3, h4⟩ := h.gr
  exact ⟨⟨mm, l, by rw [upd_ne n1]; exact h1, h2⟩, gs, by rw [upd_ne n2]; exact h3, h4⟩
theorem But.seq {d g a : Addr} {n : Int} {K : PySem.W.Frag} {H H' : Hp} {xs : List V} (e : But d g H H') (D : DeckAt H d g n) (ng : a ≠ g) (h : SqL K H a xs) : SqL K H' a xs := by
  obtain ⟨m, l, hd, _⟩ := D.dk
  rcases h with (h | ⟨o, h⟩) | h
  · exact .inl (.inl (e _ _ h (ne_of h hd (by intro z; cases z)) ng))
  · exact .inl (.inr ⟨o, e _ _ h (ne_of h hd (by intro z; cases z)) ng⟩)
  · exact .inr h
theorem But.trans {d g : Addr} {H H' H2 : Hp} (e : But d g H H') (f : But d g H' H2) : But d g H H2 := fun b o h n1 n2 => f b o (e b o h n1 n2) n1 n2
theorem but_same {d g : Addr} {H H' : Hp} (S : Same H H') : But d g H H' := fun b o h _ _ => S b o h
theorem sg_dec (a b : Nat) : decide (V.str (sg a) = V.str (sg b)) = decide (a = b) := by
  rw [Bool.eq_iff_iff, decide_eq_true_eq, decide_eq_true_eq]
  refine ⟨fun z => ?_, fun z => by rw [z]⟩
  injection z with z
  exact (List.cons.inj (congrArg (fun y : Str => y.cps.toList) z)).1
theorem int_dec (a b : Nat) : decide (V.int (a : Int) = V.int (b : Int)) = decide (a = b) := by
  rw [Bool.eq_iff_iff, decide_eq_true_eq, decide_eq_true_eq]
  refine ⟨fun z => ?_, fun z => by rw [z]⟩
  injection z with z
  omega
theorem DeckAt.up {H : Hp} {d g : Addr} {m n : Int} (D : DeckAt H d g m) (h : m ≤ n) : DeckAt H d g n := by
  obtain ⟨⟨a, l, h1, h2, h3, h4, h5⟩, gr⟩ := D
  exact ⟨⟨a, l, h1, h2, h3, h4, by omega⟩, gr⟩
theorem DeckAt.new {H : Hp} {d g p : Addr} {m : Int} (D : DeckAt H d g m) (np : H p = none) : p ≠ d ∧ p ≠ g := by
  obtain ⟨⟨kvs, h1⟩, xs, h2⟩ := D.two
  exact ⟨(ne_of_none h1 np).symm, (ne_of_none h2 np).symm⟩
theorem DeckAt.put {H : Hp} {d g p : Addr} {m : Int} {o : HO} (D : DeckAt H d g m) (np : H p = none) : DeckAt (upd H p o) d g m := D.same (same_up np)
theorem But.put {d g p : Addr} {H H' : Hp} {o : HO} (B : But d g H H') (np : H' p = none) : But d g H (upd H' p o) := B.trans (but_same (same_up np))
section
variable {P : Program} {w : World} {K : PySem.W.Frag} {mg : Str → Option Value} {base : Heap}
/-- a sign of a text -/
def spPickS : Sp := fun vs H Q _ => ∃ (d g : Addr) (n : Int) (z : Str), vs = [.ref d, .str z] ∧ DeckAt H d g n ∧ n < 1000000000 ∧ 0 < z.cps.size ∧ z.cps.size < 1000000 ∧
  ∀ (i c : Nat) (H' : Hp), z.cps[i]? = some c → DeckAt H' d g (n + 1) → But d g H H' → Q (.str (sg c)) H'
theorem scPk : FnScope ["_law_deck_here", "_law_lot"] ["_law_deck_here", "_law_lot"] (defScope sPick) := ⟨rfl, rfl, rfl, by decide +kernel, rfl, by decide +kernel, by decide +kernel⟩
theorem ok_pickS {f fD : Addr} {fd fdD : FuncData} (F : Fun K "_law_pick" "_law_pick" sPick f fd) (FD : Fun K "_law_draw" "_law_draw" sDraw fD fdD) (gD : mg "_law_draw" = some (.ref fD)) (bD : Binds K fdD ["_law_deck_here", "_law_many"] []) (GD0 : FnOk P w K mg base CX0 1 fD fdD ["_law_deck_here", "_law_many"] spDraw) (ml : mg "len" = none) :
    FnOk P w K mg base CX0 2 f fd ["_law_deck_here", "_law_lot"] spPickS := by
  have GD := GD0
  refine F.ok scPk (fun vs H Q E h => ?_) (fun cdv A outer s H vs Q E hr h => ?_)
  · obtain ⟨d, g, n, z, rfl, _⟩ := h
    rfl
  · obtain ⟨d, g, n, z, rfl, D, hn, h0, h1, k⟩ := h
    have zl : z.length = z.cps.size := rfl
    refine ⟨_, pss_one (ps_ret (pe_ix ix_str (pv 1) (pe_call GD hr rfl gD FD.kp bD .nil pass0 (pa_cons (pv 0) (pa_cons (pe_callB call_len_str (by rfl) ml PySem.boot_len (pa_cons (pv 1) pa_nil)) pa_nil))) (fun _ _ => rfl))), ?_⟩
    refine ⟨_, rfl, _, rfl, _, rfl, z, rfl, by rw [zl, sizeLine_eq]; omega, d, g, _, n, rfl, D, by rw [zl]; omega, by rw [zl]; omega, hn, fun r H' r0 r1 D' bt => ?_⟩
    obtain ⟨i, rfl⟩ : ∃ i : Nat, r = (i : Int) := ⟨r.toNat, by omega⟩
    have hi : i < z.cps.size := by rw [← zl]; omega
    have hv : z.cps[i]? = some z.cps[i] := by simp [hi]
    exact ⟨z, _, z.cps[i], rfl, rfl, by rw [zl, sizeLine_eq]; omega, atI_nat (by rw [Array.getElem?_toList]; exact hv), k i _ H' hv D' bt⟩
/-- an item of a list -/
def spPickL (K : PySem.W.Frag) : Sp := fun vs H Q _ => ∃ (d g a : Addr) (n : Int) (xs : List V), vs = [.ref d, .ref a] ∧ DeckAt H d g n ∧ n < 1000000000 ∧ SqL K H a xs ∧ 0 < xs.length ∧ xs.length < 1000000 ∧ a ≠ g ∧
  ∀ (i : Nat) (v : V) (H' : Hp), xs[i]? = some v → DeckAt H' d g (n + 1) → But d g H H' → Q v H'
theorem ok_pickL {f fD : Addr} {fd fdD : FuncData} (F : Fun K "_law_pick" "_law_pick" sPick f fd) (FD : Fun K "_law_draw" "_law_draw" sDraw fD fdD) (gD : mg "_law_draw" = some (.ref fD)) (bD : Binds K fdD ["_law_deck_here", "_law_many"] []) (GD : FnOk P w K mg base CX0 1 fD fdD ["_law_deck_here", "_law_many"] spDraw) (ml : mg "len" = none) :
    FnOk P w K mg base CX0 2 f fd ["_law_deck_here", "_law_lot"] (spPickL K) := by
  refine F.ok scPk (fun vs H Q E h => ?_) (fun cdv A outer s H vs Q E hr h => ?_)
  · obtain ⟨d, g, a, n, xs, rfl, _⟩ := h
    rfl
  · obtain ⟨d, g, a, n, xs, rfl, D, hn, hS, h0, h1, ng, k⟩ := h
    refine ⟨_, pss_one (ps_ret (pe_ix ix_list (pv 1) (pe_call GD hr rfl gD FD.kp bD .nil pass0 (pa_cons (pv 0) (pa_cons (pe_callB call_len_seq (by rfl) ml PySem.boot_len (pa_cons (pv 1) pa_nil)) pa_nil))) (fun _ _ => rfl))), ?_⟩
    refine ⟨_, rfl, _, rfl, _, rfl, a, _, rfl, .inl hS, d, g, _, n, rfl, D, by omega, by omega, hn, fun r H' r0 r1 D' bt => ?_⟩
    obtain ⟨i, rfl⟩ : ∃ i : Nat, r = (i : Int) := ⟨r.toNat, by omega⟩
    have hi : i < xs.length := by omega
    have hv : xs[i]? = some xs[i] := List.getElem?_eq_getElem hi
    exact ⟨a, xs, _, xs[i], rfl, rfl, bt.seq D ng hS, atI_nat hv, k i _ H' hv D' bt⟩
end
/-! ## the heap but for the deck and one more place -/
def cutH (d g b : Addr) (H : Hp) : Hp := fun a => if a = d ∨ a = g ∨ a = b then none else H a
def Has (H : Hp) (b : Addr) : Prop := ∃ o, H b = some o
theorem Has.same {H H' : Hp} {b : Addr} (h : Has H b) (S : Same H H') : Has H' b := let ⟨o, e⟩ := h; ⟨o, S _ _ e⟩
theorem Has.but {H H' : Hp} {d g b : Addr} (h : Has H b) (B : But d g H H') (n1 : b ≠ d) (n2 : b ≠ g) : Has H' b := let ⟨o, e⟩ := h; ⟨o, B _ _ e n1 n2⟩
theorem cut_same {d g b : Addr} {H : Hp} : Same (cutH d g b H) H := fun c o z => by
  unfold cutH at z
  split at z
  · cases z
  · exact z
theorem cut_but {d g b : Addr} {H H' : Hp} (B : But d g H H') : Same (cutH d g b H) (cutH d g b H') := fun c o z => by
  unfold cutH at z ⊢
  split at z
  · cases z
  · rename_i n
    rw [if_neg n]
    exact B c o z (fun e => n (.inl e)) (fun e => n (.inr (.inl e)))
theorem cut_ex {d g b : Addr} {H H' : Hp} (S : Same H H') : Same (cutH d g b H) (cutH d g b H') := fun c o z => by
  unfold cutH at z ⊢
  split at z
  · cases z
  · rename_i n
    rw [if_neg n]
    exact S c o z
theorem cut_at {d g b p : Addr} {H : Hp} {o : HO} (h : H p = some o) (n1 : p ≠ d) (n2 : p ≠ g) (n3 : p ≠ b) : cutH d g b H p = some o := by
  unfold cutH
  rw [if_neg (fun z => z.elim n1 fun z => z.elim n2 n3)]
  exact h
theorem cut_seqT {K : PySem.W.Frag} {d g b a : Addr} {H : Hp} {m : Int} {xs zs : List V} (D : DeckAt H d g m) (hb : H b = some (.lst zs)) (h : SqT K H a xs) : SqT K (cutH d g b H) a xs := by
  obtain ⟨⟨kvs, h1⟩, ys, h2⟩ := D.two
  have nd : ∀ o, H a = some o → (∀ z, o ≠ .dK z) → (∀ z, o ≠ .lst z) → cutH d g b H a = some o := fun o e x y => cut_at e (fun z => by rw [z, h1] at e; exact x _ (Option.some.inj e).symm) (fun z => by rw [z, h2] at e; exact y _ (Option.some.inj e).symm) (fun z => by rw [z, hb] at e; exact y _ (Option.some.inj e).symm)
  rcases h with (h | ⟨u, h⟩) | h
  · exact .inl (.inl (nd _ h (fun z e => by cases e) (fun z e => by cases e)))
  · exact .inl (.inr ⟨u, nd _ h (fun z e => by cases e) (fun z e => by cases e)⟩)
  · exact .inr h
theorem cut_new {d g b p : Addr} {H : Hp} {o : HO} {m : Int} (D : DeckAt H d g m) (hb : Has H b) (np : H p = none) : cutH d g b (upd H p o) p = some o := cut_at upd_same (D.new np).1 (D.new np).2 (fun z => by
  obtain ⟨u, e⟩ := hb
  rw [← z, np] at e
  cases e)
/-- a change at that place -/
theorem cut_put {d g b : Addr} {H : Hp} {o : HO} : cutH d g b (upd H b o) = cutH d g b H := by
  funext a
  unfold cutH
  split
  · rfl
  · rename_i n
    exact upd_ne (fun z => n (.inr (.inr z)))
/-! ## how great data are -/
mutual
def plB (B : Nat) : PyData → Bool
  | .str z => z.cps.toList.all fun c => decide (c < 128)
  | .int i => decide (i.natAbs < B)
  | .list xs => plBs B xs
  | .tuple xs => plBs B xs
  | .dict kvs => kvs.isEmpty
  | .none => true
  | .bool _ => true
def plBs (B : Nat) : List PyData → Bool
  | [] => true
  | x :: xs => plB B x && plBs B xs
end
theorem plBs_iff {B : Nat} : ∀ {xs : List PyData}, plBs B xs = true ↔ ∀ d ∈ xs, plB B d = true
  | [] => by simp [plBs]
  | x :: xs => by
    rw [plBs, Bool.and_eq_true, plBs_iff]
    simp
mutual
theorem plB_mono {B C : Nat} (h : B ≤ C) : ∀ {d : PyData}, plB B d = true → plB C d = true
  | .str _, z => z
  | .int _, z => decide_eq_true (Nat.lt_of_lt_of_le (of_decide_eq_true z) h)
  | .list xs, z => plBs_mono h (xs := xs) z
  | .tuple xs, z => plBs_mono h (xs := xs) z
  | .dict _, z => z
  | .none, _ => rfl
  | .bool _, _ => rfl
theorem plBs_mono {B C : Nat} (h : B ≤ C) : ∀ {xs : List PyData}, plBs B xs = true → plBs C xs = true
  | [], _ => rfl
  | x :: xs, z => by
    rw [plBs, Bool.and_eq_true] at z ⊢
    exact ⟨plB_mono h z.1, plBs_mono h z.2⟩
end
mutual
theorem plB_plain : ∀ {d : PyData}, plB (10 ^ 41) d = true → plainD d = true
  | .str _, z => z
  | .int _, z => z
  | .list xs, z => plBs_plain (xs := xs) z
  | .tuple xs, z => plBs_plain (xs := xs) z
  | .dict _, z => z
  | .none, _ => rfl
  | .bool _, _ => rfl
theorem plBs_plain : ∀ {xs : List PyData}, plBs (10 ^ 41) xs = true → plainAll xs = true
  | [], _ => rfl
  | x :: xs, z => by
    rw [plBs, Bool.and_eq_true] at z
    rw [plainAll, Bool.and_eq_true]
    exact ⟨plB_plain z.1, plBs_plain z.2⟩
end
theorem depth_all : ∀ {xs : List PyData} {n : Nat}, PyData.depthAll xs ≤ n ↔ ∀ d ∈ xs, d.depth ≤ n
  | [], n => by simp [PyData.depthAll]
  | x :: xs, n => by
    rw [PyData.depthAll, Nat.max_le, depth_all]
    simp
end Vk
set_option Elab.async false
set_option linter.all false
set_option maxRecDepth 100000
set_option maxHeartbeats 4000000
namespace Vk
open PySem PySem.Spec PyProof.Rows L2 Vt PySem.Vx Vs1 ClX
abbrev sTree : Stmt := top8 37
/-! ## expressions on paper -/
inductive Kd where
  | row | cho | loop | some | maybe
def Kd.s : Kd → Str
  | .row => "row"
  | .cho => "choice"
  | .loop => "loop"
  | .some => "some"
  | .maybe => "maybe"
inductive Xp where
  | one : Xp
  | lt (c : Nat) : Xp
  | nd (k : Kd) (ps : List Xp) : Xp
mutual
/-- the law's tuples -/
def tD : Xp → PyData
  | .one => .tuple [.str "one"]
  | .lt c => .tuple [.str "sign", .str (sg c)]
  | .nd k ps => .tuple (.str k.s :: tDs ps)
def tDs : List Xp → List PyData
  | [] => []
  | x :: r => tD x :: tDs r
end
mutual
/-- how deep -/
def hX : Xp → Nat
  | .one => 0
  | .lt _ => 0
  | .nd _ ps => hXs ps + 1
def hXs : List Xp → Nat
  | [] => 0
  | x :: r => max (hX x) (hXs r)
end
/-- how many parts -/
def okN : Kd → Nat → Bool
  | .row, n => decide (2 ≤ n) && decide (n ≤ 3)
  | .cho, n => decide (2 ≤ n) && decide (n ≤ 3)
  | .loop, n => decide (n = 1)
  | .some, n => decide (n = 1)
  | .maybe, n => decide (n = 1)
mutual
def okX : Xp → Bool
  | .one => true
  | .lt c => decide (97 ≤ c) && decide (c ≤ 122)
  | .nd k ps => okN k ps.length && okXs ps
def okXs : List Xp → Bool
  | [] => true
  | x :: r => okX x && okXs r
end
theorem tDs_len : ∀ ps : List Xp, (tDs ps).length = ps.length
  | [] => rfl
  | x :: r => by rw [tDs, List.length_cons, List.length_cons, tDs_len r]
mutual
theorem tr_off {K : PySem.W.Frag} {H H' : Hp} (S : Off H H') : ∀ (x : Xp) (v : V), Dr K H v (tD x) → Dr K H' v (tD x)
  | .one, v, h => by
    rw [tD] at h ⊢
    obtain ⟨a, xs, rfl, ht, ha⟩ := dr_tup h
    cases ha with
    | cons h1 ha =>
    cases ha
    cases h1
    exact .tup (S.tup ht) (.cons (.str _) .nil)
  | .lt c, v, h => by
    rw [tD] at h ⊢
    obtain ⟨a, xs, rfl, ht, ha⟩ := dr_tup h
    cases ha with
    | cons h1 ha =>
    cases ha with
    | cons h2 ha =>
    cases ha
    cases h1
    cases h2
    exact .tup (S.tup ht) (.cons (.str _) (.cons (.str _) .nil))
  | .nd k ps, v, h => by
    rw [tD] at h ⊢
    obtain ⟨a, xs, rfl, ht, ha⟩ := dr_tup h
    cases ha with
    | cons h1 ha =>
    cases h1
    exact .tup (S.tup ht) (.cons (.str _) (trs_off S ps _ ha))
theorem trs_off {K : PySem.W.Frag} {H H' : Hp} (S : Off H H') : ∀ (ps : List Xp) (vs : List V), DrAll K H vs (tDs ps) → DrAll K H' vs (tDs ps)
  | [], vs, h => by
    rw [tDs] at h ⊢
    cases h
    exact .nil
  | x :: r, vs, h => by
    rw [tDs] at h ⊢
    cases h with
    | cons h1 h2 => exact .cons (tr_off S x _ h1) (trs_off S r _ h2)
end
/-! ## how many brackets -/
def rbK : Kd → Nat
  | .row => 1
  | .cho => 1
  | _ => 0
theorem rb_le : ∀ k : Kd, rbK k ≤ 1 := fun k => by cases k <;> decide
mutual
def bX : Xp → Nat
  | .one => 0
  | .lt _ => 0
  | .nd k ps => bXs ps + rbK k
def bXs : List Xp → Nat
  | [] => 0
  | x :: r => bX x + bXs r
end
/-! ## the draw of one -/
def cost : Nat → Int
  | 0 => 3
  | h + 1 => 4 + 3 * cost h
theorem cost_pos : ∀ h, 3 ≤ cost h
  | 0 => Int.le_refl _
  | h + 1 => by
    have := cost_pos h
    rw [cost]
    omega
def OkZ (z : Str) : Prop := 0 < z.cps.size ∧ z.cps.size < 1000000 ∧ ∀ (i c : Nat), z.cps[i]? = some c → 97 ≤ c ∧ c ≤ 122
section
variable {P : Program} {w : World} {K : PySem.W.Frag} {mg : Str → Option Value} {base : Heap}
def spTree (K : PySem.W.Frag) (j : Nat) : Sp := fun vs H Q _ => ∃ (d g : Addr) (m : Int) (many high : Nat) (z : Str), vs = [.ref d, .int (many : Int), .int (high : Int), .str z] ∧ DeckAt H d g m ∧ 1 ≤ many ∧ many ≤ 1000 ∧ high + 1 ≤ j ∧ OkZ z ∧ m + cost high < 900000000 ∧
  ∀ (v : V) (x : Xp) (H' : Hp), okX x = true → hX x ≤ high → bX x + 1 ≤ many → Dr K H' v (tD x) → DeckAt H' d g (m + cost high) → But d g H H' → Q v H'
theorem scTr : FnScope ["_law_deck_here", "_law_many", "_law_high", "_law_signs", "_law_way", "_law_cut", "_law_parts"] ["_law_deck_here", "_law_many", "_law_high", "_law_signs"] (defScope sTree) := ⟨rfl, rfl, rfl, by decide +kernel, rfl, by decide +kernel, by decide +kernel⟩
theorem tree_none {f : Addr} {fd : FuncData} {k : Nat} : FnOk P w K mg base CX0 k f fd ["_law_deck_here", "_law_many", "_law_high", "_law_signs"] (spTree K 0) :=
  ⟨fun _ _ _ _ h => by obtain ⟨d, g, m, many, high, z, rfl, _⟩ := h; rfl, fun _ _ _ _ _ _ _ _ _ _ _ _ _ h => by obtain ⟨d, g, m, many, high, z, _, _, _, _, h, _⟩ := h; omega⟩
theorem tree_step {f fDr fPi : Addr} {fd fdDr fdPi : FuncData} (F : Fun K "_law_tree" "_law_tree" sTree f fd) (T : Txt8 K mg)
    (GDr : FnOk P w K mg base CX0 1 fDr fdDr ["_law_deck_here", "_law_many"] spDraw) (gDr : mg "_law_draw" = some (.ref fDr)) (kDr : PySem.W.keepIn K (.ref fDr) = true) (bDr : Binds K fdDr ["_law_deck_here", "_law_many"] [])
    (GPs : FnOk P w K mg base CX0 2 fPi fdPi ["_law_deck_here", "_law_lot"] spPickS) (gPi : mg "_law_pick" = some (.ref fPi)) (kPi : PySem.W.keepIn K (.ref fPi) = true) (bPi : Binds K fdPi ["_law_deck_here", "_law_lot"] [])
    (gTr : mg "_law_tree" = some (.ref f)) (kTr : PySem.W.keepIn K (.ref f) = true) (bTr : Binds K fd ["_law_deck_here", "_law_many", "_law_high", "_law_signs"] []) (j : Nat)
    (GTr : FnOk P w K mg base CX0 (j + 3) f fd ["_law_deck_here", "_law_many", "_law_high", "_law_signs"] (spTree K j)) : FnOk P w K mg base CX0 (j + 1 + 3) f fd ["_law_deck_here", "_law_many", "_law_high", "_law_signs"] (spTree K (j + 1)) := by
  refine F.ok scTr (fun vs H Q E h => ?_) (fun cdv A outer s H vs Q E hr h => ?_)
  · obtain ⟨d, g, m, many, high, z, rfl, _⟩ := h
    rfl
  · obtain ⟨d, g, m, many, high, z, rfl, D, m1, m2, hj, hz, hc, k⟩ := h
    have hr1 : Room 1 _ := hr.mono (by omega)
    have hr2 : Room 2 _ := hr.mono (by omega)
    have cp := cost_pos high
    have tail : ∃ t, PSs (cxOf CX0 P w K mg base ["_law_deck_here", "_law_many", "_law_high", "_law_signs", "_law_way", "_law_cut", "_law_parts"] "_law_tree" (defScope sTree) f cdv A outer s H E).nox ((defBody sTree).drop 6) t ∧ ∀ (x0 x1 x2 x3 x5 : Option V) (way : Int) (q : Addr) (xs : List V) (ps : List Xp) (H' : Hp), SqL K H' q xs → DrAll K H' xs (tDs ps) → okXs ps = true → 2 ≤ ps.length → ps.length ≤ 3 → hXs ps + 1 ≤ high → bXs ps + 2 ≤ many → DeckAt H' d g (m + cost high) → But d g H H' →
        t { nx := fun _ H' => Q .non H', rt := Q } [x0, x1, x2, x3, some (.int way), x5, some (.ref q)] H' := by
      refine ⟨_, (pss_one (ps_ret (pe_op op_catA (pe_tup (pa_cons (pe_ifExp (pt_cmpR op_lt (pv 4) pe_int (nomark _)) pe_str pe_str) pa_nil)) (pe_callTy call_tuple_of (by rfl) T.tup (by decide +kernel) (pa_cons (pv 6) pa_nil))))), fun x0 x1 x2 x3 x5 way q xs ps H' hq hd ok l2 l3 hh hbs D B => ?_⟩
      have lx : xs.length = ps.length := by rw [hd.length, tDs_len]
      have go : ∀ (kd : Kd) (p1 : Addr) (H1 : Hp), (kd = .row ∨ kd = .cho) → Same H' H1 → H1 p1 = some (.tup [.str kd.s]) → (∀ p2, H1 p2 = none → rCatA K (.ref p1) (.ref p2) (upd H1 p2 (.tup xs)) Q) := by
        intro kd p1 H1 hk S h1 p2 np2
        have s2 := same_up (o := .tup xs) np2
        refine ⟨p1, p2, _, _, rfl, rfl, SqT.of (s2 _ _ h1), SqT.of upd_same, by rw [lx]; show 1 + _ ≤ sizeLine; rw [sizeLine_eq]; omega, fun e => (by cases e), fun _ e => (by rw [e] at lx; simp at lx; omega), fun _ _ p np => ?_⟩
        have s3 := same_up (o := .tup ([.str kd.s] ++ xs)) np
        refine k _ (.nd kd ps) _ ?_ hh (by rw [bX]; have := rb_le kd; omega) (.tup (SqT.of upd_same) (.cons (.str _) (hd.keep ((S.trans s2).trans s3)))) (((D.same S).put np2).put np) (((B.trans (but_same S)).put np2).put np)
        rw [okX, ok]
        rcases hk with rfl | rfl <;> · rw [okN, decide_eq_true l2, decide_eq_true l3] <;> rfl
      refine ⟨_, rfl, _, _, rfl, rfl, _, rfl, ?_⟩
      refine ite2 (fun _ => ?_) (fun _ => ?_)
      · refine ⟨by show 1 ≤ sizeLine; decide, fun p1 np1 => ⟨_, rfl, q, _, rfl, .inl ⟨same_seqL (same_up np1) hq, fun p2 np2 => ?_⟩⟩⟩
        exact go .row p1 _ (.inl rfl) (same_up np1) upd_same p2 np2
      · refine ⟨by show 1 ≤ sizeLine; decide, fun p1 np1 => ⟨_, rfl, q, _, rfl, .inl ⟨same_seqL (same_up np1) hq, fun p2 np2 => ?_⟩⟩⟩
        exact go .cho p1 _ (.inr rfl) (same_up np1) upd_same p2 np2
    obtain ⟨tE, hE, useE⟩ := tail
    refine ⟨_, (pss_cons (ps_if (PW.pt (pw_or (pt_cmpR op_eq (pv 1) pe_int (nomark _)) (pw_or1 (pt_cmpR op_eq (pv 2) pe_int (nomark _))))) (pss_one (ps_ret (pe_ifExp (pt_cmpR op_eq (pe_call GDr hr1 rfl gDr kDr bDr .nil pass0 (pa_cons (pv 0) (pa_cons pe_int pa_nil))) pe_int (nomark _)) (pe_tup (pa_cons pe_str pa_nil)) (pe_tup (pa_cons pe_str (pa_cons (pe_call GPs hr2 rfl gPi kPi bPi .nil pass0 (pa_cons (pv 0) (pa_cons (pv 3) pa_nil))) pa_nil)))))) pss_nil)
        (pss_cons (ps_set (i := 4) scTr.nd rfl (.inl rfl) (pe_call GDr hr1 rfl gDr kDr bDr .nil pass0 (pa_cons (pv 0) (pa_cons pe_int pa_nil))))
        (pss_cons (ps_if (pt_cmpR op_lt (pv 4) pe_int (nomark _)) (pss_one (ps_ret (pe_tup (pa_cons (pe_ix ix_list (pe_lst (pa_cons pe_str (pa_cons pe_str (pa_cons pe_str (pa_cons pe_str pa_nil))))) (pv 4) (fun _ _ => rfl)) (pa_cons (pe_call GTr hr rfl gTr kTr bTr .nil pass0 (pa_cons (pv 0) (pa_cons (pv 1) (pa_cons (pe_op op_sub (pv 2) pe_int) (pa_cons (pv 3) pa_nil))))) pa_nil))))) pss_nil)
        (pss_cons (ps_set (i := 5) scTr.nd rfl (.inl rfl) (pe_op op_add pe_int (pe_call GDr hr1 rfl gDr kDr bDr .nil pass0 (pa_cons (pv 0) (pa_cons (pe_op op_sub (pv 1) pe_int) pa_nil)))))
        (pss_cons (ps_set (i := 6) scTr.nd rfl (.inl rfl) (pe_lst (pa_cons (pe_call GTr hr rfl gTr kTr bTr .nil pass0 (pa_cons (pv 0) (pa_cons (pv 5) (pa_cons (pe_op op_sub (pv 2) pe_int) (pa_cons (pv 3) pa_nil))))) (pa_cons (pe_call GTr hr rfl gTr kTr bTr .nil pass0 (pa_cons (pv 0) (pa_cons (pe_op op_sub (pv 1) (pv 5)) (pa_cons (pe_op op_sub (pv 2) pe_int) (pa_cons (pv 3) pa_nil))))) pa_nil))))
        (pss_cons (ps_if (PW.pt (pw_and (pt_cmpR op_gt (pv 1) pe_int (nomark _)) (pw_and1 (pt_cmpR op_eq (pe_call GDr hr1 rfl gDr kDr bDr .nil pass0 (pa_cons (pv 0) (pa_cons pe_int pa_nil))) pe_int (nomark _))))) (pss_one (ps_expr (pe_bm PySem.F.plainAttrs_list PySem.F.slot_list_append PySem.F.type_list_append mt_append (pv 6) (pa_cons (pe_call GTr hr rfl gTr kTr bTr .nil pass0 (pa_cons (pv 0) (pa_cons pe_int (pa_cons (pe_op op_sub (pv 2) pe_int) (pa_cons (pv 3) pa_nil))))) pa_nil)))) pss_nil)
        hE)))))), ?_⟩
    refine ⟨_, rfl, rfl, _, rfl, ?_⟩
    by_cases h1 : many = 1
    · rw [show decide (V.int (many : Int) = V.int 1) = true from decide_eq_true (by rw [h1] <;> rfl)]
      refine iteT ?_
      refine ⟨_, rfl, d, g, 7, m, rfl, D, by decide, by decide, by omega, fun r H1 r0 r7 D1 B1 => ?_⟩
      refine ⟨rfl, _, rfl, ?_⟩
      by_cases e0 : r = 0
      · rw [show decide (V.int r = V.int 0) = true from decide_eq_true (by rw [e0])]
        refine iteT ?_
        refine ⟨by show 1 ≤ sizeLine; decide, fun p np => ?_⟩
        exact k _ .one _ rfl (Nat.zero_le _) (by show 0 + 1 ≤ many; omega) (.tup (SqT.of upd_same) (.cons (.str _) .nil)) ((D1.put np).up (by omega)) (B1.put np)
      · rw [show decide (V.int r = V.int 0) = false from decide_eq_false (fun e => e0 (V.int.inj e))]
        refine iteF ?_
        refine ⟨_, rfl, _, rfl, d, g, m + 1, z, rfl, D1, by omega, hz.1, hz.2.1, fun i c H2 hi D2 B2 => ?_⟩
        refine ⟨by show 2 ≤ sizeLine; decide, fun p np => ?_⟩
        obtain ⟨c1, c2⟩ := hz.2.2 i c hi
        exact k _ (.lt c) _ (by rw [okX, decide_eq_true c1, decide_eq_true c2] <;> rfl) (Nat.zero_le _) (by show 0 + 1 ≤ many; omega) (.tup (SqT.of upd_same) (.cons (.str _) (.cons (.str _) .nil))) ((D2.put np).up (by omega)) ((B1.trans B2).put np)
    rw [show decide (V.int (many : Int) = V.int 1) = false from decide_eq_false (fun e => h1 (by have := V.int.inj e; omega))]
    refine iteF ?_
    refine ⟨_, rfl, rfl, _, rfl, ?_⟩
    by_cases h2 : high = 0
    · rw [show decide (V.int (high : Int) = V.int 0) = true from decide_eq_true (by rw [h2] <;> rfl)]
      refine iteT ?_
      refine ⟨_, rfl, d, g, 7, m, rfl, D, by decide, by decide, by omega, fun r H1 r0 r7 D1 B1 => ?_⟩
      refine ⟨rfl, _, rfl, ?_⟩
      by_cases e0 : r = 0
      · rw [show decide (V.int r = V.int 0) = true from decide_eq_true (by rw [e0])]
        refine iteT ?_
        refine ⟨by show 1 ≤ sizeLine; decide, fun p np => ?_⟩
        exact k _ .one _ rfl (Nat.zero_le _) (by show 0 + 1 ≤ many; omega) (.tup (SqT.of upd_same) (.cons (.str _) .nil)) ((D1.put np).up (by omega)) (B1.put np)
      · rw [show decide (V.int r = V.int 0) = false from decide_eq_false (fun e => e0 (V.int.inj e))]
        refine iteF ?_
        refine ⟨_, rfl, _, rfl, d, g, m + 1, z, rfl, D1, by omega, hz.1, hz.2.1, fun i c H2 hi D2 B2 => ?_⟩
        refine ⟨by show 2 ≤ sizeLine; decide, fun p np => ?_⟩
        obtain ⟨c1, c2⟩ := hz.2.2 i c hi
        exact k _ (.lt c) _ (by rw [okX, decide_eq_true c1, decide_eq_true c2] <;> rfl) (Nat.zero_le _) (by show 0 + 1 ≤ many; omega) (.tup (SqT.of upd_same) (.cons (.str _) (.cons (.str _) .nil))) ((D2.put np).up (by omega)) ((B1.trans B2).put np)
    rw [show decide (V.int (high : Int) = V.int 0) = false from decide_eq_false (fun e => h2 (by have := V.int.inj e; omega))]
    refine iteF ?_
    obtain ⟨h0, rfl⟩ : ∃ h0, high = h0 + 1 := ⟨high - 1, by omega⟩
    have ch : cost (h0 + 1) = 4 + 3 * cost h0 := rfl
    have cp0 := cost_pos h0
    refine ⟨_, rfl, d, g, 8, m, rfl, D, by decide, by decide, by omega, fun way H1 w0 w8 D1 B1 => ?_⟩
    refine ⟨_, rfl, _, _, rfl, rfl, _, rfl, ?_⟩
    have e1 : ((h0 + 1 : Nat) : Int) - 1 = (h0 : Int) := by omega
    refine ite2 (fun hw => ?_) (fun _ => ?_)
    · have hw := of_decide_eq_true hw
      refine ⟨by show 4 ≤ sizeLine; decide, fun q nq => ?_⟩
      obtain ⟨wn, rfl⟩ : ∃ wn : Nat, way = (wn : Int) := ⟨way.toNat, by omega⟩
      obtain ⟨kd, hk, hn⟩ : ∃ kd : Kd, ([.str "loop", .str "loop", .str "some", .str "maybe"] : List V)[wn]? = some (.str kd.s) ∧ okN kd 1 = true := by
        rcases wn with _ | _ | _ | _ | wn
        · exact ⟨.loop, rfl, rfl⟩
        · exact ⟨.loop, rfl, rfl⟩
        · exact ⟨.some, rfl, rfl⟩
        · exact ⟨.maybe, rfl, rfl⟩
        · omega
      refine ⟨_, rfl, q, _, _, _, rfl, rfl, SqL.of upd_same, atI_nat hk, ?_⟩
      refine ⟨_, rfl, _, rfl, _, rfl, _, _, rfl, rfl, _, rfl, d, g, m + 1, many, h0, z, by show [_, _, V.int (((h0 + 1 : Nat) : Int) - 1), _] = _; rw [e1], D1.put nq, m1, m2, by omega, hz, by omega, fun v x H2 ox hx hb hd D2 B2 => ?_⟩
      refine ⟨by show 2 ≤ sizeLine; decide, fun p np => ?_⟩
      refine k _ (.nd kd [x]) _ ?_ ?_ ?_ (.tup (SqT.of upd_same) (.cons (.str _) (.cons (tr_off (off_same (same_up np)) x _ hd) .nil))) ((D2.put np).up (by omega)) (((B1.put nq).trans B2).put np)
      · show (okN kd 1 && (okX x && true)) = true
        rw [hn, ox] <;> rfl
      · show max (hX x) 0 + 1 ≤ h0 + 1
        omega
      · show bX x + 0 + rbK kd + 1 ≤ many
        have : rbK kd = 0 := by cases kd <;> first | rfl | exact absurd hn (by decide)
        omega
    refine ⟨_, rfl, _, rfl, _, _, rfl, rfl, d, g, _, m + 1, rfl, D1, by omega, by omega, by omega, fun r H2 r0 r1 D2 B2 => ⟨_, _, rfl, rfl, ?_⟩⟩
    obtain ⟨cn, ec⟩ : ∃ cn : Nat, 1 + r = (cn : Int) := ⟨(1 + r).toNat, by omega⟩
    dsimp only
    rw [ec]
    have B02 := B1.trans B2
    refine ⟨_, rfl, _, rfl, _, rfl, _, _, rfl, rfl, _, rfl, d, g, m + 1 + 1, cn, h0, z, by show [_, _, V.int (((h0 + 1 : Nat) : Int) - 1), _] = _; rw [e1], D2, by omega, by omega, by omega, hz, by omega, fun v1 x1 H3 o1 k1 b1 d1 D3 B3 => ?_⟩
    obtain ⟨dn, ed⟩ : ∃ dn : Nat, (many : Int) - (cn : Int) = (dn : Int) := ⟨many - cn, by omega⟩
    refine ⟨_, rfl, _, rfl, _, rfl, _, _, rfl, rfl, _, rfl, _, _, rfl, rfl, _, rfl, d, g, m + 1 + 1 + cost h0, dn, h0, z, by show [_, V.int ((many : Int) - (cn : Int)), V.int (((h0 + 1 : Nat) : Int) - 1), _] = _; rw [e1, ed], D3, by omega, by omega, by omega, hz, by omega, fun v2 x2 H4 o2 k2 b2 d2 D4 B4 => ?_⟩
    have B04 := (B02.trans B3).trans B4
    have d1' := tr_off (B4.off D3) x1 _ d1
    refine ⟨by show 2 ≤ sizeLine; decide, fun q nq => ?_⟩
    have sq := same_up (o := .lst [v1, v2]) nq
    have hq : upd H4 q (.lst [v1, v2]) q = some (.lst [v1, v2]) := upd_same
    have D5 := D4.put (o := .lst [v1, v2]) nq
    have B5 := B04.put (o := .lst [v1, v2]) nq
    have d1q := tr_off (off_same sq) x1 _ d1'
    have d2q := tr_off (off_same sq) x2 _ d2
    have qd := (D4.new nq).1
    have qg := (D4.new nq).2
    have q0 : ∀ b o, H b = some o → b ≠ d → b ≠ g → b ≠ q := fun b o z z1 z2 e => by
      rw [← e, B04 b o z z1 z2] at nq
      cases nq
    generalize upd H4 q (.lst [v1, v2]) = H5 at sq hq D5 B5 d1q d2q ⊢
    have two : ∀ (H' : Hp) (c5 : Option V), SqL K H' q [v1, v2] → Dr K H' v1 (tD x1) → Dr K H' v2 (tD x2) → DeckAt H' d g (m + cost (h0 + 1)) → But d g H H' → tE { nx := fun _ H' => Q .non H', rt := Q } [some (.ref d), some (.int (many : Int)), some (.int ((h0 + 1 : Nat) : Int)), some (.str z), some (.int way), c5, some (.ref q)] H' := fun H' c5 a1 a2 a3 a4 a5 =>
      useE _ _ _ _ _ way q _ [x1, x2] H' a1 (.cons a2 (.cons a3 .nil)) (by show (okX x1 && (okX x2 && true)) = true; rw [o1, o2] <;> rfl) (by show 2 ≤ 2; decide) (by show 2 ≤ 3; decide) (by show max (hX x1) (max (hX x2) 0) + 1 ≤ _; omega) (by show bX x1 + (bX x2 + 0) + 2 ≤ many; omega) a4 a5
    refine ⟨_, rfl, _, _, rfl, rfl, _, rfl, ?_⟩
    refine ite2 (fun _ => ?_) (fun _ => ?_)
    · refine ⟨_, rfl, d, g, 3, _, rfl, D5, by decide, by decide, by omega, fun r3 H6 r30 r33 D6 B6 => ?_⟩
      have hq6 := B6 _ _ hq qd qg
      have d16 := tr_off (B6.off D5) x1 _ d1q
      have d26 := tr_off (B6.off D5) x2 _ d2q
      have B06 := B5.trans B6
      refine ⟨rfl, _, rfl, ?_⟩
      by_cases e3 : r3 = 0
      · rw [show decide (V.int r3 = V.int 0) = true from decide_eq_true (by rw [e3])]
        refine iteT ?_
        refine ⟨_, rfl, .inl ⟨rfl, _, SqL.of hq6⟩, _, rfl, _, rfl, _, _, rfl, rfl, _, rfl, d, g, _, 1, h0, z, by show [_, _, V.int (((h0 + 1 : Nat) : Int) - 1), _] = _; rw [e1] <;> rfl, D6, by decide, by decide, by omega, hz, by omega, fun v3 x3 H7 o3 k3 b3 d3 D7 B7 => ?_⟩
        have hq7 := B7 _ _ hq6 qd qg
        refine ⟨q, _, _, rfl, rfl, hq7, by show 2 < sizeLine; decide, ?_⟩
        have oq := off_lst (o' := .lst ([v1, v2] ++ [v3])) hq7
        have d17 := tr_off oq x1 _ (tr_off (B7.off D6) x1 _ d16)
        have d27 := tr_off oq x2 _ (tr_off (B7.off D6) x2 _ d26)
        have d37 := tr_off oq x3 _ d3
        refine useE _ _ _ _ _ way q _ [x1, x2, x3] _ (SqL.of upd_same) (.cons d17 (.cons d27 (.cons d37 .nil))) (by show (okX x1 && (okX x2 && (okX x3 && true))) = true; rw [o1, o2, o3] <;> rfl) (by show 2 ≤ 3; decide) (by show 3 ≤ 3; decide) (by show max (hX x1) (max (hX x2) (max (hX x3) 0)) + 1 ≤ _; omega) (by show bX x1 + (bX x2 + (bX x3 + 0)) + 2 ≤ many; omega) ((deck_upd D7 qd.symm qg.symm).up (by omega)) fun b o z z1 z2 => ?_
        rw [upd_ne (q0 b o z z1 z2)]
        exact (B06.trans B7) b o z z1 z2
      · rw [show decide (V.int r3 = V.int 0) = false from decide_eq_false (fun e => e3 (V.int.inj e))]
        refine iteF ?_
        exact two _ _ (SqL.of hq6) d16 d26 (D6.up (by omega)) B06
    · exact two _ _ (SqL.of hq) d1q d2q (D5.up (by omega)) B5
end
end Vk
set_option Elab.async false
set_option linter.all false
set_option maxRecDepth 100000
set_option maxHeartbeats 4000000
namespace Vk
open PySem PySem.Spec PyProof.Rows L2 Vt PySem.Vx Vs1 ClX
abbrev sLine : Stmt := top8 38
theorem len_join (sep : Str) (L : List Str) : (Txt.join sep L).length ≤ (L.map (·.length)).sum + L.length * sep.length := by
  show (Builtin.Str.glued sep L).length ≤ _
  rw [StrLaws.glued_eq_join]
  exact StrLaws.join_length_le sep L
/-- sep.join(xs), also in a comprehension -/
theorem pe_joinK {X : Cx} {K : PySem.W.Frag} (hK : X.K = K) {o e : Expr} {to te : TE} {apos pos : Pos} (ho : PE X o to) (he : PE X e te) (hs : starEach [e] X.env = [(false, eval e X.env)]) (hbase : attributeBase o "join" X.env (eval o X.env) = eval o X.env) (hline : (apos.endLine == pos.line) = true) :
    PE X (.Call (.Attribute o "join" apos) [e] [] pos) (tM1 (fun x xs H Q => ∃ a p, ∃ ys : List Str, x = .str a ∧ xs = [.ref p] ∧ (SqL K H p (ys.map V.str) ∨ SqT K H p (ys.map V.str)) ∧
      (ys.map (·.length)).sum + ys.length * a.length ≤ 16777216 ∧ Q (.str (Txt.join a ys)) H) to te) := by
  subst hK
  exact pe_join ho he hs hbase hline
/-! ## [f(x) for x in a tuple], or in a list -/
theorem lc_mapT {K : PySem.W.Frag} {a : Addr} {xs : List V} {n : Nat} {te : TE} {σ : St} {H1 : Hp} {D : Addr} {Qd : Hp → Prop} (R : Nat → V → Hp → Prop) (off : ∀ i v H H', Off H H' → R i v H → R i v H') (ha : SqT K H1 a xs) (nD : H1 D = none) (few : xs.length < sizeLine)
    (hw : ∀ x, wipe ((wipe σ [n]).set n (some x)) [n] = wipe σ [n])
    (hs : ∀ i x H (C : V → Hp → Prop), xs[i]? = some x → Same H1 H → (∀ y H4, Same H H4 → R i y H4 → C y H4) → te ((wipe σ [n]).set n (some x)) H C)
    (hd : ∀ (ys : List V) (H : Hp), Same H1 H → H D = some (.lst ys) → ys.length = xs.length → (∀ j y, ys[j]? = some y → R j y H) → Qd H) :
    ∃ W : Nat → Nat → Hp → Prop, (∃ m, W 0 m (upd H1 D (.lst []))) ∧ ∀ i m H, W i m H →
      ((Itt K a).stop i H ∧ Qd H) ∨ ((Itt K a).go i H ∧ ∃ Nx : Hp → Prop, (∀ H', Nx H' → ∃ m', m' < m ∧ W (i + 1) m' H') ∧ ∀ x H', (Itt K a).yld i H x H' → gName n x (wipe σ [n]) H' fun σ2 H2 => wipe σ2 [n] = wipe σ [n] ∧ tYes σ2 H2 fun b H3 =>
        if b = true then te σ2 H3 fun y H4 => ∃ acc, H4 D = some (.lst acc) ∧ acc.length < sizeLine ∧ Nx (upd H4 D (.lst (acc ++ [y]))) else Nx H3) := by
  refine lc_tup (K := K) (a := a) (xs := xs) (fun i H' => Same H1 H' ∧ ∃ ys : List V, H' D = some (.lst ys) ∧ ys.length = i ∧ ∀ j y, ys[j]? = some y → R j y H') ⟨same_up nD, [], upd_same, rfl, fun j y h => by cases h⟩ (fun i H' _ h => same_seqT h.1 ha) ?_ ?_
  · rintro i x H hi ⟨S, ys, hD, ly, hR⟩
    have il : i < xs.length := (List.getElem?_eq_some_iff.mp hi).1
    refine ⟨hw x, ?_⟩
    dsimp only [tYes]
    rw [if_pos rfl]
    refine hs i x H _ hi S fun y H4 S4 r => ?_
    have oD := off_lst (o' := .lst (ys ++ [y])) (S4 _ _ hD)
    refine ⟨ys, S4 _ _ hD, by omega, fun b o z => by rw [upd_ne (ne_of_none z nD)]; exact S4 _ _ (S _ _ z), _, upd_same, by rw [List.length_append, ly] <;> rfl, fun j z hz => ?_⟩
    rw [List.getElem?_append] at hz
    split at hz
    · exact off _ _ _ _ oD (off _ _ _ _ (off_same S4) (hR j z hz))
    · rename_i hj
      have e : j = i := by
        have := (List.getElem?_eq_some_iff.mp hz).1
        simp at this
        omega
      subst e
      rw [ly, Nat.sub_self] at hz
      cases hz
      exact off _ _ _ _ oD r
  · rintro H ⟨S, ys, hD, ly, hR⟩
    exact hd ys H S hD ly hR
theorem lc_mapL {K : PySem.W.Frag} {a : Addr} {xs : List V} {n : Nat} {te : TE} {σ : St} {H1 : Hp} {D : Addr} {Qd : Hp → Prop} (R : Nat → V → Hp → Prop) (off : ∀ i v H H', Off H H' → R i v H → R i v H') (ha : SqL K H1 a xs) (nD : H1 D = none) (few : xs.length < sizeLine)
    (hw : ∀ x, wipe ((wipe σ [n]).set n (some x)) [n] = wipe σ [n])
    (hs : ∀ i x H (C : V → Hp → Prop), xs[i]? = some x → Same H1 H → (∀ y H4, Same H H4 → R i y H4 → C y H4) → te ((wipe σ [n]).set n (some x)) H C)
    (hd : ∀ (ys : List V) (H : Hp), Same H1 H → H D = some (.lst ys) → ys.length = xs.length → (∀ j y, ys[j]? = some y → R j y H) → Qd H) :
    ∃ W : Nat → Nat → Hp → Prop, (∃ m, W 0 m (upd H1 D (.lst []))) ∧ ∀ i m H, W i m H →
      ((Itl K a).stop i H ∧ Qd H) ∨ ((Itl K a).go i H ∧ ∃ Nx : Hp → Prop, (∀ H', Nx H' → ∃ m', m' < m ∧ W (i + 1) m' H') ∧ ∀ x H', (Itl K a).yld i H x H' → gName n x (wipe σ [n]) H' fun σ2 H2 => wipe σ2 [n] = wipe σ [n] ∧ tYes σ2 H2 fun b H3 =>
        if b = true then te σ2 H3 fun y H4 => ∃ acc, H4 D = some (.lst acc) ∧ acc.length < sizeLine ∧ Nx (upd H4 D (.lst (acc ++ [y]))) else Nx H3) := by
  refine lc_list (K := K) (a := a) (xs := xs) (fun i H' => Same H1 H' ∧ ∃ ys : List V, H' D = some (.lst ys) ∧ ys.length = i ∧ ∀ j y, ys[j]? = some y → R j y H') ⟨same_up nD, [], upd_same, rfl, fun j y h => by cases h⟩ (fun i H' _ h => same_seqL h.1 ha) ?_ ?_
  · rintro i x H hi ⟨S, ys, hD, ly, hR⟩
    have il : i < xs.length := (List.getElem?_eq_some_iff.mp hi).1
    refine ⟨hw x, ?_⟩
    dsimp only [tYes]
    rw [if_pos rfl]
    refine hs i x H _ hi S fun y H4 S4 r => ?_
    have oD := off_lst (o' := .lst (ys ++ [y])) (S4 _ _ hD)
    refine ⟨ys, S4 _ _ hD, by omega, fun b o z => by rw [upd_ne (ne_of_none z nD)]; exact S4 _ _ (S _ _ z), _, upd_same, by rw [List.length_append, ly] <;> rfl, fun j z hz => ?_⟩
    rw [List.getElem?_append] at hz
    split at hz
    · exact off _ _ _ _ oD (off _ _ _ _ (off_same S4) (hR j z hz))
    · rename_i hj
      have e : j = i := by
        have := (List.getElem?_eq_some_iff.mp hz).1
        simp at this
        omega
      subst e
      rw [ly, Nat.sub_self] at hz
      cases hz
      exact off _ _ _ _ oD r
  · rintro H ⟨S, ys, hD, ly, hR⟩
    exact hd ys H S hD ly hR
theorem sl_one {K : PySem.W.Frag} {H : Hp} {a : Addr} {z : V} {vs0 : List V} {Q : VK} (ht : SqT K H a (z :: vs0)) (q : ∀ p, H p = none → Q (.ref p) (upd H p (.tup vs0))) : rSlT K (.ref a) (some 1) none H Q := by
  refine ⟨a, _, rfl, ht, fun h => ?_, fun p np => ?_⟩
  · have h1 := h.1
    rw [show (1 : Int) = ((1 : Nat) : Int) from rfl, HT.sIx_nat] at h1
    simp at h1
  · have e : cutV (z :: vs0) (some 1) none = vs0 := cut_from (z :: vs0) 1
    rw [e]
    exact q p np
theorem map_of {f : Xp → V} : ∀ {ps : List Xp} {ys : List V}, ys.length = ps.length → (∀ (j : Nat) (y : V), ys[j]? = some y → ∃ x, ps[j]? = some x ∧ y = f x) → ys = ps.map f
  | [], [], _, _ => rfl
  | p :: r, y :: ys, l, h => by
    obtain ⟨x, hx, e⟩ := h 0 y rfl
    cases hx
    rw [e, List.map_cons, map_of (ps := r) (ys := ys) (by simpa using l) fun j y hy => h (j + 1) y hy]
theorem tDs_map : ∀ ps : List Xp, tDs ps = ps.map tD
  | [] => rfl
  | x :: r => by rw [tDs, List.map_cons, tDs_map r]
/-! ## the text -/
def markS : Kd → Str
  | .loop => "*"
  | .some => "+"
  | _ => "?"
def wrapS (k : Kd) (zs : List Str) : Str := match k with
  | .row => ("(" : Str) ++ Txt.join (" " : Str) zs ++ (")" : Str)
  | .cho => ("(" : Str) ++ Txt.join (" | " : Str) zs ++ (")" : Str)
  | k => zs.headD "" ++ markS k
mutual
def lnX : Xp → Str
  | .one => "1"
  | .lt c => sg c
  | .nd k ps => wrapS k (lnXs ps)
def lnXs : List Xp → List Str
  | [] => []
  | x :: r => lnX x :: lnXs r
end
theorem at0 {z : V} {vs : List V} : atI (z :: vs) 0 = some z := by
  show atI (z :: vs) ((0 : Nat) : Int) = some z
  exact atI_nat rfl
theorem at1 {z v : V} {vs : List V} (h : vs[0]? = some v) : atI (z :: vs) 1 = some v := by
  show atI (z :: vs) ((1 : Nat) : Int) = some v
  exact atI_nat (by rw [List.getElem?_cons_succ]; exact h)
theorem lnXs_map : ∀ ps : List Xp, lnXs ps = ps.map lnX
  | [] => rfl
  | x :: r => by rw [lnXs, List.map_cons, lnXs_map r]
theorem lnXs_len : ∀ ps : List Xp, (lnXs ps).length = ps.length
  | [] => rfl
  | x :: r => by rw [lnXs, List.length_cons, List.length_cons, lnXs_len r]
theorem lnXs_get : ∀ {ps : List Xp} {i : Nat} {x : Xp}, ps[i]? = some x → (lnXs ps)[i]? = some (lnX x)
  | y :: r, 0, x, h => by
    cases h
    rfl
  | y :: r, i + 1, x, h => by
    rw [lnXs]
    exact lnXs_get (ps := r) h
theorem tDs_get : ∀ {ps : List Xp} {i : Nat} {d : PyData}, (tDs ps)[i]? = some d → ∃ x, ps[i]? = some x ∧ d = tD x
  | [], i, d, h => by cases h
  | y :: r, 0, d, h => by
    cases h
    exact ⟨y, rfl, rfl⟩
  | y :: r, i + 1, d, h => by
    rw [tDs] at h
    exact tDs_get (ps := r) h
theorem okXs_get : ∀ {ps : List Xp} {i : Nat} {x : Xp}, okXs ps = true → ps[i]? = some x → okX x = true
  | y :: r, 0, x, o, h => by
    cases h
    rw [okXs, Bool.and_eq_true] at o
    exact o.1
  | y :: r, i + 1, x, o, h => by
    rw [okXs, Bool.and_eq_true] at o
    exact okXs_get (ps := r) o.2 h
theorem hXs_get : ∀ {ps : List Xp} {i : Nat} {x : Xp}, ps[i]? = some x → hX x ≤ hXs ps
  | y :: r, 0, x, h => by
    cases h
    rw [hXs]
    omega
  | y :: r, i + 1, x, h => by
    have := hXs_get (ps := r) h
    rw [hXs]
    omega
def lbX : Nat → Nat
  | 0 => 1
  | h + 1 => 3 * lbX h + 12
theorem lb_mono : ∀ {a b : Nat}, a ≤ b → lbX a ≤ lbX b := by
  intro a b h
  induction h with
  | refl => exact Nat.le_refl _
  | step _ ih => rw [lbX]; omega
theorem lb_max {h : Nat} (l : h ≤ 7) : lbX h ≤ 20000 := Nat.le_trans (lb_mono l) (by decide)
theorem sum_le {B : Nat} : ∀ {zs : List Str}, (∀ z ∈ zs, z.length ≤ B) → (zs.map (·.length)).sum ≤ zs.length * B
  | [], _ => Nat.zero_le _
  | z :: r, h => by
    have a := h z (List.mem_cons_self ..)
    have b := sum_le (zs := r) fun y hy => h y (List.mem_cons_of_mem _ hy)
    rw [List.map_cons, List.sum_cons, List.length_cons, Nat.succ_mul]
    omega
theorem len_app (a b : Str) : (a ++ b).length = a.length + b.length := strLen_append a b
theorem join_le {sep : Str} {zs : List Str} {B : Nat} (hs : sep.length ≤ 3) (h : ∀ z ∈ zs, z.length ≤ B) (few : zs.length ≤ 3) : (Txt.join sep zs).length ≤ 3 * B + 9 := by
  have a := len_join sep zs
  have b := sum_le h
  have c : zs.length * B ≤ 3 * B := Nat.mul_le_mul_right _ few
  have d : zs.length * sep.length ≤ 3 * 3 := Nat.mul_le_mul few hs
  omega
theorem okN_few {k : Kd} {n : Nat} (h : okN k n = true) : n ≤ 3 ∧ 1 ≤ n := by
  cases k <;> simp [okN] at h <;> omega
theorem wrap_len {k : Kd} {zs : List Str} {B : Nat} (h : ∀ z ∈ zs, z.length ≤ B) (few : zs.length ≤ 3) : (wrapS k zs).length ≤ 3 * B + 12 := by
  have hd : (zs.headD "").length ≤ B := by
    cases zs with
    | nil => exact Nat.zero_le _
    | cons z r => exact h z (List.mem_cons_self ..)
  cases k with
  | row =>
    have := join_le (sep := " ") (by decide) h few
    show (("(" : Str) ++ Txt.join (" " : Str) zs ++ (")" : Str)).length ≤ _
    rw [len_app, len_app]
    show 1 + _ + 1 ≤ _
    omega
  | cho =>
    have := join_le (sep := " | ") (by decide) h few
    show (("(" : Str) ++ Txt.join (" | " : Str) zs ++ (")" : Str)).length ≤ _
    rw [len_app, len_app]
    show 1 + _ + 1 ≤ _
    omega
  | loop =>
    show (zs.headD "" ++ ("*" : Str)).length ≤ _
    rw [len_app]
    show _ + 1 ≤ _
    omega
  | some =>
    show (zs.headD "" ++ ("+" : Str)).length ≤ _
    rw [len_app]
    show _ + 1 ≤ _
    omega
  | maybe =>
    show (zs.headD "" ++ ("?" : Str)).length ≤ _
    rw [len_app]
    show _ + 1 ≤ _
    omega
mutual
theorem ln_len : ∀ x : Xp, okX x = true → (lnX x).length ≤ lbX (hX x)
  | .one, _ => by decide
  | .lt c, _ => Nat.le_refl _
  | .nd k ps, h => by
    rw [okX, Bool.and_eq_true] at h
    rw [lnX, hX, lbX]
    exact wrap_len (lns_len ps h.2) (by rw [lnXs_len]; exact (okN_few h.1).1)
theorem lns_len : ∀ ps : List Xp, okXs ps = true → ∀ z ∈ lnXs ps, z.length ≤ lbX (hXs ps)
  | [], _, z, hz => by cases hz
  | x :: r, h, z, hz => by
    rw [okXs, Bool.and_eq_true] at h
    rw [lnXs] at hz
    rw [hXs]
    rcases List.mem_cons.mp hz with e | hz
    · rw [e]
      exact Nat.le_trans (ln_len x h.1) (lb_mono (Nat.le_max_left _ _))
    · exact Nat.le_trans (lns_len r h.2 z hz) (lb_mono (Nat.le_max_right _ _))
end
section
variable {P : Program} {w : World} {K : PySem.W.Frag} {mg : Str → Option Value} {base : Heap}
theorem ok_tree {f fDr fPi : Addr} {fd fdDr fdPi : FuncData} (F : Fun K "_law_tree" "_law_tree" sTree f fd) (T : Txt8 K mg)
    (GDr : FnOk P w K mg base CX0 1 fDr fdDr ["_law_deck_here", "_law_many"] spDraw) (gDr : mg "_law_draw" = some (.ref fDr)) (kDr : PySem.W.keepIn K (.ref fDr) = true) (bDr : Binds K fdDr ["_law_deck_here", "_law_many"] [])
    (GPs : FnOk P w K mg base CX0 2 fPi fdPi ["_law_deck_here", "_law_lot"] spPickS) (gPi : mg "_law_pick" = some (.ref fPi)) (kPi : PySem.W.keepIn K (.ref fPi) = true) (bPi : Binds K fdPi ["_law_deck_here", "_law_lot"] [])
    (gTr : mg "_law_tree" = some (.ref f)) (kTr : PySem.W.keepIn K (.ref f) = true) (bTr : Binds K fd ["_law_deck_here", "_law_many", "_law_high", "_law_signs"] []) : ∀ j : Nat, FnOk P w K mg base CX0 (j + 3) f fd ["_law_deck_here", "_law_many", "_law_high", "_law_signs"] (spTree K j)
  | 0 => tree_none
  | j + 1 => tree_step F T GDr gDr kDr bDr GPs gPi kPi bPi gTr kTr bTr j (ok_tree F T GDr gDr kDr bDr GPs gPi kPi bPi gTr kTr bTr j)
/-- a tree that stands at a value -/
def TrAt (K : PySem.W.Frag) (H : Hp) (v : V) (x : Xp) : Prop := Dr K H v (tD x) ∧ okX x = true
def spLine (K : PySem.W.Frag) (j : Nat) : Sp := fun vs H Q _ => ∃ (v : V) (x : Xp), vs = [v] ∧ TrAt K H v x ∧ hX x + 1 ≤ j ∧ hX x ≤ 7 ∧ ∀ H', Same H H' → Q (.str (lnX x)) H'
theorem scLn : FnScope ["_law_it", "_law_part_here"] ["_law_it"] (defScope sLine) := ⟨rfl, rfl, rfl, by decide +kernel, rfl, by decide +kernel, by decide +kernel⟩
theorem line_none {f : Addr} {fd : FuncData} {k : Nat} : FnOk P w K mg base CX0 k f fd ["_law_it"] (spLine K 0) :=
  ⟨fun _ _ _ _ h => by obtain ⟨v, x, rfl, _⟩ := h; rfl, fun _ _ _ _ _ _ _ _ _ _ _ _ _ h => by obtain ⟨v, x, _, _, h, _⟩ := h; omega⟩
theorem line_step {f : Addr} {fd : FuncData} (F : Fun K "_law_line" "_law_line" sLine f fd) (T : Txt8 K mg) (gLn : mg "_law_line" = some (.ref f)) (kLn : PySem.W.keepIn K (.ref f) = true) (bLn : Binds K fd ["_law_it"] []) (j : Nat)
    (GLn : FnOk P w K mg base CX0 (j + 1) f fd ["_law_it"] (spLine K j)) : FnOk P w K mg base CX0 (j + 1 + 1) f fd ["_law_it"] (spLine K (j + 1)) := by
  refine F.ok scLn (fun vs H Q E h => ?_) (fun cdv A outer s H vs Q E hr h => ?_)
  · obtain ⟨v, x, rfl, _⟩ := h
    rfl
  · obtain ⟨v, x, rfl, ⟨hd, ok⟩, hj, h7, k⟩ := h
    have hu := hu_of hr
    refine ⟨_, (pss_cons (ps_if (pt_cmpR op_eq (pe_ix (r := rIxT K) ix_tup (pv 0) pe_int (fun _ _ => rfl)) pe_str (nomark _)) (pss_one (ps_ret pe_str)) pss_nil)
        (pss_cons (ps_if (pt_cmpR op_eq (pe_ix (r := rIxT K) ix_tup (pv 0) pe_int (fun _ _ => rfl)) pe_str (nomark _)) (pss_one (ps_ret (pe_ix (r := rIxT K) ix_tup (pv 0) pe_int (fun _ _ => rfl)))) pss_nil)
        (pss_cons (ps_if (pt_cmpR op_eq (pe_ix (r := rIxT K) ix_tup (pv 0) pe_int (fun _ _ => rfl)) pe_str (nomark _)) (pss_one (ps_ret (pe_op op_add_str (pe_op op_add_str pe_str (pe_joinK (K := K) (by rfl) pe_str (pe_lc (own := [("_law_part_here", 1)]) (g := (gName 1)) (by rfl) scLn.nd (pi_tup (pe_slice (r := rSlT K) sl_tup (pv 0) (po_some pe_int) po_none)) (blkOk_by (own := [("_law_part_here", 1)]) (N := ["_law_it", "_law_part_here"]) (sc := defScope sLine) (by decide +kernel)) (fun _ _ _ _ _ => (pg_name (i := 1) scLn.nd rfl (.inl rfl))) (fun _ _ _ _ _ => pts_nil) (fun _ _ _ _ _ => (pe_call GLn hr rfl gLn kLn bLn .nil pass0 (pa_cons (pv 1) pa_nil)))) (by rfl) (by rfl) (by rfl))) pe_str))) pss_nil)
        (pss_cons (ps_if (pt_cmpR op_eq (pe_ix (r := rIxT K) ix_tup (pv 0) pe_int (fun _ _ => rfl)) pe_str (nomark _)) (pss_one (ps_ret (pe_op op_add_str (pe_op op_add_str pe_str (pe_joinK (K := K) (by rfl) pe_str (pe_lc (own := [("_law_part_here", 1)]) (g := (gName 1)) (by rfl) scLn.nd (pi_tup (pe_slice (r := rSlT K) sl_tup (pv 0) (po_some pe_int) po_none)) (blkOk_by (own := [("_law_part_here", 1)]) (N := ["_law_it", "_law_part_here"]) (sc := defScope sLine) (by decide +kernel)) (fun _ _ _ _ _ => (pg_name (i := 1) scLn.nd rfl (.inl rfl))) (fun _ _ _ _ _ => pts_nil) (fun _ _ _ _ _ => (pe_call GLn hr rfl gLn kLn bLn .nil pass0 (pa_cons (pv 1) pa_nil)))) (by rfl) (by rfl) (by rfl))) pe_str))) pss_nil)
        (pss_one (ps_ret (pe_op op_add_str (pe_call GLn hr rfl gLn kLn bLn .nil pass0 (pa_cons (pe_ix (r := rIxT K) ix_tup (pv 0) pe_int (fun _ _ => rfl)) pa_nil)) (pe_dget hu (pe_disp (pps_cons pe_str pe_str (pps_cons pe_str pe_str (pps_cons pe_str pe_str pps_nil))) (by rfl) (by rfl) (fun z => by cases z) (by decide)) (pe_ix (r := rIxT K) ix_tup (pv 0) pe_int (fun _ _ => rfl)) (fun _ _ => rfl))))))))), ?_⟩
    cases x with
    | one =>
      rw [tD] at hd
      obtain ⟨a, xs, rfl, ht, ha⟩ := dr_tup hd
      cases ha with
      | cons h1 ha =>
      cases ha
      cases h1
      refine ⟨_, rfl, a, _, 0, .str "one", rfl, rfl, ht, rfl, rfl, _, rfl, ?_⟩
      refine iteT ?_
      exact k _ (Same.refl _)
    | lt c =>
      rw [tD] at hd
      obtain ⟨a, xs, rfl, ht, ha⟩ := dr_tup hd
      cases ha with
      | cons h1 ha =>
      cases ha with
      | cons h2 ha =>
      cases ha
      cases h1
      cases h2
      refine ⟨_, rfl, a, _, 0, .str "sign", rfl, rfl, ht, rfl, rfl, _, rfl, ?_⟩
      refine iteF ?_
      refine ⟨_, rfl, a, _, 0, .str "sign", rfl, rfl, ht, rfl, rfl, _, rfl, ?_⟩
      refine iteT ?_
      exact ⟨_, rfl, a, _, 1, .str (sg c), rfl, rfl, ht, rfl, k _ (Same.refl _)⟩
    | nd kd ps =>
      rw [tD] at hd
      obtain ⟨a, xs, rfl, ht, ha⟩ := dr_tup hd
      cases ha with
      | @cons _ vs0 _ _ h1 ha =>
      have e1 := dr_str h1
      subst e1
      rw [okX, Bool.and_eq_true] at ok
      have fw := okN_few ok.1
      have lv : vs0.length = ps.length := by rw [ha.length, tDs_len]
      rw [hX] at hj h7
      have lb := lb_max (show hXs ps ≤ 7 by omega)
      have ll := lns_len ps ok.2
      have s2 := sum_le (B := 20000) fun z hz => Nat.le_trans (ll z hz) lb
      rw [lnXs_len] at s2
      have s3 : ps.length * 20000 ≤ 60000 := by omega
      have jl : ∀ sep : Str, sep.length ≤ 3 → (Txt.join sep (lnXs ps)).length ≤ 60009 := fun sep hs => join_le (B := 20000) hs (fun z hz => Nat.le_trans (ll z hz) lb) (by rw [lnXs_len]; exact fw.1)
      have mark : ∀ (mk : Str) (H' : Hp), kd ≠ .row → kd ≠ .cho → mk = markS kd → mk.length ≤ 1 → Same H H' → (∃ i j, V.str (lnX (ps.headD .one)) = V.str i ∧ V.str mk = V.str j ∧ i.length + j.length ≤ sizeLine ∧ Q (.str (i ++ j)) H') := by
        intro mk H' n1 n2 e l S
        obtain ⟨x, r, rfl⟩ : ∃ x r, ps = x :: r := by
          cases ps with
          | nil => exact absurd fw.2 (by decide)
          | cons x r => exact ⟨x, r, rfl⟩
        refine ⟨_, _, rfl, rfl, ?_, ?_⟩
        · have := Nat.le_trans (ll (lnX x) (List.mem_cons_self ..)) lb
          show (lnX x).length + _ ≤ _
          rw [sizeLine_eq]
          omega
        · have e2 : lnX (.nd kd (x :: r)) = lnX x ++ mk := by
            rw [lnX, lnXs, e]
            cases kd with
            | row => exact absurd rfl n1
            | cho => exact absurd rfl n2
            | _ => rfl
          rw [e2] at k
          exact k _ S
      have first : ∃ x v r, ps = x :: r ∧ vs0[0]? = some v ∧ Dr K H v (tD x) := by
        cases ps with
        | nil => exact absurd fw.2 (by decide)
        | cons x r =>
          rw [tDs] at ha
          cases ha with
          | cons h1 h2 => exact ⟨x, _, r, rfl, rfl, h1⟩
      cases kd with
      | row =>
        refine ⟨_, rfl, a, _, 0, .str (Kd.s .row), rfl, rfl, ht, at0, rfl, _, rfl, ?_⟩
        refine iteF ?_
        refine ⟨_, rfl, a, _, 0, .str (Kd.s .row), rfl, rfl, ht, at0, rfl, _, rfl, ?_⟩
        refine iteF ?_
        refine ⟨_, rfl, a, _, 0, .str (Kd.s .row), rfl, rfl, ht, at0, rfl, _, rfl, ?_⟩
        refine iteT ?_
        have jl := jl " " (by decide)
        refine ⟨⟨_, rfl⟩, _, rfl, 1, rfl, ?_⟩
        dsimp only [tNoPart]
        refine sl_one ht fun q nq => ?_
        have sq := same_up (o := .tup vs0) nq
        have hq : SqT K (upd H q (.tup vs0)) q vs0 := SqT.of upd_same
        generalize upd H q (.tup vs0) = H1 at sq hq ⊢
        refine ⟨q, rfl, ⟨_, hq⟩, fun D nD => ?_⟩
        refine lc_mapT (K := K) (n := 1) (fun i v _ => ∃ x, ps[i]? = some x ∧ v = .str (lnX x)) (fun _ _ _ _ _ h => h) hq nD (by rw [lv, sizeLine_eq]; omega) (fun _ => rfl) (fun i y H' C hi S c => ?_) (fun ys H' S hD ly hR => ?_)
        · obtain ⟨d', hd', rd⟩ := ha.get hi
          obtain ⟨x, hx, rfl⟩ := tDs_get hd'
          have := hXs_get hx
          exact ⟨_, rfl, y, x, rfl, ⟨rd.keep (sq.trans S), okXs_get ok.2 hx⟩, by omega, by omega, fun H4 S4 => c _ _ S4 ⟨x, hx, rfl⟩⟩
        · have ey : ys = (lnXs ps).map V.str := by
            rw [map_of (f := fun x => V.str (lnX x)) (ly.trans lv) hR, lnXs_map, List.map_map] <;> rfl
          rw [ey] at hD
          refine ⟨_, D, lnXs ps, rfl, rfl, .inl (SqL.of hD), by rw [lnXs_len]; show _ + _ * 1 ≤ _; omega, _, _, rfl, rfl, ?_, _, _, rfl, rfl, ?_, k _ (sq.trans S)⟩
          · show 1 + _ ≤ sizeLine
            rw [sizeLine_eq]
            omega
          · rw [len_app]
            show 1 + _ + 1 ≤ sizeLine
            rw [sizeLine_eq]
            omega
      | cho =>
        refine ⟨_, rfl, a, _, 0, .str (Kd.s .cho), rfl, rfl, ht, at0, rfl, _, rfl, ?_⟩
        refine iteF ?_
        refine ⟨_, rfl, a, _, 0, .str (Kd.s .cho), rfl, rfl, ht, at0, rfl, _, rfl, ?_⟩
        refine iteF ?_
        refine ⟨_, rfl, a, _, 0, .str (Kd.s .cho), rfl, rfl, ht, at0, rfl, _, rfl, ?_⟩
        refine iteF ?_
        refine ⟨_, rfl, a, _, 0, .str (Kd.s .cho), rfl, rfl, ht, at0, rfl, _, rfl, ?_⟩
        refine iteT ?_
        have jl := jl " | " (by decide)
        refine ⟨⟨_, rfl⟩, _, rfl, 1, rfl, ?_⟩
        dsimp only [tNoPart]
        refine sl_one ht fun q nq => ?_
        have sq := same_up (o := .tup vs0) nq
        have hq : SqT K (upd H q (.tup vs0)) q vs0 := SqT.of upd_same
        generalize upd H q (.tup vs0) = H1 at sq hq ⊢
        refine ⟨q, rfl, ⟨_, hq⟩, fun D nD => ?_⟩
        refine lc_mapT (K := K) (n := 1) (fun i v _ => ∃ x, ps[i]? = some x ∧ v = .str (lnX x)) (fun _ _ _ _ _ h => h) hq nD (by rw [lv, sizeLine_eq]; omega) (fun _ => rfl) (fun i y H' C hi S c => ?_) (fun ys H' S hD ly hR => ?_)
        · obtain ⟨d', hd', rd⟩ := ha.get hi
          obtain ⟨x, hx, rfl⟩ := tDs_get hd'
          have := hXs_get hx
          exact ⟨_, rfl, y, x, rfl, ⟨rd.keep (sq.trans S), okXs_get ok.2 hx⟩, by omega, by omega, fun H4 S4 => c _ _ S4 ⟨x, hx, rfl⟩⟩
        · have ey : ys = (lnXs ps).map V.str := by
            rw [map_of (f := fun x => V.str (lnX x)) (ly.trans lv) hR, lnXs_map, List.map_map] <;> rfl
          rw [ey] at hD
          refine ⟨_, D, lnXs ps, rfl, rfl, .inl (SqL.of hD), by rw [lnXs_len]; show _ + _ * 3 ≤ _; omega, _, _, rfl, rfl, ?_, _, _, rfl, rfl, ?_, k _ (sq.trans S)⟩
          · show 1 + _ ≤ sizeLine
            rw [sizeLine_eq]
            omega
          · rw [len_app]
            show 1 + _ + 1 ≤ sizeLine
            rw [sizeLine_eq]
            omega
      | loop =>
        refine ⟨_, rfl, a, _, 0, .str (Kd.s .loop), rfl, rfl, ht, at0, rfl, _, rfl, ?_⟩
        refine iteF ?_
        refine ⟨_, rfl, a, _, 0, .str (Kd.s .loop), rfl, rfl, ht, at0, rfl, _, rfl, ?_⟩
        refine iteF ?_
        refine ⟨_, rfl, a, _, 0, .str (Kd.s .loop), rfl, rfl, ht, at0, rfl, _, rfl, ?_⟩
        refine iteF ?_
        refine ⟨_, rfl, a, _, 0, .str (Kd.s .loop), rfl, rfl, ht, at0, rfl, _, rfl, ?_⟩
        refine iteF ?_
        obtain ⟨x, v, r, rfl, hv, dv⟩ := first
        have hx0 : hX x ≤ hXs (x :: r) := hXs_get (i := 0) rfl
        have okx := okXs_get (i := 0) ok.2 rfl
        refine ⟨_, rfl, a, _, 1, v, rfl, rfl, ht, at1 hv, v, x, rfl, ⟨dv, okx⟩, by omega, by omega, fun H1 S1 => ?_⟩
        refine fun p np => ⟨upd_same, [(.inr "loop", .str "*"), (.inr "some", .str "+"), (.inr "maybe", .str "?")], rfl, by decide, ?_⟩
        rw [upd_upd]
        have sp := same_up (o := .dK (mergeK [] [(.inr "loop", .str "*"), (.inr "some", .str "+"), (.inr "maybe", .str "?")])) np
        refine ⟨_, rfl, a, _, 0, .str (Kd.s .loop), rfl, rfl, same_seqT (S1.trans sp) ht, at0, p, .str "*", rfl, DGet.k (k := Sum.inr "loop") upd_same, ?_⟩
        exact mark "*" _ (by nofun) (by nofun) rfl (by decide) (S1.trans sp)
      | some =>
        refine ⟨_, rfl, a, _, 0, .str (Kd.s .some), rfl, rfl, ht, at0, rfl, _, rfl, ?_⟩
        refine iteF ?_
        refine ⟨_, rfl, a, _, 0, .str (Kd.s .some), rfl, rfl, ht, at0, rfl, _, rfl, ?_⟩
        refine iteF ?_
        refine ⟨_, rfl, a, _, 0, .str (Kd.s .some), rfl, rfl, ht, at0, rfl, _, rfl, ?_⟩
        refine iteF ?_
        refine ⟨_, rfl, a, _, 0, .str (Kd.s .some), rfl, rfl, ht, at0, rfl, _, rfl, ?_⟩
        refine iteF ?_
        obtain ⟨x, v, r, rfl, hv, dv⟩ := first
        have hx0 : hX x ≤ hXs (x :: r) := hXs_get (i := 0) rfl
        have okx := okXs_get (i := 0) ok.2 rfl
        refine ⟨_, rfl, a, _, 1, v, rfl, rfl, ht, at1 hv, v, x, rfl, ⟨dv, okx⟩, by omega, by omega, fun H1 S1 => ?_⟩
        refine fun p np => ⟨upd_same, [(.inr "loop", .str "*"), (.inr "some", .str "+"), (.inr "maybe", .str "?")], rfl, by decide, ?_⟩
        rw [upd_upd]
        have sp := same_up (o := .dK (mergeK [] [(.inr "loop", .str "*"), (.inr "some", .str "+"), (.inr "maybe", .str "?")])) np
        refine ⟨_, rfl, a, _, 0, .str (Kd.s .some), rfl, rfl, same_seqT (S1.trans sp) ht, at0, p, .str "+", rfl, DGet.k (k := Sum.inr "some") upd_same, ?_⟩
        exact mark "+" _ (by nofun) (by nofun) rfl (by decide) (S1.trans sp)
      | maybe =>
        refine ⟨_, rfl, a, _, 0, .str (Kd.s .maybe), rfl, rfl, ht, at0, rfl, _, rfl, ?_⟩
        refine iteF ?_
        refine ⟨_, rfl, a, _, 0, .str (Kd.s .maybe), rfl, rfl, ht, at0, rfl, _, rfl, ?_⟩
        refine iteF ?_
        refine ⟨_, rfl, a, _, 0, .str (Kd.s .maybe), rfl, rfl, ht, at0, rfl, _, rfl, ?_⟩
        refine iteF ?_
        refine ⟨_, rfl, a, _, 0, .str (Kd.s .maybe), rfl, rfl, ht, at0, rfl, _, rfl, ?_⟩
        refine iteF ?_
        obtain ⟨x, v, r, rfl, hv, dv⟩ := first
        have hx0 : hX x ≤ hXs (x :: r) := hXs_get (i := 0) rfl
        have okx := okXs_get (i := 0) ok.2 rfl
        refine ⟨_, rfl, a, _, 1, v, rfl, rfl, ht, at1 hv, v, x, rfl, ⟨dv, okx⟩, by omega, by omega, fun H1 S1 => ?_⟩
        refine fun p np => ⟨upd_same, [(.inr "loop", .str "*"), (.inr "some", .str "+"), (.inr "maybe", .str "?")], rfl, by decide, ?_⟩
        rw [upd_upd]
        have sp := same_up (o := .dK (mergeK [] [(.inr "loop", .str "*"), (.inr "some", .str "+"), (.inr "maybe", .str "?")])) np
        refine ⟨_, rfl, a, _, 0, .str (Kd.s .maybe), rfl, rfl, same_seqT (S1.trans sp) ht, at0, p, .str "?", rfl, DGet.k (k := Sum.inr "maybe") upd_same, ?_⟩
        exact mark "?" _ (by nofun) (by nofun) rfl (by decide) (S1.trans sp)
end
end Vk
set_option Elab.async false
set_option linter.all false
set_option maxRecDepth 100000
set_option maxHeartbeats 4000000
namespace Vk
open PySem PySem.Spec PyProof.Rows L2 Vt PySem.Vx Vs1 ClX
/-! ## how a text is read, sign by sign -/
inductive Aw where
  | part | fin | gap | bar | fork
def Aw.s : Aw → Str
  | .part => "part"
  | .fin => "end"
  | .gap => "gap"
  | .bar => "bar"
  | .fork => "fork"
inductive Jn where
  | no | row | cho
def Jn.s : Jn → Str
  | .no => ""
  | .row => "row"
  | .cho => "choice"
inductive Stp where
  | one : Stp
  | lt (c : Nat) : Stp
  | nd (k : Kd) (n : Nat) : Stp
structure Rd where
  aw : Aw
  ks : List (Jn × Nat)
  out : List Stp
def bump : List (Jn × Nat) → List (Jn × Nat)
  | [] => []
  | (j, n) :: r => (j, n + 1) :: r
def setTop (j : Jn) : List (Jn × Nat) → List (Jn × Nat)
  | [] => []
  | (_, n) :: r => (j, n) :: r
def mkOf (c : Nat) : Option Kd := if c = 42 then some .loop else if c = 43 then some .some else if c = 63 then some .maybe else none
def Rd.build (s : Rd) (p : Stp) : Rd := ⟨.fin, bump s.ks, s.out ++ [p]⟩
def begR (s : Rd) (c : Nat) : Option Rd :=
  if c = 40 then some ⟨.part, (.no, 0) :: s.ks, s.out⟩
  else if c = 49 then some (s.build .one)
  else if 97 ≤ c ∧ c ≤ 122 then some (s.build (.lt c)) else none
def behJ : Jn → Aw
  | .no => .fork
  | .row => .part
  | .cho => .bar
def kdJ : Jn → Option Kd
  | .no => none
  | .row => some .row
  | .cho => some .cho
def goOn (s : Rd) (c : Nat) : Option Rd :=
  match mkOf c with
  | some k => some ⟨s.aw, s.ks, s.out ++ [.nd k 1]⟩
  | none => match s.ks with
    | [] => none
    | (j, n) :: r => if c = 32 then some ⟨behJ j, s.ks, s.out⟩ else if c = 41 then match kdJ j with
        | none => none
        | some k => some (Rd.build ⟨s.aw, r, s.out⟩ (.nd k n)) else none
def takeR (s : Rd) (c : Nat) : Option Rd :=
  match s.aw with
  | .fin => goOn s c
  | .gap => if c = 32 then some ⟨.part, s.ks, s.out⟩ else none
  | .bar => if c = 124 then some ⟨.gap, setTop .cho s.ks, s.out⟩ else none
  | .fork => if c = 124 then some ⟨.gap, setTop .cho s.ks, s.out⟩ else begR ⟨.fork, setTop .row s.ks, s.out⟩ c
  | .part => begR s c
def wholeR (s : Rd) : Bool := match s.aw, s.ks with
  | .fin, [] => true
  | _, _ => false
/-- the place that is wrong, or the steps -/
def outc : Rd → List Nat → Nat → Sum Nat (List Stp)
  | s, [], n => if wholeR s = true then .inr s.out else .inl n
  | s, c :: r, n => match takeR s c with
    | none => .inl n
    | some s' => outc s' r (n + 1)
theorem outc_nil {s : Rd} {n : Nat} (h : wholeR s = false) : outc s [] n = .inl n := by rw [outc, h] <;> rfl
theorem outc_end {s : Rd} {n : Nat} (h : wholeR s = true) : outc s [] n = .inr s.out := by rw [outc, h] <;> rfl
theorem outc_cons {s s' : Rd} {c : Nat} {r : List Nat} {n : Nat} (h : takeR s c = some s') : outc s (c :: r) n = outc s' r (n + 1) := by rw [outc, h]
theorem outc_bad {s : Rd} {c : Nat} {r : List Nat} {n : Nat} (h : takeR s c = none) : outc s (c :: r) n = .inl n := by rw [outc, h]
/-! ## what an expression's steps are -/
def okNY : Kd → Nat → Bool
  | .row, n => decide (2 ≤ n)
  | .cho, n => decide (2 ≤ n)
  | _, n => decide (n = 1)
mutual
def okY : Xp → Bool
  | .one => true
  | .lt c => decide (97 ≤ c) && decide (c ≤ 122)
  | .nd k ps => okNY k ps.length && okYs ps
def okYs : List Xp → Bool
  | [] => true
  | x :: r => okY x && okYs r
end
mutual
def post : Xp → List Stp
  | .one => [.one]
  | .lt c => [.lt c]
  | .nd k ps => posts ps ++ [.nd k ps.length]
def posts : List Xp → List Stp
  | [] => []
  | x :: r => post x ++ posts r
end
theorem posts_app : ∀ (a b : List Xp), posts (a ++ b) = posts a ++ posts b
  | [], b => rfl
  | x :: r, b => by rw [List.cons_append, posts, posts, posts_app r b, List.append_assoc]
theorem okYs_app : ∀ (a b : List Xp), okYs (a ++ b) = (okYs a && okYs b)
  | [], b => rfl
  | x :: r, b => by rw [List.cons_append, okYs, okYs, okYs_app r b, Bool.and_assoc]
theorem lnXs_app (a b : List Xp) : lnXs (a ++ b) = lnXs a ++ lnXs b := by rw [lnXs_map, lnXs_map, lnXs_map, List.map_append]
def cL (z : Str) : List Nat := z.cps.toList
theorem cL_app (a b : Str) : cL (a ++ b) = cL a ++ cL b := Array.toList_append
theorem cL_join1 (s z : Str) : cL (Txt.join s [z]) = cL z := by
  show cL (Builtin.Str.glued s [z]) = _
  rw [StrLaws.glued_eq_join]
  rfl
theorem cL_join (s z : Str) (zs : List Str) (y : Str) (h : zs ≠ []) : cL (Txt.join s (zs ++ [y])) = cL (Txt.join s zs) ++ cL s ++ cL y := by
  show cL (Builtin.Str.glued s (zs ++ [y])) = cL (Builtin.Str.glued s zs) ++ _ ++ _
  rw [StrLaws.glued_eq_join, StrLaws.glued_eq_join]
  clear z
  induction zs with
  | nil => exact absurd rfl h
  | cons a r ih =>
    cases r with
    | nil =>
      show cL (a ++ s ++ Str.join s [y]) = cL a ++ cL s ++ cL y
      rw [cL_app, cL_app]
      rfl
    | cons b r =>
      show cL (a ++ s ++ Str.join s (b :: r ++ [y])) = cL (a ++ s ++ Str.join s (b :: r)) ++ _ ++ _
      rw [cL_app, cL_app, cL_app, cL_app, ih (by nofun)]
      simp
/-! ## a part of a text -/
def noMark (r : List Nat) : Prop := ∀ c r', r = c :: r' → mkOf c = none
def isCho : Kd → Str
  | .row => " "
  | _ => " | "
structure PGood (d : List Nat) (at' : Nat) (x : Xp) (r : List Nat) (e : Nat) : Prop where
  tx : d = cL (lnX x) ++ r
  en : e = at' + (cL (lnX x)).length
  ok : okY x = true
  run : ∀ ks o, outc ⟨.part, ks, o⟩ d at' = outc ⟨.fin, bump ks, o ++ post x⟩ r e
def PBad (d : List Nat) (at' b : Nat) : Prop := ∀ ks o, outc ⟨.part, ks, o⟩ d at' = .inl b
structure IGood (d : List Nat) (at' : Nat) (k : Kd) (xs : List Xp) (r : List Nat) (e : Nat) : Prop where
  kd : k = .row ∨ k = .cho
  tx : d = cL (Txt.join (isCho k) (lnXs xs)) ++ 41 :: r
  en : e = at' + (cL (Txt.join (isCho k) (lnXs xs))).length + 1
  ok : okYs xs = true
  two : 2 ≤ xs.length
  run : ∀ ks o, outc ⟨.part, (.no, 0) :: ks, o⟩ d at' = outc ⟨.fin, bump ks, o ++ posts xs ++ [.nd k xs.length]⟩ r e
def IBad (d : List Nat) (at' b : Nat) : Prop := ∀ ks o, outc ⟨.part, (.no, 0) :: ks, o⟩ d at' = .inl b
theorem pbad_nil {n : Nat} : PBad [] n n := fun _ _ => outc_nil rfl
theorem pbad_sign {c : Nat} {r : List Nat} {n : Nat} (h1 : c ≠ 40) (h2 : c ≠ 49) (h3 : ¬ (97 ≤ c ∧ c ≤ 122)) : PBad (c :: r) n n := fun ks o => outc_bad (by
  show begR _ c = none
  rw [begR, if_neg h1, if_neg h2, if_neg h3])
theorem pbad_inner {r : List Nat} {n b : Nat} (h : IBad r (n + 1) b) : PBad (40 :: r) n b := fun ks o => by
  rw [outc_cons (s' := ⟨.part, (.no, 0) :: ks, o⟩) rfl]
  exact h ks o
theorem pgood_one {r : List Nat} {n : Nat} : PGood (49 :: r) n .one r (n + 1) := ⟨rfl, rfl, rfl, fun ks o => outc_cons rfl⟩
theorem pgood_lt {c : Nat} {r : List Nat} {n : Nat} (h : 97 ≤ c ∧ c ≤ 122) : PGood (c :: r) n (.lt c) r (n + 1) := ⟨rfl, rfl, by rw [okY, decide_eq_true h.1, decide_eq_true h.2] <;> rfl, fun ks o => outc_cons (by
  show begR _ c = _
  rw [begR, if_neg (by omega), if_neg (by omega), if_pos h]
  rfl)⟩
theorem pgood_inner {k : Kd} {xs : List Xp} {d r : List Nat} {n e : Nat} (h : IGood d (n + 1) k xs r e) : PGood (40 :: d) n (.nd k xs) r e := by
  have tx : cL (lnX (.nd k xs)) = 40 :: (cL (Txt.join (isCho k) (lnXs xs)) ++ [41]) := by
    rw [lnX]
    rcases h.kd with rfl | rfl
    · show cL (("(" : Str) ++ Txt.join (" " : Str) (lnXs xs) ++ (")" : Str)) = _
      rw [cL_app, cL_app]
      rfl
    · show cL (("(" : Str) ++ Txt.join (" | " : Str) (lnXs xs) ++ (")" : Str)) = _
      rw [cL_app, cL_app]
      rfl
  refine ⟨?_, ?_, ?_, fun ks o => ?_⟩
  · rw [tx]
    have := h.tx
    simp only [List.cons_append, List.append_assoc, List.nil_append]
    rw [← this]
  · rw [tx, h.en]
    simp only [List.length_cons, List.length_append, List.length_nil]
    omega
  · rw [okY, h.ok, Bool.and_true]
    rcases h.kd with rfl | rfl <;> exact decide_eq_true h.two
  · rw [outc_cons (s' := ⟨.part, (.no, 0) :: ks, o⟩) rfl, h.run, post, List.append_assoc]
/-- one mark more -/
theorem pgood_mark {d r : List Nat} {n e c : Nat} {x : Xp} {k : Kd} (h : PGood d n x (c :: r) e) (hk : mkOf c = some k) : PGood d n (.nd k [x]) r (e + 1) := by
  have tx : cL (lnX (.nd k [x])) = cL (lnX x) ++ [c] := by
    rw [lnX]
    unfold mkOf at hk
    split at hk
    · rename_i e
      cases hk
      subst e
      show cL (lnX x ++ ("*" : Str)) = _
      rw [cL_app] <;> rfl
    · split at hk
      · rename_i e
        cases hk
        subst e
        show cL (lnX x ++ ("+" : Str)) = _
        rw [cL_app] <;> rfl
      · split at hk
        · rename_i e
          cases hk
          subst e
          show cL (lnX x ++ ("?" : Str)) = _
          rw [cL_app] <;> rfl
        · cases hk
  refine ⟨?_, ?_, ?_, fun ks o => ?_⟩
  · rw [tx, h.tx, List.append_assoc] <;> rfl
  · rw [tx, h.en, List.length_append]
    show _ = n + (_ + 1)
    omega
  · rw [okY, okYs, okYs, h.ok]
    unfold mkOf at hk
    split at hk
    · cases hk; rfl
    · split at hk
      · cases hk; rfl
      · split at hk
        · cases hk; rfl
        · cases hk
  · rw [h.run, outc_cons (s' := ⟨.fin, bump ks, o ++ post x ++ [.nd k 1]⟩) (by
      show goOn _ c = _
      rw [goOn, hk]), post, posts, posts, List.append_nil, List.append_assoc] <;> rfl
/-! ## what stands behind a part, within brackets -/
/-- within brackets: parts so far, how they are joined -/
structure IAt (d : List Nat) (at' : Nat) (j : Jn) (xs : List Xp) (d2 : List Nat) (at2 : Nat) : Prop where
  kd : (j = .no ∧ xs = [] ∧ d = d2 ∧ at2 = at') ∨ (∃ k, kdJ j = some k ∧ xs ≠ [] ∧ d = cL (Txt.join (isCho k) (lnXs xs)) ++ cL (isCho k) ++ d2 ∧ at2 = at' + (cL (Txt.join (isCho k) (lnXs xs)) ++ cL (isCho k)).length)
  ok : okYs xs = true
  run : ∀ ks o, outc ⟨.part, (.no, 0) :: ks, o⟩ d at' = outc ⟨.part, (j, xs.length) :: ks, o ++ posts xs⟩ d2 at2
theorem iat_start {d : List Nat} {n : Nat} : IAt d n .no [] d n := ⟨.inl ⟨rfl, rfl, rfl, rfl⟩, rfl, fun ks o => by rw [posts, List.append_nil] <;> rfl⟩
section
variable {d d2 r : List Nat} {n n2 e b : Nat} {j : Jn} {xs : List Xp} {x : Xp}
theorem iat_bad (h : IAt d n j xs d2 n2) (p : PBad d2 n2 b) : IBad d n b := fun ks o => by rw [h.run, p]
/-- behind the next part -/
theorem iat_run (h : IAt d n j xs d2 n2) (p : PGood d2 n2 x r e) : ∀ ks o, outc ⟨.part, (.no, 0) :: ks, o⟩ d n = outc ⟨.fin, (j, xs.length + 1) :: ks, o ++ posts (xs ++ [x])⟩ r e := fun ks o => by
  rw [h.run, p.run, posts_app, posts, posts, List.append_nil, List.append_assoc] <;> rfl
theorem iat_end (h : IAt d n j xs d2 n2) (p : PGood d2 n2 x [] e) : IBad d n e := fun ks o => by
  rw [iat_run h p]
  exact outc_nil rfl
theorem take_close {k : Kd} {m : Nat} {ks : List (Jn × Nat)} {o : List Stp} (hk : kdJ j = some k) : takeR ⟨.fin, (j, m) :: ks, o⟩ 41 = some ⟨.fin, bump ks, o ++ [.nd k m]⟩ := by
  cases j <;> cases hk <;> rfl
theorem iat_text (h : IAt d n j xs d2 n2) (p : PGood d2 n2 x r e) : (j = .no ∧ xs = [] ∧ d = cL (lnX x) ++ r ∧ e = n + (cL (lnX x)).length) ∨ ∃ k, kdJ j = some k ∧ xs ≠ [] ∧ d = cL (Txt.join (isCho k) (lnXs (xs ++ [x]))) ++ r ∧ e = n + (cL (Txt.join (isCho k) (lnXs (xs ++ [x])))).length := by
  rcases h.kd with ⟨h1, h2, h3, h4⟩ | ⟨k, h1, h2, h3, h4⟩
  · exact .inl ⟨h1, h2, by rw [h3]; exact p.tx, by rw [p.en, h4]⟩
  · refine .inr ⟨k, h1, h2, ?_, ?_⟩
    · rw [h3, p.tx, lnXs_app]
      show _ = cL (Txt.join (isCho k) (lnXs xs ++ [lnX x])) ++ r
      rw [cL_join _ "" _ _ (fun z => h2 (List.eq_nil_of_length_eq_zero (by rw [← lnXs_len, z] <;> rfl)))]
      simp only [List.append_assoc]
    · rw [p.en, h4, lnXs_app]
      show _ = n + (cL (Txt.join (isCho k) (lnXs xs ++ [lnX x]))).length
      rw [cL_join _ "" _ _ (fun z => h2 (List.eq_nil_of_length_eq_zero (by rw [← lnXs_len, z] <;> rfl)))]
      simp only [List.length_append]
      omega
/-- the bracket that closes it -/
theorem iat_close (h : IAt d n j xs d2 n2) (p : PGood d2 n2 x (41 :: r) e) : (xs = [] ∧ IBad d n e) ∨ (xs ≠ [] ∧ ∃ k, IGood d n k (xs ++ [x]) r (e + 1)) := by
  rcases iat_text h p with ⟨h1, h2, _⟩ | ⟨k, h1, h2, h3, h4⟩
  · refine .inl ⟨h2, fun ks o => ?_⟩
    rw [iat_run h p, h1]
    exact outc_bad rfl
  · refine .inr ⟨h2, k, ?_, h3, by rw [h4] <;> rfl, ?_, ?_, fun ks o => ?_⟩
    · cases j <;> cases h1
      · exact .inl rfl
      · exact .inr rfl
    · rw [okYs_app, h.ok, okYs, p.ok] <;> rfl
    · rw [List.length_append]
      have : xs.length ≠ 0 := fun z => h2 (List.eq_nil_of_length_eq_zero z)
      show 2 ≤ xs.length + 1
      omega
    · rw [iat_run h p, outc_cons (take_close h1), List.length_append] <;> rfl
theorem iat_sign {c : Nat} (h : IAt d n j xs d2 n2) (p : PGood d2 n2 x (c :: r) e) (h1 : c ≠ 41) (h2 : c ≠ 32) (hm : mkOf c = none) : IBad d n e := fun ks o => by
  rw [iat_run h p]
  refine outc_bad ?_
  show goOn _ c = none
  rw [goOn, hm]
  show (if c = 32 then _ else if c = 41 then _ else none) = none
  rw [if_neg h2, if_neg h1]
theorem take_blank {m : Nat} {ks : List (Jn × Nat)} {o : List Stp} : takeR ⟨.fin, (j, m) :: ks, o⟩ 32 = some ⟨behJ j, (j, m) :: ks, o⟩ := rfl
theorem iat_blank (h : IAt d n j xs d2 n2) (p : PGood d2 n2 x [32] e) : IBad d n (e + 1) := fun ks o => by
  rw [iat_run h p, outc_cons take_blank]
  exact outc_nil (by cases j <;> rfl)
/-- another joint than before -/
theorem iat_other {c : Nat} (h : IAt d n j xs d2 n2) (p : PGood d2 n2 x (32 :: c :: r) e) (hj : (j = .row ∧ c = 124) ∨ (j = .cho ∧ c ≠ 124)) : IBad d n (e + 1) := fun ks o => by
  rw [iat_run h p, outc_cons take_blank]
  refine outc_bad ?_
  rcases hj with ⟨rfl, rfl⟩ | ⟨rfl, hc⟩
  · rfl
  · show (if c = 124 then _ else none) = none
    rw [if_neg hc]
theorem ne_app {xs : List Xp} {x : Xp} : xs ++ [x] ≠ [] := by simp
/-- a row goes on -/
theorem iat_row {c : Nat} (h : IAt d n j xs d2 n2) (p : PGood d2 n2 x (32 :: c :: r) e) (hj : j ≠ .cho) (hc : c ≠ 124) : IAt d n .row (xs ++ [x]) (c :: r) (e + 1) := by
  refine ⟨.inr ⟨.row, rfl, ne_app, ?_⟩, by rw [okYs_app, h.ok, okYs, p.ok] <;> rfl, fun ks o => ?_⟩
  · rcases iat_text h p with ⟨h1, h2, h3, h4⟩ | ⟨k, h1, h2, h3, h4⟩
    · subst h2
      have e1 : cL (Txt.join (isCho .row) (lnXs ([] ++ [x]))) = cL (lnX x) := cL_join1 _ _
      rw [e1]
      refine ⟨by rw [h3, List.append_assoc] <;> rfl, ?_⟩
      rw [List.length_append, h4]
      rfl
    · have e2 : k = .row := by
        cases j
        · cases h1
        · cases h1; rfl
        · exact absurd rfl hj
      subst e2
      refine ⟨by rw [h3, List.append_assoc] <;> rfl, ?_⟩
      rw [List.length_append, h4]
      rfl
  · rw [iat_run h p, outc_cons take_blank, List.length_append]
    cases j with
    | no =>
      rw [outc, outc]
      show (match (if c = 124 then some _ else begR _ c) with | none => _ | some s' => outc s' r _) = _
      rw [if_neg hc]
      rfl
    | row => rfl
    | cho => exact absurd rfl hj
theorem iat_bar {j : Jn} {ks : List (Jn × Nat)} {o : List Stp} {m : Nat} (hj : j ≠ .row) : outc ⟨behJ j, (j, m) :: ks, o⟩ (124 :: r) n = outc ⟨.gap, (.cho, m) :: ks, o⟩ r (n + 1) := by
  cases j with
  | no => exact outc_cons rfl
  | row => exact absurd rfl hj
  | cho => exact outc_cons rfl
/-- a bar without a blank behind it -/
theorem iat_gap (h : IAt d n j xs d2 n2) (p : PGood d2 n2 x (32 :: 124 :: r) e) (hj : j ≠ .row) (hr : ∀ r', r ≠ 32 :: r') : IBad d n (e + 2) := fun ks o => by
  rw [iat_run h p, outc_cons take_blank, iat_bar hj]
  cases r with
  | nil => exact outc_nil rfl
  | cons c r' =>
    refine outc_bad ?_
    show (if c = 32 then _ else none) = none
    rw [if_neg (fun z => hr r' (by rw [z]))]
theorem iat_cho (h : IAt d n j xs d2 n2) (p : PGood d2 n2 x (32 :: 124 :: 32 :: r) e) (hj : j ≠ .row) : IAt d n .cho (xs ++ [x]) r (e + 3) := by
  refine ⟨.inr ⟨.cho, rfl, ne_app, ?_⟩, by rw [okYs_app, h.ok, okYs, p.ok] <;> rfl, fun ks o => ?_⟩
  · rcases iat_text h p with ⟨h1, h2, h3, h4⟩ | ⟨k, h1, h2, h3, h4⟩
    · subst h2
      have e1 : cL (Txt.join (isCho .cho) (lnXs ([] ++ [x]))) = cL (lnX x) := cL_join1 _ _
      rw [e1]
      refine ⟨by rw [h3, List.append_assoc] <;> rfl, ?_⟩
      rw [List.length_append, h4]
      rfl
    · have e2 : k = .cho := by
        cases j
        · cases h1
        · exact absurd rfl hj
        · cases h1; rfl
      subst e2
      refine ⟨by rw [h3, List.append_assoc] <;> rfl, ?_⟩
      rw [List.length_append, h4]
      rfl
  · rw [iat_run h p, outc_cons take_blank, iat_bar hj, outc_cons (s' := ⟨.part, (.cho, xs.length + 1) :: ks, o ++ posts (xs ++ [x])⟩) rfl, List.length_append] <;> rfl
end
/-! ## the whole text -/
def seenT (z : Str) : Sum Nat (List Stp) := outc ⟨.part, [], []⟩ (cL z) 0
theorem seen_bad {z : Str} {b : Nat} (p : PBad (cL z) 0 b) : seenT z = .inl b := p _ _
theorem seen_more {z : Str} {x : Xp} {c e : Nat} {r : List Nat} (p : PGood (cL z) 0 x (c :: r) e) (hm : mkOf c = none) : seenT z = .inl e := by
  show outc _ _ _ = _
  rw [p.run]
  refine outc_bad ?_
  show goOn _ c = none
  rw [goOn, hm]
  rfl
theorem seen_fine {z : Str} {x : Xp} {e : Nat} (p : PGood (cL z) 0 x [] e) : seenT z = .inr (post x) ∧ z = lnX x := by
  refine ⟨?_, ?_⟩
  · show outc _ _ _ = _
    rw [p.run, outc_end rfl, List.nil_append]
  · have := p.tx
    rw [List.append_nil] at this
    exact Str.ext' (Array.toList_inj.mp this)
end Vk
set_option Elab.async false
set_option linter.all false
set_option maxRecDepth 100000
set_option maxHeartbeats 4000000
namespace Vk
open PySem PySem.Spec PyProof.Rows L2 Vt PySem.Vx Vs1 ClX
abbrev sPart : Stmt := top8 40
abbrev sInner : Stmt := top8 41
abbrev sDue : Stmt := top8 42
theorem drop_cons {l r : List Nat} {n c : Nat} (h : l.drop n = c :: r) : l[n]? = some c ∧ l.drop (n + 1) = r ∧ n < l.length := by
  have hn : n < l.length := by
    rcases Nat.lt_or_ge n l.length with z | z
    · exact z
    · rw [List.drop_of_length_le z] at h
      cases h
  rw [List.drop_eq_getElem_cons hn] at h
  injection h with h1 h2
  exact ⟨by rw [List.getElem?_eq_getElem hn, h1], h2, hn⟩
theorem drop_nil {l : List Nat} {n : Nat} (h : l.drop n = []) : l.length ≤ n := by
  rcases Nat.lt_or_ge n l.length with z | z
  · rw [List.drop_eq_getElem_cons z] at h
    cases h
  · exact z
theorem drop_of {l u r : List Nat} {n : Nat} (hn : n ≤ l.length) (h : l.drop n = u ++ r) : r = l.drop (n + u.length) ∧ n + u.length ≤ l.length := by
  have e : (u ++ r).drop u.length = r := List.drop_left
  rw [← h, List.drop_drop] at e
  have len := congrArg List.length h
  rw [List.length_drop, List.length_append] at len
  exact ⟨e.symm, by omega⟩
theorem pg_drop {l r : List Nat} {n e : Nat} {x : Xp} (hn : n ≤ l.length) (p : PGood (l.drop n) n x r e) : r = l.drop e ∧ e ≤ l.length ∧ n ≤ e := by
  have := drop_of hn p.tx
  rw [← p.en] at this
  exact ⟨this.1, this.2, by rw [p.en]; omega⟩
theorem ig_drop {l r : List Nat} {n e : Nat} {k : Kd} {xs : List Xp} (hn : n ≤ l.length) (p : IGood (l.drop n) n k xs r e) : r = l.drop e ∧ e ≤ l.length ∧ n ≤ e := by
  have t := p.tx
  rw [show cL (Txt.join (isCho k) (lnXs xs)) ++ 41 :: r = (cL (Txt.join (isCho k) (lnXs xs)) ++ [41]) ++ r from by rw [List.append_assoc] <;> rfl] at t
  have := drop_of hn t
  rw [List.length_append, ← Nat.add_assoc] at this
  rw [show n + (cL (Txt.join (isCho k) (lnXs xs))).length + [41].length = e from p.en.symm] at this
  exact ⟨this.1, this.2, by rw [p.en]; omega⟩
theorem count_drop (l : List Nat) (n m : Nat) : (l.drop (n + m)).count 40 ≤ (l.drop n).count 40 := by
  rw [← List.drop_drop]
  exact (List.drop_sublist m (l.drop n)).count_le 40
theorem count_le {l : List Nat} {n e : Nat} (h : n ≤ e) : (l.drop e).count 40 ≤ (l.drop n).count 40 := by
  have := count_drop l n (e - n)
  rwa [show n + (e - n) = e by omega] at this
theorem mark_in (c : Nat) : (mkOf c).isSome = decide (c ∈ ("*+?" : Str).cps.toList) := by
  show _ = decide (c ∈ [42, 43, 63])
  unfold mkOf
  by_cases h1 : c = 42
  · subst h1; rfl
  · by_cases h2 : c = 43
    · subst h2; rfl
    · by_cases h3 : c = 63
      · subst h3; rfl
      · rw [if_neg h1, if_neg h2, if_neg h3]
        simp [h1, h2, h3]
theorem sg_lit {c d : Nat} : decide (V.str (sg c) = V.str ⟨#[d]⟩) = decide (c = d) := sg_dec c d
def jL : Jn → Str
  | .no => ""
  | .row => "row"
  | .cho => "bar"
theorem cut_one (z : Str) (n : Nat) : cL (cutS z (some (n : Int)) (some ((n + 1 : Nat) : Int))) = ((cL z).drop n).take 1 := by
  have zl : z.length = (cL z).length := by show z.cps.size = _; rw [cL, Array.length_toList]
  show (((cL z).drop (HT.sIx z.length 0 (some (n : Int)))).take (HT.sIx z.length z.length (some ((n + 1 : Nat) : Int)) - HT.sIx z.length 0 (some (n : Int)))).toArray.toList = _
  rw [HT.sIx_nat, HT.sIx_nat]
  show ((cL z).drop _).take _ = _
  by_cases h : n < z.length
  · rw [Nat.min_eq_left (by omega), Nat.min_eq_left (by omega), show n + 1 - n = 1 by omega]
  · rw [Nat.min_eq_right (by omega : z.length ≤ n), Nat.min_eq_right (by omega), Nat.sub_self, List.take_zero, List.drop_of_length_le (by omega : (cL z).length ≤ n), List.take_nil]
theorem cut_blank (z : Str) (n : Nat) : decide (V.str (cutS z (some (n : Int)) (some ((n + 1 : Nat) : Int))) = V.str " ") = decide (((cL z).drop n).take 1 = [32]) := by
  rw [Bool.eq_iff_iff, decide_eq_true_eq, decide_eq_true_eq, ← cut_one]
  exact ⟨fun e => by rw [V.str.inj e] <;> rfl, fun e => congrArg V.str (Str.ext' (Array.toList_inj.mp e))⟩
section
variable {P : Program} {w : World} {K : PySem.W.Frag} {mg : Str → Option Value} {base : Heap}
/-- what is said of a part -/
def spPart (j : Nat) : Sp := fun vs H Q _ => ∃ (z : Str) (n : Nat), vs = [.str z, .int (n : Int)] ∧ z.length ≤ 6000 ∧ n ≤ z.length ∧ ((cL z).drop n).count 40 + 1 ≤ j ∧
  (∀ (b : Nat) (p : Addr) (H' : Hp), PBad ((cL z).drop n) n b → Same H H' → H' p = some (.tup [.non, .int (b : Int)]) → Q (.ref p) H') ∧
  (∀ (x : Xp) (r : List Nat) (e : Nat) (p : Addr) (H' : Hp), PGood ((cL z).drop n) n x r e → noMark r → Same H H' → H' p = some (.tup [.int (e : Int), .int (e : Int)]) → Q (.ref p) H')
def spInner (j : Nat) : Sp := fun vs H Q _ => ∃ (z : Str) (n : Nat), vs = [.str z, .int (n : Int)] ∧ z.length ≤ 6000 ∧ n ≤ z.length ∧ ((cL z).drop n).count 40 + 1 ≤ j ∧
  (∀ (b : Nat) (p : Addr) (H' : Hp), IBad ((cL z).drop n) n b → Same H H' → H' p = some (.tup [.non, .int (b : Int)]) → Q (.ref p) H') ∧
  (∀ (k : Kd) (xs : List Xp) (r : List Nat) (e : Nat) (p : Addr) (H' : Hp), IGood ((cL z).drop n) n k xs r e → Same H H' → H' p = some (.tup [.int (e : Int), .int (e : Int)]) → Q (.ref p) H')
theorem scPt : FnScope ["_law_line_now", "_law_at", "_law_sign", "_law_end", "_law_bad"] ["_law_line_now", "_law_at"] (defScope sPart) := ⟨rfl, rfl, rfl, by decide +kernel, rfl, by decide +kernel, by decide +kernel⟩
theorem scIn : FnScope ["_law_line_now", "_law_at", "_law_joint", "_law_count", "_law_bad", "_law_now_joint"] ["_law_line_now", "_law_at"] (defScope sInner) := ⟨rfl, rfl, rfl, by decide +kernel, rfl, by decide +kernel, by decide +kernel⟩
theorem part_step {f fIn : Addr} {fd fdIn : FuncData} (F : Fun K "_law_part" "_law_part" sPart f fd) (T : Txt8 K mg) (j lv : Nat)
    (GIn : FnOk P w K mg base CX0 lv fIn fdIn ["_law_line_now", "_law_at"] (spInner j)) (gIn : mg "_law_inner" = some (.ref fIn)) (kIn : PySem.W.keepIn K (.ref fIn) = true) (bIn : Binds K fdIn ["_law_line_now", "_law_at"] []) :
    FnOk P w K mg base CX0 (lv + 1) f fd ["_law_line_now", "_law_at"] (spPart (j + 1)) := by
  refine F.ok scPt (fun vs H Q E h => ?_) (fun cdv A outer s H vs Q E hr h => ?_)
  · obtain ⟨z, n, rfl, _⟩ := h
    rfl
  · obtain ⟨z, n, rfl, hz, hn, hj, kB, kG⟩ := h
    have zl : z.length = (cL z).length := by show z.cps.size = _; rw [cL, Array.length_toList]
    have zs : z.length ≤ sizeLine := by rw [sizeLine_eq]; omega
    have tail : ∃ t, PSs (cxOf CX0 P w K mg base ["_law_line_now", "_law_at", "_law_sign", "_law_end", "_law_bad"] "_law_part" (defScope sPart) f cdv A outer s H E).nox ((defBody sPart).drop 3) t ∧ ∀ (x : Xp) (r : List Nat) (e : Nat) (x2 x3 x4 : Option V) (H' : Hp), PGood ((cL z).drop n) n x r e → Same H H' →
        t { nx := fun _ H' => Q .non H', rt := Q } [some (.str z), some (.int (e : Int)), x2, x3, x4] H' := by
      refine ⟨_, (pss_cons (ps_while PassesOwn.never (PW.pt (pw_and (pt_cmpR op_lt (pv 1) (pe_callB call_len_str (by rfl) T.len PySem.boot_len (pa_cons (pv 0) pa_nil)) (nomark _)) (pw_and1 (pt_cmpR op_in_sign (pe_ix ix_str (pv 0) (pv 1) (fun _ _ => rfl)) pe_str (by rfl))))) (pss_one (ps_set (i := 1) scPt.nd rfl (.inl rfl) (pe_op op_add (pv 1) pe_int))))
        (pss_one (ps_ret (pe_tup (pa_cons (pv 1) (pa_cons (pv 1) pa_nil)))))), fun x r e x2 x3 x4 H' p S => ?_⟩
      refine ⟨fun m σ H2 => ∃ (x : Xp) (r : List Nat) (e : Nat), σ = [some (.str z), some (.int (e : Int)), x2, x3, x4] ∧ H2 = H' ∧ PGood ((cL z).drop n) n x r e ∧ m = r.length, ⟨_, x, r, e, rfl, rfl, p, rfl⟩, ?_⟩
      rintro m σ H2 ⟨x, r, e, rfl, rfl, p, rfl⟩
      obtain ⟨q1, q2, q3⟩ := pg_drop (by rw [← zl]; exact hn) p
      refine ⟨_, rfl, _, rfl, z, rfl, zs, _, _, rfl, rfl, _, rfl, ?_⟩
      cases r with
      | nil =>
        have := drop_nil q1.symm
        rw [decide_eq_false (by omega : ¬ ((e : Int) < (z.length : Int)))]
        refine iteF ?_
        refine iteF ?_
        refine ⟨_, rfl, _, rfl, by show 2 ≤ sizeLine; decide, fun t nt => ?_⟩
        exact kG x [] e t _ p (fun c r' h => by cases h) (S.trans (same_up nt)) upd_same
      | cons c r =>
        obtain ⟨d1, d2, d3⟩ := drop_cons q1.symm
        rw [decide_eq_true (by omega : ((e : Int) < (z.length : Int)))]
        refine iteT ?_
        refine ⟨_, rfl, _, rfl, z, _, c, rfl, rfl, zs, atI_nat d1, c, "*+?", rfl, rfl, _, rfl, ?_⟩
        rw [← mark_in]
        cases hk : mkOf c with
        | none =>
          refine iteF ?_
          refine ⟨_, rfl, _, rfl, by show 2 ≤ sizeLine; decide, fun t nt => ?_⟩
          refine kG x (c :: r) e t _ p (fun c' r' h => ?_) (S.trans (same_up nt)) upd_same
          cases h
          exact hk
        | some k =>
          refine iteT ?_
          refine ⟨_, fun _ _ h => h, ?_⟩
          refine ⟨_, rfl, _, _, rfl, rfl, ?_⟩
          exact ⟨r.length, Nat.lt_succ_self _, _, _, e + 1, rfl, rfl, pgood_mark p hk, rfl⟩
    obtain ⟨tE, hE, useE⟩ := tail
    refine ⟨_, (pss_cons (ps_if (pt_cmpR op_ge (pv 1) (pe_callB call_len_str (by rfl) T.len PySem.boot_len (pa_cons (pv 0) pa_nil)) (nomark _)) (pss_one (ps_ret (pe_tup (pa_cons pe_non (pa_cons (pe_callB call_len_str (by rfl) T.len PySem.boot_len (pa_cons (pv 0) pa_nil)) pa_nil))))) pss_nil)
        (pss_cons (ps_set (i := 2) scPt.nd rfl (.inl rfl) (pe_ix ix_str (pv 0) (pv 1) (fun _ _ => rfl)))
        (pss_cons (ps_if (pt_cmpR op_eq (pv 2) pe_str (nomark _)) (pss_cons (ps_asg (pe_call GIn hr rfl gIn kIn bIn .nil pass0 (pa_cons (pv 0) (pa_cons (pe_op op_add (pv 1) pe_int) pa_nil))) (pg_tup rfl (pgs_cons (pg_name (i := 3) scPt.nd rfl (.inl rfl)) (pgs_cons (pg_name (i := 4) scPt.nd rfl (.inl rfl)) pgs_nil))))
        (pss_cons (ps_if (pt_cmpR op_isN (pv 3) pe_non (nomark _)) (pss_one (ps_ret (pe_tup (pa_cons pe_non (pa_cons (pv 4) pa_nil))))) pss_nil)
        (pss_one (ps_set (i := 1) scPt.nd rfl (.inl rfl) (pv 3))))) (pss_one (ps_if (PW.pt (pw_or (pt_cmpR op_eq (pv 2) pe_str (nomark _)) (pw_or1 (pt_chain op_le_str op_le_str pe_str (pv 2) pe_str)))) (pss_one (ps_set (i := 1) scPt.nd rfl (.inl rfl) (pe_op op_add (pv 1) pe_int))) (pss_one (ps_ret (pe_tup (pa_cons pe_non (pa_cons (pv 1) pa_nil))))))))
        hE))), ?_⟩
    refine ⟨_, rfl, _, rfl, z, rfl, zs, _, _, rfl, rfl, _, rfl, ?_⟩
    cases hd : (cL z).drop n with
    | nil =>
      have := drop_nil hd
      rw [decide_eq_true (by omega : ((z.length : Int) ≤ (n : Int)))]
      refine iteT ?_
      refine ⟨_, rfl, z, rfl, zs, by show 2 ≤ sizeLine; decide, fun t nt => ?_⟩
      have e : n = z.length := by omega
      refine kB z.length t _ ?_ (same_up nt) upd_same
      rw [hd, ← e]
      exact pbad_nil
    | cons c r =>
      obtain ⟨d1, d2, d3⟩ := drop_cons hd
      rw [decide_eq_false (by omega : ¬ ((z.length : Int) ≤ (n : Int)))]
      refine iteF ?_
      refine ⟨_, rfl, _, rfl, z, _, c, rfl, rfl, zs, atI_nat d1, ?_⟩
      refine ⟨_, rfl, rfl, _, rfl, ?_⟩
      rw [show decide (V.str ⟨#[c]⟩ = V.str "(") = decide (c = 40) from sg_dec c 40]
      refine ite2 (fun hc => ?_) (fun hc => ?_)
      · have hc := of_decide_eq_true hc
        subst hc
        have hcount : ((cL z).drop (n + 1)).count 40 + 1 ≤ j := by
          rw [hd] at hj
          rw [d2]
          simp at hj
          omega
        refine ⟨_, rfl, _, rfl, _, _, rfl, rfl, z, n + 1, rfl, hz, by omega, hcount, fun b p H1 hB S hp => ?_, fun k xs r' e p H1 hG S hp => ?_⟩
        · refine ⟨p, _, rfl, SqT.of hp, rfl, _, _, rfl, _, _, rfl, rfl, ?_⟩
          refine ⟨_, rfl, rfl, _, rfl, ?_⟩
          refine iteT ?_
          refine ⟨_, rfl, by show 2 ≤ sizeLine; decide, fun t nt => ?_⟩
          refine kB b t _ ?_ (S.trans (same_up nt)) upd_same
          rw [hd]
          rw [d2] at hB
          exact pbad_inner hB
        · refine ⟨p, _, rfl, SqT.of hp, rfl, _, _, rfl, _, _, rfl, rfl, ?_⟩
          refine ⟨_, rfl, rfl, _, rfl, ?_⟩
          refine iteF ?_
          refine ⟨_, rfl, ?_⟩
          rw [d2] at hG
          refine useE (.nd k xs) r' e _ _ _ _ ?_ S
          rw [hd]
          exact pgood_inner hG
      · have hc : c ≠ 40 := fun z => hc (decide_eq_true z)
        refine ⟨_, rfl, rfl, _, rfl, ?_⟩
        rw [show decide (V.str ⟨#[c]⟩ = V.str "1") = decide (c = 49) from sg_dec c 49]
        by_cases h1 : c = 49
        · subst h1
          refine iteT ?_
          refine iteT ?_
          refine ⟨_, rfl, _, _, rfl, rfl, ?_⟩
          refine useE .one r (n + 1) _ _ _ _ ?_ (Same.refl _)
          rw [hd]
          exact pgood_one
        · rw [decide_eq_false h1]
          refine iteF ?_
          have bad : ¬ (97 ≤ c ∧ c ≤ 122) → tRet (tTup (tCons (tC V.non) (tCons (tVar 1) tNil))) { nx := tE { nx := fun x H' => Q V.non H', rt := Q }, rt := Q } [some (.str z), some (.int (n : Int)), some (.str ⟨#[c]⟩), none, none] H := fun h3 => by
            refine ⟨_, rfl, by show 2 ≤ sizeLine; decide, fun t nt => ?_⟩
            refine kB n t _ ?_ (same_up nt) upd_same
            rw [hd]
            exact pbad_sign hc h1 h3
          refine ⟨_, rfl, _, _, rfl, rfl, _, rfl, ?_⟩
          have e1 : (!decide ((⟨#[c]⟩ : Str).cps.toList < ("a" : Str).cps.toList)) = decide (97 ≤ c) := lt_one
          by_cases h2 : 97 ≤ c
          · rw [e1, decide_eq_true h2]
            refine iteT ?_
            refine ⟨_, _, rfl, rfl, _, rfl, ?_⟩
            have e2 : (!decide (("z" : Str).cps.toList < (⟨#[c]⟩ : Str).cps.toList)) = decide (c ≤ 122) := lt_one
            by_cases h3 : c ≤ 122
            · rw [e2, decide_eq_true h3]
              refine iteT ?_
              refine ⟨_, rfl, _, _, rfl, rfl, ?_⟩
              refine useE (.lt c) r (n + 1) _ _ _ _ ?_ (Same.refl _)
              rw [hd]
              exact pgood_lt ⟨h2, h3⟩
            · rw [e2, decide_eq_false h3]
              refine iteF ?_
              exact bad fun z => h3 z.2
          · rw [e1, decide_eq_false h2]
            refine iteF ?_
            refine ⟨_, rfl, ?_⟩
            refine iteF ?_
            exact bad fun z => h2 z.1
/-- what follows behind a part, within brackets -/
theorem inner_step {f fPt : Addr} {fd fdPt : FuncData} (F : Fun K "_law_inner" "_law_inner" sInner f fd) (T : Txt8 K mg) (j lv : Nat)
    (GPt : FnOk P w K mg base CX0 lv fPt fdPt ["_law_line_now", "_law_at"] (spPart j)) (gPt : mg "_law_part" = some (.ref fPt)) (kPt : PySem.W.keepIn K (.ref fPt) = true) (bPt : Binds K fdPt ["_law_line_now", "_law_at"] []) :
    FnOk P w K mg base CX0 (lv + 1) f fd ["_law_line_now", "_law_at"] (spInner j) := by
  refine F.ok scIn (fun vs H Q E h => ?_) (fun cdv A outer s H vs Q E hr h => ?_)
  · obtain ⟨z, n, rfl, _⟩ := h
    rfl
  · obtain ⟨z, n, rfl, hz, hn, hj, kB, kG⟩ := h
    have zl : z.length = (cL z).length := by show z.cps.size = _; rw [cL, Array.length_toList]
    have zs : z.length ≤ sizeLine := by rw [sizeLine_eq]; omega
    refine ⟨_, (pss_cons (ps_asg (pe_tup (pa_cons pe_str (pa_cons pe_int pa_nil))) (pg_tup rfl (pgs_cons (pg_name (i := 2) scIn.nd rfl (.inl rfl)) (pgs_cons (pg_name (i := 3) scIn.nd rfl (.inl rfl)) pgs_nil))))
        (pss_cons (ps_while PassesOwn.never (pt_val pe_bl) (pss_cons (ps_asg (pe_call GPt hr rfl gPt kPt bPt .nil pass0 (pa_cons (pv 0) (pa_cons (pv 1) pa_nil))) (pg_tup rfl (pgs_cons (pg_name (i := 1) scIn.nd rfl (.inl rfl)) (pgs_cons (pg_name (i := 4) scIn.nd rfl (.inl rfl)) pgs_nil))))
        (pss_cons (ps_set (i := 3) scIn.nd rfl (.inl rfl) (pe_op op_add (pv 3) pe_int))
        (pss_cons (ps_if (PW.pt (pw_or (pt_cmpR op_isN (pv 1) pe_non (nomark _)) (pw_or1 (pt_cmpR op_ge (pv 1) (pe_callB call_len_str (by rfl) T.len PySem.boot_len (pa_cons (pv 0) pa_nil)) (nomark _))))) (pss_one (ps_ret (pe_tup (pa_cons pe_non (pa_cons (pe_ifExp (pt_cmpR op_isN (pv 1) pe_non (nomark _)) (pv 4) (pe_callB call_len_str (by rfl) T.len PySem.boot_len (pa_cons (pv 0) pa_nil))) pa_nil))))) pss_nil)
        (pss_cons (ps_if (pt_cmpR op_eq (pe_ix ix_str (pv 0) (pv 1) (fun _ _ => rfl)) pe_str (nomark _)) (pss_one (ps_ret (pe_ifExp (pt_cmpR op_gt (pv 3) pe_int (nomark _)) (pe_tup (pa_cons (pe_op op_add (pv 1) pe_int) (pa_cons (pe_op op_add (pv 1) pe_int) pa_nil))) (pe_tup (pa_cons pe_non (pa_cons (pv 1) pa_nil)))))) pss_nil)
        (pss_cons (ps_if (PW.pt (pw_or (pt_cmpR op_ne (pe_ix ix_str (pv 0) (pv 1) (fun _ _ => rfl)) pe_str (nomark _)) (pw_or1 (pt_cmpR op_eq (pe_op op_add (pv 1) pe_int) (pe_callB call_len_str (by rfl) T.len PySem.boot_len (pa_cons (pv 0) pa_nil)) (nomark _))))) (pss_one (ps_ret (pe_tup (pa_cons pe_non (pa_cons (pe_op op_add (pv 1) (pe_callTy call_int1 (by rfl) T.int (by decide +kernel) (pa_cons (pe_cmpR op_eq (pe_ix ix_str (pv 0) (pv 1) (fun _ _ => rfl)) pe_str (nomark _)) pa_nil))) pa_nil))))) pss_nil)
        (pss_cons (ps_set (i := 1) scIn.nd rfl (.inl rfl) (pe_op op_add (pv 1) pe_int))
        (pss_cons (ps_set (i := 5) scIn.nd rfl (.inl rfl) (pe_ifExp (pt_cmpR op_eq (pe_ix ix_str (pv 0) (pv 1) (fun _ _ => rfl)) pe_str (nomark _)) pe_str pe_str))
        (pss_cons (ps_if (pt_cmpR op_notIn_seq (pv 2) (pe_tup (pa_cons pe_str (pa_cons (pv 5) pa_nil))) (by rfl)) (pss_one (ps_ret (pe_tup (pa_cons pe_non (pa_cons (pv 1) pa_nil))))) pss_nil)
        (pss_cons (ps_set (i := 2) scIn.nd rfl (.inl rfl) (pv 5))
        (pss_one (ps_if (pt_cmpR op_eq (pv 2) pe_str (nomark _)) (pss_cons (ps_if (pt_cmpR op_ne (pe_slice sl_str (pv 0) (po_some (pe_op op_add (pv 1) pe_int)) (po_some (pe_op op_add (pv 1) pe_int))) pe_str (nomark _)) (pss_one (ps_ret (pe_tup (pa_cons pe_non (pa_cons (pe_op op_add (pv 1) pe_int) pa_nil))))) pss_nil)
        (pss_one (ps_set (i := 1) scIn.nd rfl (.inl rfl) (pe_op op_add (pv 1) pe_int)))) pss_nil))))))))))))
        (pss_one (ps_ret (pe_tup (pa_cons pe_non (pa_cons (pv 1) pa_nil))))))), ?_⟩
    refine ⟨by show 2 ≤ sizeLine; decide, fun q nq => ⟨q, _, rfl, SqT.of upd_same, rfl, _, _, rfl, _, _, rfl, rfl, ?_⟩⟩
    have S0 := same_up (o := .tup [.str "", .int 0]) nq
    generalize upd H q (.tup [.str "", .int 0]) = H0 at S0 ⊢
    refine ⟨fun m σ H2 => ∃ (jn : Jn) (xs : List Xp) (n2 : Nat) (x4 x5 : Option V), σ = [some (.str z), some (.int (n2 : Int)), some (.str (jL jn)), some (.int (xs.length : Int)), x4, x5] ∧ Same H H2 ∧ n ≤ n2 ∧ n2 ≤ z.length ∧ IAt ((cL z).drop n) n jn xs ((cL z).drop n2) n2 ∧ m = z.length - n2,
      ⟨_, .no, [], n, none, none, rfl, S0, Nat.le_refl _, hn, iat_start, rfl⟩, ?_⟩
    rintro m σ H2 ⟨jn, xs, n2, x4, x5, rfl, S, l1, l2, hI, rfl⟩
    refine ⟨_, rfl, ?_⟩
    refine iteT ?_
    refine ⟨_, fun _ _ h => h, ?_⟩
    refine ⟨_, rfl, _, rfl, z, n2, rfl, hz, l2, ?_, fun b p H3 hB S3 hp => ?_, fun x r e p H3 hG nm S3 hp => ?_⟩
    · have := count_le (l := cL z) l1
      omega
    · refine ⟨p, _, rfl, SqT.of hp, rfl, _, _, rfl, _, _, rfl, rfl, ?_⟩
      refine ⟨_, rfl, _, _, rfl, rfl, ?_⟩
      refine ⟨_, rfl, rfl, _, rfl, ?_⟩
      refine iteT ?_
      refine iteT ?_
      refine ⟨_, rfl, rfl, _, rfl, ?_⟩
      refine iteT ?_
      refine ⟨_, rfl, by show 2 ≤ sizeLine; decide, fun t nt => ?_⟩
      exact kB b t _ (iat_bad hI hB) (S.trans (S3.trans (same_up nt))) upd_same
    · obtain ⟨q1, q2, q3⟩ := pg_drop (by rw [← zl]; exact l2) hG
      have S4 := S.trans S3
      have ret : ∀ (D : Ends) (b : Nat) (i : Int) (x2 x3 x4 x5 : Option V) (H3 : Hp), Same H H3 → D.rt = Q → i = (b : Int) → IBad ((cL z).drop n) n b → tRet (tTup (tCons (tC V.non) (tCons (tVar 1) tNil))) D [some (.str z), some (.int i), x2, x3, x4, x5] H3 := fun D b i x2 x3 x4 x5 H3 S4 hD eb hB => by
        subst eb
        show tTup _ _ _ D.rt
        rw [hD]
        refine ⟨_, rfl, by show 2 ≤ sizeLine; decide, fun t nt => ?_⟩
        exact kB b t _ hB (S4.trans (same_up nt)) upd_same
      refine ⟨p, _, rfl, SqT.of hp, rfl, _, _, rfl, _, _, rfl, rfl, ?_⟩
      refine ⟨_, rfl, _, _, rfl, rfl, ?_⟩
      refine ⟨_, rfl, rfl, _, rfl, ?_⟩
      refine iteF ?_
      refine ⟨_, rfl, _, rfl, z, rfl, zs, _, _, rfl, rfl, _, rfl, ?_⟩
      cases r with
      | nil =>
        have := drop_nil q1.symm
        rw [decide_eq_true (by omega : ((z.length : Int) ≤ (e : Int)))]
        refine iteT ?_
        refine ⟨_, rfl, rfl, _, rfl, ?_⟩
        refine iteF ?_
        refine ⟨_, rfl, z, rfl, zs, by show 2 ≤ sizeLine; decide, fun t nt => ?_⟩
        refine kB z.length t _ ?_ (S4.trans (same_up nt)) upd_same
        have e1 : e = z.length := by omega
        rw [← e1]
        exact iat_end hI hG
      | cons c r =>
        obtain ⟨d1, d2, d3⟩ := drop_cons q1.symm
        rw [decide_eq_false (by omega : ¬ ((z.length : Int) ≤ (e : Int)))]
        refine iteF ?_
        refine ⟨_, rfl, _, rfl, z, _, c, rfl, rfl, zs, atI_nat d1, rfl, _, rfl, ?_⟩
        rw [show decide (V.str ⟨#[c]⟩ = V.str ")") = decide (c = 41) from sg_dec c 41]
        by_cases c1 : c = 41
        · subst c1
          refine iteT ?_
          refine ⟨_, rfl, _, _, rfl, rfl, _, rfl, ?_⟩
          rcases iat_close hI hG with ⟨hx, hb⟩ | ⟨hx, k, hg⟩
          · subst hx
            refine iteF ?_
            refine ⟨_, rfl, by show 2 ≤ sizeLine; decide, fun t nt => ?_⟩
            exact kB e t _ hb (S4.trans (same_up nt)) upd_same
          · have lx : xs.length ≠ 0 := fun h0 => hx (List.eq_nil_of_length_eq_zero h0)
            rw [decide_eq_true (by omega : (1 : Int) < (xs.length : Int) + 1)]
            refine iteT ?_
            refine ⟨_, rfl, _, _, rfl, rfl, _, rfl, _, _, rfl, rfl, by show 2 ≤ sizeLine; decide, fun t nt => ?_⟩
            exact kG k _ r (e + 1) t _ hg (S4.trans (same_up nt)) upd_same
        rw [decide_eq_false c1]
        refine iteF ?_
        refine ⟨_, rfl, _, rfl, z, _, c, rfl, rfl, zs, atI_nat d1, rfl, _, rfl, ?_⟩
        rw [show decide (V.str ⟨#[c]⟩ = V.str " ") = decide (c = 32) from sg_dec c 32]
        by_cases c2 : c = 32
        rotate_left
        · rw [decide_eq_false c2]
          refine iteT ?_
          refine iteT ?_
          refine ⟨_, rfl, _, rfl, _, rfl, z, _, c, rfl, rfl, zs, atI_nat d1, rfl, .inr ⟨_, rfl, _, _, rfl, rfl, by show 2 ≤ sizeLine; decide, fun t nt => ?_⟩⟩
          rw [show decide (V.str ⟨#[c]⟩ = V.str " ") = decide (c = 32) from sg_dec c 32, decide_eq_false c2]
          refine kB e t _ (iat_sign hI hG c1 c2 (nm c r rfl)) (S4.trans (same_up nt)) ?_
          rw [upd_same]
          simp
        subst c2
        refine iteF ?_
        refine ⟨_, rfl, _, _, rfl, rfl, _, rfl, z, rfl, zs, rfl, _, rfl, ?_⟩
        cases r with
        | nil =>
          have := drop_nil d2
          rw [decide_eq_true (show V.int ((e : Int) + 1) = V.int (z.length : Int) from congrArg V.int (by omega))]
          refine iteT ?_
          refine ⟨_, rfl, _, rfl, _, rfl, z, _, 32, rfl, rfl, zs, atI_nat d1, rfl, .inr ⟨_, rfl, _, _, rfl, rfl, by show 2 ≤ sizeLine; decide, fun t nt => ?_⟩⟩
          exact kB (e + 1) t _ (iat_blank hI hG) (S4.trans (same_up nt)) upd_same
        | cons c r =>
        obtain ⟨d4, d5, d6⟩ := drop_cons d2
        rw [decide_eq_false (fun h => by have := V.int.inj h; omega : ¬ V.int ((e : Int) + 1) = V.int (z.length : Int))]
        refine iteF ?_
        refine ⟨_, rfl, _, _, rfl, rfl, ?_⟩
        refine ⟨_, rfl, _, rfl, z, ((e + 1 : Nat) : Int), c, rfl, rfl, zs, atI_nat d4, rfl, _, rfl, ?_⟩
        rw [show decide (V.str ⟨#[c]⟩ = V.str "|") = decide (c = 124) from sg_dec c 124]
        by_cases c3 : c = 124
        · subst c3
          refine iteT ?_
          refine ⟨_, rfl, _, rfl, by show 2 ≤ sizeLine; decide, fun t nt => ?_⟩
          refine ⟨t, _, rfl, .inr (SqT.of upd_same), rfl, rfl, _, rfl, ?_⟩
          have S5 := S4.trans (same_up (o := .tup [.str "", .str "bar"]) nt)
          generalize upd H3 t (.tup [.str "", .str "bar"]) = H5 at S5 ⊢
          by_cases hj : jn = .row
          · subst hj
            refine iteT ?_
            exact ret _ (e + 1) _ _ _ _ _ _ S5 rfl rfl (iat_other hI hG (.inl ⟨rfl, rfl⟩))
          · rw [show (if true = true then !inV (.str (jL jn)) [.str "", .str "bar"] else inV (.str (jL jn)) [.str "", .str "bar"]) = false from by
              cases jn with
              | no => rfl
              | row => exact absurd rfl hj
              | cho => rfl]
            refine iteF ?_
            refine ⟨_, rfl, ?_⟩
            refine ⟨_, rfl, rfl, _, rfl, ?_⟩
            refine iteT ?_
            refine ⟨_, rfl, _, rfl, _, _, rfl, rfl, _, rfl, _, rfl, _, _, rfl, rfl, _, rfl, z, rfl, zs, rfl, _, rfl, ?_⟩
            rw [show ((e : Int) + 1 + 1) = ((e + 2 : Nat) : Int) by omega, show ((e : Int) + 1 + 2) = ((e + 2 + 1 : Nat) : Int) by omega, cut_blank, show (cL z).drop (e + 2) = r from d5]
            by_cases hr : ∃ r', r = 32 :: r'
            · obtain ⟨r', rfl⟩ := hr
              obtain ⟨d7, d8, d9⟩ := drop_cons d5
              refine iteF ?_
              refine ⟨_, rfl, _, _, rfl, rfl, ?_⟩
              refine ⟨z.length - (e + 3), by omega, .cho, xs ++ [x], e + 3, some (.int (e : Int)), some (.str "bar"), ?_, S5, by omega, by omega, ?_, rfl⟩
              · rw [List.length_append] <;> rfl
              · rw [show (cL z).drop (e + 3) = r' from d8]
                exact iat_cho hI hG hj
            · have hr2 : ¬ r.take 1 = [32] := fun h => by
                cases r with
                | nil => cases h
                | cons a b =>
                  rw [List.take_succ_cons, List.take_zero] at h
                  injection h with h1 _
                  exact hr ⟨b, by rw [h1]⟩
              rw [decide_eq_false hr2]
              refine iteT ?_
              refine ⟨_, rfl, _, _, rfl, rfl, by show 2 ≤ sizeLine; decide, fun t nt => ?_⟩
              refine kB (e + 2) t _ (iat_gap hI hG hj fun r' h => hr ⟨r', h⟩) (S5.trans (same_up nt)) ?_
              rw [upd_same]
              rfl
        · rw [decide_eq_false c3]
          refine iteF ?_
          refine ⟨_, rfl, _, rfl, by show 2 ≤ sizeLine; decide, fun t nt => ?_⟩
          refine ⟨t, _, rfl, .inr (SqT.of upd_same), rfl, rfl, _, rfl, ?_⟩
          have S5 := S4.trans (same_up (o := .tup [.str "", .str "row"]) nt)
          generalize upd H3 t (.tup [.str "", .str "row"]) = H5 at S5 ⊢
          by_cases hj : jn = .cho
          · subst hj
            refine iteT ?_
            exact ret _ (e + 1) _ _ _ _ _ _ S5 rfl rfl (iat_other hI hG (.inr ⟨rfl, c3⟩))
          · rw [show (if true = true then !inV (.str (jL jn)) [.str "", .str "row"] else inV (.str (jL jn)) [.str "", .str "row"]) = false from by
              cases jn with
              | no => rfl
              | row => rfl
              | cho => exact absurd rfl hj]
            refine iteF ?_
            refine ⟨_, rfl, ?_⟩
            refine ⟨_, rfl, rfl, _, rfl, ?_⟩
            refine iteF ?_
            refine ⟨z.length - (e + 1), by omega, .row, xs ++ [x], e + 1, some (.int (e : Int)), some (.str "row"), ?_, S5, by omega, by omega, ?_, rfl⟩
            · rw [List.length_append] <;> rfl
            · rw [d2]
              exact iat_row hI hG hj c3
theorem ok_part {f fIn : Addr} {fd fdIn : FuncData} (F : Fun K "_law_part" "_law_part" sPart f fd) (FI : Fun K "_law_inner" "_law_inner" sInner fIn fdIn) (T : Txt8 K mg)
    (gIn : mg "_law_inner" = some (.ref fIn)) (kIn : PySem.W.keepIn K (.ref fIn) = true) (bIn : Binds K fdIn ["_law_line_now", "_law_at"] []) (gPt : mg "_law_part" = some (.ref f)) (kPt : PySem.W.keepIn K (.ref f) = true) (bPt : Binds K fd ["_law_line_now", "_law_at"] []) :
    ∀ j : Nat, FnOk P w K mg base CX0 (2 * j + 1) f fd ["_law_line_now", "_law_at"] (spPart j)
  | 0 => ⟨fun _ _ _ _ h => by obtain ⟨z, n, rfl, _⟩ := h; rfl, fun _ _ _ _ _ _ _ _ _ _ _ _ _ h => by obtain ⟨z, n, _, _, _, h, _⟩ := h; omega⟩
  | j + 1 => part_step F T j (2 * j + 1 + 1) (inner_step FI T j (2 * j + 1) (ok_part F FI T gIn kIn bIn gPt kPt bPt j) gPt kPt bPt) gIn kIn bIn
end
end Vk
set_option Elab.async false
set_option linter.all false
set_option maxRecDepth 100000
set_option maxHeartbeats 4000000
namespace Vk
open PySem PySem.Spec PyProof.Rows L2 Vt PySem.Vx Vs1 ClX
/-- what is known of a text -/
def KnownT (z : Str) : Prop := (∃ b, seenT z = .inl b) ∨ ∃ x, okY x = true ∧ z = lnX x ∧ seenT z = .inr (post x)
def DueIs (d : PyData) (u : V) : Prop := match d with
  | .str z => (∃ b : Nat, seenT z = .inl b ∧ u = .int (b : Int)) ∨ ∃ x, okY x = true ∧ z = lnX x ∧ seenT z = .inr (post x) ∧ u = .str "fine"
  | _ => u = .int (-1)
def FineT (d : PyData) : Prop := match d with
  | .str z => z.length ≤ 6000 ∧ (cL z).count 40 ≤ 20
  | _ => True
section
variable {P : Program} {w : World} {K : PySem.W.Frag} {mg : Str → Option Value} {base : Heap}
def spDue11 (K : PySem.W.Frag) : Sp := fun vs H Q _ => ∃ (v : V) (d : PyData), vs = [v] ∧ Dr K H v d ∧ FineT d ∧ ∀ u H', Same H H' → DueIs d u → Q u H'
theorem scDu : FnScope ["_law_it", "_law_end", "_law_bad"] ["_law_it"] (defScope sDue) := ⟨rfl, rfl, rfl, by decide +kernel, rfl, by decide +kernel, by decide +kernel⟩
theorem ok_due11 {f fPt : Addr} {fd fdPt : FuncData} (F : Fun K "_law_due" "_law_due" sDue f fd) (T : Txt8 K mg)
    (GPt : FnOk P w K mg base CX0 43 fPt fdPt ["_law_line_now", "_law_at"] (spPart 21)) (gPt : mg "_law_part" = some (.ref fPt)) (kPt : PySem.W.keepIn K (.ref fPt) = true) (bPt : Binds K fdPt ["_law_line_now", "_law_at"] []) :
    FnOk P w K mg base CX0 44 f fd ["_law_it"] (spDue11 K) := by
  refine F.ok scDu (fun vs H Q E h => ?_) (fun cdv A outer s H vs Q E hr h => ?_)
  · obtain ⟨v, d, rfl, _⟩ := h
    rfl
  · obtain ⟨v, d, rfl, hd, hf, k⟩ := h
    refine ⟨_, (pss_cons (ps_if (pt_not (pt_val (pe_callB call_isi (by rfl) T.isi (by decide +kernel) (pa_cons (pv 0) (pa_cons (pe_bltn (v := .ty "str") (by rfl) T.str (by decide +kernel) rfl) pa_nil))))) (pss_one (ps_ret (pe_un un_neg pe_int))) pss_nil)
        (pss_cons (ps_asg (pe_call GPt hr rfl gPt kPt bPt .nil pass0 (pa_cons (pv 0) (pa_cons pe_int pa_nil))) (pg_tup rfl (pgs_cons (pg_name (i := 1) scDu.nd rfl (.inl rfl)) (pgs_cons (pg_name (i := 2) scDu.nd rfl (.inl rfl)) pgs_nil))))
        (pss_cons (ps_if (pt_cmpR op_isN (pv 1) pe_non (nomark _)) (pss_one (ps_ret (pv 2))) pss_nil)
        (pss_one (ps_ret (pe_ifExp (pt_cmpR op_eq (pv 1) (pe_callB call_len_str (by rfl) T.len PySem.boot_len (pa_cons (pv 0) pa_nil)) (nomark _)) pe_str (pv 1))))))), ?_⟩
    refine ⟨_, rfl, _, _, _, _, kitS d, rfl, .ty "str", tyX_dr hd, kit_str d, _, rfl, ?_⟩
    by_cases hs : ∃ z, d = .str z
    rotate_left
    · rw [show kitS d = false from by
        cases d with
        | str z => exact absurd ⟨z, rfl⟩ hs
        | _ => rfl]
      refine iteT ?_
      refine ⟨_, rfl, ?_⟩
      refine k _ _ (Same.refl _) ?_
      cases d with
      | str z => exact absurd ⟨z, rfl⟩ hs
      | _ => rfl
    obtain ⟨z, rfl⟩ := hs
    obtain rfl := dr_str hd
    obtain ⟨h1, h2⟩ := hf
    have zs : z.length ≤ sizeLine := by rw [sizeLine_eq]; omega
    have zl : z.length = (cL z).length := by show z.cps.size = _; rw [cL, Array.length_toList]
    refine iteF ?_
    refine ⟨_, rfl, z, 0, rfl, h1, Nat.zero_le _, ?_, fun b p H1 hB S hp => ?_, fun x r e p H1 hG nm S hp => ?_⟩
    · rw [List.drop_zero]
      omega
    · rw [List.drop_zero] at hB
      refine ⟨p, _, rfl, SqT.of hp, rfl, _, _, rfl, _, _, rfl, rfl, ?_⟩
      refine ⟨_, rfl, rfl, _, rfl, ?_⟩
      refine iteT ?_
      exact ⟨_, rfl, k _ _ S (.inl ⟨b, seen_bad hB, rfl⟩)⟩
    · have hr0 := (pg_drop (Nat.zero_le _) hG)
      rw [List.drop_zero] at hG
      refine ⟨p, _, rfl, SqT.of hp, rfl, _, _, rfl, _, _, rfl, rfl, ?_⟩
      refine ⟨_, rfl, rfl, _, rfl, ?_⟩
      refine iteF ?_
      refine ⟨_, rfl, _, rfl, z, rfl, zs, rfl, _, rfl, ?_⟩
      cases r with
      | nil =>
        have := drop_nil hr0.1.symm
        rw [decide_eq_true (show V.int (e : Int) = V.int (z.length : Int) from congrArg V.int (by omega))]
        refine iteT ?_
        obtain ⟨s1, s2⟩ := seen_fine hG
        exact k _ _ S (.inr ⟨x, hG.ok, s2, s1, rfl⟩)
      | cons c r =>
        obtain ⟨d1, d2, d3⟩ := drop_cons hr0.1.symm
        rw [decide_eq_false (fun h => by have := V.int.inj h; omega : ¬ V.int (e : Int) = V.int (z.length : Int))]
        refine iteF ?_
        exact ⟨_, rfl, k _ _ S (.inl ⟨e, seen_more hG (nm c r rfl), rfl⟩)⟩
end
end Vk
set_option Elab.async false
set_option linter.all false
set_option maxRecDepth 100000
set_option maxHeartbeats 4000000
namespace Vk
open PySem PySem.Spec PyProof.Rows L2 Vt PySem.Vx Vs1 ClX
/-! ## max(xs, default=d) -/
def maxI (d : Int) : List Int → Int
  | [] => d
  | n :: r => r.foldl max n
theorem alike_ints (ns : List Int) : PySem.W.AlikeAll (ns.map PyData.int) := by
  refine ⟨fun x hx y hy => ?_, fun x hx => ?_⟩
  · obtain ⟨a, _, rfl⟩ := List.mem_map.mp hx
    obtain ⟨b, _, rfl⟩ := List.mem_map.mp hy
    rfl
  · obtain ⟨a, _, rfl⟩ := List.mem_map.mp hx
    nofun
def rMaxD (K : PySem.W.Frag) : List V → List V → Hp → VK → Prop := fun vs zs H Q => ∃ (a : Addr) (ns : List Int) (d : Int), vs = [.ref a] ∧ zs = [.int d] ∧ SqL K H a (ns.map V.int) ∧ Q (.int (maxI d ns)) H
theorem cr_maxDef {X : Cx} (hc : X.calm = true) (hu : X.A.units + 64 < cLine) : CallRK X (.builtin "max") ["default"] (rMaxD X.K) := by
  intro pins s σ H vs zs us ws Q I r1 r2 h
  obtain ⟨a, ns, d, rfl, rfl, hs, q⟩ := h
  obtain ⟨its, rv, hl, _⟩ := I.list hs
  rw [Vals.ref1 r1]
  obtain ⟨u1, rfl, t, rfl⟩ := vals1 r2
  obtain ⟨as, rd⟩ := Dp.readsAll I (ns.map PyData.int) _ _ (dp_ints ns) rv
  refine PySem.W.max_list_default (I.ok.hd hc) hl.isList rd (alike_ints ns) (by rw [(lay_ints ns).2]; omega) (fun e h' tk hk => ?_) (fun y ys i v h' tk bs e hv rv hk => ?_)
  · cases ns with
    | nil => exact ⟨.int d, H, I.kept hk, ⟨_, rfl⟩, q⟩
    | cons n r => cases e
  · cases ns with
    | nil => cases e
    | cons n r =>
      rw [List.map_cons] at e
      injection e with e1 e2
      subst e1 e2
      rw [PySem.W.maxD_ints] at rv
      cases rv
      exact ⟨.int _, H, I.kept hk, ⟨_, rfl⟩, q⟩
def rdK : Kd → Nat
  | .loop => 1
  | .some => 1
  | _ => 0
mutual
def dpX : Xp → Nat
  | .one => 0
  | .lt _ => 0
  | .nd k ps => dpXs ps + rdK k
def dpXs : List Xp → Nat
  | [] => 0
  | x :: r => max (dpX x) (dpXs r)
end
mutual
/-- all letters, in order -/
def sgX : Xp → List Nat
  | .one => []
  | .lt c => [c]
  | .nd _ ps => sgXs ps
def sgXs : List Xp → List Nat
  | [] => []
  | x :: r => sgX x ++ sgXs r
end
theorem okYs_get : ∀ {ps : List Xp} {i : Nat} {x : Xp}, okYs ps = true → ps[i]? = some x → okY x = true
  | y :: r, 0, x, o, h => by
    cases h
    rw [okYs, Bool.and_eq_true] at o
    exact o.1
  | y :: r, i + 1, x, o, h => by
    rw [okYs, Bool.and_eq_true] at o
    exact okYs_get (ps := r) o.2 h
mutual
theorem sg_ok : ∀ x : Xp, okY x = true → ∀ c ∈ sgX x, 97 ≤ c ∧ c ≤ 122
  | .one, _, c, h => by cases h
  | .lt d, o, c, h => by
    rw [List.mem_singleton.mp h]
    rw [okY, Bool.and_eq_true, decide_eq_true_eq, decide_eq_true_eq] at o
    exact o
  | .nd k ps, o, c, h => by
    rw [okY, Bool.and_eq_true] at o
    exact sgs_ok ps o.2 c h
theorem sgs_ok : ∀ ps : List Xp, okYs ps = true → ∀ c ∈ sgXs ps, 97 ≤ c ∧ c ≤ 122
  | [], _, c, h => by cases h
  | x :: r, o, c, h => by
    rw [okYs, Bool.and_eq_true] at o
    rw [sgXs] at h
    rcases List.mem_append.mp h with h | h
    · exact sg_ok x o.1 c h
    · exact sgs_ok r o.2 c h
end
/-! ## how long a text is -/
def tl (x : Xp) : Nat := (lnX x).length
def tls (ps : List Xp) : Nat := (ps.map tl).sum
theorem tls_cons (x : Xp) (r : List Xp) : tls (x :: r) = tl x + tls r := by unfold tls; rw [List.map_cons, List.sum_cons]
theorem tls_ln : ∀ ps : List Xp, ((lnXs ps).map (·.length)).sum = tls ps
  | [] => rfl
  | x :: r => by rw [lnXs, List.map_cons, List.sum_cons, tls_ln r, tls_cons] <;> rfl
theorem join_ge (sep : Str) (h1 : 1 ≤ sep.length) : ∀ zs : List Str, (zs.map (·.length)).sum + zs.length ≤ (Txt.join sep zs).length + 1 := by
  intro zs
  show _ ≤ (Builtin.Str.glued sep zs).length + 1
  rw [StrLaws.glued_eq_join]
  cases zs with
  | nil => exact Nat.le_succ _
  | cons z r =>
    have : ∀ (r : List Str) (z : Str), ((z :: r).map (·.length)).sum + (z :: r).length ≤ (Str.join sep (z :: r)).length + 1 := by
      intro r
      induction r with
      | nil => intro z; show z.length + 0 + 1 ≤ z.length + 1; omega
      | cons y r ih =>
        intro z
        have := ih y
        show z.length + ((y :: r).map (·.length)).sum + ((y :: r).length + 1) ≤ (z ++ sep ++ Str.join sep (y :: r)).length + 1
        rw [len_app, len_app]
        omega
    exact this r z
def brK : Kd → Bool
  | .row => true
  | .cho => true
  | _ => false
theorem tl_row {k : Kd} {ps : List Xp} (hk : brK k = true) : tls ps + ps.length + 1 ≤ tl (.nd k ps) := by
  cases k <;> cases hk
  · show _ ≤ (("(" : Str) ++ Txt.join (" " : Str) (lnXs ps) ++ (")" : Str)).length
    have := join_ge " " (by decide) (lnXs ps)
    rw [lnXs_len, tls_ln] at this
    rw [len_app, len_app]
    show _ ≤ 1 + _ + 1
    omega
  · show _ ≤ (("(" : Str) ++ Txt.join (" | " : Str) (lnXs ps) ++ (")" : Str)).length
    have := join_ge " | " (by decide) (lnXs ps)
    rw [lnXs_len, tls_ln] at this
    rw [len_app, len_app]
    show _ ≤ 1 + _ + 1
    omega
theorem one_of {α : Type} {ps : List α} (h : ps.length = 1) : ∃ x, ps = [x] := by
  rcases ps with _ | ⟨x, _ | ⟨y, r⟩⟩
  · cases h
  · exact ⟨x, rfl⟩
  · cases h
theorem tl_mark {k : Kd} {ps : List Xp} (hk : brK k = false) (hn : okNY k ps.length = true) : ∃ x, ps = [x] ∧ tl (.nd k ps) = tl x + 1 := by
  cases k <;> cases hk
  · obtain ⟨x, rfl⟩ := one_of (of_decide_eq_true hn)
    exact ⟨x, rfl, by show (lnX x ++ ("*" : Str)).length = _; rw [len_app] <;> rfl⟩
  · obtain ⟨x, rfl⟩ := one_of (of_decide_eq_true hn)
    exact ⟨x, rfl, by show (lnX x ++ ("+" : Str)).length = _; rw [len_app] <;> rfl⟩
  · obtain ⟨x, rfl⟩ := one_of (of_decide_eq_true hn)
    exact ⟨x, rfl, by show (lnX x ++ ("?" : Str)).length = _; rw [len_app] <;> rfl⟩
theorem tls_get : ∀ {ps : List Xp} {i : Nat} {x : Xp}, ps[i]? = some x → tl x ≤ tls ps
  | y :: r, 0, x, h => by
    cases h
    rw [tls_cons]
    omega
  | y :: r, i + 1, x, h => by
    have := tls_get (ps := r) h
    rw [tls_cons]
    omega
theorem tl_nd {k : Kd} {ps : List Xp} (ok : okY (.nd k ps) = true) : tls ps + 1 ≤ tl (.nd k ps) ∧ ps.length ≤ tl (.nd k ps) ∧ 1 ≤ ps.length := by
  rw [okY, Bool.and_eq_true] at ok
  cases hb : brK k with
  | true =>
    have := tl_row (ps := ps) hb
    have l2 : 2 ≤ ps.length := by
      cases k <;> cases hb
      · exact of_decide_eq_true ok.1
      · exact of_decide_eq_true ok.1
    exact ⟨by omega, by omega, by omega⟩
  | false =>
    obtain ⟨x, rfl, e⟩ := tl_mark hb ok.1
    rw [e, tls_cons]
    exact ⟨Nat.le_refl _, by show 1 ≤ _; omega, Nat.le_refl _⟩
theorem tl_get {k : Kd} {ps : List Xp} (ok : okY (.nd k ps) = true) {i : Nat} {x : Xp} (h : ps[i]? = some x) : tl x ≤ tl (.nd k ps) := by
  have := tl_nd ok
  have := tls_get h
  omega
theorem tl_pos : ∀ {x : Xp}, okY x = true → 1 ≤ tl x
  | .one, _ => Nat.le_refl 1
  | .lt c, _ => Nat.le_refl 1
  | .nd k ps, h => by
    have := tl_nd h
    omega
mutual
theorem sg_tl : ∀ x : Xp, okY x = true → 2 * (sgX x).length ≤ tl x + 1
  | .one, _ => Nat.zero_le _
  | .lt c, _ => Nat.le_refl 2
  | .nd k ps, h => by
    have hs := sgs_tl ps
    have h' := h
    rw [okY, Bool.and_eq_true] at h
    have hs := hs h.2
    rw [sgX]
    cases hb : brK k with
    | true =>
      have := tl_row (ps := ps) hb
      omega
    | false =>
      obtain ⟨x, rfl, e⟩ := tl_mark hb h.1
      rw [e]
      rw [tls_cons] at hs
      have z : tls [] = 0 := rfl
      have z2 : [x].length = 1 := rfl
      omega
theorem sgs_tl : ∀ ps : List Xp, okYs ps = true → 2 * (sgXs ps).length ≤ tls ps + ps.length
  | [], _ => Nat.zero_le _
  | x :: r, h => by
    rw [okYs, Bool.and_eq_true] at h
    have a := sg_tl x h.1
    have b := sgs_tl r h.2
    rw [sgXs, List.length_append, tls_cons, List.length_cons]
    omega
end
theorem sub_len : ∀ {a l : List Nat}, a.Nodup → (∀ x ∈ a, x ∈ l) → a.length ≤ l.length
  | [], l, _, _ => Nat.zero_le _
  | x :: a, l, nd, h => by
    rw [List.nodup_cons] at nd
    have hx := h x (List.mem_cons_self ..)
    have e := List.length_erase_of_mem hx
    have pos := List.length_pos_of_mem hx
    have := sub_len (l := l.erase x) nd.2 fun y hy => (List.mem_erase_of_ne (fun z => nd.1 (by rw [← z]; exact hy))).mpr (h y (List.mem_cons_of_mem _ hy))
    rw [List.length_cons]
    omega
theorem noPart_go {σ : L2.St} {H : Hp} {Q : Option Int → Hp → Prop} (h : Q none H) : tNoPart σ H Q := h
section
variable {P : Program} {w : World} {K : PySem.W.Frag} {mg : Str → Option Value} {base : Heap}
theorem ok_line {f : Addr} {fd : FuncData} (F : Fun K "_law_line" "_law_line" sLine f fd) (T : Txt8 K mg) (gLn : mg "_law_line" = some (.ref f)) (kLn : PySem.W.keepIn K (.ref f) = true) (bLn : Binds K fd ["_law_it"] []) : ∀ j : Nat, FnOk P w K mg base CX0 (j + 1) f fd ["_law_it"] (spLine K j)
  | 0 => line_none
  | j + 1 => line_step F T gLn kLn bLn j (ok_line F T gLn kLn bLn j)
end
end Vk
set_option Elab.async false
set_option linter.all false
set_option maxRecDepth 100000
set_option maxHeartbeats 4000000
namespace Vk
open PySem PySem.Spec PyProof.Rows L2 Vt PySem.Vx Vs1 ClX
/-! ## texts joined without a separator -/
def cpsL (z : Str) : List Nat := z.cps.toList
theorem str_cps {a b : Str} (h : cpsL a = cpsL b) : a = b := Str.ext' (Array.toList_inj.mp h)
theorem cps_app (a b : Str) : cpsL (a ++ b) = cpsL a ++ cpsL b := Array.toList_append
theorem cps_join0 : ∀ zs : List Str, cpsL (Txt.join ("" : Str) zs) = zs.flatMap cpsL := by
  intro zs
  show cpsL (Builtin.Str.glued "" zs) = _
  rw [StrLaws.glued_eq_join]
  induction zs with
  | nil => rfl
  | cons z r ih =>
    cases r with
    | nil => show cpsL z = _; simp
    | cons y r =>
      show cpsL (z ++ ("" : Str) ++ Str.join "" (y :: r)) = _
      rw [cps_app, cps_app, ih, List.flatMap_cons]
      show cpsL z ++ [] ++ _ = _
      rw [List.append_nil, ← List.flatMap_cons, ← List.flatMap_cons]
/-! ## letters, ascending, each once -/
def leC (l : List Nat) : List Nat := (List.range 123).filter fun c => decide (c ∈ l)
theorem leC_asc (l : List Nat) : (leC l).Pairwise (· < ·) := List.Pairwise.filter _ List.pairwise_lt_range
theorem mem_leC {l : List Nat} {c : Nat} (h : ∀ x ∈ l, x ≤ 122) : c ∈ leC l ↔ c ∈ l := by
  unfold leC
  rw [List.mem_filter, List.mem_range, decide_eq_true_eq]
  exact ⟨fun h => h.2, fun z => ⟨by have := h c z; omega, z⟩⟩
theorem leC_len (l : List Nat) : (leC l).length ≤ 123 := Nat.le_trans (List.length_filter_le ..) (by rw [List.length_range] <;> exact Nat.le_refl _)
theorem asc_one : ∀ {a b : List Nat}, a.Pairwise (· < ·) → b.Pairwise (· < ·) → (∀ x, x ∈ a ↔ x ∈ b) → a = b
  | [], [], _, _, _ => rfl
  | [], y :: b, _, _, h => absurd ((h y).mpr List.mem_cons_self) (by simp)
  | x :: a, [], _, _, h => absurd ((h x).mp List.mem_cons_self) (by simp)
  | x :: a, y :: b, ha, hb, h => by
    rw [List.pairwise_cons] at ha hb
    have e : x = y := by
      rcases List.mem_cons.mp ((h x).mp List.mem_cons_self) with e | m
      · exact e
      · rcases List.mem_cons.mp ((h y).mpr List.mem_cons_self) with e | m2
        · exact e.symm
        · have := hb.1 x m
          have := ha.1 y m2
          omega
    subst e
    rw [asc_one ha.2 hb.2 fun z => ?_]
    constructor
    · intro m
      rcases List.mem_cons.mp ((h z).mp (List.mem_cons_of_mem _ m)) with e | m2
      · have := ha.1 z m
        omega
      · exact m2
    · intro m
      rcases List.mem_cons.mp ((h z).mpr (List.mem_cons_of_mem _ m)) with e | m2
      · have := hb.1 z m
        omega
      · exact m2
theorem le_sg (a b : Nat) : leS (sg a) (sg b) = true → a ≤ b := by
  intro h
  have h := of_decide_eq_true h
  have h : [a] ≤ [b] := h
  rcases Nat.lt_or_ge b a with c | c
  · exact absurd h (by
      rw [List.not_le]
      simp [List.cons_lt_cons_iff]
      exact c)
  · exact c
theorem sg_inj {a b : Nat} (h : sg a = sg b) : a = b := (List.cons.inj (congrArg (fun y : Str => y.cps.toList) h)).1
/-- sorted(set(..)) of letters, joined -/
theorem sorted_letters {l : List Nat} {ks ys : List Str} (hl : ∀ x ∈ l, x ≤ 122) (hk : ∀ z, z ∈ ks ↔ ∃ c ∈ l, z = sg c) (pm : ys.Perm (Vs.putL [] ks)) (nd : ys.Nodup) (srt : ys.Pairwise fun x y => leS x y = true) : Txt.join ("" : Str) ys = ⟨(leC l).toArray⟩ := by
  have mem : ∀ z, z ∈ ys ↔ ∃ c ∈ l, z = sg c := fun z => by rw [pm.mem_iff, Vs.mem_putL, ← hk]; simp
  obtain ⟨cs, rfl⟩ : ∃ cs : List Nat, ys = cs.map sg := by
    clear pm nd srt hk
    have h : ∀ z ∈ ys, ∃ c, z = sg c := fun z hz => let ⟨c, _, e⟩ := (mem z).mp hz; ⟨c, e⟩
    clear mem
    induction ys with
    | nil => exact ⟨[], rfl⟩
    | cons y r ih =>
      obtain ⟨c, e⟩ := h y List.mem_cons_self
      obtain ⟨cs, e2⟩ := ih fun z hz => h z (List.mem_cons_of_mem _ hz)
      exact ⟨c :: cs, by rw [e, e2]; rfl⟩
  have asc : cs.Pairwise (· < ·) := by
    unfold List.Nodup at nd
    rw [List.pairwise_map] at srt nd
    exact (srt.and nd).imp fun ⟨a, b⟩ => by
      have := le_sg _ _ a
      rcases Nat.lt_or_ge _ _ with c | c
      · exact c
      · exact absurd (congrArg sg (by omega)) b
  have e : cs = leC l := asc_one asc (leC_asc l) fun x => by
    rw [mem_leC hl]
    constructor
    · intro h
      obtain ⟨c, hc, e⟩ := (mem (sg x)).mp (List.mem_map.mpr ⟨x, h, rfl⟩)
      rw [sg_inj e]
      exact hc
    · intro h
      obtain ⟨y, hy, e⟩ := List.mem_map.mp ((mem (sg x)).mpr ⟨x, h, rfl⟩)
      rw [← sg_inj e]
      exact hy
  refine str_cps ?_
  rw [cps_join0, e]
  show _ = leC l
  rw [List.flatMap_map]
  show (leC l).flatMap (fun c => [c]) = leC l
  simp
def leX : Xp → Str
  | .lt c => sg c
  | x => ⟨(leC (sgX x)).toArray⟩
theorem mem_leX {x : Xp} (ok : okY x = true) {c : Nat} : c ∈ cpsL (leX x) ↔ c ∈ sgX x := by
  cases x with
  | one => exact mem_leC (fun y hy => (sg_ok _ ok y hy).2)
  | lt d => exact Iff.rfl
  | nd k ps => exact mem_leC (fun y hy => (sg_ok _ ok y hy).2)
theorem leX_len (x : Xp) : (leX x).length ≤ 123 := by
  cases x with
  | one => exact (by decide : 0 ≤ 123)
  | lt d => exact (by decide : 1 ≤ 123)
  | nd k ps => exact leC_len _
theorem leC_le (l : List Nat) : (leC l).length ≤ l.length := sub_len (a := leC l) (List.Pairwise.imp (fun h => Nat.ne_of_lt h) (leC_asc l)) fun x hx => by
  unfold leC at hx
  exact of_decide_eq_true (List.mem_filter.mp hx).2
theorem leX_le (x : Xp) : (leX x).length ≤ (sgX x).length := by
  cases x with
  | one => exact Nat.le_trans (Nat.le_of_eq List.size_toArray) (leC_le _)
  | lt d => exact Nat.le_refl 1
  | nd k ps => exact Nat.le_trans (Nat.le_of_eq List.size_toArray) (leC_le _)
theorem leXs_le : ∀ ps : List Xp, ((ps.map leX).map (·.length)).sum ≤ (sgXs ps).length
  | [] => Nat.le_refl _
  | x :: r => by
    have a := leX_le x
    have b := leXs_le r
    rw [List.map_cons, List.map_cons, List.sum_cons, sgXs, List.length_append]
    omega
theorem mem_sgXs : ∀ {ps : List Xp} {c : Nat}, c ∈ sgXs ps ↔ ∃ x ∈ ps, c ∈ sgX x
  | [], c => by simp [sgXs]
  | x :: r, c => by
    rw [sgXs, List.mem_append, mem_sgXs (ps := r)]
    simp
theorem mem_tsigns {z x : Str} : z ∈ Vs.tsigns x ↔ ∃ c ∈ cpsL x, z = sg c := by
  unfold Vs.tsigns
  rw [List.mem_map]
  exact ⟨fun ⟨c, h, e⟩ => ⟨c, h, e.symm⟩, fun ⟨c, h, e⟩ => ⟨c, h, e.symm⟩⟩
theorem letters_of {ps : List Xp} (ok : okYs ps = true) {ys : List Str} (pm : ys.Perm (Vs.putL [] (Vs.tsigns (Txt.join ("" : Str) (ps.map leX))))) (nd : ys.Nodup) (srt : ys.Pairwise fun x y => leS x y = true) : Txt.join ("" : Str) ys = ⟨(leC (sgXs ps)).toArray⟩ := by
  refine sorted_letters (fun x hx => (sgs_ok ps ok x hx).2) (fun z => ?_) pm nd srt
  rw [mem_tsigns]
  have : ∀ c, c ∈ cpsL (Txt.join ("" : Str) (ps.map leX)) ↔ c ∈ sgXs ps := fun c => by
    rw [cps_join0, List.mem_flatMap, mem_sgXs]
    constructor
    · rintro ⟨z, hz, hc⟩
      obtain ⟨x, hx, rfl⟩ := List.mem_map.mp hz
      obtain ⟨i, hi⟩ := List.mem_iff_getElem?.mp hx
      exact ⟨x, hx, (mem_leX (okYs_get ok hi)).mp hc⟩
    · rintro ⟨x, hx, hc⟩
      obtain ⟨i, hi⟩ := List.mem_iff_getElem?.mp hx
      exact ⟨_, List.mem_map.mpr ⟨x, hx, rfl⟩, (mem_leX (okYs_get ok hi)).mpr hc⟩
  exact ⟨fun ⟨c, h, e⟩ => ⟨c, (this c).mp h, e⟩, fun ⟨c, h, e⟩ => ⟨c, (this c).mpr h, e⟩⟩
/-! ## the numbers -/
theorem fold_max : ∀ (ps : List Xp) (n : Nat), (ps.map fun x => (dpX x : Int)).foldl max (n : Int) = ((max n (dpXs ps) : Nat) : Int)
  | [], n => by show (n : Int) = _; rw [dpXs]; omega
  | x :: r, n => by
    have h := fold_max r (max n (dpX x))
    rw [List.map_cons, List.foldl_cons, dpXs]
    have e : max (n : Int) (dpX x : Int) = ((max n (dpX x) : Nat) : Int) := by omega
    rw [e, h]
    omega
theorem max_deep (ps : List Xp) : maxI 0 (ps.map fun x => (dpX x : Int)) = (dpXs ps : Int) := by
  cases ps with
  | nil => rfl
  | cons x r =>
    show (r.map fun x => (dpX x : Int)).foldl max (dpX x : Int) = _
    rw [fold_max, dpXs]
theorem sum_size : ∀ ps : List Xp, (ps.map fun x => ((sgX x).length : Int)).sum = ((sgXs ps).length : Int)
  | [] => rfl
  | x :: r => by
    rw [List.map_cons, List.sum_cons, sum_size r, sgXs, List.length_append]
    omega
end Vk
set_option Elab.async false
set_option linter.all false
set_option maxRecDepth 100000
set_option maxHeartbeats 4000000
namespace Vk
open PySem PySem.Spec PyProof.Rows L2 Vt PySem.Vx Vs1 ClX
abbrev sXInit : Stmt := inClass (top8 30) 0
abbrev sXEq : Stmt := inClass (top8 30) 1
abbrev sXStr : Stmt := inClass (top8 30) 2
abbrev sXCheck : Stmt := top8 31
abbrev sXNum : Stmt := top8 32
abbrev sCode : Stmt := top8 39
structure XCls (K : PySem.W.Frag) (C : Addr) : Prop where
  cl : Cls K C
  a1 : NoAttr K C "kind"
  a2 : NoAttr K C "parts"
  a3 : NoAttr K C "depth"
  a4 : NoAttr K C "size"
  a5 : NoAttr K C "letters"
/-! ## the program's expressions -/
def kN : Xp → Str
  | .one => "one"
  | .lt _ => "letter"
  | .nd k _ => k.s
def flX (x : Xp) (l : Addr) : List (Str × V) := [("kind", .str (kN x)), ("parts", .ref l), ("depth", .int (dpX x : Int)), ("size", .int ((sgX x).length : Int)), ("letters", .str (leX x))]
mutual
inductive XAt (K : PySem.W.Frag) (C : Addr) (H : Hp) : V → Xp → Prop
  | one {a dx l : Addr} : H a = some (.ins C dx (flX .one l)) → SqT K H l [] → XAt K C H (.ref a) .one
  | lt {a dx l : Addr} {c : Nat} : H a = some (.ins C dx (flX (.lt c) l)) → SqT K H l [.str (sg c)] → XAt K C H (.ref a) (.lt c)
  | nd {a dx l : Addr} {k : Kd} {ps : List Xp} {vs : List V} : H a = some (.ins C dx (flX (.nd k ps) l)) → SqT K H l vs → XAts K C H vs ps → XAt K C H (.ref a) (.nd k ps)
inductive XAts (K : PySem.W.Frag) (C : Addr) (H : Hp) : List V → List Xp → Prop
  | nil : XAts K C H [] []
  | cons {v : V} {vs : List V} {x : Xp} {r : List Xp} : XAt K C H v x → XAts K C H vs r → XAts K C H (v :: vs) (x :: r)
end
/-- what stands in its parts -/
def Pts (K : PySem.W.Frag) (C : Addr) (H : Hp) (l : Addr) : Xp → Prop
  | .one => SqT K H l []
  | .lt c => SqT K H l [.str (sg c)]
  | .nd _ ps => ∃ vs, SqT K H l vs ∧ XAts K C H vs ps
theorem x_at {K : PySem.W.Frag} {C : Addr} {H : Hp} {v : V} {x : Xp} (h : XAt K C H v x) : ∃ a dx l, v = .ref a ∧ H a = some (.ins C dx (flX x l)) ∧ Pts K C H l x := by
  cases h with
  | one h1 h2 => exact ⟨_, _, _, rfl, h1, h2⟩
  | lt h1 h2 => exact ⟨_, _, _, rfl, h1, h2⟩
  | nd h1 h2 h3 => exact ⟨_, _, _, rfl, h1, _, h2, h3⟩
theorem at_x {K : PySem.W.Frag} {C : Addr} {H : Hp} {a dx l : Addr} {x : Xp} (h : H a = some (.ins C dx (flX x l))) (p : Pts K C H l x) : XAt K C H (.ref a) x := by
  cases x with
  | one => exact .one h p
  | lt c => exact .lt h p
  | nd k ps =>
    obtain ⟨vs, h2, h3⟩ := p
    exact .nd h h2 h3
/-- what must stay for it to stay -/
def Kp (C : Addr) (H H' : Hp) : Prop := (∀ b xs, H b = some (.tup xs) → H' b = some (.tup xs)) ∧ (∀ b u xs, H b = some (.frz u (.tup xs)) → H' b = some (.frz u (.tup xs))) ∧ ∀ b dx x l, H b = some (.ins C dx (flX x l)) → H' b = some (.ins C dx (flX x l))
theorem Kp.tup {K : PySem.W.Frag} {C : Addr} {H H' : Hp} {a : Addr} {xs : List V} (S : Kp C H H') (h : SqT K H a xs) : SqT K H' a xs := by
  rcases h with (h | ⟨o, h⟩) | h
  · exact .inl (.inl (S.1 _ _ h))
  · exact .inl (.inr ⟨o, S.2.1 _ _ _ h⟩)
  · exact .inr h
mutual
theorem x_kp {K : PySem.W.Frag} {C : Addr} {H H' : Hp} (S : Kp C H H') : ∀ (x : Xp) (v : V), XAt K C H v x → XAt K C H' v x
  | .one, v, h => by
    cases h with
    | one h1 h2 => exact .one (S.2.2 _ _ _ _ h1) (S.tup h2)
  | .lt c, v, h => by
    cases h with
    | lt h1 h2 => exact .lt (S.2.2 _ _ _ _ h1) (S.tup h2)
  | .nd k ps, v, h => by
    cases h with
    | nd h1 h2 h3 => exact .nd (S.2.2 _ _ _ _ h1) (S.tup h2) (xs_kp S ps _ h3)
theorem xs_kp {K : PySem.W.Frag} {C : Addr} {H H' : Hp} (S : Kp C H H') : ∀ (ps : List Xp) (vs : List V), XAts K C H vs ps → XAts K C H' vs ps
  | [], vs, h => by
    cases h
    exact .nil
  | x :: r, vs, h => by
    cases h with
    | cons h1 h2 => exact .cons (x_kp S x _ h1) (xs_kp S r _ h2)
end
theorem kp_off {C : Addr} {H H' : Hp} (S : Off H H') : Kp C H H' := ⟨fun b xs h => S _ _ h (fun _ z => by cases z) (fun _ z => by cases z), fun b u xs h => S _ _ h (fun _ z => by cases z) (fun _ z => by cases z), fun b dx x l h => S _ _ h (fun _ z => by cases z) (fun _ z => by cases z)⟩
theorem kp_same {C : Addr} {H H' : Hp} (S : Same H H') : Kp C H H' := ⟨fun b xs h => S _ _ h, fun b u xs h => S _ _ h, fun b dx x l h => S _ _ h⟩
/-- an unfinished one is changed -/
theorem kp_ins {C a dx : Addr} {H : Hp} {fs : List (Str × V)} {o : HO} (ha : H a = some (.ins C dx fs)) (hf : fs.length < 5) : Kp C H (upd H a o) := by
  refine ⟨fun b xs h => ?_, fun b u xs h => ?_, fun b dx' x l h => ?_⟩
  · rw [upd_ne (ne_of h ha (fun z => by cases z))]
    exact h
  · rw [upd_ne (ne_of h ha (fun z => by cases z))]
    exact h
  · rw [upd_ne (ne_of h ha (fun z => by
      cases z
      exact absurd hf (by show ¬ 5 < 5; decide)))]
    exact h
theorem Kp.trans {C : Addr} {H H' H2 : Hp} (S : Kp C H H') (T : Kp C H' H2) : Kp C H H2 := ⟨fun b xs h => T.1 _ _ (S.1 _ _ h), fun b u xs h => T.2.1 _ _ _ (S.2.1 _ _ _ h), fun b dx x l h => T.2.2 _ _ _ _ (S.2.2 _ _ _ _ h)⟩
theorem Pts.kp {K : PySem.W.Frag} {C : Addr} {H H' : Hp} {l : Addr} {x : Xp} (S : Kp C H H') (h : Pts K C H l x) : Pts K C H' l x := by
  cases x with
  | one => exact S.tup h
  | lt c => exact S.tup h
  | nd k ps =>
    obtain ⟨vs, h1, h2⟩ := h
    exact ⟨vs, S.tup h1, xs_kp S _ _ h2⟩
theorem XAts.len {K : PySem.W.Frag} {C : Addr} {H : Hp} : ∀ {vs : List V} {ps : List Xp}, XAts K C H vs ps → vs.length = ps.length
  | _, _, .nil => rfl
  | _, _, .cons _ t => congrArg Nat.succ t.len
theorem XAts.get {K : PySem.W.Frag} {C : Addr} {H : Hp} : ∀ {vs : List V} {ps : List Xp}, XAts K C H vs ps → ∀ {i : Nat} {v : V}, vs[i]? = some v → ∃ x, ps[i]? = some x ∧ XAt K C H v x
  | _, _, .nil, i, v, h => by cases h
  | _, _, .cons h1 h2, 0, v, h => by
    cases h
    exact ⟨_, rfl, h1⟩
  | _, _, .cons h1 h2, i + 1, v, h => h2.get (i := i) h
theorem xs_of {K : PySem.W.Frag} {C : Addr} {H : Hp} : ∀ {ps : List Xp} {ys : List V}, ys.length = ps.length → (∀ (j : Nat) (y : V), ys[j]? = some y → ∃ x, ps[j]? = some x ∧ XAt K C H y x) → XAts K C H ys ps
  | [], [], _, _ => .nil
  | p :: r, y :: ys, l, h => by
    obtain ⟨x, hx, e⟩ := h 0 y rfl
    cases hx
    exact .cons e (xs_of (ps := r) (ys := ys) (by simpa using l) fun j y hy => h (j + 1) y hy)
theorem ty_x {K : PySem.W.Frag} {C : Addr} {H : Hp} {v : V} {x : Xp} (IX : C8.InsC K C) (h : XAt K C H v x) : TyX K H v (.ref C) := by
  obtain ⟨a, dx, l, rfl, ha, _⟩ := x_at h
  exact .base (.ins ha IX.cl IX.ha IX.hn IX.htk IX.hm)
section
variable {P : Program} {w : World} {K : PySem.W.Frag} {mg : Str → Option Value} {base : Heap}
theorem scNP : FnScope ["kind", "many"] ["kind", "many"] (defScope sXNum) := ⟨rfl, rfl, rfl, by decide +kernel, rfl, by decide +kernel, by decide +kernel⟩
theorem scCE : FnScope ["kind", "parts", "part"] ["kind", "parts"] (defScope sXCheck) := ⟨rfl, rfl, rfl, by decide +kernel, rfl, by decide +kernel, by decide +kernel⟩
theorem scEI : FnScope ["self", "kind", "parts", "rounds", "part"] ["self", "kind", "parts"] (defScope sXInit) := ⟨rfl, rfl, rfl, by decide +kernel, rfl, by decide +kernel, by decide +kernel⟩
def kinds : List Str := ["one", "letter", "row", "choice", "loop", "some", "maybe"]
/-- how many parts a kind may have -/
def manyK (z : Str) (n : Nat) : Bool := if z = "one" then decide (n = 0) else if z = "row" ∨ z = "choice" then decide (2 ≤ n) else decide (n = 1)
def spNoP : Sp := fun vs H Q _ => ∃ (z : Str) (n : Nat), vs = [.str z, .int (n : Int)] ∧ z ∈ kinds ∧ ∀ H', Same H H' → Q (.bl (manyK z n)) H'
theorem ok_nop {f : Addr} {fd : FuncData} (F : Fun K "is_number_of_parts" "is_number_of_parts" sXNum f fd) : FnOk P w K mg base CX0 1 f fd ["kind", "many"] spNoP := by
  refine F.ok scNP (fun vs H Q E h => ?_) (fun cdv A outer s H vs Q E hr h => ?_)
  · obtain ⟨z, n, rfl, _⟩ := h
    rfl
  · obtain ⟨z, n, rfl, hz, k⟩ := h
    refine ⟨_, (pss_cons (ps_if (pt_cmpR op_eq (pv 0) pe_str (nomark _)) (pss_one (ps_ret (pe_cmpR op_eq (pv 1) pe_int (nomark _)))) pss_nil)
        (pss_cons (ps_if (pt_cmpR op_in_seq (pv 0) (pe_tup (pa_cons pe_str (pa_cons pe_str pa_nil))) (by rfl)) (pss_one (ps_ret (pe_cmpR op_ge (pv 1) pe_int (nomark _)))) pss_nil)
        (pss_one (ps_ret (pe_cmpR op_eq (pv 1) pe_int (nomark _)))))), ?_⟩
    have two : ∀ (zz : Str) (b : Bool), (decide (V.str z = V.str "one")) = false → b = manyK z n → Q (.bl b) H → Q (.bl (manyK z n)) H := fun _ b _ e q => by rw [← e]; exact q
    have e0 : decide (V.int (n : Int) = V.int 0) = decide (n = 0) := by rw [Bool.eq_iff_iff, decide_eq_true_eq, decide_eq_true_eq]; exact ⟨fun e => by have := V.int.inj e; omega, fun e => by rw [e] <;> rfl⟩
    have e1 : decide (V.int (n : Int) = V.int 1) = decide (n = 1) := by rw [Bool.eq_iff_iff, decide_eq_true_eq, decide_eq_true_eq]; exact ⟨fun e => by have := V.int.inj e; omega, fun e => by rw [e] <;> rfl⟩
    have e2 : decide ((2 : Int) ≤ (n : Int)) = decide (2 ≤ n) := by rw [Bool.eq_iff_iff, decide_eq_true_eq, decide_eq_true_eq]; omega
    unfold kinds at hz
    simp only [List.mem_cons, List.not_mem_nil, or_false] at hz
    rcases hz with rfl | rfl | rfl | rfl | rfl | rfl | rfl
    · refine ⟨_, rfl, rfl, _, rfl, ?_⟩
      refine iteT ?_
      refine ⟨_, rfl, rfl, ?_⟩
      rw [e0]
      exact k _ (Same.refl _)
    rotate_left
    · refine ⟨_, rfl, rfl, _, rfl, ?_⟩
      refine iteF ?_
      refine ⟨_, rfl, by show 2 ≤ sizeLine; decide, fun p np => ?_⟩
      refine ⟨p, _, rfl, .inr (SqT.of upd_same), rfl, rfl, _, rfl, ?_⟩
      refine iteT ?_
      refine ⟨_, rfl, _, _, rfl, rfl, ?_⟩
      dsimp only
      rw [e2]
      exact k _ (same_up np)
    · refine ⟨_, rfl, rfl, _, rfl, ?_⟩
      refine iteF ?_
      refine ⟨_, rfl, by show 2 ≤ sizeLine; decide, fun p np => ?_⟩
      refine ⟨p, _, rfl, .inr (SqT.of upd_same), rfl, rfl, _, rfl, ?_⟩
      refine iteT ?_
      refine ⟨_, rfl, _, _, rfl, rfl, ?_⟩
      dsimp only
      rw [e2]
      exact k _ (same_up np)
    all_goals
      refine ⟨_, rfl, rfl, _, rfl, ?_⟩
      refine iteF ?_
      refine ⟨_, rfl, by show 2 ≤ sizeLine; decide, fun p np => ?_⟩
      refine ⟨p, _, rfl, .inr (SqT.of upd_same), rfl, rfl, _, rfl, ?_⟩
      refine iteF ?_
      refine ⟨_, rfl, rfl, ?_⟩
      rw [e1]
      exact k _ (same_up np)
end
end Vk
set_option Elab.async false
set_option linter.all false
set_option maxRecDepth 100000
set_option maxHeartbeats 4000000
namespace Vk
open PySem PySem.Spec PyProof.Rows L2 Vt PySem.Vx Vs1 ClX
/-- e.f, also in a comprehension -/
theorem pe_fldK {X : Cx} {K : PySem.W.Frag} (hK : X.K = K) {e : Expr} {ta : TE} {f : Str} {pos : Pos} (he : PE X e ta) (hb : attributeBase e f X.env (eval e X.env) = eval e X.env) : PE X (.Attribute e f pos) (tFld K ta f) := by
  subst hK
  exact pe_fld he hb
def kindsV : List V := [.str "one", .str "letter", .str "row", .str "choice", .str "loop", .str "some", .str "maybe"]
theorem kN_in : ∀ x : Xp, inV (.str (kN x)) kindsV = true
  | .one => rfl
  | .lt _ => rfl
  | .nd k _ => by cases k <;> rfl
theorem kN_mem : ∀ x : Xp, kN x ∈ kinds
  | .one => by simp [kinds, kN]
  | .lt _ => by simp [kinds, kN]
  | .nd k _ => by cases k <;> simp [kinds, kN, Kd.s]
def isLtX : Xp → Bool
  | .lt _ => true
  | _ => false
theorem kN_let : ∀ x : Xp, decide (V.str (kN x) = V.str "letter") = isLtX x
  | .one => rfl
  | .lt _ => rfl
  | .nd k _ => by cases k <;> rfl
theorem kN_loop : ∀ (k : Kd), inV (.str k.s) [.str "loop", .str "some"] = decide (rdK k = 1) := by
  intro k
  cases k <;> rfl
theorem pts_vs {K : PySem.W.Frag} {C : Addr} {H : Hp} {l : Addr} {x : Xp} (ok : okY x = true) (h7 : tl x ≤ 6000) (h : Pts K C H l x) : ∃ vs, SqT K H l vs ∧ manyK (kN x) vs.length = true ∧ vs.length ≤ 6000 ∧ (x = .one → vs = []) ∧ (∀ c, x = .lt c → vs = [.str (sg c)]) ∧ ∀ k ps, x = .nd k ps → XAts K C H vs ps := by
  cases x with
  | one => exact ⟨[], h, rfl, by decide, fun _ => rfl, fun c e => (by cases e), fun k ps e => (by cases e)⟩
  | lt c => exact ⟨_, h, rfl, by show 1 ≤ 6000; decide, fun e => (by cases e), fun c e => (by cases e; rfl), fun k ps e => (by cases e)⟩
  | nd k ps =>
    obtain ⟨vs, h1, h2⟩ := h
    have tn := tl_nd ok
    rw [okY, Bool.and_eq_true] at ok
    refine ⟨vs, h1, ?_, by rw [h2.len]; omega, fun e => (by cases e), fun c e => (by cases e), fun k ps e => (by cases e; exact h2)⟩
    have l := h2.len
    have o := ok.1
    rw [l]
    show manyK k.s ps.length = true
    cases k with
    | row => exact o
    | cho => exact o
    | loop => exact o
    | some => exact o
    | maybe => exact o
theorem x_sub {K : PySem.W.Frag} {C : Addr} {H : Hp} {l : Addr} {x : Xp} (ok : okY x = true) (h7 : tl x ≤ 6000) (h : Pts K C H l x) (nl : ∀ c, x ≠ .lt c) : ∃ vs ps, SqT K H l vs ∧ XAts K C H vs ps ∧ okYs ps = true ∧ (ps.length ≤ 6000 ∧ (sgXs ps).length ≤ 3001) ∧ sgX x = sgXs ps ∧ leX x = ⟨(leC (sgXs ps)).toArray⟩ ∧ dpX x = dpXs ps + (if inV (.str (kN x)) [.str "loop", .str "some"] = true then 1 else 0) := by
  cases x with
  | one => exact ⟨[], [], h, .nil, rfl, ⟨by decide, by decide⟩, rfl, rfl, rfl⟩
  | lt c => exact absurd rfl (nl c)
  | nd k ps =>
    obtain ⟨vs, h1, h2⟩ := h
    have tn := tl_nd ok
    have sg := sg_tl _ ok
    rw [sgX] at sg
    rw [okY, Bool.and_eq_true] at ok
    refine ⟨vs, ps, h1, h2, ok.2, ⟨by omega, by omega⟩, rfl, rfl, ?_⟩
    rw [dpX]
    cases k <;> rfl
section
variable {P : Program} {w : World} {K : PySem.W.Frag} {mg : Str → Option Value} {base : Heap}
def spChk (K : PySem.W.Frag) (C : Addr) : Sp := fun vs H Q _ => ∃ (l : Addr) (x : Xp), vs = [.str (kN x), .ref l] ∧ Pts K C H l x ∧ okY x = true ∧ tl x ≤ 6000 ∧ ∀ H', Same H H' → Q .non H'
theorem ok_chk {f fNP fLe aK C : Addr} {fd fdNP fdLe : FuncData} (F : Fun K "check_expression" "check_expression" sXCheck f fd) (T : Txt8 K mg) (gX : mg "Expression" = some (.ref C)) (IX : C8.InsC K C)
    (gK : mg "KINDS" = some (.ref aK)) (hK : ∀ H : Hp, SqT K H aK kindsV)
    (GNP : FnOk P w K mg base CX0 1 fNP fdNP ["kind", "many"] spNoP) (gNP : mg "is_number_of_parts" = some (.ref fNP)) (kNP : PySem.W.keepIn K (.ref fNP) = true) (bNP : Binds K fdNP ["kind", "many"] [])
    (GLe : FnOk P w K mg base CX0 1 fLe fdLe ["thing"] (spLetD K)) (gLe : mg "is_letter" = some (.ref fLe)) (kLe : PySem.W.keepIn K (.ref fLe) = true) (bLe : Binds K fdLe ["thing"] []) : FnOk P w K mg base CX0 2 f fd ["kind", "parts"] (spChk K C) := by
  refine F.ok scCE (fun vs H Q E h => ?_) (fun cdv A outer s H vs Q E hr h => ?_)
  · obtain ⟨l, x, rfl, _⟩ := h
    rfl
  · obtain ⟨l, x, rfl, hp, ok, h7, k⟩ := h
    refine ⟨_, (pss_cons (ps_if (pt_cmpR op_notIn_seq (pv 0) (pe_glob (v := .ref aK) (by rfl) gK rfl) (by rfl)) (pss_one ps_never) pss_nil)
        (pss_cons (ps_if (PW.pt (pw_or (pt_not (pt_val (pe_callB call_isi (by rfl) T.isi (by decide +kernel) (pa_cons (pv 1) (pa_cons (pe_bltn (v := .ty "tuple") (by rfl) T.tup (by decide +kernel) rfl) pa_nil))))) (pw_or1 (pt_not (pt_val (pe_call GNP hr rfl gNP kNP bNP .nil pass0 (pa_cons (pv 0) (pa_cons (pe_callB call_len (by rfl) T.len PySem.boot_len (pa_cons (pv 1) pa_nil)) pa_nil)))))))) (pss_one ps_never) pss_nil)
        (pss_one (ps_for PassesOwn.never rfl (pi_tup (pv 1)) (pg_name (i := 2) scCE.nd rfl (.inl rfl)) (pss_cons (ps_if (PW.pt (pw_and (pt_cmpR op_eq (pv 0) pe_str (nomark _)) (pw_and1 (pt_not (pt_val (pe_call GLe hr rfl gLe kLe bLe .nil pass0 (pa_cons (pv 2) pa_nil))))))) (pss_one ps_never) pss_nil)
        (pss_one (ps_if (PW.pt (pw_and (pt_cmpR op_ne (pv 0) pe_str (nomark _)) (pw_and1 (pt_not (pt_val (pe_callB call_isi (by rfl) T.isi (by decide +kernel) (pa_cons (pv 2) (pa_cons (pe_glob (v := .ref C) (by rfl) gX rfl) pa_nil)))))))) (pss_one ps_never) pss_nil))))))), ?_⟩
    obtain ⟨vs, hl, hm, few, v1, v2, v3⟩ := pts_vs ok h7 hp
    refine ⟨_, rfl, aK, _, rfl, .inr (hK _), rfl, rfl, _, rfl, ?_⟩
    rw [show (if true = true then !inV (.str (kN x)) kindsV else inV (.str (kN x)) kindsV) = false from by rw [if_pos rfl, kN_in] <;> rfl]
    refine iteF ?_
    refine ⟨_, rfl, _, _, _, _, true, rfl, .ty "tuple", tyT hl, rfl, _, rfl, ?_⟩
    refine iteF ?_
    refine ⟨_, rfl, _, rfl, _, vs.length, rfl, .inr ⟨_, hl, rfl⟩, kN x, vs.length, rfl, kN_mem x, fun H1 S1 => ⟨_, rfl, ?_⟩⟩
    rw [hm]
    refine iteF ?_
    refine ⟨_, rfl, l, rfl, ⟨_, same_seqT S1 hl⟩, ?_⟩
    refine for_tup (K := K) (a := l) (xs := vs) (fun i σ H' => ∃ v : Option V, σ = [some (.str (kN x)), some (.ref l), v] ∧ Same H1 H') ⟨none, rfl, Same.refl _⟩ (fun i σ H' _ ⟨_, _, S⟩ => same_seqT (S1.trans S) hl) ?_ ?_
    · rintro i y σ H' hi ⟨v, rfl, S⟩
      refine ⟨_, rfl, rfl, _, rfl, ?_⟩
      cases x with
      | one =>
        rw [v1 rfl] at hi
        cases hi
      | lt c =>
        rw [v2 c rfl] at hi
        obtain rfl : y = .str (sg c) := by
          rcases i with _ | i
          · cases hi
            rfl
          · cases hi
        refine iteT ?_
        refine ⟨_, rfl, .str (sg c), .str (sg c), rfl, .str _, by show 1 + 1 ≤ 1000000; decide, _, rfl, ?_⟩
        rw [okY] at ok
        have e : isLet (.str (sg c)) = true := by
          show (ltR (sg c)).isSome = true
          rw [ltR_sg]
          exact ok
        rw [e]
        refine iteF ?_
        refine ⟨_, rfl, rfl, _, rfl, ?_⟩
        refine iteF ?_
        refine iteF ?_
        exact ⟨_, rfl, S⟩
      | nd kd ps =>
        obtain ⟨z, hz, hx⟩ := (v3 kd ps rfl).get hi
        have e := kN_let (.nd kd ps)
        rw [e]
        refine iteF ?_
        refine ⟨_, rfl, rfl, _, rfl, ?_⟩
        rw [e]
        refine iteT ?_
        refine ⟨_, rfl, _, _, .ref C, .ref C, true, rfl, .own C, ty_x IX (x_kp (kp_same (S1.trans S)) _ _ hx), IX.me, _, rfl, ?_⟩
        refine iteF ?_
        exact ⟨_, rfl, S⟩
    · rintro σ H' ⟨v, rfl, S⟩
      exact k _ (S1.trans S)
def spXI (K : PySem.W.Frag) (C : Addr) : Sp := fun vs H Q _ => ∃ (a dx l : Addr) (x : Xp), vs = [.ref a, .str (kN x), .ref l] ∧ H a = some (.ins C dx []) ∧ Pts K C H l x ∧ okY x = true ∧ tl x ≤ 6000 ∧
  ∀ H', (∀ b o, H b = some o → b ≠ a → H' b = some o) → H' a = some (.ins C dx (flX x l)) → Q .non H'
theorem ok_xinit {dvs : List V} {kws : List (Str × V)} {f fCh C : Addr} {fd fdCh : FuncData} (F : FunD K "__init__" "Expression.__init__" (defArgs sXInit) (defBody sXInit) (defScope sXInit) dvs kws f fd) (T : Txt8 K mg) (mmax : mg "max" = none) (msum : mg "sum" = none) (M : XCls K C)
    (GCh : FnOk P w K mg base CX0 2 fCh fdCh ["kind", "parts"] (spChk K C)) (gCh : mg "check_expression" = some (.ref fCh)) (kCh : PySem.W.keepIn K (.ref fCh) = true) (bCh : Binds K fdCh ["kind", "parts"] []) : FnOk P w K mg base CX0 3 f fd ["self", "kind", "parts"] (spXI K C) := by
  refine F.ok scEI (fun vs H Q E h => ?_) (fun cdv A outer s H vs Q E hr h => ?_)
  · obtain ⟨a, dx, l, x, rfl, _⟩ := h
    rfl
  · obtain ⟨a, dx, l, x, rfl, ha, hp, ok, h7, k⟩ := h
    refine ⟨_, (pss_cons (ps_expr (pe_call GCh hr rfl gCh kCh bCh .nil pass0 (pa_cons (pv 1) (pa_cons (pv 2) pa_nil))))
        (pss_cons (ps_fld (pv 0) (pv 1) rfl)
        (pss_cons (ps_fld (pv 0) (pv 2) rfl)
        (pss_one (ps_if (pt_cmpR op_eq (pv 1) pe_str (nomark _)) (pss_cons (ps_fld (pv 0) pe_int rfl)
        (pss_cons (ps_fld (pv 0) pe_int rfl)
        (pss_one (ps_fld (pv 0) (pe_ix ix_tup (pv 2) pe_int (fun _ _ => rfl)) rfl)))) (pss_cons (ps_set (i := 3) scEI.nd rfl (.inl rfl) (pe_ifExp (pt_cmpR op_in_seq (pv 1) (pe_tup (pa_cons pe_str (pa_cons pe_str pa_nil))) (by rfl)) pe_int pe_int))
        (pss_cons (ps_fld (pv 0) (pe_op op_add (pe_callBK (cr_maxDef (by rfl) hr.units) (by rfl) mmax (by decide +kernel) (pa_cons (pe_lc (own := [("part", 4)]) (g := (gName 4)) (by rfl) scEI.nd (pi_tup (pv 2)) (blkOk_by (own := [("part", 4)]) (N := ["self", "kind", "parts", "rounds", "part"]) (sc := defScope sXInit) (by decide +kernel)) (fun _ _ _ _ _ => (pg_name (i := 4) scEI.nd rfl (.inl rfl))) (fun _ _ _ _ _ => pts_nil) (fun _ _ _ _ _ => (pe_fldK (K := K) (by rfl) (pv 4) rfl))) pa_nil) (pk_cons pe_int pk_nil)) (pv 3)) rfl)
        (pss_cons (ps_fld (pv 0) (pe_callB (cr_sum (by rfl)) (by rfl) msum (by decide +kernel) (pa_cons (pe_lc (own := [("part", 4)]) (g := (gName 4)) (by rfl) scEI.nd (pi_tup (pv 2)) (blkOk_by (own := [("part", 4)]) (N := ["self", "kind", "parts", "rounds", "part"]) (sc := defScope sXInit) (by decide +kernel)) (fun _ _ _ _ _ => (pg_name (i := 4) scEI.nd rfl (.inl rfl))) (fun _ _ _ _ _ => pts_nil) (fun _ _ _ _ _ => (pe_fldK (K := K) (by rfl) (pv 4) rfl))) pa_nil)) rfl)
        (pss_one (ps_fld (pv 0) (pe_join pe_str (pe_callB (cr_sortedTx (by rfl) hr.units) (by rfl) T.srt (by decide +kernel) (pa_cons (pe_callTy (cr_setTxt (by rfl)) (by rfl) T.set (by decide +kernel) (pa_cons (pe_join pe_str (pe_lc (own := [("part", 4)]) (g := (gName 4)) (by rfl) scEI.nd (pi_tup (pv 2)) (blkOk_by (own := [("part", 4)]) (N := ["self", "kind", "parts", "rounds", "part"]) (sc := defScope sXInit) (by decide +kernel)) (fun _ _ _ _ _ => (pg_name (i := 4) scEI.nd rfl (.inl rfl))) (fun _ _ _ _ _ => pts_nil) (fun _ _ _ _ _ => (pe_fldK (K := K) (by rfl) (pv 4) rfl))) (by rfl) (by rfl) (by rfl)) pa_nil)) pa_nil)) (by rfl) (by rfl) (by rfl)) rfl)))))))))), ?_⟩
    refine ⟨_, rfl, _, rfl, l, x, rfl, hp, ok, h7, fun H1 S1 => ?_⟩
    have ha1 := S1 _ _ ha
    refine ⟨_, rfl, _, rfl, a, C, dx, _, rfl, ha1, M.cl, M.a1, (by show 0 < 1000; decide), ?_⟩
    -- the first two fields
    have ha2 : upd H1 a (.ins C dx (putF "kind" (.str (kN x)) [])) a = some (.ins C dx [("kind", .str (kN x))]) := upd_same
    have KP2 := (kp_same (C := C) S1).trans (kp_ins (o := .ins C dx (putF "kind" (.str (kN x)) [])) ha1 (by decide))
    have b2 : ∀ b o, H b = some o → b ≠ a → upd H1 a (.ins C dx (putF "kind" (.str (kN x)) [])) b = some o := fun b o z n => by rw [upd_ne n]; exact S1 _ _ z
    generalize upd H1 a (.ins C dx (putF "kind" (.str (kN x)) [])) = H2 at ha2 KP2 b2 ⊢
    refine ⟨_, rfl, _, rfl, a, C, dx, _, rfl, ha2, M.cl, M.a2, (by show 1 < 1000; decide), ?_⟩
    have ha3 : upd H2 a (.ins C dx (putF "parts" (.ref l) [("kind", .str (kN x))])) a = some (.ins C dx [("kind", .str (kN x)), ("parts", .ref l)]) := upd_same
    have KP3 := KP2.trans (kp_ins (o := .ins C dx (putF "parts" (.ref l) [("kind", .str (kN x))])) ha2 (by show 1 < 5; decide))
    have b3 : ∀ b o, H b = some o → b ≠ a → upd H2 a (.ins C dx (putF "parts" (.ref l) [("kind", .str (kN x))])) b = some o := fun b o z n => by rw [upd_ne n]; exact b2 _ _ z n
    generalize upd H2 a (.ins C dx (putF "parts" (.ref l) [("kind", .str (kN x))])) = H3 at ha3 KP3 b3 ⊢
    refine ⟨_, rfl, rfl, _, rfl, ?_⟩
    rw [kN_let]
    by_cases hs : ∃ c, x = .lt c
    · obtain ⟨c, rfl⟩ := hs
      refine iteT ?_
      refine ⟨_, rfl, a, C, dx, _, rfl, ha3, M.cl, M.a3, (by show 2 < 1000; decide), ?_⟩
      have ht3 : SqT K H3 l [.str (sg c)] := KP3.tup hp
      have ha4 : upd H3 a (.ins C dx (putF "depth" (.int 0) [("kind", .str (kN (.lt c))), ("parts", .ref l)])) a = some (.ins C dx [("kind", .str (kN (.lt c))), ("parts", .ref l), ("depth", .int 0)]) := upd_same
      have KP4 := kp_ins (C := C) (o := .ins C dx (putF "depth" (.int 0) [("kind", .str (kN (.lt c))), ("parts", .ref l)])) ha3 (by show 2 < 5; decide)
      have b4 : ∀ b o, H b = some o → b ≠ a → upd H3 a (.ins C dx (putF "depth" (.int 0) [("kind", .str (kN (.lt c))), ("parts", .ref l)])) b = some o := fun b o z n => by rw [upd_ne n]; exact b3 _ _ z n
      have ht4 := KP4.tup ht3
      generalize upd H3 a (.ins C dx (putF "depth" (.int 0) [("kind", .str (kN (.lt c))), ("parts", .ref l)])) = H4 at ha4 b4 ht4 ⊢
      refine ⟨_, rfl, a, C, dx, _, rfl, ha4, M.cl, M.a4, (by show 3 < 1000; decide), ?_⟩
      have ha5 : upd H4 a (.ins C dx (putF "size" (.int 1) [("kind", .str (kN (.lt c))), ("parts", .ref l), ("depth", .int 0)])) a = some (.ins C dx [("kind", .str (kN (.lt c))), ("parts", .ref l), ("depth", .int 0), ("size", .int 1)]) := upd_same
      have KP5 := kp_ins (C := C) (o := .ins C dx (putF "size" (.int 1) [("kind", .str (kN (.lt c))), ("parts", .ref l), ("depth", .int 0)])) ha4 (by show 3 < 5; decide)
      have b5 : ∀ b o, H b = some o → b ≠ a → upd H4 a (.ins C dx (putF "size" (.int 1) [("kind", .str (kN (.lt c))), ("parts", .ref l), ("depth", .int 0)])) b = some o := fun b o z n => by rw [upd_ne n]; exact b4 _ _ z n
      have ht5 := KP5.tup ht4
      generalize upd H4 a (.ins C dx (putF "size" (.int 1) [("kind", .str (kN (.lt c))), ("parts", .ref l), ("depth", .int 0)])) = H5 at ha5 b5 ht5 ⊢
      refine ⟨_, rfl, l, _, 0, .str (sg c), rfl, rfl, ht5, rfl, _, rfl, a, C, dx, _, rfl, ha5, M.cl, M.a5, (by show 4 < 1000; decide), ?_⟩
      exact k _ (fun b o z n => by rw [upd_ne n]; exact b5 _ _ z n) upd_same
    obtain ⟨vs, ps, hl, hxs, oks, ⟨few, sfew⟩, e1, e2, e3⟩ := x_sub ok h7 hp (fun c e => hs ⟨c, e⟩)
    have lv := hxs.len
    rw [show isLtX x = false from by
      cases x with
      | one => rfl
      | lt c => exact absurd ⟨c, rfl⟩ hs
      | nd kd qs => rfl]
    refine iteF ?_
    have hl3 := KP3.tup hl
    have hx3 := xs_kp KP3 _ _ hxs
    refine ⟨_, rfl, by show 2 ≤ sizeLine; decide, fun p np => ?_⟩
    have sp := same_up (o := .tup [.str "loop", .str "some"]) np
    refine ⟨p, _, rfl, .inr (SqT.of upd_same), rfl, rfl, _, rfl, ?_⟩
    by_cases hb : inV (.str (kN x)) [.str "loop", .str "some"] = true
    · rw [show (if false = true then !inV (.str (kN x)) [.str "loop", .str "some"] else inV (.str (kN x)) [.str "loop", .str "some"]) = true from by rw [if_neg (by decide), hb]]
      refine iteT ?_
      have Sp := same_up (o := .tup [.str "loop", .str "some"]) np
      have ha4 := Sp _ _ ha3
      have hl4 := same_seqT Sp hl3
      have hx4 := xs_kp (kp_same Sp) _ _ hx3
      have b4 : ∀ b o, H b = some o → b ≠ a → upd H3 p (.tup [.str "loop", .str "some"]) b = some o := fun b o z n => Sp _ _ (b3 b o z n)
      generalize upd H3 p (.tup [.str "loop", .str "some"]) = H4 at ha4 hl4 hx4 b4 ⊢
      -- the depth
      refine ⟨_, rfl, l, rfl, ⟨_, hl4⟩, fun D nD => ?_⟩
      refine lc_mapT (K := K) (n := 4) (fun i v _ => ∃ x, ps[i]? = some x ∧ v = .int (dpX x : Int)) (fun _ _ _ _ _ h => h) hl4 nD (by rw [lv, sizeLine_eq]; omega) (fun _ => rfl) (fun i y H' C' hi S c => ?_) (fun ys H5 S5 hD ly hR => ?_)
      · obtain ⟨z, hz, hx⟩ := hx4.get hi
        obtain ⟨az, dz, lz, rfl, haz, _⟩ := x_at hx
        exact ⟨_, rfl, az, C, dz, _, _, rfl, S _ _ haz, M.cl, M.a3, rfl, c _ _ (Same.refl _) ⟨z, hz, rfl⟩⟩
      have ey : ys = (ps.map fun x => (dpX x : Int)).map V.int := by
        rw [map_of (f := fun x => V.int (dpX x : Int)) (ly.trans lv) hR, List.map_map] <;> rfl
      rw [ey] at hD
      refine ⟨D, _, 0, rfl, rfl, SqL.of hD, _, rfl, _, _, rfl, rfl, ?_⟩
      dsimp only
      rw [max_deep, show ((dpXs ps : Nat) : Int) + 1 = ((dpX x : Nat) : Int) by rw [e3, if_pos hb] <;> omega]
      have ha5 := S5 _ _ ha4
      have hl5 := same_seqT S5 hl4
      have hx5 := xs_kp (kp_same S5) _ _ hx4
      have b5 : ∀ b o, H b = some o → b ≠ a → H5 b = some o := fun b o z n => S5 _ _ (b4 b o z n)
      refine ⟨_, rfl, a, C, dx, _, rfl, ha5, M.cl, M.a3, (by show 2 < 1000; decide), ?_⟩
      have ha6 : upd H5 a (.ins C dx (putF "depth" (.int (dpX x : Int)) [("kind", .str (kN x)), ("parts", .ref l)])) a = some (.ins C dx [("kind", .str (kN x)), ("parts", .ref l), ("depth", .int (dpX x : Int))]) := upd_same
      have KP6 := kp_ins (C := C) (o := .ins C dx (putF "depth" (.int (dpX x : Int)) [("kind", .str (kN x)), ("parts", .ref l)])) ha5 (by show 2 < 5; decide)
      have b6 : ∀ b o, H b = some o → b ≠ a → upd H5 a (.ins C dx (putF "depth" (.int (dpX x : Int)) [("kind", .str (kN x)), ("parts", .ref l)])) b = some o := fun b o z n => by rw [upd_ne n]; exact b5 _ _ z n
      have hl6 := KP6.tup hl5
      have hx6 := xs_kp KP6 _ _ hx5
      generalize upd H5 a (.ins C dx (putF "depth" (.int (dpX x : Int)) [("kind", .str (kN x)), ("parts", .ref l)])) = H6 at ha6 b6 hl6 hx6 ⊢
      -- the size
      refine ⟨_, rfl, l, rfl, ⟨_, hl6⟩, fun D2 nD2 => ?_⟩
      refine lc_mapT (K := K) (n := 4) (fun i v _ => ∃ x, ps[i]? = some x ∧ v = .int ((sgX x).length : Int)) (fun _ _ _ _ _ h => h) hl6 nD2 (by rw [lv, sizeLine_eq]; omega) (fun _ => rfl) (fun i y H' C' hi S c => ?_) (fun ys2 H7 S7 hD2 ly2 hR2 => ?_)
      · obtain ⟨z, hz, hx⟩ := hx6.get hi
        obtain ⟨az, dz, lz, rfl, haz, _⟩ := x_at hx
        exact ⟨_, rfl, az, C, dz, _, _, rfl, S _ _ haz, M.cl, M.a4, rfl, c _ _ (Same.refl _) ⟨z, hz, rfl⟩⟩
      have ey2 : ys2 = (ps.map fun x => ((sgX x).length : Int)).map V.int := by
        rw [map_of (f := fun x => V.int ((sgX x).length : Int)) (ly2.trans lv) hR2, List.map_map] <;> rfl
      rw [ey2] at hD2
      refine ⟨D2, _, rfl, SqL.of hD2, ?_⟩
      rw [sum_size, ← e1]
      have ha7 := S7 _ _ ha6
      have hl7 := same_seqT S7 hl6
      have hx7 := xs_kp (kp_same S7) _ _ hx6
      have b7 : ∀ b o, H b = some o → b ≠ a → H7 b = some o := fun b o z n => S7 _ _ (b6 b o z n)
      refine ⟨_, rfl, a, C, dx, _, rfl, ha7, M.cl, M.a4, (by show 3 < 1000; decide), ?_⟩
      have ha8 : upd H7 a (.ins C dx (putF "size" (.int ((sgX x).length : Int)) [("kind", .str (kN x)), ("parts", .ref l), ("depth", .int (dpX x : Int))])) a = some (.ins C dx [("kind", .str (kN x)), ("parts", .ref l), ("depth", .int (dpX x : Int)), ("size", .int ((sgX x).length : Int))]) := upd_same
      have KP8 := kp_ins (C := C) (o := .ins C dx (putF "size" (.int ((sgX x).length : Int)) [("kind", .str (kN x)), ("parts", .ref l), ("depth", .int (dpX x : Int))])) ha7 (by show 3 < 5; decide)
      have b8 : ∀ b o, H b = some o → b ≠ a → upd H7 a (.ins C dx (putF "size" (.int ((sgX x).length : Int)) [("kind", .str (kN x)), ("parts", .ref l), ("depth", .int (dpX x : Int))])) b = some o := fun b o z n => by rw [upd_ne n]; exact b7 _ _ z n
      have hl8 := KP8.tup hl7
      have hx8 := xs_kp KP8 _ _ hx7
      generalize upd H7 a (.ins C dx (putF "size" (.int ((sgX x).length : Int)) [("kind", .str (kN x)), ("parts", .ref l), ("depth", .int (dpX x : Int))])) = H8 at ha8 b8 hl8 hx8 ⊢
      -- the letters
      refine ⟨⟨_, rfl⟩, ⟨_, rfl⟩, _, rfl, l, rfl, ⟨_, hl8⟩, fun D3 nD3 => ?_⟩
      refine lc_mapT (K := K) (n := 4) (fun i v _ => ∃ x, ps[i]? = some x ∧ v = .str (leX x)) (fun _ _ _ _ _ h => h) hl8 nD3 (by rw [lv, sizeLine_eq]; omega) (fun _ => rfl) (fun i y H' C' hi S c => ?_) (fun ys3 H9 S9 hD3 ly3 hR3 => ?_)
      · obtain ⟨z, hz, hx⟩ := hx8.get hi
        obtain ⟨az, dz, lz, rfl, haz, _⟩ := x_at hx
        exact ⟨_, rfl, az, C, dz, _, _, rfl, S _ _ haz, M.cl, M.a5, rfl, c _ _ (Same.refl _) ⟨z, hz, rfl⟩⟩
      have ey3 : ys3 = (ps.map leX).map V.str := by
        rw [map_of (f := fun x => V.str (leX x)) (ly3.trans lv) hR3, List.map_map] <;> rfl
      rw [ey3] at hD3
      have lsum := leXs_le ps
      have jl : (Txt.join ("" : Str) (ps.map leX)).length ≤ 3001 := by
        have a1 := len_join ("" : Str) (ps.map leX)
        rw [show ("" : Str).length = 0 from rfl] at a1
        omega
      refine ⟨_, D3, ps.map leX, rfl, rfl, .inl (SqL.of hD3), by show _ + _ * 0 ≤ _; omega, ?_⟩
      refine ⟨_, rfl, by show (Txt.join ("" : Str) (ps.map leX)).length + 1 < scanBound; exact Nat.lt_of_le_of_lt (Nat.succ_le_succ jl) (by decide), fun S0 nS => ?_⟩
      have S10 := same_up (o := SetSO P w S0 (Vs.putL [] (Vs.tsigns (Txt.join ("" : Str) (ps.map leX))))) nS
      refine ⟨S0, _, rfl, upd_same, fun zs p2 pm nd srt np2 => ?_⟩
      have S11 := S9.trans (S10.trans (same_up (o := .lst (zs.map V.str)) np2))
      have y1 : ∀ y ∈ zs, y.length ≤ 1 := fun y hy => by
        rcases Vs.mem_putL.mp (pm.mem_iff.mp hy) with z | z
        · cases z
        · obtain ⟨c, _, rfl⟩ := mem_tsigns.mp z
          exact Nat.le_refl _
      have yl : zs.length ≤ 3001 := by
        rw [pm.length_eq]
        refine Nat.le_trans Vs.len_putL ?_
        show 0 + (Vs.tsigns (Txt.join ("" : Str) (ps.map leX))).length ≤ 3001
        unfold Vs.tsigns
        rw [List.length_map]
        show 0 + (Txt.join ("" : Str) (ps.map leX)).length ≤ 3001
        omega
      have ys1 := sum_le y1
      refine ⟨_, p2, zs, rfl, rfl, .inl (SqL.of upd_same), by show _ + _ * 0 ≤ _; omega, _, rfl, a, C, dx, _, rfl, S11 _ _ ha8, M.cl, M.a5, (by show 4 < 1000; decide), ?_⟩
      rw [letters_of oks pm nd srt, ← e2]
      exact k _ (fun b o z n => by rw [upd_ne n]; exact S11 _ _ (b8 b o z n)) upd_same
    · rw [show (if false = true then !inV (.str (kN x)) [.str "loop", .str "some"] else inV (.str (kN x)) [.str "loop", .str "some"]) = false from by rw [if_neg (by decide)]; exact Bool.eq_false_iff.mpr hb]
      refine iteF ?_
      have Sp := same_up (o := .tup [.str "loop", .str "some"]) np
      have ha4 := Sp _ _ ha3
      have hl4 := same_seqT Sp hl3
      have hx4 := xs_kp (kp_same Sp) _ _ hx3
      have b4 : ∀ b o, H b = some o → b ≠ a → upd H3 p (.tup [.str "loop", .str "some"]) b = some o := fun b o z n => Sp _ _ (b3 b o z n)
      generalize upd H3 p (.tup [.str "loop", .str "some"]) = H4 at ha4 hl4 hx4 b4 ⊢
      -- the depth
      refine ⟨_, rfl, l, rfl, ⟨_, hl4⟩, fun D nD => ?_⟩
      refine lc_mapT (K := K) (n := 4) (fun i v _ => ∃ x, ps[i]? = some x ∧ v = .int (dpX x : Int)) (fun _ _ _ _ _ h => h) hl4 nD (by rw [lv, sizeLine_eq]; omega) (fun _ => rfl) (fun i y H' C' hi S c => ?_) (fun ys H5 S5 hD ly hR => ?_)
      · obtain ⟨z, hz, hx⟩ := hx4.get hi
        obtain ⟨az, dz, lz, rfl, haz, _⟩ := x_at hx
        exact ⟨_, rfl, az, C, dz, _, _, rfl, S _ _ haz, M.cl, M.a3, rfl, c _ _ (Same.refl _) ⟨z, hz, rfl⟩⟩
      have ey : ys = (ps.map fun x => (dpX x : Int)).map V.int := by
        rw [map_of (f := fun x => V.int (dpX x : Int)) (ly.trans lv) hR, List.map_map] <;> rfl
      rw [ey] at hD
      refine ⟨D, _, 0, rfl, rfl, SqL.of hD, _, rfl, _, _, rfl, rfl, ?_⟩
      dsimp only
      rw [max_deep, show ((dpXs ps : Nat) : Int) + 0 = ((dpX x : Nat) : Int) by rw [e3, if_neg hb] <;> omega]
      have ha5 := S5 _ _ ha4
      have hl5 := same_seqT S5 hl4
      have hx5 := xs_kp (kp_same S5) _ _ hx4
      have b5 : ∀ b o, H b = some o → b ≠ a → H5 b = some o := fun b o z n => S5 _ _ (b4 b o z n)
      refine ⟨_, rfl, a, C, dx, _, rfl, ha5, M.cl, M.a3, (by show 2 < 1000; decide), ?_⟩
      have ha6 : upd H5 a (.ins C dx (putF "depth" (.int (dpX x : Int)) [("kind", .str (kN x)), ("parts", .ref l)])) a = some (.ins C dx [("kind", .str (kN x)), ("parts", .ref l), ("depth", .int (dpX x : Int))]) := upd_same
      have KP6 := kp_ins (C := C) (o := .ins C dx (putF "depth" (.int (dpX x : Int)) [("kind", .str (kN x)), ("parts", .ref l)])) ha5 (by show 2 < 5; decide)
      have b6 : ∀ b o, H b = some o → b ≠ a → upd H5 a (.ins C dx (putF "depth" (.int (dpX x : Int)) [("kind", .str (kN x)), ("parts", .ref l)])) b = some o := fun b o z n => by rw [upd_ne n]; exact b5 _ _ z n
      have hl6 := KP6.tup hl5
      have hx6 := xs_kp KP6 _ _ hx5
      generalize upd H5 a (.ins C dx (putF "depth" (.int (dpX x : Int)) [("kind", .str (kN x)), ("parts", .ref l)])) = H6 at ha6 b6 hl6 hx6 ⊢
      -- the size
      refine ⟨_, rfl, l, rfl, ⟨_, hl6⟩, fun D2 nD2 => ?_⟩
      refine lc_mapT (K := K) (n := 4) (fun i v _ => ∃ x, ps[i]? = some x ∧ v = .int ((sgX x).length : Int)) (fun _ _ _ _ _ h => h) hl6 nD2 (by rw [lv, sizeLine_eq]; omega) (fun _ => rfl) (fun i y H' C' hi S c => ?_) (fun ys2 H7 S7 hD2 ly2 hR2 => ?_)
      · obtain ⟨z, hz, hx⟩ := hx6.get hi
        obtain ⟨az, dz, lz, rfl, haz, _⟩ := x_at hx
        exact ⟨_, rfl, az, C, dz, _, _, rfl, S _ _ haz, M.cl, M.a4, rfl, c _ _ (Same.refl _) ⟨z, hz, rfl⟩⟩
      have ey2 : ys2 = (ps.map fun x => ((sgX x).length : Int)).map V.int := by
        rw [map_of (f := fun x => V.int ((sgX x).length : Int)) (ly2.trans lv) hR2, List.map_map] <;> rfl
      rw [ey2] at hD2
      refine ⟨D2, _, rfl, SqL.of hD2, ?_⟩
      rw [sum_size, ← e1]
      have ha7 := S7 _ _ ha6
      have hl7 := same_seqT S7 hl6
      have hx7 := xs_kp (kp_same S7) _ _ hx6
      have b7 : ∀ b o, H b = some o → b ≠ a → H7 b = some o := fun b o z n => S7 _ _ (b6 b o z n)
      refine ⟨_, rfl, a, C, dx, _, rfl, ha7, M.cl, M.a4, (by show 3 < 1000; decide), ?_⟩
      have ha8 : upd H7 a (.ins C dx (putF "size" (.int ((sgX x).length : Int)) [("kind", .str (kN x)), ("parts", .ref l), ("depth", .int (dpX x : Int))])) a = some (.ins C dx [("kind", .str (kN x)), ("parts", .ref l), ("depth", .int (dpX x : Int)), ("size", .int ((sgX x).length : Int))]) := upd_same
      have KP8 := kp_ins (C := C) (o := .ins C dx (putF "size" (.int ((sgX x).length : Int)) [("kind", .str (kN x)), ("parts", .ref l), ("depth", .int (dpX x : Int))])) ha7 (by show 3 < 5; decide)
      have b8 : ∀ b o, H b = some o → b ≠ a → upd H7 a (.ins C dx (putF "size" (.int ((sgX x).length : Int)) [("kind", .str (kN x)), ("parts", .ref l), ("depth", .int (dpX x : Int))])) b = some o := fun b o z n => by rw [upd_ne n]; exact b7 _ _ z n
      have hl8 := KP8.tup hl7
      have hx8 := xs_kp KP8 _ _ hx7
      generalize upd H7 a (.ins C dx (putF "size" (.int ((sgX x).length : Int)) [("kind", .str (kN x)), ("parts", .ref l), ("depth", .int (dpX x : Int))])) = H8 at ha8 b8 hl8 hx8 ⊢
      -- the letters
      refine ⟨⟨_, rfl⟩, ⟨_, rfl⟩, _, rfl, l, rfl, ⟨_, hl8⟩, fun D3 nD3 => ?_⟩
      refine lc_mapT (K := K) (n := 4) (fun i v _ => ∃ x, ps[i]? = some x ∧ v = .str (leX x)) (fun _ _ _ _ _ h => h) hl8 nD3 (by rw [lv, sizeLine_eq]; omega) (fun _ => rfl) (fun i y H' C' hi S c => ?_) (fun ys3 H9 S9 hD3 ly3 hR3 => ?_)
      · obtain ⟨z, hz, hx⟩ := hx8.get hi
        obtain ⟨az, dz, lz, rfl, haz, _⟩ := x_at hx
        exact ⟨_, rfl, az, C, dz, _, _, rfl, S _ _ haz, M.cl, M.a5, rfl, c _ _ (Same.refl _) ⟨z, hz, rfl⟩⟩
      have ey3 : ys3 = (ps.map leX).map V.str := by
        rw [map_of (f := fun x => V.str (leX x)) (ly3.trans lv) hR3, List.map_map] <;> rfl
      rw [ey3] at hD3
      have lsum := leXs_le ps
      have jl : (Txt.join ("" : Str) (ps.map leX)).length ≤ 3001 := by
        have a1 := len_join ("" : Str) (ps.map leX)
        rw [show ("" : Str).length = 0 from rfl] at a1
        omega
      refine ⟨_, D3, ps.map leX, rfl, rfl, .inl (SqL.of hD3), by show _ + _ * 0 ≤ _; omega, ?_⟩
      refine ⟨_, rfl, by show (Txt.join ("" : Str) (ps.map leX)).length + 1 < scanBound; exact Nat.lt_of_le_of_lt (Nat.succ_le_succ jl) (by decide), fun S0 nS => ?_⟩
      have S10 := same_up (o := SetSO P w S0 (Vs.putL [] (Vs.tsigns (Txt.join ("" : Str) (ps.map leX))))) nS
      refine ⟨S0, _, rfl, upd_same, fun zs p2 pm nd srt np2 => ?_⟩
      have S11 := S9.trans (S10.trans (same_up (o := .lst (zs.map V.str)) np2))
      have y1 : ∀ y ∈ zs, y.length ≤ 1 := fun y hy => by
        rcases Vs.mem_putL.mp (pm.mem_iff.mp hy) with z | z
        · cases z
        · obtain ⟨c, _, rfl⟩ := mem_tsigns.mp z
          exact Nat.le_refl _
      have yl : zs.length ≤ 3001 := by
        rw [pm.length_eq]
        refine Nat.le_trans Vs.len_putL ?_
        show 0 + (Vs.tsigns (Txt.join ("" : Str) (ps.map leX))).length ≤ 3001
        unfold Vs.tsigns
        rw [List.length_map]
        show 0 + (Txt.join ("" : Str) (ps.map leX)).length ≤ 3001
        omega
      have ys1 := sum_le y1
      refine ⟨_, p2, zs, rfl, rfl, .inl (SqL.of upd_same), by show _ + _ * 0 ≤ _; omega, _, rfl, a, C, dx, _, rfl, S11 _ _ ha8, M.cl, M.a5, (by show 4 < 1000; decide), ?_⟩
      rw [letters_of oks pm nd srt, ← e2]
      exact k _ (fun b o z n => by rw [upd_ne n]; exact S11 _ _ (b8 b o z n)) upd_same
end
end Vk
set_option Elab.async false
set_option linter.all false
set_option maxRecDepth 100000
set_option maxHeartbeats 4000000
namespace Vk
open PySem PySem.Spec PyProof.Rows L2 Vt PySem.Vx Vs1 ClX
section
variable {P : Program} {w : World} {K : PySem.W.Frag} {mg : Str → Option Value} {base : Heap}
/-- a new one -/
theorem make_x {C x dx l : Addr} {H : Hp} {y : Xp} {Q : VK} (nx : H x = none) (nd : H dx = none) (ne : dx ≠ x) (hp : Pts K C H l y) (ok : okY y = true) (h7 : tl y ≤ 6000) (k : ∀ v H', Same H H' → XAt K C H' v y → Q v H') :
    spXI K C [.ref x, .str (kN y), .ref l] (upd (upd H dx (.own x)) x (.ins C dx [])) (fun r H' => r = .non ∧ Q (.ref x) H') E0 := by
  have S3 : Same H (upd (upd H dx (.own x)) x (.ins C dx [])) := fun b o z => by
    rw [upd_ne (ne_of_none z nx), upd_ne (ne_of_none z nd)]
    exact z
  refine ⟨x, dx, l, y, rfl, upd_same, hp.kp (kp_same S3), ok, h7, fun H' keep hx => ⟨rfl, ?_⟩⟩
  have S4 : Same H H' := fun b o z => keep b o (S3 _ _ z) (ne_of_none z nx)
  exact k _ _ S4 (at_x hx (hp.kp (kp_same S4)))
end
end Vk
set_option Elab.async false
set_option linter.all false
set_option maxRecDepth 100000
set_option maxHeartbeats 4000000
namespace Vk
open PySem PySem.Spec PyProof.Rows L2
open AutoSeq1 (wpAny_loadPart')
open Sem (wp)
theorem meets_enumerate_newT (l : Addr) (items : Array Value) (n : Nat) (dct : Option Addr) (sl : Array (Option Value)) :
    Meets (Builtin.«enumerate.__new__» ⟨[.type "enumerate", .ref l], []⟩) (fun _ R s => s.heap.get? l = some { cls := .type "tuple", dict := dct, data := .seq items n, slots := sl } ∧
      R (.ok (.ret (.ref (s.heap.push { cls := .type "tuple_iterator", data := .fields #[.ref l, .int 0 0] }).objs.size)))
        { s with heap := (s.heap.push { cls := .type "tuple_iterator", data := .fields #[.ref l, .int 0 0] }).push { cls := .type "enumerate", data := .fields #[.none, .bool false, .ref s.heap.objs.size, rawInt 0, .none, .none] } }) :=
  .of_wp fun prog w A R s h => by
    obtain ⟨hp, g, d, tk, os⟩ := s; obtain ⟨hl, h⟩ := h
    have hsub := sub_enumerate
    have hL : Heap.IsTuple (Shared.heap ⟨hp, g, d, tk, os⟩) l items := ⟨_, hl, rfl, n, rfl⟩
    wp_walk using wpAny_loadPart' hl
    refine wpAny_stack_any fun st => wpAny_pure ?_
    split
    · rename_i c _ _ _ _ _
      cases (c == Value.type "enumerate")
      · wp_walk using wpAny_loadPart' hl, wpAny_pyIter_tuple hL
        exact ⟨_, rfl, h⟩
      · wp_walk using wpAny_loadPart' hl, wpAny_pyIter_tuple hL
        exact ⟨_, rfl, h⟩
    · wp_walk using wpAny_loadPart' hl, wpAny_pyIter_tuple hL
      exact ⟨_, rfl, h⟩
section
variable {prog : Program} {w : World} {A : Around} {E : Value → Shared → Prop} {s : Shared}
theorem call_enumerate_tup {l : Addr} {items : Array Value} {Q : Value → Shared → Prop} (hL : s.heap.IsTuple l items)
    (h : ∀ h', IsEnum h' (s.heap.objs.size + 1) s.heap.objs.size 0 .none → h'.IsTupleIter s.heap.objs.size l 0 → h'.objs.size = s.heap.objs.size + 2 →
      (∀ b o, s.heap.get? b = some o → h'.get? b = some o) → Q (.ref (s.heap.objs.size + 1)) { s with heap := h' }) :
    wpAny (model prog w) A (call (.type "enumerate") [.ref l]) Q E s := by
  obtain ⟨⟨c, dct, dt, sl⟩, hl, hc, n, hd⟩ := hL
  replace hc : c = .type "tuple" := hc
  replace hd : dt = .seq items n := hd
  subst hc hd
  refine callType_new F.called_enumerate (by decide) (F.typeCall_enumerate_1 _) (F.newCall_enumerate_1 _) (fun obj => F.args_object_init_2 obj _) F.entry_enumerate_new
    (meets_enumerate_newT l items n dct sl) ⟨hl, ?_⟩
  have hz : (s.heap.push { cls := .type "tuple_iterator", data := .fields #[.ref l, .int 0 0] }).objs.size = s.heap.objs.size + 1 := Heap.size_push ..
  show _ ∧ _
  rw [hz]
  have he : IsEnum ((s.heap.push { cls := .type "tuple_iterator", data := .fields #[.ref l, .int 0 0] }).push
      { cls := .type "enumerate", data := .fields #[.none, .bool false, .ref s.heap.objs.size, rawInt 0, .none, .none] }) (s.heap.objs.size + 1) s.heap.objs.size 0 .none := by
    have := Heap.get?_push_size (s.heap.push { cls := .type "tuple_iterator", data := .fields #[.ref l, .int 0 0] })
      (o := { cls := .type "enumerate", data := .fields #[.none, .bool false, .ref s.heap.objs.size, rawInt 0, .none, .none] }) rfl
    rw [hz] at this; exact this
  refine ⟨⟨_, he, rfl⟩, h _ he ⟨_, Heap.get?_push_of_some _ (Heap.get?_push_size _ rfl), rfl, rfl⟩ (by rw [Heap.size_push, hz]) fun b o x => Heap.get?_push_of_some _ (Heap.get?_push_of_some _ x)⟩
end
/-- the tuple at a, each item in a new pair -/
def IteT (K : PySem.W.Frag) (a : Addr) : It :=
  ⟨fun i H => ∃ (xs : List V) (x : V), SqT K H a xs ∧ xs[i]? = some x, fun i H v H' => ∃ T x, v = .ref T ∧ H T = none ∧ H' = upd H T (.tup [.int (i : Nat), x]) ∧ ∀ xs, SqT K H a xs → xs[i]? = some x, fun i H => ∃ xs : List V, SqT K H a xs ∧ xs.length ≤ i⟩
theorem turn_enumT {P : Program} {w : World} {K : PySem.W.Frag} {elts : List Expr} {kk : Nat} {tpos : Pos} (a e it : Addr) :
    Turn P w K (.Tuple elts kk tpos) (IteT K a) [e, it] e (fun i h => (∃ old, IsEnum h e it ((i : Nat) : Int) old) ∧ h.IsTupleIter it a i ∧ e ≠ it) where
  mem := by simp
  obj := fun i h st b hb => by
    obtain ⟨⟨old, he⟩, ⟨o, ho, hc, hd⟩, _⟩ := st
    have e' : b = e ∨ b = it := by simpa using hb
    rcases e' with z | z
    · rw [z]; exact ⟨_, he, fun v q => nomatch q⟩
    · rw [z]; exact ⟨o, ho, fun v q => by rw [hd] at q; cases q⟩
  keep := fun i h h' st k => let ⟨⟨old, he⟩, hi, hne⟩ := st; ⟨⟨old, k e (by simp) _ he⟩, hi.at fun o q => k it (by simp) o q, hne⟩
  item := by
    intro X hP hw hK hc i pins s σ H E I hf st hg
    subst hP hw hK
    obtain ⟨⟨old, he⟩, hit, hne⟩ := st
    obtain ⟨xs, x, hq, hx⟩ := hg
    obtain ⟨its, rv, p, hz⟩ := I.tuple hq
    obtain ⟨u, hu, ru⟩ := rv.get hx
    have p' : s.heap.IsTuple a its.toArray := p
    have hel : e < s.heap.objs.size := Heap.lt_size he
    have hil : it < s.heap.objs.size := by obtain ⟨_, q, _⟩ := hit; exact Heap.lt_size q
    have hia : a ≠ it := fun z => by
      obtain ⟨o, ho, hc1, _⟩ := hit
      obtain ⟨o2, ho2, hc2, _⟩ := p'
      rw [z, ho] at ho2
      cases ho2
      rw [hc1] at hc2
      exact absurd hc2 (by decide)
    have hea : e ≠ a := fun z => by
      obtain ⟨o2, ho2, hc2, _⟩ := p'
      have he' : s.heap.get? e = some _ := he
      rw [← z, he'] at ho2
      cases ho2
      have hc3 : Value.type "enumerate" = Value.type "tuple" := hc2
      exact absurd hc3 (by decide)
    have D := Draws.tuple (prog := X.prog) (w := X.w) (A := X.A.in1) (I.ok.hd hc) it a hia its.toArray
    refine wpAny_pyNext_enum_itemD D he ⟨hit, p'⟩ (by
      have := (List.getElem?_eq_some_iff.mp hu).1
      simpa using this) hne (by simp [hne, hea]) fun u' h' tk hu' ho hit2 hT hsz hk => ?_
    have eu : u' = u := by
      have : its.toArray[i]? = some u := by simpa using hu
      exact Option.some.inj ((show its.toArray[i]? = some u' from hu').symm.trans this)
    subst eu
    obtain ⟨hit', _⟩ := hit2
    refine ⟨_, rfl, wpAny_letOwnedTupleGo_enum (s := { s with heap := h', toks := tk + 1 }) ho fun h'' he' sb => ?_⟩
    have hT2 : h''.get? s.heap.objs.size = some { cls := .type "tuple", data := .seq #[.int i tk, u'] } := (sb.2 _ (Nat.ne_of_gt hel)).trans hT
    have new : ObjOk X.prog X.w (upd H s.heap.objs.size (.tup [.int (i : Nat), x])) h'' s.heap.objs.size (.tup [.int (i : Nat), x]) :=
      ⟨by show 2 ≤ sizeLine; decide, [.int i tk, u'], .cons ⟨_, rfl⟩ (.cons ru .nil), ⟨_, hT2, rfl, _, rfl⟩⟩
    have I1 : Inv X pins σ (upd H s.heap.objs.size (.tup [.int (i : Nat), x])) { s with heap := h'', toks := tk + 1 } :=
      I.turnedNew (ch := [e, it]) (fun b ob hb q => (sb.2 b (fun z => hb (by simp [z]))).trans (hk b ob (fun z => hb (by simp [z])) (fun z => hb (by simp [z])) q)) hf (Nat.le_refl _) new
    refine ⟨.ref s.heap.objs.size, _, I1, rfl, ⟨_, x, rfl, I.hok.fresh (Nat.le_refl _), rfl, fun ys hy => by rw [I.tuple_inj hy hq]; exact hx⟩, ⟨⟨u', ?_⟩, hit'.at fun o q => (sb.2 it (Ne.symm hne)).trans q, hne⟩, fun b hb => ?_⟩
    · have e1 : ((i + 1 : Nat) : Int) = (i : Int) + 1 := by omega
      rw [e1]; exact he'
    · have hb' : b < s.heap.objs.size := by
        have e' : b = e ∨ b = it := by simpa using hb
        rcases e' with z | z
        · rw [z]; exact hel
        · rw [z]; exact hil
      rw [upd_ne (Nat.ne_of_lt hb')]
      exact (hf b hb).1
  done := by
    intro X hP hw hK hc i pins s σ H E I hf st hg
    subst hP hw hK
    obtain ⟨⟨old, he⟩, hit, hne⟩ := st
    obtain ⟨xs, hq, hx⟩ := hg
    obtain ⟨its, rv, p, hz⟩ := I.tuple hq
    have p' : s.heap.IsTuple a its.toArray := p
    obtain ⟨f0, f1, f2, f3, f4, f5⟩ := hf it (by simp)
    have hl := rv.length
    have go : ∀ h', Heap.ExtBut it s.heap h' → (none : Option Value) = none ∧ Inv X pins σ H { s with heap := h' } := fun h' eb => ⟨rfl, I.turned (t' := s.toks) (fun b o hb q => eb b o hb q) f0 f1 f3 f4 f5⟩
    have hT : s.TypeIs (.ref e) "enumerate" := ⟨_, he, rfl⟩
    unfold pyNext
    refine wpAny_bind (wpAny_attempt (wpAny_callSpecial?_slot (name := Str.ofString "__next__") hT F.slot_enumerate_next
      (wpAny_call_entry F.slot_enumerate_next hT F.entry_enumerate_next ?_ (F.args_enumerate_next_1 _))))
    show wpAny _ _ (field (.ref e) 2 >>= _) _ _ _
    refine wpAny_bind (wpAny_field he rfl (x := .ref it) rfl ?_)
    refine wpAny_bind (wpAny_nextOf_tuple_end (I.ok.hd hc) hit p' (by simp; omega) fun h' x he' hx' => ?_)
    obtain ⟨o, ho, hc⟩ := hx'
    refine wpAny_bind (wpAny_isInstance (T := "StopIteration") (b := true) ⟨o, ho, hc⟩ isSubtype_stop ?_)
    exact wpAny_pure (go _ he')
  self := fun A i s Q E st h => let ⟨⟨_, he⟩, _⟩ := st; wpAny_pyIter_enum he h
def iEnumT (K : PySem.W.Frag) (ta : TA) : TI := fun σ H R => ta σ H fun vs H1 => ∃ a xs, vs = [.ref a] ∧ SqT K H1 a xs ∧ R (IteT K a) H1
theorem pi_enumT {X : Cx} {e : Expr} {ta : TA} {p pos tpos : Pos} {elts : List Expr} {kk : Nat} (hg : Gl X "enumerate") (hm : X.mg "enumerate" = none) (ha : PA X [e] ta) (hs : starEach [e] X.env = [(false, eval e X.env)] := by rfl) :
    PI X (.Tuple elts kk tpos) (.Call (.Name "enumerate" p) [e] [] pos) (iEnumT X.K ta) := by
  refine ⟨fun pins s σ H R I h => ?_⟩
  refine Call_ (ld_blt I hg hm boot_enumerate (PyProof.Rows.callWith_type1 (thn (ha.run pos pins s σ H _ I h) fun us s1 ⟨vs, H1, I1, r1, q1⟩ => ?_) hs rfl))
  obtain ⟨a, xs, ex, hq, q⟩ := q1
  subst ex
  cases r1 with
  | cons r rr =>
    cases rr
    cases r
    obtain ⟨its, rv, p', hz⟩ := I1.tuple hq
    refine call_enumerate_tup (show s1.heap.IsTuple a its.toArray from p') fun h' he hit hsz hk => wpAny_pyIter_enum he ?_
    have I2 : Inv X pins σ H1 { s1 with heap := h' } := I1.kept (t' := s1.toks) hk
    refine ⟨s1.heap.objs.size + 1, [s1.heap.objs.size + 1, s1.heap.objs.size], _, _, H1, rfl, I2, turn_enumT a (s1.heap.objs.size + 1) s1.heap.objs.size, ⟨⟨.none, he⟩, hit, Nat.succ_ne_self _⟩, fun b hb => ?_, q⟩
    have e' : b = s1.heap.objs.size + 1 ∨ b = s1.heap.objs.size := by simpa using hb
    have hle : s1.heap.objs.size ≤ b := by
      rcases e' with z | z
      · rw [z]; exact Nat.le_add_right _ _
      · rw [z]; exact Nat.le_refl _
    exact I1.fpOk hle (I1.hok.fresh hle)
theorem lc_enumT {K : PySem.W.Frag} {a : Addr} {xs : List V} {g : TG} {tt : TT} {te : TE} {vs : List Nat} {σ : L2.St} {H1 : Hp} {D : Addr} {Qd : Hp → Prop} (Pv : Nat → Hp → Prop) (h0 : Pv 0 (upd H1 D (.lst []))) (hl : ∀ i H, i ≤ xs.length → Pv i H → SqT K H a xs)
    (hs : ∀ i x H T, xs[i]? = some x → H T = none → Pv i H → g (.ref T) (wipe σ vs) (upd H T (.tup [.int (i : Nat), x])) fun σ2 H2 => wipe σ2 vs = wipe σ vs ∧ tt σ2 H2 fun b H3 =>
      if b = true then te σ2 H3 fun y H4 => ∃ acc, H4 D = some (.lst acc) ∧ acc.length < sizeLine ∧ Pv (i + 1) (upd H4 D (.lst (acc ++ [y]))) else Pv (i + 1) H3) (hd : ∀ H, Pv xs.length H → Qd H) :
    ∃ W : Nat → Nat → Hp → Prop, (∃ m, W 0 m (upd H1 D (.lst []))) ∧ ∀ i m H, W i m H →
      ((IteT K a).stop i H ∧ Qd H) ∨ ((IteT K a).go i H ∧ ∃ Nx : Hp → Prop, (∀ H', Nx H' → ∃ m', m' < m ∧ W (i + 1) m' H') ∧ ∀ x H', (IteT K a).yld i H x H' → g x (wipe σ vs) H' fun σ2 H2 => wipe σ2 vs = wipe σ vs ∧ tt σ2 H2 fun b H3 =>
        if b = true then te σ2 H3 fun y H4 => ∃ acc, H4 D = some (.lst acc) ∧ acc.length < sizeLine ∧ Nx (upd H4 D (.lst (acc ++ [y]))) else Nx H3) := by
  refine ⟨fun i m H => m = xs.length - i ∧ i ≤ xs.length ∧ Pv i H, ⟨xs.length, by simp, Nat.zero_le _, h0⟩, ?_⟩
  rintro i m H ⟨rfl, hi, p⟩
  have q := hl i H hi p
  by_cases hlt : i < xs.length
  · refine .inr ⟨⟨xs, xs[i], q, by simp [hlt]⟩, Pv (i + 1), fun H' p' => ⟨xs.length - (i + 1), by omega, rfl, hlt, p'⟩, fun v H' y => ?_⟩
    obtain ⟨T, x, rfl, nT, rfl, y⟩ := y
    exact hs i x _ T (y xs q) nT p
  · have e : i = xs.length := by omega
    subst e
    exact .inl ⟨⟨xs, q, Nat.le_refl _⟩, hd H p⟩
end Vk
set_option Elab.async false
set_option linter.all false
set_option maxRecDepth 100000
set_option maxHeartbeats 4000000
namespace Vk
open PySem PySem.Spec PyProof.Rows L2 Vt PySem.Vx Vs1 ClX
abbrev sPieces : Stmt := top8 11
abbrev sAround : Stmt := top8 12
theorem for_enumT {K : PySem.W.Frag} {a : Addr} {xs : List V} {g : TG} {tb : TS} {D : Ends} {σ : L2.St} {H : Hp} (Pv : Nat → L2.St → Hp → Prop) (h0 : Pv 0 σ H) (hl : ∀ i σ H, i ≤ xs.length → Pv i σ H → SqT K H a xs)
    (hs : ∀ i x σ H T, xs[i]? = some x → H T = none → Pv i σ H → g (.ref T) σ (upd H T (.tup [.int (i : Nat), x])) fun σ2 H2 => tb { D with nx := Pv (i + 1), ct := Pv (i + 1), bk := D.nx } σ2 H2) (hd : ∀ σ H, Pv xs.length σ H → D.nx σ H) :
    ∃ W : Nat → Nat → L2.St → Hp → Prop, (∃ m, W 0 m σ H) ∧ ∀ i m σ H, W i m σ H →
      ((IteT K a).stop i H ∧ D.nx σ H) ∨ ((IteT K a).go i H ∧ ∃ N : L2.St → Hp → Prop, (∀ σ' H', N σ' H' → ∃ m', m' < m ∧ W (i + 1) m' σ' H') ∧ ∀ x H', (IteT K a).yld i H x H' → g x σ H' fun σ2 H2 => tb { D with nx := N, ct := N, bk := D.nx } σ2 H2) := by
  refine ⟨fun i m σ H => m = xs.length - i ∧ i ≤ xs.length ∧ Pv i σ H, ⟨xs.length, by simp, Nat.zero_le _, h0⟩, ?_⟩
  rintro i m σ H ⟨rfl, hi, p⟩
  have q := hl i σ H hi p
  by_cases hlt : i < xs.length
  · refine .inr ⟨⟨xs, xs[i], q, List.getElem?_eq_getElem hlt⟩, Pv (i + 1), fun σ' H' p' => ⟨xs.length - (i + 1), by omega, rfl, hlt, p'⟩, fun v H' y => ?_⟩
    obtain ⟨T, x, rfl, nT, rfl, y⟩ := y
    exact hs i x σ H T (y xs q) nT p
  · have e : i = xs.length := by omega
    subst e
    exact .inl ⟨⟨xs, q, Nat.le_refl _⟩, hd σ H p⟩
/-! ## what a text is made of -/
inductive Pc where
  | s (z : Str) : Pc
  | e (x : Xp) : Pc
def PcAt (K : PySem.W.Frag) (C : Addr) (H : Hp) (v : V) : Pc → Prop
  | .s z => v = .str z
  | .e x => XAt K C H v x ∧ okY x = true ∧ tl x ≤ 6000
theorem pc_kp {K : PySem.W.Frag} {C : Addr} {H H' : Hp} (S : Kp C H H') {p : Pc} {v : V} (h : PcAt K C H v p) : PcAt K C H' v p := by
  cases p with
  | s z => exact h
  | e x => exact ⟨x_kp S _ _ h.1, h.2⟩
def PcsAt (K : PySem.W.Frag) (C : Addr) (H : Hp) (vs : List V) (ps : List Pc) : Prop := vs.length = ps.length ∧ ∀ (i : Nat) (v : V), vs[i]? = some v → ∃ p, ps[i]? = some p ∧ PcAt K C H v p
theorem pcs_kp {K : PySem.W.Frag} {C : Addr} {H H' : Hp} (S : Kp C H H') {ps : List Pc} {vs : List V} (h : PcsAt K C H vs ps) : PcsAt K C H' vs ps := ⟨h.1, fun i v hi => let ⟨p, h1, h2⟩ := h.2 i v hi; ⟨p, h1, pc_kp S h2⟩⟩
theorem pcs_snoc {K : PySem.W.Frag} {C : Addr} {H : Hp} {ps : List Pc} {vs : List V} {p : Pc} {v : V} (h : PcsAt K C H vs ps) (hp : PcAt K C H v p) : PcsAt K C H (vs ++ [v]) (ps ++ [p]) := by
  refine ⟨by rw [List.length_append, List.length_append, h.1] <;> rfl, fun i x hi => ?_⟩
  rw [List.getElem?_append] at hi ⊢
  by_cases c : i < vs.length
  · rw [if_pos c] at hi
    rw [if_pos (by rw [← h.1]; exact c)]
    exact h.2 i x hi
  · rw [if_neg c] at hi
    rw [if_neg (by rw [← h.1]; exact c), ← h.1]
    have e : i - vs.length = 0 := by
      have := (List.getElem?_eq_some_iff.mp hi).1
      simp at this
      omega
    rw [e] at hi ⊢
    cases hi
    exact ⟨p, rfl, hp⟩
theorem pcs_app {K : PySem.W.Frag} {C : Addr} {H : Hp} {ps qs : List Pc} {vs ws : List V} (h : PcsAt K C H vs ps) (h2 : PcsAt K C H ws qs) : PcsAt K C H (vs ++ ws) (ps ++ qs) := by
  refine ⟨by rw [List.length_append, List.length_append, h.1, h2.1], fun i x hi => ?_⟩
  rw [List.getElem?_append] at hi ⊢
  by_cases c : i < vs.length
  · rw [if_pos c] at hi
    rw [if_pos (by rw [← h.1]; exact c)]
    exact h.2 i x hi
  · rw [if_neg c] at hi
    rw [if_neg (by rw [← h.1]; exact c), ← h.1]
    exact h2.2 _ x hi
theorem pcs_rev {K : PySem.W.Frag} {C : Addr} {H : Hp} {ps : List Pc} {vs : List V} (h : PcsAt K C H vs ps) : PcsAt K C H vs.reverse ps.reverse := by
  refine ⟨by rw [List.length_reverse, List.length_reverse, h.1], fun i x hi => ?_⟩
  have il : i < vs.length := by
    have := (List.getElem?_eq_some_iff.mp hi).1
    rwa [List.length_reverse] at this
  rw [List.getElem?_reverse il] at hi
  rw [List.getElem?_reverse (by rw [← h.1]; exact il), ← h.1]
  exact h.2 _ x hi
def sep (j : Str) : List Xp → List Pc
  | [] => []
  | x :: r => .e x :: r.flatMap fun y => [.s j, .e y]
def aroundP : Xp → List Pc
  | .one => [.s "1"]
  | .lt c => [.s (sg c)]
  | .nd .row ps => .s "(" :: sep " " ps ++ [.s ")"]
  | .nd .cho ps => .s "(" :: sep " | " ps ++ [.s ")"]
  | .nd k ps => [.e (ps.headD .one), .s (markS k)]
def txP : Pc → Str
  | .s z => z
  | .e x => lnX x
def cpsP (p : Pc) : List Nat := cpsL (txP p)
theorem sep_text (j : Str) : ∀ ps : List Xp, (sep j ps).flatMap cpsP = cpsL (Txt.join j (lnXs ps)) := by
  intro ps
  show _ = cpsL (Builtin.Str.glued j (lnXs ps))
  rw [StrLaws.glued_eq_join]
  cases ps with
  | nil => rfl
  | cons x r =>
    rw [sep, List.flatMap_cons]
    have : ∀ (r : List Xp) (x : Xp), cpsL (lnX x) ++ (r.flatMap fun y => [Pc.s j, Pc.e y]).flatMap cpsP = cpsL (Str.join j (lnX x :: lnXs r)) := by
      intro r
      induction r with
      | nil => intro x; simp [lnXs, Str.join]
      | cons y r ih =>
        intro x
        rw [lnXs, List.flatMap_cons]
        show _ = cpsL (lnX x ++ j ++ Str.join j (lnX y :: lnXs r))
        rw [cps_app, cps_app, ← ih y, List.flatMap_append]
        show cpsL (lnX x) ++ ((cpsL j ++ (cpsL (lnX y) ++ [])) ++ _) = _
        simp
    exact this r x
theorem around_text : ∀ x : Xp, okY x = true → (aroundP x).flatMap cpsP = cpsL (lnX x)
  | .one, _ => rfl
  | .lt c, _ => rfl
  | .nd k ps, h => by
    rw [okY, Bool.and_eq_true] at h
    cases k with
    | row =>
      show (Pc.s "(" :: sep " " ps ++ [Pc.s ")"]).flatMap cpsP = cpsL (("(" : Str) ++ Txt.join (" " : Str) (lnXs ps) ++ (")" : Str))
      rw [List.flatMap_append, List.flatMap_cons, sep_text, cps_app, cps_app]
      simp [cpsP, txP]
    | cho =>
      show (Pc.s "(" :: sep " | " ps ++ [Pc.s ")"]).flatMap cpsP = cpsL (("(" : Str) ++ Txt.join (" | " : Str) (lnXs ps) ++ (")" : Str))
      rw [List.flatMap_append, List.flatMap_cons, sep_text, cps_app, cps_app]
      simp [cpsP, txP]
    | loop =>
      obtain ⟨x, rfl⟩ := one_of (of_decide_eq_true h.1)
      show cpsL (lnX x) ++ (cpsL "*" ++ []) = cpsL (lnX x ++ "*")
      rw [cps_app, List.append_nil]
    | some =>
      obtain ⟨x, rfl⟩ := one_of (of_decide_eq_true h.1)
      show cpsL (lnX x) ++ (cpsL "+" ++ []) = cpsL (lnX x ++ "+")
      rw [cps_app, List.append_nil]
    | maybe =>
      obtain ⟨x, rfl⟩ := one_of (of_decide_eq_true h.1)
      show cpsL (lnX x) ++ (cpsL "?" ++ []) = cpsL (lnX x ++ "?")
      rw [cps_app, List.append_nil]
/-! how many turns -/
mutual
def wX : Xp → Nat
  | .one => 2
  | .lt _ => 2
  | .nd _ ps => wXs ps + 8
def wXs : List Xp → Nat
  | [] => 0
  | x :: r => wX x + 1 + wXs r
end
def wP : Pc → Nat
  | .s _ => 1
  | .e x => wX x
def wPs (l : List Pc) : Nat := (l.map wP).sum
theorem wPs_app (a b : List Pc) : wPs (a ++ b) = wPs a + wPs b := by unfold wPs; rw [List.map_append, List.sum_append]
theorem wP_pos (p : Pc) : 1 ≤ wP p := by
  cases p with
  | s z => exact Nat.le_refl _
  | e x => cases x <;> simp [wP, wX]
theorem wPs_len : ∀ l : List Pc, l.length ≤ wPs l
  | [] => Nat.zero_le _
  | p :: r => by
    have a := wPs_len r
    have b := wP_pos p
    show r.length + 1 ≤ wP p + wPs r
    omega
theorem wPs_rev (l : List Pc) : wPs l.reverse = wPs l := by
  unfold wPs
  rw [List.map_reverse, List.sum_reverse]
theorem w_sep (j : Str) : ∀ ps : List Xp, wPs (sep j ps) ≤ wXs ps
  | [] => Nat.le_refl _
  | x :: r => by
    have : ∀ r : List Xp, wPs (r.flatMap fun y => [Pc.s j, Pc.e y]) = wXs r := by
      intro r
      induction r with
      | nil => rfl
      | cons y r ih =>
        rw [List.flatMap_cons, wPs_app, ih, wXs]
        show (1 + (wX y + 0)) + _ = _
        omega
    rw [sep, wXs]
    show wX x + wPs _ ≤ _
    rw [this]
    omega
theorem w_around : ∀ x : Xp, okY x = true → wPs (aroundP x) + 1 ≤ wX x
  | .one, _ => by decide
  | .lt c, _ => Nat.le_refl _
  | .nd k ps, h => by
    have few := (tl_nd h).2.2
    have hd : wX (ps.headD .one) ≤ wXs ps + 2 := by
      cases ps with
      | nil => exact absurd few (by decide)
      | cons x r =>
        show wX x ≤ _
        rw [wXs]
        omega
    rw [wX]
    cases k with
    | row =>
      have := w_sep " " ps
      show wPs ((Pc.s "(" :: sep " " ps) ++ [.s ")"]) + 1 ≤ _
      rw [wPs_app]
      show 1 + wPs (sep " " ps) + (1 + 0) + 1 ≤ _
      omega
    | cho =>
      have := w_sep " | " ps
      show wPs ((Pc.s "(" :: sep " | " ps) ++ [.s ")"]) + 1 ≤ _
      rw [wPs_app]
      show 1 + wPs (sep " | " ps) + (1 + 0) + 1 ≤ _
      omega
    | loop =>
      show wX _ + (1 + 0) + 1 ≤ _
      omega
    | some =>
      show wX _ + (1 + 0) + 1 ≤ _
      omega
    | maybe =>
      show wX _ + (1 + 0) + 1 ≤ _
      omega
mutual
theorem w_le : ∀ x : Xp, okY x = true → wX x ≤ 12 * tl x
  | .one, _ => by decide
  | .lt c, _ => (by decide : 2 ≤ 12 * 1)
  | .nd k ps, h => by
    have hs := ws_le ps
    rw [okY, Bool.and_eq_true] at h
    have hs := hs h.2
    rw [wX]
    cases hb : brK k with
    | true =>
      have := tl_row (ps := ps) hb
      omega
    | false =>
      obtain ⟨x, rfl, e⟩ := tl_mark hb h.1
      rw [e]
      rw [tls_cons] at hs
      have z : tls [] = 0 := rfl
      have z2 : [x].length = 1 := rfl
      omega
theorem ws_le : ∀ ps : List Xp, okYs ps = true → wXs ps ≤ 12 * tls ps + ps.length
  | [], _ => Nat.zero_le _
  | x :: r, h => by
    rw [okYs, Bool.and_eq_true] at h
    have a := w_le x h.1
    have b := ws_le r h.2
    rw [wXs, tls_cons, List.length_cons]
    omega
end
theorem w_max {x : Xp} (ok : okY x = true) (h : tl x ≤ 6000) : wX x ≤ 72000 := Nat.le_trans (w_le x ok) (by omega)
end Vk
set_option Elab.async false
set_option linter.all false
set_option maxRecDepth 100000
set_option maxHeartbeats 4000000
namespace Vk
open PySem PySem.Spec PyProof.Rows L2 Vt PySem.Vx Vs1 ClX
structure Marks (K : PySem.W.Frag) (aM : Addr) : Prop where
  row : PySem.W.nsIn K aM "row" = some none
  cho : PySem.W.nsIn K aM "choice" = some none
  kloop : ∃ u, PySem.W.nsIn K aM "loop" = some (some u) ∧ RelV (.str "*") u
  ksome : ∃ u, PySem.W.nsIn K aM "some" = some (some u) ∧ RelV (.str "+") u
  kmaybe : ∃ u, PySem.W.nsIn K aM "maybe" = some (some u) ∧ RelV (.str "?") u
theorem pcs_nil {K : PySem.W.Frag} {C : Addr} {H : Hp} : PcsAt K C H [] [] := ⟨rfl, fun i v h => by cases h⟩
theorem sep_take (j : Str) : ∀ {ps : List Xp} {i : Nat} {x : Xp}, ps[i]? = some x → sep j (ps.take (i + 1)) = sep j (ps.take i) ++ (if i = 0 then [Pc.e x] else [Pc.s j, Pc.e x])
  | y :: r, 0, x, h => by
    cases h
    rfl
  | y :: r, i + 1, x, h => by
    rw [List.getElem?_cons_succ] at h
    rw [if_neg (Nat.succ_ne_zero i), List.take_succ_cons, List.take_succ_cons, sep, sep, List.take_add_one, h, List.flatMap_append]
    simp
section
variable {P : Program} {w : World} {K : PySem.W.Frag} {mg : Str → Option Value} {base : Heap}
def spAround (K : PySem.W.Frag) (C : Addr) : Sp := fun vs H Q _ => ∃ (v : V) (x : Xp), vs = [v] ∧ XAt K C H v x ∧ okY x = true ∧ tl x ≤ 6000 ∧ ∀ p xs H', Same H H' → H p = none → H' p = some (.lst xs) → PcsAt K C H' xs (aroundP x) → Q (.ref p) H'
theorem scPa : FnScope ["expression", "joint", "pieces", "place", "part"] ["expression"] (defScope sAround) := ⟨rfl, rfl, rfl, by decide +kernel, rfl, by decide +kernel, by decide +kernel⟩
theorem ok_around {f C aM : Addr} {es : Array DictEntry} {n : Nat} {fd : FuncData} (F : Fun K "pieces_around" "pieces_around" sAround f fd) (T : Txt8 K mg) (menum : mg "enumerate" = none) (M : XCls K C) (gMk : mg "MARKS" = some (.ref aM)) (DM : KDict K w aM es n) (MK : Marks K aM) :
    FnOk P w K mg base CX0 1 f fd ["expression"] (spAround K C) := by
  refine F.ok scPa (fun vs H Q E h => ?_) (fun cdv A outer s H vs Q E hr h => ?_)
  · obtain ⟨v, x, rfl, _⟩ := h
    rfl
  · obtain ⟨v, x, rfl, hx, ok, h7, k⟩ := h
    refine ⟨_, (pss_cons (ps_if (pt_cmpR op_eq (pe_fld (pv 0) rfl) pe_str (nomark _)) (pss_one (ps_ret (pe_lst (pa_cons pe_str pa_nil)))) pss_nil)
        (pss_cons (ps_if (pt_cmpR op_eq (pe_fld (pv 0) rfl) pe_str (nomark _)) (pss_one (ps_ret (pe_lst (pa_cons (pe_ix ix_tup (pe_fld (pv 0) rfl) pe_int (fun _ _ => rfl)) pa_nil)))) pss_nil)
        (pss_cons (ps_if (pt_cmpR (op_in_kd DM) (pe_fld (pv 0) rfl) (pe_glob (v := .ref aM) (by rfl) gMk rfl) (by rfl)) (pss_one (ps_ret (pe_lst (pa_cons (pe_ix ix_tup (pe_fld (pv 0) rfl) pe_int (fun _ _ => rfl)) (pa_cons (pe_ix ix_kdict (pe_glob (v := .ref aM) (by rfl) gMk rfl) (pe_fld (pv 0) rfl) (fun _ _ => rfl)) pa_nil))))) pss_nil)
        (pss_cons (ps_set (i := 1) scPa.nd rfl (.inl rfl) (pe_ifExp (pt_cmpR op_eq (pe_fld (pv 0) rfl) pe_str (nomark _)) pe_str pe_str))
        (pss_cons (ps_set (i := 2) scPa.nd rfl (.inl rfl) (pe_lst (pa_cons pe_str pa_nil)))
        (pss_cons (ps_for PassesOwn.never rfl (pi_enumT (by rfl) menum (pa_cons (pe_fld (pv 0) rfl) pa_nil)) (pg_tup rfl (pgs_cons (pg_name (i := 3) scPa.nd rfl (.inl rfl)) (pgs_cons (pg_name (i := 4) scPa.nd rfl (.inl rfl)) pgs_nil))) (pss_cons (ps_if (pt_cmpR op_gt (pv 3) pe_int (nomark _)) (pss_one (ps_expr (pe_bm PySem.F.plainAttrs_list PySem.F.slot_list_append PySem.F.type_list_append mt_append (pv 2) (pa_cons (pv 1) pa_nil)))) pss_nil)
        (pss_one (ps_expr (pe_bm PySem.F.plainAttrs_list PySem.F.slot_list_append PySem.F.type_list_append mt_append (pv 2) (pa_cons (pv 4) pa_nil))))))
        (pss_cons (ps_expr (pe_bm PySem.F.plainAttrs_list PySem.F.slot_list_append PySem.F.type_list_append mt_append (pv 2) (pa_cons pe_str pa_nil)))
        (pss_one (ps_ret (pv 2)))))))))), ?_⟩
    obtain ⟨a, dx, l, rfl, ha, hp⟩ := x_at hx
    cases x with
    | one =>
      refine ⟨_, rfl, a, C, dx, _, _, rfl, ha, M.cl, M.a1, rfl, rfl, _, rfl, ?_⟩
      refine iteT ?_
      refine ⟨by show 1 ≤ sizeLine; decide, fun p np => ?_⟩
      exact k p _ _ (same_up np) np upd_same (pcs_snoc (p := .s "1") pcs_nil rfl)
    | lt c =>
      have hl : SqT K H l [.str (sg c)] := hp
      refine ⟨_, rfl, a, C, dx, _, _, rfl, ha, M.cl, M.a1, rfl, rfl, _, rfl, ?_⟩
      refine iteF ?_
      refine ⟨_, rfl, a, C, dx, _, _, rfl, ha, M.cl, M.a1, rfl, rfl, _, rfl, ?_⟩
      refine iteT ?_
      refine ⟨_, rfl, a, C, dx, _, _, rfl, ha, M.cl, M.a2, rfl, l, _, 0, .str (sg c), rfl, rfl, hl, at0, by show 1 ≤ sizeLine; decide, fun p np => ?_⟩
      exact k p _ _ (same_up np) np upd_same (pcs_snoc (p := .s (sg c)) pcs_nil rfl)
    | nd kd ps =>
      obtain ⟨vs, hl, hxs⟩ := hp
      have tn := tl_nd ok
      have few : ps.length ≤ 6000 ∧ 1 ≤ ps.length := ⟨by omega, tn.2.2⟩
      have tlg : ∀ {i : Nat} {z : Xp}, ps[i]? = some z → tl z ≤ 6000 := fun h => Nat.le_trans (tl_get ok h) h7
      rw [okY, Bool.and_eq_true] at ok
      have lv := hxs.len
      have pcx : ∀ {H' : Hp}, Kp C H H' → ∀ {i : Nat} {y : V} {z : Xp}, ps[i]? = some z → XAt K C H y z → PcAt K C H' y (.e z) := fun S i y z hi hz => ⟨x_kp S _ _ hz, okYs_get ok.2 hi, tlg hi⟩
      cases kd with
      | loop =>
        refine ⟨_, rfl, a, C, dx, _, _, rfl, ha, M.cl, M.a1, rfl, rfl, _, rfl, ?_⟩
        refine iteF ?_
        refine ⟨_, rfl, a, C, dx, _, _, rfl, ha, M.cl, M.a1, rfl, rfl, _, rfl, ?_⟩
        refine iteF ?_
        obtain ⟨u, hu, ru⟩ := MK.kloop
        refine ⟨_, rfl, a, C, dx, _, _, rfl, ha, M.cl, M.a1, rfl, "loop", some u, rfl, rfl, hu, _, rfl, ?_⟩
        refine iteT ?_
        obtain ⟨x0, v0, e0, h0, d0⟩ : ∃ x0 v0, ps[0]? = some x0 ∧ vs[0]? = some v0 ∧ XAt K C H v0 x0 := by
          cases hxs with
          | nil => exact absurd few.2 (by decide)
          | cons h1 h2 => exact ⟨_, _, rfl, rfl, h1⟩
        have eh : ps.headD .one = x0 := by
          cases ps with
          | nil => cases e0
          | cons y r => cases e0; rfl
        refine ⟨_, rfl, a, C, dx, _, _, rfl, ha, M.cl, M.a2, rfl, l, _, 0, v0, rfl, rfl, hl, (show atI vs ((0 : Nat) : Int) = some v0 from atI_nat h0), ?_⟩
        refine ⟨_, rfl, a, C, dx, _, _, rfl, ha, M.cl, M.a1, rfl, aM, "loop", .str "*", rfl, rfl, ⟨es, n, u, DM.at_, DM.lit, hu, ru⟩, by show 2 ≤ sizeLine; decide, fun p np => ?_⟩
        refine k p _ _ (same_up np) np upd_same ?_
        show PcsAt K C _ ([v0] ++ [.str "*"]) ([.e (ps.headD .one)] ++ [.s "*"])
        rw [eh]
        exact pcs_snoc (pcs_snoc (vs := []) (ps := []) pcs_nil (pcx (kp_same (same_up np)) e0 d0)) rfl
      | some =>
        refine ⟨_, rfl, a, C, dx, _, _, rfl, ha, M.cl, M.a1, rfl, rfl, _, rfl, ?_⟩
        refine iteF ?_
        refine ⟨_, rfl, a, C, dx, _, _, rfl, ha, M.cl, M.a1, rfl, rfl, _, rfl, ?_⟩
        refine iteF ?_
        obtain ⟨u, hu, ru⟩ := MK.ksome
        refine ⟨_, rfl, a, C, dx, _, _, rfl, ha, M.cl, M.a1, rfl, "some", some u, rfl, rfl, hu, _, rfl, ?_⟩
        refine iteT ?_
        obtain ⟨x0, v0, e0, h0, d0⟩ : ∃ x0 v0, ps[0]? = some x0 ∧ vs[0]? = some v0 ∧ XAt K C H v0 x0 := by
          cases hxs with
          | nil => exact absurd few.2 (by decide)
          | cons h1 h2 => exact ⟨_, _, rfl, rfl, h1⟩
        have eh : ps.headD .one = x0 := by
          cases ps with
          | nil => cases e0
          | cons y r => cases e0; rfl
        refine ⟨_, rfl, a, C, dx, _, _, rfl, ha, M.cl, M.a2, rfl, l, _, 0, v0, rfl, rfl, hl, (show atI vs ((0 : Nat) : Int) = some v0 from atI_nat h0), ?_⟩
        refine ⟨_, rfl, a, C, dx, _, _, rfl, ha, M.cl, M.a1, rfl, aM, "some", .str "+", rfl, rfl, ⟨es, n, u, DM.at_, DM.lit, hu, ru⟩, by show 2 ≤ sizeLine; decide, fun p np => ?_⟩
        refine k p _ _ (same_up np) np upd_same ?_
        show PcsAt K C _ ([v0] ++ [.str "+"]) ([.e (ps.headD .one)] ++ [.s "+"])
        rw [eh]
        exact pcs_snoc (pcs_snoc (vs := []) (ps := []) pcs_nil (pcx (kp_same (same_up np)) e0 d0)) rfl
      | maybe =>
        refine ⟨_, rfl, a, C, dx, _, _, rfl, ha, M.cl, M.a1, rfl, rfl, _, rfl, ?_⟩
        refine iteF ?_
        refine ⟨_, rfl, a, C, dx, _, _, rfl, ha, M.cl, M.a1, rfl, rfl, _, rfl, ?_⟩
        refine iteF ?_
        obtain ⟨u, hu, ru⟩ := MK.kmaybe
        refine ⟨_, rfl, a, C, dx, _, _, rfl, ha, M.cl, M.a1, rfl, "maybe", some u, rfl, rfl, hu, _, rfl, ?_⟩
        refine iteT ?_
        obtain ⟨x0, v0, e0, h0, d0⟩ : ∃ x0 v0, ps[0]? = some x0 ∧ vs[0]? = some v0 ∧ XAt K C H v0 x0 := by
          cases hxs with
          | nil => exact absurd few.2 (by decide)
          | cons h1 h2 => exact ⟨_, _, rfl, rfl, h1⟩
        have eh : ps.headD .one = x0 := by
          cases ps with
          | nil => cases e0
          | cons y r => cases e0; rfl
        refine ⟨_, rfl, a, C, dx, _, _, rfl, ha, M.cl, M.a2, rfl, l, _, 0, v0, rfl, rfl, hl, (show atI vs ((0 : Nat) : Int) = some v0 from atI_nat h0), ?_⟩
        refine ⟨_, rfl, a, C, dx, _, _, rfl, ha, M.cl, M.a1, rfl, aM, "maybe", .str "?", rfl, rfl, ⟨es, n, u, DM.at_, DM.lit, hu, ru⟩, by show 2 ≤ sizeLine; decide, fun p np => ?_⟩
        refine k p _ _ (same_up np) np upd_same ?_
        show PcsAt K C _ ([v0] ++ [.str "?"]) ([.e (ps.headD .one)] ++ [.s "?"])
        rw [eh]
        exact pcs_snoc (pcs_snoc (vs := []) (ps := []) pcs_nil (pcx (kp_same (same_up np)) e0 d0)) rfl
      | row =>
        refine ⟨_, rfl, a, C, dx, _, _, rfl, ha, M.cl, M.a1, rfl, rfl, _, rfl, ?_⟩
        refine iteF ?_
        refine ⟨_, rfl, a, C, dx, _, _, rfl, ha, M.cl, M.a1, rfl, rfl, _, rfl, ?_⟩
        refine iteF ?_
        refine ⟨_, rfl, a, C, dx, _, _, rfl, ha, M.cl, M.a1, rfl, "row", none, rfl, rfl, MK.row, _, rfl, ?_⟩
        refine iteF ?_
        refine ⟨_, rfl, a, C, dx, _, _, rfl, ha, M.cl, M.a1, rfl, rfl, _, rfl, ?_⟩
        refine iteT ?_
        refine ⟨by show 1 ≤ sizeLine; decide, fun q nq => ?_⟩
        have S0 := same_up (o := .lst [.str "("]) nq
        have hq0 : upd H q (.lst [.str "("]) q = some (.lst [.str "("]) := upd_same
        have ha0 := S0 _ _ ha
        generalize upd H q (.lst [.str "("]) = H0 at S0 hq0 ha0 ⊢
        refine ⟨_, rfl, a, C, dx, _, _, rfl, ha0, M.cl, M.a2, rfl, l, _, rfl, same_seqT S0 hl, ?_⟩
        have off : ∀ (b : Addr) (o : HO), H b = some o → b ≠ q := fun b o z => ne_of_none z nq
        refine for_enumT (K := K) (a := l) (xs := vs) (fun i σ H' => ∃ (x3 x4 : Option V) (xs : List V), σ = [some (.ref a), some (.str " "), some (.ref q), x3, x4] ∧ Same H H' ∧ H' q = some (.lst xs) ∧ xs.length ≤ 1 + 2 * i ∧ PcsAt K C H' xs (.s "(" :: sep " " (ps.take i)))
          ⟨none, none, _, rfl, S0, hq0, by decide, pcs_snoc (vs := []) (ps := []) pcs_nil rfl⟩ (fun i σ H' _ ⟨_, _, _, _, S, _⟩ => same_seqT S hl) ?_ ?_
        · rintro i y σ H' TT hi nT ⟨x3, x4, xs, rfl, S, hq, lx, hpc⟩
          have il : i < vs.length := (List.getElem?_eq_some_iff.mp hi).1
          obtain ⟨z, hz, dz⟩ := hxs.get hi
          have ST := same_up (o := .tup [.int (i : Nat), y]) nT
          refine ⟨TT, _, rfl, SqT.of upd_same, rfl, _, _, rfl, _, _, rfl, rfl, ?_⟩
          have hqT := ST _ _ hq
          have hpT := pcs_kp (kp_same ST) hpc
          have ST' := S.trans ST
          generalize upd H' TT (.tup [.int (i : Nat), y]) = H1 at hqT hpT ST' ⊢
          have st := sep_take " " hz
          have last : ∀ (G : Hp) (ys : List V) (qs : List Pc), Same H G → G q = some (.lst ys) → ys.length + 1 ≤ 1 + 2 * (i + 1) → PcsAt K C G ys qs → qs ++ [.e z] = .s "(" :: sep " " (ps.take (i + 1)) →
              (∃ (x3' x4' : Option V) (xs : List V), [some (.ref a), some (.str " "), some (.ref q), some (.int (i : Nat)), some y] = [some (.ref a), some (.str " "), some (.ref q), x3', x4'] ∧ Same H (upd G q (.lst (ys ++ [y]))) ∧ upd G q (.lst (ys ++ [y])) q = some (.lst xs) ∧ xs.length ≤ 1 + 2 * (i + 1) ∧ PcsAt K C (upd G q (.lst (ys ++ [y]))) xs (.s "(" :: sep " " (ps.take (i + 1)))) := by
            intro G ys qs SG hG ll hps e
            have oq := off_lst (o' := .lst (ys ++ [y])) hG
            refine ⟨_, _, ys ++ [y], rfl, fun b o zz => by rw [upd_ne (off b o zz)]; exact SG _ _ zz, upd_same, by rw [List.length_append]; exact ll, ?_⟩
            rw [← e]
            exact pcs_snoc (pcs_kp (kp_off oq) hps) (pcx ((kp_same SG).trans (kp_off oq)) hz dz)
          refine ⟨_, rfl, _, _, rfl, rfl, _, rfl, ?_⟩
          by_cases i0 : i = 0
          · subst i0
            refine iteF ?_
            refine ⟨_, rfl, .inl ⟨rfl, _, SqL.of hqT⟩, _, rfl, q, _, _, rfl, rfl, hqT, by rw [sizeLine_eq]; omega, ?_⟩
            exact last H1 xs _ ST' hqT (by omega) hpT (by rw [st, if_pos rfl]; simp)
          · rw [decide_eq_true (show (0 : Int) < (i : Int) by omega)]
            refine iteT ?_
            refine ⟨_, rfl, .inl ⟨rfl, _, SqL.of hqT⟩, _, rfl, q, _, _, rfl, rfl, hqT, by rw [sizeLine_eq]; omega, ?_⟩
            have o1 := off_lst (o' := .lst (xs ++ [.str " "])) hqT
            have h1 : upd H1 q (.lst (xs ++ [.str " "])) q = some (.lst (xs ++ [.str " "])) := upd_same
            have p1 := pcs_snoc (p := .s " ") (pcs_kp (kp_off o1) hpT) (v := .str " ") rfl
            have s1 : Same H (upd H1 q (.lst (xs ++ [.str " "]))) := fun b o zz => by rw [upd_ne (off b o zz)]; exact ST' _ _ zz
            generalize upd H1 q (.lst (xs ++ [.str " "])) = H2 at h1 p1 s1 ⊢
            refine ⟨_, rfl, .inl ⟨rfl, _, SqL.of h1⟩, _, rfl, q, _, _, rfl, rfl, h1, by rw [List.length_append, sizeLine_eq]; show _ + 1 < _; omega, ?_⟩
            exact last H2 _ _ s1 h1 (by rw [List.length_append]; show _ + 1 + 1 ≤ _; omega) p1 (by rw [st, if_neg i0]; simp)
        · rintro σ H' ⟨x3, x4, xs, rfl, S, hq, lx, hpc⟩
          refine ⟨_, rfl, .inl ⟨rfl, _, SqL.of hq⟩, q, _, _, rfl, rfl, hq, by rw [sizeLine_eq]; omega, ?_⟩
          refine ⟨_, rfl, ?_⟩
          have oq := off_lst (o' := .lst (xs ++ [.str ")"])) hq
          refine k q _ _ (fun b o zz => by rw [upd_ne (off b o zz)]; exact S _ _ zz) nq upd_same ?_
          rw [lv, List.take_length] at hpc
          exact pcs_snoc (p := .s ")") (pcs_kp (kp_off oq) hpc) rfl
      | cho =>
        refine ⟨_, rfl, a, C, dx, _, _, rfl, ha, M.cl, M.a1, rfl, rfl, _, rfl, ?_⟩
        refine iteF ?_
        refine ⟨_, rfl, a, C, dx, _, _, rfl, ha, M.cl, M.a1, rfl, rfl, _, rfl, ?_⟩
        refine iteF ?_
        refine ⟨_, rfl, a, C, dx, _, _, rfl, ha, M.cl, M.a1, rfl, "choice", none, rfl, rfl, MK.cho, _, rfl, ?_⟩
        refine iteF ?_
        refine ⟨_, rfl, a, C, dx, _, _, rfl, ha, M.cl, M.a1, rfl, rfl, _, rfl, ?_⟩
        refine iteF ?_
        refine ⟨by show 1 ≤ sizeLine; decide, fun q nq => ?_⟩
        have S0 := same_up (o := .lst [.str "("]) nq
        have hq0 : upd H q (.lst [.str "("]) q = some (.lst [.str "("]) := upd_same
        have ha0 := S0 _ _ ha
        generalize upd H q (.lst [.str "("]) = H0 at S0 hq0 ha0 ⊢
        refine ⟨_, rfl, a, C, dx, _, _, rfl, ha0, M.cl, M.a2, rfl, l, _, rfl, same_seqT S0 hl, ?_⟩
        have off : ∀ (b : Addr) (o : HO), H b = some o → b ≠ q := fun b o z => ne_of_none z nq
        refine for_enumT (K := K) (a := l) (xs := vs) (fun i σ H' => ∃ (x3 x4 : Option V) (xs : List V), σ = [some (.ref a), some (.str " | "), some (.ref q), x3, x4] ∧ Same H H' ∧ H' q = some (.lst xs) ∧ xs.length ≤ 1 + 2 * i ∧ PcsAt K C H' xs (.s "(" :: sep " | " (ps.take i)))
          ⟨none, none, _, rfl, S0, hq0, by decide, pcs_snoc (vs := []) (ps := []) pcs_nil rfl⟩ (fun i σ H' _ ⟨_, _, _, _, S, _⟩ => same_seqT S hl) ?_ ?_
        · rintro i y σ H' TT hi nT ⟨x3, x4, xs, rfl, S, hq, lx, hpc⟩
          have il : i < vs.length := (List.getElem?_eq_some_iff.mp hi).1
          obtain ⟨z, hz, dz⟩ := hxs.get hi
          have ST := same_up (o := .tup [.int (i : Nat), y]) nT
          refine ⟨TT, _, rfl, SqT.of upd_same, rfl, _, _, rfl, _, _, rfl, rfl, ?_⟩
          have hqT := ST _ _ hq
          have hpT := pcs_kp (kp_same ST) hpc
          have ST' := S.trans ST
          generalize upd H' TT (.tup [.int (i : Nat), y]) = H1 at hqT hpT ST' ⊢
          have st := sep_take " | " hz
          have last : ∀ (G : Hp) (ys : List V) (qs : List Pc), Same H G → G q = some (.lst ys) → ys.length + 1 ≤ 1 + 2 * (i + 1) → PcsAt K C G ys qs → qs ++ [.e z] = .s "(" :: sep " | " (ps.take (i + 1)) →
              (∃ (x3' x4' : Option V) (xs : List V), [some (.ref a), some (.str " | "), some (.ref q), some (.int (i : Nat)), some y] = [some (.ref a), some (.str " | "), some (.ref q), x3', x4'] ∧ Same H (upd G q (.lst (ys ++ [y]))) ∧ upd G q (.lst (ys ++ [y])) q = some (.lst xs) ∧ xs.length ≤ 1 + 2 * (i + 1) ∧ PcsAt K C (upd G q (.lst (ys ++ [y]))) xs (.s "(" :: sep " | " (ps.take (i + 1)))) := by
            intro G ys qs SG hG ll hps e
            have oq := off_lst (o' := .lst (ys ++ [y])) hG
            refine ⟨_, _, ys ++ [y], rfl, fun b o zz => by rw [upd_ne (off b o zz)]; exact SG _ _ zz, upd_same, by rw [List.length_append]; exact ll, ?_⟩
            rw [← e]
            exact pcs_snoc (pcs_kp (kp_off oq) hps) (pcx ((kp_same SG).trans (kp_off oq)) hz dz)
          refine ⟨_, rfl, _, _, rfl, rfl, _, rfl, ?_⟩
          by_cases i0 : i = 0
          · subst i0
            refine iteF ?_
            refine ⟨_, rfl, .inl ⟨rfl, _, SqL.of hqT⟩, _, rfl, q, _, _, rfl, rfl, hqT, by rw [sizeLine_eq]; omega, ?_⟩
            exact last H1 xs _ ST' hqT (by omega) hpT (by rw [st, if_pos rfl]; simp)
          · rw [decide_eq_true (show (0 : Int) < (i : Int) by omega)]
            refine iteT ?_
            refine ⟨_, rfl, .inl ⟨rfl, _, SqL.of hqT⟩, _, rfl, q, _, _, rfl, rfl, hqT, by rw [sizeLine_eq]; omega, ?_⟩
            have o1 := off_lst (o' := .lst (xs ++ [.str " | "])) hqT
            have h1 : upd H1 q (.lst (xs ++ [.str " | "])) q = some (.lst (xs ++ [.str " | "])) := upd_same
            have p1 := pcs_snoc (p := .s " | ") (pcs_kp (kp_off o1) hpT) (v := .str " | ") rfl
            have s1 : Same H (upd H1 q (.lst (xs ++ [.str " | "]))) := fun b o zz => by rw [upd_ne (off b o zz)]; exact ST' _ _ zz
            generalize upd H1 q (.lst (xs ++ [.str " | "])) = H2 at h1 p1 s1 ⊢
            refine ⟨_, rfl, .inl ⟨rfl, _, SqL.of h1⟩, _, rfl, q, _, _, rfl, rfl, h1, by rw [List.length_append, sizeLine_eq]; show _ + 1 < _; omega, ?_⟩
            exact last H2 _ _ s1 h1 (by rw [List.length_append]; show _ + 1 + 1 ≤ _; omega) p1 (by rw [st, if_neg i0]; simp)
        · rintro σ H' ⟨x3, x4, xs, rfl, S, hq, lx, hpc⟩
          refine ⟨_, rfl, .inl ⟨rfl, _, SqL.of hq⟩, q, _, _, rfl, rfl, hq, by rw [sizeLine_eq]; omega, ?_⟩
          refine ⟨_, rfl, ?_⟩
          have oq := off_lst (o' := .lst (xs ++ [.str ")"])) hq
          refine k q _ _ (fun b o zz => by rw [upd_ne (off b o zz)]; exact S _ _ zz) nq upd_same ?_
          rw [lv, List.take_length] at hpc
          exact pcs_snoc (p := .s ")") (pcs_kp (kp_off oq) hpc) rfl
end
end Vk
set_option Elab.async false
set_option linter.all false
set_option maxRecDepth 100000
set_option maxHeartbeats 4000000
namespace Vk
open PySem PySem.Spec PyProof.Rows L2 Vt PySem.Vx Vs1 ClX
section
variable {P : Program} {w : World} {K : PySem.W.Frag} {mg : Str → Option Value} {base : Heap}
def spPieces (K : PySem.W.Frag) (C : Addr) : Sp := fun vs H Q _ => ∃ (v : V) (x : Xp), vs = [v] ∧ XAt K C H v x ∧ okY x = true ∧ tl x ≤ 6000 ∧ ∀ p (zs : List Str) H', Same H H' → H p = none → H' p = some (.lst (zs.map V.str)) → zs.flatMap cpsL = cpsL (lnX x) → zs.length ≤ 72000 → Q (.ref p) H'
theorem scPo : FnScope ["expression", "pieces", "waiting", "item"] ["expression"] (defScope sPieces) := ⟨rfl, rfl, rfl, by decide +kernel, rfl, by decide +kernel, by decide +kernel⟩
theorem ok_pieces {f fPa C : Addr} {fd fdPa : FuncData} (F : Fun K "pieces_of" "pieces_of" sPieces f fd) (T : Txt8 K mg) (IX : C8.InsC K C) (kCS : PySem.W.kitOne K (.ref C) (.type "str") = some false)
    (GPa : FnOk P w K mg base CX0 1 fPa fdPa ["expression"] (spAround K C)) (gPa : mg "pieces_around" = some (.ref fPa)) (kPa : PySem.W.keepIn K (.ref fPa) = true) (bPa : Binds K fdPa ["expression"] []) :
    FnOk P w K mg base CX0 2 f fd ["expression"] (spPieces K C) := by
  refine F.ok scPo (fun vs H Q E h => ?_) (fun cdv A outer s H vs Q E hr h => ?_)
  · obtain ⟨v, x, rfl, _⟩ := h
    rfl
  · obtain ⟨v, x, rfl, hx, ok, h7, k⟩ := h
    refine ⟨_, (pss_cons (ps_set (i := 1) scPo.nd rfl (.inl rfl) (pe_lst pa_nil))
        (pss_cons (ps_set (i := 2) scPo.nd rfl (.inl rfl) (pe_lst (pa_cons (pv 0) pa_nil)))
        (pss_cons (ps_while PassesOwn.never (pt_truth (pv 2) (fun _ => rfl)) (pss_cons (ps_set (i := 3) scPo.nd rfl (.inl rfl) (pe_bm0 PySem.F.plainAttrs_list PySem.F.slot_list_pop PySem.F.type_list_pop mt_pop (pv 2)))
        (pss_one (ps_if (pt_val (pe_callB call_isi (by rfl) T.isi (by decide +kernel) (pa_cons (pv 3) (pa_cons (pe_bltn (v := .ty "str") (by rfl) T.str (by decide +kernel) rfl) pa_nil)))) (pss_one (ps_expr (pe_bm PySem.F.plainAttrs_list PySem.F.slot_list_append PySem.F.type_list_append mt_append (pv 1) (pa_cons (pv 3) pa_nil)))) (pss_one (ps_expr (pe_bm PySem.F.plainAttrs_list PySem.F.slot_list_extend PySem.F.type_list_extend mt_extend (pv 2) (pa_cons (pe_revL (pe_call GPa hr rfl gPa kPa bPa .nil pass0 (pa_cons (pv 3) pa_nil))) pa_nil))))))))
        (pss_one (ps_ret (pv 1)))))), ?_⟩
    refine ⟨Nat.zero_le _, fun pp np => ?_⟩
    have S0 := same_up (o := .lst []) np
    have hp0 : upd H pp (.lst []) pp = some (.lst []) := upd_same
    generalize upd H pp (.lst []) = H0 at S0 hp0 ⊢
    refine ⟨_, rfl, by show 1 ≤ sizeLine; decide, fun wq nw => ?_⟩
    have S1 := same_up (o := .lst [v]) nw
    have hw0 : upd H0 wq (.lst [v]) wq = some (.lst [v]) := upd_same
    have hp1 := S1 _ _ hp0
    have nwp : wq ≠ pp := (ne_of_none hp0 nw).symm
    have nwH : H wq = none := none_back S0 nw
    have hx1 := x_kp (kp_same (C := C) (S0.trans S1)) _ _ hx
    have S01 := S0.trans S1
    generalize upd H0 wq (.lst [v]) = H1 at S01 hw0 hp1 hx1 ⊢
    have offp : ∀ (b : Addr) (o : HO), H b = some o → b ≠ pp := fun b o z => ne_of_none z np
    have offw : ∀ (b : Addr) (o : HO), H b = some o → b ≠ wq := fun b o z => ne_of_none z nwH
    have wm := w_max ok h7
    refine ⟨fun m σ H' => ∃ (x3 : Option V) (zs : List Str) (xs : List V) (qs : List Pc), σ = [some v, some (.ref pp), some (.ref wq), x3] ∧ Same H H' ∧ H' pp = some (.lst (zs.map V.str)) ∧ H' wq = some (.lst xs) ∧ PcsAt K C H' xs qs ∧ zs.flatMap cpsL ++ qs.reverse.flatMap cpsP = cpsL (lnX x) ∧ zs.length + wPs qs ≤ wX x ∧ m = wPs qs,
      ⟨_, none, [], [v], [.e x], rfl, S01, hp1, hw0, pcs_snoc (vs := []) (ps := []) pcs_nil ⟨hx1, ok, h7⟩, by simp [cpsP, txP], by show 0 + (wX x + 0) ≤ _; omega, rfl⟩, ?_⟩
    rintro m σ H2 ⟨x3, zs, xs, qs, rfl, S2, hp, hw, hpc, tx, bd, rfl⟩
    refine ⟨_, rfl, !xs.isEmpty, .inl ⟨xs, SqL.of hw, rfl⟩, ?_⟩
    by_cases he : xs = []
    · subst he
      have eq0 : qs = [] := List.eq_nil_of_length_eq_zero (by have := hpc.1; simpa using this.symm)
      subst eq0
      refine iteF ?_
      refine ⟨_, rfl, ?_⟩
      refine k pp zs _ S2 np hp (by simpa using tx) (by omega)
    · obtain ⟨ys, y, rfl⟩ : ∃ ys y, xs = ys ++ [y] := ⟨_, _, (List.dropLast_concat_getLast he).symm⟩
      rw [show (!(ys ++ [y]).isEmpty) = true from by cases ys <;> rfl]
      refine iteT ?_
      obtain ⟨q, hq, hy⟩ := hpc.2 ys.length y (by simp)
      have lq := hpc.1
      rw [List.length_append] at lq
      obtain ⟨qs0, rfl⟩ : ∃ qs0, qs = qs0 ++ [q] := by
        refine ⟨qs.dropLast, ?_⟩
        have ne : qs ≠ [] := fun e => by rw [e] at lq; simp at lq
        have el : qs.getLast ne = q := by
          rw [List.getLast_eq_getElem]
          have i1 : qs.length - 1 = ys.length := by simp at lq; omega
          have := List.getElem?_eq_getElem (l := qs) (i := ys.length) (by simp at lq; omega)
          rw [hq] at this
          simp only [i1]
          exact (Option.some.inj this).symm
        rw [← el]
        exact (List.dropLast_concat_getLast ne).symm
      have l0 : ys.length = qs0.length := by simpa using lq
      have hpc0 : PcsAt K C H2 ys qs0 := by
        refine ⟨l0, fun i u hi => ?_⟩
        have il := (List.getElem?_eq_some_iff.mp hi).1
        obtain ⟨p, h1, h2⟩ := hpc.2 i u (by rw [List.getElem?_append, if_pos il]; exact hi)
        rw [List.getElem?_append, if_pos (by omega)] at h1
        exact ⟨p, h1, h2⟩
      have eLast : (ys ++ [y])[(ys ++ [y]).length - 1]? = some y := by simp
      refine ⟨_, fun _ _ h => h, ?_⟩
      refine ⟨_, rfl, .inl ⟨rfl, _, SqL.of hw⟩, wq, _, _, rfl, rfl, hw, eLast, ?_⟩
      rw [show (ys ++ [y]).dropLast = ys from by simp]
      have ow := off_lst (o' := .lst ys) hw
      have hw3 : upd H2 wq (.lst ys) wq = some (.lst ys) := upd_same
      have hp3 : upd H2 wq (.lst ys) pp = some (.lst (zs.map V.str)) := by rw [upd_ne nwp.symm]; exact hp
      have S3 : Same H (upd H2 wq (.lst ys)) := fun b o z => by rw [upd_ne (offw b o z)]; exact S2 _ _ z
      have hpc3 := pcs_kp (kp_off (C := C) ow) hpc0
      have hy3 := pc_kp (kp_off (C := C) ow) hy
      generalize upd H2 wq (.lst ys) = H3 at hw3 hp3 S3 hpc3 hy3 ⊢
      rw [wPs_app] at bd
      rw [List.reverse_append, List.flatMap_append] at tx
      cases q with
      | s z =>
        cases (show y = .str z from hy3)
        refine ⟨_, rfl, _, _, .type "str", _, true, rfl, .ty "str", .base (.str _), kit_str (.str z), _, rfl, ?_⟩
        refine iteT ?_
        refine ⟨_, rfl, .inl ⟨rfl, _, SqL.of hp3⟩, _, rfl, pp, _, _, rfl, rfl, hp3, by rw [List.length_map, sizeLine_eq]; omega, ?_⟩
        have op := off_lst (o' := .lst (zs.map V.str ++ [.str z])) hp3
        refine ⟨wPs qs0, ?_, _, zs ++ [z], ys, qs0, rfl, fun b o zz => by rw [upd_ne (offp b o zz)]; exact S3 _ _ zz, by rw [upd_same, List.map_append] <;> rfl, by rw [upd_ne nwp]; exact hw3, pcs_kp (kp_off op) hpc3, ?_, ?_, rfl⟩
        · rw [wPs_app]
          show wPs qs0 < wPs qs0 + (1 + 0)
          omega
        · rw [List.flatMap_append, List.append_assoc, ← tx]
          simp [cpsP, txP]
        · rw [List.length_append]
          have : wPs [Pc.s z] = 1 := rfl
          show zs.length + 1 + _ ≤ _
          omega
      | e z =>
        obtain ⟨hz, okz, h7z⟩ := hy3
        refine ⟨_, rfl, _, _, .ref C, _, false, rfl, .ty "str", ty_x IX hz, kCS, _, rfl, ?_⟩
        refine iteF ?_
        refine ⟨_, rfl, .inl ⟨rfl, _, SqL.of hw3⟩, _, rfl, y, z, rfl, hz, okz, h7z, fun p us H4 S4 np4 hp4 hpc4 => ?_⟩
        refine ⟨p, us, rfl, SqL.of hp4, fun r nr => ?_⟩
        have S5 := same_up (o := .lst us.reverse) nr
        have hr5 : upd H4 r (.lst us.reverse) r = some (.lst us.reverse) := upd_same
        have hw5 := S5 _ _ (S4 _ _ hw3)
        have hp5 := S5 _ _ (S4 _ _ hp3)
        have S35 := S4.trans S5
        have hpc5 := pcs_kp (kp_same (C := C) S5) (pcs_rev hpc4)
        generalize upd H4 r (.lst us.reverse) = H5 at hr5 hw5 hp5 S35 hpc5 ⊢
        have wa := w_around z okz
        have lu := hpc4.1
        have lua := wPs_len (aroundP z)
        have lq0 := wPs_len qs0
        have wz : wPs [Pc.e z] = wX z := rfl
        refine ⟨wq, r, _, _, rfl, rfl, hw5, hr5, by rw [List.length_reverse, sizeLine_eq]; omega, ?_⟩
        have oq := off_lst (o' := .lst (ys ++ us.reverse)) hw5
        refine ⟨wPs (qs0 ++ (aroundP z).reverse), ?_, _, zs, _, qs0 ++ (aroundP z).reverse, rfl, fun b o zz => by rw [upd_ne (offw b o zz)]; exact S35 _ _ (S3 _ _ zz), by rw [upd_ne nwp.symm]; exact hp5, upd_same, pcs_kp (kp_off oq) (pcs_app (pcs_kp (kp_same S35) hpc3) hpc5), ?_, ?_, rfl⟩
        · rw [wPs_app, wPs_app, wPs_rev, wz]
          omega
        · rw [List.reverse_append, List.reverse_reverse, List.flatMap_append, around_text z okz, ← tx]
          simp [cpsP, txP]
        · rw [wPs_app, wPs_rev]
          omega
end
end Vk
set_option Elab.async false
set_option linter.all false
set_option maxRecDepth 100000
set_option maxHeartbeats 4000000
namespace Vk
open PySem PySem.Spec PyProof.Rows L2 Vt PySem.Vx Vs1 ClX
theorem sum_flat : ∀ zs : List Str, (zs.map (·.length)).sum = (zs.flatMap cpsL).length
  | [] => rfl
  | z :: r => by
    rw [List.map_cons, List.sum_cons, List.flatMap_cons, List.length_append, sum_flat r]
    rfl
section
variable {P : Program} {w : World} {K : PySem.W.Frag} {mg : Str → Option Value} {base : Heap}
/-- str of an expression -/
def spXStr (K : PySem.W.Frag) (C : Addr) : Sp := fun vs H Q _ => ∃ (v : V) (x : Xp), vs = [v] ∧ XAt K C H v x ∧ okY x = true ∧ tl x ≤ 6000 ∧ ∀ H', Same H H' → Q (.str (lnX x)) H'
theorem scXS : FnScope ["self"] ["self"] (defScope sXStr) := ⟨rfl, rfl, rfl, by decide +kernel, rfl, by decide +kernel, by decide +kernel⟩
theorem ok_xstr {f fPo C : Addr} {fd fdPo : FuncData} (F : Fun K "__str__" "Expression.__str__" sXStr f fd)
    (GPo : FnOk P w K mg base CX0 2 fPo fdPo ["expression"] (spPieces K C)) (gPo : mg "pieces_of" = some (.ref fPo)) (kPo : PySem.W.keepIn K (.ref fPo) = true) (bPo : Binds K fdPo ["expression"] []) :
    FnOk P w K mg base CX0 3 f fd ["self"] (spXStr K C) := by
  refine F.ok scXS (fun vs H Q E h => ?_) (fun cdv A outer s H vs Q E hr h => ?_)
  · obtain ⟨v, x, rfl, _⟩ := h
    rfl
  · obtain ⟨v, x, rfl, hx, ok, h7, k⟩ := h
    refine ⟨_, (pss_one (ps_ret (pe_join pe_str (pe_call GPo hr rfl gPo kPo bPo .nil pass0 (pa_cons (pv 0) pa_nil)) (by rfl) (by rfl) (by rfl)))), ?_⟩
    refine ⟨⟨_, rfl⟩, _, rfl, v, x, rfl, hx, ok, h7, fun p zs H1 S np hp ht lz => ⟨_, p, zs, rfl, rfl, .inl (SqL.of hp), ?_, ?_⟩⟩
    · rw [sum_flat, ht]
      have h7 : (lnX x).length ≤ 6000 := h7
      show (lnX x).length + _ * 0 ≤ _
      omega
    · rw [show Txt.join ("" : Str) zs = lnX x from str_cps (by rw [cps_join0]; exact ht)]
      exact k _ S
end
end Vk
set_option Elab.async false
set_option linter.all false
set_option maxRecDepth 100000
set_option maxHeartbeats 4000000
namespace Vk
open PySem PySem.Spec PyProof.Rows L2
open Sem (wp)
/-! ## enumerate(text) -/
/-- the text x, each sign in a new pair -/
def IteS (x : Str) : It :=
  ⟨fun i _ => i < x.cps.size, fun i H v H' => ∃ T c, v = .ref T ∧ H T = none ∧ H' = upd H T (.tup [.int (i : Nat), .str ⟨#[c]⟩]) ∧ x.cps[i]? = some c, fun i _ => i = x.cps.size⟩
theorem turn_enumS {P : Program} {w : World} {K : PySem.W.Frag} {elts : List Expr} {kk : Nat} {tpos : Pos} (x : Str) (t : Tok) (e it : Addr) :
    Turn P w K (.Tuple elts kk tpos) (IteS x) [e, it] e (fun i h => (∃ old, IsEnum h e it ((i : Nat) : Int) old) ∧ h.IsStrIter it (strIterType x) x t i ∧ e ≠ it) where
  mem := by simp
  obj := fun i h st b hb => by
    obtain ⟨⟨old, he⟩, ⟨o, ho, hc, hd⟩, _⟩ := st
    have e' : b = e ∨ b = it := by simpa using hb
    rcases e' with z | z
    · rw [z]; exact ⟨_, he, fun v q => nomatch q⟩
    · rw [z]; exact ⟨o, ho, fun v q => by rw [hd] at q; cases q⟩
  keep := fun i h h' st k => let ⟨⟨old, he⟩, ⟨o, ho, r⟩, hne⟩ := st; ⟨⟨old, k e (by simp) _ he⟩, ⟨o, k it (by simp) o ho, r⟩, hne⟩
  item := by
    intro X hP hw hK hc i pins s σ H E I hf st hg
    subst hP hw hK
    obtain ⟨⟨old, he⟩, hit, hne⟩ := st
    have hel : e < s.heap.objs.size := Heap.lt_size he
    have hil : it < s.heap.objs.size := by obtain ⟨_, q, _⟩ := hit; exact Heap.lt_size q
    have D := Draws.text (prog := X.prog) (w := X.w) (A := X.A.in1) (I.ok.hd hc) it x t
    refine wpAny_pyNext_enum_itemD D he hit hg hne (by simp [hne]) fun u' h' tk hu' ho hit2 hT hsz hk => ?_
    obtain ⟨c, tu, hcx, rfl⟩ := hu'
    refine ⟨_, rfl, wpAny_letOwnedTupleGo_enum (s := { s with heap := h', toks := tk + 1 }) ho fun h'' he' sb => ?_⟩
    have hT2 : h''.get? s.heap.objs.size = some { cls := .type "tuple", data := .seq #[.int i tk, .str ⟨#[c]⟩ tu] } := (sb.2 _ (Nat.ne_of_gt hel)).trans hT
    have new : ObjOk X.prog X.w (upd H s.heap.objs.size (.tup [.int (i : Nat), .str ⟨#[c]⟩])) h'' s.heap.objs.size (.tup [.int (i : Nat), .str ⟨#[c]⟩]) :=
      ⟨by show 2 ≤ sizeLine; decide, [.int i tk, .str ⟨#[c]⟩ tu], .cons ⟨_, rfl⟩ (.cons ⟨_, rfl⟩ .nil), ⟨_, hT2, rfl, _, rfl⟩⟩
    have I1 : Inv X pins σ (upd H s.heap.objs.size (.tup [.int (i : Nat), .str ⟨#[c]⟩])) { s with heap := h'', toks := tk + 1 } :=
      I.turnedNew (ch := [e, it]) (fun b ob hb q => (sb.2 b (fun z => hb (by simp [z]))).trans (hk b ob (fun z => hb (by simp [z])) (fun z => hb (by simp [z])) q)) hf (Nat.le_refl _) new
    refine ⟨.ref s.heap.objs.size, _, I1, rfl, ⟨_, c, rfl, I.hok.fresh (Nat.le_refl _), rfl, hcx⟩, ⟨⟨.str ⟨#[c]⟩ tu, ?_⟩, (let ⟨o, a, r⟩ := hit2; ⟨o, (sb.2 it (Ne.symm hne)).trans a, r⟩), hne⟩, fun b hb => ?_⟩
    · have e1 : ((i + 1 : Nat) : Int) = (i : Int) + 1 := by omega
      rw [e1]; exact he'
    · have hb' : b < s.heap.objs.size := by
        have e' : b = e ∨ b = it := by simpa using hb
        rcases e' with z | z
        · rw [z]; exact hel
        · rw [z]; exact hil
      rw [upd_ne (Nat.ne_of_lt hb')]
      exact (hf b hb).1
  done := by
    intro X hP hw hK hc i pins s σ H E I hf st hg
    subst hP hw hK
    obtain ⟨⟨old, he⟩, hit, hne⟩ := st
    obtain ⟨f0, f1, f2, f3, f4, f5⟩ := hf it (by simp)
    have hg : i = x.cps.size := hg
    subst hg
    have D := Draws.text (prog := X.prog) (w := X.w) (A := X.A.in1) (I.ok.hd hc) it x t
    exact wpAny_pyNext_enum_endD D he hit fun h' eb => ⟨rfl, I.turned (t' := s.toks) (fun b o hb q => eb b o hb q) f0 f1 f3 f4 f5⟩
  self := fun A i s Q E st h => let ⟨⟨_, he⟩, _⟩ := st; wpAny_pyIter_enum he h
def iEnumS (ta : TA) : TI := fun σ H R => ta σ H fun vs H1 => ∃ x : Str, vs = [.str x] ∧ R (IteS x) H1
theorem pi_enumS {X : Cx} {e : Expr} {ta : TA} {p pos tpos : Pos} {elts : List Expr} {kk : Nat} (hg : Gl X "enumerate") (hm : X.mg "enumerate" = none) (ha : PA X [e] ta) (hs : starEach [e] X.env = [(false, eval e X.env)] := by rfl) :
    PI X (.Tuple elts kk tpos) (.Call (.Name "enumerate" p) [e] [] pos) (iEnumS ta) := by
  refine ⟨fun pins s σ H R I h => ?_⟩
  refine Call_ (ld_blt I hg hm boot_enumerate (PyProof.Rows.callWith_type1 (thn (ha.run pos pins s σ H _ I h) fun us s1 ⟨vs, H1, I1, r1, q1⟩ => ?_) hs rfl))
  obtain ⟨x, ex, q⟩ := q1
  subst ex
  cases r1 with
  | cons r rr =>
    cases rr
    obtain ⟨t, rfl⟩ := r
    refine call_enumerate_str fun h' he hit hsz hk => wpAny_pyIter_enum he ?_
    have I2 : Inv X pins σ H1 { s1 with heap := h' } := I1.kept (t' := s1.toks) hk
    refine ⟨s1.heap.objs.size + 1, [s1.heap.objs.size + 1, s1.heap.objs.size], _, _, H1, rfl, I2, turn_enumS x t (s1.heap.objs.size + 1) s1.heap.objs.size, ⟨⟨.none, he⟩, hit, Nat.succ_ne_self _⟩, fun b hb => ?_, q⟩
    have e' : b = s1.heap.objs.size + 1 ∨ b = s1.heap.objs.size := by simpa using hb
    have hle : s1.heap.objs.size ≤ b := by
      rcases e' with z | z
      · rw [z]; exact Nat.le_add_right _ _
      · rw [z]; exact Nat.le_refl _
    exact I1.fpOk hle (I1.hok.fresh hle)
theorem for_enumS {x : Str} {g : TG} {tb : TS} {D : Ends} {σ : L2.St} {H : Hp} (Pv : Nat → L2.St → Hp → Prop) (h0 : Pv 0 σ H)
    (hs : ∀ i c σ H T, x.cps[i]? = some c → H T = none → Pv i σ H → g (.ref T) σ (upd H T (.tup [.int (i : Nat), .str ⟨#[c]⟩])) fun σ2 H2 => tb { D with nx := Pv (i + 1), ct := Pv (i + 1), bk := D.nx } σ2 H2) (hd : ∀ σ H, Pv x.cps.size σ H → D.nx σ H) :
    ∃ W : Nat → Nat → L2.St → Hp → Prop, (∃ m, W 0 m σ H) ∧ ∀ i m σ H, W i m σ H →
      ((IteS x).stop i H ∧ D.nx σ H) ∨ ((IteS x).go i H ∧ ∃ N : L2.St → Hp → Prop, (∀ σ' H', N σ' H' → ∃ m', m' < m ∧ W (i + 1) m' σ' H') ∧ ∀ y H', (IteS x).yld i H y H' → g y σ H' fun σ2 H2 => tb { D with nx := N, ct := N, bk := D.nx } σ2 H2) := by
  refine ⟨fun i m σ H => m = x.cps.size - i ∧ i ≤ x.cps.size ∧ Pv i σ H, ⟨x.cps.size, by simp, Nat.zero_le _, h0⟩, ?_⟩
  rintro i m σ H ⟨rfl, hi, p⟩
  by_cases hlt : i < x.cps.size
  · refine .inr ⟨hlt, Pv (i + 1), fun σ' H' p' => ⟨x.cps.size - (i + 1), by omega, rfl, hlt, p'⟩, fun v H' y => ?_⟩
    obtain ⟨T, c, rfl, nT, rfl, y⟩ := y
    exact hs i c σ H T y nT p
  · have e : i = x.cps.size := by omega
    subst e
    exact .inl ⟨rfl, hd σ H p⟩
/-! ## xs[i] += n of a list -/
def gIxL (K : PySem.W.Frag) : V → V → Hp → VK → Prop := fun o i H Q => ∃ p xs k v, o = .ref p ∧ i = .int k ∧ SqL K H p xs ∧ atI xs k = some v ∧ Q v H
theorem get_list {X : Cx} : PGet X (gIxL X.K) := by
  intro pins s σ H o i ov iv Q I ro ri h
  obtain ⟨p, xs, k, z, rfl, rfl, hq, he, q⟩ := h
  cases ro
  obtain ⟨t, rfl⟩ := ri
  obtain ⟨its, r, pl, hz⟩ := I.list hq
  obtain ⟨j, h1, h2, h3, h4, h5⟩ := atI_get he
  obtain ⟨w, ew, rw'⟩ := r.get h2
  have hl := r.length
  have hn := line63
  have fin : EP X pins σ Q w s := ⟨z, H, I, rw', q⟩
  by_cases h0 : 0 ≤ k
  · have hj : k.toNat = j := by
      rw [seqIndex_of h0 h5] at h1
      exact Option.some.inj h1
    exact wpAny_getItem_list pl.isList h0 (by omega) (by rw [hj]; simpa using ew) fin
  · have hj : (k + (its.toArray.size : Int)).toNat = j := by
      rw [seqIndex_neg (by omega) h4] at h1
      rw [List.size_toArray, ← hl]
      exact Option.some.inj h1
    exact wpAny_getItem_list_neg pl.isList (by omega) (by rw [List.size_toArray] <;> omega) (by omega) (by rw [hj]; simpa using ew) fin
/-! ## del xs[a:] -/
theorem bounds_from {a n : Nat} (ha : a ≤ n) : sliceBounds (some (a : Int)) none none n = ((a : Int), (n : Int), 1) := by
  simp only [sliceBounds, Option.getD_none]
  have h1 : ¬ ((a : Int) < 0) := by omega
  simp only [h1, if_false, show (1 : Int) > 0 by decide, if_true]
  congr 1
  omega
theorem kept_take (f : Nat → Bool) (a : Nat) : ∀ (xs : List Value) (b : Nat), (∀ k, b ≤ k → k < b + xs.length → f k = decide (a ≤ k)) → (xs.zipIdx b).filterMap (fun p => if f p.2 = true then none else some p.1) = xs.take (a - b)
  | [], b, _ => by simp
  | x :: r, b, h => by
    rw [List.zipIdx_cons, List.filterMap_cons]
    have e := h b (Nat.le_refl _) (by rw [List.length_cons]; omega)
    have ih := kept_take f a r (b + 1) fun k k1 k2 => h k (by omega) (by rw [List.length_cons]; omega)
    dsimp only
    rw [e, ih]
    by_cases c : a ≤ b
    · rw [decide_eq_true c, if_pos rfl, show a - b = 0 by omega, show a - (b + 1) = 0 by omega, List.take_zero, List.take_zero]
    · rw [decide_eq_false c, if_neg (by decide), show a - b = (a - (b + 1)) + 1 by omega, List.take_succ_cons]
section
variable {prog : Program} {w : World} {A : Around} {E : Value → Shared → Prop} {s : Shared}
theorem delItem_slice {l sl : Addr} {items : Array Value} {n : Nat} {vl : Value} {a : Nat} {Q : Unit → Shared → Prop}
    (e : s.heap.get? l = some { cls := .type "list", data := .seq items n }) (hs : s.heap.IsSliceOf sl vl .none .none) (pl : IsPart vl (some (a : Int))) (ha : a ≤ items.size) (hsz : items.size ≤ sizeLine)
    (h : ∀ f : Array Value → Array Value, f items = (items.toList.take a).toArray → Q () { s with heap := s.heap.update l (Obj.mapSeq f) }) :
    wpAny (model prog w) A (delItem (.ref l) (.ref sl)) Q E s := by
  have hl : s.heap.IsList l items := PySem.IsL.isList e
  obtain ⟨os, hos, hcs, hds⟩ := id hs
  have hTs : s.TypeIs (.ref sl) "slice" := ⟨os, hos, hcs⟩
  have hstep : ¬ ((rawPart none == rawInt 0) = true) := Bool.false_ne_true
  unfold delItem
  refine wpAny_holding ?_
  refine wpAny_bind (wpAny_sequenceKey hl.typeIs (by decide) ?_)
  refine wpAny_bind (wpAny_callSpecial?_slot (name := Str.ofString "__delitem__") hl.typeIs F.slot_list_delitem
    (wpAny_call_entry F.slot_list_delitem hl.typeIs F.entry_list_delitem ?_ (F.args_list_delitem_2 _ _)))
  show wpAny _ _ (Builtin.List.listSubscript? (.ref sl) >>= _) _ _ s
  refine wpAny_bind ?_
  unfold Builtin.List.listSubscript?
  refine wpAny_bind (wpAny_specialOf hTs slice_no_index ?_)
  simp only [Option.isNone_none, if_true]
  refine wpAny_pure ?_
  show wpAny _ _ (typeOf (.ref sl) >>= _) _ _ s
  refine wpAny_bind (wpAny_typeOf hTs ?_)
  first
    | rw [if_neg (by decide)]
    | refine PySem.W.KFB.if_not (by decide) ?_
  rw [listSliceParts_eq]
  refine wpAny_bind (wpAny_bind (wpAny_field hos hds (x := .none) rfl (wpAny_bind (wpAny_listPart .none ?_))))
  rw [if_neg hstep]
  refine wpAny_bind (wpAny_field hos hds (x := vl) rfl (wpAny_bind (wpAny_listPart pl ?_)))
  refine wpAny_bind (wpAny_field hos hds (x := .none) rfl (wpAny_bind (wpAny_listPart .none (wpAny_pure ?_))))
  unfold Builtin.List.listItems
  refine wpAny_bind (wpAny_bind (wpAny_seqItems e rfl (wpAny_pure ?_)))
  refine wpAny_bind (wpAny_of_eq ((sliceIndices_raw (some (a : Int)) none none items.size (by simp)).trans (congrArg (pure : Int × Int × Int → Sem (Int × Int × Int)) (bounds_from ha))) ?_)
  refine wpAny_bind (wpAny_rule ?_)
  have key : ∀ f : Nat → Bool, (∀ k, k < items.size → f k = decide (a ≤ k)) → ((items.toList.zipIdx.filterMap fun x => if f x.2 = true then none else some x.1).toArray) = (items.toList.take a).toArray := fun f hf => by
    have := kept_take f a items.toList 0 fun k _ k2 => hf k (by simpa using k2)
    rw [Nat.sub_zero] at this
    rw [← this]
  have sel : ∀ k : Nat, k < items.size → (if (1 : Int) > 0 then decide ((a : Int) ≤ (k : Int)) && decide ((k : Int) < (items.size : Int)) && ((k : Int) - (a : Int)) % 1 == 0 else decide ((items.size : Int) < (k : Int)) && decide ((k : Int) ≤ (a : Int)) && ((a : Int) - (k : Int)) % (-1) == 0) = decide (a ≤ k) := fun k hk => by
    rw [if_pos (by decide), decide_eq_true (by omega : (k : Int) < (items.size : Int)), Int.emod_one, Bool.and_true]
    show (decide ((a : Int) ≤ (k : Int)) && true) = _
    rw [Bool.and_true, Bool.eq_iff_iff, decide_eq_true_eq, decide_eq_true_eq]
    omega
  refine wpAny_bind (wpAny_updateSeq (hz := hsz) (_hz' := ?_) e rfl ?_)
  · refine wpAny_bind (wpAny_letGo ?_)
    exact wpAny_pure ⟨.none, rfl, wpAny_pure (h _ (key _ fun k hk => sel k hk))⟩
  · refine Nat.le_trans (Nat.le_of_eq (congrArg Array.size (key _ fun k hk => sel k hk))) ?_
    rw [List.size_toArray, List.length_take, Array.length_toList]
    omega
end
/-- del xs[a:] of a list -/
def tDelSl (to : TE) (tl : TO) : TS := fun D σ H => to σ H fun x H1 => tl σ H1 fun lo H2 => ∃ (l : Addr) (xs : List V) (a : Nat), x = .ref l ∧ lo = some (a : Int) ∧ H2 l = some (.lst xs) ∧ a ≤ xs.length ∧ D.nx σ (upd H2 l (.lst (xs.take a)))
theorem ps_delSl {X : Cx} {o : Expr} {lo : Option Expr} {to : TE} {tl : TO} {tpos p2 pos : Pos} (ho : PE X o to) (hl : PO X lo tl) : PS X (.Delete [.Subscript o (.Slice lo none none p2) tpos] pos) (tDelSl to tl) := by
  refine ⟨fun pins s σ H D I h => ?_⟩
  refine wpAny_Delete (wpAny_deleteEach_cons (wpAny_delete_Subscript (thn (ho.run pins s σ H _ I h) fun u s1 ⟨x, H1, I1, rx, q1⟩ => ?_)))
  refine wpAny_Slice (thn (hl.run pins s1 σ H1 _ I1 q1) fun vl s2 ⟨lo', H2, I2, pl, q2⟩ => ?_)
  rw [evalPart_none]
  refine wpAny_pure ?_
  refine wpAny_pure ?_
  obtain ⟨l, xs, a, ex, el, hH, ha, q⟩ := q2
  subst ex
  subst el
  cases (show u = Value.ref l from rx)
  have I4 : Inv X pins σ H2 { s2 with heap := s2.heap.push { cls := .type "slice", data := .fields #[vl, .none, .none] } } := I2.kept (t' := s2.toks) fun b ob q => Heap.get?_push_of_some _ q
  obtain ⟨z, its, n, r, hl', e⟩ := I4.lstM hH
  refine delItem_slice e (Heap.IsSliceOf.new ..) pl (by rw [List.size_toArray]; omega) (by rw [List.size_toArray]; omega) fun f hf => ?_
  refine wpAny_deleteEach_nil ⟨σ, _, I4.lset (its' := its.take a) (t' := s2.toks) hH e hf (r.take a) ?_, q⟩
  rw [List.length_take]
  omega
end Vk
set_option Elab.async false
set_option linter.all false
set_option maxRecDepth 100000
set_option maxHeartbeats 4000000
namespace Vk
open PySem PySem.Spec PyProof.Rows L2 Vt PySem.Vx Vs1 ClX
abbrev sRInit : Stmt := inClass (top8 14) 0
abbrev sRWhole : Stmt := inClass (top8 14) 1
abbrev sRTake : Stmt := inClass (top8 14) 2
abbrev sRBegin : Stmt := inClass (top8 14) 3
abbrev sRBuild : Stmt := inClass (top8 14) 4
abbrev sRGoOn : Stmt := inClass (top8 14) 5
structure RCls (K : PySem.W.Frag) (C : Addr) : Prop where
  cl : Cls K C
  a1 : NoAttr K C "steps"
  a2 : NoAttr K C "awaited"
  a3 : NoAttr K C "_kinds"
  a4 : NoAttr K C "_counts"
/-! ## the reader's state -/
def stV : Stp → List V
  | .one => [.str "one", .int 0]
  | .lt c => [.str "letter", .str (sg c)]
  | .nd k n => [.str k.s, .int (n : Int)]
def TK (H H' : Hp) : Prop := ∀ b xs, H b = some (.tup xs) → H' b = some (.tup xs)
def StepAt (H : Hp) (v : V) (s : Stp) : Prop := ∃ a, v = .ref a ∧ H a = some (.tup (stV s))
def StepsAt (H : Hp) (vs : List V) (ss : List Stp) : Prop := vs.length = ss.length ∧ ∀ (i : Nat) (v : V), vs[i]? = some v → ∃ s, ss[i]? = some s ∧ StepAt H v s
theorem StepsAt.tk {H H' : Hp} {vs : List V} {ss : List Stp} (h : StepsAt H vs ss) (t : TK H H') : StepsAt H' vs ss := ⟨h.1, fun i v hi => let ⟨s, h1, a, h2, h3⟩ := h.2 i v hi; ⟨s, h1, a, h2, t _ _ h3⟩⟩
theorem StepsAt.snoc {H : Hp} {vs : List V} {ss : List Stp} {v : V} {s : Stp} (h : StepsAt H vs ss) (hp : StepAt H v s) : StepsAt H (vs ++ [v]) (ss ++ [s]) := by
  refine ⟨by rw [List.length_append, List.length_append, h.1] <;> rfl, fun i x hi => ?_⟩
  rw [List.getElem?_append] at hi ⊢
  by_cases c : i < vs.length
  · rw [if_pos c] at hi
    rw [if_pos (by rw [← h.1]; exact c)]
    exact h.2 i x hi
  · rw [if_neg c] at hi
    rw [if_neg (by rw [← h.1]; exact c), ← h.1]
    have e : i - vs.length = 0 := by
      have := (List.getElem?_eq_some_iff.mp hi).1
      simp at this
      omega
    rw [e] at hi ⊢
    cases hi
    exact ⟨s, rfl, hp⟩
def kV (ks : List (Jn × Nat)) : List V := (ks.map fun x => V.str x.1.s).reverse
def cV (ks : List (Jn × Nat)) : List V := (ks.map fun x => V.int (x.2 : Int)).reverse
theorem kV_cons (x : Jn × Nat) (r : List (Jn × Nat)) : kV (x :: r) = kV r ++ [.str x.1.s] := by unfold kV; rw [List.map_cons, List.reverse_cons]
theorem cV_cons (x : Jn × Nat) (r : List (Jn × Nat)) : cV (x :: r) = cV r ++ [.int (x.2 : Int)] := by unfold cV; rw [List.map_cons, List.reverse_cons]
theorem kV_len (r : List (Jn × Nat)) : (kV r).length = r.length := by unfold kV; rw [List.length_reverse, List.length_map]
theorem cV_len (r : List (Jn × Nat)) : (cV r).length = r.length := by unfold cV; rw [List.length_reverse, List.length_map]
def rdF (p q c : Addr) (aw : Str) : List (Str × V) := [("steps", .ref p), ("awaited", .str aw), ("_kinds", .ref q), ("_counts", .ref c)]
theorem put_aw (p q c : Addr) (a b : Str) : putF "awaited" (.str b) (rdF p q c a) = rdF p q c b := rfl
structure RdAt (C r p q c : Addr) (H : Hp) (s : Rd) : Prop where
  ob : ∃ dx, H r = some (.ins C dx (rdF p q c s.aw.s))
  st : ∃ vs, H p = some (.lst vs) ∧ StepsAt H vs s.out
  kn : H q = some (.lst (kV s.ks))
  ct : H c = some (.lst (cV s.ks))
  d1 : p ≠ q
  d2 : p ≠ c
  d3 : q ≠ c
  n1 : s.ks.length ≤ 7000
  n2 : s.out.length ≤ 7000
/-- all but the reader stays -/
def K4 (r p q c : Addr) (H H' : Hp) : Prop := ∀ b o, H b = some o → b ≠ r → b ≠ p → b ≠ q → b ≠ c → H' b = some o
theorem K4.trans {r p q c : Addr} {H H' H2 : Hp} (e : K4 r p q c H H') (f : K4 r p q c H' H2) : K4 r p q c H H2 := fun b o h a1 a2 a3 a4 => f b o (e b o h a1 a2 a3 a4) a1 a2 a3 a4
theorem K4.same {r p q c : Addr} {H H' : Hp} (S : Same H H') : K4 r p q c H H' := fun b o h _ _ _ _ => S b o h
section
variable {C r p q c : Addr} {H H' : Hp} {s : Rd}
theorem RdAt.same (R : RdAt C r p q c H s) (S : Same H H') : RdAt C r p q c H' s := by
  obtain ⟨dx, h1⟩ := R.ob
  obtain ⟨vs, h2, h3⟩ := R.st
  exact ⟨⟨dx, S _ _ h1⟩, ⟨vs, S _ _ h2, h3.tk fun b xs h => S _ _ h⟩, S _ _ R.kn, S _ _ R.ct, R.d1, R.d2, R.d3, R.n1, R.n2⟩
theorem RdAt.rp (R : RdAt C r p q c H s) : r ≠ p ∧ r ≠ q ∧ r ≠ c := by
  obtain ⟨dx, h1⟩ := R.ob
  obtain ⟨vs, h2, _⟩ := R.st
  exact ⟨ne_of h1 h2 (by intro z; cases z), ne_of h1 R.kn (by intro z; cases z), ne_of h1 R.ct (by intro z; cases z)⟩
/-- what is awaited is stored -/
theorem RdAt.aw (R : RdAt C r p q c H s) {dx : Addr} (hr : H r = some (.ins C dx (rdF p q c s.aw.s))) (a : Aw) : RdAt C r p q c (upd H r (.ins C dx (rdF p q c a.s))) ⟨a, s.ks, s.out⟩ ∧ K4 r p q c H (upd H r (.ins C dx (rdF p q c a.s))) := by
  obtain ⟨e1, e2, e3⟩ := R.rp
  obtain ⟨vs, h2, h3⟩ := R.st
  refine ⟨⟨⟨dx, upd_same⟩, ⟨vs, by rw [upd_ne (Ne.symm e1)]; exact h2, h3.tk fun b xs h => by rw [upd_ne (ne_of h hr (by intro z; cases z))]; exact h⟩, by rw [upd_ne (Ne.symm e2)]; exact R.kn, by rw [upd_ne (Ne.symm e3)]; exact R.ct, R.d1, R.d2, R.d3, R.n1, R.n2⟩, fun b o h a1 _ _ _ => by rw [upd_ne a1]; exact h⟩
/-- one step more -/
theorem RdAt.step (R : RdAt C r p q c H s) {vs : List V} (hp : H p = some (.lst vs)) (hv : StepsAt H vs s.out) {v : V} {st : Stp} (hs : StepAt H v st) (n2 : s.out.length < 7000) :
    RdAt C r p q c (upd H p (.lst (vs ++ [v]))) ⟨s.aw, s.ks, s.out ++ [st]⟩ ∧ K4 r p q c H (upd H p (.lst (vs ++ [v]))) := by
  obtain ⟨e1, e2, e3⟩ := R.rp
  obtain ⟨dx, h1⟩ := R.ob
  have tk : TK H (upd H p (.lst (vs ++ [v]))) := fun b xs h => by rw [upd_ne (ne_of h hp (by intro z; cases z))]; exact h
  refine ⟨⟨⟨dx, by rw [upd_ne e1]; exact h1⟩, ⟨_, upd_same, (hv.snoc hs).tk tk⟩, by rw [upd_ne R.d1.symm]; exact R.kn, by rw [upd_ne R.d2.symm]; exact R.ct, R.d1, R.d2, R.d3, R.n1, by rw [List.length_append]; exact n2⟩, fun b o h _ a2 _ _ => by rw [upd_ne a2]; exact h⟩
theorem tk_lst {l : Addr} {xs : List V} {o : HO} (h : H l = some (.lst xs)) : TK H (upd H l o) := fun b ys hb => by rw [upd_ne (ne_of hb h (by intro z; cases z))]; exact hb
/-- other kinds, as many -/
theorem RdAt.kinds (R : RdAt C r p q c H s) (ks : List (Jn × Nat)) (e : cV ks = cV s.ks) : RdAt C r p q c (upd H q (.lst (kV ks))) ⟨s.aw, ks, s.out⟩ ∧ K4 r p q c H (upd H q (.lst (kV ks))) := by
  obtain ⟨e1, e2, e3⟩ := R.rp
  obtain ⟨dx, h1⟩ := R.ob
  obtain ⟨vs, h2, h3⟩ := R.st
  have l : ks.length = s.ks.length := by rw [← cV_len, ← cV_len, e]
  refine ⟨⟨⟨dx, by rw [upd_ne e2]; exact h1⟩, ⟨vs, by rw [upd_ne R.d1]; exact h2, h3.tk (tk_lst R.kn)⟩, upd_same, by rw [upd_ne R.d3.symm]; show H c = _; rw [e]; exact R.ct, R.d1, R.d2, R.d3, by show ks.length ≤ _; rw [l]; exact R.n1, R.n2⟩, fun b o h _ _ a3 _ => by rw [upd_ne a3]; exact h⟩
theorem RdAt.counts (R : RdAt C r p q c H s) (ks : List (Jn × Nat)) (e : kV ks = kV s.ks) : RdAt C r p q c (upd H c (.lst (cV ks))) ⟨s.aw, ks, s.out⟩ ∧ K4 r p q c H (upd H c (.lst (cV ks))) := by
  obtain ⟨e1, e2, e3⟩ := R.rp
  obtain ⟨dx, h1⟩ := R.ob
  obtain ⟨vs, h2, h3⟩ := R.st
  have l : ks.length = s.ks.length := by rw [← kV_len, ← kV_len, e]
  refine ⟨⟨⟨dx, by rw [upd_ne e3]; exact h1⟩, ⟨vs, by rw [upd_ne R.d2]; exact h2, h3.tk (tk_lst R.ct)⟩, by rw [upd_ne R.d3]; show H q = _; rw [e]; exact R.kn, upd_same, R.d1, R.d2, R.d3, by show ks.length ≤ _; rw [l]; exact R.n1, R.n2⟩, fun b o h _ _ _ a4 => by rw [upd_ne a4]; exact h⟩
/-- both lists are changed -/
theorem RdAt.both (R : RdAt C r p q c H s) (ks : List (Jn × Nat)) (n : ks.length ≤ 7000) : RdAt C r p q c (upd (upd H q (.lst (kV ks))) c (.lst (cV ks))) ⟨s.aw, ks, s.out⟩ ∧ K4 r p q c H (upd (upd H q (.lst (kV ks))) c (.lst (cV ks))) := by
  obtain ⟨e1, e2, e3⟩ := R.rp
  obtain ⟨dx, h1⟩ := R.ob
  obtain ⟨vs, h2, h3⟩ := R.st
  have t1 : TK H (upd H q (.lst (kV ks))) := tk_lst R.kn
  have hc : upd H q (.lst (kV ks)) c = some (.lst (cV s.ks)) := by rw [upd_ne R.d3.symm]; exact R.ct
  have t2 : TK H (upd (upd H q (.lst (kV ks))) c (.lst (cV ks))) := fun b xs h => tk_lst hc b xs (t1 b xs h)
  refine ⟨⟨⟨dx, by rw [upd_ne e3, upd_ne e2]; exact h1⟩, ⟨vs, by rw [upd_ne R.d2, upd_ne R.d1]; exact h2, h3.tk t2⟩, by rw [upd_ne R.d3]; exact upd_same, upd_same, R.d1, R.d2, R.d3, n, R.n2⟩, fun b o h _ _ a3 a4 => by rw [upd_ne a4, upd_ne a3]; exact h⟩
end
theorem ixN_last (n : Nat) : ixN (n + 1) (-1) = some n := by
  unfold ixN
  rw [if_neg (by decide), if_pos (by omega)]
  congr 1
  omega
theorem set_last {α : Type} (l : List α) (a b : α) : (l ++ [a]).set l.length b = l ++ [b] := by simp
section
variable {P : Program} {w : World} {K : PySem.W.Frag} {mg : Str → Option Value} {base : Heap}
def spBuild (C : Addr) : Sp := fun vs H Q _ => ∃ (r p q c : Addr) (s : Rd) (kd : Str) (u : V) (st : Stp), vs = [.ref r, .str kd, u] ∧ stV st = [.str kd, u] ∧ RdAt C r p q c H s ∧ s.out.length < 7000 ∧ ∀ H', RdAt C r p q c H' (s.build st) → K4 r p q c H H' → Q .non H'
theorem scRU : FnScope ["self", "kind", "told"] ["self", "kind", "told"] (defScope sRBuild) := ⟨rfl, rfl, rfl, by decide +kernel, rfl, by decide +kernel, by decide +kernel⟩
theorem ok_rbuild {f C : Addr} {fd : FuncData} (F : Fun K "_build" "Reader._build" sRBuild f fd) (M : RCls K C) : FnOk P w K mg base CX0 1 f fd ["self", "kind", "told"] (spBuild C) := by
  refine F.ok scRU (fun vs H Q E h => ?_) (fun cdv A outer s H vs Q E hr h => ?_)
  · obtain ⟨r, p, q, c, s, kd, u, st, rfl, _⟩ := h
    rfl
  · obtain ⟨r, p, q, c, s, kd, u, st, rfl, est, R, n2, k⟩ := h
    refine ⟨_, (pss_cons (ps_expr (pe_bm PySem.F.plainAttrs_list PySem.F.slot_list_append PySem.F.type_list_append mt_append (pe_fld (pv 0) rfl) (pa_cons (pe_tup (pa_cons (pv 1) (pa_cons (pv 2) pa_nil))) pa_nil)))
        (pss_cons (ps_fld (pv 0) pe_str rfl)
        (pss_one (ps_if (pt_truth (pe_fld (pv 0) rfl) (fun _ => rfl)) (pss_one (ps_augS (pe_fld (pv 0) rfl) (pe_un un_neg pe_int) get_list pe_int ip_add set_list)) pss_nil)))), ?_⟩
    obtain ⟨dx, h1⟩ := R.ob
    obtain ⟨vs, h2, h3⟩ := R.st
    refine ⟨_, rfl, r, C, dx, _, _, rfl, h1, M.cl, M.a1, rfl, .inl ⟨rfl, _, SqL.of h2⟩, _, rfl, _, rfl, by show 2 ≤ sizeLine; decide, fun t nt => ?_⟩
    have S := same_up (o := .tup [.str kd, u]) nt
    have R1 := R.same S
    have k1 : K4 r p q c H _ := K4.same S
    have ht : upd H t (.tup [.str kd, u]) t = some (.tup (stV st)) := by rw [est]; exact upd_same
    have h2' := S _ _ h2
    have h3' := h3.tk (fun b xs h => S _ _ h)
    generalize upd H t (.tup [.str kd, u]) = H1 at R1 k1 ht h2' h3' ⊢
    have lv := h3.1
    refine ⟨p, _, _, rfl, rfl, h2', by rw [lv, sizeLine_eq]; omega, ?_⟩
    obtain ⟨R2, k2⟩ := R1.step h2' h3' ⟨t, rfl, ht⟩ n2
    have k12 := k1.trans k2
    generalize upd H1 p (.lst (vs ++ [.ref t])) = H2 at R2 k12 ⊢
    obtain ⟨dx2, h4⟩ := R2.ob
    refine ⟨_, rfl, r, C, dx2, _, rfl, h4, M.cl, M.a2, (by show 4 < 1000; decide), ?_⟩
    obtain ⟨R3, k3⟩ := R2.aw h4 .fin
    have k13 := k12.trans k3
    rw [put_aw, show (Str.ofString "end") = Aw.fin.s from rfl]
    generalize upd H2 r (.ins C dx2 (rdF p q c Aw.fin.s)) = H3 at R3 k13 ⊢
    obtain ⟨dx3, h5⟩ := R3.ob
    have hc := R3.ct
    refine ⟨_, rfl, r, C, dx3, _, _, rfl, h5, M.cl, M.a4, rfl, _, .inl ⟨_, SqL.of hc, rfl⟩, ?_⟩
    cases hk : s.ks with
    | nil =>
      refine iteF ?_
      refine k _ ?_ k13
      show RdAt C r p q c H3 ⟨.fin, bump s.ks, s.out ++ [st]⟩
      rw [hk]
      rw [hk] at R3
      exact R3
    | cons x ks =>
      obtain ⟨j, n⟩ := x
      rw [show (!(cV ((j, n) :: ks)).isEmpty) = true from by
        rw [cV_cons]
        cases cV ks <;> rfl]
      refine iteT ?_
      have hc2 : H3 c = some (.lst (cV ks ++ [.int (n : Int)])) := by
        have := hc
        rw [show (⟨Aw.fin, s.ks, s.out ++ [st]⟩ : Rd).ks = (j, n) :: ks from hk, cV_cons] at this
        exact this
      refine ⟨_, rfl, r, C, dx3, _, _, rfl, h5, M.cl, M.a4, rfl, _, rfl, c, _, -1, _, rfl, rfl, SqL.of hc2, atI_last _ _, _, _, rfl, rfl, c, _, -1, _, rfl, rfl, hc2, (by rw [List.length_append]; exact ixN_last _), ?_⟩
      rw [set_last]
      have R3' : RdAt C r p q c H3 ⟨.fin, (j, n) :: ks, s.out ++ [st]⟩ := by rw [← hk]; exact R3
      obtain ⟨R4, k4⟩ := R3'.counts ((j, n + 1) :: ks) (by rw [kV_cons, kV_cons])
      rw [cV_cons] at R4 k4
      refine k _ ?_ (k13.trans k4)
      show RdAt C r p q c _ ⟨.fin, bump s.ks, s.out ++ [st]⟩
      rw [hk]
      exact R4
end
end Vk
set_option Elab.async false
set_option linter.all false
set_option maxRecDepth 100000
set_option maxHeartbeats 4000000
namespace Vk
open PySem PySem.Spec PyProof.Rows L2 Vt PySem.Vx Vs1 ClX
/-- a list == [] -/
def rEqE (K : PySem.W.Frag) : R2 := fun x y H Q => ∃ a b xs, x = .ref a ∧ y = .ref b ∧ SqL K H a xs ∧ SqL K H b [] ∧ Q (.bl xs.isEmpty) H
theorem op_eqE0 {X : Cx} (hu : X.A.units + 64 < cLine) : OpR X (compareOp .Eq) (rEqE X.K) := by
  intro pins s σ H x y v u Q I rx ry h
  obtain ⟨a, b, xs, rfl, rfl, ha, hb, q⟩ := h
  cases rx
  cases ry
  obtain ⟨its, r, p, _⟩ := I.list ha
  obtain ⟨its2, r2, p2, _⟩ := I.list hb
  have l2 : its2 = [] := by
    have := r2.length
    exact List.length_eq_zero_iff.mp this.symm
  subst l2
  have l1 := r.length
  cases xs with
  | nil =>
    have l3 : its = [] := List.length_eq_zero_iff.mp l1.symm
    subst l3
    exact SeqAt.eq_listAt (items := #[]) (items2 := #[]) (e := fun _ => true) p.isList p2.isList rfl (by omega) (fun j h1 _ => absurd h1 (Nat.not_lt_zero _)) ⟨.bl true, H, I, rfl, q⟩
  | cons x xs =>
    exact SeqAt.eq_list_lengthsAt p.isList p2.isList (by
      cases its with
      | nil => cases l1
      | cons i its => rfl) (by omega) ⟨.bl false, H, I, rfl, q⟩
theorem kV_empty (ks : List (Jn × Nat)) : (kV ks).isEmpty = ks.isEmpty := by
  cases ks with
  | nil => rfl
  | cons x r =>
    rw [kV_cons]
    cases kV r <;> rfl
section
variable {P : Program} {w : World} {K : PySem.W.Frag} {mg : Str → Option Value} {base : Heap}
def spBegin (C : Addr) : Sp := fun vs H Q _ => ∃ (r p q c : Addr) (s : Rd) (ch : Nat), vs = [.ref r, .str (sg ch)] ∧ RdAt C r p q c H s ∧ s.ks.length < 7000 ∧ s.out.length < 7000 ∧
  (∀ s' H', begR s ch = some s' → RdAt C r p q c H' s' → K4 r p q c H H' → Q (.bl true) H') ∧ (∀ H', begR s ch = none → K4 r p q c H H' → Q (.bl false) H')
theorem scRB : FnScope ["self", "sign"] ["self", "sign"] (defScope sRBegin) := ⟨rfl, rfl, rfl, by decide +kernel, rfl, by decide +kernel, by decide +kernel⟩
theorem ok_rbegin {f fLe fBu C : Addr} {fd fdLe fdBu : FuncData} (F : Fun K "_begin" "Reader._begin" sRBegin f fd) (M : RCls K C)
    (GLe : FnOk P w K mg base CX0 1 fLe fdLe ["thing"] (spLetD K)) (gLe : mg "is_letter" = some (.ref fLe)) (kLe : PySem.W.keepIn K (.ref fLe) = true) (bLe : Binds K fdLe ["thing"] [])
    (GBu : FnOk P w K mg base CX0 1 fBu fdBu ["self", "kind", "told"] (spBuild C)) (mBu : Meth K C "_build" fBu) (bBu : Binds K fdBu ["self", "kind", "told"] []) : FnOk P w K mg base CX0 2 f fd ["self", "sign"] (spBegin C) := by
  refine F.ok scRB (fun vs H Q E h => ?_) (fun cdv A outer s H vs Q E hr h => ?_)
  · obtain ⟨r, p, q, c, s, ch, rfl, _⟩ := h
    rfl
  · obtain ⟨r, p, q, c, s, ch, rfl, R, n1, n2, kT, kF⟩ := h
    have hr1 : Room 1 _ := hr
    refine ⟨_, (pss_cons (ps_if (pt_cmpR op_eq (pv 1) pe_str (nomark _)) (pss_cons (ps_expr (pe_bm PySem.F.plainAttrs_list PySem.F.slot_list_append PySem.F.type_list_append mt_append (pe_fld (pv 0) rfl) (pa_cons pe_str pa_nil)))
        (pss_cons (ps_expr (pe_bm PySem.F.plainAttrs_list PySem.F.slot_list_append PySem.F.type_list_append mt_append (pe_fld (pv 0) rfl) (pa_cons pe_int pa_nil)))
        (pss_cons (ps_fld (pv 0) pe_str rfl)
        (pss_one (ps_ret pe_bl))))) pss_nil)
        (pss_cons (ps_if (pt_cmpR op_eq (pv 1) pe_str (nomark _)) (pss_cons (ps_expr (pe_meth (pv 0) M.cl mBu GBu hr bBu .nil pass0 (pa_cons pe_str (pa_cons pe_int pa_nil))))
        (pss_one (ps_ret pe_bl))) pss_nil)
        (pss_cons (ps_if (pt_val (pe_call GLe hr1 rfl gLe kLe bLe .nil pass0 (pa_cons (pv 1) pa_nil))) (pss_cons (ps_expr (pe_meth (pv 0) M.cl mBu GBu hr bBu .nil pass0 (pa_cons pe_str (pa_cons (pv 1) pa_nil))))
        (pss_one (ps_ret pe_bl))) pss_nil)
        (pss_one (ps_ret pe_bl))))), ?_⟩
    obtain ⟨dx, h1⟩ := R.ob
    refine ⟨_, rfl, rfl, _, rfl, ?_⟩
    rw [show decide (V.str (sg ch) = V.str "(") = decide (ch = 40) from sg_dec ch 40]
    by_cases c1 : ch = 40
    · subst c1
      refine iteT ?_
      refine ⟨_, rfl, r, C, dx, _, _, rfl, h1, M.cl, M.a3, rfl, .inl ⟨rfl, _, SqL.of R.kn⟩, q, _, _, rfl, rfl, R.kn, by rw [kV_len, sizeLine_eq]; omega, ?_⟩
      obtain ⟨RB, kB⟩ := R.both ((.no, 0) :: s.ks) n1
      rw [kV_cons, cV_cons] at RB kB
      obtain ⟨e1, e2, e3⟩ := R.rp
      have h1' : upd H q (.lst (kV s.ks ++ [.str ""])) r = some (.ins C dx (rdF p q c s.aw.s)) := by rw [upd_ne e2]; exact h1
      have hc' : upd H q (.lst (kV s.ks ++ [.str ""])) c = some (.lst (cV s.ks)) := by rw [upd_ne R.d3.symm]; exact R.ct
      refine ⟨_, rfl, r, C, dx, _, _, rfl, h1', M.cl, M.a4, rfl, .inl ⟨rfl, _, SqL.of hc'⟩, c, _, _, rfl, rfl, hc', by rw [cV_len, sizeLine_eq]; omega, ?_⟩
      change RdAt C r p q c (upd (upd H q (.lst (kV s.ks ++ [.str ""]))) c (.lst (cV s.ks ++ [.int 0]))) _ at RB
      change K4 r p q c H (upd (upd H q (.lst (kV s.ks ++ [.str ""]))) c (.lst (cV s.ks ++ [.int 0]))) at kB
      generalize upd (upd H q (.lst (kV s.ks ++ [.str ""]))) c (.lst (cV s.ks ++ [.int 0])) = H1 at RB kB ⊢
      obtain ⟨dx2, h2⟩ := RB.ob
      refine ⟨_, rfl, r, C, dx2, _, rfl, h2, M.cl, M.a2, (by show 4 < 1000; decide), ?_⟩
      obtain ⟨R3, k3⟩ := RB.aw h2 .part
      rw [put_aw, show (Str.ofString "part") = Aw.part.s from rfl]
      exact kT _ _ rfl R3 (kB.trans k3)
    rw [decide_eq_false c1]
    refine iteF ?_
    refine ⟨_, rfl, rfl, _, rfl, ?_⟩
    rw [show decide (V.str (sg ch) = V.str "1") = decide (ch = 49) from sg_dec ch 49]
    by_cases c2 : ch = 49
    · subst c2
      refine iteT ?_
      refine ⟨_, rfl, r, dx, _, rfl, h1, rfl, r, p, q, c, s, "one", .int 0, .one, rfl, rfl, R, n2, fun H1 R1 k1 => ?_⟩
      exact kT _ _ rfl R1 k1
    rw [decide_eq_false c2]
    refine iteF ?_
    refine ⟨_, rfl, .str (sg ch), .str (sg ch), rfl, .str _, by show 1 + 1 ≤ 1000000; decide, _, rfl, ?_⟩
    rw [show isLet (.str (sg ch)) = (decide (97 ≤ ch) && decide (ch ≤ 122)) from ltR_sg ch]
    by_cases c3 : 97 ≤ ch ∧ ch ≤ 122
    · rw [decide_eq_true c3.1, decide_eq_true c3.2]
      refine iteT ?_
      refine ⟨_, rfl, r, dx, _, rfl, h1, rfl, _, rfl, r, p, q, c, s, "letter", .str (sg ch), .lt ch, rfl, rfl, R, n2, fun H1 R1 k1 => ?_⟩
      exact kT _ _ (by rw [begR, if_neg c1, if_neg c2, if_pos c3]) R1 k1
    · have e : (decide (97 ≤ ch) && decide (ch ≤ 122)) = false := by
        rw [Bool.and_eq_false_iff, decide_eq_false_iff_not, decide_eq_false_iff_not]
        omega
      rw [e]
      refine iteF ?_
      exact kF _ (by rw [begR, if_neg c1, if_neg c2, if_neg c3]) (K4.same (Same.refl _))
def spWhole (C : Addr) : Sp := fun vs H Q _ => ∃ (r p q c : Addr) (s : Rd), vs = [.ref r] ∧ RdAt C r p q c H s ∧ ∀ H', Same H H' → Q (.bl (wholeR s)) H'
theorem scRW : FnScope ["self"] ["self"] (defScope sRWhole) := ⟨rfl, rfl, rfl, by decide +kernel, rfl, by decide +kernel, by decide +kernel⟩
theorem ok_rwhole {f C : Addr} {fd : FuncData} (F : Fun K "is_whole" "Reader.is_whole" sRWhole f fd) (M : RCls K C) : FnOk P w K mg base CX0 1 f fd ["self"] (spWhole C) := by
  refine F.ok scRW (fun vs H Q E h => ?_) (fun cdv A outer s H vs Q E hr h => ?_)
  · obtain ⟨r, p, q, c, s, rfl, _⟩ := h
    rfl
  · obtain ⟨r, p, q, c, s, rfl, R, k⟩ := h
    refine ⟨_, (pss_one (ps_ret (pe_and (pe_cmpR op_eq (pe_fld (pv 0) rfl) pe_str (nomark _)) (pe_one (pe_cmpR (op_eqE0 hr.units) (pe_fld (pv 0) rfl) (pe_lst pa_nil) (nomark _)))))), ?_⟩
    obtain ⟨dx, h1⟩ := R.ob
    refine ⟨_, rfl, r, C, dx, _, _, rfl, h1, M.cl, M.a2, rfl, rfl, _, rfl, ?_⟩
    by_cases ha : s.aw = .fin
    · rw [ha]
      refine iteT ?_
      refine ⟨_, rfl, r, C, dx, _, _, rfl, h1, M.cl, M.a3, rfl, Nat.zero_le _, fun t nt => ?_⟩
      refine ⟨q, t, _, rfl, rfl, SqL.of (same_up nt _ _ R.kn), SqL.of upd_same, ?_⟩
      rw [kV_empty, show s.ks.isEmpty = wholeR s from by
        unfold wholeR
        rw [ha]
        cases s.ks <;> rfl]
      exact k _ (same_up nt)
    · rw [show decide (V.str s.aw.s = V.str "end") = false from by
        cases h : s.aw with
        | fin => exact absurd h ha
        | _ => rfl]
      refine iteF ?_
      rw [show false = wholeR s from by
        unfold wholeR
        cases h : s.aw with
        | fin => exact absurd h ha
        | _ => rfl]
      exact k _ (Same.refl _)
end
end Vk
set_option Elab.async false
set_option linter.all false
set_option maxRecDepth 100000
set_option maxHeartbeats 4000000
namespace Vk
open PySem PySem.Spec PyProof.Rows L2 Vt PySem.Vx Vs1 ClX
structure Mkd (K : PySem.W.Frag) (aN aB : Addr) : Prop where
  no : ∀ c, mkOf c = none → PySem.W.nsIn K aN (sg c) = some none
  yes : ∀ c k, mkOf c = some k → ∃ u, PySem.W.nsIn K aN (sg c) = some (some u) ∧ RelV (.str k.s) u
  beh : ∀ j : Jn, ∃ u, PySem.W.nsIn K aB j.s = some (some u) ∧ RelV (.str (behJ j).s) u
/-- a kind is awaited only within brackets -/
def WfR (s : Rd) : Prop := (s.aw = .bar ∨ s.aw = .fork) → s.ks ≠ []
section
variable {P : Program} {w : World} {K : PySem.W.Frag} {mg : Str → Option Value} {base : Heap}
def spRInit (C : Addr) : Sp := fun vs H Q _ => ∃ (r dx : Addr), vs = [.ref r] ∧ H r = some (.ins C dx []) ∧ ∀ p q c H', (∀ b o, H b = some o → b ≠ r → H' b = some o) → RdAt C r p q c H' ⟨.part, [], []⟩ → H p = none → H q = none → H c = none → Q .non H'
theorem scRI : FnScope ["self"] ["self"] (defScope sRInit) := ⟨rfl, rfl, rfl, by decide +kernel, rfl, by decide +kernel, by decide +kernel⟩
theorem ok_rinit {f C : Addr} {fd : FuncData} (F : Fun K "__init__" "Reader.__init__" sRInit f fd) (M : RCls K C) : FnOk P w K mg base CX0 1 f fd ["self"] (spRInit C) := by
  refine F.ok scRI (fun vs H Q E h => ?_) (fun cdv A outer s H vs Q E hr h => ?_)
  · obtain ⟨r, dx, rfl, _⟩ := h
    rfl
  · obtain ⟨r, dx, rfl, h1, k⟩ := h
    refine ⟨_, (pss_cons (ps_fld (pv 0) (pe_lst pa_nil) rfl)
        (pss_cons (ps_fld (pv 0) pe_str rfl)
        (pss_cons (ps_fld (pv 0) (pe_lst pa_nil) rfl)
        (pss_one (ps_fld (pv 0) (pe_lst pa_nil) rfl))))), ?_⟩
    refine ⟨Nat.zero_le _, fun p np => ?_⟩
    have nrp : r ≠ p := ne_of_none h1 np
    have S1 := same_up (o := .lst []) np
    have h2 := S1 _ _ h1
    have hp : upd H p (.lst []) p = some (.lst []) := upd_same
    generalize upd H p (.lst []) = H1 at S1 h2 hp ⊢
    refine ⟨_, rfl, r, C, dx, _, rfl, h2, M.cl, M.a1, (by show 0 < 1000; decide), ?_⟩
    have h3 : upd H1 r (.ins C dx (putF "steps" (.ref p) [])) r = some (.ins C dx [("steps", .ref p)]) := upd_same
    have hp3 : upd H1 r (.ins C dx (putF "steps" (.ref p) [])) p = some (.lst []) := by rw [upd_ne (Ne.symm nrp)]; exact hp
    have b3 : ∀ b o, H b = some o → b ≠ r → upd H1 r (.ins C dx (putF "steps" (.ref p) [])) b = some o := fun b o z n => by rw [upd_ne n]; exact S1 _ _ z
    generalize upd H1 r (.ins C dx (putF "steps" (.ref p) [])) = H3 at h3 hp3 b3 ⊢
    refine ⟨_, rfl, r, C, dx, _, rfl, h3, M.cl, M.a2, (by show 1 < 1000; decide), ?_⟩
    have h4 : upd H3 r (.ins C dx (putF "awaited" (.str "part") [("steps", .ref p)])) r = some (.ins C dx [("steps", .ref p), ("awaited", .str "part")]) := upd_same
    have hp4 : upd H3 r (.ins C dx (putF "awaited" (.str "part") [("steps", .ref p)])) p = some (.lst []) := by rw [upd_ne (Ne.symm nrp)]; exact hp3
    have b4 : ∀ b o, H b = some o → b ≠ r → upd H3 r (.ins C dx (putF "awaited" (.str "part") [("steps", .ref p)])) b = some o := fun b o z n => by rw [upd_ne n]; exact b3 _ _ z n
    generalize upd H3 r (.ins C dx (putF "awaited" (.str "part") [("steps", .ref p)])) = H4 at h4 hp4 b4 ⊢
    refine ⟨Nat.zero_le _, fun q nq => ?_⟩
    have nrq : r ≠ q := ne_of_none h4 nq
    have npq : p ≠ q := ne_of_none hp4 nq
    have S5 := same_up (o := .lst []) nq
    have h5 := S5 _ _ h4
    have hp5 := S5 _ _ hp4
    have hq5 : upd H4 q (.lst []) q = some (.lst []) := upd_same
    have b5 : ∀ b o, H b = some o → b ≠ r → upd H4 q (.lst []) b = some o := fun b o z n => S5 _ _ (b4 b o z n)
    have nq0 : H q = none := by
      cases e : H q with
      | none => rfl
      | some o =>
        rw [b4 q o e (Ne.symm nrq)] at nq
        cases nq
    generalize upd H4 q (.lst []) = H5 at h5 hp5 hq5 b5 ⊢
    refine ⟨_, rfl, r, C, dx, _, rfl, h5, M.cl, M.a3, (by show 2 < 1000; decide), ?_⟩
    have h6 : upd H5 r (.ins C dx (putF "_kinds" (.ref q) [("steps", .ref p), ("awaited", .str "part")])) r = some (.ins C dx [("steps", .ref p), ("awaited", .str "part"), ("_kinds", .ref q)]) := upd_same
    have hp6 : upd H5 r (.ins C dx (putF "_kinds" (.ref q) [("steps", .ref p), ("awaited", .str "part")])) p = some (.lst []) := by rw [upd_ne (Ne.symm nrp)]; exact hp5
    have hq6 : upd H5 r (.ins C dx (putF "_kinds" (.ref q) [("steps", .ref p), ("awaited", .str "part")])) q = some (.lst []) := by rw [upd_ne (Ne.symm nrq)]; exact hq5
    have b6 : ∀ b o, H b = some o → b ≠ r → upd H5 r (.ins C dx (putF "_kinds" (.ref q) [("steps", .ref p), ("awaited", .str "part")])) b = some o := fun b o z n => by rw [upd_ne n]; exact b5 _ _ z n
    generalize upd H5 r (.ins C dx (putF "_kinds" (.ref q) [("steps", .ref p), ("awaited", .str "part")])) = H6 at h6 hp6 hq6 b6 ⊢
    refine ⟨Nat.zero_le _, fun c nc => ?_⟩
    have nrc : r ≠ c := ne_of_none h6 nc
    have npc : p ≠ c := ne_of_none hp6 nc
    have nqc : q ≠ c := ne_of_none hq6 nc
    have S7 := same_up (o := .lst []) nc
    have h7 := S7 _ _ h6
    have hp7 := S7 _ _ hp6
    have hq7 := S7 _ _ hq6
    have hc7 : upd H6 c (.lst []) c = some (.lst []) := upd_same
    have b7 : ∀ b o, H b = some o → b ≠ r → upd H6 c (.lst []) b = some o := fun b o z n => S7 _ _ (b6 b o z n)
    have nc0 : H c = none := by
      cases e : H c with
      | none => rfl
      | some o =>
        rw [b6 c o e (Ne.symm nrc)] at nc
        cases nc
    generalize upd H6 c (.lst []) = H7 at h7 hp7 hq7 hc7 b7 ⊢
    refine ⟨_, rfl, r, C, dx, _, rfl, h7, M.cl, M.a4, (by show 3 < 1000; decide), ?_⟩
    refine k p q c _ (fun b o z n => by rw [upd_ne n]; exact b7 _ _ z n) ⟨⟨dx, upd_same⟩, ⟨[], by rw [upd_ne (Ne.symm nrp)]; exact hp7, rfl, fun i v h => by cases h⟩, by rw [upd_ne (Ne.symm nrq)]; exact hq7, by rw [upd_ne (Ne.symm nrc)]; exact hc7, npq, npc, nqc, Nat.zero_le _, Nat.zero_le _⟩ np nq0 nc0
def spGoOn (C : Addr) : Sp := fun vs H Q _ => ∃ (r p q c : Addr) (s : Rd) (ch : Nat), vs = [.ref r, .str (sg ch)] ∧ RdAt C r p q c H s ∧ s.out.length < 7000 ∧
  (∀ s' H', goOn s ch = some s' → RdAt C r p q c H' s' → K4 r p q c H H' → Q (.bl true) H') ∧ (∀ H', goOn s ch = none → K4 r p q c H H' → Q (.bl false) H')
theorem scRG : FnScope ["self", "sign", "kind"] ["self", "sign"] (defScope sRGoOn) := ⟨rfl, rfl, rfl, by decide +kernel, rfl, by decide +kernel, by decide +kernel⟩
theorem ok_rgoon {f fBu C aN aB : Addr} {esN esB : Array DictEntry} {nN nB : Nat} {fd fdBu : FuncData} (F : Fun K "_go_on" "Reader._go_on" sRGoOn f fd) (M : RCls K C)
    (gN : mg "MARKED" = some (.ref aN)) (DN : KDict K w aN esN nN) (gB : mg "BEHIND_BLANK" = some (.ref aB)) (DB : KDict K w aB esB nB) (MK : Mkd K aN aB)
    (GBu : FnOk P w K mg base CX0 1 fBu fdBu ["self", "kind", "told"] (spBuild C)) (mBu : Meth K C "_build" fBu) (bBu : Binds K fdBu ["self", "kind", "told"] []) : FnOk P w K mg base CX0 2 f fd ["self", "sign"] (spGoOn C) := by
  refine F.ok scRG (fun vs H Q E h => ?_) (fun cdv A outer s H vs Q E hr h => ?_)
  · obtain ⟨r, p, q, c, s, ch, rfl, _⟩ := h
    rfl
  · obtain ⟨r, p, q, c, s, ch, rfl, R, n2, kT, kF⟩ := h
    refine ⟨_, (pss_cons (ps_if (pt_cmpR (op_in_kd DN) (pv 1) (pe_glob (v := .ref aN) (by rfl) gN rfl) (by rfl)) (pss_cons (ps_expr (pe_bm PySem.F.plainAttrs_list PySem.F.slot_list_append PySem.F.type_list_append mt_append (pe_fld (pv 0) rfl) (pa_cons (pe_tup (pa_cons (pe_ix ix_kdict (pe_glob (v := .ref aN) (by rfl) gN rfl) (pv 1) (fun _ _ => rfl)) (pa_cons pe_int pa_nil))) pa_nil)))
        (pss_one (ps_ret pe_bl))) pss_nil)
        (pss_cons (ps_if (pt_cmpR (op_eqE0 hr.units) (pe_fld (pv 0) rfl) (pe_lst pa_nil) (nomark _)) (pss_one (ps_ret pe_bl)) pss_nil)
        (pss_cons (ps_set (i := 2) scRG.nd rfl (.inl rfl) (pe_ix ix_list (pe_fld (pv 0) rfl) (pe_un un_neg pe_int) (fun _ _ => rfl)))
        (pss_cons (ps_if (pt_cmpR op_eq (pv 1) pe_str (nomark _)) (pss_cons (ps_fld (pv 0) (pe_ix ix_kdict (pe_glob (v := .ref aB) (by rfl) gB rfl) (pv 2) (fun _ _ => rfl)) rfl)
        (pss_one (ps_ret pe_bl))) pss_nil)
        (pss_cons (ps_if (PW.pt (pw_and (pt_cmpR op_eq (pv 1) pe_str (nomark _)) (pw_and1 (pt_cmpR op_ne (pv 2) pe_str (nomark _))))) (pss_cons (ps_expr (pe_bm0 PySem.F.plainAttrs_list PySem.F.slot_list_pop PySem.F.type_list_pop mt_pop (pe_fld (pv 0) rfl)))
        (pss_cons (ps_expr (pe_meth (pv 0) M.cl mBu GBu hr bBu .nil pass0 (pa_cons (pv 2) (pa_cons (pe_bm0 PySem.F.plainAttrs_list PySem.F.slot_list_pop PySem.F.type_list_pop mt_pop (pe_fld (pv 0) rfl)) pa_nil))))
        (pss_one (ps_ret pe_bl)))) pss_nil)
        (pss_one (ps_ret pe_bl))))))), ?_⟩
    obtain ⟨dx, h1⟩ := R.ob
    cases hm : mkOf ch with
    | some k =>
      obtain ⟨u, hu, ru⟩ := MK.yes ch k hm
      refine ⟨_, rfl, sg ch, some u, rfl, rfl, hu, _, rfl, ?_⟩
      refine iteT ?_
      obtain ⟨vs, h2, h3⟩ := R.st
      have lv := h3.1
      refine ⟨_, rfl, r, C, dx, _, _, rfl, h1, M.cl, M.a1, rfl, .inl ⟨rfl, _, SqL.of h2⟩, _, rfl, aN, sg ch, .str k.s, rfl, rfl, ⟨esN, nN, u, DN.at_, DN.lit, hu, ru⟩, by show 2 ≤ sizeLine; decide, fun t nt => ?_⟩
      have S := same_up (o := .tup [.str k.s, .int 1]) nt
      have R1 := R.same S
      have k1 : K4 r p q c H _ := K4.same S
      have ht : upd H t (.tup [.str k.s, .int 1]) t = some (.tup (stV (.nd k 1))) := upd_same
      have h2' := S _ _ h2
      have h3' := h3.tk (fun b xs h => S _ _ h)
      generalize upd H t (.tup [.str k.s, .int 1]) = H1 at R1 k1 ht h2' h3' ⊢
      refine ⟨p, _, _, rfl, rfl, h2', by rw [lv, sizeLine_eq]; omega, ?_⟩
      obtain ⟨R2, k2⟩ := R1.step h2' h3' ⟨t, rfl, ht⟩ n2
      exact kT _ _ (by rw [goOn, hm]) R2 (k1.trans k2)
    | none =>
      refine ⟨_, rfl, sg ch, none, rfl, rfl, MK.no ch hm, _, rfl, ?_⟩
      refine iteF ?_
      refine ⟨_, rfl, r, C, dx, _, _, rfl, h1, M.cl, M.a3, rfl, Nat.zero_le _, fun t nt => ?_⟩
      have S := same_up (o := .lst []) nt
      have R1 := R.same S
      have k1 : K4 r p q c H _ := K4.same S
      refine ⟨q, t, _, rfl, rfl, SqL.of R1.kn, SqL.of upd_same, _, rfl, ?_⟩
      generalize upd H t (.lst []) = H1 at R1 k1 ⊢
      rw [kV_empty]
      cases hk : s.ks with
      | nil =>
        refine iteT ?_
        exact kF _ (by rw [goOn, hm]; show (match s.ks with | [] => none | (j, n) :: r => _) = none; rw [hk]) k1
      | cons x ks =>
        obtain ⟨j, n⟩ := x
        refine iteF ?_
        obtain ⟨dx1, g1⟩ := R1.ob
        have hkn : H1 q = some (.lst (kV ks ++ [.str j.s])) := by
          have := R1.kn
          rw [hk, kV_cons] at this
          exact this
        have hct : H1 c = some (.lst (cV ks ++ [.int (n : Int)])) := by
          have := R1.ct
          rw [hk, cV_cons] at this
          exact this
        refine ⟨_, rfl, r, C, dx1, _, _, rfl, g1, M.cl, M.a3, rfl, _, rfl, q, _, -1, _, rfl, rfl, SqL.of hkn, atI_last _ _, ?_⟩
        refine ⟨_, rfl, rfl, _, rfl, ?_⟩
        rw [show decide (V.str (sg ch) = V.str " ") = decide (ch = 32) from sg_dec ch 32]
        by_cases c1 : ch = 32
        · subst c1
          refine iteT ?_
          obtain ⟨u, hu, ru⟩ := MK.beh j
          refine ⟨_, rfl, aB, j.s, .str (behJ j).s, rfl, rfl, ⟨esB, nB, u, DB.at_, DB.lit, hu, ru⟩, _, rfl, r, C, dx1, _, rfl, g1, M.cl, M.a2, (by show 4 < 1000; decide), ?_⟩
          obtain ⟨R3, k3⟩ := R1.aw g1 (behJ j)
          rw [put_aw]
          refine kT _ _ ?_ R3 (k1.trans k3)
          rw [goOn, hm]
          show (match s.ks with | [] => none | (j, n) :: r => _) = _
          rw [hk]
          rfl
        rw [decide_eq_false c1]
        refine iteF ?_
        refine ⟨_, rfl, rfl, _, rfl, ?_⟩
        rw [show decide (V.str (sg ch) = V.str ")") = decide (ch = 41) from sg_dec ch 41]
        have no : ∀ (h : ¬ (ch = 41 ∧ (kdJ j).isSome = true)), goOn s ch = none := fun h => by
          rw [goOn, hm]
          show (match s.ks with | [] => none | (j, n) :: r => _) = _
          rw [hk]
          show (if ch = 32 then _ else if ch = 41 then (match kdJ j with | none => none | some k => some (Rd.build ⟨s.aw, ks, s.out⟩ (.nd k n))) else none) = none
          rw [if_neg c1]
          by_cases c2 : ch = 41
          · rw [if_pos c2]
            cases hj : kdJ j with
            | none => rfl
            | some k => exact absurd ⟨c2, by rw [hj] <;> rfl⟩ h
          · rw [if_neg c2]
        by_cases c2 : ch = 41
        rotate_left
        · rw [decide_eq_false c2]
          refine iteF ?_
          refine iteF ?_
          exact kF _ (no fun z => c2 z.1) k1
        rw [decide_eq_true c2]
        refine iteT ?_
        refine ⟨_, rfl, rfl, _, rfl, ?_⟩
        cases hj : kdJ j with
        | none =>
          rw [show decide (V.str j.s = V.str "") = true from by cases j <;> first | rfl | cases hj]
          refine iteF ?_
          exact kF _ (no fun z => by rw [hj] at z; cases z.2) k1
        | some k =>
          have ejk : j.s = k.s := by cases j <;> cases hj <;> rfl
          rw [show decide (V.str j.s = V.str "") = false from by cases j <;> first | rfl | cases hj]
          refine iteT ?_
          refine ⟨_, rfl, r, C, dx1, _, _, rfl, g1, M.cl, M.a3, rfl, .inl ⟨rfl, _, SqL.of hkn⟩, q, _, _, rfl, rfl, hkn, (show _ = some (V.str j.s) by simp), ?_⟩
          rw [show (kV ks ++ [V.str j.s]).dropLast = kV ks from by simp]
          obtain ⟨e1, e2, e3⟩ := R1.rp
          have g1' : upd H1 q (.lst (kV ks)) r = some (.ins C dx1 (rdF p q c s.aw.s)) := by rw [upd_ne e2]; exact g1
          have hc' : upd H1 q (.lst (kV ks)) c = some (.lst (cV ks ++ [.int (n : Int)])) := by rw [upd_ne R1.d3.symm]; exact hct
          obtain ⟨R2, k2⟩ := R1.both ks (by have := R1.n1; rw [hk, List.length_cons] at this; omega)
          refine ⟨_, rfl, r, dx1, _, rfl, g1', rfl, _, rfl, _, rfl, r, C, dx1, _, _, rfl, g1', M.cl, M.a4, rfl, .inl ⟨rfl, _, SqL.of hc'⟩, c, _, _, rfl, rfl, hc', (show _ = some (V.int (n : Int)) by simp), ?_⟩
          rw [show (cV ks ++ [V.int (n : Int)]).dropLast = cV ks from by simp]
          refine ⟨r, p, q, c, _, j.s, .int (n : Int), .nd k n, rfl, by rw [ejk] <;> rfl, R2, n2, fun H3 R3 k3 => ?_⟩
          refine kT _ _ ?_ R3 ((k1.trans k2).trans k3)
          rw [goOn, hm]
          show (match s.ks with | [] => none | (j, n) :: r => _) = _
          rw [hk]
          show (if ch = 32 then _ else if ch = 41 then (match kdJ j with | none => none | some k => some (Rd.build ⟨s.aw, ks, s.out⟩ (.nd k n))) else none) = _
          rw [if_neg c1, if_pos c2, hj]
def spTake (C : Addr) : Sp := fun vs H Q _ => ∃ (r p q c : Addr) (s : Rd) (ch : Nat), vs = [.ref r, .str (sg ch)] ∧ RdAt C r p q c H s ∧ WfR s ∧ s.ks.length < 7000 ∧ s.out.length < 7000 ∧
  (∀ s' H', takeR s ch = some s' → RdAt C r p q c H' s' → K4 r p q c H H' → Q (.bl true) H') ∧ (∀ H', takeR s ch = none → K4 r p q c H H' → Q (.bl false) H')
theorem scRT : FnScope ["self", "sign"] ["self", "sign"] (defScope sRTake) := ⟨rfl, rfl, rfl, by decide +kernel, rfl, by decide +kernel, by decide +kernel⟩
theorem cV_setTop (j : Jn) (ks : List (Jn × Nat)) : cV (setTop j ks) = cV ks := by
  cases ks with
  | nil => rfl
  | cons x r => rw [setTop, cV_cons, cV_cons]
theorem ok_rtake {f fGo fBe C : Addr} {fd fdGo fdBe : FuncData} (F : Fun K "take" "Reader.take" sRTake f fd) (M : RCls K C)
    (GGo : FnOk P w K mg base CX0 2 fGo fdGo ["self", "sign"] (spGoOn C)) (mGo : Meth K C "_go_on" fGo) (bGo : Binds K fdGo ["self", "sign"] [])
    (GBe : FnOk P w K mg base CX0 2 fBe fdBe ["self", "sign"] (spBegin C)) (mBe : Meth K C "_begin" fBe) (bBe : Binds K fdBe ["self", "sign"] []) : FnOk P w K mg base CX0 3 f fd ["self", "sign"] (spTake C) := by
  refine F.ok scRT (fun vs H Q E h => ?_) (fun cdv A outer s H vs Q E hr h => ?_)
  · obtain ⟨r, p, q, c, s, ch, rfl, _⟩ := h
    rfl
  · obtain ⟨r, p, q, c, s, ch, rfl, R, wf, n1, n2, kT, kF⟩ := h
    refine ⟨_, (pss_cons (ps_if (pt_cmpR op_eq (pe_fld (pv 0) rfl) pe_str (nomark _)) (pss_one (ps_ret (pe_meth (pv 0) M.cl mGo GGo hr bGo .nil pass0 (pa_cons (pv 1) pa_nil)))) pss_nil)
        (pss_cons (ps_if (pt_cmpR op_eq (pe_fld (pv 0) rfl) pe_str (nomark _)) (pss_cons (ps_fld (pv 0) pe_str rfl)
        (pss_one (ps_ret (pe_cmpR op_eq (pv 1) pe_str (nomark _))))) pss_nil)
        (pss_cons (ps_if (PW.pt (pw_or (pt_cmpR op_eq (pe_fld (pv 0) rfl) pe_str (nomark _)) (pw_or1 (PW.pt (pw_and (pt_cmpR op_eq (pe_fld (pv 0) rfl) pe_str (nomark _)) (pw_and1 (pt_cmpR op_eq (pv 1) pe_str (nomark _)))))))) (pss_cons (ps_asg pe_str (pg_sub (pe_fld (pv 0) rfl) (pe_un un_neg pe_int) set_list))
        (pss_cons (ps_fld (pv 0) pe_str rfl)
        (pss_one (ps_ret (pe_cmpR op_eq (pv 1) pe_str (nomark _)))))) pss_nil)
        (pss_cons (ps_if (pt_cmpR op_eq (pe_fld (pv 0) rfl) pe_str (nomark _)) (pss_one (ps_asg pe_str (pg_sub (pe_fld (pv 0) rfl) (pe_un un_neg pe_int) set_list))) pss_nil)
        (pss_one (ps_ret (pe_meth (pv 0) M.cl mBe GBe hr bBe .nil pass0 (pa_cons (pv 1) pa_nil)))))))), ?_⟩
    obtain ⟨dx, h1⟩ := R.ob
    obtain ⟨aw, ks, out⟩ := s
    refine ⟨_, rfl, r, C, dx, _, _, rfl, h1, M.cl, M.a2, rfl, rfl, _, rfl, ?_⟩
    cases aw with
    | fin =>
      refine iteT ?_
      refine ⟨_, rfl, r, dx, _, rfl, h1, rfl, _, rfl, r, p, q, c, _, ch, rfl, R, n2, fun s' H' e R' k' => kT s' H' e R' k', fun H' e k' => kF H' e k'⟩
    | gap =>
      refine iteF ?_
      refine ⟨_, rfl, r, C, dx, _, _, rfl, h1, M.cl, M.a2, rfl, rfl, _, rfl, ?_⟩
      refine iteT ?_
      refine ⟨_, rfl, r, C, dx, _, rfl, h1, M.cl, M.a2, (by show 4 < 1000; decide), ?_⟩
      obtain ⟨R2, k2⟩ := R.aw h1 .part
      rw [put_aw, show (Str.ofString "part") = Aw.part.s from rfl]
      refine ⟨_, rfl, rfl, ?_⟩
      rw [show decide (V.str (sg ch) = V.str " ") = decide (ch = 32) from sg_dec ch 32]
      by_cases c1 : ch = 32
      · rw [decide_eq_true c1]
        exact kT _ _ (by show (if ch = 32 then _ else none) = _; rw [if_pos c1]) R2 k2
      · rw [decide_eq_false c1]
        exact kF _ (by show (if ch = 32 then _ else none) = none; rw [if_neg c1]) k2
    | part =>
      refine iteF ?_
      refine ⟨_, rfl, r, C, dx, _, _, rfl, h1, M.cl, M.a2, rfl, rfl, _, rfl, ?_⟩
      refine iteF ?_
      refine ⟨_, rfl, r, C, dx, _, _, rfl, h1, M.cl, M.a2, rfl, rfl, _, rfl, ?_⟩
      refine iteF ?_
      refine ⟨_, rfl, r, C, dx, _, _, rfl, h1, M.cl, M.a2, rfl, rfl, _, rfl, ?_⟩
      refine iteF ?_
      refine iteF ?_
      refine ⟨_, rfl, r, C, dx, _, _, rfl, h1, M.cl, M.a2, rfl, rfl, _, rfl, ?_⟩
      refine iteF ?_
      exact ⟨_, rfl, r, dx, _, rfl, h1, rfl, _, rfl, r, p, q, c, _, ch, rfl, R, n1, n2, fun s' H' e R' k' => kT s' H' e R' k', fun H' e k' => kF H' e k'⟩
    | bar =>
      obtain ⟨x, ks, rfl⟩ : ∃ x k, ks = x :: k := by
        cases ks with
        | nil => exact absurd rfl (wf (.inl rfl))
        | cons x k => exact ⟨x, k, rfl⟩
      have hkn : H q = some (.lst (kV ks ++ [.str x.1.s])) := by
        have := R.kn
        rw [kV_cons] at this
        exact this
      refine iteF ?_
      refine ⟨_, rfl, r, C, dx, _, _, rfl, h1, M.cl, M.a2, rfl, rfl, _, rfl, ?_⟩
      refine iteF ?_
      refine ⟨_, rfl, r, C, dx, _, _, rfl, h1, M.cl, M.a2, rfl, rfl, _, rfl, ?_⟩
      refine iteT ?_
      refine iteT ?_
      refine ⟨_, rfl, r, C, dx, _, _, rfl, h1, M.cl, M.a3, rfl, _, rfl, q, _, -1, _, rfl, rfl, hkn, (by rw [List.length_append]; exact ixN_last _), ?_⟩
      rw [set_last]
      obtain ⟨R2, k2⟩ := R.kinds (setTop .cho (x :: ks)) (cV_setTop _ _)
      rw [show kV (setTop Jn.cho (x :: ks)) = kV ks ++ [V.str "choice"] from by rw [setTop, kV_cons] <;> rfl] at R2 k2
      generalize upd H q (.lst (kV ks ++ [V.str "choice"])) = H2 at R2 k2 ⊢
      obtain ⟨dx2, h2⟩ := R2.ob
      refine ⟨_, rfl, r, C, dx2, _, rfl, h2, M.cl, M.a2, (by show 4 < 1000; decide), ?_⟩
      obtain ⟨R3, k3⟩ := R2.aw h2 .gap
      rw [put_aw, show (Str.ofString "gap") = Aw.gap.s from rfl]
      refine ⟨_, rfl, rfl, ?_⟩
      rw [show decide (V.str (sg ch) = V.str "|") = decide (ch = 124) from sg_dec ch 124]
      by_cases c1 : ch = 124
      · rw [decide_eq_true c1]
        exact kT _ _ (by show (if ch = 124 then _ else none) = _; rw [if_pos c1]) R3 (k2.trans k3)
      · rw [decide_eq_false c1]
        exact kF _ (by show (if ch = 124 then _ else none) = none; rw [if_neg c1]) (k2.trans k3)
    | fork =>
      obtain ⟨x, ks, rfl⟩ : ∃ x k, ks = x :: k := by
        cases ks with
        | nil => exact absurd rfl (wf (.inr rfl))
        | cons x k => exact ⟨x, k, rfl⟩
      have hkn : H q = some (.lst (kV ks ++ [.str x.1.s])) := by
        have := R.kn
        rw [kV_cons] at this
        exact this
      refine iteF ?_
      refine ⟨_, rfl, r, C, dx, _, _, rfl, h1, M.cl, M.a2, rfl, rfl, _, rfl, ?_⟩
      refine iteF ?_
      refine ⟨_, rfl, r, C, dx, _, _, rfl, h1, M.cl, M.a2, rfl, rfl, _, rfl, ?_⟩
      refine iteF ?_
      refine ⟨_, rfl, r, C, dx, _, _, rfl, h1, M.cl, M.a2, rfl, rfl, _, rfl, ?_⟩
      refine iteT ?_
      refine ⟨_, rfl, rfl, _, rfl, ?_⟩
      rw [show decide (V.str (sg ch) = V.str "|") = decide (ch = 124) from sg_dec ch 124]
      by_cases c1 : ch = 124
      · rw [decide_eq_true c1]
        refine iteT ?_
        refine ⟨_, rfl, r, C, dx, _, _, rfl, h1, M.cl, M.a3, rfl, _, rfl, q, _, -1, _, rfl, rfl, hkn, (by rw [List.length_append]; exact ixN_last _), ?_⟩
        rw [set_last]
        obtain ⟨R2, k2⟩ := R.kinds (setTop .cho (x :: ks)) (cV_setTop _ _)
        rw [show kV (setTop Jn.cho (x :: ks)) = kV ks ++ [V.str "choice"] from by rw [setTop, kV_cons] <;> rfl] at R2 k2
        generalize upd H q (.lst (kV ks ++ [V.str "choice"])) = H2 at R2 k2 ⊢
        obtain ⟨dx2, h2⟩ := R2.ob
        refine ⟨_, rfl, r, C, dx2, _, rfl, h2, M.cl, M.a2, (by show 4 < 1000; decide), ?_⟩
        obtain ⟨R3, k3⟩ := R2.aw h2 .gap
        rw [put_aw, show (Str.ofString "gap") = Aw.gap.s from rfl]
        refine ⟨_, rfl, rfl, ?_⟩
        rw [show decide (V.str (sg ch) = V.str "|") = decide (ch = 124) from sg_dec ch 124, decide_eq_true c1]
        exact kT _ _ (by show (if ch = 124 then _ else begR _ ch) = _; rw [if_pos c1]) R3 (k2.trans k3)
      · rw [decide_eq_false c1]
        refine iteF ?_
        refine ⟨_, rfl, r, C, dx, _, _, rfl, h1, M.cl, M.a2, rfl, rfl, _, rfl, ?_⟩
        refine iteT ?_
        refine ⟨_, rfl, r, C, dx, _, _, rfl, h1, M.cl, M.a3, rfl, _, rfl, q, _, -1, _, rfl, rfl, hkn, (by rw [List.length_append]; exact ixN_last _), ?_⟩
        rw [set_last]
        obtain ⟨R2, k2⟩ := R.kinds (setTop .row (x :: ks)) (cV_setTop _ _)
        rw [show kV (setTop Jn.row (x :: ks)) = kV ks ++ [V.str "row"] from by rw [setTop, kV_cons] <;> rfl] at R2 k2
        generalize upd H q (.lst (kV ks ++ [V.str "row"])) = H2 at R2 k2 ⊢
        obtain ⟨dx2, h2⟩ := R2.ob
        refine ⟨_, rfl, r, dx2, _, rfl, h2, rfl, _, rfl, r, p, q, c, _, ch, rfl, R2, n1, n2, fun s' H' e R' k' => kT s' H' ?_ R' (k2.trans k'), fun H' e k' => kF H' ?_ (k2.trans k')⟩
        · show (if ch = 124 then _ else begR _ ch) = _
          rw [if_neg c1]
          exact e
        · show (if ch = 124 then _ else begR _ ch) = _
          rw [if_neg c1]
          exact e
end
end Vk
set_option Elab.async false
set_option linter.all false
set_option maxRecDepth 100000
set_option maxHeartbeats 4000000
namespace Vk
open PySem PySem.Spec PyProof.Rows L2 Vt PySem.Vx Vs1 ClX
abbrev sSteps : Stmt := top8 13
theorem wf_take {s s' : Rd} {c : Nat} (h : takeR s c = some s') : WfR s' ∧ s'.ks.length ≤ s.ks.length + 1 ∧ s'.out.length ≤ s.out.length + 1 := by
  have beg : ∀ (s : Rd), begR s c = some s' → WfR s' ∧ s'.ks.length ≤ s.ks.length + 1 ∧ s'.out.length ≤ s.out.length + 1 := fun s h => by
    have bl : ∀ (ks : List (Jn × Nat)), (bump ks).length = ks.length := fun ks => by cases ks <;> rfl
    unfold begR at h
    split at h
    · cases h
      exact ⟨fun z => (by rcases z with z | z <;> cases z), Nat.le_refl _, Nat.le_succ _⟩
    · split at h
      · cases h
        refine ⟨fun z => (by rcases z with z | z <;> cases z), ?_, ?_⟩
        · show (bump s.ks).length ≤ _
          rw [bl]
          omega
        · show (s.out ++ [_]).length ≤ _
          rw [List.length_append]
          exact Nat.le_refl _
      · split at h
        · cases h
          refine ⟨fun z => (by rcases z with z | z <;> cases z), ?_, ?_⟩
          · show (bump s.ks).length ≤ _
            rw [bl]
            omega
          · show (s.out ++ [_]).length ≤ _
            rw [List.length_append]
            exact Nat.le_refl _
        · cases h
  have sl : ∀ (j : Jn) (ks : List (Jn × Nat)), (setTop j ks).length = ks.length := fun j ks => by cases ks <;> rfl
  obtain ⟨aw, ks, out⟩ := s
  cases aw with
  | part => exact beg _ h
  | gap =>
    have h : (if c = 32 then some (⟨.part, ks, out⟩ : Rd) else none) = some s' := h
    split at h
    · cases h
      exact ⟨fun z => (by rcases z with z | z <;> cases z), Nat.le_succ _, Nat.le_succ _⟩
    · cases h
  | bar =>
    have h : (if c = 124 then some (⟨.gap, setTop .cho ks, out⟩ : Rd) else none) = some s' := h
    split at h
    · cases h
      refine ⟨fun z => (by rcases z with z | z <;> cases z), ?_, Nat.le_succ _⟩
      show (setTop _ ks).length ≤ _
      rw [sl]
      exact Nat.le_succ _
    · cases h
  | fork =>
    have h : (if c = 124 then some (⟨.gap, setTop .cho ks, out⟩ : Rd) else begR ⟨.fork, setTop .row ks, out⟩ c) = some s' := h
    split at h
    · cases h
      refine ⟨fun z => (by rcases z with z | z <;> cases z), ?_, Nat.le_succ _⟩
      show (setTop _ ks).length ≤ _
      rw [sl]
      exact Nat.le_succ _
    · have := beg _ h
      rw [show (⟨.fork, setTop .row ks, out⟩ : Rd).ks.length = ks.length from sl _ _] at this
      exact this
  | fin =>
    have h : goOn ⟨.fin, ks, out⟩ c = some s' := h
    unfold goOn at h
    cases hm : mkOf c with
    | some k =>
      rw [hm] at h
      cases h
      refine ⟨fun z => (by rcases z with z | z <;> cases z), Nat.le_succ _, ?_⟩
      show (out ++ [_]).length ≤ _
      rw [List.length_append]
      exact Nat.le_refl _
    | none =>
      rw [hm] at h
      cases ks with
      | nil => cases h
      | cons x r =>
        obtain ⟨j, n⟩ := x
        have h : (if c = 32 then some (⟨behJ j, (j, n) :: r, out⟩ : Rd) else if c = 41 then (match kdJ j with | none => none | some k => some (Rd.build ⟨.fin, r, out⟩ (.nd k n))) else none) = some s' := h
        split at h
        · cases h
          exact ⟨fun _ => by simp, Nat.le_succ _, Nat.le_succ _⟩
        · split at h
          · cases hj : kdJ j with
            | none =>
              rw [hj] at h
              cases h
            | some k =>
              rw [hj] at h
              cases h
              refine ⟨fun z => (by rcases z with z | z <;> cases z), ?_, ?_⟩
              · show (bump r).length ≤ _
                have : (bump r).length = r.length := by cases r <;> rfl
                rw [this, List.length_cons]
                show _ ≤ r.length + 1 + 1
                omega
              · show (out ++ [_]).length ≤ _
                rw [List.length_append]
                exact Nat.le_refl _
          · cases h
/-- what a def that raises BadText(v) lets out -/
def OutT (C : Addr) (v : V) (H : Hp) (E : XK) : Prop := ∀ d H', Same H H' → H d = none → H' d = some (.xd [("place", v)]) → E (.ref C) (some d) H'
theorem OutT.same {C : Addr} {v : V} {H H' : Hp} {E : XK} (h : OutT C v H E) (S : Same H H') : OutT C v H' E := fun d H2 S2 n x => h d H2 (S.trans S2) (none_back S n) x
section
variable {P : Program} {w : World} {K : PySem.W.Frag} {mg : Str → Option Value} {base : Heap}
def spSteps (K : PySem.W.Frag) (CE : Addr) : Sp := fun vs H Q E => ∃ (v : V) (d : PyData), vs = [v] ∧ Dr K H v d ∧ (∀ z, d = .str z → z.length ≤ 6000) ∧
  (∀ z st p xs H', d = .str z → seenT z = .inr st → Same H H' → H' p = some (.lst xs) → StepsAt H' xs st → Q (.ref p) H') ∧ (∀ z (b : Nat), d = .str z → seenT z = .inl b → OutT CE (.int (b : Int)) H E) ∧ ((∀ z, d ≠ .str z) → OutT CE (.int (-1)) H E)
theorem scSO : FnScope ["text", "reader", "place", "sign"] ["text"] (defScope sSteps) := ⟨rfl, rfl, rfl, by decide +kernel, rfl, by decide +kernel, by decide +kernel⟩
theorem ok_steps {f fRI fTa fWh CR CE fI : Addr} {fd fdRI fdTa fdWh : FuncData} (F : Fun K "steps_of" "steps_of" sSteps f fd) (T : Txt8 K mg) (M : RCls K CR) (TK : EcK K CE) (TU : EcI K CE fI "place") (gE : mg "BadText" = some (.ref CE)) (menum : mg "enumerate" = none)
    (gR : mg "Reader" = some (.ref CR)) (MKR : Mk K CR fRI) (bRI : Binds K fdRI ["self"] []) (GRI : FnOk P w K mg base CX0 1 fRI fdRI ["self"] (spRInit CR))
    (GTa : FnOk P w K mg base CX0 3 fTa fdTa ["self", "sign"] (spTake CR)) (mTa : Meth K CR "take" fTa) (bTa : Binds K fdTa ["self", "sign"] [])
    (GWh : FnOk P w K mg base CX0 1 fWh fdWh ["self"] (spWhole CR)) (mWh : Meth K CR "is_whole" fWh) (bWh : Binds K fdWh ["self"] []) :
    FnOk P w K mg base (L2.CX P w) 4 f fd ["text"] (spSteps K CE) := by
  refine F.okX scSO (fun vs H Q E h => ?_) (fun cdv A outer s H vs Q E hr h => ?_)
  · obtain ⟨v, d, rfl, _⟩ := h
    rfl
  · obtain ⟨v, d, rfl, hd, hz, q, qx, qn⟩ := h
    have hrR : Room 2 _ := hr.mono (by omega)
    have hr1 : Room 1 _ := hr.mono (by omega)
    refine ⟨_, (pss_cons (ps_if (pt_not (pt_val (pe_callB call_isi (by rfl) T.isi (by decide +kernel) (pa_cons (pv 0) (pa_cons (pe_bltn (v := .ty "str") (by rfl) T.str (by decide +kernel) rfl) pa_nil))))) (pss_one (ps_raise rfl (takes_of rfl rfl rfl rfl) (pmk_E TK TU gE hr (pa_cons (pe_un un_neg pe_int) pa_nil)))) pss_nil)
        (pss_cons (ps_set (i := 1) scSO.nd rfl (.inl rfl) (pe_make0 MKR GRI hrR rfl gR bRI .nil pass0))
        (pss_cons (ps_for (passes_of rfl) rfl (pi_enumS (by rfl) menum (pa_cons (pv 0) pa_nil)) (pg_tup rfl (pgs_cons (pg_name (i := 2) scSO.nd rfl (.inl rfl)) (pgs_cons (pg_name (i := 3) scSO.nd rfl (.inl rfl)) pgs_nil))) (pss_one (ps_if (pt_not (pt_val (pe_meth (pv 1) M.cl mTa GTa hr bTa .nil pass0 (pa_cons (pv 3) pa_nil)))) (pss_one (ps_raise rfl (takes_of rfl rfl rfl rfl) (pmk_E TK TU gE hr (pa_cons (pv 2) pa_nil)))) pss_nil)))
        (pss_cons (ps_if (pt_not (pt_val (pe_meth0 (pv 1) M.cl mWh GWh hr1 bWh .nil pass0))) (pss_one (ps_raise rfl (takes_of rfl rfl rfl rfl) (pmk_E TK TU gE hr (pa_cons (pe_callB call_len_str (by rfl) T.len PySem.boot_len (pa_cons (pv 0) pa_nil)) pa_nil)))) pss_nil)
        (pss_one (ps_ret (pe_fld (pv 1) rfl))))))), ?_⟩
    refine ⟨_, rfl, _, _, _, _, kitS d, rfl, .ty "str", tyX_dr hd, kit_str d, _, rfl, ?_⟩
    by_cases hs : ∃ z, d = .str z
    rotate_left
    · rw [show kitS d = false from by
        cases d with
        | str z => exact absurd ⟨z, rfl⟩ hs
        | _ => rfl]
      refine iteT ?_
      refine ⟨_, rfl, _, rfl, fun dd hdd => ?_⟩
      exact qn (fun z e => hs ⟨z, e⟩) dd _ (same_up hdd) hdd upd_same
    obtain ⟨z, rfl⟩ := hs
    obtain rfl := dr_str hd
    have hz := hz z rfl
    have zl : z.length = (cL z).length := by show z.cps.size = _; rw [cL, Array.length_toList]
    have zs : z.length ≤ sizeLine := by rw [sizeLine_eq]; omega
    refine iteF ?_
    refine fun r dx nr ndx nex => ?_
    have S0 : Same H (upd (upd H dx (.own r)) r (.ins CR dx [])) := fun b o e => by rw [upd_ne (ne_of_none e nr), upd_ne (ne_of_none e ndx)]; exact e
    refine ⟨r, dx, rfl, upd_same, fun p q' c H1 keep R np nq nc => ⟨rfl, ?_⟩⟩
    have S1 : Same H H1 := fun b o e => keep b o (S0 b o e) (ne_of_none e nr)
    have back : ∀ {a : Addr}, (upd (upd H dx (.own r)) r (.ins CR dx [])) a = none → H a = none := fun h => none_back S0 h
    have np := back np
    have nq := back nq
    have nc := back nc
    have k4s : ∀ {H2 H3 : Hp}, Same H H2 → K4 r p q' c H2 H3 → Same H H3 := fun S k b o e => k b o (S b o e) (ne_of_none e nr) (ne_of_none e np) (ne_of_none e nq) (ne_of_none e nc)
    refine ⟨_, rfl, z, rfl, ?_⟩
    refine for_enumS (x := z) (fun i σ H' => ∃ (x2 x3 : Option V) (s : Rd), σ = [some (.str z), some (.ref r), x2, x3] ∧ Same H H' ∧ RdAt CR r p q' c H' s ∧ WfR s ∧ s.ks.length ≤ i ∧ s.out.length ≤ i ∧ seenT z = outc s ((cL z).drop i) i)
      ⟨none, none, _, rfl, S1, R, fun e => (by rcases e with e | e <;> cases e), Nat.le_refl _, Nat.le_refl _, rfl⟩ ?_ ?_
    · rintro i ch σ H' t hi nt ⟨x2, x3, s, rfl, S, R, wf, l1, l2, eq⟩
      have il : i < z.cps.size := (Array.getElem?_eq_some_iff.mp hi).1
      have zi : z.cps.size ≤ 6000 := hz
      have dr : (cL z).drop i = ch :: (cL z).drop (i + 1) := by
        have hi2 : (cL z)[i]? = some ch := by rw [cL, Array.getElem?_toList]; exact hi
        obtain ⟨h1, h2⟩ := List.getElem?_eq_some_iff.mp hi2
        rw [List.drop_eq_getElem_cons h1, h2]
      rw [dr] at eq
      have S2 := same_up (o := .tup [.int (i : Nat), .str ⟨#[ch]⟩]) nt
      have R2 := R.same S2
      refine ⟨t, _, rfl, SqT.of upd_same, rfl, _, _, rfl, _, _, rfl, rfl, ?_⟩
      have S02 := S.trans S2
      generalize upd H' t (.tup [.int (i : Nat), .str ⟨#[ch]⟩]) = H2 at S02 R2 ⊢
      obtain ⟨dx2, g1⟩ := R2.ob
      refine ⟨_, rfl, r, dx2, _, rfl, g1, rfl, _, rfl, r, p, q', c, s, ch, rfl, R2, wf, by omega, by omega, fun s' H3 e R3 k3 => ?_, fun H3 e k3 => ?_⟩
      · refine ⟨_, rfl, ?_⟩
        refine iteF ?_
        obtain ⟨w1, w2, w3⟩ := wf_take e
        exact ⟨_, _, s', rfl, k4s S02 k3, R3, w1, by omega, by omega, by rw [eq, outc_cons e]⟩
      · refine ⟨_, rfl, ?_⟩
        refine iteT ?_
        refine ⟨_, rfl, _, rfl, fun dd hdd => ?_⟩
        have S03 := k4s S02 k3
        exact qx z i rfl (by rw [eq, outc_bad e]) dd _ (S03.trans (same_up hdd)) (none_back S03 hdd) upd_same
    · rintro σ H' ⟨x2, x3, s, rfl, S, R, wf, l1, l2, eq⟩
      have e0 : (cL z).drop z.cps.size = [] := List.drop_of_length_le (by rw [cL, Array.length_toList]; exact Nat.le_refl _)
      rw [e0] at eq
      obtain ⟨dx2, g1⟩ := R.ob
      refine ⟨_, rfl, r, dx2, _, rfl, g1, rfl, r, p, q', c, s, rfl, R, fun H3 S3 => ⟨_, rfl, ?_⟩⟩
      have S03 := S.trans S3
      cases hw : wholeR s with
      | false =>
        refine iteT ?_
        refine ⟨_, rfl, z, rfl, zs, _, rfl, fun dd hdd => ?_⟩
        exact qx z z.cps.size rfl (by rw [eq, outc_nil hw]) dd _ (S03.trans (same_up hdd)) (none_back S03 hdd) upd_same
      | true =>
        refine iteF ?_
        have R3 := R.same S3
        obtain ⟨dx3, g3⟩ := R3.ob
        obtain ⟨vs, h2, h3⟩ := R3.st
        refine ⟨_, rfl, r, CR, dx3, _, _, rfl, g3, M.cl, M.a1, rfl, ?_⟩
        exact q z s.out p vs _ rfl (by rw [eq, outc_end hw]) S03 h2 h3
end
end Vk
set_option Elab.async false
set_option linter.all false
set_option maxRecDepth 100000
set_option maxHeartbeats 4000000
namespace Vk
open PySem PySem.Spec PyProof.Rows L2 Vt PySem.Vx Vs1 ClX
abbrev sRead : Stmt := inClass (top8 30) 3
/-! ## a class held by a local name, called -/
def tMakeL (i : Nat) (C : Addr) (sp : Sp) (dvs : List V) (E : XK) (t : TA) : TE := fun σ H Q => σ[i]? = some (some (.ref C)) ∧ tMake C sp dvs E t σ H Q
theorem pe_makeL {X : Cx} {CX : CXT} {k i : Nat} {f C : Addr} {fd : FuncData} {ps : List Str} {sp : Sp} {dvs : List V} {ds : List Value} {E : XK} {x : Str} {p pos : Pos} {e : Expr} {es : List Expr} {t : TA}
    (M : Mk X.K C f) (F : FnOk X.prog X.w X.K X.mg X.base CX k f fd ps sp) (hr : Room (k + 1) X.A) (hb : Binds X.K fd ps ds) (hd : Vals dvs ds) (hx : Passes CX X E) (ha : PA X (e :: es) t)
    (hN : X.N[i]? = some x := by rfl) (hv : Vis X.env.scope x := by first | exact Or.inl rfl | exact Or.inr (Or.inl rfl) | exact Or.inr (Or.inr rfl))
    (hdb : (x == ("__debug__" : Str)) = false := by decide) (hcd : (x == ("__classdict__" : Str)) = false := by decide)
    (he : starEach (e :: es) X.env = (false, eval e X.env) :: starEach es X.env := by rfl) (hpl : (backTo pos (starEach es X.env)).any (·.1) = false := by rfl) : PE X (.Call (.Name x p) (e :: es) [] pos) (tMakeL i C sp dvs E t) := by
  refine ⟨fun pins s σ H Q I h => ?_⟩
  obtain ⟨hs, ht⟩ := h
  refine wpAny_Call_Name_kw (thn ((pe_var (pos := p) hN hv hdb hcd).run pins s σ H (fun v H1 => v = .ref C ∧ H1 = H) I ⟨.ref C, hs, rfl, rfl⟩) fun u s1 ⟨v, H1, I1, r1, q1⟩ => ?_)
  obtain ⟨rfl, rfl⟩ := q1
  cases r1
  refine PySem.W.callWith_K (h₀ := X.base) I.ok.mod.kin M.kp (thn (ha.run pos pins s1 σ _ _ I1 ht) fun us s2 ⟨vs, H2, I2, r, q⟩ => ⟨I2.kIn, ?_⟩) he hpl
  exact run_make M F hr hb hd hx I2 r q
/-! ## steps put together -/
inductive Run : List Xp → List Stp → List Xp → Prop
  | nil {S : List Xp} : Run S [] S
  | one {S : List Xp} {r : List Stp} {T : List Xp} : Run (S ++ [.one]) r T → Run S (.one :: r) T
  | lt {S : List Xp} {c : Nat} {r : List Stp} {T : List Xp} : okY (.lt c) = true → Run (S ++ [.lt c]) r T → Run S (.lt c :: r) T
  | nd {S ps : List Xp} {k : Kd} {n : Nat} {r : List Stp} {T : List Xp} : okY (.nd k ps) = true → tl (.nd k ps) ≤ 6000 → n = ps.length → Run (S ++ [.nd k ps]) r T → Run (S ++ ps) (.nd k n :: r) T
mutual
theorem run_post : ∀ (x : Xp) (S : List Xp) (r : List Stp) (T : List Xp), okY x = true → tl x ≤ 6000 → Run (S ++ [x]) r T → Run S (post x ++ r) T
  | .one, S, r, T, _, _, h => .one h
  | .lt c, S, r, T, o, _, h => .lt o h
  | .nd k ps, S, r, T, o, l, h => by
    rw [post, List.append_assoc]
    have o2 := o
    rw [okY, Bool.and_eq_true] at o2
    exact run_posts ps S _ T o2.2 (fun x hx => by
      obtain ⟨i, hi⟩ := List.mem_iff_getElem?.mp hx
      exact Nat.le_trans (tl_get o hi) l) (.nd o l rfl h)
theorem run_posts : ∀ (xs : List Xp) (S : List Xp) (r : List Stp) (T : List Xp), okYs xs = true → (∀ x ∈ xs, tl x ≤ 6000) → Run (S ++ xs) r T → Run S (posts xs ++ r) T
  | [], S, r, T, _, _, h => by
    rw [List.append_nil] at h
    exact h
  | x :: xs, S, r, T, o, l, h => by
    rw [okYs, Bool.and_eq_true] at o
    rw [posts, List.append_assoc]
    refine run_post x S _ T o.1 (l x (List.mem_cons_self ..)) (run_posts xs _ r T o.2 (fun y hy => l y (List.mem_cons_of_mem _ hy)) ?_)
    rw [List.append_assoc]
    exact h
end
mutual
theorem post_len : ∀ x : Xp, okY x = true → (post x).length ≤ tl x
  | .one, _ => Nat.le_refl 1
  | .lt c, _ => Nat.le_refl 1
  | .nd k ps, o => by
    have h1 := tl_nd o
    rw [okY, Bool.and_eq_true] at o
    have h2 := posts_len ps o.2
    rw [post, List.length_append]
    show _ + 1 ≤ _
    omega
theorem posts_len : ∀ xs : List Xp, okYs xs = true → (posts xs).length ≤ tls xs
  | [], _ => Nat.zero_le _
  | x :: r, o => by
    rw [okYs, Bool.and_eq_true] at o
    have a := post_len x o.1
    have b := posts_len r o.2
    rw [posts, List.length_append, tls_cons]
    omega
end
theorem post_ne (x : Xp) : post x ≠ [] := by
  cases x with
  | one => simp [post]
  | lt c => simp [post]
  | nd k ps => simp [post]
section
variable {K : PySem.W.Frag} {C : Addr} {H : Hp}
theorem xs_app : ∀ {vs : List V} {xs : List Xp} {us : List V} {ys : List Xp}, XAts K C H vs xs → XAts K C H us ys → XAts K C H (vs ++ us) (xs ++ ys)
  | _, _, _, _, .nil, h => h
  | _, _, _, _, .cons h1 h2, h => .cons h1 (xs_app h2 h)
theorem xs_split : ∀ {xs ys : List Xp} {vs : List V}, XAts K C H vs (xs ++ ys) → ∃ us ws, vs = us ++ ws ∧ XAts K C H us xs ∧ XAts K C H ws ys
  | [], ys, vs, h => ⟨[], vs, rfl, .nil, h⟩
  | x :: xs, ys, vs, h => by
    cases h with
    | cons h1 h2 =>
      obtain ⟨us, ws, rfl, a, b⟩ := xs_split (xs := xs) h2
      exact ⟨_ :: us, ws, rfl, .cons h1 a, b⟩
end
theorem make_y {K : PySem.W.Frag} {H : Hp} {C x dx l : Addr} {y : Xp} {W : VK} (nx : H x = none) (nd : H dx = none) (ne : dx ≠ x) (hp : Pts K C H l y) (ok : okY y = true) (h7 : tl y ≤ 6000) (k : ∀ H', Same H H' → XAt K C H' (.ref x) y → W .non H') :
    spXI K C [.ref x, .str (kN y), .ref l] (upd (upd H dx (.own x)) x (.ins C dx [])) W E0 := by
  have S3 : Same H (upd (upd H dx (.own x)) x (.ins C dx [])) := fun b o z => by
    rw [upd_ne (ne_of_none z nx), upd_ne (ne_of_none z nd)]
    exact z
  refine ⟨x, dx, l, y, rfl, upd_same, hp.kp (kp_same S3), ok, h7, fun H' keep hx => ?_⟩
  have S4 : Same H H' := fun b o z => keep b o (S3 _ _ z) (ne_of_none z nx)
  exact k _ S4 (at_x hx (hp.kp (kp_same S4)))
section
variable {P : Program} {w : World} {K : PySem.W.Frag} {mg : Str → Option Value} {base : Heap}
/-- what stands at a text is read, or what is wrong is told -/
def spRead11 (K : PySem.W.Frag) (C CE : Addr) : Sp := fun vs H Q E => ∃ (v : V) (d : PyData), vs = [.ref C, v] ∧ Dr K H v d ∧ (∀ z, d = .str z → z.length ≤ 6000 ∧ KnownT z) ∧
  (∀ x v' H', d = .str (lnX x) → okY x = true → seenT (lnX x) = .inr (post x) → Same H H' → XAt K C H' v' x → Q v' H') ∧ (∀ z (b : Nat), d = .str z → seenT z = .inl b → OutT CE (.int (b : Int)) H E) ∧ ((∀ z, d ≠ .str z) → OutT CE (.int (-1)) H E)
theorem scRd : FnScope ["cls", "text", "built", "kind", "told", "parts"] ["cls", "text"] (defScope sRead) := ⟨rfl, rfl, rfl, by decide +kernel, rfl, by decide +kernel, by decide +kernel⟩
theorem ok_read {f fSO fXI C CE : Addr} {fd fdSO fdXI : FuncData} (F : Fun K "read" "Expression.read" sRead f fd) (T : Txt8 K mg) (MKX : Mk K C fXI) (bXI : Binds K fdXI ["self", "kind", "parts"] [])
    (GXI : FnOk P w K mg base CX0 3 fXI fdXI ["self", "kind", "parts"] (spXI K C))
    (GSO : FnOk P w K mg base (L2.CX P w) 4 fSO fdSO ["text"] (spSteps K CE)) (gSO : mg "steps_of" = some (.ref fSO)) (kSO : PySem.W.keepIn K (.ref fSO) = true) (bSO : Binds K fdSO ["text"] []) :
    FnOk P w K mg base (L2.CX P w) 5 f fd ["cls", "text"] (spRead11 K C CE) := by
  refine F.okX scRd (fun vs H Q E h => ?_) (fun cdv A outer s H vs Q E hr h => ?_)
  · obtain ⟨v, d, rfl, _⟩ := h
    rfl
  · obtain ⟨v, d, rfl, hd, hz, q, qx, qn⟩ := h
    have hrX : Room 4 _ := hr
    have hr4 : Room 4 _ := hr
    refine ⟨_, (pss_cons (ps_set (i := 2) scRd.nd rfl (.inl rfl) (pe_lst pa_nil))
        (pss_cons (ps_for (passes_of rfl) rfl (pi_list (pe_call GSO hr4 rfl gSO kSO bSO .nil (passes_call (takes_of rfl rfl rfl rfl) fun _ _ _ _ h => h) (pa_cons (pv 1) pa_nil))) (pg_tup rfl (pgs_cons (pg_name (i := 3) scRd.nd rfl (.inl rfl)) (pgs_cons (pg_name (i := 4) scRd.nd rfl (.inl rfl)) pgs_nil))) (pss_one (ps_if (pt_cmpR op_eq (pv 3) pe_str (nomark _)) (pss_one (ps_expr (pe_bm PySem.F.plainAttrs_list PySem.F.slot_list_append PySem.F.type_list_append mt_append (pv 2) (pa_cons (pe_makeL (i := 0) MKX GXI hrX bXI .nil pass0 (pa_cons (pv 3) (pa_cons (pe_tup (pa_cons (pv 4) pa_nil)) pa_nil))) pa_nil)))) (pss_cons (ps_set (i := 5) scRd.nd rfl (.inl rfl) (pe_callTy call_tuple_of (by rfl) T.tup (by decide +kernel) (pa_cons (pe_slice sl_list (pv 2) (po_some (pe_op op_sub (pe_callB call_len_seq (by rfl) T.len PySem.boot_len (pa_cons (pv 2) pa_nil)) (pv 4))) po_none) pa_nil)))
        (pss_cons (ps_delSl (pv 2) (po_some (pe_op op_sub (pe_callB call_len_seq (by rfl) T.len PySem.boot_len (pa_cons (pv 2) pa_nil)) (pv 4))))
        (pss_one (ps_expr (pe_bm PySem.F.plainAttrs_list PySem.F.slot_list_append PySem.F.type_list_append mt_append (pv 2) (pa_cons (pe_makeL (i := 0) MKX GXI hrX bXI .nil pass0 (pa_cons (pv 3) (pa_cons (pv 5) pa_nil))) pa_nil)))))))))
        (pss_one (ps_ret (pe_ix ix_list (pv 2) pe_int (fun _ _ => rfl)))))), ?_⟩
    refine ⟨Nat.zero_le _, fun L nL => ?_⟩
    have S0 := same_up (o := .lst []) nL
    have hL : upd H L (.lst []) L = some (.lst []) := upd_same
    generalize upd H L (.lst []) = H0 at S0 hL ⊢
    refine ⟨_, rfl, v, d, rfl, hd.keep S0, fun z e => (hz z e).1, fun z st p xs H1 e hst S1 hp hss => ?_, fun z b e hb => (qx z b e hb).same S0, fun h => (qn h).same S0⟩
    subst e
    obtain ⟨hz1, hk⟩ := hz z rfl
    obtain ⟨x, ok, rfl, hx⟩ : ∃ x, okY x = true ∧ z = lnX x ∧ seenT z = .inr (post x) := by
      rcases hk with ⟨b, hb⟩ | hk
      · rw [hb] at hst
        cases hst
      · exact hk
    rw [hx] at hst
    cases hst
    have h7 : tl x ≤ 6000 := hz1
    have pl := post_len x ok
    have lx := hss.1
    have S01 := S0.trans S1
    have npL : p ≠ L := fun e => by
      rw [e, S1 _ _ hL] at hp
      cases hp
      have : (post x).length ≠ 0 := fun h => post_ne x (List.eq_nil_of_length_eq_zero h)
      exact this lx.symm
    refine ⟨p, rfl, ⟨_, SqL.of hp⟩, ?_⟩
    refine for_list (K := K) (a := p) (xs := xs) (fun i σ H' => ∃ (x3 x4 x5 : Option V) (vs : List V) (S : List Xp), σ = [some (.ref C), some v, some (.ref L), x3, x4, x5] ∧ Same H H' ∧ H' p = some (.lst xs) ∧ StepsAt H' xs (post x) ∧ H' L = some (.lst vs) ∧ XAts K C H' vs S ∧ S.length ≤ i ∧ Run S ((post x).drop i) [x])
      ⟨none, none, none, [], [], rfl, S01, hp, hss, S1 _ _ hL, .nil, Nat.le_refl _, by
        have := run_post x [] [] [x] ok h7 .nil
        rw [List.append_nil] at this
        exact this⟩ (fun i σ H' _ ⟨_, _, _, _, _, _, _, hp, _⟩ => SqL.of hp) ?_ ?_
    · rintro i y σ H2 hi ⟨x3, x4, x5, vs, S, rfl, S2, hp2, hss2, hL2, hxs, lS, run⟩
      obtain ⟨st, hst, t, rfl, ht⟩ := hss2.2 i y hi
      have lv := hxs.len
      have il : i < (post x).length := (List.getElem?_eq_some_iff.mp hst).1
      have dr : (post x).drop i = st :: (post x).drop (i + 1) := by
        obtain ⟨h1, h2⟩ := List.getElem?_eq_some_iff.mp hst
        rw [List.drop_eq_getElem_cons h1, h2]
      rw [dr] at run
      have fin : ∀ (H3 : Hp) (x3 x4 x5 : Option V) (us : List V) (S' : List Xp) (y : Xp) (v' : V), Same H H3 → H3 p = some (.lst xs) → TK H2 H3 → H3 L = some (.lst us) → XAts K C H3 us S' → XAt K C H3 v' y → S'.length ≤ i → Run (S' ++ [y]) ((post x).drop (i + 1)) [x] →
          (∃ (y3 y4 y5 : Option V) (vs : List V) (S : List Xp), [some (.ref C), some v, some (.ref L), x3, x4, x5] = [some (.ref C), some v, some (.ref L), y3, y4, y5] ∧ Same H (upd H3 L (.lst (us ++ [v']))) ∧ upd H3 L (.lst (us ++ [v'])) p = some (.lst xs) ∧ StepsAt (upd H3 L (.lst (us ++ [v']))) xs (post x) ∧ upd H3 L (.lst (us ++ [v'])) L = some (.lst vs) ∧ XAts K C (upd H3 L (.lst (us ++ [v']))) vs S ∧ S.length ≤ i + 1 ∧ Run S ((post x).drop (i + 1)) [x]) := by
        intro H3 x3 x4 x5 us S' y v' S3 hp3 tk hL3 hus hv' lS' run'
        have oL := off_lst (o' := .lst (us ++ [v'])) hL3
        refine ⟨_, _, _, us ++ [v'], S' ++ [y], rfl, fun b o e => by rw [upd_ne (ne_of_none e nL)]; exact S3 _ _ e, by rw [upd_ne npL]; exact hp3, (hss2.tk tk).tk (tk_lst hL3), upd_same, xs_app (xs_kp (kp_off oL) _ _ hus) (.cons (x_kp (kp_off oL) _ _ hv') .nil), by rw [List.length_append]; show S'.length + 1 ≤ i + 1; omega, run'⟩
      by_cases hlt : ∃ c, st = .lt c
      · obtain ⟨c, rfl⟩ := hlt
        cases run with
        | lt okc run' =>
          refine ⟨t, _, rfl, SqT.of ht, rfl, _, _, rfl, _, _, rfl, rfl, ?_⟩
          refine ⟨_, rfl, rfl, _, rfl, ?_⟩
          refine iteT ?_
          refine ⟨_, rfl, .inl ⟨rfl, _, SqL.of hL2⟩, rfl, _, rfl, _, rfl, by show 1 ≤ sizeLine; decide, fun t2 nt2 => ?_⟩
          have S3 := same_up (o := .tup [.str (sg c)]) nt2
          refine fun xx dx nx nd ne => ?_
          refine make_y (y := .lt c) nx nd ne (SqT.of upd_same) okc (by show 1 ≤ 6000; decide) fun H4 S4 hv' => ⟨rfl, ?_⟩
          have S24 := S3.trans S4
          refine ⟨L, _, _, rfl, rfl, S24 _ _ hL2, by rw [lv, sizeLine_eq]; omega, ?_⟩
          exact fin _ _ _ _ _ _ _ _ (S2.trans S24) (S24 _ _ hp2) (fun b xs h => S24 _ _ h) (S24 _ _ hL2) (xs_kp (kp_same S24) _ _ hxs) hv' lS run'
      obtain ⟨S', ps, y, n, eS, en, eV, okyy, l7, nlt, toP, run'⟩ : ∃ (S' ps : List Xp) (y : Xp) (n : Nat), S = S' ++ ps ∧ n = ps.length ∧ stV st = [.str (kN y), .int (n : Int)] ∧ okY y = true ∧ tl y ≤ 6000 ∧ decide (V.str (kN y) = V.str "letter") = false ∧ (∀ H l us, SqT K H l us → XAts K C H us ps → Pts K C H l y) ∧ Run (S' ++ [y]) ((post x).drop (i + 1)) [x] := by
        cases run with
        | one run' => exact ⟨S, [], .one, 0, by rw [List.append_nil], rfl, rfl, rfl, by decide, rfl, fun H l us h1 h2 => (by cases h2; exact h1), run'⟩
        | lt okc run' => exact absurd ⟨_, rfl⟩ hlt
        | nd okc l7 en run' => exact ⟨_, _, _, _, rfl, en, rfl, okc, l7, kN_let _, fun H l us h1 h2 => ⟨us, h1, h2⟩, run'⟩
      subst eS
      obtain ⟨us, ws, rfl, hus, hws⟩ := xs_split hxs
      have lu := hus.len
      have lw := hws.len
      rw [eV] at ht
      rw [List.length_append] at lS
      have ea : ((us ++ ws).length : Int) - (n : Int) = (us.length : Int) := by rw [List.length_append]; omega
      refine ⟨t, _, rfl, SqT.of ht, rfl, _, _, rfl, _, _, rfl, rfl, ?_⟩
      refine ⟨_, rfl, rfl, _, rfl, ?_⟩
      rw [nlt]
      refine iteF ?_
      refine ⟨_, rfl, _, rfl, L, _, rfl, .inl (SqL.of hL2), _, rfl, _, _, rfl, rfl, _, rfl, L, _, rfl, SqL.of hL2, fun l2 nl2 => ?_⟩
      rw [ea, cut_from, List.drop_left]
      have S3 := same_up (o := .lst ws) nl2
      have hl2 : upd H2 l2 (.lst ws) l2 = some (.lst ws) := upd_same
      generalize upd H2 l2 (.lst ws) = H3 at S3 hl2 ⊢
      refine ⟨l2, ws, rfl, .inl ⟨SqL.of hl2, fun t2 nt2 => ?_⟩⟩
      have S4 := same_up (o := .tup ws) nt2
      have ht2 : upd H3 t2 (.tup ws) t2 = some (.tup ws) := upd_same
      have S34 := S3.trans S4
      generalize upd H3 t2 (.tup ws) = H4 at S34 ht2 ⊢
      have hL4 := S34 _ _ hL2
      refine ⟨_, rfl, _, rfl, L, _, rfl, .inl (SqL.of hL4), _, rfl, _, _, rfl, rfl, _, rfl, L, _, us.length, rfl, congrArg some ea, hL4, by rw [List.length_append]; omega, ?_⟩
      rw [List.take_left]
      have oL := off_lst (o' := .lst us) hL4
      have hL5 : upd H4 L (.lst us) L = some (.lst us) := upd_same
      have tk5 : TK H2 (upd H4 L (.lst us)) := fun b xs h => tk_lst hL4 b xs (S34 _ _ h)
      have S5 : Same H (upd H4 L (.lst us)) := fun b o e => by rw [upd_ne (ne_of_none e nL)]; exact S34 _ _ (S2 _ _ e)
      have hp5 : upd H4 L (.lst us) p = some (.lst xs) := by rw [upd_ne npL]; exact S34 _ _ hp2
      have ht5 := tk_lst (o := .lst us) hL4 _ _ ht2
      have hus5 := xs_kp (kp_off oL) _ _ (xs_kp (kp_same (C := C) S34) _ _ hus)
      have hws5 := xs_kp (kp_off oL) _ _ (xs_kp (kp_same (C := C) S34) _ _ hws)
      generalize upd H4 L (.lst us) = H5 at hL5 tk5 S5 hp5 ht5 hus5 hws5 ⊢
      refine ⟨_, rfl, .inl ⟨rfl, _, SqL.of hL5⟩, rfl, _, rfl, _, rfl, fun xx dx nx nd ne => ?_⟩
      refine make_y nx nd ne (toP _ _ _ (SqT.of ht5) hws5) okyy l7 fun H6 S6 hv' => ⟨rfl, ?_⟩
      refine ⟨L, _, _, rfl, rfl, S6 _ _ hL5, by rw [lu, sizeLine_eq]; omega, ?_⟩
      exact fin _ _ _ _ _ _ _ _ (S5.trans S6) (S6 _ _ hp5) (fun b xs h => S6 _ _ (tk5 b xs h)) (S6 _ _ hL5) (xs_kp (kp_same S6) _ _ hus5) hv' (by omega) run'
    · rintro σ H2 ⟨x3, x4, x5, vs, S, rfl, S2, hp2, hss2, hL2, hxs, lS, run⟩
      rw [show (post x).drop xs.length = [] from List.drop_of_length_le (by rw [lx]; exact Nat.le_refl _)] at run
      cases run
      cases hxs with
      | cons h1 h2 =>
        cases h2
        refine ⟨_, rfl, L, _, 0, _, rfl, rfl, SqL.of hL2, at0, ?_⟩
        exact q x _ _ rfl ok hx S2 h1
end
end Vk
set_option Elab.async false
set_option linter.all false
set_option maxRecDepth 100000
set_option maxHeartbeats 4000000
namespace Vk
open PySem PySem.Spec PyProof.Rows L2 PySem.Vx
/-! ## several except clauses, each with a name -/
def wKeeps (K : PySem.W.Frag) (i : Nat) (Wout : WX) (D : Ends) : List (Value × (Addr → Value → Option Addr → TS)) → WX
  | [] => Wout
  | (c, ts) :: r => wKeep K c i ts (wKeeps K i Wout D r) D
inductive HdkOk (X : Cx) (n : Str) : List ExceptHandler → List (Value × (Addr → Value → Option Addr → TS)) → Prop
  | nil : HdkOk X n [] []
  | cons {x : Str} {c : Value} {ts : Addr → Value → Option Addr → TS} {b₀ : Stmt} {suite : List Stmt} {np pos' : Pos} {hds : List ExceptHandler} {l : List (Value × (Addr → Value → Option Addr → TS))} (hc : Names X x c)
      (hsu : ∀ (a : Addr) (oe : Obj) (cls : Value) (d : Option Addr) (pn : List (Addr × Obj)), Zc cls d oe → (∃ vs, oe.data = .fields vs) → PSs (X.suite a ((a, oe) :: pn)) (b₀ :: suite) (ts a cls d)) (r : HdkOk X n hds l) :
      HdkOk X n (.ExceptHandler (some (.Name x np)) (some n) (b₀ :: suite) pos' :: hds) ((c, ts) :: l)
section
variable {X : Cx} {n : Str} {i : Nat} {body : List Stmt} {h₀ : ExceptHandler} {hds : List ExceptHandler} {l : List (Value × (Addr → Value → Option Addr → TS))} {pos : Pos} {tb : WX → TS} {Wout : WX}
theorem ps_try_keeps (hex : X.ex = []) (hs : X.stack = X.env :: X.outer) (hf : X.env.frame = some X.env.locals) (hN : X.N.Nodup) (hi : X.N[i]? = some n) (hln : X.env.kindOf n = some .local) (tk : Takes X Wout)
    (hb : ∀ (W : WX) (pn : List (Addr × Obj)) (xe : Value → Shared → Prop), Takes (X.tr pn xe) W → PassesOwn (model X.prog X.w) X.A X.env xe → PSs (X.tr pn xe) body (tb W))
    (hh : HdkOk X n (h₀ :: hds) l) : PS X (.Try body (h₀ :: hds) [] [] pos) (fun D σ H => tb (wKeeps X.K i Wout D l) D σ H) := by
  refine ⟨fun pins s σ H D I h => ?_⟩
  have ok := I.ok
  have hfr : X.A.frames = some (X.env :: X.outer) := by rw [ok.frames, hs]
  have locN : Loc X.env.scope n := .inl hln
  refine wpAny_Try_except ?_
  refine wpAny_mono ((hb (wKeeps X.K i Wout D l) (X.pn ++ pins) (fun e s₁ => wpAny (model X.prog X.w) X.A (noteFrame e X.env) (fun _ s₂ => wpAny (model X.prog X.w) X.A (setFlight e none)
    (fun _ s₃ => wpAny (model X.prog X.w) X.A (handleBy e X.env (h₀ :: hds)) (SP X pins D) X.xe s₃) X.xe s₂) X.xe s₁) (fun u s' xx => ?_) PassesOwn.looking).run [] s σ H D (I.toTry _) h)
    (fun f s1 hsp => ?_) (fun e s1 he => he)
  · obtain ⟨a, B, sI, pins', σ', H', cls, d, rfl, J', nb, up, sky, na, os, ag, w⟩ := xx
    have J : Inv X pins σ' H' sI := J'.ofTry ok
    have sky2 : Sky B (X.env :: X.outer) a (Zc cls d) X.env.locals s'.heap := by rw [← hs]; exact sky
    have notB : B.get? a = none := by
      rcases sky with ⟨_, z, _⟩ | z | z
      · exact z
      · exact z.2.1
      · exact z.2.1
    show wpAny (model X.prog X.w) X.A (noteFrame (.ref a) X.env) _ _ _
    refine Sky.land Zc.steady hfr hf sky2 fun h3 fl3 up3 => ?_
    have J3 : Inv X pins σ' H' { s' with heap := h3 } := J.landed nb fl3.1 (up.trans up3) os ag
    obtain ⟨oe3, vs3, he3, hz3, hd3⟩ := fl3.there
    have nfr : a ∉ frs (X.env :: X.outer) := fun hm => by
      obtain ⟨_, o', e', hnf⟩ := fl3.2.2.1.mem hm
      rw [he3] at e'
      cases e'
      exact hnf _ hd3
    have notI : sI.heap.get? a = none := by
      cases e : sI.heap.get? a with
      | none => rfl
      | some o =>
        have z := nb a o e (by rw [hs]; exact nfr)
        rw [notB] at z
        cases z
    have not0 : X.s_0.heap.get? a = none := by
      cases e : X.s_0.heap.get? a with
      | none => rfl
      | some o =>
        obtain ⟨o', z⟩ := J.base.there a o e (by rw [hex]; exact fun z => nomatch z)
        rw [notI] at z
        cases z
    have nPin : ∀ q ∈ X.pn ++ pins, q.1 ≠ a := fun q hq z => by
      have y := (J'.pin q (List.mem_append_left _ hq)).1
      rw [z, notI] at y
      cases y
    have nL : a ≠ X.env.locals := fun z => nfr (List.mem_filterMap.mpr ⟨X.env, List.mem_cons_self, by rw [hf, z]⟩)
    have nF : a ∉ X.fs := fun hm => by
      obtain ⟨e, he, q⟩ := List.mem_filterMap.mp hm
      exact nfr (List.mem_filterMap.mpr ⟨e, List.mem_cons_of_mem _ he, q⟩)
    have S3 := J3.suite he3 hd3 na nL nF
    have go : ∀ {hds' : List ExceptHandler} {l' : List (Value × (Addr → Value → Option Addr → TS))}, HdkOk X n hds' l' → wKeeps X.K i Wout D l' cls d σ' H' →
        wpAny (model X.prog X.w) X.A (handleBy (.ref a) X.env hds') (SP X pins D) X.xe { s' with heap := h3 } := by
      intro hds' l' hk
      induction hk with
      | nil =>
        intro w
        refine wpAny_handleBy_nil ?_
        obtain ⟨k1, k2, k3, oe, vs, T, oT, ts', he, hz, hd, h1, hr⟩ := id fl3
        unfold PySem.passOn
        refine wpAny_bind (wpAny_field he hd h1 ?_)
        rw [if_neg (show ¬ ((Value.ref T == Value.none) = true) from by simp)]
        have fin : wpAny (model X.prog X.w) X.A (setFlight (.ref a) X.env.frame) (fun _ s4 => wpAny (model X.prog X.w) X.A (throw (.ref a) : Sem Flow) (SP X pins D) X.xe s4) X.xe { s' with heap := h3 } := by
          rw [hf]
          refine HandSPX.setFlight_upZ fl3 fun h4 hh4 up4 => wpAny_throw (tk _ _ ?_)
          exact ⟨a, B, sI, pins, σ', H', cls, d, rfl, J, nb, (up.trans up3).trans up4, .inr (.inr (by rw [hs]; exact hh4)), na, os, ag, w⟩
        first
          | exact wpAny_bind (wpAny_pure (wpAny_bind fin))
          | exact wpAny_bind fin
      | @cons x c ts b₀ suite np pos' hds2 l2 hc hsu r ih =>
        intro w
        obtain ⟨b, hb1, hyes, hno⟩ := w
        refine wpAny_handleBy_cons (codeAny_handlers_test ?_) (by intro q; cases q)
        have LT : PySem.W.Looks (model X.prog X.w) h3 (typeOf (.ref a)) cls := fun A Q E s k q => wpAny_typeOf_ref (k _ _ he3) (by rw [hz3.1]; exact q)
        have LM := PySem.W.exm_one (M := model X.prog X.w) (J3.kIn) LT hb1
        have test : ∀ {Q : Value → Shared → Prop} {E : Value → Shared → Prop}, Q c { s' with heap := h3 } → wpAny (model X.prog X.w) (X.A.mark (some (.ref a))) (eval (.Name x np) X.env) Q E { s' with heap := h3 } := fun {Q E} q => by
          obtain ⟨hg, hdbg, hm | ⟨hm, hv, hnn⟩⟩ := hc
          · exact ld_glob (X := X.suite a ((a, oe3) :: (X.pn ++ pins))) S3 hg hm q hdbg
          · exact ld_blt (X := X.suite a ((a, oe3) :: (X.pn ++ pins))) S3 hg hm hv q hnn hdbg
        refine test (LM.here ?_)
        cases b with
        | true =>
          refine codeAny_handlers_suite_as ?_
          refine HandSPX.lands_againZ fl3 fun h4 fl4 up4 => ?_
          have J4 : Inv X pins σ' H' { s' with heap := h4 } := J.landed nb fl4.1 ((up.trans up3).trans up4) os ag
          obtain ⟨oe4, vs4, he4, hz4, hd4⟩ := fl4.there
          have S4 := J4.suite he4 hd4 na nL nF
          refine store_ok (X := X.suite a ((a, oe4) :: (X.pn ++ pins))) (v := .ref a) S4 hN hi locN rfl (fun s5 S5 => ?_) (.inr hln)
          refine wpAny_mono ((hsu a oe4 cls d (X.pn ++ pins) hz4 ⟨_, hd4⟩).run [] s5 _ H' _ S5 (hyes rfl a na)) (fun f s6 hsp => ?_) (fun _ _ z => False.elim z)
          have fin : ∀ {σ6 : L2.St} {H6 : Hp} {Q : Shared → Prop}, Inv (X.suite a ((a, oe4) :: (X.pn ++ pins))) [] σ6 H6 s6 → (∀ s7, Inv X pins (σ6.set i none) (upd H6 a (ExV cls d a)) s7 → Q s7) →
              wpAny (model X.prog X.w) X.A (do bindName X.env n .none; unbindBehindTheSuite X.env n pos') (fun _ s7 => Q s7) X.xe s6 :=
            fun {σ6 H6 Q} S6 hq => gone_ok (Inv.unsuiteP S6 ok) hN hi hln fun s7 J7 => hq s7 (Inv.track J7 hz4 hd4 not0 nPin)
          cases f with
          | next =>
            obtain ⟨σ6, H6, S6, q6⟩ := hsp
            exact fin S6 fun s7 J7 => ⟨_, _, J7, q6⟩
          | brk =>
            obtain ⟨σ6, H6, S6, q6⟩ := hsp
            exact fin S6 fun s7 J7 => ⟨_, _, J7, q6⟩
          | cont =>
            obtain ⟨σ6, H6, S6, q6⟩ := hsp
            exact fin S6 fun s7 J7 => ⟨_, _, J7, q6⟩
          | ret u =>
            obtain ⟨v6, σ6, H6, S6, r6, q6⟩ := hsp
            exact fin S6 fun s7 J7 => ⟨_, _, _, J7, r6, q6⟩
        | false =>
          show wpAny _ X.A (handleBy (.ref a) X.env hds2) _ _ _
          exact ih (hno rfl)
    exact go hh w
  · cases f with
    | next =>
      obtain ⟨σ', H', J', q⟩ := hsp
      exact wpAny_execs_nil ⟨σ', H', J'.ofTry ok, q⟩
    | brk =>
      obtain ⟨σ', H', J', q⟩ := hsp
      exact ⟨σ', H', J'.ofTry ok, q⟩
    | cont =>
      obtain ⟨σ', H', J', q⟩ := hsp
      exact ⟨σ', H', J'.ofTry ok, q⟩
    | ret u =>
      obtain ⟨v, σ', H', J', r, q⟩ := hsp
      exact ⟨v, σ', H', J'.ofTry ok, r, q⟩
end
/-! ## C.m(k = v), m a classmethod, nothing by position, within a try -/
section
open ClX
def tCMethKS (C : Addr) (sp : Sp) (gV : List V → List V → List V) (E : L2.St → XK) (ta : TE) (tk : TA) : TE := fun σ H Q => ta σ H fun x H1 => x = .ref C ∧ tk σ H1 fun zs H2 => sp (gV [.ref C] zs) H2 Q (E σ)
variable {X : Cx} {CX : CXT} {k : Nat} {C p g : Addr} {mc : Value} {fd : FuncData} {ps ks : List Str} {sp : Sp} {E : L2.St → XK} {o : Expr} {m : Str} {pos apos : Pos} {ta : TE} {tk : TA} {pl : Sem Bool} {kws : List Keyword}
  {gg : List Value → List Value → List Value} {gV : List V → List V → List V}
theorem run_cmkS {pins : List (Addr × Obj)} {σ : L2.St} {H : Hp} {s : Shared} {q : Addr} {Q : VK} {ws : List Value} {zs : List V} (F : FnOk X.prog X.w X.K X.mg X.base CX k g fd ps sp) (hr : Room k X.A) (hb : KBinds X.K fd ps ks gg gV) (hx : PassesAt CX X σ (E σ))
    (I : Inv X ((q, PySem.W.methodObj (.ref g) (.ref C)) :: pins) σ H s) (rz : Vals zs ws) (h : sp (gV [.ref C] zs) H Q (E σ)) : wpAny (model X.prog X.w) X.A (call (.ref q) [] (ks.zip ws)) (EP X pins σ Q) X.xe s := by
  have r2 := hb.rel (show Vals [V.ref C] [Value.ref C] from .cons rfl .nil) rz
  have hl : (gg [.ref C] ws).length = ps.length := by rw [← r2.length]; exact F.len _ _ _ _ h
  have z : wpAny (model X.prog X.w) X.A (call (.ref q) [] (ks.zip ws)) (EP X ((q, PySem.W.methodObj (.ref g) (.ref C)) :: pins) σ Q) X.xe s := by
    refine wpAny_call (PySem.W.method_call (pin_at I) (codeAny_mono (F.run X.A X.stack s H ⟨[.ref C], ks.zip ws⟩ (gg [.ref C] ws) (gV [.ref C] zs) Q (E σ) hr I.env0 (hb.to s [.ref C] ws I.kIn hl) r2 h) fun r s' hq => ?_))
    cases r with
    | error e => exact hx _ H s e s' I hq
    | ok fl =>
      cases fl with
      | ret u => exact I.after hq
      | next => exact False.elim hq
      | brk => exact False.elim hq
      | cont => exact False.elim hq
  exact thn z fun _ _ y => unpinE y
theorem pe_cmethKS (he : PE X o ta) (r : CRead X.K C mc) (c : CMet X.K C mc m p g) (F : FnOk X.prog X.w X.K X.mg X.base CX k g fd ps sp) (hr : Room k X.A) (hb : KBinds X.K fd ps ks gg gV) (hx : ∀ σ, PassesAt CX X σ (E σ)) (hkw : PK X kws tk)
    (hall : (backToKw pos (keywordEach kws X.env)).all (·.1.isSome) = true := by rfl) (hks : (backToKw pos (keywordEach kws X.env)).filterMap (·.1) = ks := by rfl)
    (hpl : ((backTo pos (starEach [] X.env)).any (·.1) || (backToKw pos (keywordEach kws X.env)).any (·.1.isNone)) = false := by rfl)
    (ht : eval (.Call (.Attribute o m apos) [] kws pos) X.env = (do
      let ov ← eval o X.env
      standAt apos.atName
      let (f, first) ← holding [ov] (getMethod ov m pl)
      callWith pos f first (backTo pos (starEach [] X.env)) (backToKw pos (keywordEach kws X.env))) := by rfl) :
    PE X (.Call (.Attribute o m apos) [] kws pos) (tCMethKS C sp gV E ta tk) := by
  refine ⟨fun pins s σ H Q I h => ?_⟩
  refine PySem.W.methodCall_KW (pl := pl) (thn (he.run pins s σ H _ I h) fun u s1 ⟨x, H1, I1, rx, ex, q⟩ => ?_) ht
  subst ex
  obtain rfl : u = Value.ref C := rx
  refine getmethcm_ok I1 r c fun s2 I2 => ?_
  refine callwith_cmk (pins := pins) (σ := σ) (H := H) c.fi hall (thn (hkw.run pos _ s2 σ H1 _ I2 q) fun ws s3 ⟨zs, H2, I3, rz, q2⟩ => ⟨⟨pin_at I3, I3.kIn⟩, ?_⟩) hpl
  rw [hks]
  exact run_cmkS F hr hb (hx σ) I3 rz q2
end
def gC {α : Type} : List α → List α → List α
  | [c], [u] => [c, u]
  | _, _ => []
theorem gC_rel {vs zs : List V} {us ws : List Value} (r1 : Vals vs us) (r2 : Vals zs ws) : Vals (gC vs zs) (gC us ws) := by
  cases r1 with
  | nil => exact .nil
  | cons a r1 =>
    cases r1 with
    | cons b r1 => exact .nil
    | nil =>
      cases r2 with
      | nil => exact .nil
      | cons c r2 =>
        cases r2 with
        | nil => exact .cons a (.cons c .nil)
        | cons d r2 => exact .nil
theorem kw_binds2 {K : PySem.W.Frag} {x qual : Str} {st : Stmt} {f : Addr} {fd : FuncData} {p0 p : Str} (F : Fun K x qual st f fd)
    (h : ∀ (kV doc pm : Value) (an : Option Addr) (cdv ct : Value) (c u : Value), bindArgs (PySem.W.fnOf x qual (defArgs st) (defBody st) (defScope st) .none kV doc pm an cdv ct) ⟨[c], [(p, u)]⟩ = pure ([p0, p].zip [c, u])) :
    KBinds K fd [p0, p] [p] gC gC := by
  obtain ⟨oc, od, kV, doc, pm, an, cdv, ct, osl, rfl, lk, hcd⟩ := F.ex
  refine ⟨fun s us ws _ hl => ?_, fun r1 r2 => gC_rel r1 r2⟩
  match us, ws, hl with
  | [c], [u], _ => exact BindsTo.of_eq (h kV doc pm an cdv ct c u)
  | [], _, z => cases z
  | [_], [], z => cases z
  | [_], _ :: _ :: _, z => cases z
  | _ :: _ :: _, _, z => cases z
end Vk
set_option Elab.async false
set_option linter.all false
set_option maxRecDepth 100000
set_option maxHeartbeats 4000000
namespace Vk
open PySem PySem.Spec PyProof.Rows L2 Vt PySem.Vx Vs1 ClX
abbrev sTold : Stmt := top8 43
def toldOf (d : PyData) : PyData := match d with
  | .str z => match seenT z with
    | .inl b => .list [.int (b : Int), .bool true]
    | .inr _ => .list [.str "fine", .str z]
  | _ => .list [.int (-1), .bool true]
def KnownD (d : PyData) : Prop := ∀ z, d = .str z → z.length ≤ 6000 ∧ KnownT z
/-- what is told stands at p -/
def ToldAt (H : Hp) (p : Addr) (d : PyData) : Prop := (∃ i : Int, toldOf d = .list [.int i, .bool true] ∧ H p = some (.lst [.int i, .bl true])) ∨ ∃ z, toldOf d = .list [.str "fine", .str z] ∧ H p = some (.lst [.str "fine", .str z])
theorem ToldAt.dp {K : PySem.W.Frag} {H : Hp} {p : Addr} {d : PyData} (h : ToldAt H p d) : Dp K H (.ref p) (toldOf d) := by
  rcases h with ⟨i, e, h⟩ | ⟨z, e, h⟩
  · rw [e]
    exact .lst (SqL.of h) (.cons (.int _) (.cons (.bl _) .nil))
  · rw [e]
    exact .lst (SqL.of h) (.cons (.str _) (.cons (.str _) .nil))
theorem ToldAt.same {H H' : Hp} {p : Addr} {d : PyData} (h : ToldAt H p d) (S : Same H H') : ToldAt H' p d := by
  rcases h with ⟨i, e, h⟩ | ⟨z, e, h⟩
  · exact .inl ⟨i, e, S _ _ h⟩
  · exact .inr ⟨z, e, S _ _ h⟩
theorem read11_use {K : PySem.W.Frag} {C CT : Addr} {H : Hp} {Q : VK} {E : XK} {v : V} {d : PyData} (hd : Dr K H v d) (hk : KnownD d)
    (good : ∀ x v' H', toldOf d = .list [.str "fine", .str (lnX x)] → okY x = true → tl x ≤ 6000 → Same H H' → XAt K C H' v' x → Q v' H')
    (bad : ∀ i : Int, toldOf d = .list [.int i, .bool true] → OutT CT (.int i) H E) : spRead11 K C CT [.ref C, v] H Q E := by
  refine ⟨v, d, rfl, hd, hk, fun x v' H1 e ok hs S1 hx => ?_, fun z b e hb => bad b (by rw [e, toldOf, hb]), fun h => bad (-1) (by
    cases d with
    | str z => exact absurd rfl (h z)
    | _ => rfl)⟩
  subst e
  exact good x v' H1 (by rw [toldOf, hs]) ok (hk _ rfl).1 S1 hx
section
variable {P : Program} {w : World} {K : PySem.W.Frag} {mg : Str → Option Value} {base : Heap}
def spTold11 (K : PySem.W.Frag) : Sp := fun vs H Q _ => ∃ (v : V) (b : Bool) (d : PyData), vs = [v, .bl b] ∧ Dr K H v d ∧ KnownD d ∧ ∀ H' p, Same H H' → ToldAt H' p d → Q (.ref p) H'
theorem scTo : FnScope ["_law_it", "_law_is_named", "_law_found", "e"] ["_law_it", "_law_is_named"] (defScope sTold) := ⟨rfl, rfl, rfl, by decide +kernel, rfl, by decide +kernel, by decide +kernel⟩
theorem ok_told11 {f C CT CL fRd pRd fSt : Addr} {fd fdRd fdSt : FuncData} {mc : Value} (F : Fun K "_law_told" "_law_told" sTold f fd) (T : Txt8 K mg)
    (TKT : EcK K CT) (gT : mg "BadText" = some (.ref CT)) (hpT : PySem.W.findIn K (.ref CT) "place" = some none) (hmT : PySem.W.exmOne K (.ref CT) (.ref CT) = some true)
    (gL : mg "LoopError" = some (.ref CL)) (hkL : PySem.W.kitOne K (.ref CT) (.ref CL) = some true) (gX : mg "Expression" = some (.ref C))
    (GRd : FnOk P w K mg base (L2.CX P w) 5 fRd fdRd ["cls", "text"] (spRead11 K C CT)) (RC : CRead K C mc) (CM : CMet K C mc "read" pRd fRd) (bRd : Binds K fdRd ["cls", "text"] []) (bRdK : KBinds K fdRd ["cls", "text"] ["text"] gC gC)
    (GSt : FnOk P w K mg base CX0 3 fSt fdSt ["self"] (spXStr K C)) (sSt : PySem.W.findIn K (.ref C) "__str__" = some (some (.ref fSt))) (fSt' : PySem.W.isFn K (.ref fSt) = true) (bSt : Binds K fdSt ["self"] []) :
    FnOk P w K mg base CX0 6 f fd ["_law_it", "_law_is_named"] (spTold11 K) := by
  refine F.ok scTo (fun vs H Q E h => ?_) (fun cdv A outer s H vs Q E hr h => ?_)
  · obtain ⟨v, b, d, rfl, _⟩ := h
    rfl
  · obtain ⟨v, b, d, rfl, hd, hk, k⟩ := h
    refine ⟨_, (pss_cons (ps_set (i := 2) scTo.nd rfl (.inl rfl) pe_non)
        (pss_cons (ps_try_keeps (i := 3) (n := "e") (Wout := fun _ _ _ _ => False) rfl rfl rfl scTo.nd rfl rfl takes0
          (fun W pn xe tk _ => (pss_one (ps_set (i := 2) scTo.nd rfl (.inl rfl) (pe_lst (pa_cons pe_str (pa_cons (pe_callTy (cr_strO GSt hr sSt fSt' bSt pass0) (by rfl) T.str (by decide +kernel) (pa_cons (pe_ifExp (pt_val (pv 1))
              (pe_cmethKS (pe_glob (v := .ref C) (by rfl) gX rfl) RC CM GRd hr bRdK (passAt tk) (pk_cons (pv 0) pk_nil))
              (pe_cmethS (pe_glob (v := .ref C) (by rfl) gX rfl) RC CM GRd hr bRd (passAt tk) (pa_cons (pv 0) pa_nil))) pa_nil)) pa_nil))))))
          (.cons ⟨rfl, by decide, .inl gT⟩ (fun a oe cls d pn hz hf => (pss_one (ps_set (i := 2) scTo.nd rfl (.inl rfl) (pe_lstS (pa_cons (pe_xf (C := CT) ⟨TKT.ga, TKT.gg, TKT.ex, TKT.hd⟩ hpT hz hf (pv 3)) (pa_cons (pe_callB (call_isS TKT hz hf) (by rfl) T.isi (by decide +kernel) (pa_cons (pv 3) (pa_cons (pe_glob (v := .ref CL) (by rfl) gL rfl) pa_nil))) pa_nil))))))
              .nil))
        (pss_one (ps_ret (pv 2))))), ?_⟩
    refine ⟨_, rfl, b, rfl, ?_⟩
    cases b
    case' false =>
      refine iteF ?_
      refine ⟨rfl, _, rfl, ?_⟩
    case' true =>
      refine iteT ?_
      refine ⟨rfl, _, rfl, ?_⟩
    all_goals
      dsimp only [tNil, gC]
      refine read11_use hd hk (fun x v' H1 et ok l7 S1 hx => ?_) (fun i ed d1 H1 S1 hn hx => ?_)
      · obtain ⟨a, dx, l, rfl, ha, _⟩ := x_at hx
        refine ⟨a, dx, _, rfl, ha, .ref a, x, rfl, hx, ok, l7, fun H2 S2 => ?_⟩
        refine ⟨_, rfl, by show 2 ≤ sizeLine; decide, fun L nL => ?_⟩
        refine ⟨_, rfl, k _ L (S1.trans (S2.trans (same_up nL))) ?_⟩
        exact .inr ⟨_, et, upd_same⟩
      · refine ⟨true, hmT, fun _ a ha => ?_, fun z => nomatch z⟩
        refine ⟨_, rfl, rfl, rfl, d1, _, _, rfl, hx, rfl, ?_⟩
        refine ⟨_, rfl, .ref CL, .ref CL, true, rfl, rfl, fun dd e => ⟨_, by cases e; exact hx⟩, fun u r => r, hkL, ?_⟩
        refine ⟨by show 2 ≤ sizeLine; decide, fun L nL nLa => ?_⟩
        have T2 := same_up (o := .lst [.int i, .bl true]) nL
        have ha2 : (upd H1 L (.lst [.int i, .bl true])) a = none := by rw [upd_ne (Ne.symm nLa)]; exact ha
        have T3 := same_up (o := ExV (.ref CT) (some d1) a) ha2
        refine ⟨_, rfl, k _ L (S1.trans (T2.trans T3)) ?_⟩
        exact .inl ⟨i, ed, T3 _ _ upd_same⟩
end
end Vk
set_option Elab.async false
set_option linter.all false
set_option maxRecDepth 100000
set_option maxHeartbeats 4000000
namespace Vk
open PySem PySem.Spec PyProof.Rows L2 Vt PySem.Vx Vs1 ClX
abbrev sRight : Stmt := top8 44
theorem outc_le : ∀ (l : List Nat) (s : Rd) (n b : Nat), outc s l n = .inl b → b ≤ n + l.length
  | [], s, n, b, h => by
    cases hw : wholeR s with
    | true =>
      rw [outc_end hw] at h
      cases h
    | false =>
      rw [outc_nil hw] at h
      cases h
      exact Nat.le_refl _
  | c :: l, s, n, b, h => by
    cases ht : takeR s c with
    | none =>
      rw [outc_bad ht] at h
      cases h
      exact Nat.le_add_right _ _
    | some s' =>
      rw [outc_cons ht] at h
      have := outc_le l s' (n + 1) b h
      rw [List.length_cons]
      omega
theorem seen_le {z : Str} {b : Nat} (h : seenT z = .inl b) : b ≤ z.length := by
  have := outc_le _ _ _ _ h
  have zl : z.length = (cL z).length := by show z.cps.size = _; rw [cL, Array.length_toList]
  omega
theorem told_shape (d : PyData) : (∃ i : Int, toldOf d = .list [.int i, .bool true]) ∨ ∃ z, d = .str z ∧ toldOf d = .list [.str "fine", .str z] := by
  cases d with
  | str z =>
    cases h : seenT z with
    | inl b => exact .inl ⟨b, by rw [toldOf, h]⟩
    | inr st => exact .inr ⟨z, rfl, by rw [toldOf, h]⟩
  | _ => exact .inl ⟨-1, rfl⟩
theorem told_plain {d : PyData} (hp : plainD d = true) (hl : ∀ z, d = .str z → z.length ≤ 6000) : plainD (toldOf d) = true ∧ wt (toldOf d) ≤ 6010 ∧ (toldOf d).depth ≤ 1 ∧ (toldOf d).hasDict = false := by
  cases d with
  | str z =>
    have hz := hl z rfl
    cases h : seenT z with
    | inl b =>
      have hb := seen_le h
      rw [toldOf, h]
      refine ⟨?_, (by decide : 3 ≤ 6010), Nat.le_refl _, rfl⟩
      show (decide (((b : Int)).natAbs < 10 ^ 41) && (true && true)) = true
      rw [decide_eq_true (by omega)]
      rfl
    | inr st =>
      rw [toldOf, h]
      refine ⟨?_, ?_, Nat.le_refl _, rfl⟩
      · show (plainD (.str "fine") && (plainD (.str z) && true)) = true
        rw [hp]
        decide
      · show 5 + (z.length + 1 + 0) + 1 ≤ 6010
        omega
  | _ => exact (show plainD (.list [.int (-1), .bool true]) = true ∧ wt (.list [.int (-1), .bool true]) ≤ 6010 ∧ (PyData.list [.int (-1), .bool true]).depth ≤ 1 ∧ (PyData.list [.int (-1), .bool true]).hasDict = false from ⟨by decide, by decide, Nat.le_refl _, rfl⟩)
section
variable {P : Program} {w : World} {K : PySem.W.Frag} {mg : Str → Option Value} {base : Heap}
theorem known_due {d : PyData} {u : V} (h : DueIs d u) (hl : ∀ z, d = .str z → z.length ≤ 6000) : KnownD d := fun z e => by
  subst e
  refine ⟨hl z rfl, ?_⟩
  rcases h with ⟨b, h1, _⟩ | ⟨x, h1, h2, h3, _⟩
  · exact .inl ⟨b, h1⟩
  · exact .inr ⟨x, h1, h2, h3⟩
/-- what is due, as a list -/
theorem wish_due {d : PyData} {u : V} (h : DueIs d u) : (∃ i : Int, u = .int i ∧ toldOf d = .list [.int i, .bool true]) ∨ ∃ z, d = .str z ∧ u = .str "fine" ∧ toldOf d = .list [.str "fine", .str z] := by
  cases d with
  | str z =>
    rcases h with ⟨b, h1, h2⟩ | ⟨x, h1, h2, h3, h4⟩
    · exact .inl ⟨b, h2, by rw [toldOf, h1]⟩
    · exact .inr ⟨z, rfl, h4, by rw [toldOf, h3]⟩
  | _ => exact .inl ⟨-1, h, rfl⟩
structure PlainIt (d : PyData) : Prop where
  fine : FineT d
  pl : plainD d = true
  w : wt d ≤ 6010
  dp : d.depth ≤ 50
theorem PlainIt.len {d : PyData} (h : PlainIt d) : ∀ z, d = .str z → z.length ≤ 6000 := fun z e => by
  subst e
  exact h.fine.1
def spRight11 (K : PySem.W.Frag) : Sp := fun vs H Q _ => ∃ (v : V) (d : PyData), vs = [v] ∧ Dr K H v d ∧ PlainIt d ∧ ∀ H', Same H H' → Q (.bl true) H'
theorem scRt : FnScope ["_law_it", "_law_shown", "_law_due_here", "_law_wish"] ["_law_it"] (defScope sRight) := ⟨rfl, rfl, rfl, by decide +kernel, rfl, by decide +kernel, by decide +kernel⟩
theorem ok_right11 {f fDu fTo : Addr} {fd fdDu fdTo : FuncData} (F : Fun K "_law_right" "_law_right" sRight f fd) (T : Txt8 K mg) (mrepr : mg "repr" = none)
    (GDu : FnOk P w K mg base CX0 44 fDu fdDu ["_law_it"] (spDue11 K)) (gDu : mg "_law_due" = some (.ref fDu)) (kDu : PySem.W.keepIn K (.ref fDu) = true) (bDu : Binds K fdDu ["_law_it"] [])
    (GTo : FnOk P w K mg base CX0 6 fTo fdTo ["_law_it", "_law_is_named"] (spTold11 K)) (gTo : mg "_law_told" = some (.ref fTo)) (kTo : PySem.W.keepIn K (.ref fTo) = true) (bTo : Binds K fdTo ["_law_it", "_law_is_named"] []) :
    FnG P w K mg base CX0 45 f fd ["_law_it"] (spRight11 K) := by
  refine okG F scRt (fun vs H Q E h => ?_) (fun cdv A outer s H vs Q E hgd hr h => ?_)
  · obtain ⟨v, d, rfl, _⟩ := h
    rfl
  · obtain ⟨v, d, rfl, hd, hp, k⟩ := h
    have hr6 : Room 6 _ := hr.mono (by decide)
    refine ⟨_, (pss_cons (ps_par (i := 1) (j := 2) (by rfl) scRt.nd rfl rfl (by decide) rfl rfl (pa_cons (pe_callB (call_reprV hgd hr) (by rfl) mrepr (by decide +kernel) (pa_cons (pv 0) pa_nil)) (pa_cons (pe_call GDu hr rfl gDu kDu bDu .nil pass0 (pa_cons (pv 0) pa_nil)) pa_nil)) (by rfl))
        (pss_cons (ps_set (i := 3) scRt.nd rfl (.inl rfl) (pe_ifExp (pt_cmpR op_eq (pv 2) pe_str (nomark _)) (pe_lst (pa_cons pe_str (pa_cons (pv 0) pa_nil))) (pe_lst (pa_cons (pv 2) (pa_cons pe_bl pa_nil)))))
        (pss_one (ps_ret (pe_and (pe_cmpR op_eq (pe_callB (call_reprV hgd hr) (by rfl) mrepr (by decide +kernel) (pa_cons (pe_lst (pa_cons (pe_call GTo hr6 rfl gTo kTo bTo .nil pass0 (pa_cons (pv 0) (pa_cons pe_bl pa_nil))) (pa_cons (pe_call GTo hr6 rfl gTo kTo bTo .nil pass0 (pa_cons (pv 0) (pa_cons pe_bl pa_nil))) pa_nil))) pa_nil)) (pe_callB (call_reprV hgd hr) (by rfl) mrepr (by decide +kernel) (pa_cons (pe_lst (pa_cons (pv 3) (pa_cons (pv 3) pa_nil))) pa_nil)) (nomark _)) (pe_one (pe_cmpR op_eq (pe_callB (call_reprV hgd hr) (by rfl) mrepr (by decide +kernel) (pa_cons (pv 0) pa_nil)) (pv 1) (nomark _)))))))), ?_⟩
    obtain ⟨t1, t2, t3, t4⟩ := told_plain hp.pl hp.len
    have sl := shown_wt d hp.pl
    have hw := hp.w
    have two : (PyData.list [toldOf d, toldOf d]).showable = true ∧ (PyData.list [toldOf d, toldOf d]).depth ≤ 60 ∧ (PyData.list [toldOf d, toldOf d]).shown.length ≤ sizeLine ∧ (PyData.list [toldOf d, toldOf d]).hasDict = false := by
      have pl2 : plainD (.list [toldOf d, toldOf d]) = true := by
        show (plainD (toldOf d) && (plainD (toldOf d) && true)) = true
        rw [t1] <;> rfl
      have sl2 := shown_wt _ pl2
      have w2 : wt (.list [toldOf d, toldOf d]) = wt (toldOf d) + (wt (toldOf d) + 0) + 1 := rfl
      refine ⟨show_plain _ pl2, ?_, by rw [sizeLine_eq]; omega, ?_⟩
      · show max (toldOf d).depth (max (toldOf d).depth 0) + 1 ≤ 60
        omega
      · rcases told_shape d with ⟨i, e⟩ | ⟨z, _, e⟩
        · rw [e] <;> rfl
        · rw [e] <;> rfl
    refine ⟨_, rfl, v, d, rfl, .inr hd, show_plain _ hp.pl, Nat.le_trans hp.dp (by decide), by rw [sizeLine_eq]; omega, ?_⟩
    refine ⟨_, rfl, v, d, rfl, hd, hp.fine, fun u H1 S1 hu => ?_⟩
    refine ⟨_, _, rfl, ?_⟩
    have hk := known_due hu hp.len
    have hd1 := hd.keep S1
    rcases wish_due hu with ⟨i, rfl, e⟩ | ⟨z, rfl, rfl, e⟩
    case' inl =>
      refine ⟨_, rfl, rfl, _, rfl, ?_⟩
      refine iteF ?_
      refine ⟨_, rfl, by show 2 ≤ sizeLine; decide, fun W nW => ?_⟩
      have S2 := same_up (o := .lst [.int i, .bl true]) nW
      have hW : ToldAt (upd H1 W (.lst [.int i, .bl true])) W d := .inl ⟨i, e, upd_same⟩
      generalize upd H1 W (.lst [.int i, .bl true]) = H2 at S2 hW ⊢
    case' inr =>
      refine ⟨_, rfl, rfl, _, rfl, ?_⟩
      refine iteT ?_
      refine ⟨_, rfl, by show 2 ≤ sizeLine; decide, fun W nW => ?_⟩
      obtain rfl := dr_str hd
      have S2 := same_up (o := .lst [.str "fine", .str z]) nW
      have hW : ToldAt (upd H1 W (.lst [.str "fine", .str z])) W (.str z) := .inr ⟨z, e, upd_same⟩
      generalize upd H1 W (.lst [.str "fine", .str z]) = H2 at S2 hW ⊢
    all_goals
      have S02 := S1.trans S2
      refine ⟨_, rfl, _, false, _, rfl, hd.keep S02, hk, fun H3 p1 S3 h1 => ?_⟩
      refine ⟨_, rfl, _, true, _, rfl, hd.keep (S02.trans S3), hk, fun H4 p2 S4 h2 => ?_⟩
      refine ⟨by show 2 ≤ sizeLine; decide, fun L nL => ?_⟩
      have S5 := same_up (o := .lst [.ref p1, .ref p2]) nL
      have hL : upd H4 L (.lst [.ref p1, .ref p2]) L = some (.lst [.ref p1, .ref p2]) := upd_same
      have h1' := (h1.same S4).same S5
      have h2' := h2.same S5
      have hW5 := ((hW.same S3).same S4).same S5
      have S05 := ((S02.trans S3).trans S4).trans S5
      generalize upd H4 L (.lst [.ref p1, .ref p2]) = H5 at S05 hL h1' h2' hW5 ⊢
      refine ⟨_, _, rfl, .inl ⟨.lst (SqL.of hL) (.cons h1'.dp (.cons h2'.dp .nil)), two.2.2.2⟩, two.1, two.2.1, two.2.2.1, ?_⟩
      refine ⟨_, rfl, _, rfl, by show 2 ≤ sizeLine; decide, fun M nM => ?_⟩
      have S6 := same_up (o := .lst [.ref W, .ref W]) nM
      have hM : upd H5 M (.lst [.ref W, .ref W]) M = some (.lst [.ref W, .ref W]) := upd_same
      have hW6 := hW5.same S6
      have S06 := S05.trans S6
      generalize upd H5 M (.lst [.ref W, .ref W]) = H6 at S06 hM hW6 ⊢
      refine ⟨_, _, rfl, .inl ⟨.lst (SqL.of hM) (.cons hW6.dp (.cons hW6.dp .nil)), two.2.2.2⟩, two.1, two.2.1, two.2.2.1, ?_⟩
      refine ⟨rfl, _, rfl, ?_⟩
      rw [decide_eq_true rfl]
      refine iteT ?_
      refine ⟨_, rfl, _, _, rfl, .inr (hd.keep S06), show_plain _ hp.pl, Nat.le_trans hp.dp (by decide), by rw [sizeLine_eq]; omega, ?_⟩
      refine ⟨_, rfl, rfl, ?_⟩
      rw [decide_eq_true rfl]
      exact k _ S06
end
end Vk
set_option Elab.async false
set_option linter.all false
set_option maxRecDepth 100000
set_option maxHeartbeats 4000000
namespace Vk
open PySem PySem.Spec PyProof.Rows L2 Vt PySem.Vx Vs1 ClX
abbrev sBent : Stmt := top8 45
theorem cS_to (z : Str) (n : Nat) : cL (cutS z none (some (n : Int))) = (cL z).take n := by
  have zl : z.length = (cL z).length := by show z.cps.size = _; rw [cL, Array.length_toList]
  show (((cL z).drop (HT.sIx z.length 0 none)).take (HT.sIx z.length z.length (some (n : Int)) - HT.sIx z.length 0 none)).toArray.toList = _
  rw [HT.sIx_nat, HT.sIx_none]
  show ((cL z).drop 0).take _ = _
  rw [List.drop_zero, Nat.sub_zero]
  by_cases h : n ≤ z.length
  · rw [Nat.min_eq_left h]
  · rw [Nat.min_eq_right (by omega), List.take_of_length_le (by omega), List.take_of_length_le (by omega)]
theorem cS_from (z : Str) (n : Nat) : cL (cutS z (some (n : Int)) none) = (cL z).drop n := by
  have zl : z.length = (cL z).length := by show z.cps.size = _; rw [cL, Array.length_toList]
  show (((cL z).drop (HT.sIx z.length 0 (some (n : Int)))).take (HT.sIx z.length z.length none - HT.sIx z.length 0 (some (n : Int)))).toArray.toList = _
  rw [HT.sIx_nat, HT.sIx_none]
  show ((cL z).drop _).take _ = _
  by_cases h : n ≤ z.length
  · rw [Nat.min_eq_left h]
    exact List.take_of_length_le (by rw [List.length_drop]; omega)
  · rw [Nat.min_eq_right (by omega), Nat.sub_self, List.take_zero, List.drop_of_length_le (by omega)]
theorem cL_len (z : Str) : z.length = (cL z).length := by show z.cps.size = _; rw [cL, Array.length_toList]
/-- what a text with one thing otherwise may be -/
structure Bnt (z y : Str) : Prop where
  len : y.length ≤ z.length + 3
  cnt : (cL y).count 40 ≤ (cL z).count 40 + 1
  low : Low z → Low y
theorem bnt_of {z y m : Str} {a b : Nat} (e : cL y = (cL z).take a ++ cL m ++ (cL z).drop b) (h : (a ≤ b ∧ m.length ≤ 3 ∧ (cL m).count 40 ≤ 1 ∧ (Low z → Low m)) ∨ (a ≤ b + 1 ∧ m.length = 0)) (ml : m.length ≤ b - a + 3 ∨ m.length = 0) : Bnt z y := by
  have hm := cL_len m
  have hz := cL_len z
  have hy := cL_len y
  have pre : ((cL z).take a).count 40 + ((cL z).drop a).count 40 = (cL z).count 40 := by rw [← List.count_append, List.take_append_drop]
  have ly := congrArg List.length e
  rw [List.length_append, List.length_append, List.length_take, List.length_drop] at ly
  have low : (Low z → Low m) → Low z → Low y := fun hl h c hc => by
    have hc : c ∈ cL y := hc
    rw [e] at hc
    rcases List.mem_append.mp hc with hc | hc
    · rcases List.mem_append.mp hc with hc | hc
      · exact h c (List.mem_of_mem_take hc)
      · exact hl h c hc
    · exact h c (List.mem_of_mem_drop hc)
  rcases h with ⟨h1, h2, h3, h4⟩ | ⟨h1, h2⟩
  · refine ⟨by omega, ?_, low h4⟩
    have d : ((cL z).drop b).count 40 ≤ ((cL z).drop a).count 40 := count_le h1
    rw [e, List.count_append, List.count_append]
    omega
  · have m0 : cL m = [] := List.eq_nil_of_length_eq_zero (by omega)
    refine ⟨by omega, ?_, low fun _ c hc => by
      have hc : c ∈ cL m := hc
      rw [m0] at hc
      cases hc⟩
    rw [e, m0, List.append_nil, List.count_append]
    by_cases hb : b < (cL z).length
    · have d : ((cL z).drop b).count 40 ≤ ((cL z).drop (b + 1)).count 40 + 1 := by
        rw [List.drop_eq_getElem_cons hb, List.count_cons]
        split <;> omega
      have d2 : ((cL z).take a).count 40 ≤ ((cL z).take (b + 1)).count 40 := by
        have : (cL z).take a = ((cL z).take (b + 1)).take a := by rw [List.take_take, Nat.min_eq_left h1]
        rw [this]
        exact (List.take_sublist _ _).count_le 40
      have p2 : ((cL z).take (b + 1)).count 40 + ((cL z).drop (b + 1)).count 40 = (cL z).count 40 := by rw [← List.count_append, List.take_append_drop]
      omega
    · rw [List.drop_of_length_le (by omega)]
      show _ + 0 ≤ _
      omega
def signsL : List Str := ["a", "z", "A", "1", "0", "(", ")", " ", "|", "*", "+", "?", "  ", " | ", "\n", "`", "{"]
theorem signs_fine {i : Nat} {v : V} (h : (signsL.map V.str)[i]? = some v) : ∃ m, v = .str m ∧ m.length ≤ 3 ∧ (cL m).count 40 ≤ 1 ∧ Low m := by
  rw [List.getElem?_map] at h
  obtain ⟨m, hm, rfl⟩ := Option.map_eq_some_iff.mp h
  have all : (signsL.all fun m => decide (m.length ≤ 3) && (decide ((cL m).count 40 ≤ 1) && (cL m).all fun c => decide (c < 128))) = true := by decide
  have := List.all_eq_true.mp all m (List.mem_of_getElem? hm)
  rw [Bool.and_eq_true, Bool.and_eq_true, decide_eq_true_eq, decide_eq_true_eq, List.all_eq_true] at this
  exact ⟨m, rfl, this.1, this.2.1, fun c hc => of_decide_eq_true (this.2.2 c hc)⟩
section
variable {P : Program} {w : World} {K : PySem.W.Frag} {mg : Str → Option Value} {base : Heap}
def spBent11 : Sp := fun vs H Q _ => ∃ (d g : Addr) (n : Int) (z : Str), vs = [.ref d, .str z] ∧ DeckAt H d g n ∧ n < 900000000 ∧ 0 < z.length ∧ z.length ≤ 5990 ∧
  ∀ y H', Bnt z y → DeckAt H' d g (n + 4) → But d g H H' → Q (.str y) H'
theorem scBe : FnScope ["_law_deck_here", "_law_line_now", "_law_way", "_law_at", "_law_far", "_law_sign"] ["_law_deck_here", "_law_line_now"] (defScope sBent) := ⟨rfl, rfl, rfl, by decide +kernel, rfl, by decide +kernel, by decide +kernel⟩
theorem ok_bent11 {f fDr fPi : Addr} {fd fdDr fdPi : FuncData} (F : Fun K "_law_bent" "_law_bent" sBent f fd) (T : Txt8 K mg)
    (GDr : FnOk P w K mg base CX0 1 fDr fdDr ["_law_deck_here", "_law_many"] spDraw) (gDr : mg "_law_draw" = some (.ref fDr)) (kDr : PySem.W.keepIn K (.ref fDr) = true) (bDr : Binds K fdDr ["_law_deck_here", "_law_many"] [])
    (GPl : FnOk P w K mg base CX0 2 fPi fdPi ["_law_deck_here", "_law_lot"] (spPickL K)) (gPi : mg "_law_pick" = some (.ref fPi)) (kPi : PySem.W.keepIn K (.ref fPi) = true) (bPi : Binds K fdPi ["_law_deck_here", "_law_lot"] []) :
    FnOk P w K mg base CX0 3 f fd ["_law_deck_here", "_law_line_now"] spBent11 := by
  refine F.ok scBe (fun vs H Q E h => ?_) (fun cdv A outer s H vs Q E hr h => ?_)
  · obtain ⟨d, g, n, z, rfl, _⟩ := h
    rfl
  · obtain ⟨d, g, n, z, rfl, D, hn, h0, h1, k⟩ := h
    have hr1 : Room 1 _ := hr.mono (by omega)
    have hr2 : Room 2 _ := hr
    have zs : z.length ≤ sizeLine := by rw [sizeLine_eq]; omega
    refine ⟨_, (pss_cons (ps_par3 (i := 2) (j := 3) (l := 4) (by rfl) scBe.nd rfl rfl rfl (by decide) (by decide) (by decide) rfl rfl rfl (pa_cons (pe_call GDr hr1 rfl gDr kDr bDr .nil pass0 (pa_cons (pv 0) (pa_cons pe_int pa_nil))) (pa_cons (pe_call GDr hr1 rfl gDr kDr bDr .nil pass0 (pa_cons (pv 0) (pa_cons (pe_callB call_len_str (by rfl) T.len PySem.boot_len (pa_cons (pv 1) pa_nil)) pa_nil))) (pa_cons (pe_call GDr hr1 rfl gDr kDr bDr .nil pass0 (pa_cons (pv 0) (pa_cons (pe_callB call_len_str (by rfl) T.len PySem.boot_len (pa_cons (pv 1) pa_nil)) pa_nil))) pa_nil))) (by rfl))
        (pss_cons (ps_set (i := 5) scBe.nd rfl (.inl rfl) (pe_call GPl hr2 rfl gPi kPi bPi .nil pass0 (pa_cons (pv 0) (pa_cons (pe_lst (pa_cons pe_str (pa_cons pe_str (pa_cons pe_str (pa_cons pe_str (pa_cons pe_str (pa_cons pe_str (pa_cons pe_str (pa_cons pe_str (pa_cons pe_str (pa_cons pe_str (pa_cons pe_str (pa_cons pe_str (pa_cons pe_str (pa_cons pe_str (pa_cons pe_str (pa_cons pe_str (pa_cons pe_str pa_nil)))))))))))))))))) pa_nil))))
        (pss_cons (ps_if (pt_cmpR op_eq (pv 2) pe_int (nomark _)) (pss_one (ps_ret (pe_op op_add_str (pe_slice sl_str (pv 1) po_none (po_some (pv 3))) (pe_slice sl_str (pv 1) (po_some (pe_op op_add (pv 3) pe_int)) po_none)))) pss_nil)
        (pss_cons (ps_if (pt_cmpR op_eq (pv 2) pe_int (nomark _)) (pss_one (ps_ret (pe_op op_add_str (pe_slice sl_str (pv 1) po_none (po_some (pe_op op_add (pv 3) pe_int))) (pe_slice sl_str (pv 1) (po_some (pv 3)) po_none)))) pss_nil)
        (pss_cons (ps_if (pt_cmpR op_eq (pv 2) pe_int (nomark _)) (pss_one (ps_ret (pe_op op_add_str (pe_op op_add_str (pe_slice sl_str (pv 1) po_none (po_some (pv 3))) (pe_ix ix_str (pv 1) (pv 4) (fun _ _ => rfl))) (pe_slice sl_str (pv 1) (po_some (pe_op op_add (pv 3) pe_int)) po_none)))) pss_nil)
        (pss_cons (ps_if (pt_cmpR op_eq (pv 2) pe_int (nomark _)) (pss_one (ps_ret (pe_slice sl_str (pv 1) po_none (po_some (pv 3))))) pss_nil)
        (pss_cons (ps_if (pt_cmpR op_eq (pv 2) pe_int (nomark _)) (pss_one (ps_ret (pe_slice sl_str (pv 1) (po_some (pv 3)) po_none))) pss_nil)
        (pss_cons (ps_if (pt_cmpR op_eq (pv 2) pe_int (nomark _)) (pss_one (ps_ret (pe_op op_add_str (pe_op op_add_str (pe_slice sl_str (pv 1) po_none (po_some (pv 3))) (pv 5)) (pe_slice sl_str (pv 1) (po_some (pv 3)) po_none)))) pss_nil)
        (pss_one (ps_ret (pe_ifExp (pt_cmpR op_eq (pv 2) pe_int (nomark _)) (pe_op op_add_str (pe_op op_add_str (pe_slice sl_str (pv 1) po_none (po_some (pv 3))) (pv 5)) (pe_slice sl_str (pv 1) (po_some (pe_op op_add (pv 3) pe_int)) po_none)) (pe_op op_add_str (pv 1) (pv 5))))))))))))), ?_⟩
    refine ⟨_, rfl, d, g, 8, n, rfl, D, by decide, by decide, by omega, fun wy H1 w0 w8 D1 B1 => ?_⟩
    refine ⟨_, rfl, _, rfl, z, rfl, zs, d, g, _, n + 1, rfl, D1, by omega, by omega, by omega, fun ra H2 a0 a1 D2 B2 => ?_⟩
    refine ⟨_, rfl, _, rfl, z, rfl, zs, d, g, _, n + 1 + 1, rfl, D2, by omega, by omega, by omega, fun rf H3 f0 f1 D3 B3 => ?_⟩
    refine ⟨_, _, _, rfl, ?_⟩
    refine ⟨_, rfl, by show 17 ≤ sizeLine; decide, fun l nl => ?_⟩
    have D4 := D3.put (o := .lst (signsL.map V.str)) nl
    have B03 := (B1.trans B2).trans B3
    have B4 := B03.put (o := .lst (signsL.map V.str)) nl
    refine ⟨d, g, l, n + 1 + 1 + 1, signsL.map V.str, rfl, D4, by omega, SqL.of upd_same, by decide, by decide, (D3.new nl).2, fun i v H5 hv D5 B5 => ?_⟩
    have B05 := B4.trans B5
    obtain ⟨m, rfl, m1, m2, m3⟩ := signs_fine hv
    obtain ⟨an, rfl⟩ : ∃ an : Nat, ra = (an : Int) := ⟨ra.toNat, by omega⟩
    obtain ⟨fn, rfl⟩ : ∃ fn : Nat, rf = (fn : Int) := ⟨rf.toNat, by omega⟩
    have fin : ∀ y, Bnt z y → Q (.str y) H5 := fun y hb => k y H5 hb (D5.up (by omega)) B05
    have zl := cL_len z
    have lt : ∀ a : Nat, (cutS z none (some (a : Int))).length ≤ 5990 := fun a => by rw [cL_len, cS_to, List.length_take]; omega
    have lf : ∀ a : Nat, (cutS z (some (a : Int)) none).length ≤ 5990 := fun a => by rw [cL_len, cS_from, List.length_drop]; omega
    refine ⟨_, rfl, rfl, _, rfl, ?_⟩
    have ea : ((an : Int) + 1) = ((an + 1 : Nat) : Int) := by omega
    have al : an < z.length := by omega
    have fl : fn < z.length := by omega
    have w5 : ∀ b y, cL y = (cL z).take an ++ cL m ++ (cL z).drop b → an ≤ b → b ≤ an + 1 → Bnt z y := fun b y e h2 h3 => bnt_of e (.inl ⟨h2, m1, m2, fun _ => m3⟩) (.inl (by omega))
    refine ite2 (fun _ => ?_) (fun _ => ?_)
    · refine ⟨_, rfl, _, rfl, _, rfl, z, rfl, zs, _, rfl, _, rfl, _, _, rfl, rfl, _, rfl, ?_⟩
      refine noPart_go ?_
      dsimp only
      rw [ea]
      refine ⟨z, rfl, zs, _, _, rfl, rfl, by rw [sizeLine_eq]; have := lt an; have := lf (an + 1); omega, fin _ ?_⟩
      exact bnt_of (m := "") (a := an) (b := an + 1) (by rw [cL_app, cS_to, cS_from, show cL "" = [] from rfl, List.append_nil]) (.inr ⟨by omega, rfl⟩) (.inr rfl)
    refine ⟨_, rfl, rfl, _, rfl, ?_⟩
    refine ite2 (fun _ => ?_) (fun _ => ?_)
    · refine ⟨_, rfl, _, rfl, _, _, rfl, rfl, _, rfl, z, rfl, zs, _, rfl, _, rfl, _, rfl, ?_⟩
      refine noPart_go ?_
      dsimp only
      rw [ea]
      refine ⟨z, rfl, zs, _, _, rfl, rfl, by rw [sizeLine_eq]; have := lt (an + 1); have := lf an; omega, fin _ ?_⟩
      exact bnt_of (m := "") (a := an + 1) (b := an) (by rw [cL_app, cS_to, cS_from, show cL "" = [] from rfl, List.append_nil]) (.inr ⟨by omega, rfl⟩) (.inr rfl)
    refine ⟨_, rfl, rfl, _, rfl, ?_⟩
    refine ite2 (fun _ => ?_) (fun _ => ?_)
    · have hv : (cL z)[fn]? = some ((cL z)[fn]'(by omega)) := List.getElem?_eq_getElem _
      generalize (cL z)[fn]'(by omega) = ch at hv
      refine ⟨_, rfl, _, rfl, _, rfl, z, rfl, zs, _, rfl, _, rfl, z, _, ch, rfl, rfl, zs, atI_nat hv, _, _, rfl, rfl, by rw [sizeLine_eq]; have := lt an; show _ + 1 ≤ _; omega, _, rfl, _, rfl, _, _, rfl, rfl, _, rfl, ?_⟩
      refine noPart_go ?_
      dsimp only
      rw [ea]
      refine ⟨z, rfl, zs, _, _, rfl, rfl, by rw [sizeLine_eq, len_app]; have := lt an; have := lf (an + 1); show _ + 1 + _ ≤ _; omega, fin _ ?_⟩
      refine bnt_of (m := sg ch) (a := an) (b := an + 1) (by rw [cL_app, cL_app, cS_to, cS_from] <;> rfl) (.inl ⟨by omega, (by decide : 1 ≤ 3), ?_, fun h c hc => ?_⟩) (.inl (by show 1 ≤ _; omega))
      · show [ch].count 40 ≤ 1
        rw [List.count_cons]
        show 0 + _ ≤ 1
        split <;> omega
      · rw [List.mem_singleton.mp hc]
        exact h ch (List.mem_of_getElem? hv)
    refine ⟨_, rfl, rfl, _, rfl, ?_⟩
    refine ite2 (fun _ => ?_) (fun _ => ?_)
    · refine ⟨_, rfl, _, rfl, _, rfl, z, rfl, zs, fin _ ?_⟩
      exact bnt_of (m := "") (a := an) (b := z.length) (by rw [cS_to, show cL "" = [] from rfl, List.append_nil, List.drop_of_length_le (by omega), List.append_nil]) (.inr ⟨by omega, rfl⟩) (.inr rfl)
    refine ⟨_, rfl, rfl, _, rfl, ?_⟩
    refine ite2 (fun _ => ?_) (fun _ => ?_)
    · refine ⟨_, rfl, _, rfl, _, rfl, ?_⟩
      refine noPart_go ?_
      refine ⟨z, rfl, zs, fin _ ?_⟩
      exact bnt_of (m := "") (a := 0) (b := an) (by rw [cS_from, show cL "" = [] from rfl, List.append_nil, List.take_zero, List.nil_append]) (.inr ⟨by omega, rfl⟩) (.inr rfl)
    refine ⟨_, rfl, rfl, _, rfl, ?_⟩
    refine ite2 (fun _ => ?_) (fun _ => ?_)
    · refine ⟨_, rfl, _, rfl, _, rfl, z, rfl, zs, _, rfl, _, _, rfl, rfl, by rw [sizeLine_eq]; have := lt an; omega, _, rfl, _, rfl, _, rfl, ?_⟩
      refine noPart_go ?_
      refine ⟨z, rfl, zs, _, _, rfl, rfl, by rw [sizeLine_eq, len_app]; have := lt an; have := lf an; omega, fin _ ?_⟩
      exact w5 an _ (by rw [cL_app, cL_app, cS_to, cS_from]) (Nat.le_refl _) (Nat.le_succ _)
    refine ⟨_, rfl, rfl, _, rfl, ?_⟩
    refine ite2 (fun _ => ?_) (fun _ => ?_)
    · refine ⟨_, rfl, _, rfl, _, rfl, z, rfl, zs, _, rfl, _, _, rfl, rfl, by rw [sizeLine_eq]; have := lt an; omega, _, rfl, _, rfl, _, _, rfl, rfl, _, rfl, ?_⟩
      refine noPart_go ?_
      dsimp only
      rw [ea]
      refine ⟨z, rfl, zs, _, _, rfl, rfl, by rw [sizeLine_eq, len_app]; have := lt an; have := lf (an + 1); omega, fin _ ?_⟩
      exact w5 (an + 1) _ (by rw [cL_app, cL_app, cS_to, cS_from]) (Nat.le_succ _) (Nat.le_refl _)
    · refine ⟨_, rfl, _, rfl, _, _, rfl, rfl, by rw [sizeLine_eq]; omega, fin _ ?_⟩
      exact bnt_of (m := m) (a := z.length) (b := z.length) (by rw [cL_app, List.take_of_length_le (by omega), List.drop_of_length_le (by omega), List.append_nil]) (.inl ⟨Nat.le_refl _, m1, m2, fun _ => m3⟩) (.inl (by omega))
end
end Vk
set_option Elab.async false
set_option linter.all false
set_option maxRecDepth 100000
set_option maxHeartbeats 4000000
namespace Vk
open PySem PySem.Spec PyProof.Rows L2 Vt PySem.Vx Vs1 ClX
/-! ## a text times a number -/
def rMulS : R2 := fun x y H Q => ∃ (z : Str) (n : Int), x = .str z ∧ y = .int n ∧ MulOk z n ∧ Q (.str (Txt.mul z n)) H
theorem op_mulS {X : Cx} : OpR X (binaryOp .Mult) rMulS := by
  intro pins s σ H x y v u Q I rx ry h
  obtain ⟨z, n, rfl, rfl, ok, q⟩ := h
  obtain ⟨t, rfl⟩ := rx
  obtain ⟨t2, rfl⟩ := ry
  exact SB.mul ok fun t' k => ⟨.str _, H, I.tok k, ⟨t', rfl⟩, q⟩
def reps (m : Nat) (l : List Nat) : List Nat := (List.replicate m l).flatten
theorem reps_succ (m : Nat) (l : List Nat) : reps (m + 1) l = l ++ reps m l := by unfold reps; rw [List.replicate_succ, List.flatten_cons]
theorem reps_last (m : Nat) (l : List Nat) : reps (m + 1) l = reps m l ++ l := by
  unfold reps
  rw [List.replicate_succ', List.flatten_append]
  simp
theorem reps_len (m : Nat) (l : List Nat) : (reps m l).length = m * l.length := by
  induction m with
  | zero => simp [reps]
  | succ m ih => rw [reps_succ, List.length_append, ih, Nat.succ_mul, Nat.add_comm]
theorem fold_cps (x : Array Nat) : ∀ (m : Nat) (a : Array Nat), ((List.replicate m x).foldl (· ++ ·) a).toList = a.toList ++ reps m x.toList
  | 0, a => by simp [reps]
  | m + 1, a => by
    rw [List.replicate_succ, List.foldl_cons, fold_cps x m, reps_succ, Array.toList_append, List.append_assoc]
theorem cL_mul (z : Str) (n : Nat) : cL (Txt.mul z (n : Int)) = reps n (cL z) := by
  unfold Txt.mul
  by_cases h0 : n = 0
  · subst h0
    rw [if_pos (by decide)]
    rfl
  · rw [if_neg (by omega)]
    by_cases h1 : ((n : Int) == 1 || z.length == 0) = true
    · rw [if_pos h1]
      rw [Bool.or_eq_true, beq_iff_eq, beq_iff_eq] at h1
      rcases h1 with h1 | h1
      · have : n = 1 := by omega
        subst this
        simp [reps]
      · have e : cL z = [] := List.eq_nil_of_length_eq_zero (by rw [← cL_len]; exact h1)
        rw [e]
        simp [reps]
    · rw [if_neg h1]
      show ((List.replicate ((n : Int).toNat) z.cps).foldl (· ++ ·) #[]).toList = _
      rw [fold_cps, Int.toNat_natCast]
      rfl
theorem mul_ok (z : Str) (n : Nat) (h : z.length * n ≤ 100000) (hz : z.length ≤ 10) (hn : n ≤ 100000) : MulOk z (n : Int) := by
  refine ⟨?_, fun _ _ => ?_, fun _ _ => ?_⟩
  · rw [Bool.or_eq_false_iff, decide_eq_false_iff_not, decide_eq_false_iff_not]
    omega
  · rename_i a b
    have a : ¬ (n : Int) < 1 := a
    rw [Int.not_lt]
    refine Int.le_ediv_of_mul_le (by omega) ?_
    have e : (z.length : Int) * (n : Int) ≤ 100000 := by
      have := Int.ofNat_le.mpr h
      rwa [Int.natCast_mul] at this
    exact Int.le_trans e (by decide)
  · rw [Int.toNat_natCast]
    exact decide_eq_false (by rw [sizeLine_eq]; omega)
/-! ## brackets that nothing closes -/
theorem run40 : ∀ (m : Nat) (ks : List (Jn × Nat)) (o : List Stp) (r : List Nat) (i : Nat), outc ⟨.part, ks, o⟩ (reps m [40] ++ r) i = outc ⟨.part, List.replicate m (.no, 0) ++ ks, o⟩ r (i + m)
  | 0, ks, o, r, i => by simp [reps]
  | m + 1, ks, o, r, i => by
    rw [reps_succ, List.append_assoc]
    show outc ⟨.part, ks, o⟩ (40 :: (reps m [40] ++ r)) i = _
    rw [outc_cons (s' := ⟨.part, (.no, 0) :: ks, o⟩) rfl, run40 m, List.replicate_succ', List.append_assoc, Nat.add_assoc, Nat.add_comm 1 m]
    rfl
theorem deep1 (n : Nat) : outc ⟨.part, [], []⟩ (reps n [40]) 0 = .inl n := by
  have := run40 n [] [] [] 0
  rw [List.append_nil] at this
  rw [this, outc_nil rfl, Nat.zero_add]
theorem deep2 (n : Nat) : outc ⟨.part, [], []⟩ (reps n [40] ++ [41]) 0 = .inl n := by
  rw [run40, outc_bad rfl, Nat.zero_add]
theorem deep_a (n : Nat) (r : List Nat) : outc ⟨.part, [], []⟩ (reps n [40] ++ 97 :: r) 0 = outc ⟨.fin, bump (List.replicate n (.no, 0)), [.lt 97]⟩ r (n + 1) := by
  rw [run40, List.append_nil, outc_cons (s' := ⟨.fin, bump (List.replicate n (.no, 0)), [.lt 97]⟩) rfl, Nat.zero_add]
theorem deep3 (n : Nat) (h : 1 ≤ n) : outc ⟨.part, [], []⟩ (reps n [40] ++ [97]) 0 = .inl (n + 1) := by
  obtain ⟨m, rfl⟩ : ∃ m, n = m + 1 := ⟨n - 1, by omega⟩
  rw [deep_a]
  exact outc_nil rfl
theorem round_b (ks : List (Jn × Nat)) (o : List Stp) (r : List Nat) (i : Nat) : outc ⟨.fin, (.no, 1) :: ks, o⟩ (32 :: 98 :: 41 :: r) i = outc ⟨.fin, bump ks, o ++ [.lt 98] ++ [.nd .row 2]⟩ r (i + 3) := by
  rw [outc_cons (s' := ⟨.fork, (.no, 1) :: ks, o⟩) rfl, outc_cons (s' := ⟨.fin, (.row, 2) :: ks, o ++ [.lt 98]⟩) rfl, outc_cons (s' := ⟨.fin, bump ks, o ++ [.lt 98] ++ [.nd .row 2]⟩) rfl]
theorem rounds_b : ∀ (m k : Nat) (o : List Stp) (r : List Nat) (i : Nat), ∃ o', outc ⟨.fin, bump (List.replicate (m + k) (.no, 0)), o⟩ (reps m [32, 98, 41] ++ r) i = outc ⟨.fin, bump (List.replicate k (.no, 0)), o'⟩ r (i + 3 * m)
  | 0, k, o, r, i => ⟨o, by simp [reps]⟩
  | m + 1, k, o, r, i => by
    obtain ⟨o', e⟩ := rounds_b m k (o ++ [.lt 98] ++ [.nd .row 2]) r (i + 3)
    refine ⟨o', ?_⟩
    rw [reps_succ, List.append_assoc, show m + 1 + k = (m + k) + 1 by omega, List.replicate_succ]
    show outc ⟨.fin, (.no, 1) :: List.replicate (m + k) (.no, 0), o⟩ (32 :: 98 :: 41 :: (reps m [32, 98, 41] ++ r)) i = _
    rw [round_b, e, show i + 3 + 3 * m = i + 3 * (m + 1) by omega]
theorem deep4 (n : Nat) : outc ⟨.part, [], []⟩ (reps n [40] ++ 97 :: (reps n [32, 98, 41] ++ [41])) 0 = .inl (4 * n + 1) := by
  rw [deep_a]
  obtain ⟨o', e⟩ := rounds_b n 0 [.lt 97] [41] (n + 1)
  rw [Nat.add_zero] at e
  rw [e, show n + 1 + 3 * n = 4 * n + 1 by omega]
  exact outc_bad rfl
theorem deep5 (n : Nat) (h : 1 ≤ n) : outc ⟨.part, [], []⟩ (reps n [40] ++ 97 :: (reps (n - 1) [32, 98, 41] ++ [32, 98])) 0 = .inl (4 * n) := by
  obtain ⟨m, rfl⟩ : ∃ m, n = m + 1 := ⟨n - 1, by omega⟩
  rw [deep_a, Nat.add_sub_cancel]
  obtain ⟨o', e⟩ := rounds_b m 1 [.lt 97] [32, 98] (m + 1 + 1)
  rw [e]
  show outc ⟨.fin, (.no, 1) :: [], o'⟩ [32, 98] _ = _
  rw [outc_cons (s' := ⟨.fork, [(.no, 1)], o'⟩) rfl, outc_cons (s' := ⟨.fin, [(.row, 2)], o' ++ [.lt 98]⟩) rfl, outc_nil rfl]
  congr 1
  omega
theorem rounds_a : ∀ (m c : Nat) (o : List Stp) (r : List Nat) (i : Nat), ∃ o' c', outc ⟨.fin, [(.row, c)], o⟩ (reps m [32, 97] ++ r) i = outc ⟨.fin, [(.row, c')], o'⟩ r (i + 2 * m)
  | 0, c, o, r, i => ⟨o, c, by simp [reps]⟩
  | m + 1, c, o, r, i => by
    obtain ⟨o', c', e⟩ := rounds_a m (c + 1) (o ++ [.lt 97]) r (i + 2)
    refine ⟨o', c', ?_⟩
    rw [reps_succ, List.append_assoc]
    show outc ⟨.fin, [(.row, c)], o⟩ (32 :: 97 :: (reps m [32, 97] ++ r)) i = _
    rw [outc_cons (s' := ⟨.part, [(.row, c)], o⟩) rfl, outc_cons (s' := ⟨.fin, [(.row, c + 1)], o ++ [.lt 97]⟩) rfl, e, show i + 2 + 2 * m = i + 2 * (m + 1) by omega]
theorem long_a (m : Nat) (r : List Nat) : ∃ o' c', outc ⟨.part, [], []⟩ (40 :: 97 :: (reps (m + 1) [32, 97] ++ r)) 0 = outc ⟨.fin, [(.row, c')], o'⟩ r (2 * m + 4) := by
  obtain ⟨o', c', e⟩ := rounds_a m 2 [.lt 97, .lt 97] r 4
  refine ⟨o', c', ?_⟩
  rw [reps_succ, List.append_assoc]
  show outc ⟨.part, [], []⟩ (40 :: 97 :: 32 :: 97 :: (reps m [32, 97] ++ r)) 0 = _
  rw [outc_cons (s' := ⟨.part, [(.no, 0)], []⟩) rfl, outc_cons (s' := ⟨.fin, [(.no, 1)], [.lt 97]⟩) rfl, outc_cons (s' := ⟨.fork, [(.no, 1)], [.lt 97]⟩) rfl, outc_cons (s' := ⟨.fin, [(.row, 2)], [.lt 97, .lt 97]⟩) rfl]
  rw [e, Nat.add_comm]
theorem long1 : outc ⟨.part, [], []⟩ (40 :: 97 :: (reps 949 [32, 97])) 0 = .inl 1900 := by
  obtain ⟨o', c', e⟩ := long_a 948 []
  rw [List.append_nil] at e
  rw [e]
  exact outc_nil rfl
theorem long2 : outc ⟨.part, [], []⟩ (40 :: 97 :: (reps 949 [32, 97] ++ [32, 124, 32, 97, 41])) 0 = .inl 1901 := by
  obtain ⟨o', c', e⟩ := long_a 948 [32, 124, 32, 97, 41]
  rw [e, outc_cons (s' := ⟨.part, [(.row, c')], o'⟩) rfl]
  exact outc_bad rfl
theorem cL_as (m : Nat) : cL (Txt.join " " (List.replicate (m + 1) ("a" : Str))) = 97 :: reps m [32, 97] := by
  show cL (Builtin.Str.glued " " (List.replicate (m + 1) ("a" : Str))) = _
  rw [StrLaws.glued_eq_join]
  induction m with
  | zero => rfl
  | succ m ih =>
    rw [List.replicate_succ, List.replicate_succ]
    show cL (("a" : Str) ++ (" " : Str) ++ Str.join " " (("a" : Str) :: List.replicate m ("a" : Str))) = _
    rw [cL_app, cL_app, ← List.replicate_succ, ih, reps_succ]
    rfl
end Vk
set_option Elab.async false
set_option linter.all false
set_option maxRecDepth 100000
set_option maxHeartbeats 4000000
namespace Vk
open PySem PySem.Spec PyProof.Rows L2 Vt PySem.Vx Vs1 ClX
abbrev sLaw : Stmt := top8 46
abbrev NL : List Str := ["_law_script", "_law_deck_here", "_law_fixed", "_law_it", "_law_many", "_law_line_now", "_law_due_here", "_law_go", "_law_again", "_law_bent_here"]
/-! ## drawn texts -/
theorem join_cnt (s : Str) (hs : (cL s).count 40 = 0) : ∀ zs : List Str, (cL (Txt.join s zs)).count 40 ≤ (zs.map fun z => (cL z).count 40).sum := by
  intro zs
  show (cL (Builtin.Str.glued s zs)).count 40 ≤ _
  rw [StrLaws.glued_eq_join]
  cases zs with
  | nil => exact Nat.zero_le _
  | cons z r =>
    have : ∀ (r : List Str) (z : Str), (cL (Str.join s (z :: r))).count 40 ≤ ((z :: r).map fun z => (cL z).count 40).sum := by
      intro r
      induction r with
      | nil => intro z; show (cL z).count 40 ≤ (cL z).count 40 + 0; exact Nat.le_refl _
      | cons y r ih =>
        intro z
        have h := ih y
        show (cL (z ++ s ++ Str.join s (y :: r))).count 40 ≤ _
        rw [cL_app, cL_app, List.count_append, List.count_append, hs, List.map_cons, List.sum_cons]
        omega
    exact this r z
theorem low_app {a b : Str} (ha : Low a) (hb : Low b) : Low (a ++ b) := fun c hc => by
  have hc : c ∈ cL (a ++ b) := hc
  rw [cL_app] at hc
  rcases List.mem_append.mp hc with h | h
  · exact ha c h
  · exact hb c h
theorem join_low {s : Str} (hs : Low s) : ∀ {zs : List Str}, (∀ z ∈ zs, Low z) → Low (Txt.join s zs) := by
  intro zs h
  have e : Txt.join s zs = Str.join s zs := by
    show Builtin.Str.glued s zs = _
    rw [StrLaws.glued_eq_join]
  rw [e]
  clear e
  cases zs with
  | nil => exact fun c hc => nomatch hc
  | cons z r =>
    induction r generalizing z with
    | nil => exact h z (List.mem_cons_self ..)
    | cons y r ih =>
      show Low (z ++ s ++ Str.join s (y :: r))
      exact low_app (low_app (h z (List.mem_cons_self ..)) hs) (ih y fun x hx => h x (List.mem_cons_of_mem _ hx))
theorem low_lit {z : Str} (h : (cL z).all (fun c => decide (c < 128)) = true) : Low z := fun c hc => of_decide_eq_true (List.all_eq_true.mp h c hc)
mutual
theorem ln_cnt : ∀ x : Xp, okX x = true → (cL (lnX x)).count 40 ≤ bX x
  | .one, _ => by decide
  | .lt c, o => by
    rw [okX, Bool.and_eq_true, decide_eq_true_eq, decide_eq_true_eq] at o
    show [c].count 40 ≤ 0
    rw [List.count_cons]
    show 0 + (if c == 40 then 1 else 0) ≤ 0
    rw [if_neg (by rw [beq_iff_eq]; omega)]
    exact Nat.le_refl _
  | .nd k ps, o => by
    rw [okX, Bool.and_eq_true] at o
    have h := lns_cnt ps o.2
    have few := okN_few o.1
    rw [lnX, bX]
    have one : (cL ((lnXs ps).headD "")).count 40 ≤ bXs ps := by
      cases ps with
      | nil => exact absurd few.2 (by decide)
      | cons x r =>
        rw [lnXs, List.map_cons, List.sum_cons] at h
        rw [lnXs]
        show (cL (lnX x)).count 40 ≤ _
        omega
    cases k with
    | row =>
      have j := join_cnt " " (by decide) (lnXs ps)
      show (cL (("(" : Str) ++ Txt.join (" " : Str) (lnXs ps) ++ (")" : Str))).count 40 ≤ _
      rw [cL_app, cL_app, List.count_append, List.count_append]
      show 1 + _ + 0 ≤ _ + 1
      omega
    | cho =>
      have j := join_cnt " | " (by decide) (lnXs ps)
      show (cL (("(" : Str) ++ Txt.join (" | " : Str) (lnXs ps) ++ (")" : Str))).count 40 ≤ _
      rw [cL_app, cL_app, List.count_append, List.count_append]
      show 1 + _ + 0 ≤ _ + 1
      omega
    | loop =>
      show (cL ((lnXs ps).headD "" ++ ("*" : Str))).count 40 ≤ _
      rw [cL_app, List.count_append]
      show _ + 0 ≤ _ + 0
      omega
    | some =>
      show (cL ((lnXs ps).headD "" ++ ("+" : Str))).count 40 ≤ _
      rw [cL_app, List.count_append]
      show _ + 0 ≤ _ + 0
      omega
    | maybe =>
      show (cL ((lnXs ps).headD "" ++ ("?" : Str))).count 40 ≤ _
      rw [cL_app, List.count_append]
      show _ + 0 ≤ _ + 0
      omega
theorem lns_cnt : ∀ ps : List Xp, okXs ps = true → ((lnXs ps).map fun z => (cL z).count 40).sum ≤ bXs ps
  | [], _ => Nat.zero_le _
  | x :: r, o => by
    rw [okXs, Bool.and_eq_true] at o
    have a := ln_cnt x o.1
    have b := lns_cnt r o.2
    rw [lnXs, List.map_cons, List.sum_cons, bXs]
    omega
end
mutual
theorem ln_low : ∀ x : Xp, okX x = true → Low (lnX x)
  | .one, _ => low_lit (by decide)
  | .lt c, o => fun d hd => by
    rw [okX, Bool.and_eq_true, decide_eq_true_eq, decide_eq_true_eq] at o
    rw [List.mem_singleton.mp hd]
    omega
  | .nd k ps, o => by
    rw [okX, Bool.and_eq_true] at o
    have h := lns_low ps o.2
    have one : Low ((lnXs ps).headD "") := by
      cases ps with
      | nil => exact fun c hc => nomatch hc
      | cons x r => exact h _ (List.mem_cons_self ..)
    rw [lnX]
    cases k with
    | row => exact low_app (low_app (low_lit (by decide)) (join_low (low_lit (by decide)) h)) (low_lit (by decide))
    | cho => exact low_app (low_app (low_lit (by decide)) (join_low (low_lit (by decide)) h)) (low_lit (by decide))
    | loop => exact low_app one (low_lit (by decide))
    | some => exact low_app one (low_lit (by decide))
    | maybe => exact low_app one (low_lit (by decide))
theorem lns_low : ∀ ps : List Xp, okXs ps = true → ∀ z ∈ lnXs ps, Low z
  | [], _, z, hz => by cases hz
  | x :: r, o, z, hz => by
    rw [okXs, Bool.and_eq_true] at o
    rw [lnXs] at hz
    rcases List.mem_cons.mp hz with e | hz
    · rw [e]
      exact ln_low x o.1
    · exact lns_low r o.2 z hz
end
theorem ln_pos {x : Xp} (o : okX x = true) : 0 < (lnX x).length := by
  cases x with
  | one => decide
  | lt c => exact Nat.lt_succ_self 0
  | nd k ps =>
    rw [lnX]
    cases k with
    | row =>
      show 0 < (("(" : Str) ++ Txt.join (" " : Str) (lnXs ps) ++ (")" : Str)).length
      rw [len_app, len_app]
      show 0 < 1 + _ + 1
      omega
    | cho =>
      show 0 < (("(" : Str) ++ Txt.join (" | " : Str) (lnXs ps) ++ (")" : Str)).length
      rw [len_app, len_app]
      show 0 < 1 + _ + 1
      omega
    | loop =>
      show 0 < ((lnXs ps).headD "" ++ ("*" : Str)).length
      rw [len_app]
      show 0 < _ + 1
      omega
    | some =>
      show 0 < ((lnXs ps).headD "" ++ ("+" : Str)).length
      rw [len_app]
      show 0 < _ + 1
      omega
    | maybe =>
      show 0 < ((lnXs ps).headD "" ++ ("?" : Str)).length
      rw [len_app]
      show 0 < _ + 1
      omega
theorem plain_str {z : Str} (l : z.length ≤ 6000) (c : (cL z).count 40 ≤ 20) (lo : Low z) : PlainIt (.str z) :=
  ⟨⟨l, c⟩, List.all_eq_true.mpr fun c hc => decide_eq_true (lo c hc), by show z.length + 1 ≤ 6010; omega, Nat.zero_le _⟩
theorem okz_abz : OkZ "abz" := by
  refine ⟨by decide, by decide, fun i c h => ?_⟩
  have all : ∀ c ∈ ("abz" : Str).cps.toList, 97 ≤ c ∧ c ≤ 122 := by decide
  exact all c (List.mem_of_getElem? (by rw [Array.getElem?_toList]; exact h))
theorem str_pos {z : Str} (h : z ≠ "") : 0 < z.length := by
  rcases Nat.eq_zero_or_pos z.length with e | e
  · exact absurd (Str.ext' (Array.eq_empty_of_size_eq_zero e)) h
  · exact e
section
variable {P : Program} {w : World} {K : PySem.W.Frag} {mg : Str → Option Value} {base : Heap}
theorem scLw : FnScope NL ["_law_script"] (defScope sLaw) := ⟨rfl, rfl, rfl, by decide +kernel, rfl, by decide +kernel, by decide +kernel⟩
def End3 (K : PySem.W.Frag) (Q : VK) (t : TS) : Prop := ∀ (x0 x2 x3 x4 x5 x6 x7 x8 x9 : Option V) (d g : Addr) (n : Int) (H : Hp), DeckAt H d g n → n ≤ 1000 →
  t { nx := fun _ H' => Q .non H', rt := Q } [x0, some (.ref d), x2, x3, x4, x5, x6, x7, x8, x9] H
theorem law_end3 {f fDr fTr fLn fBe fRt : Addr} {fdDr fdTr fdLn fdBe fdRt : FuncData} (T : Txt8 K mg)
    (GDr : FnOk P w K mg base CX0 1 fDr fdDr ["_law_deck_here", "_law_many"] spDraw) (gDr : mg "_law_draw" = some (.ref fDr)) (kDr : PySem.W.keepIn K (.ref fDr) = true) (bDr : Binds K fdDr ["_law_deck_here", "_law_many"] [])
    (GTr : FnOk P w K mg base CX0 10 fTr fdTr ["_law_deck_here", "_law_many", "_law_high", "_law_signs"] (spTree K 7)) (gTr : mg "_law_tree" = some (.ref fTr)) (kTr : PySem.W.keepIn K (.ref fTr) = true) (bTr : Binds K fdTr ["_law_deck_here", "_law_many", "_law_high", "_law_signs"] [])
    (GLn : FnOk P w K mg base CX0 9 fLn fdLn ["_law_it"] (spLine K 8)) (gLn : mg "_law_line" = some (.ref fLn)) (kLn : PySem.W.keepIn K (.ref fLn) = true) (bLn : Binds K fdLn ["_law_it"] [])
    (GBe : FnOk P w K mg base CX0 3 fBe fdBe ["_law_deck_here", "_law_line_now"] spBent11) (gBe : mg "_law_bent" = some (.ref fBe)) (kBe : PySem.W.keepIn K (.ref fBe) = true) (bBe : Binds K fdBe ["_law_deck_here", "_law_line_now"] [])
    (GRt : FnG P w K mg base CX0 45 fRt fdRt ["_law_it"] (spRight11 K)) (gRt : mg "_law_right" = some (.ref fRt)) (kRt : PySem.W.keepIn K (.ref fRt) = true) (bRt : Binds K fdRt ["_law_it"] [])
    (cdv : Value) (A : Around) (outer : List Env) (s : Shared) (H0 : Hp) (Q : VK) (E : XK) (hgd : A.guards = some []) (hr : Room 45 (A.deeper (envOfC "law" (defScope sLaw) s.heap.objs.size f cdv))) (hQ : ∀ H', Q (.bl true) H') :
    ∃ t, PSs (cxOf CX0 P w K mg base NL "law" (defScope sLaw) f cdv A outer s H0 E).nox ((defBody sLaw).drop 12) t ∧ End3 K Q t := by
  have hr1 : Room 1 _ := hr.mono (by decide)
  have hr3 : Room 3 _ := hr.mono (by decide)
  have hrL : Room 9 _ := hr.mono (by decide)
  have hrT : Room 10 _ := hr.mono (by decide)
  refine ⟨_, (pss_cons (ps_for PassesOwn.never rfl (pi_range1 (by rfl) T.rng (pa_cons pe_int pa_nil)) (pg_name (i := 7) scLw.nd rfl (.inl rfl)) (pss_cons (ps_set (i := 5) scLw.nd rfl (.inl rfl) (pe_call GLn hrL rfl gLn kLn bLn .nil pass0 (pa_cons (pe_call GTr hrT rfl gTr kTr bTr .nil pass0 (pa_cons (pv 1) (pa_cons (pe_op op_add pe_int (pe_call GDr hr1 rfl gDr kDr bDr .nil pass0 (pa_cons (pv 1) (pa_cons pe_int pa_nil)))) (pa_cons pe_int (pa_cons pe_str pa_nil))))) pa_nil)))
        (pss_one (ps_for PassesOwn.never rfl (pi_range1 (by rfl) T.rng (pa_cons pe_int pa_nil)) (pg_name (i := 8) scLw.nd rfl (.inl rfl)) (pss_cons (ps_set (i := 9) scLw.nd rfl (.inl rfl) (pe_call GBe hr3 rfl gBe kBe bBe .nil pass0 (pa_cons (pv 1) (pa_cons (pv 5) pa_nil))))
        (pss_cons (ps_if (PW.pt (pw_and (pt_cmpR op_ne (pv 9) pe_str (nomark _)) (pw_and1 (pt_cmpR op_eq (pe_call GDr hr1 rfl gDr kDr bDr .nil pass0 (pa_cons (pv 1) (pa_cons pe_int pa_nil))) pe_int (nomark _))))) (pss_one (ps_set (i := 9) scLw.nd rfl (.inl rfl) (pe_call GBe hr3 rfl gBe kBe bBe .nil pass0 (pa_cons (pv 1) (pa_cons (pv 9) pa_nil))))) pss_nil)
        (pss_one (ps_if (pt_not (pt_val (pe_callG GRt hgd hr rfl gRt kRt bRt pass0 (pa_cons (pv 9) pa_nil)))) (pss_one (ps_ret pe_bl)) pss_nil))))))))
        (pss_one (ps_ret pe_bl))), fun x0 x2 x3 x4 x5 x6 x7 x8 x9 d g n H D hn => ?_⟩
  have c6 : cost 6 ≤ 4000 := by decide
  have c6p := cost_pos 6
  refine ⟨5, rfl, by decide, by decide, for_range (lo := 0) (n := 5) (fun i σ H' => ∃ (m' : Int) (y5 y7 y8 y9 : Option V), σ = [x0, some (.ref d), x2, x3, x4, y5, x6, y7, y8, y9] ∧ DeckAt H' d g m' ∧ m' ≤ 1000 + 5000 * (i : Int))
      ⟨n, _, _, _, _, rfl, D, by omega⟩ ?_ ?_⟩
  rotate_left
  · rintro σ H' ⟨m', y5, y7, y8, y9, rfl, D', hm'⟩
    exact hQ _
  rintro i σ H2 hi ⟨m', y5, y7, y8, y9, rfl, D', hm'⟩
  refine ⟨_, rfl, _, rfl, d, g, 10, m', rfl, D', by decide, by decide, by omega, fun t H3 t0 t1 D3 B3 => ?_⟩
  obtain ⟨tn, rfl⟩ : ∃ tn : Nat, t = (tn : Int) := ⟨t.toNat, by omega⟩
  refine ⟨_, _, rfl, rfl, d, g, m' + 1, 1 + tn, 6, "abz", by rw [show ((1 + tn : Nat) : Int) = 1 + (tn : Int) from by omega] <;> rfl, D3, by omega, by omega, by decide, okz_abz, by omega, fun v x H4 okx hx hb dv D4 B4 => ?_⟩
  refine ⟨v, x, rfl, ⟨dv, okx⟩, by omega, by omega, fun H5 S5 => ?_⟩
  have D5 := D4.same S5
  have ll : (lnX x).length ≤ 5900 := Nat.le_trans (ln_len x okx) (Nat.le_trans (lb_mono hx) (by decide))
  have lc := ln_cnt x okx
  have lo := ln_low x okx
  have lp := ln_pos okx
  generalize lnX x = z at ll lc lo lp ⊢
  refine ⟨7, rfl, by decide, by decide, for_range (lo := 0) (n := 7) (fun j σ H' => ∃ (m2 : Int) (y8 y9 : Option V), σ = [x0, some (.ref d), x2, x3, x4, some (.str z), x6, some (.int (0 + (i : Int))), y8, y9] ∧ DeckAt H' d g m2 ∧ m2 ≤ m' + 1 + cost 6 + 20 * (j : Int))
      ⟨_, _, _, rfl, D5, by omega⟩ ?_ ?_⟩
  rotate_left
  · rintro σ H' ⟨m2, y8, y9, rfl, D', hm2⟩
    exact ⟨m2, _, _, _, _, rfl, D', by omega⟩
  rintro j σ H6 hj ⟨m2, y8, y9, rfl, D6, hm2⟩
  refine ⟨_, rfl, _, rfl, d, g, m2, z, rfl, D6, by omega, lp, by omega, fun y H7 by7 D7 B7 => ?_⟩
  have hy := lo
  have l7 := by7.len
  have c7 := by7.cnt
  have o7 := by7.low lo
  refine ⟨_, rfl, rfl, _, rfl, ?_⟩
  by_cases e0 : y = ""
  · rw [decide_eq_true (show V.str y = V.str "" from congrArg V.str e0)]
    refine iteF ?_
    refine iteF ?_
    refine ⟨_, rfl, .str y, .str y, rfl, .str y, plain_str (by omega) (by omega) o7, fun H8 S8 => ⟨_, rfl, ?_⟩⟩
    refine iteF ?_
    exact ⟨_, _, _, rfl, D7.same S8, by omega⟩
  · rw [decide_eq_false (fun h => e0 (V.str.inj h) : ¬ V.str y = V.str "")]
    refine iteT ?_
    refine ⟨_, rfl, d, g, 3, _, rfl, D7, by decide, by decide, by omega, fun r H8 r0 r3 D8 B8 => ?_⟩
    refine ⟨rfl, _, rfl, ?_⟩
    refine ite2 (fun _ => ?_) (fun _ => ?_)
    · refine ⟨_, rfl, _, rfl, d, g, _, y, rfl, D8, by omega, str_pos e0, by omega, fun y2 H9 by9 D9 B9 => ?_⟩
      have l9 := by9.len
      have c9 := by9.cnt
      refine ⟨_, rfl, .str y2, .str y2, rfl, .str y2, plain_str (by omega) (by omega) (by9.low o7), fun H10 S10 => ⟨_, rfl, ?_⟩⟩
      refine iteF ?_
      exact ⟨_, _, _, rfl, D9.same S10, by omega⟩
    · refine ⟨_, rfl, .str y, .str y, rfl, .str y, plain_str (by omega) (by omega) o7, fun H9 S9 => ⟨_, rfl, ?_⟩⟩
      refine iteF ?_
      exact ⟨_, _, _, rfl, D8.same S9, by omega⟩
end
end Vk
set_option Elab.async false
set_option linter.all false
set_option maxRecDepth 100000
set_option maxHeartbeats 4000000
namespace Vk
open PySem PySem.Spec PyProof.Rows L2 Vt PySem.Vx Vs1 ClX
theorem ne_told {K : PySem.W.Frag} {H : Hp} {p q : Addr} {z : Str} {b : Nat} {i : Int} {Q : VK} (t : ToldAt H p (.str z)) (hs : seenT z = .inl b) (nq : H q = none) (hi : i = (b : Int))
    (k : Q (.bl false) (upd H q (.lst [.int i, .bl true]))) : rNeD K (.ref p) (.ref q) (upd H q (.lst [.int i, .bl true])) Q := by
  subst hi
  have h := (t.same (same_up (o := .lst [.int (b : Int), .bl true]) nq)).dp (K := K)
  rw [show toldOf (.str z) = .list [.int (b : Int), .bool true] from by rw [toldOf, hs]] at h
  refine ⟨_, _, h, .lst (SqL.of upd_same) (.cons (.int _) (.cons (.bl _) .nil)), rfl, rfl, ?_⟩
  rw [show PyData.eqv (.list [.int (b : Int), .bool true]) (.list [.int (b : Int), .bool true]) = true from SeqAt.eqv_refl _ rfl]
  exact k
theorem known_bad {z : Str} {b : Nat} (l : z.length ≤ 6000) (hs : seenT z = .inl b) : KnownD (.str z) := fun y e => by
  cases e
  exact ⟨l, .inl ⟨b, hs⟩⟩
theorem cS_last (z : Str) (h : 0 < z.length) : cL (cutS z none (some (-1))) = (cL z).take (z.length - 1) := by
  show (((cL z).drop (HT.sIx z.length 0 none)).take (HT.sIx z.length z.length (some (-1)) - HT.sIx z.length 0 none)).toArray.toList = _
  rw [HT.sIx_none]
  show ((cL z).drop 0).take _ = _
  rw [List.drop_zero, Nat.sub_zero]
  have e : HT.sIx z.length z.length (some (-1)) = z.length - 1 := by
    show (if (-1 : Int) < 0 then ((-1 : Int) + (z.length : Int)).toNat else min (-1 : Int).toNat z.length) = _
    rw [if_pos (by decide)]
    omega
  rw [e]
theorem as_flat : ∀ n : Nat, (List.replicate n [V.str "a"]).flatten = (List.replicate n ("a" : Str)).map V.str
  | 0 => rfl
  | n + 1 => by
    rw [List.replicate_succ, List.flatten_cons, as_flat n, List.replicate_succ, List.map_cons]
    rfl
theorem as_len : ∀ n : Nat, ((List.replicate n ("a" : Str)).map (·.length)).sum = n
  | 0 => rfl
  | n + 1 => by
    rw [List.replicate_succ, List.map_cons, List.sum_cons, as_len n]
    show 1 + n = n + 1
    omega
section
variable {P : Program} {w : World} {K : PySem.W.Frag} {mg : Str → Option Value} {base : Heap}
def End2 (K : PySem.W.Frag) (Q : VK) (t : TS) : Prop := ∀ (x0 x2 x3 x4 x5 x6 x7 x8 x9 : Option V) (d g : Addr) (n : Int) (H : Hp), DeckAt H d g n → n ≤ 10 →
  t { nx := fun _ H' => Q .non H', rt := Q } [x0, some (.ref d), x2, x3, x4, x5, x6, x7, x8, x9] H
theorem law_end2 {f fDr fTo : Addr} {fdDr fdTo : FuncData} (T : Txt8 K mg)
    (GDr : FnOk P w K mg base CX0 1 fDr fdDr ["_law_deck_here", "_law_many"] spDraw) (gDr : mg "_law_draw" = some (.ref fDr)) (kDr : PySem.W.keepIn K (.ref fDr) = true) (bDr : Binds K fdDr ["_law_deck_here", "_law_many"] [])
    (GTo : FnOk P w K mg base CX0 6 fTo fdTo ["_law_it", "_law_is_named"] (spTold11 K)) (gTo : mg "_law_told" = some (.ref fTo)) (kTo : PySem.W.keepIn K (.ref fTo) = true) (bTo : Binds K fdTo ["_law_it", "_law_is_named"] [])
    (cdv : Value) (A : Around) (outer : List Env) (s : Shared) (H0 : Hp) (Q : VK) (E : XK) (hr : Room 45 (A.deeper (envOfC "law" (defScope sLaw) s.heap.objs.size f cdv)))
    (hEnd : ∃ t, PSs (cxOf CX0 P w K mg base NL "law" (defScope sLaw) f cdv A outer s H0 E).nox ((defBody sLaw).drop 12) t ∧ End3 K Q t) :
    ∃ t, PSs (cxOf CX0 P w K mg base NL "law" (defScope sLaw) f cdv A outer s H0 E).nox ((defBody sLaw).drop 6) t ∧ End2 K Q t := by
  have hr1 : Room 1 _ := hr.mono (by decide)
  have hr6 : Room 6 _ := hr.mono (by decide)
  obtain ⟨tC, hC, useC⟩ := hEnd
  refine ⟨_, (pss_cons (ps_set (i := 4) scLw.nd rfl (.inl rfl) (pe_op op_add pe_int (pe_call GDr hr1 rfl gDr kDr bDr .nil pass0 (pa_cons (pv 1) (pa_cons pe_int pa_nil)))))
        (pss_cons (ps_for PassesOwn.never rfl (pi_tup (pe_tup (pa_cons (pe_tup (pa_cons (pe_op op_mulS pe_str (pv 4)) (pa_cons (pv 4) pa_nil))) (pa_cons (pe_tup (pa_cons (pe_op op_add_str (pe_op op_mulS pe_str (pv 4)) pe_str) (pa_cons (pv 4) pa_nil))) (pa_cons (pe_tup (pa_cons (pe_op op_add_str (pe_op op_mulS pe_str (pv 4)) pe_str) (pa_cons (pe_op op_add (pv 4) pe_int) pa_nil))) pa_nil))))) (pg_tup rfl (pgs_cons (pg_name (i := 5) scLw.nd rfl (.inl rfl)) (pgs_cons (pg_name (i := 6) scLw.nd rfl (.inl rfl)) pgs_nil))) (pss_one (ps_if (pt_cmpR (op_neD hr.units) (pe_call GTo hr6 rfl gTo kTo bTo .nil pass0 (pa_cons (pv 5) (pa_cons pe_bl pa_nil))) (pe_lst (pa_cons (pv 6) (pa_cons pe_bl pa_nil))) (nomark _)) (pss_one (ps_ret pe_bl)) pss_nil)))
        (pss_cons (ps_set (i := 5) scLw.nd rfl (.inl rfl) (pe_op op_add_str (pe_op op_add_str (pe_op op_mulS pe_str (pv 4)) pe_str) (pe_op op_mulS pe_str (pv 4))))
        (pss_cons (ps_if (PW.pt (pw_or (pt_cmpR (op_neD hr.units) (pe_call GTo hr6 rfl gTo kTo bTo .nil pass0 (pa_cons (pe_op op_add_str (pv 5) pe_str) (pa_cons pe_bl pa_nil))) (pe_lst (pa_cons (pe_op op_add (pe_op op_mul pe_int (pv 4)) pe_int) (pa_cons pe_bl pa_nil))) (nomark _)) (pw_or1 (pt_cmpR (op_neD hr.units) (pe_call GTo hr6 rfl gTo kTo bTo .nil pass0 (pa_cons (pe_slice sl_str (pv 5) po_none (po_some (pe_un un_neg pe_int))) (pa_cons pe_bl pa_nil))) (pe_lst (pa_cons (pe_op op_mul pe_int (pv 4)) (pa_cons pe_bl pa_nil))) (nomark _))))) (pss_one (ps_ret pe_bl)) pss_nil)
        (pss_cons (ps_set (i := 5) scLw.nd rfl (.inl rfl) (pe_op op_add_str pe_str (pe_join pe_str (pe_op op_rep (pe_lstN (pa_cons pe_str pa_nil)) pe_int) (by rfl) (by rfl) (by rfl))))
        (pss_cons (ps_if (PW.pt (pw_or (pt_cmpR (op_neD hr.units) (pe_call GTo hr6 rfl gTo kTo bTo .nil pass0 (pa_cons (pv 5) (pa_cons pe_bl pa_nil))) (pe_lst (pa_cons pe_int (pa_cons pe_bl pa_nil))) (nomark _)) (pw_or1 (pt_cmpR (op_neD hr.units) (pe_call GTo hr6 rfl gTo kTo bTo .nil pass0 (pa_cons (pe_op op_add_str (pv 5) pe_str) (pa_cons pe_bl pa_nil))) (pe_lst (pa_cons pe_int (pa_cons pe_bl pa_nil))) (nomark _))))) (pss_one (ps_ret pe_bl)) pss_nil)
        hC)))))), fun x0 x2 x3 x4 x5 x6 x7 x8 x9 d g n H D hn => ?_⟩
  refine ⟨_, rfl, d, g, 200, n, rfl, D, by decide, by decide, by omega, fun r H1 r0 r1 D1 B1 => ⟨_, _, rfl, rfl, ?_⟩⟩
  obtain ⟨N, eN, N0, N1⟩ : ∃ N : Nat, 200 + r = (N : Int) ∧ 200 ≤ N ∧ N < 400 := ⟨(200 + r).toNat, by omega, by omega, by omega⟩
  dsimp only
  rw [eN]
  have m1 : MulOk "(" (N : Int) := mul_ok _ _ (by show 1 * N ≤ _; omega) (by decide) (by omega)
  have m2 : MulOk " b)" (N : Int) := mul_ok _ _ (by show 3 * N ≤ _; omega) (by decide) (by omega)
  have e1 : cL (Txt.mul "(" (N : Int)) = reps N [40] := cL_mul _ _
  have e2 : cL (Txt.mul " b)" (N : Int)) = reps N [32, 98, 41] := cL_mul _ _
  have l1 : (Txt.mul "(" (N : Int)).length = N := by rw [cL_len, e1, reps_len]; exact Nat.mul_one _
  have l2 : (Txt.mul " b)" (N : Int)).length = N * 3 := by rw [cL_len, e2, reps_len] <;> rfl
  refine ⟨_, rfl, _, _, rfl, rfl, m1, _, rfl, by show 2 ≤ sizeLine; decide, fun t1 n1 => ?_⟩
  have S1 := same_up (o := .tup [.str (Txt.mul "(" (N : Int)), .int (N : Int)]) n1
  have h1 : upd H1 t1 (.tup [.str (Txt.mul "(" (N : Int)), .int (N : Int)]) t1 = some (.tup [.str (Txt.mul "(" (N : Int)), .int (N : Int)]) := upd_same
  generalize upd H1 t1 (.tup [.str (Txt.mul "(" (N : Int)), .int (N : Int)]) = H2 at S1 h1 ⊢
  refine ⟨_, rfl, _, _, rfl, rfl, m1, _, _, rfl, rfl, by rw [l1, sizeLine_eq]; show N + 1 ≤ _; omega, _, rfl, by show 2 ≤ sizeLine; decide, fun t2 n2 => ?_⟩
  have S2 := same_up (o := .tup [.str (Txt.mul "(" (N : Int) ++ ")"), .int (N : Int)]) n2
  have h2 : upd H2 t2 (.tup [.str (Txt.mul "(" (N : Int) ++ ")"), .int (N : Int)]) t2 = some (.tup [.str (Txt.mul "(" (N : Int) ++ ")"), .int (N : Int)]) := upd_same
  generalize upd H2 t2 (.tup [.str (Txt.mul "(" (N : Int) ++ ")"), .int (N : Int)]) = H3 at S2 h2 ⊢
  refine ⟨_, rfl, _, _, rfl, rfl, m1, _, _, rfl, rfl, by rw [l1, sizeLine_eq]; show N + 1 ≤ _; omega, _, rfl, _, _, rfl, rfl, by show 2 ≤ sizeLine; decide, fun t3 n3 => ?_⟩
  have S3 := same_up (o := .tup [.str (Txt.mul "(" (N : Int) ++ "a"), .int ((N : Int) + 1)]) n3
  have h3 : upd H3 t3 (.tup [.str (Txt.mul "(" (N : Int) ++ "a"), .int ((N : Int) + 1)]) t3 = some (.tup [.str (Txt.mul "(" (N : Int) ++ "a"), .int ((N : Int) + 1)]) := upd_same
  generalize upd H3 t3 (.tup [.str (Txt.mul "(" (N : Int) ++ "a"), .int ((N : Int) + 1)]) = H4 at S3 h3 ⊢
  refine ⟨by show 3 ≤ sizeLine; decide, fun tt ntt => ?_⟩
  have S4 := same_up (o := .tup [.ref t1, .ref t2, .ref t3]) ntt
  have h4 : upd H4 tt (.tup [.ref t1, .ref t2, .ref t3]) tt = some (.tup [.ref t1, .ref t2, .ref t3]) := upd_same
  have h1' := S4 _ _ (S3 _ _ (S2 _ _ h1))
  have h2' := S4 _ _ (S3 _ _ h2)
  have h3' := S4 _ _ h3
  have D4 := (((D1.same S1).same S2).same S3).same S4
  generalize upd H4 tt (.tup [.ref t1, .ref t2, .ref t3]) = H5 at h4 h1' h2' h3' D4 ⊢
  have items : ∀ (i : Nat) (y : V), ([.ref t1, .ref t2, .ref t3] : List V)[i]? = some y → ∃ (t : Addr) (z : Str) (b : Nat) (ib : Int), y = .ref t ∧ H5 t = some (.tup [.str z, .int ib]) ∧ ib = (b : Int) ∧ z.length ≤ 6000 ∧ seenT z = .inl b := by
    intro i y hi
    rcases i with _ | _ | _ | i
    · cases hi
      exact ⟨t1, _, N, _, rfl, h1', rfl, by omega, by unfold seenT; rw [e1]; exact deep1 N⟩
    · cases hi
      exact ⟨t2, _, N, _, rfl, h2', rfl, by rw [len_app, l1]; show N + 1 ≤ _; omega, by unfold seenT; rw [cL_app, e1]; exact deep2 N⟩
    · cases hi
      exact ⟨t3, _, N + 1, _, rfl, h3', by omega, by rw [len_app, l1]; show N + 1 ≤ _; omega, by unfold seenT; rw [cL_app, e1]; exact deep3 N (by omega)⟩
    · cases hi
  refine ⟨tt, rfl, ⟨_, SqT.of h4⟩, ?_⟩
  refine for_tup (K := K) (a := tt) (xs := [.ref t1, .ref t2, .ref t3]) (fun i σ H' => ∃ (y5 y6 : Option V), σ = [x0, some (.ref d), x2, x3, some (.int (N : Int)), y5, y6, x7, x8, x9] ∧ Same H5 H') ⟨_, _, rfl, Same.refl _⟩ (fun i σ H' _ ⟨_, _, _, S⟩ => SqT.of (S _ _ h4)) ?_ ?_
  · rintro i y σ H' hi ⟨y5, y6, rfl, S⟩
    obtain ⟨t, z, b, ib, rfl, ht, eb, lz, hs⟩ := items i y hi
    refine ⟨t, _, rfl, SqT.of (S _ _ ht), rfl, _, _, rfl, _, _, rfl, rfl, ?_⟩
    refine ⟨_, rfl, .str z, false, .str z, rfl, .str z, known_bad lz hs, fun H6 p1 S6 a1 => ?_⟩
    refine ⟨_, rfl, by show 2 ≤ sizeLine; decide, fun q nq => ?_⟩
    refine ne_told a1 hs nq eb ⟨_, rfl, ?_⟩
    refine iteF ?_
    exact ⟨_, _, rfl, (S.trans S6).trans (same_up nq)⟩
  rintro σ H6 ⟨y5, y6, rfl, S6⟩
  have D6 := D4.same S6
  refine ⟨_, rfl, _, _, rfl, rfl, m1, _, _, rfl, rfl, by rw [l1, sizeLine_eq]; show N + 1 ≤ _; omega, _, rfl, _, _, rfl, rfl, m2, _, _, rfl, rfl, by rw [len_app, l1, l2, sizeLine_eq]; show N + 1 + _ ≤ _; omega, ?_⟩
  have eZ : cL (Txt.mul "(" (N : Int) ++ "a" ++ Txt.mul " b)" (N : Int)) = reps N [40] ++ 97 :: reps N [32, 98, 41] := by
    rw [cL_app, cL_app, e1, e2, List.append_assoc] <;> rfl
  have lZ : (Txt.mul "(" (N : Int) ++ "a" ++ Txt.mul " b)" (N : Int)).length = N + 1 + N * 3 := by
    rw [len_app, len_app, l1, l2] <;> rfl
  generalize Txt.mul "(" (N : Int) ++ "a" ++ Txt.mul " b)" (N : Int) = Z at eZ lZ ⊢
  have sZ : Z.length ≤ sizeLine := by rw [sizeLine_eq]; omega
  have d4 : seenT (Z ++ ")") = .inl (4 * N + 1) := by
    unfold seenT
    rw [cL_app, eZ, List.append_assoc]
    exact deep4 N
  have lW : (cutS Z none (some (-1))).length = Z.length - 1 := by rw [cL_len, cS_last Z (by omega), List.length_take, ← cL_len]; omega
  have d5 : seenT (cutS Z none (some (-1))) = .inl (4 * N) := by
    unfold seenT
    obtain ⟨M, rfl⟩ : ∃ M, N = M + 1 := ⟨N - 1, by omega⟩
    have e : reps (M + 1) [40] ++ 97 :: reps (M + 1) [32, 98, 41] = (reps (M + 1) [40] ++ 97 :: (reps M [32, 98, 41] ++ [32, 98])) ++ [41] := by
      rw [reps_last M [32, 98, 41]]
      simp
    have lz := cL_len Z
    rw [cS_last Z (by omega), lz, eZ, e, List.length_append]
    show outc _ (List.take (_ + 1 - 1) _) 0 = _
    rw [Nat.add_sub_cancel, List.take_left]
    exact deep5 (M + 1) (by omega)
  refine ⟨_, rfl, _, _, rfl, rfl, by rw [lZ, sizeLine_eq]; show N + 1 + N * 3 + 1 ≤ _; omega, .str (Z ++ ")"), true, .str (Z ++ ")"), rfl, .str _, known_bad (by rw [len_app, lZ]; show N + 1 + N * 3 + 1 ≤ _; omega) d4, fun H7 p1 S7 a1 => ?_⟩
  refine ⟨_, rfl, _, _, rfl, rfl, .inl ⟨by decide, by decide⟩, _, _, rfl, rfl, by show 2 ≤ sizeLine; decide, fun q nq => ?_⟩
  refine ne_told a1 d4 nq (by show (4 : Int) * (N : Int) + 1 = _; omega) ⟨_, rfl, ?_⟩
  refine iteF ?_
  have D7 := (D6.same S7).same (same_up (o := .lst [.int ((4 : Int) * (N : Int) + 1), .bl true]) nq)
  generalize upd H7 q (.lst [.int ((4 : Int) * (N : Int) + 1), .bl true]) = H8 at D7 ⊢
  refine ⟨_, rfl, _, rfl, _, rfl, Z, rfl, sZ, .str _, false, .str (cutS Z none (some (-1))), rfl, .str _, known_bad (by omega) d5, fun H9 p2 S9 a2 => ?_⟩
  refine ⟨_, rfl, _, _, rfl, rfl, .inl ⟨by decide, by decide⟩, by show 2 ≤ sizeLine; decide, fun q2 nq2 => ?_⟩
  refine ne_told a2 d5 nq2 (by show (4 : Int) * (N : Int) = _; omega) ⟨_, rfl, ?_⟩
  refine iteF ?_
  have D9 := (D7.same S9).same (same_up (o := .lst [.int ((4 : Int) * (N : Int)), .bl true]) nq2)
  generalize upd H9 q2 (.lst [.int ((4 : Int) * (N : Int)), .bl true]) = H10 at D9 ⊢
  refine ⟨⟨_, rfl⟩, by show 1 ≤ sizeLine; decide, fun l nl nls => ?_⟩
  have D10 := D9.put (o := .lst [.str "a"]) nl
  have hl : upd H10 l (.lst [.str "a"]) l = some (.lst [.str "a"]) := upd_same
  generalize upd H10 l (.lst [.str "a"]) = H11 at D10 hl ⊢
  refine ⟨l, 950, _, rfl, rfl, hl, by decide, by decide, by decide, fun p np => ?_⟩
  rw [show ((950 : Int)).toNat = 950 from rfl, as_flat]
  have D11 := D10.put (o := .lst ((List.replicate 950 ("a" : Str)).map V.str)) np
  have hp : upd H11 p (.lst ((List.replicate 950 ("a" : Str)).map V.str)) p = some (.lst ((List.replicate 950 ("a" : Str)).map V.str)) := upd_same
  generalize upd H11 p (.lst ((List.replicate 950 ("a" : Str)).map V.str)) = H12 at D11 hp ⊢
  have eJ := cL_as 949
  have lJ : (Txt.join " " (List.replicate (949 + 1) ("a" : Str))).length = 1899 := by
    rw [cL_len, eJ, List.length_cons, reps_len] <;> rfl
  refine ⟨_, p, _, rfl, rfl, .inl (SqL.of hp), by rw [as_len, List.length_replicate] <;> decide, ?_⟩
  rw [show (950 : Nat) = 949 + 1 from rfl]
  refine ⟨_, _, rfl, rfl, by rw [lJ]; decide, ?_⟩
  have eY : cL (("(" : Str) ++ Txt.join " " (List.replicate (949 + 1) ("a" : Str))) = 40 :: 97 :: reps 949 [32, 97] := by
    rw [cL_app, eJ] <;> rfl
  have lY : (("(" : Str) ++ Txt.join " " (List.replicate (949 + 1) ("a" : Str))).length = 1900 := by
    rw [len_app, lJ] <;> rfl
  generalize ("(" : Str) ++ Txt.join " " (List.replicate (949 + 1) ("a" : Str)) = Y at eY lY ⊢
  have d6 : seenT Y = .inl 1900 := by
    unfold seenT
    rw [eY]
    exact long1
  have d7 : seenT (Y ++ " | a)") = .inl 1901 := by
    unfold seenT
    rw [cL_app, eY]
    exact long2
  refine ⟨_, rfl, .str Y, false, .str Y, rfl, .str _, known_bad (by omega) d6, fun H13 p3 S13 a3 => ?_⟩
  refine ⟨by show 2 ≤ sizeLine; decide, fun q3 nq3 => ?_⟩
  refine ne_told a3 d6 nq3 rfl ⟨_, rfl, ?_⟩
  refine iteF ?_
  have D13 := (D11.same S13).same (same_up (o := .lst [.int 1900, .bl true]) nq3)
  generalize upd H13 q3 (.lst [.int 1900, .bl true]) = H14 at D13 ⊢
  refine ⟨_, rfl, _, _, rfl, rfl, by rw [lY] <;> decide, .str (Y ++ " | a)"), true, .str (Y ++ " | a)"), rfl, .str _, known_bad (by rw [len_app, lY] <;> decide) d7, fun H15 p4 S15 a4 => ?_⟩
  refine ⟨by show 2 ≤ sizeLine; decide, fun q4 nq4 => ?_⟩
  refine ne_told a4 d7 nq4 rfl ⟨_, rfl, ?_⟩
  refine iteF ?_
  exact useC _ _ _ _ _ _ _ _ _ d g _ _ ((D13.same S15).same (same_up (o := .lst [.int 1901, .bl true]) nq4)) (by omega)
end
end Vk
set_option Elab.async false
set_option linter.all false
set_option maxRecDepth 100000
set_option maxHeartbeats 4000000
namespace Vk
open PySem PySem.Spec PyProof.Rows L2 Vt PySem.Vx Vs1 ClX
def F1 : List Str := ["", " ", "1", "a", "11", "ab", "a b", "()", "(a)", "(a )", "(a b", "(a b)", "(a | b)", "(a |b)"]
def F2 : List Str := ["(a| b)", "(a  b)", "(a b | c)", "(a | b c)", "a*", "*", "a**+?", "(*)", "(a b)*)"]
def F3 : List Str := ["((a b) c)", "((a b))", "(a |", "(a | ", "(1 1)", "(a b)c", "A", "a ", "(a b )"]
def F4 (t0 l0 d0 : Addr) : List V := [.str "(a | b )", .non, .int 0, .bl true, .ref t0, .ref l0, .ref d0, .str "(a | | b)", .str "(| a)"]
def okS (z : Str) : Bool := decide (z.length ≤ 100) && (decide ((cL z).count 40 ≤ 20) && (cL z).all fun c => decide (c < 128))
theorem okS_plain {z : Str} (h : okS z = true) : PlainIt (.str z) := by
  unfold okS at h
  rw [Bool.and_eq_true, Bool.and_eq_true, decide_eq_true_eq, decide_eq_true_eq] at h
  exact plain_str (by omega) h.2.1 (low_lit h.2.2)
def ItOk (K : PySem.W.Frag) (H : Hp) (y : V) : Prop := ∃ d, Dr K H y d ∧ PlainIt d
theorem strs_ok {K : PySem.W.Frag} {H : Hp} {zs : List Str} (h : zs.all okS = true) : ∀ y ∈ zs.map V.str, ItOk K H y := fun y hy => by
  obtain ⟨z, hz, rfl⟩ := List.mem_map.mp hy
  exact ⟨_, .str z, okS_plain (List.all_eq_true.mp h z hz)⟩
theorem f4_ok {K : PySem.W.Frag} {H : Hp} {t0 l0 d0 : Addr} (ht : H t0 = some (.tup [])) (hl : H l0 = some (.lst [.str "a"])) (nl : l0 ≠ sysModules) (hd : H d0 = some (.dK [])) : ∀ y ∈ F4 t0 l0 d0, ItOk K H y := fun y hy => by
  unfold F4 at hy
  simp only [List.mem_cons, List.not_mem_nil, or_false] at hy
  rcases hy with rfl | rfl | rfl | rfl | rfl | rfl | rfl | rfl | rfl
  · exact ⟨_, .str _, okS_plain (by decide)⟩
  · exact ⟨_, .non, ⟨trivial, rfl, by decide, by decide⟩⟩
  · exact ⟨_, .int 0, ⟨trivial, by decide, by decide, by decide⟩⟩
  · exact ⟨_, .bl true, ⟨trivial, rfl, by decide, by decide⟩⟩
  · exact ⟨.tuple [], .tup (SqT.of ht) .nil, ⟨trivial, rfl, by decide, by decide⟩⟩
  · exact ⟨.list [.str "a"], .lst nl (SqL.of hl) (.cons (.str _) .nil), ⟨trivial, by decide, by decide, by decide⟩⟩
  · exact ⟨_, .dct (ds := []) hd .nil, ⟨trivial, rfl, by decide, by decide⟩⟩
  · exact ⟨_, .str _, okS_plain (by decide)⟩
  · exact ⟨_, .str _, okS_plain (by decide)⟩
section
variable {P : Program} {w : World} {K : PySem.W.Frag} {mg : Str → Option Value} {base : Heap}
def spLaw11 (K : PySem.W.Frag) : Sp := fun vs H Q _ => ∃ (a : Addr) (ns : List Int), vs = [.ref a] ∧ SqL K H a (ns.map V.int) ∧ ns.length ≤ 63 ∧ ∀ H', Q (.bl true) H'
theorem ok_law11 {f fDk fRt : Addr} {fd fdDk fdRt : FuncData} (F : Fun K "law" "law" sLaw f fd) (T : Txt8 K mg)
    (GDk : FnOk P w K mg base CX0 1 fDk fdDk ["_law_script"] (spDeck K)) (gDk : mg "_law_deck" = some (.ref fDk)) (kDk : PySem.W.keepIn K (.ref fDk) = true) (bDk : Binds K fdDk ["_law_script"] [])
    (GRt : FnG P w K mg base CX0 45 fRt fdRt ["_law_it"] (spRight11 K)) (gRt : mg "_law_right" = some (.ref fRt)) (kRt : PySem.W.keepIn K (.ref fRt) = true) (bRt : Binds K fdRt ["_law_it"] [])
    (hEnd : ∀ (cdv : Value) (A : Around) (outer : List Env) (s : Shared) (H0 : Hp) (Q : VK) (E : XK), A.guards = some [] → Room 45 (A.deeper (envOfC "law" (defScope sLaw) s.heap.objs.size f cdv)) → (∀ H', Q (.bl true) H') →
      ∃ t, PSs (cxOf CX0 P w K mg base NL "law" (defScope sLaw) f cdv A outer s H0 E).nox ((defBody sLaw).drop 6) t ∧ End2 K Q t) :
    FnG P w K mg base CX0 46 f fd ["_law_script"] (spLaw11 K) := by
  refine okG F scLw (fun vs H Q E h => ?_) (fun cdv A outer s H vs Q E hgd hr h => ?_)
  · obtain ⟨a, ns, rfl, _⟩ := h
    rfl
  · obtain ⟨a, ns, rfl, hS, hlen, k⟩ := h
    have hr1 : Room 1 _ := hr.mono (by decide)
    obtain ⟨tB, hB, useB⟩ := hEnd cdv A outer s H Q E hgd hr k
    refine ⟨_, (pss_cons (ps_set (i := 1) scLw.nd rfl (.inl rfl) (pe_call GDk hr1 rfl gDk kDk bDk .nil pass0 (pa_cons (pv 0) pa_nil)))
        (pss_cons (ps_set (i := 2) scLw.nd rfl (.inl rfl) (pe_lst (pa_cons pe_str (pa_cons pe_str (pa_cons pe_str (pa_cons pe_str (pa_cons pe_str (pa_cons pe_str (pa_cons pe_str (pa_cons pe_str (pa_cons pe_str (pa_cons pe_str (pa_cons pe_str (pa_cons pe_str (pa_cons pe_str (pa_cons pe_str pa_nil))))))))))))))))
        (pss_cons (ps_set (i := 2) scLw.nd rfl (.inl rfl) (pe_op op_cat (pv 2) (pe_lst (pa_cons pe_str (pa_cons pe_str (pa_cons pe_str (pa_cons pe_str (pa_cons pe_str (pa_cons pe_str (pa_cons pe_str (pa_cons pe_str (pa_cons pe_str pa_nil))))))))))))
        (pss_cons (ps_set (i := 2) scLw.nd rfl (.inl rfl) (pe_op op_cat (pv 2) (pe_lst (pa_cons pe_str (pa_cons pe_str (pa_cons pe_str (pa_cons pe_str (pa_cons pe_str (pa_cons pe_str (pa_cons pe_str (pa_cons pe_str (pa_cons pe_str pa_nil))))))))))))
        (pss_cons (ps_set (i := 2) scLw.nd rfl (.inl rfl) (pe_op op_cat (pv 2) (pe_lst (pa_cons pe_str (pa_cons pe_non (pa_cons pe_int (pa_cons pe_bl (pa_cons (pe_tup pa_nil) (pa_cons (pe_lstN (pa_cons pe_str pa_nil)) (pa_cons pe_dnewK (pa_cons pe_str (pa_cons pe_str pa_nil))))))))))))
        (pss_cons (ps_if (pt_cmpR (op_neE hr.units) (pe_lc (own := [("_law_it", 3)]) (g := (gName 3)) (by rfl) scLw.nd (pi_list (pv 2)) (blkOk_by (own := [("_law_it", 3)]) (N := ["_law_script", "_law_deck_here", "_law_fixed", "_law_it", "_law_many", "_law_line_now", "_law_due_here", "_law_go", "_law_again", "_law_bent_here"]) (sc := defScope sLaw) (by decide +kernel)) (fun _ _ _ _ _ => (pg_name (i := 3) scLw.nd rfl (.inl rfl))) (fun _ _ _ _ _ => (pts_one (pt_not (pt_val (pe_callG GRt hgd hr rfl gRt kRt bRt pass0 (pa_cons (pv 3) pa_nil)))))) (fun _ _ _ _ _ => (pv 3))) (pe_lst pa_nil) (nomark _)) (pss_one (ps_ret pe_bl)) pss_nil)
        hB)))))), ?_⟩
    refine ⟨_, rfl, a, ns, rfl, hS, hlen, fun d g H1 S1 nd ng D1 => ?_⟩
    refine ⟨by show 14 ≤ sizeLine; decide, fun p1 np1 => ?_⟩
    have T1 := same_up (o := .lst (F1.map V.str)) np1
    have h1 : upd H1 p1 (.lst (F1.map V.str)) p1 = some (.lst (F1.map V.str)) := upd_same
    change tSeq _ _ _ _ (upd H1 p1 (.lst (F1.map V.str)))
    generalize upd H1 p1 (.lst (F1.map V.str)) = H2 at T1 h1 ⊢
    refine ⟨_, rfl, by show 9 ≤ sizeLine; decide, fun p2 np2 => ?_⟩
    have T2 := same_up (o := .lst (F2.map V.str)) np2
    have h2 : upd H2 p2 (.lst (F2.map V.str)) p2 = some (.lst (F2.map V.str)) := upd_same
    refine ⟨p1, p2, _, F2.map V.str, rfl, rfl, T2 _ _ h1, h2, by decide, fun q1 nq1 => ?_⟩
    have D2 := (D1.same T1).same T2
    have D2q := D2.put (o := .lst (F1.map V.str ++ F2.map V.str)) nq1
    have g1 : upd (upd H2 p2 (.lst (F2.map V.str))) q1 (.lst (F1.map V.str ++ F2.map V.str)) q1 = some (.lst (F1.map V.str ++ F2.map V.str)) := upd_same
    change tSeq _ _ _ _ (upd (upd H2 p2 (.lst (F2.map V.str))) q1 (.lst (F1.map V.str ++ F2.map V.str)))
    generalize upd (upd H2 p2 (.lst (F2.map V.str))) q1 (.lst (F1.map V.str ++ F2.map V.str)) = H3 at D2q g1 ⊢
    refine ⟨_, rfl, by show 9 ≤ sizeLine; decide, fun p3 np3 => ?_⟩
    have T3 := same_up (o := .lst (F3.map V.str)) np3
    have h3 : upd H3 p3 (.lst (F3.map V.str)) p3 = some (.lst (F3.map V.str)) := upd_same
    refine ⟨q1, p3, _, F3.map V.str, rfl, rfl, T3 _ _ g1, h3, by decide, fun q2 nq2 => ?_⟩
    have D3q := (D2q.same T3).put (o := .lst (F1.map V.str ++ F2.map V.str ++ F3.map V.str)) nq2
    have g2 : upd (upd H3 p3 (.lst (F3.map V.str))) q2 (.lst (F1.map V.str ++ F2.map V.str ++ F3.map V.str)) q2 = some (.lst (F1.map V.str ++ F2.map V.str ++ F3.map V.str)) := upd_same
    change tSeq _ _ _ _ (upd (upd H3 p3 (.lst (F3.map V.str))) q2 (.lst (F1.map V.str ++ F2.map V.str ++ F3.map V.str)))
    generalize upd (upd H3 p3 (.lst (F3.map V.str))) q2 (.lst (F1.map V.str ++ F2.map V.str ++ F3.map V.str)) = H4 at D3q g2 ⊢
    refine ⟨_, rfl, Nat.zero_le _, fun t0 nt0 => ?_⟩
    have U1 := same_up (o := .tup []) nt0
    have ht0 : upd H4 t0 (.tup []) t0 = some (.tup []) := upd_same
    have g3 := U1 _ _ g2
    have D4 := D3q.same U1
    generalize upd H4 t0 (.tup []) = H5 at ht0 g3 D4 ⊢
    refine ⟨by show 1 ≤ sizeLine; decide, fun l0 nl0 nls => ?_⟩
    have U2 := same_up (o := .lst [.str "a"]) nl0
    have hl0 : upd H5 l0 (.lst [.str "a"]) l0 = some (.lst [.str "a"]) := upd_same
    have ht1 := U2 _ _ ht0
    have g4 := U2 _ _ g3
    have D5 := D4.same U2
    generalize upd H5 l0 (.lst [.str "a"]) = H6 at hl0 ht1 g4 D5 ⊢
    refine fun d0 nd0 => ?_
    have U3 := same_up (o := .dK []) nd0
    have hd0 : upd H6 d0 (.dK []) d0 = some (.dK []) := upd_same
    have ht2 := U3 _ _ ht1
    have hl1 := U3 _ _ hl0
    have g5 := U3 _ _ g4
    have D6 := D5.same U3
    generalize upd H6 d0 (.dK []) = H7 at hd0 ht2 hl1 g5 D6 ⊢
    refine ⟨by show 9 ≤ sizeLine; decide, fun p4 np4 => ?_⟩
    have U4 := same_up (o := .lst (F4 t0 l0 d0)) np4
    have h4 : upd H7 p4 (.lst (F4 t0 l0 d0)) p4 = some (.lst (F4 t0 l0 d0)) := upd_same
    have D7 := D6.same U4
    refine ⟨q2, p4, _, F4 t0 l0 d0, rfl, rfl, U4 _ _ g5, h4, by rw [sizeLine_eq]; show 41 ≤ _; decide, fun q3 nq3 => ?_⟩
    have U5 := same_up (H := upd H7 p4 (.lst (F4 t0 l0 d0))) (o := .lst (F1.map V.str ++ F2.map V.str ++ F3.map V.str ++ F4 t0 l0 d0)) nq3
    have D8 := D7.same U5
    have g6 : upd (upd H7 p4 (.lst (F4 t0 l0 d0))) q3 (.lst (F1.map V.str ++ F2.map V.str ++ F3.map V.str ++ F4 t0 l0 d0)) q3 = some (.lst (F1.map V.str ++ F2.map V.str ++ F3.map V.str ++ F4 t0 l0 d0)) := upd_same
    have ht3 := U5 _ _ (U4 _ _ ht2)
    have hl3 := U5 _ _ (U4 _ _ hl1)
    have hd3 := U5 _ _ (U4 _ _ hd0)
    change tSeq _ _ _ _ (upd (upd H7 p4 (.lst (F4 t0 l0 d0))) q3 (.lst (F1.map V.str ++ F2.map V.str ++ F3.map V.str ++ F4 t0 l0 d0)))
    generalize upd (upd H7 p4 (.lst (F4 t0 l0 d0))) q3 (.lst (F1.map V.str ++ F2.map V.str ++ F3.map V.str ++ F4 t0 l0 d0)) = H8 at D8 g6 ht3 hl3 hd3 ⊢
    have all : ∀ (H : Hp), Same H8 H → ∀ y ∈ F1.map V.str ++ F2.map V.str ++ F3.map V.str ++ F4 t0 l0 d0, ItOk K H y := fun H S y hy => by
      rcases List.mem_append.mp hy with hy | hy
      · rcases List.mem_append.mp hy with hy | hy
        · rcases List.mem_append.mp hy with hy | hy
          · exact strs_ok (by decide) y hy
          · exact strs_ok (by decide) y hy
        · exact strs_ok (by decide) y hy
      · exact f4_ok (S _ _ ht3) (S _ _ hl3) nls (S _ _ hd3) y hy
    have few : (F1.map V.str ++ F2.map V.str ++ F3.map V.str ++ F4 t0 l0 d0).length = 41 := rfl
    generalize F1.map V.str ++ F2.map V.str ++ F3.map V.str ++ F4 t0 l0 d0 = L at all g6 few ⊢
    refine ⟨_, rfl, q3, rfl, ⟨_, SqL.of g6⟩, fun DD nD => ?_⟩
    refine lc_list (K := K) (a := q3) (xs := L) (fun i H' => Same H8 H' ∧ H' DD = some (.lst [])) ⟨same_up nD, upd_same⟩ (fun i H' _ h => SqL.of (h.1 _ _ g6)) ?_ ?_
    · rintro i y H9 hi ⟨S, hD⟩
      obtain ⟨dd, dy, py⟩ := all H9 S y (List.mem_of_getElem? hi)
      refine ⟨rfl, ?_⟩
      refine ⟨_, rfl, y, dd, rfl, dy, py, fun H10 S10 => ⟨_, rfl, ?_⟩⟩
      refine iteF ?_
      exact ⟨S.trans S10, S10 _ _ hD⟩
    · rintro H9 ⟨S, hD⟩
      refine ⟨Nat.zero_le _, fun e ne => ?_⟩
      refine ⟨DD, e, _, rfl, rfl, SqL.of (same_up ne _ _ hD), SqL.of upd_same, _, rfl, ?_⟩
      refine iteF ?_
      exact useB _ _ _ _ _ _ _ _ _ d g 0 _ ((D8.same S).put ne) (by decide)
end
end Vk
set_option Elab.async false
set_option linter.all false
set_option maxRecDepth 100000
set_option maxHeartbeats 4000000
namespace Vk
open PySem PySem.Spec PyProof.Rows L2 Vt PySem.Vx Vs1 ClX
theorem isStr_sg (a c : Nat) (t : Tok) (h : c ≠ a) : (Value.str (sg a) t).isStr (sg c) = false := by
  show (sg a == sg c) = false
  rw [beq_eq_false_iff_ne]
  exact fun e => h (sg_inj e).symm
theorem marked_no {K : PySem.W.Frag} {aN : Addr} {h1 h2 h3 : Int} {k1 k2 k3 v1 v2 v3 : Tok} {nN : Nat}
    (l : K.lookup aN = some ⟨.type "dict", none, .dict #[⟨h1, .str "*" k1, .str "loop" v1⟩, ⟨h2, .str "+" k2, .str "some" v2⟩, ⟨h3, .str "?" k3, .str "maybe" v3⟩] nN, #[]⟩) :
    ∀ c, mkOf c = none → PySem.W.nsIn K aN (sg c) = some none := fun c hc => by
  unfold mkOf at hc
  split at hc
  · cases hc
  · rename_i a1
    split at hc
    · cases hc
    · rename_i a2
      split at hc
      · cases hc
      · rename_i a3
        unfold PySem.W.nsIn
        rw [l]
        show (match List.find? (fun e : DictEntry => e.key.isStr (sg c)) [⟨h1, .str (sg 42) k1, .str "loop" v1⟩, ⟨h2, .str (sg 43) k2, .str "some" v2⟩, ⟨h3, .str (sg 63) k3, .str "maybe" v3⟩] with | some e => some (some e.val) | none => _) = _
        rw [List.find?_cons, List.find?_cons, List.find?_cons]
        dsimp only
        rw [isStr_sg _ _ _ a1, isStr_sg _ _ _ a2, isStr_sg _ _ _ a3]
        rfl
theorem mkd_of {K : PySem.W.Frag} {aN aB : Addr} {v1 v2 v3 b1 b2 b3 : Tok} (no : ∀ c, mkOf c = none → PySem.W.nsIn K aN (sg c) = some none)
    (n1 : PySem.W.nsIn K aN "*" = some (some (.str "loop" v1))) (n2 : PySem.W.nsIn K aN "+" = some (some (.str "some" v2))) (n3 : PySem.W.nsIn K aN "?" = some (some (.str "maybe" v3)))
    (m1 : PySem.W.nsIn K aB "" = some (some (.str "fork" b1))) (m2 : PySem.W.nsIn K aB "row" = some (some (.str "part" b2))) (m3 : PySem.W.nsIn K aB "choice" = some (some (.str "bar" b3))) : Mkd K aN aB := by
  refine ⟨no, fun c k hk => ?_, fun j => ?_⟩
  · unfold mkOf at hk
    split at hk
    · rename_i e
      cases hk
      subst e
      exact ⟨_, n1, ⟨_, rfl⟩⟩
    · split at hk
      · rename_i e
        cases hk
        subst e
        exact ⟨_, n2, ⟨_, rfl⟩⟩
      · split at hk
        · rename_i e
          cases hk
          subst e
          exact ⟨_, n3, ⟨_, rfl⟩⟩
        · cases hk
  · cases j with
    | no => exact ⟨_, m1, ⟨_, rfl⟩⟩
    | row => exact ⟨_, m2, ⟨_, rfl⟩⟩
    | cho => exact ⟨_, m3, ⟨_, rfl⟩⟩
end Vk
set_option Elab.async false
set_option linter.all false
set_option maxRecDepth 100000
set_option maxHeartbeats 4000000
namespace Vk
open PySem PySem.Spec PyProof.Rows L2
theorem lawG {P : Program} {w : World} {K : PySem.W.Frag} {mg mb : Str → Option Value} {CX : CXT} {k : Nat} {fa a : Addr} {fd : FuncData} {x : Str} {sp : Sp} {s₁ : Shared} {vs : List Value} {ns : List Int}
    (kin : K.In s₁.heap) (gns : s₁.heap.Ns mainGlobals mg) (isB : s₁.heap.Ns builtinsNs mb) (bltin : ∀ x : Str, x ≠ "__name__" → mb x = bootBuiltins x) (limN : s₁.heap.NoLimit) (gens0 : s₁.gens = #[])
    (atA : s₁.heap.get? a = some { cls := .type "list", data := .seq vs.toArray }) (intsA : IntsAre vs ns) (few : ns.length ≤ sizeLine) (room : Room k callerA)
    (F : ∀ base : Heap, K.In base → base.Ns mainGlobals mg → FnG P w K mg base CX k fa fd [x] sp) (bind1 : ∀ (s : Shared) (u : Value), BindsTo s fd ⟨[u], []⟩ [(x, u)])
    (spec : ∀ H : Hp, Only H → SqL K H a (ns.map V.int) → sp [.ref a] H (fun v _ => v = .bl true) fun _ _ _ => False)
    (noX : ∀ H e s', CX [] H s₁ (fun _ _ _ => False) e s' → False) :
    codeAny (model P w) callerA (.call (.ref fa) ⟨[.ref a], []⟩) (fun r s' => r = .ok (.ret (.bool true)) ∧ OldK s₁.heap s'.heap ∧ s'.os = s₁.os ∧ AllBare s'.gens) s₁ := by
  have relV := vals_ints intsA
  have sizeV := intsA.length
  -- from an abstract heap in which nothing but the script may be tracked
  have from_ : ∀ H : Hp, Only H → SqL K H a (ns.map V.int) → HOk P w H s₁.heap → (∀ b, H b ≠ none → b = a) → (H a ≠ none → K.lookup a = none) →
      codeAny (model P w) callerA (.call (.ref fa) ⟨[.ref a], []⟩) (fun r s' => r = .ok (.ret (.bool true)) ∧ OldK s₁.heap s'.heap ∧ s'.os = s₁.os ∧ AllBare s'.gens) s₁ := by
    intro H only seqA okH onlyA notK
    have inBase : ∀ {b : Addr} {o : Obj}, s₁.heap.get? b = some o → H b = none → (hidT s₁.heap H).get? b = some o := fun e n => hidT_get e n
    have noDict : ∀ {b : Addr} {o : Obj} {es : Array DictEntry} {ep : Nat}, s₁.heap.get? b = some o → o.data = .dict es ep → H b = none := fun {b o es ep} e d => by
      cases q : H b with
      | none => rfl
      | some u =>
        have e' : b = a := onlyA b (by rw [q]; simp)
        subst e'
        rw [atA] at e; cases e
        have d' : Data.seq vs.toArray _ = Data.dict es ep := d
        cases d'
    have nsBase : ∀ {b : Addr} {m : Str → Option Value}, s₁.heap.Ns b m → (hidT s₁.heap H).Ns b m := fun {b m} ⟨o, es, ep, e, d, r⟩ => ⟨o, es, ep, inBase e (noDict e d), d, r⟩
    have kBase : K.In (hidT s₁.heap H) := fun b o e => inBase (kin b o e) (by
      cases q : H b with
      | none => rfl
      | some u =>
        have e' : b = a := onlyA b (by rw [q]; simp)
        subst e'
        rw [notK (by rw [q]; simp)] at e; cases e)
    have modB : Mod K mg (hidT s₁.heap H) := ⟨kBase, nsBase gns, ⟨mb, nsBase isB, bltin⟩, let ⟨mc, h1, h2⟩ := limN; ⟨mc, nsBase h1, h2⟩⟩
    have env0 : Env0 P w K mg (hidT s₁.heap H) callerA [] s₁ H := ⟨rfl, modB, fun b o e => of_hidT e, Nat.le_of_eq (hidT_size _ _), trivial, fun b isB => absurd (show b ∈ ([] : List Addr) from isB) (by simp), okH, .of_eq gens0⟩
    refine codeAny_mono ((F _ kBase (nsBase gns)).run callerA [] s₁ H ⟨[.ref a], []⟩ [.ref a] [.ref a] _ _ rfl room env0 (bind1 s₁ (.ref a)) (.cons rfl .nil) (spec H only seqA)) fun r s' h => ?_
    cases r with
    | error e => exact (noX H e s' h).elim
    | ok fl =>
      cases fl with
      | next => exact False.elim h
      | brk => exact False.elim h
      | cont => exact False.elim h
      | ret u =>
        obtain ⟨v, H', os, bareG, unk, hok', r', q⟩ := h
        have q' : v = .bl true := q
        subst q'
        obtain rfl : u = Value.bool true := r'
        refine ⟨rfl, OldK.of_keep fun b o e => ?_, os, bareG⟩
        cases q : H b with
        | none => exact unk.keep b o e q (by intro z; exact absurd (show b ∈ ([] : List Addr) from z) (by simp)) (by simp)
        | some u =>
          rcases only b with z | ⟨ob, xs, z⟩
          · rw [q] at z; cases z
          · have z2 := unk.frzs b ob _ z
            obtain ⟨e1, _⟩ := okH b _ z
            obtain ⟨e2, _⟩ := hok' b _ z2
            rw [e] at e1; cases e1
            exact e2
  cases lk : K.lookup a with
  | some o =>
    -- the script is one of the module's own objects
    have e := kin a o lk
    rw [atA] at e
    cases e
    refine from_ (fun _ => none) (fun _ => .inl rfl) (.inr ⟨_, vs.toArray, _, lk, rfl, rfl, rfl, by rw [List.size_toArray, sizeV]; exact few, by simpa using relV⟩) (fun b u z => by have z' : (none : Option HO) = some u := z; cases z') (fun b z => absurd rfl z) fun z => absurd rfl z
  | none =>
    refine from_ (fun b => if b = a then some (.frz { cls := .type "list", data := .seq vs.toArray } (.lst (ns.map V.int))) else none) (fun b => ?_) (.inl (.inr ⟨{ cls := .type "list", data := .seq vs.toArray }, if_pos rfl⟩)) (fun b u z => ?_) (fun b z => ?_) fun _ => lk
    · by_cases isB : b = a
      · exact .inr ⟨_, _, if_pos isB⟩
      · exact .inl (if_neg isB)
    · by_cases isB : b = a
      · have z' := (if_pos isB).symm.trans z
        cases z'
        subst isB
        exact ⟨atA, by rw [List.length_map]; exact few, vs, _, relV, atA⟩
      · have z' := (if_neg isB).symm.trans z
        cases z'
    · by_cases isB : b = a
      · exact isB
      · exact absurd (if_neg isB) z
theorem walkG {l : PySem.W.OpenLaw} {n k : Nat} {q : Program} {loose : List Str} {XP : (Str → Option Value) → Heap → Prop} {YP : World → Heap → Prop} {d : DefRec} {K : Params → PySem.W.Frag} {CX : World → CXT} {sp : World → Sp} {x : Str}
    (hn : l.most = some n) (hn2 : n ≤ sizeLine) (hdf : d.params.defaults = []) (room : Room k callerA)
    (hY : ∀ (w : World) (h : Heap), YP w h → (K w.params).In h)
    (F : ∀ (w : World) (mg : Str → Option Value) (fa : Addr) (h : Heap), (K w.params).In h → h.Ns mainGlobals mg → mg d.name = some (.ref fa) →
      ∃ fd : FuncData, (∀ (s : Shared) (u : Value), BindsTo s fd ⟨[u], []⟩ [(x, u)]) ∧
        ∀ base : Heap, (K w.params).In base → base.Ns mainGlobals mg → FnG l.prog w (K w.params) mg base (CX w) k fa fd [x] (sp w))
    (spec : ∀ (w : World) (H : Hp) (a : Addr) (ns : List Int), ns.length ≤ n → Only H → SqL (K w.params) H a (ns.map V.int) → sp w [.ref a] H (fun v _ => v = .bl true) fun _ _ _ => False)
    (noX : ∀ (w : World) (H : Hp) (s : Shared) (e : Value) (s' : Shared), CX w [] H s (fun _ _ _ => False) e s' → False) :
    PySem.W.WalkO q loose XP YP l.row.toRowW d [] (fun f vs => PySem.call f vs) := by
  refine Att.attach_call hn hdf fun w s₀ s₁ mg mb fa o pm cd doc a vs ns G Y ho hd hcd hmg hobj hints hlen gens0 => ?_
  have kin := hY w _ Y
  obtain ⟨fd, isB, hF⟩ := F w mg fa _ kin G.T.g hmg
  exact lawG kin G.T.g G.T.b G.T.builtins G.T.nolimit gens0 hobj hints (Nat.le_trans hlen hn2) room hF isB (fun H only seqA => spec w H a ns hlen only seqA) fun H e s' => noX w H s₁ e s'
end Vk
set_option Elab.async false
set_option linter.all false
set_option maxRecDepth 100000
set_option maxHeartbeats 4000000
namespace Vk
open PySem PySem.Spec PyProof.Rows L2 Vt PySem.Vx Vs1 ClX
/-- all that is looked up of a class at once -/
def clsG (fs : List Str) (K : PySem.W.Frag) (C : Addr) : Bool := PySem.W.plainGet K C Str.empty && (PySem.W.hasDictIn K C && (PySem.W.plainOver K C && (decide (PySem.W.findIn K (.ref C) "__setattr__" = some (some (.builtin "object.__setattr__"))) &&
  (decide (PySem.W.findIn K (.ref C) "__class__" = some (some (.builtin "object.__class__"))) && (decide (PySem.W.specialIn K (.builtin "object.__class__") "__get__" = some (some (.builtin "getset_descriptor.__get__"))) && (decide (PySem.W.takesIn K (.builtin "object.__class__") = some true) &&
  (decide (PySem.W.mroIn K C (.type "object") = some true) && (decide (PySem.W.kitOne K (.ref C) (.ref C) = some true) && (PySem.W.makesIn K C && (PySem.W.keepIn K (.ref C) && (PySem.W.notFirst K C (.ref C) && fs.all fun n => decide (PySem.W.findIn K (.ref C) n = some none))))))))))))
structure ClsG (fs : List Str) (K : PySem.W.Frag) (C : Addr) : Prop where
  cl : Cls K C
  ic : C8.InsC K C
  ob : PySem.W.mroIn K C (.type "object") = some true
  mks : PySem.W.makesIn K C = true
  kp : PySem.W.keepIn K (.ref C) = true
  nf : PySem.W.notFirst K C (.ref C) = true
  na : ∀ n, n ∈ fs → NoAttr K C n
theorem clsG_of {fs : List Str} {K : PySem.W.Frag} {C : Addr} (h : clsG fs K C = true) : ClsG fs K C := by
  unfold clsG at h
  simp only [Bool.and_eq_true, decide_eq_true_eq, List.all_eq_true] at h
  obtain ⟨h1, h2, h3, h4, h5, h6, h7, h8, h9, h10, h11, h12, h13⟩ := h
  have cl : Cls K C := ⟨h1, h2, h3, h4⟩
  exact ⟨cl, ⟨cl, h5, h6, h7, h8, h9⟩, h8, h10, h11, h12, h13⟩
def fieldsX : List Str := ["kind", "parts", "depth", "size", "letters"]
theorem xcls_of {K : PySem.W.Frag} {C : Addr} (g : ClsG fieldsX K C) : XCls K C :=
  ⟨g.cl, g.na _ (.head _), g.na _ (.tail _ (.head _)), g.na _ (.tail _ (.tail _ (.head _))), g.na _ (.tail _ (.tail _ (.tail _ (.head _)))), g.na _ (.tail _ (.tail _ (.tail _ (.tail _ (.head _)))))⟩

def fieldsR : List Str := ["steps", "awaited", "_kinds", "_counts"]
theorem rcls_of {K : PySem.W.Frag} {C : Addr} (g : ClsG fieldsR K C) : RCls K C :=
  ⟨g.cl, g.na _ (.head _), g.na _ (.tail _ (.head _)), g.na _ (.tail _ (.tail _ (.head _))), g.na _ (.tail _ (.tail _ (.tail _ (.head _))))⟩

theorem all8_mk {l : PySem.W.OpenLaw} {w : World} {K : PySem.W.Frag} {h : Heap} {mg : Str → Option Value} {fa C CR CT CL e0 aK aT aE aM aN aB pRd fLe fPo fPr fSo fNp fCe fDk fDr fPi fTr fLn fPt fIn fDu fTo fRt fBe fLw fSt fRI fWh fTa fBg fBu fGo fXI fRd : Addr} {u1 u2 u3 u4 u5 u6 u7 v1 v2 v3 c1 c2 c3 k1 k2 k3 b1 b2 b3 : Tok} {h1 h2 h3 : Int} {nK nT nM nE nN nB : Nat} {esM esB : Array DictEntry} (X : K.In h) (G : h.Ns mainGlobals mg) (hfa : mg "law" = some (.ref fa))
    {odK odT odE odLe anLe odPo anPo odPr anPr odSo anSo odNp anNp odCe anCe odDk anDk odDr anDr odPi anPi odTr anTr odLn anLn odPt anPt odIn anIn odDu anDu odTo anTo odRt anRt odBe anBe odLw anLw odSt anSt odRI anRI odWh anWh odTa anTa odBg anBg odBu anBu odGo anGo odXI anXI odRd anRd : Option Addr} {slK slT slE slLe slPo slPr slSo slNp slCe slDk slDr slPi slTr slLn slPt slIn slDu slTo slRt slBe slLw slSt slRI slWh slTa slBg slBu slGo slXI slRd : Array (Option Value)} {ocT ocLe kVLe dcLe pmLe cdLe ctLe ocPo kVPo dcPo pmPo cdPo ctPo ocPr kVPr dcPr pmPr cdPr ctPr ocSo kVSo dcSo pmSo cdSo ctSo ocNp kVNp dcNp pmNp cdNp ctNp ocCe kVCe dcCe pmCe cdCe ctCe ocDk kVDk dcDk pmDk cdDk ctDk ocDr kVDr dcDr pmDr cdDr ctDr ocPi kVPi dcPi pmPi cdPi ctPi ocTr kVTr dcTr pmTr cdTr ctTr ocLn kVLn dcLn pmLn cdLn ctLn ocPt kVPt dcPt pmPt cdPt ctPt ocIn kVIn dcIn pmIn cdIn ctIn ocDu kVDu dcDu pmDu cdDu ctDu ocTo kVTo dcTo pmTo cdTo ctTo ocRt kVRt dcRt pmRt cdRt ctRt ocBe kVBe dcBe pmBe cdBe ctBe ocLw kVLw dcLw pmLw cdLw ctLw ocSt kVSt dcSt pmSt cdSt ctSt ocRI kVRI dcRI pmRI cdRI ctRI ocWh kVWh dcWh pmWh cdWh ctWh ocTa kVTa dcTa pmTa cdTa ctTa ocBg kVBg dcBg pmBg cdBg ctBg ocBu kVBu dcBu pmBu cdBu ctBu ocGo kVGo dcGo pmGo cdGo ctGo ocXI kVXI dcXI pmXI cdXI ctXI ocRd kVRd dcRd pmRd cdRd ctRd : Value} {restRd : List Value}
    {xod0 xan0 : Option Addr} {xsl0 : Array (Option Value)} {xoc0 xdc0 xpm0 xcd0 xct0 : Value} {p10 p20 q10 q20 q30 q40 : Pos}
    (aX : PySem.W.nsIn K mainGlobals "Expression" = some (some (.ref C))) (hallX : clsG fieldsX K C = true)
    (aR : PySem.W.nsIn K mainGlobals "Reader" = some (some (.ref CR))) (hallR : clsG fieldsR K CR = true)
    (kCS : PySem.W.kitOne K (.ref C) (.type "str") = some false)
    (aKI : PySem.W.nsIn K mainGlobals "KINDS" = some (some (.ref aK))) (lKI : K.lookup aK = some ⟨.type "tuple", odK, .seq #[.str "one" u1, .str "letter" u2, .str "row" u3, .str "choice" u4, .str "loop" u5, .str "some" u6, .str "maybe" u7] nK, slK⟩)
    (aMK : PySem.W.nsIn K mainGlobals "MARKS" = some (some (.ref aM))) (lMK : K.lookup aM = some ⟨.type "dict", none, .dict esM nM, #[]⟩) (ltM : PySem.W.KeysLit w.params esM.toList) (loM : (aM == sysModules) = false)
    (mkR : PySem.W.nsIn K aM "row" = some none) (mkC : PySem.W.nsIn K aM "choice" = some none) (mkL : PySem.W.nsIn K aM "loop" = some (some (.str "*" v1))) (mkS : PySem.W.nsIn K aM "some" = some (some (.str "+" v2))) (mkM : PySem.W.nsIn K aM "maybe" = some (some (.str "?" v3)))
    (aND : PySem.W.nsIn K mainGlobals "MARKED" = some (some (.ref aN))) (lND : K.lookup aN = some ⟨.type "dict", none, .dict #[⟨h1, .str "*" k1, .str "loop" c1⟩, ⟨h2, .str "+" k2, .str "some" c2⟩, ⟨h3, .str "?" k3, .str "maybe" c3⟩] nN, #[]⟩) (ltN : PySem.W.KeysLit w.params (#[⟨h1, .str "*" k1, .str "loop" c1⟩, ⟨h2, .str "+" k2, .str "some" c2⟩, ⟨h3, .str "?" k3, .str "maybe" c3⟩] : Array DictEntry).toList) (loN : (aN == sysModules) = false)
    (nd1 : PySem.W.nsIn K aN "*" = some (some (.str "loop" c1))) (nd2 : PySem.W.nsIn K aN "+" = some (some (.str "some" c2))) (nd3 : PySem.W.nsIn K aN "?" = some (some (.str "maybe" c3)))
    (aBB : PySem.W.nsIn K mainGlobals "BEHIND_BLANK" = some (some (.ref aB))) (lBB : K.lookup aB = some ⟨.type "dict", none, .dict esB nB, #[]⟩) (ltB : PySem.W.KeysLit w.params esB.toList) (loB : (aB == sysModules) = false)
    (bb1 : PySem.W.nsIn K aB "" = some (some (.str "fork" b1))) (bb2 : PySem.W.nsIn K aB "row" = some (some (.str "part" b2))) (bb3 : PySem.W.nsIn K aB "choice" = some (some (.str "bar" b3)))
    (aBT : PySem.W.nsIn K mainGlobals "BadText" = some (some (.ref CT))) (hE : ecB K CT = true) (mE0 : PySem.W.exmOne K (.ref CT) (.ref CT) = some true)
    (n0 : PySem.W.findIn K (.ref CT) "place" = some none) (i0 : PySem.W.findIn K (.ref CT) "__init__" = some (some (.ref e0))) (t0 : PySem.W.typeIn K (.ref e0) = some (.type "function"))
    (x0 : K.lookup e0 = some ⟨xoc0, xod0, .func (PySem.W.fnOf "__init__" "BadText.__init__" (iA "place" p10 p20) (iB "place" q10 q20 q30 q40) (iS "place") .none .none xdc0 xpm0 xan0 xcd0 xct0), xsl0⟩) (y0 : PySem.W.codeIn K xcd0 "BadText.__init__" = true)
    (aL : PySem.W.nsIn K mainGlobals "LoopError" = some (some (.ref CL))) (kL9 : PySem.W.kitOne K (.ref CT) (.ref CL) = some true)
    (gLe : PySem.W.nsIn K mainGlobals "is_letter" = some (some (.ref fLe)))
    (lLe : K.lookup fLe = some ⟨ocLe, odLe, .func (PySem.W.fnOf "is_letter" "is_letter" (defArgs sLet) (defBody sLet) (defScope sLet) .none kVLe dcLe pmLe anLe cdLe ctLe), slLe⟩) (wLe : PySem.W.codeIn K cdLe "is_letter" = true) (kLe : PySem.W.keepIn K (.ref fLe) = true)
    (gPo : PySem.W.nsIn K mainGlobals "pieces_of" = some (some (.ref fPo)))
    (lPo : K.lookup fPo = some ⟨ocPo, odPo, .func (PySem.W.fnOf "pieces_of" "pieces_of" (defArgs sPieces) (defBody sPieces) (defScope sPieces) .none kVPo dcPo pmPo anPo cdPo ctPo), slPo⟩) (wPo : PySem.W.codeIn K cdPo "pieces_of" = true) (kPo : PySem.W.keepIn K (.ref fPo) = true)
    (gPr : PySem.W.nsIn K mainGlobals "pieces_around" = some (some (.ref fPr)))
    (lPr : K.lookup fPr = some ⟨ocPr, odPr, .func (PySem.W.fnOf "pieces_around" "pieces_around" (defArgs sAround) (defBody sAround) (defScope sAround) .none kVPr dcPr pmPr anPr cdPr ctPr), slPr⟩) (wPr : PySem.W.codeIn K cdPr "pieces_around" = true) (kPr : PySem.W.keepIn K (.ref fPr) = true)
    (gSo : PySem.W.nsIn K mainGlobals "steps_of" = some (some (.ref fSo)))
    (lSo : K.lookup fSo = some ⟨ocSo, odSo, .func (PySem.W.fnOf "steps_of" "steps_of" (defArgs sSteps) (defBody sSteps) (defScope sSteps) .none kVSo dcSo pmSo anSo cdSo ctSo), slSo⟩) (wSo : PySem.W.codeIn K cdSo "steps_of" = true) (kSo : PySem.W.keepIn K (.ref fSo) = true)
    (gNp : PySem.W.nsIn K mainGlobals "is_number_of_parts" = some (some (.ref fNp)))
    (lNp : K.lookup fNp = some ⟨ocNp, odNp, .func (PySem.W.fnOf "is_number_of_parts" "is_number_of_parts" (defArgs sXNum) (defBody sXNum) (defScope sXNum) .none kVNp dcNp pmNp anNp cdNp ctNp), slNp⟩) (wNp : PySem.W.codeIn K cdNp "is_number_of_parts" = true) (kNp : PySem.W.keepIn K (.ref fNp) = true)
    (gCe : PySem.W.nsIn K mainGlobals "check_expression" = some (some (.ref fCe)))
    (lCe : K.lookup fCe = some ⟨ocCe, odCe, .func (PySem.W.fnOf "check_expression" "check_expression" (defArgs sXCheck) (defBody sXCheck) (defScope sXCheck) .none kVCe dcCe pmCe anCe cdCe ctCe), slCe⟩) (wCe : PySem.W.codeIn K cdCe "check_expression" = true) (kCe : PySem.W.keepIn K (.ref fCe) = true)
    (gDk : PySem.W.nsIn K mainGlobals "_law_deck" = some (some (.ref fDk)))
    (lDk : K.lookup fDk = some ⟨ocDk, odDk, .func (PySem.W.fnOf "_law_deck" "_law_deck" (defArgs sDeck) (defBody sDeck) (defScope sDeck) .none kVDk dcDk pmDk anDk cdDk ctDk), slDk⟩) (wDk : PySem.W.codeIn K cdDk "_law_deck" = true) (kDk : PySem.W.keepIn K (.ref fDk) = true)
    (gDr : PySem.W.nsIn K mainGlobals "_law_draw" = some (some (.ref fDr)))
    (lDr : K.lookup fDr = some ⟨ocDr, odDr, .func (PySem.W.fnOf "_law_draw" "_law_draw" (defArgs sDraw) (defBody sDraw) (defScope sDraw) .none kVDr dcDr pmDr anDr cdDr ctDr), slDr⟩) (wDr : PySem.W.codeIn K cdDr "_law_draw" = true) (kDr : PySem.W.keepIn K (.ref fDr) = true)
    (gPi : PySem.W.nsIn K mainGlobals "_law_pick" = some (some (.ref fPi)))
    (lPi : K.lookup fPi = some ⟨ocPi, odPi, .func (PySem.W.fnOf "_law_pick" "_law_pick" (defArgs sPick) (defBody sPick) (defScope sPick) .none kVPi dcPi pmPi anPi cdPi ctPi), slPi⟩) (wPi : PySem.W.codeIn K cdPi "_law_pick" = true) (kPi : PySem.W.keepIn K (.ref fPi) = true)
    (gTr : PySem.W.nsIn K mainGlobals "_law_tree" = some (some (.ref fTr)))
    (lTr : K.lookup fTr = some ⟨ocTr, odTr, .func (PySem.W.fnOf "_law_tree" "_law_tree" (defArgs sTree) (defBody sTree) (defScope sTree) .none kVTr dcTr pmTr anTr cdTr ctTr), slTr⟩) (wTr : PySem.W.codeIn K cdTr "_law_tree" = true) (kTr : PySem.W.keepIn K (.ref fTr) = true)
    (gLn : PySem.W.nsIn K mainGlobals "_law_line" = some (some (.ref fLn)))
    (lLn : K.lookup fLn = some ⟨ocLn, odLn, .func (PySem.W.fnOf "_law_line" "_law_line" (defArgs sLine) (defBody sLine) (defScope sLine) .none kVLn dcLn pmLn anLn cdLn ctLn), slLn⟩) (wLn : PySem.W.codeIn K cdLn "_law_line" = true) (kLn : PySem.W.keepIn K (.ref fLn) = true)
    (gPt : PySem.W.nsIn K mainGlobals "_law_part" = some (some (.ref fPt)))
    (lPt : K.lookup fPt = some ⟨ocPt, odPt, .func (PySem.W.fnOf "_law_part" "_law_part" (defArgs sPart) (defBody sPart) (defScope sPart) .none kVPt dcPt pmPt anPt cdPt ctPt), slPt⟩) (wPt : PySem.W.codeIn K cdPt "_law_part" = true) (kPt : PySem.W.keepIn K (.ref fPt) = true)
    (gIn : PySem.W.nsIn K mainGlobals "_law_inner" = some (some (.ref fIn)))
    (lIn : K.lookup fIn = some ⟨ocIn, odIn, .func (PySem.W.fnOf "_law_inner" "_law_inner" (defArgs sInner) (defBody sInner) (defScope sInner) .none kVIn dcIn pmIn anIn cdIn ctIn), slIn⟩) (wIn : PySem.W.codeIn K cdIn "_law_inner" = true) (kIn : PySem.W.keepIn K (.ref fIn) = true)
    (gDu : PySem.W.nsIn K mainGlobals "_law_due" = some (some (.ref fDu)))
    (lDu : K.lookup fDu = some ⟨ocDu, odDu, .func (PySem.W.fnOf "_law_due" "_law_due" (defArgs sDue) (defBody sDue) (defScope sDue) .none kVDu dcDu pmDu anDu cdDu ctDu), slDu⟩) (wDu : PySem.W.codeIn K cdDu "_law_due" = true) (kDu : PySem.W.keepIn K (.ref fDu) = true)
    (gTo : PySem.W.nsIn K mainGlobals "_law_told" = some (some (.ref fTo)))
    (lTo : K.lookup fTo = some ⟨ocTo, odTo, .func (PySem.W.fnOf "_law_told" "_law_told" (defArgs sTold) (defBody sTold) (defScope sTold) .none kVTo dcTo pmTo anTo cdTo ctTo), slTo⟩) (wTo : PySem.W.codeIn K cdTo "_law_told" = true) (kTo : PySem.W.keepIn K (.ref fTo) = true)
    (gRt : PySem.W.nsIn K mainGlobals "_law_right" = some (some (.ref fRt)))
    (lRt : K.lookup fRt = some ⟨ocRt, odRt, .func (PySem.W.fnOf "_law_right" "_law_right" (defArgs sRight) (defBody sRight) (defScope sRight) .none kVRt dcRt pmRt anRt cdRt ctRt), slRt⟩) (wRt : PySem.W.codeIn K cdRt "_law_right" = true) (kRt : PySem.W.keepIn K (.ref fRt) = true)
    (gBe : PySem.W.nsIn K mainGlobals "_law_bent" = some (some (.ref fBe)))
    (lBe : K.lookup fBe = some ⟨ocBe, odBe, .func (PySem.W.fnOf "_law_bent" "_law_bent" (defArgs sBent) (defBody sBent) (defScope sBent) .none kVBe dcBe pmBe anBe cdBe ctBe), slBe⟩) (wBe : PySem.W.codeIn K cdBe "_law_bent" = true) (kBe : PySem.W.keepIn K (.ref fBe) = true)
    (gLw : PySem.W.nsIn K mainGlobals "law" = some (some (.ref fLw)))
    (lLw : K.lookup fLw = some ⟨ocLw, odLw, .func (PySem.W.fnOf "law" "law" (defArgs sLaw) (defBody sLaw) (defScope sLaw) .none kVLw dcLw pmLw anLw cdLw ctLw), slLw⟩) (wLw : PySem.W.codeIn K cdLw "law" = true) (kLw : PySem.W.keepIn K (.ref fLw) = true)
    (gSt : PySem.W.findIn K (.ref C) "__str__" = some (some (.ref fSt))) (iSt : PySem.W.isFn K (.ref fSt) = true)
    (lSt : K.lookup fSt = some ⟨ocSt, odSt, .func (PySem.W.fnOf "__str__" "Expression.__str__" (defArgs sXStr) (defBody sXStr) (defScope sXStr) .none kVSt dcSt pmSt anSt cdSt ctSt), slSt⟩) (wSt : PySem.W.codeIn K cdSt "Expression.__str__" = true) (kSt : PySem.W.keepIn K (.ref fSt) = true)
    (gRI : PySem.W.findIn K (.ref CR) "__init__" = some (some (.ref fRI))) (iRI : PySem.W.isFn K (.ref fRI) = true)
    (lRI : K.lookup fRI = some ⟨ocRI, odRI, .func (PySem.W.fnOf "__init__" "Reader.__init__" (defArgs sRInit) (defBody sRInit) (defScope sRInit) .none kVRI dcRI pmRI anRI cdRI ctRI), slRI⟩) (wRI : PySem.W.codeIn K cdRI "Reader.__init__" = true) (kRI : PySem.W.keepIn K (.ref fRI) = true)
    (gWh : PySem.W.findIn K (.ref CR) "is_whole" = some (some (.ref fWh))) (iWh : PySem.W.isFn K (.ref fWh) = true)
    (lWh : K.lookup fWh = some ⟨ocWh, odWh, .func (PySem.W.fnOf "is_whole" "Reader.is_whole" (defArgs sRWhole) (defBody sRWhole) (defScope sRWhole) .none kVWh dcWh pmWh anWh cdWh ctWh), slWh⟩) (wWh : PySem.W.codeIn K cdWh "Reader.is_whole" = true) (kWh : PySem.W.keepIn K (.ref fWh) = true)
    (gTa : PySem.W.findIn K (.ref CR) "take" = some (some (.ref fTa))) (iTa : PySem.W.isFn K (.ref fTa) = true)
    (lTa : K.lookup fTa = some ⟨ocTa, odTa, .func (PySem.W.fnOf "take" "Reader.take" (defArgs sRTake) (defBody sRTake) (defScope sRTake) .none kVTa dcTa pmTa anTa cdTa ctTa), slTa⟩) (wTa : PySem.W.codeIn K cdTa "Reader.take" = true) (kTa : PySem.W.keepIn K (.ref fTa) = true)
    (gBg : PySem.W.findIn K (.ref CR) "_begin" = some (some (.ref fBg))) (iBg : PySem.W.isFn K (.ref fBg) = true)
    (lBg : K.lookup fBg = some ⟨ocBg, odBg, .func (PySem.W.fnOf "_begin" "Reader._begin" (defArgs sRBegin) (defBody sRBegin) (defScope sRBegin) .none kVBg dcBg pmBg anBg cdBg ctBg), slBg⟩) (wBg : PySem.W.codeIn K cdBg "Reader._begin" = true) (kBg : PySem.W.keepIn K (.ref fBg) = true)
    (gBu : PySem.W.findIn K (.ref CR) "_build" = some (some (.ref fBu))) (iBu : PySem.W.isFn K (.ref fBu) = true)
    (lBu : K.lookup fBu = some ⟨ocBu, odBu, .func (PySem.W.fnOf "_build" "Reader._build" (defArgs sRBuild) (defBody sRBuild) (defScope sRBuild) .none kVBu dcBu pmBu anBu cdBu ctBu), slBu⟩) (wBu : PySem.W.codeIn K cdBu "Reader._build" = true) (kBu : PySem.W.keepIn K (.ref fBu) = true)
    (gGo : PySem.W.findIn K (.ref CR) "_go_on" = some (some (.ref fGo))) (iGo : PySem.W.isFn K (.ref fGo) = true)
    (lGo : K.lookup fGo = some ⟨ocGo, odGo, .func (PySem.W.fnOf "_go_on" "Reader._go_on" (defArgs sRGoOn) (defBody sRGoOn) (defScope sRGoOn) .none kVGo dcGo pmGo anGo cdGo ctGo), slGo⟩) (wGo : PySem.W.codeIn K cdGo "Reader._go_on" = true) (kGo : PySem.W.keepIn K (.ref fGo) = true)
    (gXI : PySem.W.findIn K (.ref C) "__init__" = some (some (.ref fXI))) (iXI : PySem.W.isFn K (.ref fXI) = true)
    (lXI : K.lookup fXI = some ⟨ocXI, odXI, .func (PySem.W.fnOf "__init__" "Expression.__init__" (defArgs sXInit) (defBody sXInit) (defScope sXInit) (.ref aT) kVXI dcXI pmXI anXI cdXI ctXI), slXI⟩) (wXI : PySem.W.codeIn K cdXI "Expression.__init__" = true) (kXI : PySem.W.keepIn K (.ref fXI) = true)
    (lDf : K.lookup aT = some ⟨ocT, odT, .seq #[.ref aE] nT, slT⟩) (lEm : K.lookup aE = some ⟨.type "tuple", odE, .seq #[] nE, slE⟩)
    (gRd : PySem.W.findIn K (.ref C) "read" = some (some (.ref pRd))) (rRd : PySem.W.recIn K pRd "classmethod" = some (.ref fRd :: restRd))
    (lRd : K.lookup fRd = some ⟨ocRd, odRd, .func (PySem.W.fnOf "read" "Expression.read" (defArgs sRead) (defBody sRead) (defScope sRead) .none kVRd dcRd pmRd anRd cdRd ctRd), slRd⟩) (wRd : PySem.W.codeIn K cdRd "Expression.read" = true) (kRd : PySem.W.keepIn K (.ref fRd) = true)
    (nRd : PySem.W.fnIn K fRd = true) (tRd : PySem.W.findCls K (.ref C) (.type "type") "read" = some (.get (.builtin "classmethod.__get__") (.ref pRd) .none (.ref C))) (dRd : PySem.W.readsIn K C (.type "type") = true) (sRd : PySem.W.specialIn K (.ref C) "__getattribute__" = some (some (.builtin "type.__getattribute__")))
    (zisi : PySem.W.nsIn K mainGlobals "isinstance" = some none)
    (zint : PySem.W.nsIn K mainGlobals "int" = some none)
    (zbool : PySem.W.nsIn K mainGlobals "bool" = some none)
    (zstr : PySem.W.nsIn K mainGlobals "str" = some none)
    (ztup : PySem.W.nsIn K mainGlobals "tuple" = some none)
    (zlen : PySem.W.nsIn K mainGlobals "len" = some none)
    (zlst : PySem.W.nsIn K mainGlobals "list" = some none)
    (zsrt : PySem.W.nsIn K mainGlobals "sorted" = some none)
    (zset : PySem.W.nsIn K mainGlobals "set" = some none)
    (zrng : PySem.W.nsIn K mainGlobals "range" = some none)
    (zrepr : PySem.W.nsIn K mainGlobals "repr" = some none)
    (zenum : PySem.W.nsIn K mainGlobals "enumerate" = some none)
    (zmax : PySem.W.nsIn K mainGlobals "max" = some none)
    (zsum : PySem.W.nsIn K mainGlobals "sum" = some none)
    : ∃ fd : FuncData, (∀ (s : Shared) (v : Value), BindsTo s fd ⟨[v], []⟩ [("_law_script", v)]) ∧ ∀ base : Heap, K.In base → base.Ns mainGlobals mg → FnG l.prog w K mg base CX0 46 fa fd ["_law_script"] (spLaw11 K) := by
  have e := hfa.symm.trans (PySem.W.mg_of X G gLw)
  cases e
  have g8 := clsG_of hallX
  have M := xcls_of g8
  have gR8 := clsG_of hallR
  have MR := rcls_of gR8
  have T : Txt8 K mg := ⟨PySem.W.mg_none_of X G zisi, PySem.W.mg_none_of X G zint, PySem.W.mg_none_of X G zbool, PySem.W.mg_none_of X G zstr, PySem.W.mg_none_of X G ztup, PySem.W.mg_none_of X G zlen, PySem.W.mg_none_of X G zlst, PySem.W.mg_none_of X G zsrt, PySem.W.mg_none_of X G zset, PySem.W.mg_none_of X G zrng⟩
  have gX := PySem.W.mg_of X G aX
  have gRR := PySem.W.mg_of X G aR
  have gE := PySem.W.mg_of X G aBT
  have TK := ecK_of hE
  have gLE := PySem.W.mg_of X G aL
  have gKI := PySem.W.mg_of X G aKI
  have gMk := PySem.W.mg_of X G aMK
  have gNd := PySem.W.mg_of X G aND
  have gBb := PySem.W.mg_of X G aBB
  have TU : EcI K CT e0 "place" := ⟨n0, i0, t0, by decide, by decide, ⟨_, _, _, _, _, _, _, _, _, _, _, _, _, _, _, x0, y0⟩, fun _ _ _ _ _ _ _ _ _ _ _ _ _ _ => rfl, fun _ _ _ _ _ _ _ _ _ _ _ _ _ _ => rfl⟩
  have FLe := fun_mk (st := sLet) lLe wLe kLe
  have BLe := FLe.binds (ps := ["thing"]) fun _ _ _ _ _ _ us hl => match us, hl with | [_], _ => rfl
  have mLe := PySem.W.mg_of X G gLe
  have FPo := fun_mk (st := sPieces) lPo wPo kPo
  have BPo := FPo.binds (ps := ["expression"]) fun _ _ _ _ _ _ us hl => match us, hl with | [_], _ => rfl
  have mPo := PySem.W.mg_of X G gPo
  have FPr := fun_mk (st := sAround) lPr wPr kPr
  have BPr := FPr.binds (ps := ["expression"]) fun _ _ _ _ _ _ us hl => match us, hl with | [_], _ => rfl
  have mPr := PySem.W.mg_of X G gPr
  have FSo := fun_mk (st := sSteps) lSo wSo kSo
  have BSo := FSo.binds (ps := ["text"]) fun _ _ _ _ _ _ us hl => match us, hl with | [_], _ => rfl
  have mSo := PySem.W.mg_of X G gSo
  have FNp := fun_mk (st := sXNum) lNp wNp kNp
  have BNp := FNp.binds (ps := ["kind", "many"]) fun _ _ _ _ _ _ us hl => match us, hl with | [_, _], _ => rfl
  have mNp := PySem.W.mg_of X G gNp
  have FCe := fun_mk (st := sXCheck) lCe wCe kCe
  have BCe := FCe.binds (ps := ["kind", "parts"]) fun _ _ _ _ _ _ us hl => match us, hl with | [_, _], _ => rfl
  have mCe := PySem.W.mg_of X G gCe
  have FDk := fun_mk (st := sDeck) lDk wDk kDk
  have BDk := FDk.binds (ps := ["_law_script"]) fun _ _ _ _ _ _ us hl => match us, hl with | [_], _ => rfl
  have mDk := PySem.W.mg_of X G gDk
  have FDr := fun_mk (st := sDraw) lDr wDr kDr
  have BDr := FDr.binds (ps := ["_law_deck_here", "_law_many"]) fun _ _ _ _ _ _ us hl => match us, hl with | [_, _], _ => rfl
  have mDr := PySem.W.mg_of X G gDr
  have FPi := fun_mk (st := sPick) lPi wPi kPi
  have BPi := FPi.binds (ps := ["_law_deck_here", "_law_lot"]) fun _ _ _ _ _ _ us hl => match us, hl with | [_, _], _ => rfl
  have mPi := PySem.W.mg_of X G gPi
  have FTr := fun_mk (st := sTree) lTr wTr kTr
  have BTr := FTr.binds (ps := ["_law_deck_here", "_law_many", "_law_high", "_law_signs"]) fun _ _ _ _ _ _ us hl => match us, hl with | [_, _, _, _], _ => rfl
  have mTr := PySem.W.mg_of X G gTr
  have FLn := fun_mk (st := sLine) lLn wLn kLn
  have BLn := FLn.binds (ps := ["_law_it"]) fun _ _ _ _ _ _ us hl => match us, hl with | [_], _ => rfl
  have mLn := PySem.W.mg_of X G gLn
  have FPt := fun_mk (st := sPart) lPt wPt kPt
  have BPt := FPt.binds (ps := ["_law_line_now", "_law_at"]) fun _ _ _ _ _ _ us hl => match us, hl with | [_, _], _ => rfl
  have mPt := PySem.W.mg_of X G gPt
  have FIn := fun_mk (st := sInner) lIn wIn kIn
  have BIn := FIn.binds (ps := ["_law_line_now", "_law_at"]) fun _ _ _ _ _ _ us hl => match us, hl with | [_, _], _ => rfl
  have mIn := PySem.W.mg_of X G gIn
  have FDu := fun_mk (st := sDue) lDu wDu kDu
  have BDu := FDu.binds (ps := ["_law_it"]) fun _ _ _ _ _ _ us hl => match us, hl with | [_], _ => rfl
  have mDu := PySem.W.mg_of X G gDu
  have FTo := fun_mk (st := sTold) lTo wTo kTo
  have BTo := FTo.binds (ps := ["_law_it", "_law_is_named"]) fun _ _ _ _ _ _ us hl => match us, hl with | [_, _], _ => rfl
  have mTo := PySem.W.mg_of X G gTo
  have FRt := fun_mk (st := sRight) lRt wRt kRt
  have BRt := FRt.binds (ps := ["_law_it"]) fun _ _ _ _ _ _ us hl => match us, hl with | [_], _ => rfl
  have mRt := PySem.W.mg_of X G gRt
  have FBe := fun_mk (st := sBent) lBe wBe kBe
  have BBe := FBe.binds (ps := ["_law_deck_here", "_law_line_now"]) fun _ _ _ _ _ _ us hl => match us, hl with | [_, _], _ => rfl
  have mBe := PySem.W.mg_of X G gBe
  have FLw := fun_mk (st := sLaw) lLw wLw kLw
  have mLw := PySem.W.mg_of X G gLw
  have FSt := fun_mk (st := sXStr) lSt wSt kSt
  have BSt := FSt.binds (ps := ["self"]) fun _ _ _ _ _ _ us hl => match us, hl with | [_], _ => rfl
  have FRI := fun_mk (st := sRInit) lRI wRI kRI
  have BRI := FRI.binds (ps := ["self"]) fun _ _ _ _ _ _ us hl => match us, hl with | [_], _ => rfl
  have FWh := fun_mk (st := sRWhole) lWh wWh kWh
  have BWh := FWh.binds (ps := ["self"]) fun _ _ _ _ _ _ us hl => match us, hl with | [_], _ => rfl
  have MWh : Meth K CR "is_whole" fWh := ⟨gWh, iWh, kWh⟩
  have FTa := fun_mk (st := sRTake) lTa wTa kTa
  have BTa := FTa.binds (ps := ["self", "sign"]) fun _ _ _ _ _ _ us hl => match us, hl with | [_, _], _ => rfl
  have MTa : Meth K CR "take" fTa := ⟨gTa, iTa, kTa⟩
  have FBg := fun_mk (st := sRBegin) lBg wBg kBg
  have BBg := FBg.binds (ps := ["self", "sign"]) fun _ _ _ _ _ _ us hl => match us, hl with | [_, _], _ => rfl
  have MBg : Meth K CR "_begin" fBg := ⟨gBg, iBg, kBg⟩
  have FBu := fun_mk (st := sRBuild) lBu wBu kBu
  have BBu := FBu.binds (ps := ["self", "kind", "told"]) fun _ _ _ _ _ _ us hl => match us, hl with | [_, _, _], _ => rfl
  have MBu : Meth K CR "_build" fBu := ⟨gBu, iBu, kBu⟩
  have FGo := fun_mk (st := sRGoOn) lGo wGo kGo
  have BGo := FGo.binds (ps := ["self", "sign"]) fun _ _ _ _ _ _ us hl => match us, hl with | [_, _], _ => rfl
  have MGo : Meth K CR "_go_on" fGo := ⟨gGo, iGo, kGo⟩
  have FRd := fun_mk (st := sRead) lRd wRd kRd
  have BRd := FRd.binds (ps := ["cls", "text"]) fun _ _ _ _ _ _ us hl => match us, hl with | [_, _], _ => rfl
  have BKRd : KBinds K _ ["cls", "text"] ["text"] Vk.gC Vk.gC := kw_binds2 (p0 := "cls") (p := "text") FRd fun _ _ _ _ _ _ c u => rfl
  have RC : CRead K C (.type "type") := ⟨dRd, sRd⟩
  have CM : CMet K C (.type "type") "read" pRd fRd := ⟨tRd, ⟨_, rRd⟩, nRd⟩
  have FXI : FunD K "__init__" "Expression.__init__" (defArgs sXInit) (defBody sXInit) (defScope sXInit) [.ref aE] [] fXI _ := ⟨⟨_, _, _, _, _, _, _, _, _, _, rfl, lXI, wXI, .inr ⟨by simp, aT, _, [.ref aE], _, rfl, lDf, rfl, .cons rfl .nil⟩, .inl rfl⟩, kXI⟩
  obtain ⟨dsX, hdX, BXI⟩ := FXI.binds1 (ps := ["self", "kind", "parts"]) 3 1 (by simp) rfl fun _ _ _ _ _ _ _ us its h1 h2 => match us, its, h1, h2 with | [_, _, _], [_], _, _ => ⟨_, rfl, rfl⟩
  cases hdX
  have hKI : ∀ H : Hp, SqT K H aK [.str "one", .str "letter", .str "row", .str "choice", .str "loop", .str "some", .str "maybe"] := fun H => .inr ⟨_, _, _, lKI, rfl, rfl, by show 7 ≤ sizeLine; decide, .cons ⟨_, rfl⟩ (.cons ⟨_, rfl⟩ (.cons ⟨_, rfl⟩ (.cons ⟨_, rfl⟩ (.cons ⟨_, rfl⟩ (.cons ⟨_, rfl⟩ (.cons ⟨_, rfl⟩ .nil))))))⟩
  have MKX : L2.Mk K C fXI := ⟨g8.mks, gXI, iXI, g8.kp⟩
  have MKR : L2.Mk K CR fRI := ⟨gR8.mks, gRI, iRI, gR8.kp⟩
  have DM : KDict K w aM esM nM := ⟨lMK, ltM, loM⟩
  have DN : KDict K w aN _ nN := ⟨lND, ltN, loN⟩
  have DB : KDict K w aB esB nB := ⟨lBB, ltB, loB⟩
  have MKs : Marks K aM := ⟨mkR, mkC, ⟨_, mkL, ⟨_, rfl⟩⟩, ⟨_, mkS, ⟨_, rfl⟩⟩, ⟨_, mkM, ⟨_, rfl⟩⟩⟩
  have MD : Mkd K aN aB := mkd_of (marked_no lND) nd1 nd2 nd3 bb1 bb2 bb3
  have menum := PySem.W.mg_none_of X G zenum
  have mrepr := PySem.W.mg_none_of X G zrepr
  refine ⟨PySem.W.fnOf "law" "law" (defArgs sLaw) (defBody sLaw) (defScope sLaw) .none kVLw dcLw pmLw anLw cdLw ctLw, fun s v => .of_eq rfl, fun base _ _ => ?_⟩
  have GDk := ok_deck (P := l.prog) (w := w) (mg := mg) (base := base) FDk T.int T.lst
  have GDr := ok_draw (P := l.prog) (w := w) (mg := mg) (base := base) FDr T.int
  have GPs := ok_pickS FPi FDr mDr BDr GDr T.len
  have GPl := ok_pickL FPi FDr mDr BDr GDr T.len
  have GTr := ok_tree FTr T GDr mDr kDr BDr GPs mPi kPi BPi mTr kTr BTr 7
  have GLn := ok_line (P := l.prog) (w := w) (mg := mg) (base := base) FLn T mLn kLn BLn 8
  have GPt := ok_part (P := l.prog) (w := w) (mg := mg) (base := base) FPt FIn T mIn kIn BIn mPt kPt BPt 21
  have GDu := ok_due11 FDu T GPt mPt kPt BPt
  have GNp := ok_nop (P := l.prog) (w := w) (mg := mg) (base := base) FNp
  have GLe := ok_letD (P := l.prog) (w := w) (mg := mg) (base := base) FLe T
  have GCe := ok_chk FCe T gX g8.ic gKI hKI GNp mNp kNp BNp GLe mLe kLe BLe
  have mmax := PySem.W.mg_none_of X G zmax
  have msum := PySem.W.mg_none_of X G zsum
  have GXI := ok_xinit FXI T mmax msum M GCe mCe kCe BCe
  have GPr := ok_around (P := l.prog) (w := w) (mg := mg) (base := base) FPr T menum M gMk DM MKs
  have GPo := ok_pieces FPo T g8.ic kCS GPr mPr kPr BPr
  have GSt := ok_xstr FSt GPo mPo kPo BPo
  have GBu := ok_rbuild (P := l.prog) (w := w) (mg := mg) (base := base) FBu MR
  have GBg := ok_rbegin FBg MR GLe mLe kLe BLe GBu MBu BBu
  have GWh := ok_rwhole (P := l.prog) (w := w) (mg := mg) (base := base) FWh MR
  have GRI := ok_rinit (P := l.prog) (w := w) (mg := mg) (base := base) FRI MR
  have GGo := ok_rgoon FGo MR gNd DN gBb DB MD GBu MBu BBu
  have GTa := ok_rtake FTa MR GGo MGo BGo GBg MBg BBg
  have GSo := ok_steps FSo T MR TK TU gE menum gRR MKR BRI GRI GTa MTa BTa GWh MWh BWh
  have GRd := ok_read FRd T MKX BXI GXI GSo mSo kSo BSo
  have GTo := ok_told11 FTo T TK gE n0 mE0 gLE kL9 gX GRd RC CM BRd BKRd GSt gSt iSt BSt
  have GRt := ok_right11 FRt T mrepr GDu mDu kDu BDu GTo mTo kTo BTo
  have GBe := ok_bent11 FBe T GDr mDr kDr BDr GPl mPi kPi BPi
  exact ok_law11 FLw T GDk mDk kDk BDk GRt mRt kRt BRt fun cdv A outer s H0 Q E hgd hr k =>
    law_end2 T GDr mDr kDr BDr GTo mTo kTo BTo cdv A outer s H0 Q E hr (law_end3 T GDr mDr kDr BDr GTr mTr kTr BTr GLn mLn kLn BLn GBe mBe kBe BBe GRt mRt kRt BRt cdv A outer s H0 Q E hgd hr k)
end Vk
set_option Elab.async false
open PySem PySem.W PyProof.Rows
set_option maxRecDepth 100000 in
set_option maxHeartbeats 0 in
theorem PySem.Challenge.cw_loopsdeep_k11_texts_that_are_no_expressi_holds : PySem.Challenge.rw_loopsdeep_k11_texts_that_are_no_expressi.Holds := by
  w_on; o_law; k_head; (case hw => w_witness2)
  k_fill
  refine Vk.walkG (l := PySem.Challenge.rw_loopsdeep_k11_texts_that_are_no_expressi) (n := 63) (k := 46) (x := "_law_script") (CX := fun _ => L2.CX0) (sp := fun w => Vk.spLaw11 _) rfl (by decide) rfl ⟨rfl, by decide, by decide⟩ (fun w h Y => PySem.W.kIn_of Y) ?F (fun _ _ a ns hl _ hS => ⟨a, ns, rfl, hS, hl, fun _ => rfl⟩) (fun _ _ _ _ _ z => z)
  case F =>
    intro w mg fa h KX G hmg
    refine' Vk.all8_mk (odK := none) (slK := #[]) (odE := none) (slE := #[]) KX G hmg ?v_aX ?v_hallX ?v_aR ?v_hallR ?v_kCS ?v_aKI ?v_lKI ?v_aMK ?v_lMK ?v_ltM ?v_loM ?v_mkR ?v_mkC ?v_mkL ?v_mkS ?v_mkM ?v_aND ?v_lND ?v_ltN ?v_loN ?v_nd1 ?v_nd2 ?v_nd3 ?v_aBB ?v_lBB ?v_ltB ?v_loB ?v_bb1 ?v_bb2 ?v_bb3 ?v_aBT ?v_hE ?v_mE0 ?v_n0 ?v_i0 ?v_t0 ?v_x0 ?v_y0 ?v_aL ?v_kL9 ?v_gLe ?v_lLe ?v_wLe ?v_kLe ?v_gPo ?v_lPo ?v_wPo ?v_kPo ?v_gPr ?v_lPr ?v_wPr ?v_kPr ?v_gSo ?v_lSo ?v_wSo ?v_kSo ?v_gNp ?v_lNp ?v_wNp ?v_kNp ?v_gCe ?v_lCe ?v_wCe ?v_kCe ?v_gDk ?v_lDk ?v_wDk ?v_kDk ?v_gDr ?v_lDr ?v_wDr ?v_kDr ?v_gPi ?v_lPi ?v_wPi ?v_kPi ?v_gTr ?v_lTr ?v_wTr ?v_kTr ?v_gLn ?v_lLn ?v_wLn ?v_kLn ?v_gPt ?v_lPt ?v_wPt ?v_kPt ?v_gIn ?v_lIn ?v_wIn ?v_kIn ?v_gDu ?v_lDu ?v_wDu ?v_kDu ?v_gTo ?v_lTo ?v_wTo ?v_kTo ?v_gRt ?v_lRt ?v_wRt ?v_kRt ?v_gBe ?v_lBe ?v_wBe ?v_kBe ?v_gLw ?v_lLw ?v_wLw ?v_kLw ?v_gSt ?v_iSt ?v_lSt ?v_wSt ?v_kSt ?v_gRI ?v_iRI ?v_lRI ?v_wRI ?v_kRI ?v_gWh ?v_iWh ?v_lWh ?v_wWh ?v_kWh ?v_gTa ?v_iTa ?v_lTa ?v_wTa ?v_kTa ?v_gBg ?v_iBg ?v_lBg ?v_wBg ?v_kBg ?v_gBu ?v_iBu ?v_lBu ?v_wBu ?v_kBu ?v_gGo ?v_iGo ?v_lGo ?v_wGo ?v_kGo ?v_gXI ?v_iXI ?v_lXI ?v_wXI ?v_kXI ?v_lDf ?v_lEm ?v_gRd ?v_rRd ?v_lRd ?v_wRd ?v_kRd ?v_nRd ?v_tRd ?v_dRd ?v_sRd ?v_zisi ?v_zint ?v_zbool ?v_zstr ?v_ztup ?v_zlen ?v_zlst ?v_zsrt ?v_zset ?v_zrng ?v_zrepr ?v_zenum ?v_zmax ?v_zsum
    (case v_aX => k_is)
    (case v_hallX => kernel_rfl)
    (case v_aR => k_is)
    (case v_hallR => kernel_rfl)
    (case v_kCS => kernel_rfl)
    (case v_aKI => k_is)
    (case v_lKI => k_is)
    (case v_aMK => k_is)
    (case v_lMK => k_is)
    (case v_ltM => exact ⟨⟨_, _, rfl, rfl⟩, ⟨_, _, rfl, rfl⟩, ⟨_, _, rfl, rfl⟩, trivial⟩)
    (case v_loM => rfl)
    (case v_mkR => k_is)
    (case v_mkC => k_is)
    (case v_mkL => k_is)
    (case v_mkS => k_is)
    (case v_mkM => k_is)
    (case v_aND => k_is)
    (case v_lND => k_is)
    (case v_ltN => exact ⟨⟨_, _, rfl, rfl⟩, ⟨_, _, rfl, rfl⟩, ⟨_, _, rfl, rfl⟩, trivial⟩)
    (case v_loN => rfl)
    (case v_nd1 => k_is)
    (case v_nd2 => k_is)
    (case v_nd3 => k_is)
    (case v_aBB => k_is)
    (case v_lBB => k_is)
    (case v_ltB => exact ⟨⟨_, _, rfl, rfl⟩, ⟨_, _, rfl, rfl⟩, ⟨_, _, rfl, rfl⟩, trivial⟩)
    (case v_loB => rfl)
    (case v_bb1 => k_is)
    (case v_bb2 => k_is)
    (case v_bb3 => k_is)
    (case v_aBT => k_is)
    (case v_hE => kernel_rfl)
    (case v_mE0 => kernel_rfl)
    (case v_n0 => k_is)
    (case v_i0 => k_is)
    (case v_t0 => k_is)
    (case v_x0 => k_is)
    (case v_y0 => k_is)
    (case v_aL => k_is)
    (case v_kL9 => kernel_rfl)
    (case v_gLe => k_is)
    (case v_lLe => k_is)
    (case v_wLe => k_is)
    (case v_kLe => k_is)
    (case v_gPo => k_is)
    (case v_lPo => k_is)
    (case v_wPo => k_is)
    (case v_kPo => k_is)
    (case v_gPr => k_is)
    (case v_lPr => k_is)
    (case v_wPr => k_is)
    (case v_kPr => k_is)
    (case v_gSo => k_is)
    (case v_lSo => k_is)
    (case v_wSo => k_is)
    (case v_kSo => k_is)
    (case v_gNp => k_is)
    (case v_lNp => k_is)
    (case v_wNp => k_is)
    (case v_kNp => k_is)
    (case v_gCe => k_is)
    (case v_lCe => k_is)
    (case v_wCe => k_is)
    (case v_kCe => k_is)
    (case v_gDk => k_is)
    (case v_lDk => k_is)
    (case v_wDk => k_is)
    (case v_kDk => k_is)
    (case v_gDr => k_is)
    (case v_lDr => k_is)
    (case v_wDr => k_is)
    (case v_kDr => k_is)
    (case v_gPi => k_is)
    (case v_lPi => k_is)
    (case v_wPi => k_is)
    (case v_kPi => k_is)
    (case v_gTr => k_is)
    (case v_lTr => k_is)
    (case v_wTr => k_is)
    (case v_kTr => k_is)
    (case v_gLn => k_is)
    (case v_lLn => k_is)
    (case v_wLn => k_is)
    (case v_kLn => k_is)
    (case v_gPt => k_is)
    (case v_lPt => k_is)
    (case v_wPt => k_is)
    (case v_kPt => k_is)
    (case v_gIn => k_is)
    (case v_lIn => k_is)
    (case v_wIn => k_is)
    (case v_kIn => k_is)
    (case v_gDu => k_is)
    (case v_lDu => k_is)
    (case v_wDu => k_is)
    (case v_kDu => k_is)
    (case v_gTo => k_is)
    (case v_lTo => k_is)
    (case v_wTo => k_is)
    (case v_kTo => k_is)
    (case v_gRt => k_is)
    (case v_lRt => k_is)
    (case v_wRt => k_is)
    (case v_kRt => k_is)
    (case v_gBe => k_is)
    (case v_lBe => k_is)
    (case v_wBe => k_is)
    (case v_kBe => k_is)
    (case v_gLw => k_is)
    (case v_lLw => k_is)
    (case v_wLw => k_is)
    (case v_kLw => k_is)
    (case v_gSt => k_is)
    (case v_iSt => k_is)
    (case v_lSt => k_is)
    (case v_wSt => k_is)
    (case v_kSt => k_is)
    (case v_gRI => k_is)
    (case v_iRI => k_is)
    (case v_lRI => k_is)
    (case v_wRI => k_is)
    (case v_kRI => k_is)
    (case v_gWh => k_is)
    (case v_iWh => k_is)
    (case v_lWh => k_is)
    (case v_wWh => k_is)
    (case v_kWh => k_is)
    (case v_gTa => k_is)
    (case v_iTa => k_is)
    (case v_lTa => k_is)
    (case v_wTa => k_is)
    (case v_kTa => k_is)
    (case v_gBg => k_is)
    (case v_iBg => k_is)
    (case v_lBg => k_is)
    (case v_wBg => k_is)
    (case v_kBg => k_is)
    (case v_gBu => k_is)
    (case v_iBu => k_is)
    (case v_lBu => k_is)
    (case v_wBu => k_is)
    (case v_kBu => k_is)
    (case v_gGo => k_is)
    (case v_iGo => k_is)
    (case v_lGo => k_is)
    (case v_wGo => k_is)
    (case v_kGo => k_is)
    (case v_gXI => k_is)
    (case v_iXI => k_is)
    (case v_lXI => k_is)
    (case v_wXI => k_is)
    (case v_kXI => k_is)
    (case v_lDf => k_is)
    (case v_lEm => k_is)
    (case v_gRd => k_is)
    (case v_rRd => k_is)
    (case v_lRd => k_is)
    (case v_wRd => k_is)
    (case v_kRd => k_is)
    (case v_nRd => k_is)
    (case v_tRd => kernel_rfl)
    (case v_dRd => kernel_rfl)
    (case v_sRd => k_is)
    (case v_zisi => k_is)
    (case v_zint => k_is)
    (case v_zbool => k_is)
    (case v_zstr => k_is)
    (case v_ztup => k_is)
    (case v_zlen => k_is)
    (case v_zlst => k_is)
    (case v_zsrt => k_is)
    (case v_zset => k_is)
    (case v_zrng => k_is)
    (case v_zrepr => k_is)
    (case v_zenum => k_is)
    (case v_zmax => k_is)
    (case v_zsum => k_is)
#print axioms PySem.Challenge.cw_loopsdeep_k11_texts_that_are_no_expressi_holds
